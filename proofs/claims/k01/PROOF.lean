import PyProof.Rows.All
import Wide.All
import OpenK.AllK
import Wide.FinOn
import HandS.ForExc
import HandS.Wide
import HandS.TryMany
import HandS.HotCalls
import HandS.Comp
import HandS.Codes
import HandS.Text
import HandS.Steps
import HandS.Iter
import HandS.IsInst
import HandS.Deep
import HandS.ListEq
import HandS.Rev
import HandS.Defaults
import HandS.TupAny
import HandS.OwnEq
import HandS.Style
import KE.GoesEnum
import HandS.Star
import HandS.MakeKwOnly
import PyProof.InstNe
import PySem.Challenge.RW_carriedfields_k01_methods_made
set_option Elab.async false
set_option linter.all false
set_option maxRecDepth 100000
set_option maxHeartbeats 4000000
namespace My
open PySem L2
def top (i : Nat) : Stmt := PySem.Challenge.pw_carriedfields_k01_methods_made.main.body.getD i (.Pass ⟨0, 0, 0, 0⟩)
abbrev sIsInt : Stmt := top 11
abbrev sIsLevel : Stmt := top 12
abbrev sIsSpelled : Stmt := top 13
abbrev sIsWord : Stmt := top 14
abbrev sIsConst : Stmt := top 15
abbrev sUseC : Stmt := top 22
abbrev sUseF : Stmt := top 23
abbrev sIsExpr : Stmt := top 24
abbrev sIsTest : Stmt := top 25
abbrev sIsIf : Stmt := top 26
abbrev sIsSuper : Stmt := top 27
abbrev sIsRow : Stmt := top 28
abbrev sFirstWrong : Stmt := top 29
abbrev sCheckRows : Stmt := top 30
abbrev sIsRole : Stmt := top 33
abbrev sMethod : Stmt := top 34
abbrev sBag : Stmt := top 36
abbrev sTake : Stmt := top 37
abbrev sOf : Stmt := top 38
abbrev sPick : Stmt := top 39
abbrev sLetters : Stmt := top 40
abbrev sReserved : Stmt := top 41
abbrev sWords : Stmt := top 42
abbrev sExpr : Stmt := top 43
abbrev sFree : Stmt := top 44
abbrev sBody : Stmt := top 45
abbrev sMade : Stmt := top 46
abbrev sParts : Stmt := top 47
abbrev sDraw : Stmt := top 48
abbrev sRight : Stmt := top 49
abbrev sLaw : Stmt := top 50
abbrev sInit : Stmt := inClass sMethod 0
abbrev sEq : Stmt := inClass sMethod 1
end My
namespace My
open PySem L2
/-- the greatest second part of a bag, and one more -/
def bagLim : Int := 11529215046069000000
/-- the list of a bag from which n numbers were drawn at most -/
def BagL (n : Nat) (xs : List V) : Prop := ∃ d m c : Int, xs = [.int d, .int m, .int c] ∧ 0 ≤ d ∧ 0 ≤ m ∧ m < 11529215046069900000 ∧ 0 ≤ c ∧ c ≤ n
def spTake : Sp := fun vs H Q _ => ∃ (b : Addr) (many : Int) (n : Nat) (xs : List V), vs = [.ref b, .int many] ∧ H b = some (.lst xs) ∧ BagL n xs ∧ n < 1000000 ∧ 0 < many ∧ many < 2 ^ 4000 ∧
  ∀ (r : Int) (ys : List V), 0 ≤ r → r < many → BagL (n + 1) ys → Q (.int r) (upd H b (.lst ys))
structure TB (mg : Str → Option Value) : Prop where
  int : mg "int" = none
  len : mg "len" = none
  abs : mg "abs" = none
/-- a def of the module under its name, and its promise -/
structure Cl (P : Program) (w : World) (K : PySem.W.Frag) (mg : Str → Option Value) (base : Heap) (CX : CXT) (k : Nat) (x : Str) (sp : Sp) : Prop where
  ex : ∃ (f : Addr) (fd : FuncData) (ps : List Str), FnOk P w K mg base CX k f fd ps sp ∧ mg x = some (.ref f) ∧ PySem.W.keepIn K (.ref f) = true ∧ Binds K fd ps []
/-- what the top has written of a def -/
structure DefAt (K : PySem.W.Frag) (mg : Str → Option Value) (x : Str) (st : Stmt) (ps : List Str) : Prop where
  ex : ∃ (f : Addr) (fd : FuncData), Fun K x x st f fd ∧ mg x = some (.ref f) ∧ Binds K fd ps []
section
variable {X : Cx} {CX : CXT} {k j : Nat} {x : Str} {sp : Sp} {p pos : Pos} {e : Expr} {es : List Expr} {t : TA} {E : XK}
theorem pe_cl (c : Cl X.prog X.w X.K X.mg X.base CX k x sp) (hr : Room j X.A) (hx : Passes CX X E) (ha : PA X (e :: es) t) (hk : k ≤ j := by decide) (hg : Gl X x := by rfl)
    (hdb : (x == ("__debug__" : Str)) = false := by decide) (he : starEach (e :: es) X.env = (false, eval e X.env) :: starEach es X.env := by rfl) (hpl : (backTo pos (starEach es X.env)).any (·.1) = false := by rfl) :
    PE X (.Call (.Name x p) (e :: es) [] pos) (tCall sp [] E t) := by
  obtain ⟨f, fd, ps, F, hm, kp, b⟩ := c.ex
  exact pe_call F (hr.mono hk) hg hm kp b .nil hx ha hdb he hpl
end
/-- a sequence to be read, also behind a store to b -/
def SeqB (K : PySem.W.Frag) (H : Hp) (b l : Addr) (ys : List V) : Prop := (SqL K H l ys ∨ SqT K H l ys) ∧ ∀ zs, SqL K (upd H b (.lst zs)) l ys ∨ SqT K (upd H b (.lst zs)) l ys
def spOf (K : PySem.W.Frag) : Sp := fun vs H Q _ => ∃ (b l : Addr) (n : Nat) (xs ys : List V), vs = [.ref b, .ref l] ∧ H b = some (.lst xs) ∧ BagL n xs ∧ n < 1000000 ∧ SeqB K H b l ys ∧ 0 < ys.length ∧ ys.length < 1000000 ∧
  ∀ (i : Nat) (v : V) (zs : List V), ys[i]? = some v → BagL (n + 1) zs → Q v (upd H b (.lst zs))
section
variable {P : Program} {w : World} {K : PySem.W.Frag} {mg : Str → Option Value} {base : Heap}
theorem scTake : FnScope ["bag", "many", "digit", "mixed"] ["bag", "many"] (defScope sTake) := ⟨rfl, rfl, rfl, by decide +kernel, rfl, by decide +kernel, by decide +kernel⟩
theorem ok_take {f : Addr} {fd : FuncData} (F : Fun K "_law_take" "_law_take" sTake f fd) (T : TB mg) : FnOk P w K mg base CX0 1 f fd ["bag", "many"] spTake := by
  refine F.ok scTake (fun vs H Q E h => ?_) (fun cdv A outer s H vs Q E hr h => ?_)
  · obtain ⟨b, many, n, xs, rfl, _⟩ := h
    rfl
  · obtain ⟨b, many, n, xs, rfl, hb, ⟨d, m, c, rfl, hd, hm0, hm, hc0, hc⟩, hn, hm1, hm2, k⟩ := h
    have nd := scTake.nd
    refine ⟨_, pss_cons (ps_if (pt_cmpR op_gt (pe_ix ix_list (pv 0) pe_int (fun _ _ => rfl)) pe_int (nomark _))
        (pss_cons (ps_set (i := 2) nd rfl (.inl rfl) (pe_op op_mod (pe_callTy call_int1 (by rfl) T.int (by decide +kernel) (pa_cons (pe_ix ix_list (pv 0) pe_int (fun _ _ => rfl)) pa_nil)) (pv 1)))
        (pss_cons (ps_asg (pe_op op_fdivW (pe_ix ix_list (pv 0) pe_int (fun _ _ => rfl)) (pv 1)) (pg_sub (pv 0) pe_int set_list) rfl)
        (pss_one (ps_ret (pv 2))))) pss_nil)
      (pss_cons (ps_asg (pe_op op_add (pe_ix ix_list (pv 0) pe_int (fun _ _ => rfl)) pe_int) (pg_sub (pv 0) pe_int set_list) rfl)
      (pss_cons (ps_set (i := 3) nd rfl (.inl rfl) (pe_op op_mod (pe_callTy call_int1 (by rfl) T.int (by decide +kernel) (pa_cons (pe_op op_pow (pe_op op_add (pe_ix ix_list (pv 0) pe_int (fun _ _ => rfl)) (pe_op op_mul pe_int (pe_ix ix_list (pv 0) pe_int (fun _ _ => rfl)))) pe_int) pa_nil)) pe_int))
      (pss_cons (ps_set (i := 3) nd rfl (.inl rfl) (pe_op op_mod (pe_callTy call_int1 (by rfl) T.int (by decide +kernel) (pa_cons (pe_op op_pow (pe_op op_add (pv 3) (pe_op op_mul pe_int (pe_ix ix_list (pv 0) pe_int (fun _ _ => rfl)))) pe_int) pa_nil)) pe_int))
      (pss_one (ps_ret (pe_op op_mod (pe_callTy call_int1 (by rfl) T.int (by decide +kernel) (pa_cons (pe_op op_fdiv (pv 3) pe_int) pa_nil)) (pv 1))))))), ?_⟩
    refine ⟨_, rfl, b, _, 0, _, rfl, rfl, SqL.of hb, rfl, _, _, rfl, rfl, _, rfl, ite2 (fun h => ?_) (fun h => ?_)⟩
    · have hd0 : 0 < d := by simpa using h
      refine ⟨_, rfl, b, _, 0, _, rfl, rfl, SqL.of hb, rfl, .inl ⟨_, rfl, _, rfl, _, _, rfl, rfl, hm1, ?_⟩⟩
      refine ⟨_, rfl, b, _, 0, _, rfl, rfl, SqL.of hb, rfl, _, rfl, _, _, rfl, rfl, wide_div (b := 4000) hm1 (by omega) (by decide) (by decide), ?_⟩
      refine ⟨_, rfl, b, _, 0, 0, rfl, rfl, hb, rfl, ?_⟩
      refine ⟨_, rfl, k _ _ (Int.emod_nonneg _ (by omega)) (Int.emod_lt_of_pos _ hm1) ⟨_, _, _, rfl, Int.ediv_nonneg hd (by omega), hm0, hm, hc0, by omega⟩⟩
    · refine ⟨_, rfl, b, _, 2, _, rfl, rfl, SqL.of hb, rfl, _, _, rfl, rfl, _, rfl, b, _, 2, 2, rfl, rfl, hb, rfl, ?_⟩
      have hb1 : (upd H b (.lst ([V.int d, .int m, .int c].set 2 (.int (c + 1))))) b = some (.lst [V.int d, .int m, .int (c + 1)]) := upd_same
      refine ⟨_, rfl, b, _, 1, _, rfl, rfl, SqL.of hb1, rfl, _, rfl, b, _, 2, _, rfl, rfl, SqL.of hb1, rfl, _, _, rfl, rfl, .inl (by omega), _, _, rfl, rfl, _, _, rfl, rfl, ⟨by decide, by decide, by omega⟩, .inl ⟨_, rfl, _, _, rfl, rfl, (by show (0 : Int) < 2305843009213693921; decide), ?_⟩⟩
      have h1 : 0 ≤ (m + 1000033 * (c + 1)) ^ Int.toNat 3 % 2305843009213693921 := Int.emod_nonneg _ (by decide)
      have h2 : (m + 1000033 * (c + 1)) ^ Int.toNat 3 % 2305843009213693921 < 2305843009213693921 := Int.emod_lt_of_pos _ (by decide)
      generalize (m + 1000033 * (c + 1)) ^ Int.toNat 3 % 2305843009213693921 = z at h1 h2 ⊢
      refine ⟨_, rfl, _, rfl, b, _, 2, _, rfl, rfl, SqL.of hb1, rfl, _, _, rfl, rfl, .inl (by omega), _, _, rfl, rfl, _, _, rfl, rfl, ⟨by decide, by decide, by omega⟩, .inl ⟨_, rfl, _, _, rfl, rfl, (by show (0 : Int) < 2305843009213693951; decide), ?_⟩⟩
      refine ⟨_, rfl, _, _, rfl, rfl, ⟨by decide, by decide⟩, .inl ⟨_, rfl, _, rfl, _, _, rfl, rfl, hm1, ?_⟩⟩
      exact k _ _ (Int.emod_nonneg _ (by omega)) (Int.emod_lt_of_pos _ hm1) ⟨_, _, _, rfl, hd, hm0, hm, by omega, by omega⟩
theorem cl_take (D : DefAt K mg "_law_take" sTake ["bag", "many"]) (T : TB mg) : Cl P w K mg base CX0 1 "_law_take" spTake := by
  obtain ⟨f, fd, F, g, b⟩ := D.ex
  exact ⟨f, fd, _, ok_take F T, g, F.kp, b⟩
theorem scOf : FnScope ["bag", "some"] ["bag", "some"] (defScope sOf) := ⟨rfl, rfl, rfl, by decide +kernel, rfl, by decide +kernel, by decide +kernel⟩
theorem at_nat {α : Type} {xs : List α} {i : Int} (h0 : 0 ≤ i) (h : i < xs.length) : ∃ v, atI xs i = some v ∧ xs[i.toNat]? = some v := by
  obtain ⟨n, rfl⟩ := Int.eq_ofNat_of_zero_le h0
  have hn : n < xs.length := by omega
  have e : xs[n]? = some xs[n] := List.getElem?_eq_getElem hn
  exact ⟨xs[n], atI_nat e, e⟩
theorem cl_of (D : DefAt K mg "_law_of" sOf ["bag", "some"]) (T : TB mg) (c : Cl P w K mg base CX0 1 "_law_take" spTake) : Cl P w K mg base CX0 2 "_law_of" (spOf K) := by
  obtain ⟨f, fd, F, g, b⟩ := D.ex
  refine ⟨f, fd, _, F.ok scOf (fun vs H Q E h => ?_) (fun cdv A outer s H vs Q E hr h => ?_), g, F.kp, b⟩
  · obtain ⟨b, l, n, xs, ys, rfl, _⟩ := h
    rfl
  · obtain ⟨b, l, n, xs, ys, rfl, hb, hB, hn, hS, h0, h1, k⟩ := h
    refine ⟨_, pss_one (ps_ret (pe_ix ix_seq (pv 1) (pe_cl c hr pass0 (pa_cons (pv 0) (pa_cons (pe_callB call_len_seq (by rfl) T.len PySem.boot_len (pa_cons (pv 1) pa_nil)) pa_nil))) (fun _ _ => rfl))), ?_⟩
    refine ⟨_, rfl, _, rfl, _, rfl, l, ys, rfl, hS.1, b, _, n, xs, rfl, hb, hB, hn, by omega, ?_, fun r zs h2 h3 hZ => ?_⟩
    · exact Int.lt_of_lt_of_le (show (ys.length : Int) < 1000000 by omega) (by decide +kernel)
    · obtain ⟨v, e1, e2⟩ := at_nat h2 h3
      rcases hS.2 zs with q | q
      · exact .inl ⟨l, ys, r, v, rfl, rfl, q, e1, k _ _ _ e2 hZ⟩
      · exact .inr (.inl ⟨l, ys, r, v, rfl, rfl, q, e1, k _ _ _ e2 hZ⟩)
end
end My
namespace My
open PySem PySem.Spec PyProof.Rows L2
theorem same_new {H : Hp} {a : Addr} {o : HO} (h : H a = none) : Same H (upd H a o) := fun b u e => by
  rw [upd_ne (ne_of_none e h)]
  exact e
section
variable {X : Cx} {CX : CXT} {k j : Nat} {x : Str} {sp : Sp} {p pos : Pos} {E : XK}
theorem pe_cl0 (c : Cl X.prog X.w X.K X.mg X.base CX k x sp) (hr : Room j X.A) (hx : Passes CX X E) (hk : k ≤ j := by decide) (hg : Gl X x := by rfl)
    (hdb : (x == ("__debug__" : Str)) = false := by decide) :
    PE X (.Call (.Name x p) [] [] pos) (tCall sp [] E tNil) := by
  obtain ⟨f, fd, ps, F, hm, kp, b⟩ := c.ex
  exact pe_call0 F (hr.mono hk) hg hm kp b .nil hx hdb
end
def abc : Str := "abcdefghijklmnopqrstuvwxyz"
def resW : List Str := ["alone", "carry", "class", "cls", "def", "else", "enter", "if", "is", "keep", "leave", "made", "marks", "none", "not", "refuse", "return", "save", "self", "super", "thing"]
def spLetters : Sp := fun vs H Q _ => vs = [] ∧ Q (.str abc) H
def spReserved : Sp := fun vs H Q _ => vs = [] ∧ ∀ p H', H p = none → Same H H' → H' p = some (.lst (resW.map V.str)) → Q (.ref p) H'
section
variable {P : Program} {w : World} {K : PySem.W.Frag} {mg : Str → Option Value} {base : Heap}
theorem scLetters : FnScope [] [] (defScope sLetters) := ⟨rfl, rfl, rfl, by decide +kernel, rfl, by decide +kernel, by decide +kernel⟩
theorem cl_letters (D : DefAt K mg "_law_letters" sLetters []) : Cl P w K mg base CX0 1 "_law_letters" spLetters := by
  obtain ⟨f, fd, F, g, bd⟩ := D.ex
  refine ⟨f, fd, _, F.ok scLetters (fun vs H Q E h => ?_) (fun cdv A outer s H vs Q E hr h => ?_), g, F.kp, bd⟩
  · rw [h.1]
    rfl
  · obtain ⟨rfl, fin⟩ := h
    exact ⟨_, pss_one (ps_ret pe_str), fin⟩
theorem scReserved : FnScope ["words"] [] (defScope sReserved) := ⟨rfl, rfl, rfl, by decide +kernel, rfl, by decide +kernel, by decide +kernel⟩
theorem split_res : (Txt.split "alone carry class cls def else enter if is keep leave made marks none not refuse" " ").map V.str ++ [.str "return", .str "save", .str "self", .str "super", .str "thing"] = resW.map V.str := by
  have h : Txt.split "alone carry class cls def else enter if is keep leave made marks none not refuse" " " = (["alone", "carry", "class", "cls", "def", "else", "enter", "if", "is", "keep", "leave", "made", "marks", "none", "not", "refuse"] : List Str) := by decide +kernel
  rw [h]
  rfl
theorem cl_reserved (D : DefAt K mg "_law_reserved" sReserved []) : Cl P w K mg base CX0 1 "_law_reserved" spReserved := by
  obtain ⟨f, fd, F, g, bd⟩ := D.ex
  refine ⟨f, fd, _, F.ok scReserved (fun vs H Q E h => ?_) (fun cdv A outer s H vs Q E hr h => ?_), g, F.kp, bd⟩
  · rw [h.1]
    rfl
  · obtain ⟨rfl, fin⟩ := h
    have nd := scReserved.nd
    refine ⟨_, pss_cons (ps_set (i := 0) nd rfl (.inl rfl) pe_str) (pss_one (ps_ret (pe_op op_cat (pe_split (pv 0) pe_str) (pe_lst (pa_cons pe_str (pa_cons pe_str (pa_cons pe_str (pa_cons pe_str (pa_cons pe_str pa_nil))))))))), ?_⟩
    refine ⟨_, rfl, ⟨_, rfl⟩, _, _, rfl, rfl, by decide, by decide +kernel, fun p np => ⟨by show 5 ≤ sizeLine; decide, fun q nq => ⟨p, q, _, _, rfl, rfl, same_new nq _ _ upd_same, upd_same, ?_, fun r nr => ?_⟩⟩⟩
    · decide +kernel
    · rw [split_res]
      have s1 := same_new (o := .lst ((Txt.split "alone carry class cls def else enter if is keep leave made marks none not refuse" " ").map V.str)) np
      have s2 := same_new (o := .lst [.str "return", .str "save", .str "self", .str "super", .str "thing"]) nq
      exact fin r _ (s1.free (s2.free nr)) (s1.trans (s2.trans (same_new nr))) upd_same
end
end My

namespace My
open PySem PySem.Spec PyProof.Rows L2
/-- lower letters alone -/
def lowB (w : Str) : Bool := w.cps.toList.all fun c => decide (97 ≤ c) && decide (c ≤ 122)
/-- a word -/
def wordB (w : Str) : Bool := decide (1 ≤ w.length) && decide (w.length ≤ 8) && lowB w && decide (w ∉ resW)
def ch (c : Nat) : Str := ⟨#[c]⟩
def more (w : Str) (k : Nat) : Str := (w ++ ch (97 + k / 26)) ++ ch (97 + k % 26)
def triesOf (w : Str) : List Str := w :: (List.range 104).map (more w)
theorem str_app (a b : Str) : (a ++ b).cps = a.cps ++ b.cps := rfl
theorem str_ext {a b : Str} (h : a.cps.toList = b.cps.toList) : a = b := by
  cases a
  cases b
  congr 1
  exact Array.toList_inj.mp h
theorem more_list (w : Str) (k : Nat) : (more w k).cps.toList = w.cps.toList ++ [97 + k / 26, 97 + k % 26] := by
  unfold more
  rw [str_app, str_app, Array.toList_append, Array.toList_append, List.append_assoc]
  rfl
theorem more_len (w : Str) (k : Nat) : (more w k).length = w.length + 2 := by
  have h : (more w k).cps.toList.length = w.cps.toList.length + 2 := by
    rw [more_list, List.length_append]
    rfl
  exact h
theorem more_inj {w : Str} {j k : Nat} (h : more w j = more w k) : j = k := by
  have e := congrArg (fun x => x.cps.toList) h
  simp only [more_list] at e
  have e2 := List.append_cancel_left e
  simp only [List.cons.injEq, and_true] at e2
  omega
theorem tries_nodup (w : Str) : (triesOf w).Nodup := by
  unfold triesOf
  refine List.nodup_cons.mpr ⟨fun h => ?_, List.pairwise_map.mpr (List.Pairwise.imp (fun h e => h (more_inj e)) List.nodup_range)⟩
  obtain ⟨k, _, e⟩ := List.mem_map.mp h
  have l := more_len w k
  rw [e] at l
  omega
theorem nodup_le {α : Type} [DecidableEq α] : ∀ {l m : List α}, l.Nodup → (∀ x ∈ l, x ∈ m) → l.length ≤ m.length
  | [], _, _, _ => Nat.zero_le _
  | x :: l, m, h, k => by
    have h1 := List.nodup_cons.mp h
    have hx := k x List.mem_cons_self
    have ih := nodup_le (l := l) (m := m.erase x) h1.2 fun y hy => (List.mem_erase_of_ne (fun (e : y = x) => h1.1 (by rw [← e]; exact hy))).mpr (k y (List.mem_cons_of_mem _ hy))
    rw [List.length_erase_of_mem hx] at ih
    have := List.length_pos_of_mem hx
    show l.length + 1 ≤ m.length
    omega
/-- which of the tries are free -/
def isFree (ws : List Str) (x : Str) : Bool := decide (x ∉ ws) && decide (x ∉ resW)
theorem free_ne {ws : List Str} (hl : ws.length ≤ 20) (w : Str) : (triesOf w).filter (isFree ws) ≠ [] := by
  intro h
  have hall := List.filter_eq_nil_iff.mp h
  have k := nodup_le (m := ws ++ resW) (tries_nodup w) fun x hx => by
    have h1 := hall x hx
    unfold isFree at h1
    by_cases h2 : x ∈ ws
    · exact List.mem_append_left _ h2
    · by_cases h3 : x ∈ resW
      · exact List.mem_append_right _ h3
      · simp [h2, h3] at h1
  rw [List.length_append] at k
  have h1 : (triesOf w).length = 105 := by
    unfold triesOf
    rw [List.length_cons, List.length_map, List.length_range]
  have h2 : resW.length = 21 := rfl
  omega
theorem low_more {w : Str} (h : lowB w = true) {k : Nat} (hk : k < 104) : lowB (more w k) = true := by
  unfold lowB at h ⊢
  rw [more_list, List.all_append, h]
  simp
  omega
theorem free_word {ws : List Str} {w x : Str} (h : lowB w = true) (h1 : 1 ≤ w.length) (h6 : w.length ≤ 6) (hx : x ∈ (triesOf w).filter (isFree ws)) : wordB x = true ∧ x ∉ ws := by
  obtain ⟨hm, hf⟩ := List.mem_filter.mp hx
  unfold isFree at hf
  simp only [Bool.and_eq_true, decide_eq_true_eq] at hf
  have hb : lowB x = true ∧ 1 ≤ x.length ∧ x.length ≤ 8 := by
    rcases List.mem_cons.mp hm with rfl | hm
    · exact ⟨h, h1, by omega⟩
    · obtain ⟨k, hk, rfl⟩ := List.mem_map.mp hm
      have hk := List.mem_range.mp hk
      rw [more_len]
      exact ⟨low_more h hk, by omega, by omega⟩
  unfold wordB
  simp only [Bool.and_eq_true, decide_eq_true_eq]
  exact ⟨⟨⟨⟨hb.2.1, hb.2.2⟩, hb.1⟩, hf.2⟩, hf.1⟩
theorem abc_at : ∀ i : _root_.Fin 26, atI abc.cps.toList ((i.val : Nat) : Int) = some (97 + i.val) := by decide +kernel
theorem in_strs (x : Str) : ∀ ws : List Str, inV (.str x) (ws.map V.str) = decide (x ∈ ws)
  | [] => rfl
  | y :: ws => by
    have ih := in_strs x ws
    unfold inV at ih ⊢
    rw [List.map_cons, List.any_cons, ih]
    show ((y == x) || _) = _
    by_cases h : x = y
    · subst h
      simp
    · have h' : (y == x) = false := by
        rw [beq_eq_false_iff_ne]
        exact fun e => h e.symm
      rw [h']
      simp [h]
theorem flat_strs (ws : List Str) : (ws.map V.str).all flatV = true := by
  rw [List.all_map]
  exact List.all_eq_true.mpr fun _ _ => rfl
end My

namespace My
open PySem PySem.Spec PyProof.Rows L2
/-- but for what stands at b, all is as it was -/
def But (b : Addr) (H H' : Hp) : Prop := ∀ c o, c ≠ b → H c = some o → H' c = some o
def spWords (K : PySem.W.Frag) : Sp := fun vs H Q _ => ∃ (b : Addr) (many : Nat) (n : Nat) (xs : List V), vs = [.ref b, .int many] ∧ many ≤ 20 ∧ H b = some (.lst xs) ∧ BagL n xs ∧ n < 900000 ∧
  ∀ F H' (ws : List Str) (zs : List V), H F = none → But b H H' → H' b = some (.lst zs) → BagL (n + 7 * many) zs → H' F = some (.lst (ws.map V.str)) → ws.length = many → ws.Nodup → (∀ w ∈ ws, wordB w = true) → Q (.ref F) H'
theorem ite_pos' {c : Prop} [Decidable c] {A B : Prop} (h : c) (a : A) : if c then A else B := by
  rw [if_pos h]
  exact a
theorem ite_neg' {c : Prop} [Decidable c] {A B : Prop} (h : ¬ c) (a : B) : if c then A else B := by
  rw [if_neg h]
  exact a
def tbS : TS := tAsg (tOp (fun x y H Q => ∃ i j, x = V.str i ∧ y = V.str j ∧ i.length + j.length ≤ sizeLine ∧ Q (V.str (i ++ j)) H) (tVar 5) (tOp rIxS (tVar 3) (tCall spTake [] E0 (tCons (tVar 0) (tCons (tC (V.int 26)) tNil))))) (gName 5)
theorem BagL.mono {n m : Nat} {xs : List V} (h : BagL n xs) (k : n ≤ m) : BagL m xs := by
  obtain ⟨d, e, c, rfl, h1, h2, h3, h4, h5⟩ := h
  exact ⟨d, e, c, rfl, h1, h2, h3, h4, by omega⟩
def tStem : TS := tFor (iRng1 (tCons (tOp (rI0 fun i j => V.int (i + j)) (tC (V.int 1)) (tCall spTake [] E0 (tCons (tVar 0) (tCons (tC (V.int 6)) tNil)))) tNil)) (gName 6)
  (tAsg (tOp (fun x y H Q => ∃ i j, x = V.str i ∧ y = V.str j ∧ i.length + j.length ≤ sizeLine ∧ Q (V.str (i ++ j)) H) (tVar 5) (tOp rIxS (tVar 3) (tCall spTake [] E0 (tCons (tVar 0) (tCons (tC (V.int 26)) tNil))))) (gName 5))
def tTries : TS := tAsg (tOp rCat (tLst (tCons (tVar 5) tNil)) (tLc (iRng1 (tCons (tC (V.int 104)) tNil)) (gName 6) tYes
  (tOp (fun x y H Q => ∃ i j, x = V.str i ∧ y = V.str j ∧ i.length + j.length ≤ sizeLine ∧ Q (V.str (i ++ j)) H)
    (tOp (fun x y H Q => ∃ i j, x = V.str i ∧ y = V.str j ∧ i.length + j.length ≤ sizeLine ∧ Q (V.str (i ++ j)) H) (tVar 5) (tOp rIxS (tVar 3) (tOp (rI CDiv fun i j => V.int (i / j)) (tVar 6) (tC (V.int 26)))))
    (tOp rIxS (tVar 3) (tOp (rI (fun x j => 0 < j) fun i j => V.int (i % j)) (tVar 6) (tC (V.int 26))))) [6])) (gName 7)
def tFree (K : PySem.W.Frag) : TS := tAsg (tLc (iList K (tVar 7)) (gName 9) (tAnd (tTest (tOp (rIn K true) (tVar 9) (tVar 2))) (tTest (tOp (rIn K true) (tVar 9) (tCall spReserved [] E0 tNil)))) (tVar 9) [9]) (gName 8)
def tPut (K : PySem.W.Frag) : TS := tDrop (tBM K "list" rAppend (tVar 2) (tCons (tOp (rIxL K) (tVar 8) (tC (V.int 0))) tNil))
theorem But.trans {b : Addr} {H H' H'' : Hp} (h : But b H H') (k : But b H' H'') : But b H H'' := fun c o n e => k c o n (h c o n e)
theorem But.of {b : Addr} {H H' : Hp} (h : Same H H') : But b H H' := fun c o _ e => h c o e
theorem str_len_app (a c : Str) : (a ++ c).length = a.length + c.length := Array.size_append
theorem low_app {a : Str} (h : lowB a = true) {c : Nat} (hc : c < 26) : lowB (a ++ ch (97 + c)) = true := by
  unfold lowB at h ⊢
  rw [str_app, Array.toList_append, List.all_append, h]
  show (true && (decide (97 ≤ 97 + c) && decide (97 + c ≤ 122) && true)) = true
  simp
  omega
theorem abc_ix {i : Int} (h0 : 0 ≤ i) (h1 : i < 26) : atI abc.cps.toList i = some (97 + i.toNat) := by
  have e := abc_at ⟨i.toNat, by omega⟩
  have e2 : ((i.toNat : Nat) : Int) = i := Int.toNat_of_nonneg h0
  simp only [e2] at e
  exact e
/-- the stem -/
theorem stem_ok {D : Ends} {b : Addr} {n : Nat} {xs : List V} {H : Hp} {many fo t : V} {k0 tr fr wo : Option V} (hb : H b = some (.lst xs)) (hB : BagL n xs) (hn : n < 990000)
    (fin : ∀ (w : Str) (v : Option V) (H' : Hp) (zs : List V), lowB w = true → 1 ≤ w.length → w.length ≤ 6 → But b H H' → H' b = some (.lst zs) → BagL (n + 7) zs →
      D.nx [some (.ref b), some many, some fo, some (.str abc), some t, some (.str w), v, tr, fr, wo] H') :
    tStem D [some (.ref b), some many, some fo, some (.str abc), some t, some (.str ""), k0, tr, fr, wo] H := by
  refine ⟨_, rfl, b, _, n, xs, rfl, hb, hB, by omega, by decide, by decide +kernel, fun r zs h0 h1 hZ => ?_⟩
  refine ⟨_, _, rfl, rfl, _, rfl, by omega, by omega, for_range (lo := 0) (n := (1 + r).toNat) (g := gName 6) (tb := tbS)
    (fun i σ H2 => ∃ (w : Str) (v : Option V) (ys : List V), σ = [some (.ref b), some many, some fo, some (.str abc), some t, some (.str w), v, tr, fr, wo] ∧ lowB w = true ∧ w.length = i ∧ But b H H2 ∧ H2 b = some (.lst ys) ∧ BagL (n + 1 + i) ys) ?_ (fun i σ H2 hi pv => ?_) (fun σ H2 pv => ?_)⟩
  · exact ⟨"", k0, zs, rfl, rfl, rfl, fun c o nb e => by rw [upd_ne nb]; exact e, upd_same, hZ⟩
  · obtain ⟨w, v, ys, rfl, hw, hl, bt, hb2, hB2⟩ := pv
    refine ⟨_, rfl, _, rfl, _, rfl, b, _, n + 1 + i, ys, rfl, hb2, hB2, by omega, by decide, by decide +kernel, fun q zs2 q0 q1 hZ2 => ?_⟩
    refine ⟨_, _, _, rfl, rfl, by decide, abc_ix q0 q1, w, ch (97 + q.toNat), rfl, rfl, ?_, ?_⟩
    · rw [hl, sizeLine_eq]
      show i + 1 ≤ 16777216
      omega
    · refine ⟨w ++ ch (97 + q.toNat), _, zs2, rfl, low_app hw (by omega), ?_, fun c o nb e => by rw [upd_ne nb]; exact bt c o nb e, upd_same, hZ2⟩
      rw [str_len_app, hl]
      rfl
  · obtain ⟨w, v, ys, rfl, hw, hl, bt, hb2, hB2⟩ := pv
    exact fin w v H2 ys hw (by omega) (by omega) bt hb2 (hB2.mono (by omega))
/-- the tries -/
theorem tries_ok {D : Ends} {H : Hp} {w : Str} {b many fo t : V} {k0 tr fr wo : Option V} (hl : w.length ≤ 6) (fin : ∀ T H' v, H T = none → Same H H' → H' T = some (.lst ((triesOf w).map V.str)) →
      D.nx [some b, some many, some fo, some (.str abc), some t, some (.str w), v, some (.ref T), fr, wo] H') :
    tTries D [some b, some many, some fo, some (.str abc), some t, some (.str w), k0, tr, fr, wo] H := by
  refine ⟨_, rfl, by show 1 ≤ sizeLine; decide, fun p np => ⟨_, rfl, by decide, by decide, fun L nL => lc_range (lo := 0) (n := 104) (fun i H2 => Same H H2 ∧ H2 p = some (.lst [.str w]) ∧ H2 L = some (.lst (((List.range i).map (more w)).map V.str))) ?_ (fun i H2 hi pv => ?_) (fun H2 pv => ?_)⟩⟩
  · exact ⟨(same_new np).trans (same_new nL), same_new nL _ _ upd_same, upd_same⟩
  · obtain ⟨sm, hp, hL⟩ := pv
    have nLp : L ≠ p := (ne_of_none upd_same nL).symm
    have hHL : H L = none := (same_new np).free nL
    have e1 : ((0 + ((i : Nat) : Int)) / 26).toNat = i / 26 := by omega
    have e2 : ((0 + ((i : Nat) : Int)) % 26).toNat = i % 26 := by omega
    refine ⟨rfl, _, rfl, _, rfl, _, rfl, _, _, rfl, rfl, ?_, _, _, _, rfl, rfl, by decide, abc_ix (by omega) (by omega), w, _, rfl, rfl, ?_, _, rfl, _, rfl, _, _, rfl, rfl, (by show (0 : Int) < 26; decide), _, _, _, rfl, rfl, by decide, abc_ix (by omega) (by omega), _, _, rfl, rfl, ?_, _, hL, ?_, ?_⟩
    · exact ⟨by decide, by decide⟩
    · rw [sizeLine_eq]
      show w.length + 1 ≤ 16777216
      omega
    · rw [str_len_app, sizeLine_eq]
      show w.length + 1 + 1 ≤ 16777216
      omega
    · rw [List.length_map, List.length_map, List.length_range, sizeLine_eq]
      omega
    · rw [e1, e2]
      refine ⟨fun c o e => ?_, ?_, ?_⟩
      · rw [upd_ne (ne_of_none e hHL)]
        exact sm _ _ e
      · rw [upd_ne nLp.symm]
        exact hp
      · rw [upd_same, List.range_succ, List.map_append, List.map_append]
        rfl
  · obtain ⟨sm, hp, hL⟩ := pv
    refine ⟨p, L, _, _, rfl, rfl, hp, hL, ?_, fun T nT => ?_⟩
    · rw [List.length_map, List.length_map, List.length_range, sizeLine_eq]
      exact (by decide : 1 + 104 ≤ 16777216)
    · exact fin T _ _ (sm.free nT) (sm.trans (same_new nT)) (by rw [upd_same]; rfl)
abbrev NW : List Str := ["bag", "many", "found", "letters", "turn", "stem", "k", "tries", "free", "word"]
def tTurnW (K : PySem.W.Frag) : TS := C8.tCut (tAsg (tC (V.str "")) (gName 5)) (C8.tCut tStem (C8.tCut tTries (C8.tCut (tFree K) (tPut K))))
/-- the free ones -/
theorem free_ok {K : PySem.W.Frag} {D : Ends} {H : Hp} {w : Str} {ws : List Str} {F T : Addr} {b many l t s5 : V} {k0 fr wo : Option V} (hF : H F = some (.lst (ws.map V.str))) (hT : H T = some (.lst ((triesOf w).map V.str)))
    (fin : ∀ R H', H R = none → Same H H' → H' R = some (.lst (((triesOf w).filter (isFree ws)).map V.str)) → D.nx [some b, some many, some (.ref F), some l, some t, some s5, k0, some (.ref T), some (.ref R), wo] H') :
    tFree K D [some b, some many, some (.ref F), some l, some t, some s5, k0, some (.ref T), fr, wo] H := by
  refine ⟨_, rfl, T, rfl, ⟨_, SqL.of hT⟩, fun R nR => lc_list (K := K) (a := T) (xs := (triesOf w).map V.str) (fun i H2 => Same H H2 ∧ H2 R = some (.lst ((((triesOf w).take i).filter (isFree ws)).map V.str))) ?_ (fun i H2 hi pv => SqL.of (pv.1 _ _ hT)) (fun i x H2 hx pv => ?_) (fun H2 pv => ?_)⟩
  · exact ⟨same_new nR, upd_same⟩
  · obtain ⟨sm, hR⟩ := pv
    rw [List.getElem?_map] at hx
    obtain ⟨y, hy, rfl⟩ := Option.map_eq_some_iff.mp hx
    have htake : (triesOf w).take (i + 1) = (triesOf w).take i ++ [y] := by
      rw [List.take_add_one, hy]
      rfl
    refine ⟨rfl, _, rfl, _, rfl, F, ws.map V.str, rfl, .inl (SqL.of (sm _ _ hF)), rfl, flat_strs ws, _, rfl, ?_⟩
    have hin : inV (V.str y) (ws.map V.str) = decide (y ∈ ws) := in_strs y ws
    by_cases h1 : y ∈ ws
    · refine ite_neg' ?_ (ite_neg' (by decide) ⟨sm, ?_⟩)
      · rw [if_pos rfl, hin]
        simp [h1]
      · rw [htake, List.filter_append, hR]
        have hf : isFree ws y = false := by
          unfold isFree
          simp [h1]
        simp [hf]
    · refine ite_pos' ?_ ?_
      · rw [if_pos rfl, hin]
        simp [h1]
      · refine ⟨_, rfl, rfl, fun p H3 np s3 hp => ⟨p, resW.map V.str, rfl, .inl (SqL.of hp), rfl, flat_strs resW, _, rfl, ?_⟩⟩
        have hin2 : inV (V.str y) (resW.map V.str) = decide (y ∈ resW) := in_strs y resW
        by_cases h2 : y ∈ resW
        · refine ite_neg' ?_ ⟨sm.trans s3, ?_⟩
          · rw [if_pos rfl, hin2]
            simp [h2]
          · rw [htake, List.filter_append]
            have hf : isFree ws y = false := by
              unfold isFree
              simp [h2]
            simp [hf]
            exact s3 _ _ hR
        · refine ite_pos' ?_ ?_
          · rw [if_pos rfl, hin2]
            simp [h2]
          · have hf : isFree ws y = true := by
              unfold isFree
              simp [h1, h2]
            refine ⟨_, rfl, _, s3 _ _ hR, ?_, fun c o e => ?_, ?_⟩
            · rw [List.length_map, sizeLine_eq]
              have l1 := List.length_filter_le (isFree ws) ((triesOf w).take i)
              have l2 := List.length_take_le i (triesOf w)
              have l3 : (triesOf w).length = 105 := by
                unfold triesOf
                rw [List.length_cons, List.length_map, List.length_range]
              have l4 : ((triesOf w).take i).length ≤ 105 := by rw [List.length_take]; omega
              omega
            · rw [upd_ne (ne_of_none e nR)]
              exact s3 _ _ (sm _ _ e)
            · rw [upd_same, htake, List.filter_append]
              simp [hf]
  · obtain ⟨sm, hR⟩ := pv
    rw [List.length_map, List.take_length] at hR
    exact fin R H2 nR sm hR
section
variable {P : Program} {w : World} {K : PySem.W.Frag} {mg : Str → Option Value} {base : Heap}
theorem scWords : FnScope NW ["bag", "many"] (defScope sWords) := ⟨rfl, rfl, rfl, by decide +kernel, rfl, by decide +kernel, by decide +kernel⟩
theorem cl_words (D : DefAt K mg "_law_names" sWords ["bag", "many"]) (hrng : mg "range" = none) (cT : Cl P w K mg base CX0 1 "_law_take" spTake) (cL : Cl P w K mg base CX0 1 "_law_letters" spLetters) (cR : Cl P w K mg base CX0 1 "_law_reserved" spReserved) : Cl P w K mg base CX0 2 "_law_names" (spWords K) := by
  obtain ⟨f, fd, F, g, bd⟩ := D.ex
  refine ⟨f, fd, _, F.ok scWords (fun vs H Q E h => ?_) (fun cdv A outer s H vs Q E hr h => ?_), g, F.kp, bd⟩
  · obtain ⟨b, many, n, xs, rfl, _⟩ := h
    rfl
  · obtain ⟨b, many, n, xs, rfl, hm, hb, hB, hn, fin⟩ := h
    have nd := scWords.nd
    refine ⟨_, C8.pss_cut (ps_asg (pe_tup (pa_cons (pe_lst pa_nil) (pa_cons (pe_cl0 cL hr pass0) pa_nil))) (pg_tup rfl (pgs_cons (pg_name (i := 2) nd rfl (.inr rfl)) (pgs_cons (pg_name (i := 3) nd rfl (.inr rfl)) pgs_nil))))
      (pss_cons (ps_for PassesOwn.never rfl (pi_range1 rfl hrng (pa_cons (pv 1) pa_nil)) (pg_name (i := 4) nd rfl (.inl rfl))
        (C8.pss_cut (ps_set (i := 5) nd rfl (.inr rfl) pe_str)
        (C8.pss_cut (ps_for PassesOwn.never rfl (pi_range1 rfl hrng (pa_cons (pe_op op_add pe_int (pe_cl cT hr pass0 (pa_cons (pv 0) (pa_cons pe_int pa_nil)))) pa_nil)) (pg_name (i := 6) nd rfl (.inl rfl))
          (pss_one (ps_set (i := 5) nd rfl (.inr rfl) (pe_op op_add_str (pv 5) (pe_ix ix_str (pv 3) (pe_cl cT hr pass0 (pa_cons (pv 0) (pa_cons pe_int pa_nil))) (fun _ _ => rfl))))))
        (C8.pss_cut (ps_set (i := 7) nd rfl (.inl rfl) (pe_op op_cat (pe_lst (pa_cons (pv 5) pa_nil)) (pe_lc (own := [("k", 6)]) (g := gName 6) (by rfl) nd (pi_range1 rfl hrng (pa_cons pe_int pa_nil)) (blkOk_by (N := NW) (sc := defScope sWords) (by decide +kernel)) (fun _ _ _ _ _ => pg_name (i := 6) nd rfl (.inl rfl)) (fun _ _ _ _ _ => pts_nil)
            (fun _ _ _ _ _ => pe_op op_add_str (pe_op op_add_str (pv 5) (pe_ix ix_str (pv 3) (pe_op op_fdiv (pv 6) pe_int) (fun _ _ => rfl))) (pe_ix ix_str (pv 3) (pe_op op_mod (pv 6) pe_int) (fun _ _ => rfl))))))
        (C8.pss_cut (ps_setLc (i := 8) (own := [("word", 9)]) (g := gName 9) (tt := tAnd (tTest (tOp (rIn K true) (tVar 9) (tVar 2))) (tTest (tOp (rIn K true) (tVar 9) (tCall spReserved [] E0 tNil)))) (by rfl) nd rfl rfl (sw_true rfl rfl rfl (by decide +kernel)) (pi_list (pv 7)) (blkOk_by (N := NW) (sc := defScope sWords) (by decide +kernel)) (fun _ _ _ _ _ => pg_name (i := 9) nd rfl (.inl rfl))
            (fun _ _ _ _ _ => pts_one (PW.pt (pw_and (pt_cmpR op_notIn_seq (pv 9) (pv 2) rfl) (pw_and1 (pt_cmpR op_notIn_seq (pv 9) (pe_cl0 cR hr pass0) rfl))))) (fun _ _ _ _ _ => pv 9))
        (pss_one (ps_expr (pe_bm PySem.F.plainAttrs_list PySem.F.slot_list_append PySem.F.type_list_append mt_append (pv 2) (pa_cons (pe_ix ix_list (pv 8) pe_int (fun _ _ => rfl)) pa_nil)))))))))
      (pss_one (ps_ret (pv 2)))), ?_⟩
    refine ⟨fun σ' H' => ∃ F, σ' = [some (.ref b), some (.int many), some (.ref F), some (.str abc), none, none, none, none, none, none] ∧ Same H H' ∧ H F = none ∧ H' F = some (.lst []), ?_, ?_⟩
    · refine ⟨(by show 0 ≤ sizeLine; decide), fun F nF => ⟨rfl, (by show 2 ≤ sizeLine; decide), fun p np => ⟨p, _, rfl, SqT.of upd_same, rfl, ?_⟩⟩⟩
      refine ⟨_, _, rfl, _, _, rfl, rfl, ?_⟩
      exact ⟨F, rfl, (same_new nF).trans (same_new np), nF, same_new np _ _ upd_same⟩
    · rintro σ' H1 ⟨F, rfl, s1, nF, hF1⟩
      have nFb : F ≠ b := fun z => by
        rw [z, hb] at nF
        cases nF
      refine ⟨_, rfl, _, rfl, by omega, by omega, for_range (lo := 0) (n := many) (g := gName 4) (tb := tTurnW K) (D := { nx := tRet (tVar 2) { nx := fun _ H' => Q .non H', rt := Q }, rt := Q })
        (fun i σ H2 => ∃ (ws : List Str) (v4 v5 v6 v7 v8 v9 : Option V) (zs : List V), σ = [some (.ref b), some (.int many), some (.ref F), some (.str abc), v4, v5, v6, v7, v8, v9] ∧ H2 F = some (.lst (ws.map V.str)) ∧ ws.length = i ∧ ws.Nodup ∧ (∀ w ∈ ws, wordB w = true) ∧ But b H H2 ∧ H2 b = some (.lst zs) ∧ BagL (n + 7 * i) zs) ?_ (fun i σ H2 hi pv => ?_) (fun σ H2 pv => ?_)⟩
      · exact ⟨[], none, none, none, none, none, none, xs, rfl, hF1, rfl, List.nodup_nil, (fun w hw => nomatch hw), But.of s1, s1 _ _ hb, hB⟩
      · obtain ⟨ws, v4, v5, v6, v7, v8, v9, zs, rfl, hF2, hl, hnd, hw, bt, hb2, hB2⟩ := pv
        refine ⟨fun σ' H' => σ' = [some (.ref b), some (.int many), some (.ref F), some (.str abc), some (.int (0 + ((i : Nat) : Int))), some (.str ""), v6, v7, v8, v9] ∧ H2 = H', ⟨rfl, rfl⟩, ?_⟩
        rintro _ _ ⟨rfl, rfl⟩
        refine ⟨fun σ' H' => ∃ (w : Str) (v : Option V) (ys : List V), σ' = [some (.ref b), some (.int many), some (.ref F), some (.str abc), some (.int (0 + ((i : Nat) : Int))), some (.str w), v, v7, v8, v9] ∧ lowB w = true ∧ 1 ≤ w.length ∧ w.length ≤ 6 ∧ But b H2 H' ∧ H' b = some (.lst ys) ∧ BagL (n + 7 * i + 7) ys,
          stem_ok hb2 hB2 (by omega) fun w v H' ys g1 g2 g3 g4 g5 g6 => ⟨w, v, ys, rfl, g1, g2, g3, g4, g5, g6⟩, ?_⟩
        rintro _ H3 ⟨w, v, ys, rfl, g1, g2, g3, g4, g5, g6⟩
        refine ⟨fun σ' H' => ∃ (T : Addr) (v : Option V), σ' = [some (.ref b), some (.int many), some (.ref F), some (.str abc), some (.int (0 + ((i : Nat) : Int))), some (.str w), v, some (.ref T), v8, v9] ∧ Same H3 H' ∧ H' T = some (.lst ((triesOf w).map V.str)),
          tries_ok g3 fun T H' v k1 k2 k3 => ⟨T, v, rfl, k2, k3⟩, ?_⟩
        rintro _ H4 ⟨T, v, rfl, s4, hT⟩
        have hF4 := s4 _ _ (g4 _ _ nFb hF2)
        refine ⟨fun σ' H' => ∃ (R : Addr), σ' = [some (.ref b), some (.int many), some (.ref F), some (.str abc), some (.int (0 + ((i : Nat) : Int))), some (.str w), v, some (.ref T), some (.ref R), v9] ∧ Same H4 H' ∧ H' R = some (.lst (((triesOf w).filter (isFree ws)).map V.str)),
          free_ok hF4 hT fun R H' k1 k2 k3 => ⟨R, rfl, k2, k3⟩, ?_⟩
        rintro _ H5 ⟨R, rfl, s5, hR⟩
        have hF5 := s5 _ _ hF4
        obtain ⟨x, r, hx⟩ := List.exists_cons_of_ne_nil (free_ne (ws := ws) (by omega) w)
        have hfw := free_word (ws := ws) g1 g2 g3 (x := x) (by rw [hx]; exact List.mem_cons_self)
        rw [hx] at hR
        refine ⟨_, rfl, .inl ⟨rfl, _, SqL.of hF5⟩, _, rfl, R, _, 0, .str x, rfl, rfl, SqL.of hR, (by exact atI_nat (j := 0) (by rfl)), F, _, .str x, rfl, rfl, hF5, ?_, ?_⟩
        · rw [List.length_map, sizeLine_eq]
          omega
        · have k5 : ∀ c o, c ≠ F → H5 c = some o → (upd H5 F (.lst (ws.map V.str ++ [V.str x]))) c = some o := fun c o nc e => by
            rw [upd_ne nc]
            exact e
          refine ⟨ws ++ [x], _, _, _, _, _, _, ys, rfl, ?_, ?_, ?_, ?_, fun c o nc e => ?_, ?_, g6.mono (by omega)⟩
          · rw [upd_same, List.map_append]
            rfl
          · rw [List.length_append, hl]
            rfl
          · refine List.nodup_append.mpr ⟨hnd, (List.pairwise_singleton _ _), fun a ha c hc => ?_⟩
            rw [List.mem_singleton.mp hc]
            exact fun e => hfw.2 (e ▸ ha)
          · intro y hy
            rcases List.mem_append.mp hy with h | h
            · exact hw y h
            · rw [List.mem_singleton.mp h]
              exact hfw.1
          · exact k5 c o (fun z => by rw [z, nF] at e; cases e) (s5 _ _ (s4 _ _ (g4 _ _ nc (bt c o nc e))))
          · exact k5 b _ nFb.symm (s5 _ _ (s4 _ _ g5))
      · obtain ⟨ws, v4, v5, v6, v7, v8, v9, zs, rfl, hF2, hl, hnd, hw, bt, hb2, hB2⟩ := pv
        exact ⟨_, rfl, fin F H2 ws zs nF bt hb2 hB2 hF2 hl hnd hw⟩
end
end My
namespace My
open PySem PySem.Spec PyProof.Rows L2
mutual
/-- values as data; texts are short -/
inductive Vd (H : Hp) : V → PyData → Prop
  | non : Vd H .non .none
  | bl (b : Bool) : Vd H (.bl b) (.bool b)
  | int (i : Int) : Vd H (.int i) (.int i)
  | str (z : Str) (h : z.length ≤ 1000) : Vd H (.str z) (.str z)
  | lst {a : Addr} {xs : List V} {ds : List PyData} (h : H a = some (.lst xs)) (k : VdAll H xs ds) : Vd H (.ref a) (.list ds)
  | tup {a : Addr} {xs : List V} {ds : List PyData} (h : H a = some (.tup xs)) (k : VdAll H xs ds) : Vd H (.ref a) (.tuple ds)
inductive VdAll (H : Hp) : List V → List PyData → Prop
  | nil : VdAll H [] []
  | cons {v : V} {d : PyData} {vs : List V} {ds : List PyData} (h : Vd H v d) (k : VdAll H vs ds) : VdAll H (v :: vs) (d :: ds)
end
mutual
theorem Vd.up {H H' : Hp} (s : Same H H') : ∀ {d : PyData} {v : V}, Vd H v d → Vd H' v d
  | .none, _, h => by
    cases h
    exact .non
  | .bool _, _, h => by
    cases h
    exact .bl _
  | .int _, _, h => by
    cases h
    exact .int _
  | .str _, _, h => by
    cases h with
    | str z hz => exact .str _ hz
  | .list ds, _, h => by
    cases h with
    | lst hq ha => exact .lst (s _ _ hq) (VdAll.up s ha)
  | .tuple ds, _, h => by
    cases h with
    | tup hq ha => exact .tup (s _ _ hq) (VdAll.up s ha)
  | .dict _, _, h => by cases h
theorem VdAll.up {H H' : Hp} (s : Same H H') : ∀ {ds : List PyData} {vs : List V}, VdAll H vs ds → VdAll H' vs ds
  | [], _, h => by
    cases h
    exact .nil
  | _ :: _, _, h => by
    cases h with
    | cons h1 h2 => exact .cons (Vd.up s h1) (VdAll.up s h2)
end
mutual
theorem Vd.dp {K : PySem.W.Frag} {H : Hp} : ∀ {d : PyData} {v : V}, Vd H v d → Dp K H v d
  | .none, _, h => by
    cases h
    exact .non
  | .bool _, _, h => by
    cases h
    exact .bl _
  | .int _, _, h => by
    cases h
    exact .int _
  | .str _, _, h => by
    cases h with
    | str z hz => exact .str _
  | .list ds, _, h => by
    cases h with
    | lst hq ha => exact .lst (SqL.of hq) (VdAll.dp ha)
  | .tuple ds, _, h => by
    cases h with
    | tup hq ha => exact .tup (SqT.of hq) (VdAll.dp ha)
  | .dict _, _, h => by cases h
theorem VdAll.dp {K : PySem.W.Frag} {H : Hp} : ∀ {ds : List PyData} {vs : List V}, VdAll H vs ds → DpAll K H vs ds
  | [], _, h => by
    cases h
    exact .nil
  | _ :: _, _, h => by
    cases h with
    | cons h1 h2 => exact .cons (Vd.dp h1) (VdAll.dp h2)
end
theorem VdAll.len {H : Hp} : ∀ {ds : List PyData} {vs : List V}, VdAll H vs ds → vs.length = ds.length
  | [], _, h => by
    cases h
    rfl
  | _ :: _, _, h => by
    cases h with
    | cons h1 h2 => exact congrArg Nat.succ (VdAll.len h2)
theorem VdAll.at {H : Hp} : ∀ {ds : List PyData} {vs : List V} {i : Nat} {v : V}, VdAll H vs ds → vs[i]? = some v → ∃ d, ds[i]? = some d ∧ Vd H v d
  | [], _, _, _, h, e => by
    cases h
    cases e
  | d :: ds, _, i, v, h, e => by
    cases h with
    | @cons v' _ vs' _ h1 h2 =>
      cases i with
      | zero =>
        cases e
        exact ⟨d, rfl, h1⟩
      | succ i => exact VdAll.at (i := i) h2 e
def isStrD : PyData → Bool
  | .str _ => true
  | _ => false
def isIntD : PyData → Bool
  | .int _ => true
  | .bool _ => true
  | _ => false
def isBlD : PyData → Bool
  | .bool _ => true
  | _ => false
def isTupD : PyData → Bool
  | .tuple _ => true
  | _ => false
theorem Vd.ty {K : PySem.W.Frag} {H : Hp} {v : V} {d : PyData} (h : Vd H v d) : ∃ t, TyX K H v t ∧ PySem.W.kitOne K t (.type "str") = some (isStrD d) ∧ PySem.W.kitOne K t (.type "int") = some (isIntD d) ∧ PySem.W.kitOne K t (.type "bool") = some (isBlD d) ∧ PySem.W.kitOne K t (.type "tuple") = some (isTupD d) := by
  cases h with
  | non => exact ⟨_, .base .non, kit_ty (by decide +kernel), kit_ty (by decide +kernel), kit_ty (by decide +kernel), kit_ty (by decide +kernel)⟩
  | bl b => exact ⟨_, .base (.bl b), kit_ty (by show kitB _ _ = some false; decide +kernel), kit_ty (by show kitB _ _ = some true; decide +kernel), kit_ty (by show kitB _ _ = some true; decide +kernel), kit_ty (by show kitB _ _ = some false; decide +kernel)⟩
  | int i => exact ⟨_, .base (.int i), kit_ty (by show kitB _ _ = some false; decide +kernel), kit_ty (by show kitB _ _ = some true; decide +kernel), kit_ty (by show kitB _ _ = some false; decide +kernel), kit_ty (by show kitB _ _ = some false; decide +kernel)⟩
  | str z => exact ⟨_, .base (.str z), kit_ty (by show kitB _ _ = some true; decide +kernel), kit_ty (by show kitB _ _ = some false; decide +kernel), kit_ty (by show kitB _ _ = some false; decide +kernel), kit_ty (by show kitB _ _ = some false; decide +kernel)⟩
  | lst h k => exact ⟨_, .base (.lst h), kit_ty (by show kitB _ _ = some false; decide +kernel), kit_ty (by show kitB _ _ = some false; decide +kernel), kit_ty (by show kitB _ _ = some false; decide +kernel), kit_ty (by show kitB _ _ = some false; decide +kernel)⟩
  | tup h k => exact ⟨_, .base (.tup h), kit_ty (by show kitB _ _ = some false; decide +kernel), kit_ty (by show kitB _ _ = some false; decide +kernel), kit_ty (by show kitB _ _ = some false; decide +kernel), kit_ty (by show kitB _ _ = some true; decide +kernel)⟩
/-- over the signs of a text -/
theorem lc_str {x : Str} {g : TG} {tt : TT} {te : TE} {vs : List Nat} {σ : L2.St} {H1 : Hp} {D : Addr} {Qd : Hp → Prop} (Pv : Nat → Hp → Prop) (h0 : Pv 0 (upd H1 D (.lst [])))
    (hs : ∀ i c H, x.cps.toList[i]? = some c → Pv i H → g (.str ⟨#[c]⟩) (wipe σ vs) H fun σ2 H2 => wipe σ2 vs = wipe σ vs ∧ tt σ2 H2 fun b H3 =>
      if b = true then te σ2 H3 fun y H4 => ∃ acc, H4 D = some (.lst acc) ∧ acc.length < sizeLine ∧ Pv (i + 1) (upd H4 D (.lst (acc ++ [y]))) else Pv (i + 1) H3) (hd : ∀ H, Pv x.cps.toList.length H → Qd H) :
    ∃ W : Nat → Nat → Hp → Prop, (∃ m, W 0 m (upd H1 D (.lst []))) ∧ ∀ i m H, W i m H →
      ((Its x).stop i H ∧ Qd H) ∨ ((Its x).go i H ∧ ∃ Nx : Hp → Prop, (∀ H', Nx H' → ∃ m', m' < m ∧ W (i + 1) m' H') ∧ ∀ y H', (Its x).yld i H y H' → g y (wipe σ vs) H' fun σ2 H2 => wipe σ2 vs = wipe σ vs ∧ tt σ2 H2 fun b H3 =>
        if b = true then te σ2 H3 fun y H4 => ∃ acc, H4 D = some (.lst acc) ∧ acc.length < sizeLine ∧ Nx (upd H4 D (.lst (acc ++ [y]))) else Nx H3) := by
  have hsz : x.cps.size = x.cps.toList.length := by rw [Array.length_toList]
  refine ⟨fun i m H => m = x.cps.toList.length - i ∧ i ≤ x.cps.toList.length ∧ Pv i H, ⟨x.cps.toList.length, by simp, Nat.zero_le _, h0⟩, ?_⟩
  rintro i m H ⟨rfl, hi, p⟩
  by_cases hlt : i < x.cps.toList.length
  · refine .inr ⟨by show i < x.cps.size; omega, Pv (i + 1), fun H' p' => ⟨x.cps.toList.length - (i + 1), by omega, rfl, hlt, p'⟩, fun y H' q => ?_⟩
    obtain ⟨rfl, c, hc, rfl⟩ := q
    exact hs i c _ (by rw [Array.getElem?_toList]; exact hc) p
  · have e : i = x.cps.toList.length := by omega
    subst e
    exact .inl ⟨by show x.cps.size ≤ _; omega, hd H p⟩
/-- what was not there before -/
def news (H H' : Hp) : Hp := fun c => if (H c).isNone = true then H' c else none
theorem news_at {H H' : Hp} {c : Addr} (h : H c = none) : news H H' c = H' c := by
  unfold news
  rw [h]
  rfl
theorem news_same {H H' : Hp} : Same (news H H') H' := fun c o e => by
  unfold news at e
  by_cases h : (H c).isNone = true
  · rw [if_pos h] at e
    exact e
  · rw [if_neg h] at e
    cases e
theorem news_none {H H' : Hp} {c : Addr} {o : HO} (h : H c = some o) : news H H' c = none := by
  unfold news
  rw [h]
  rfl
theorem news_up {H H' H'' : Hp} {b : Addr} {o : HO} (hb : H b = some o) (bt : But b H' H'') : Same (news H H') (news H H'') := fun c u e => by
  unfold news at e ⊢
  by_cases h : (H c).isNone = true
  · rw [if_pos h] at e ⊢
    refine bt c u (fun z => ?_) e
    rw [z, hb] at h
    cases h
  · rw [if_neg h] at e
    cases e
theorem news_sm {H H' H'' : Hp} (sm : Same H' H'') : Same (news H H') (news H H'') := fun c u e => by
  unfold news at e ⊢
  by_cases h : (H c).isNone = true
  · rw [if_pos h] at e ⊢
    exact sm c u e
  · rw [if_neg h] at e
    cases e
theorem layAll_of : ∀ {ds : List PyData} {n : Nat}, (∀ d ∈ ds, d.canLay0 = true ∧ d.depth ≤ n) → PyData.canLayAll0 ds = true ∧ PyData.depthAll ds ≤ n
  | [], _, _ => ⟨rfl, Nat.zero_le _⟩
  | d :: ds, n, h => by
    have h1 := h d List.mem_cons_self
    have h2 := layAll_of (ds := ds) (n := n) fun e he => h e (List.mem_cons_of_mem _ he)
    refine ⟨?_, ?_⟩
    · unfold PyData.canLayAll0
      rw [h1.1, h2.1]
      rfl
    · unfold PyData.depthAll
      exact Nat.max_le.mpr ⟨h1.2, h2.2⟩
def LayN (n : Nat) (d : PyData) : Prop := d.canLay0 = true ∧ d.depth ≤ n
theorem LayN.mono {n m : Nat} {d : PyData} (h : LayN n d) (k : n ≤ m) : LayN m d := ⟨h.1, Nat.le_trans h.2 k⟩
theorem LayN.tup {n : Nat} {ds : List PyData} (h : ∀ d ∈ ds, LayN n d) : LayN (n + 1) (.tuple ds) := by
  have z := layAll_of h
  refine ⟨?_, ?_⟩
  · unfold PyData.canLay0
    exact z.1
  · unfold PyData.depth
    have := z.2
    omega
theorem LayN.lst {n : Nat} {ds : List PyData} (h : ∀ d ∈ ds, LayN n d) : LayN (n + 1) (.list ds) := by
  have z := layAll_of h
  refine ⟨?_, ?_⟩
  · unfold PyData.canLay0
    exact z.1
  · unfold PyData.depth
    have := z.2
    omega
theorem LayN.shaped {n : Nat} {d : PyData} (h : LayN n d) (k : n ≤ 64) : SeqAt.shaped d = true := by
  unfold SeqAt.shaped
  rw [h.1, Bool.true_and]
  exact decide_eq_true (Nat.le_trans h.2 k)
theorem shaped4 {dt dl dm df : PyData} (h1 : LayN 3 dt) (h2 : LayN 3 dl) (h3 : LayN 3 dm) (h4 : LayN 3 df) : SeqAt.shaped (.tuple [dt, dl, dm, df]) = true := by
  refine (LayN.tup (n := 3) fun d hd => ?_).shaped (by omega)
  simp only [List.mem_cons, List.not_mem_nil, or_false] at hd
  rcases hd with rfl | rfl | rfl | rfl <;> assumption
theorem lay_str {y : Str} (h : (y.cps.toList.all fun c => decide (c < 0x110000)) = true) : LayN 0 (.str y) := ⟨by
  show y.cps.all (· < 0x110000) = true
  rw [← Array.all_toList]
  exact h, Nat.le_refl _⟩
theorem VdAll.strs {H : Hp} : ∀ {fs : List Str}, (∀ z ∈ fs, z.length ≤ 1000) → VdAll H (fs.map V.str) (fs.map PyData.str)
  | [], _ => .nil
  | z :: fs, h => .cons (.str z (h z List.mem_cons_self)) (VdAll.strs fun y hy => h y (List.mem_cons_of_mem _ hy))
theorem VdAll.append {H : Hp} : ∀ {vs ws : List V} {ds es : List PyData}, VdAll H vs ds → VdAll H ws es → VdAll H (vs ++ ws) (ds ++ es)
  | _, _, [], _, h, k => by
    cases h
    exact k
  | _, _, _ :: _, _, h, k => by
    cases h with
    | cons h1 h2 => exact .cons h1 (VdAll.append h2 k)
/-- sum of two tracked tuples -/
def rCatM : R2 := fun x y H Q => ∃ a b xs ys, x = .ref a ∧ y = .ref b ∧ H a = some (.tup xs) ∧ H b = some (.tup ys) ∧ xs.length + ys.length ≤ 1000 ∧ ∀ q H', Same H H' → H' q = some (.tup (xs ++ ys)) → (q = a ∨ q = b ∨ H q = none) → Q (.ref q) H'
theorem op_catM {X : Cx} : OpR X (binaryOp .Add) rCatM := by
  intro pins s σ H x y v u Q I rx ry h
  obtain ⟨a, b, xs, ys, rfl, rfl, ha, hb, hl, q1⟩ := h
  refine op_catA pins s σ H _ _ v u Q I rx ry ⟨a, b, xs, ys, rfl, rfl, SqT.of ha, SqT.of hb, by rw [sizeLine_eq]; omega, fun e => ?_, fun _ e => ?_, fun _ _ p hp => ?_⟩
  · exact q1 b H (Same.refl _) (by rw [e]; exact hb) (.inr (.inl rfl))
  · exact q1 a H (Same.refl _) (by rw [e, List.append_nil]; exact ha) (.inl rfl)
  · exact q1 p _ (same_new hp) upd_same (.inr (.inr hp))
/-- new for the one who called -/
theorem free_of {b c : Addr} {H H1 : Hp} {o : HO} (bt : But b H H1) (hb : H1 b = some o) (e : H1 c = none) : H c = none := by
  cases hx : H c with
  | none => rfl
  | some u =>
    by_cases hc : c = b
    · rw [hc, hb] at e
      cases e
    · rw [bt c u hc hx] at e
      cases e
theorem ne_b {b L : Addr} {H2 : Hp} {o : HO} (hb : H2 b = some o) (nL : H2 L = none) : L ≠ b := fun z => by
  rw [z, hb] at nL
  cases nL
section
variable {X : Cx}
/-- what no way reaches -/
theorem pss_dead {ss : List Stmt} : PSs X ss (fun _ _ _ => False) := ⟨fun _ _ _ _ _ _ h => h.elim⟩
theorem ps_dead {s : Stmt} : PS X s (fun _ _ _ => False) := ⟨fun _ _ _ _ _ _ h => h.elim⟩
theorem pw_dead {e : Expr} : PW X e (fun _ _ _ => False) := ⟨fun _ _ _ _ _ _ _ h => h.elim⟩
theorem pe_dead {e : Expr} : PE X e (fun _ _ _ => False) := ⟨fun _ _ _ _ _ _ h => h.elim⟩
end
/-- a def with defaults, called without them -/
structure ClD (P : Program) (w : World) (K : PySem.W.Frag) (mg : Str → Option Value) (base : Heap) (CX : CXT) (k : Nat) (x : Str) (dvs : List V) (sp : Sp) : Prop where
  ex : ∃ (f : Addr) (fd : FuncData) (ps : List Str) (ds : List Value), FnOk P w K mg base CX k f fd ps sp ∧ mg x = some (.ref f) ∧ PySem.W.keepIn K (.ref f) = true ∧ Binds K fd ps ds ∧ Vals dvs ds
structure DefAtD (K : PySem.W.Frag) (mg : Str → Option Value) (x : Str) (st : Stmt) (ps : List Str) (dvs : List V) : Prop where
  ex : ∃ (f : Addr) (fd : FuncData), FunD K x x (defArgs st) (defBody st) (defScope st) dvs [] f fd ∧ mg x = some (.ref f) ∧ ∃ ds, Vals dvs ds ∧ Binds K fd ps ds
section
variable {X : Cx} {CX : CXT} {k j : Nat} {x : Str} {sp : Sp} {p pos : Pos} {e : Expr} {es : List Expr} {t : TA} {E : XK} {dvs : List V}
theorem pe_clD (c : ClD X.prog X.w X.K X.mg X.base CX k x dvs sp) (hr : Room j X.A) (hx : Passes CX X E) (ha : PA X (e :: es) t) (hk : k ≤ j := by decide) (hg : Gl X x := by rfl)
    (hdb : (x == ("__debug__" : Str)) = false := by decide) (he : starEach (e :: es) X.env = (false, eval e X.env) :: starEach es X.env := by rfl) (hpl : (backTo pos (starEach es X.env)).any (·.1) = false := by rfl) :
    PE X (.Call (.Name x p) (e :: es) [] pos) (tCall sp dvs E t) := by
  obtain ⟨f, fd, ps, ds, F, hm, kp, b, hd⟩ := c.ex
  exact pe_call F (hr.mono hk) hg hm kp b hd hx ha hdb he hpl
end
section
variable {X : Cx}
def rInT (K : PySem.W.Frag) : R2 := fun x y H Q => ∃ d ds, Dp K H x d ∧ Dp K H y (.tuple ds) ∧ SeqAt.shaped d = true ∧ SeqAt.shaped (.tuple ds) = true ∧ Q (.bl (ds.any fun z => PyData.eqv z d)) H
theorem op_inT (hu : X.A.units + 65 < cLine) : OpR X (compareOp .In) (rInT X.K) := by
  intro pins s σ H x y v u Q I rx ry h
  obtain ⟨d, ds, hd, he, sd, se, q⟩ := h
  obtain ⟨as, r1⟩ := Dp.reads I d x v hd rx
  obtain ⟨bs, r2⟩ := Dp.reads I (.tuple ds) y u he ry
  exact SeqAt.in_tuple_reads r2 r1 (SeqAt.canLay_of_shaped se) (SeqAt.canLay_of_shaped sd) (room_in_shaped sd hu) ⟨.bl _, H, I, rfl, q⟩
end
section
variable {X : Cx}
def rNotInT (K : PySem.W.Frag) : R2 := fun x y H Q => ∃ d ds, Dp K H x d ∧ Dp K H y (.tuple ds) ∧ SeqAt.shaped d = true ∧ SeqAt.shaped (.tuple ds) = true ∧ Q (.bl (!ds.any fun z => PyData.eqv z d)) H
theorem op_notInT (hu : X.A.units + 65 < cLine) : OpR X (compareOp .NotIn) (rNotInT X.K) := by
  intro pins s σ H x y v u Q I rx ry h
  obtain ⟨d, ds, hd, he, sd, se, q⟩ := h
  obtain ⟨as, r1⟩ := Dp.reads I d x v hd rx
  obtain ⟨bs, r2⟩ := Dp.reads I (.tuple ds) y u he ry
  exact SeqAt.notIn_tuple_reads r2 r1 (SeqAt.canLay_of_shaped se) (SeqAt.canLay_of_shaped sd) (room_in_shaped sd hu) ⟨.bl _, H, I, rfl, q⟩
end
section
variable {X : Cx} {CX : CXT} {n : Nat} {C f : Addr} {fd : FuncData} {ps : List Str} {sp : Sp}
/-- == by the class's own __eq__: the other one a text, a tuple or an instance of the same class -/
def rEqO (K : PySem.W.Frag) (C : Addr) (sp : Sp) : R2 := fun x y H Q => ∃ a dx fs, x = .ref a ∧ H a = some (.ins C dx fs) ∧
  ((∃ z, y = .str z) ∨ (∃ b xs, y = .ref b ∧ H b = some (.tup xs)) ∨ (∃ b dy gs, y = .ref b ∧ H b = some (.ins C dy gs))) ∧ sp [x, y] H (fun v H' => ∃ c, v = .bl c ∧ Q v H') (fun _ _ _ => False)
theorem op_eqO (F : FnOk X.prog X.w X.K X.mg X.base CX0 n f fd ps sp) (hs : PySem.W.findIn X.K (.ref C) "__eq__" = some (some (.ref f))) (hf : PySem.W.isFn X.K (.ref f) = true) (hb : Binds X.K fd ps [])
    (n1 : PySem.W.notFirst X.K C (.type "str") = true) (n2 : PySem.W.notFirst X.K C (.type "tuple") = true) (hr : Room n X.A) : OpR X (compareOp .Eq) (rEqO X.K C sp) := by
  intro pins s σ H x y v u Q I rx ry hq
  obtain ⟨a, dx, fs, rfl, ha, hy, hsp⟩ := hq
  cases rx
  obtain ⟨mA, J, _⟩ := ins_get I.hok ha
  obtain ⟨od, J, _⟩ := J.look
  obtain ⟨m, hF⟩ := I.fr
  have e0 : Env0 X.prog X.w X.K X.mg X.base X.A X.stack s H := I.env0
  have hl := F.len _ _ _ _ hsp
  have go : wpAny (model X.prog X.w) X.A (call (.ref f) [.ref a, u]) (PySem.W.CmpBack (EP X pins σ Q)) X.xe s := by
    have r2 : Vals [V.ref a, y] [Value.ref a, u] := .cons rfl (.cons ry .nil)
    refine wpAny_call (codeAny_mono (F.run X.A X.stack s H ⟨[.ref a, u], []⟩ [.ref a, u] [.ref a, y] _ _ hr e0 (by
      have := hb s [.ref a, u] I.kIn (by simpa using hl)
      simpa using this) r2 hsp) fun r s' hq => ?_)
    cases r with
    | error e => exact False.elim hq
    | ok fl =>
      cases fl with
      | ret w =>
        obtain ⟨z, H', I', rz, c, rfl, ex⟩ := I.after hq
        cases rz
        exact ⟨.bl c, H', I', rfl, ex⟩
      | next => exact False.elim hq
      | brk => exact False.elim hq
      | cont => exact False.elim hq
  show wpAny (model X.prog X.w) X.A (richCompare .Eq (.ref a) u) (EP X pins σ Q) X.xe s
  rcases hy with ⟨z, rfl⟩ | ⟨b, xs, rfl, hb'⟩ | ⟨b, dy, gs, rfl, hb'⟩
  · obtain ⟨t, rfl⟩ := ry
    exact PySem.W.cmp_K (op := .Eq) (tb := .type "str") hr.units0 hF I.ok.mod.kin J (PySem.W.Looks.of_pure rfl) n1 hs hf go
  · cases ry
    obtain ⟨_, _, _, o, h1, h2, _⟩ := (show ObjOk X.prog X.w H s.heap b (.tup xs) from I.hok b _ hb')
    exact PySem.W.cmp_K (op := .Eq) (tb := .type "tuple") hr.units0 hF I.ok.mod.kin J (fun A Q E s k q => wpAny_typeOf_ref (k _ _ h1) (by rw [h2]; exact q)) n2 hs hf go
  · cases ry
    obtain ⟨mB, J', _⟩ := ins_get I.hok hb'
    obtain ⟨od', J', _⟩ := J'.look
    exact PySem.W.cmp_K (op := .Eq) (tb := .ref C) hr.units0 hF I.ok.mod.kin J J'.type (by simp [PySem.W.notFirst]) hs hf go
end
/-- over a list from its end -/
theorem lc_rev {K : PySem.W.Frag} {a : Addr} {xs : List V} {g : TG} {tt : TT} {te : TE} {vs : List Nat} {σ : L2.St} {H1 : Hp} {D : Addr} {Qd : Hp → Prop} (Pv : Nat → Hp → Prop) (h0 : Pv 0 (upd H1 D (.lst []))) (hl : ∀ i H, i ≤ xs.length → Pv i H → SqL K H a xs)
    (hs : ∀ i x H, i < xs.length → xs[xs.length - 1 - i]? = some x → Pv i H → g x (wipe σ vs) H fun σ2 H2 => wipe σ2 vs = wipe σ vs ∧ tt σ2 H2 fun b H3 =>
      if b = true then te σ2 H3 fun y H4 => ∃ acc, H4 D = some (.lst acc) ∧ acc.length < sizeLine ∧ Pv (i + 1) (upd H4 D (.lst (acc ++ [y]))) else Pv (i + 1) H3) (hd : ∀ H, Pv xs.length H → Qd H) :
    ∃ W : Nat → Nat → Hp → Prop, (∃ m, W 0 m (upd H1 D (.lst []))) ∧ ∀ i m H, W i m H →
      ((Itv K a xs.length).stop i H ∧ Qd H) ∨ ((Itv K a xs.length).go i H ∧ ∃ Nx : Hp → Prop, (∀ H', Nx H' → ∃ m', m' < m ∧ W (i + 1) m' H') ∧ ∀ x H', (Itv K a xs.length).yld i H x H' → g x (wipe σ vs) H' fun σ2 H2 => wipe σ2 vs = wipe σ vs ∧ tt σ2 H2 fun b H3 =>
        if b = true then te σ2 H3 fun y H4 => ∃ acc, H4 D = some (.lst acc) ∧ acc.length < sizeLine ∧ Nx (upd H4 D (.lst (acc ++ [y]))) else Nx H3) := by
  refine ⟨fun i m H => m = xs.length - i ∧ i ≤ xs.length ∧ Pv i H, ⟨xs.length, by simp, Nat.zero_le _, h0⟩, ?_⟩
  rintro i m H ⟨rfl, hi, p⟩
  have q := hl i H hi p
  by_cases hlt : i < xs.length
  · have hx : xs[xs.length - 1 - i]? = some (xs[xs.length - 1 - i]'(by omega)) := List.getElem?_eq_getElem (by omega)
    refine .inr ⟨⟨hlt, xs, _, q, hx⟩, Pv (i + 1), fun H' p' => ⟨xs.length - (i + 1), by omega, rfl, hlt, p'⟩, fun x H' y => ?_⟩
    obtain ⟨e, y⟩ := y
    subst e
    exact hs i x _ hlt (y xs q) p
  · have e : i = xs.length := by omega
    subst e
    exact .inl ⟨Nat.le_refl _, hd H p⟩
end My
namespace My
open PySem PySem.Spec PyProof.Rows L2
def ABC : Str := "ABCDEFGHIJKLMNOPQRSTUVWXYZ"
/-- what the module's top has written -/
structure Tw (K : PySem.W.Frag) (mg : Str → Option Value) : Prop where
  isi : mg "isinstance" = none
  int : mg "int" = none
  str : mg "str" = none
  bool : mg "bool" = none
  len : mg "len" = none
  all : mg "all" = none
  tuple : mg "tuple" = none
  range : mg "range" = none
  list : mg "list" = none
  reversed : mg "reversed" = none
  enum : mg "enumerate" = none
  small : ∃ t, mg "SMALL" = some (.str abc t)
  capital : ∃ t, mg "CAPITAL" = some (.str ABC t)
  longest : ∃ t, mg "LONGEST" = some (.int 8 t)
  highest : ∃ t, mg "HIGHEST_LEVEL" = some (.int 3 t)
  res : ∃ a, mg "RESERVED" = some (.ref a) ∧ ∀ H, SqT K H a (resW.map V.str)
def lowLen (z : Str) : Bool := decide (1 ≤ z.length) && decide (z.length ≤ 8) && lowB z
/-- a text of one to eight of these letters -/
def spelledL (L : Str) : PyData → Bool
  | .str z => decide (1 ≤ z.length) && decide (z.length ≤ 8) && (z.cps.toList.all fun c => decide (c ∈ L.cps.toList))
  | _ => false
def wordD : PyData → Bool
  | .str z => wordB z
  | _ => false
def constD (d : PyData) : Bool := spelledL ABC d
def levelD : PyData → Bool
  | .int i => decide (0 ≤ i) && decide (i ≤ 3)
  | _ => false
def spIsInt : Sp := fun vs H Q _ => ∃ v d, vs = [v] ∧ Vd H v d ∧ Q (.bl (isIntD d && !isBlD d)) H
def spIsLevel : Sp := fun vs H Q _ => ∃ v d, vs = [v] ∧ Vd H v d ∧ Q (.bl (levelD d)) H
def spIsSpelled : Sp := fun vs H Q _ => ∃ v d L, vs = [v, .str L] ∧ Vd H v d ∧ ∀ H', Same H H' → Q (.bl (spelledL L d)) H'
def spIsWord : Sp := fun vs H Q _ => ∃ v d, vs = [v] ∧ Vd H v d ∧ ∀ H', Same H H' → Q (.bl (wordD d)) H'
def spIsConst : Sp := fun vs H Q _ => ∃ v d, vs = [v] ∧ Vd H v d ∧ ∀ H', Same H H' → Q (.bl (constD d)) H'
section
variable {P : Program} {w : World} {K : PySem.W.Frag} {mg : Str → Option Value} {base : Heap}
theorem scIsInt : FnScope ["value"] ["value"] (defScope sIsInt) := ⟨rfl, rfl, rfl, by decide +kernel, rfl, by decide +kernel, by decide +kernel⟩
theorem cl_isInt (D : DefAt K mg "is_integer" sIsInt ["value"]) (T : Tw K mg) : Cl P w K mg base CX0 1 "is_integer" spIsInt := by
  obtain ⟨f, fd, F, g, bd⟩ := D.ex
  refine ⟨f, fd, _, F.ok scIsInt (fun vs H Q E h => ?_) (fun cdv A outer s H vs Q E hr h => ?_), g, F.kp, bd⟩
  · obtain ⟨v, d, rfl, _⟩ := h
    rfl
  · obtain ⟨v, d, rfl, hv, fin⟩ := h
    obtain ⟨t, ht, k1, k2, k3, k4⟩ := hv.ty (K := K)
    refine ⟨_, pss_one (ps_ret (pe_and (pe_callB call_isi (by rfl) T.isi (by decide +kernel) (pa_cons (pv 0) (pa_cons (pe_bltn rfl T.int (by decide +kernel) (v := .ty "int") rfl) pa_nil)))
      (pe_one (pe_not (pe_callB call_isi (by rfl) T.isi (by decide +kernel) (pa_cons (pv 0) (pa_cons (pe_bltn rfl T.bool (by decide +kernel) (v := .ty "bool") rfl) pa_nil))))))), ?_⟩
    refine ⟨_, rfl, v, _, t, _, _, rfl, .ty "int", ht, k2, _, rfl, ?_⟩
    cases hi : isIntD d with
    | false =>
      rw [hi] at fin
      exact ite_neg' (by decide) fin
    | true =>
      refine ite_pos' rfl ⟨_, rfl, v, _, t, _, _, rfl, .ty "bool", ht, k3, _, rfl, ?_⟩
      rw [hi] at fin
      exact fin
theorem scIsLevel : FnScope ["value"] ["value"] (defScope sIsLevel) := ⟨rfl, rfl, rfl, by decide +kernel, rfl, by decide +kernel, by decide +kernel⟩
theorem cl_isLevel (D : DefAt K mg "is_level" sIsLevel ["value"]) (T : Tw K mg) (cI : Cl P w K mg base CX0 1 "is_integer" spIsInt) : Cl P w K mg base CX0 2 "is_level" spIsLevel := by
  obtain ⟨f, fd, F, g, bd⟩ := D.ex
  obtain ⟨th, gh⟩ := T.highest
  refine ⟨f, fd, _, F.ok scIsLevel (fun vs H Q E h => ?_) (fun cdv A outer s H vs Q E hr h => ?_), g, F.kp, bd⟩
  · obtain ⟨v, d, rfl, _⟩ := h
    rfl
  · obtain ⟨v, d, rfl, hv, fin⟩ := h
    refine ⟨_, pss_one (ps_ret (pe_and (pe_cl cI hr pass0 (pa_cons (pv 0) pa_nil)) (pe_one (pe_chain op_le op_le pe_int (pv 0) (pe_glob rfl gh (v := .int 3) ⟨_, rfl⟩))))), ?_⟩
    refine ⟨_, rfl, v, d, rfl, hv, _, rfl, ?_⟩
    cases hv with
    | int i =>
      refine ite_pos' rfl ⟨_, rfl, _, _, rfl, rfl, _, rfl, ?_⟩
      by_cases h0 : 0 ≤ i
      · refine ite_pos' (by simp [h0]) ⟨_, _, rfl, rfl, ?_⟩
        simpa [levelD, h0] using fin
      · refine ite_neg' (by simp [h0]) ?_
        simpa [levelD, h0] using fin
    | bl b => exact ite_neg' (show ¬ ((false : Bool) = true) from by decide) fin
    | _ => exact ite_neg' (show ¬ ((false : Bool) = true) from by decide) fin
theorem scIsSpelled : FnScope ["value", "letters", "letter"] ["value", "letters"] (defScope sIsSpelled) := ⟨rfl, rfl, rfl, by decide +kernel, rfl, by decide +kernel, by decide +kernel⟩
theorem in_abc (c : Nat) : decide (c ∈ abc.cps.toList) = (decide (97 ≤ c) && decide (c ≤ 122)) := by
  have e : abc.cps.toList = (List.range 26).map (97 + ·) := by decide +kernel
  rw [e]
  by_cases h : 97 ≤ c ∧ c ≤ 122
  · obtain ⟨h1, h2⟩ := h
    simp only [h1, h2, decide_true, Bool.and_self, decide_eq_true_eq]
    exact List.mem_map.mpr ⟨c - 97, List.mem_range.mpr (by omega), by omega⟩
  · have h3 : (decide (97 ≤ c) && decide (c ≤ 122)) = false := by
      simp only [Bool.and_eq_false_iff, decide_eq_false_iff_not]
      omega
    rw [h3]
    refine decide_eq_false fun hm => ?_
    obtain ⟨k, hk, rfl⟩ := List.mem_map.mp hm
    have := List.mem_range.mp hk
    omega
theorem cl_isSpelled (D : DefAt K mg "is_spelled" sIsSpelled ["value", "letters"]) (T : Tw K mg) : Cl P w K mg base CX0 1 "is_spelled" spIsSpelled := by
  obtain ⟨f, fd, F, g, bd⟩ := D.ex
  obtain ⟨tl, gl⟩ := T.longest
  refine ⟨f, fd, _, F.ok scIsSpelled (fun vs H Q E h => ?_) (fun cdv A outer s H vs Q E hr h => ?_), g, F.kp, bd⟩
  · obtain ⟨v, d, Lt, rfl, _⟩ := h
    rfl
  · obtain ⟨v, d, Lt, rfl, hv, fin⟩ := h
    obtain ⟨t, ht, k1, k2, k3, k4⟩ := hv.ty (K := K)
    have nd := scIsSpelled.nd
    refine ⟨_, pss_cons (ps_if (PW.pt (pw_or (pt_not (pt_val (pe_callB call_isi (by rfl) T.isi (by decide +kernel) (pa_cons (pv 0) (pa_cons (pe_bltn rfl T.str (by decide +kernel) (v := .ty "str") rfl) pa_nil)))))
        (pw_or1 (pt_not (pt_chain op_le op_le pe_int (pe_callB call_len_str (by rfl) T.len PySem.boot_len (pa_cons (pv 0) pa_nil)) (pe_glob rfl gl (v := .int 8) ⟨_, rfl⟩)))))) (pss_one (ps_ret pe_bl)) pss_nil)
      (pss_one (ps_ret (pe_callB (cr_all rfl) (by rfl) T.all (by decide +kernel) (pa_cons (pe_lc (own := [("letter", 2)]) (g := gName 2) (by rfl) nd (pi_str (pv 0)) (blkOk_by (N := ["value", "letters", "letter"]) (sc := defScope sIsSpelled) (by decide +kernel)) (fun _ _ _ _ _ => pg_name (i := 2) nd rfl (.inl rfl)) (fun _ _ _ _ _ => pts_nil)
        (fun _ _ _ _ _ => pe_cmpR op_inS (pv 2) (pv 1) rfl)) pa_nil)))), ?_⟩
    refine ⟨_, rfl, v, _, t, _, _, rfl, .ty "str", ht, k1, _, rfl, ?_⟩
    have hF : spelledL Lt d = false → Q (.bl false) H := fun e => by
      have := fin H (Same.refl _)
      rw [e] at this
      exact this
    cases hv with
    | str z hz =>
      refine ite_neg' (show ¬ ((false : Bool) = true) from by decide) ?_
      refine ⟨_, rfl, z, rfl, by rw [sizeLine_eq]; omega, _, _, rfl, rfl, _, rfl, ?_⟩
      have tail : spelledL Lt (.str z) = (z.cps.toList.all fun c => decide (c ∈ Lt.cps.toList)) → ∀ D : Ends, D.rt = Q → tRet (tCB (rAll K) (tCons (tLc (iStr (tVar 0)) (gName 2) tYes (tOp rInS (tVar 2) (tVar 1)) [2]) tNil)) D [some (.str z), some (.str Lt), none] H := by
        intro hl D eD
        refine ⟨_, rfl, z, rfl, fun L nL => lc_str (fun i H2 => Same H H2 ∧ H2 L = some (.lst (((z.cps.toList.take i).map fun c => decide (c ∈ Lt.cps.toList)).map V.bl))) ?_ (fun i c H2 hc pv => ?_) (fun H2 pv => ?_)⟩
        · exact ⟨same_new nL, upd_same⟩
        · obtain ⟨sm, hL⟩ := pv
          have hi : i < z.cps.toList.length := (List.getElem?_eq_some_iff.mp hc).1
          have hz2 : z.cps.toList.length ≤ 1000 := by rw [Array.length_toList]; exact hz
          refine ⟨rfl, _, rfl, _, rfl, c, Lt, rfl, rfl, _, hL, ?_, fun d o e => ?_, ?_⟩
          · rw [List.length_map, List.length_map, List.length_take, sizeLine_eq]
            omega
          · rw [upd_ne (ne_of_none e nL)]
            exact sm _ _ e
          · rw [upd_same, List.take_add_one, hc]
            simp
        · obtain ⟨sm, hL⟩ := pv
          rw [List.take_length] at hL
          refine ⟨L, _, rfl, SqL.of hL, ?_⟩
          rw [eD]
          have h1 := fin H2 sm
          have e1 : spelledL Lt (.str z) = (z.cps.toList.map fun c => decide (c ∈ Lt.cps.toList)).all _root_.id := by
            rw [List.all_map]
            rw [hl]
            rfl
          rw [e1] at h1
          exact h1
      by_cases h1 : 1 ≤ z.length
      · refine ite_pos' (by simp; omega) ⟨_, _, rfl, rfl, _, rfl, ?_⟩
        by_cases h2 : z.length ≤ 8
        · refine ite_neg' (by simp; omega) ?_
          exact tail (by unfold spelledL; simp [h1, h2]) _ rfl
        · refine ite_pos' (by simp; omega) ?_
          exact hF (by unfold spelledL; simp [h2])
      · refine ite_neg' (by simp; omega) ⟨_, rfl, ite_pos' rfl ?_⟩
        exact hF (by unfold spelledL; simp [h1])
    | _ => exact ite_pos' (show (true : Bool) = true from rfl) (ite_pos' rfl (hF rfl))
theorem spell_low (z : Str) : spelledL abc (.str z) = lowLen z := by
  unfold spelledL lowLen lowB
  simp only [in_abc]
theorem scIsWord : FnScope ["value"] ["value"] (defScope sIsWord) := ⟨rfl, rfl, rfl, by decide +kernel, rfl, by decide +kernel, by decide +kernel⟩
theorem wordB_eq (z : Str) : wordB z = (lowLen z && !decide (z ∈ resW)) := by
  unfold wordB lowLen
  by_cases h : z ∈ resW <;> simp [h]
theorem cl_isWord (D : DefAt K mg "is_word" sIsWord ["value"]) (T : Tw K mg) (cS : Cl P w K mg base CX0 1 "is_spelled" spIsSpelled) : Cl P w K mg base CX0 2 "is_word" spIsWord := by
  obtain ⟨f, fd, F, g, bd⟩ := D.ex
  obtain ⟨ts, gs⟩ := T.small
  obtain ⟨ra, gR, hR⟩ := T.res
  refine ⟨f, fd, _, F.ok scIsWord (fun vs H Q E h => ?_) (fun cdv A outer s H vs Q E hr h => ?_), g, F.kp, bd⟩
  · obtain ⟨v, d, rfl, _⟩ := h
    rfl
  · obtain ⟨v, d, rfl, hv, fin⟩ := h
    refine ⟨_, pss_one (ps_ret (pe_and (pe_cl cS hr pass0 (pa_cons (pv 0) (pa_cons (pe_glob rfl gs (v := .str abc) ⟨_, rfl⟩) pa_nil))) (pe_one (pe_cmpR op_notIn_seq (pv 0) (pe_glob rfl gR (v := .ref ra) rfl) rfl)))), ?_⟩
    refine ⟨_, rfl, v, d, abc, rfl, hv, fun H' sm => ⟨_, rfl, ?_⟩⟩
    have h1 := fin H' sm
    cases hv with
    | str z hz =>
      have e1 : wordD (.str z) = (lowLen z && !decide (z ∈ resW)) := wordB_eq z
      rw [e1] at h1
      rw [spell_low z]
      cases hl : lowLen z with
      | false =>
        rw [hl] at h1
        exact ite_neg' (by decide) h1
      | true =>
        rw [hl] at h1
        refine ite_pos' rfl ?_
        refine ⟨_, rfl, ra, resW.map V.str, rfl, .inr (hR H'), rfl, flat_strs resW, ?_⟩
        rw [if_pos rfl, in_strs]
        exact h1
    | _ => exact ite_neg' (show ¬ ((false : Bool) = true) from by decide) h1
theorem scIsConst : FnScope ["value"] ["value"] (defScope sIsConst) := ⟨rfl, rfl, rfl, by decide +kernel, rfl, by decide +kernel, by decide +kernel⟩
theorem cl_isConst (D : DefAt K mg "is_constant" sIsConst ["value"]) (T : Tw K mg) (cS : Cl P w K mg base CX0 1 "is_spelled" spIsSpelled) : Cl P w K mg base CX0 2 "is_constant" spIsConst := by
  obtain ⟨f, fd, F, g, bd⟩ := D.ex
  obtain ⟨ts, gs⟩ := T.capital
  refine ⟨f, fd, _, F.ok scIsConst (fun vs H Q E h => ?_) (fun cdv A outer s H vs Q E hr h => ?_), g, F.kp, bd⟩
  · obtain ⟨v, d, rfl, _⟩ := h
    rfl
  · obtain ⟨v, d, rfl, hv, fin⟩ := h
    exact ⟨_, pss_one (ps_ret (pe_cl cS hr pass0 (pa_cons (pv 0) (pa_cons (pe_glob rfl gs (v := .str ABC) ⟨_, rfl⟩) pa_nil)))), _, rfl, v, d, ABC, rfl, hv, fin⟩
end
end My
namespace My
open PySem PySem.Spec PyProof.Rows L2
def headsW : List Str := ["set", "let", "return", "refuse", "super", "if"]
def signsW : List Str := ["is", "is not", "==", "!="]
/-- .. of the module of rows -/
structure Tf (K : PySem.W.Frag) (mg : Str → Option Value) : Prop extends Tw K mg where
  rows : ∃ t, mg "MOST_ROWS" = some (.int 16 t)
  ifs : ∃ t, mg "MOST_IFS" = some (.int 4 t)
  signs : ∃ a, mg "SIGNS" = some (.ref a) ∧ ∀ H, SqT K H a (signsW.map V.str)
  heads : ∃ a, mg "METHOD_HEADS" = some (.ref a) ∧ ∀ H, SqT K H a (headsW.map V.str)
theorem LayN.parts {n : Nat} {ds : List PyData} (h : LayN (n + 1) (.tuple ds)) : ∀ e ∈ ds, LayN n e := by
  obtain ⟨h1, h2⟩ := h
  unfold PyData.canLay0 at h1
  unfold PyData.depth at h2
  have h3 : PyData.depthAll ds ≤ n := by omega
  clear h2
  induction ds with
  | nil => exact fun e he => nomatch he
  | cons d ds ih =>
    unfold PyData.canLayAll0 at h1
    unfold PyData.depthAll at h3
    rw [Bool.and_eq_true] at h1
    have h4 := Nat.max_le.mp h3
    intro e he
    rcases List.mem_cons.mp he with rfl | he
    · exact ⟨h1.1, h4.1⟩
    · exact ih h1.2 h4.2 e he
def isNoD : PyData → Bool
  | .none => true
  | _ => false
def useCD : PyData → Bool
  | .tuple [a, b] => PyData.eqv a (.str "cls") && constD b
  | _ => false
def useFD : PyData → Bool
  | .tuple [a, b] => PyData.eqv a (.str "self") && wordD b
  | _ => false
def leafD (d : PyData) : Bool := isNoD d || (wordD d || (useFD d || useCD d))
def exprD : Nat → PyData → Bool
  | 0, d => leafD d
  | n + 1, d => leafD d || (match d with
    | .tuple (h :: p) => (decide (p.length = 1) || decide (p.length = 2)) && (wordD h && p.all (exprD n))
    | _ => false)
def spUse (c : PyData → Bool) : Sp := fun vs H Q _ => ∃ v d, vs = [v] ∧ Vd H v d ∧ LayN 60 d ∧ ∀ H', Same H H' → Q (.bl (c d)) H'
def spExpr (n : Nat) : Sp := fun vs H Q _ => ∃ v d, vs = [v, .int n] ∧ Vd H v d ∧ LayN 60 d ∧ ∀ H', Same H H' → Q (.bl (exprD n d)) H'
/-- of the pair that a field or a constant is -/
def pairD (t : Str) (c : PyData → Bool) : PyData → Bool
  | .tuple [a, b] => PyData.eqv a (.str t) && c b
  | _ => false
section
variable {P : Program} {w : World} {K : PySem.W.Frag} {mg : Str → Option Value} {base : Heap}
theorem scUseC : FnScope ["value"] ["value"] (defScope sUseC) := ⟨rfl, rfl, rfl, by decide +kernel, rfl, by decide +kernel, by decide +kernel⟩
theorem scUseF : FnScope ["value"] ["value"] (defScope sUseF) := ⟨rfl, rfl, rfl, by decide +kernel, rfl, by decide +kernel, by decide +kernel⟩
theorem cl_useC (D : DefAt K mg "is_use_of_constant" sUseC ["value"]) (T : Tw K mg) (cC : Cl P w K mg base CX0 2 "is_constant" spIsConst) : Cl P w K mg base CX0 3 "is_use_of_constant" (spUse useCD) := by
  obtain ⟨f, fd, F, g, bd⟩ := D.ex
  refine ⟨f, fd, _, F.ok scUseC (fun vs H Q E h => ?_) (fun cdv A outer s H vs Q E hr h => ?_), g, F.kp, bd⟩
  · obtain ⟨v, d, rfl, _⟩ := h
    rfl
  · obtain ⟨v, d, rfl, hv, hl, fin⟩ := h
    obtain ⟨t, ht, k1, k2, k3, k4⟩ := hv.ty (K := K)
    refine ⟨_, pss_one (ps_ret (pe_and (pe_callB call_isi (by rfl) T.isi (by decide +kernel) (pa_cons (pv 0) (pa_cons (pe_bltn rfl T.tuple (by decide +kernel) (v := .ty "tuple") rfl) pa_nil)))
      (pe_and (pe_cmpR op_eq (pe_callB call_len_seq (by rfl) T.len PySem.boot_len (pa_cons (pv 0) pa_nil)) pe_int (nomark _)) (pe_and (pe_cmpR (op_eqD ?hu) (pe_ix ix_tup (pv 0) pe_int (fun _ _ => rfl)) pe_str (nomark _)) (pe_one (pe_cl cC hr pass0 (pa_cons (pe_ix ix_tup (pv 0) pe_int (fun _ _ => rfl)) pa_nil))))))), ?_⟩
    case hu =>
      have := hr.un
      show (A.deeper (envOfC "is_use_of_constant" (defScope sUseC) s.heap.objs.size f cdv)).units + 64 < cLine
      omega
    refine ⟨_, rfl, v, _, t, _, _, rfl, .ty "tuple", ht, k4, _, rfl, ?_⟩
    have hF : useCD d = false → Q (.bl false) H := fun e => by
      have := fin H (Same.refl _)
      rw [e] at this
      exact this
    cases hv with
    | @tup a xs ds h k =>
      refine ite_pos' rfl ⟨_, rfl, a, _, rfl, .inr (SqT.of h), rfl, _, rfl, ?_⟩
      have hlen := k.len
      match ds, xs, k, hlen with
      | [da, db], [xa, xb], k, _ =>
        obtain ⟨d1, e1, v1⟩ := k.at (i := 0) (v := xa) rfl
        obtain ⟨d2, e2, v2⟩ := k.at (i := 1) (v := xb) rfl
        cases e1
        cases e2
        have lp := hl.parts
        refine ite_pos' rfl ⟨_, rfl, a, _, 0, xa, rfl, rfl, SqT.of h, (by exact atI_nat (j := 0) (by rfl)), da, .str "cls", v1.dp, .str _, (lp da List.mem_cons_self).shaped (by omega), by decide +kernel, _, rfl, ?_⟩
        cases he : PyData.eqv da (.str "cls") with
        | false => exact ite_neg' (by decide) (hF (by show (PyData.eqv da (.str "cls") && constD db) = false; rw [he]; rfl))
        | true =>
          refine ite_pos' rfl ⟨_, rfl, a, _, 1, xb, rfl, rfl, SqT.of h, (by exact atI_nat (j := 1) (by rfl)), xb, db, rfl, v2, fun H' sm => ?_⟩
          have := fin H' sm
          have e3 : useCD (.tuple [da, db]) = constD db := by show (PyData.eqv da (.str "cls") && constD db) = _; rw [he]; rfl
          rw [e3] at this
          exact this
      | [], _, _, e => exact ite_neg' (by rw [e]; decide) (hF rfl)
      | [_], _, _, e => exact ite_neg' (by rw [e]; simp) (hF rfl)
      | _ :: _ :: _ :: _, _, _, e => exact ite_neg' (by rw [e]; simp; omega) (hF rfl)
    | _ => exact ite_neg' (show ¬ ((false : Bool) = true) from by decide) (hF rfl)
theorem cl_useF (D : DefAt K mg "is_use_of_field" sUseF ["value"]) (T : Tw K mg) (cC : Cl P w K mg base CX0 2 "is_word" spIsWord) : Cl P w K mg base CX0 3 "is_use_of_field" (spUse useFD) := by
  obtain ⟨f, fd, F, g, bd⟩ := D.ex
  refine ⟨f, fd, _, F.ok scUseF (fun vs H Q E h => ?_) (fun cdv A outer s H vs Q E hr h => ?_), g, F.kp, bd⟩
  · obtain ⟨v, d, rfl, _⟩ := h
    rfl
  · obtain ⟨v, d, rfl, hv, hl, fin⟩ := h
    obtain ⟨t, ht, k1, k2, k3, k4⟩ := hv.ty (K := K)
    refine ⟨_, pss_one (ps_ret (pe_and (pe_callB call_isi (by rfl) T.isi (by decide +kernel) (pa_cons (pv 0) (pa_cons (pe_bltn rfl T.tuple (by decide +kernel) (v := .ty "tuple") rfl) pa_nil)))
      (pe_and (pe_cmpR op_eq (pe_callB call_len_seq (by rfl) T.len PySem.boot_len (pa_cons (pv 0) pa_nil)) pe_int (nomark _)) (pe_and (pe_cmpR (op_eqD ?hu) (pe_ix ix_tup (pv 0) pe_int (fun _ _ => rfl)) pe_str (nomark _)) (pe_one (pe_cl cC hr pass0 (pa_cons (pe_ix ix_tup (pv 0) pe_int (fun _ _ => rfl)) pa_nil))))))), ?_⟩
    case hu =>
      have := hr.un
      show (A.deeper (envOfC "is_use_of_field" (defScope sUseF) s.heap.objs.size f cdv)).units + 64 < cLine
      omega
    refine ⟨_, rfl, v, _, t, _, _, rfl, .ty "tuple", ht, k4, _, rfl, ?_⟩
    have hF : useFD d = false → Q (.bl false) H := fun e => by
      have := fin H (Same.refl _)
      rw [e] at this
      exact this
    cases hv with
    | @tup a xs ds h k =>
      refine ite_pos' rfl ⟨_, rfl, a, _, rfl, .inr (SqT.of h), rfl, _, rfl, ?_⟩
      have hlen := k.len
      match ds, xs, k, hlen with
      | [da, db], [xa, xb], k, _ =>
        obtain ⟨d1, e1, v1⟩ := k.at (i := 0) (v := xa) rfl
        obtain ⟨d2, e2, v2⟩ := k.at (i := 1) (v := xb) rfl
        cases e1
        cases e2
        have lp := hl.parts
        refine ite_pos' rfl ⟨_, rfl, a, _, 0, xa, rfl, rfl, SqT.of h, (by exact atI_nat (j := 0) (by rfl)), da, .str "self", v1.dp, .str _, (lp da List.mem_cons_self).shaped (by omega), by decide +kernel, _, rfl, ?_⟩
        cases he : PyData.eqv da (.str "self") with
        | false => exact ite_neg' (by decide) (hF (by show (PyData.eqv da (.str "self") && wordD db) = false; rw [he]; rfl))
        | true =>
          refine ite_pos' rfl ⟨_, rfl, a, _, 1, xb, rfl, rfl, SqT.of h, (by exact atI_nat (j := 1) (by rfl)), xb, db, rfl, v2, fun H' sm => ?_⟩
          have := fin H' sm
          have e3 : useFD (.tuple [da, db]) = wordD db := by show (PyData.eqv da (.str "self") && wordD db) = _; rw [he]; rfl
          rw [e3] at this
          exact this
      | [], _, _, e => exact ite_neg' (by rw [e]; decide) (hF rfl)
      | [_], _, _, e => exact ite_neg' (by rw [e]; simp) (hF rfl)
      | _ :: _ :: _ :: _, _, _, e => exact ite_neg' (by rw [e]; simp; omega) (hF rfl)
    | _ => exact ite_neg' (show ¬ ((false : Bool) = true) from by decide) (hF rfl)
end
end My
namespace My
open PySem PySem.Spec PyProof.Rows L2
theorem cut_drop {xs : List V} {k : Nat} (h : k ≤ xs.length) : cutV xs (some ((k : Nat) : Int)) none = xs.drop k := by
  unfold cutV
  rw [HT.sIx_nat, Nat.min_eq_left h]
  show (xs.drop k).take (xs.length - k) = _
  exact List.take_of_length_le (by rw [List.length_drop]; exact Nat.le_refl _)
theorem cut_take {xs : List V} {k : Nat} (h : k ≤ xs.length) : cutV xs none (some ((k : Nat) : Int)) = xs.take k := by
  unfold cutV
  rw [HT.sIx_nat, Nat.min_eq_left h]
  rfl
/-- what is left of an expression that is no leaf -/
def bodyD : Nat → PyData → Bool
  | n + 1, .tuple (h :: p) => (decide (p.length = 1) || decide (p.length = 2)) && (wordD h && p.all (exprD n))
  | _, _ => false
theorem expr_body {n : Nat} {d : PyData} (h : leafD d = false) : exprD n d = bodyD n d := by
  cases n with
  | zero => exact h
  | succ n =>
    unfold exprD
    rw [h, Bool.false_or]
    cases d with
    | tuple ds => cases ds <;> rfl
    | _ => rfl
theorem expr_leaf {n : Nat} {d : PyData} (h : leafD d = true) : exprD n d = true := by
  cases n with
  | zero => exact h
  | succ n =>
    unfold exprD
    rw [h, Bool.true_or]
theorem in_23 (k : Nat) : inV (.int ((k : Nat) : Int)) [.int 2, .int 3] = (decide (k = 2) || decide (k = 3)) := by
  show ((((2 : Int) == ((k : Nat) : Int)) || (((3 : Int) == ((k : Nat) : Int)) || false))) = _
  by_cases h2 : k = 2
  · subst h2
    rfl
  · by_cases h3 : k = 3
    · subst h3
      rfl
    · have e1 : ((2 : Int) == ((k : Nat) : Int)) = false := beq_eq_false_iff_ne.mpr (by omega)
      have e2 : ((3 : Int) == ((k : Nat) : Int)) = false := beq_eq_false_iff_ne.mpr (by omega)
      rw [e1, e2]
      simp [h2, h3]
abbrev NE : List Str := ["value", "makers", "part"]
section
variable {P : Program} {w : World} {K : PySem.W.Frag} {mg : Str → Option Value} {base : Heap}
theorem scExpr : FnScope NE ["value", "makers"] (defScope sIsExpr) := ⟨rfl, rfl, rfl, by decide +kernel, rfl, by decide +kernel, by decide +kernel⟩
/-- a def with a default, called with it and without it -/
structure DefAt2 (K : PySem.W.Frag) (mg : Str → Option Value) (x : Str) (st : Stmt) (ps : List Str) (dvs : List V) : Prop where
  ex : ∃ (f : Addr) (fd : FuncData), FunD K x x (defArgs st) (defBody st) (defScope st) dvs [] f fd ∧ mg x = some (.ref f) ∧ (∃ ds, Vals dvs ds ∧ Binds K fd ps ds) ∧ Binds K fd ps []
theorem cl_expr (D : DefAt2 K mg "is_expression" sIsExpr ["value", "makers"] [.int 3]) (T : Tw K mg) (cW : Cl P w K mg base CX0 2 "is_word" spIsWord) (cF : Cl P w K mg base CX0 3 "is_use_of_field" (spUse useFD)) (cC : Cl P w K mg base CX0 3 "is_use_of_constant" (spUse useCD)) :
    ∀ n : Nat, Cl P w K mg base CX0 (n + 4) "is_expression" (spExpr n) ∧ ClD P w K mg base CX0 (n + 4) "is_expression" [.int 3] (spExpr n) := by
  obtain ⟨f, fd, F, g, ⟨dsv, hdsv, bd⟩, bd2⟩ := D.ex
  have nd := scExpr.nd
  have body : ∀ (n k : Nat), 3 ≤ k → (n = 0 ∨ ∃ m, n = m + 1 ∧ Cl P w K mg base CX0 k "is_expression" (spExpr m)) → FnOk P w K mg base CX0 (k + 1) f fd ["value", "makers"] (spExpr n) := by
    intro n k hk3 cS
    refine F.ok scExpr (fun vs H Q E h => ?_) (fun cdv A outer s H vs Q E hr h => ?_)
    · obtain ⟨v, d, rfl, _⟩ := h
      rfl
    · obtain ⟨v, d, rfl, hv, hl, fin⟩ := h
      have first : ∀ D : Ends, D.rt = Q → (∀ H', leafD d = false → Same H H' → D.nx [some v, some (.int n), none] H') →
          (tIfS (tOr (tTest (tOp (fun x y H Q => y = .non ∧ Q (.bl (decide (x = .non))) H) (tVar 0) (tC .non))) (tOr (tB (tCall spIsWord [] E0 (tCons (tVar 0) tNil))) (tOr (tB (tCall (spUse useFD) [] E0 (tCons (tVar 0) tNil))) (tB (tCall (spUse useCD) [] E0 (tCons (tVar 0) tNil)))))) (tRet (tC (.bl true))) tNext) D [some v, some (.int n), none] H := by
        intro D eD hnx
        have yes : ∀ H', leafD d = true → Same H H' → D.rt (.bl true) H' := fun H' e sm => by
          have := fin H' sm
          rw [expr_leaf e] at this
          rw [eD]
          exact this
        refine ⟨_, rfl, rfl, _, rfl, ?_⟩
        by_cases hn : v = .non
        · refine ite_pos' (by simp [hn]) (ite_pos' rfl (yes H ?_ (Same.refl _)))
          subst hn
          cases hv
          rfl
        · have e0 : isNoD d = false := by
            cases hv with
            | non => exact absurd rfl hn
            | _ => rfl
          refine ite_neg' (by simp [hn]) ⟨_, rfl, v, d, rfl, hv, fun H1 s1 => ⟨_, rfl, ?_⟩⟩
          cases ew : wordD d with
          | true => exact ite_pos' rfl (ite_pos' rfl (yes H1 (by unfold leafD; rw [e0, ew]; rfl) s1))
          | false =>
            refine ite_neg' (by decide) ⟨_, rfl, v, d, rfl, hv.up s1, hl, fun H2 s2 => ⟨_, rfl, ?_⟩⟩
            cases ef : useFD d with
            | true => exact ite_pos' rfl (ite_pos' rfl (yes H2 (by unfold leafD; rw [e0, ew, ef]; rfl) (s1.trans s2)))
            | false =>
              refine ite_neg' (by decide) ⟨_, rfl, v, d, rfl, hv.up (s1.trans s2), hl, fun H3 s3 => ⟨_, rfl, ?_⟩⟩
              cases ec : useCD d with
              | true => exact ite_pos' rfl (yes H3 (by unfold leafD; rw [e0, ew, ef, ec]; rfl) (s1.trans (s2.trans s3)))
              | false => exact ite_neg' (by decide) (hnx H3 (by unfold leafD; rw [e0, ew, ef, ec]; rfl) (s1.trans (s2.trans s3)))
      rcases cS with rfl | ⟨m, rfl, cS⟩
      · refine ⟨_, C8.pss_cut (ps_if (PW.pt (pw_or (pt_cmpR op_isN (pv 0) pe_non (nomark _)) (pw_or (pt_val (pe_cl cW hr pass0 (pa_cons (pv 0) pa_nil) (by omega))) (pw_or (pt_val (pe_cl cF hr pass0 (pa_cons (pv 0) pa_nil) (by omega))) (pw_or1 (pt_val (pe_cl cC hr pass0 (pa_cons (pv 0) pa_nil) (by omega)))))))) (pss_one (ps_ret pe_bl)) pss_nil)
          (C8.pss_cut (ps_if (PW.pt (pw_or (pt_not (pt_val (pe_callB call_isi (by rfl) T.isi (by decide +kernel) (pa_cons (pv 0) (pa_cons (pe_bltn rfl T.tuple (by decide +kernel) (v := .ty "tuple") rfl) pa_nil))))) (pw_or1 (pt_cmpR op_notIn_seq (pe_callB call_len_seq (by rfl) T.len PySem.boot_len (pa_cons (pv 0) pa_nil)) (pe_tup (pa_cons pe_int (pa_cons pe_int pa_nil))) rfl)))) (pss_one (ps_ret pe_bl)) pss_nil)
          (pss_cons (ps_if (PW.pt (pw_or (pt_cmpR op_eq (pv 1) pe_int (nomark _)) pw_dead)) (pss_one (ps_ret pe_bl)) pss_nil)
          pss_dead)), ?_⟩
        refine ⟨fun σ' H' => leafD d = false ∧ σ' = [some v, some (.int ((0 : Nat) : Int)), none] ∧ Same H H', first _ rfl (fun H' e sm => ⟨e, rfl, sm⟩), ?_⟩
        rintro _ H1 ⟨hlf, rfl, s1⟩
        have no : ∀ H', bodyD 0 d = false → Same H H' → Q (.bl false) H' := fun H' e sm => by
          have := fin H' sm
          rw [expr_body hlf, e] at this
          exact this
        refine ⟨fun σ' H' => ∃ (a : Addr) (h0 : PyData) (p : List PyData) (x0 : V) (xs : List V), v = .ref a ∧ d = .tuple (h0 :: p) ∧ (decide (p.length = 1) || decide (p.length = 2)) = true ∧ H' a = some (.tup (x0 :: xs)) ∧ Vd H' x0 h0 ∧ VdAll H' xs p ∧ σ' = [some v, some (.int ((0 : Nat) : Int)), none] ∧ Same H H', ?_, ?_⟩
        · obtain ⟨t, ht, k1, k2, k3, k4⟩ := (hv.up s1).ty (K := K)
          refine ⟨_, rfl, v, _, t, _, _, rfl, .ty "tuple", ht, k4, _, rfl, ?_⟩
          have hv1 := hv.up s1
          cases hv1 with
          | @tup a xs ds h k =>
            refine ite_neg' (show ¬ ((!true) = true) from by decide) ⟨_, rfl, a, _, rfl, .inr (SqT.of h), (by show 2 ≤ sizeLine; decide), fun q nq => ⟨q, _, rfl, .inr (SqT.of upd_same), rfl, rfl, _, rfl, ?_⟩⟩
            have s2 := same_new (o := .tup [.int 2, .int 3]) nq
            rw [if_pos rfl, in_23, k.len]
            have hlen := k.len
            match ds, xs, k, hlen with
            | [], _, _, _ => exact ite_pos' (by simp) (no _ (by rfl) (s1.trans s2))
            | h0 :: p, x0 :: xs', k, hl2 =>
              cases k with
              | cons c1 c2 =>
                cases hp : (decide (p.length = 1) || decide (p.length = 2)) with
                | true =>
                  refine ite_neg' ?_ ⟨a, h0, p, x0, xs', rfl, rfl, hp, s2 _ _ h, c1.up s2, c2.up s2, rfl, s1.trans s2⟩
                  simp at hp ⊢
                  omega
                | false =>
                  refine ite_pos' ?_ (no _ (by rfl) (s1.trans s2))
                  simp at hp ⊢
                  omega
          | _ => exact ite_pos' rfl (ite_pos' rfl (no H1 (by rfl) s1))
        · rintro _ H2 ⟨a, h0, p, x0, xs, rfl, rfl, hpl, ha, c1, c2, rfl, s2⟩
          exact ⟨_, rfl, rfl, _, rfl, ite_pos' (by decide) (ite_pos' rfl (no H2 rfl s2))⟩
      · refine ⟨_, C8.pss_cut (ps_if (PW.pt (pw_or (pt_cmpR op_isN (pv 0) pe_non (nomark _)) (pw_or (pt_val (pe_cl cW hr pass0 (pa_cons (pv 0) pa_nil) (by omega))) (pw_or (pt_val (pe_cl cF hr pass0 (pa_cons (pv 0) pa_nil) (by omega))) (pw_or1 (pt_val (pe_cl cC hr pass0 (pa_cons (pv 0) pa_nil) (by omega)))))))) (pss_one (ps_ret pe_bl)) pss_nil)
          (C8.pss_cut (ps_if (PW.pt (pw_or (pt_not (pt_val (pe_callB call_isi (by rfl) T.isi (by decide +kernel) (pa_cons (pv 0) (pa_cons (pe_bltn rfl T.tuple (by decide +kernel) (v := .ty "tuple") rfl) pa_nil))))) (pw_or1 (pt_cmpR op_notIn_seq (pe_callB call_len_seq (by rfl) T.len PySem.boot_len (pa_cons (pv 0) pa_nil)) (pe_tup (pa_cons pe_int (pa_cons pe_int pa_nil))) rfl)))) (pss_one (ps_ret pe_bl)) pss_nil)
          (C8.pss_cut (ps_if (PW.pt (pw_or (pt_cmpR op_eq (pv 1) pe_int (nomark _)) (pw_or1 (pt_not (pt_val (pe_cl cW hr pass0 (pa_cons (pe_ix ix_tup (pv 0) pe_int (fun _ _ => rfl)) pa_nil) (by omega))))))) (pss_one (ps_ret pe_bl)) pss_nil)
          (pss_one (ps_ret (pe_callB (cr_all rfl) (by rfl) T.all (by decide +kernel) (pa_cons (pe_lc (own := [("part", 2)]) (g := gName 2) (te := tCall (spExpr m) [] E0 (tCons (tVar 2) (tCons (tOp (rI0 fun i j => V.int (i - j)) (tVar 1) (tC (.int 1))) tNil))) (by rfl) nd (pi_tup (pe_slice sl_tup (pv 0) (po_some pe_int) po_none)) (blkOk_by (N := NE) (sc := defScope sIsExpr) (by decide +kernel)) (fun _ _ _ _ _ => pg_name (i := 2) nd rfl (.inl rfl)) (fun _ _ _ _ _ => pts_nil)
            (fun _ _ _ _ _ => pe_cl cS hr pass0 (pa_cons (pv 2) (pa_cons (pe_op op_sub (pv 1) pe_int) pa_nil)) (by omega))) pa_nil)))))), ?_⟩
        refine ⟨fun σ' H' => leafD d = false ∧ σ' = [some v, some (.int ((m + 1 : Nat) : Int)), none] ∧ Same H H', first _ rfl (fun H' e sm => ⟨e, rfl, sm⟩), ?_⟩
        rintro _ H1 ⟨hlf, rfl, s1⟩
        have no : ∀ H', bodyD (m + 1) d = false → Same H H' → Q (.bl false) H' := fun H' e sm => by
          have := fin H' sm
          rw [expr_body hlf, e] at this
          exact this
        refine ⟨fun σ' H' => ∃ (a : Addr) (h0 : PyData) (p : List PyData) (x0 : V) (xs : List V), v = .ref a ∧ d = .tuple (h0 :: p) ∧ (decide (p.length = 1) || decide (p.length = 2)) = true ∧ H' a = some (.tup (x0 :: xs)) ∧ Vd H' x0 h0 ∧ VdAll H' xs p ∧ σ' = [some v, some (.int ((m + 1 : Nat) : Int)), none] ∧ Same H H', ?_, ?_⟩
        · obtain ⟨t, ht, k1, k2, k3, k4⟩ := (hv.up s1).ty (K := K)
          refine ⟨_, rfl, v, _, t, _, _, rfl, .ty "tuple", ht, k4, _, rfl, ?_⟩
          have hv1 := hv.up s1
          cases hv1 with
          | @tup a xs ds h k =>
            refine ite_neg' (show ¬ ((!true) = true) from by decide) ⟨_, rfl, a, _, rfl, .inr (SqT.of h), (by show 2 ≤ sizeLine; decide), fun q nq => ⟨q, _, rfl, .inr (SqT.of upd_same), rfl, rfl, _, rfl, ?_⟩⟩
            have s2 := same_new (o := .tup [.int 2, .int 3]) nq
            rw [if_pos rfl, in_23, k.len]
            have hlen := k.len
            match ds, xs, k, hlen with
            | [], _, _, _ => exact ite_pos' (by simp) (no _ (by rfl) (s1.trans s2))
            | h0 :: p, x0 :: xs', k, hl2 =>
              cases k with
              | cons c1 c2 =>
                cases hp : (decide (p.length = 1) || decide (p.length = 2)) with
                | true =>
                  refine ite_neg' ?_ ⟨a, h0, p, x0, xs', rfl, rfl, hp, s2 _ _ h, c1.up s2, c2.up s2, rfl, s1.trans s2⟩
                  simp at hp ⊢
                  omega
                | false =>
                  refine ite_pos' ?_ (no _ (by show ((decide (p.length = 1) || decide (p.length = 2)) && (wordD h0 && p.all (exprD m))) = false; rw [hp]; rfl) (s1.trans s2))
                  simp at hp ⊢
                  omega
          | _ => exact ite_pos' rfl (ite_pos' rfl (no H1 (by rfl) s1))
        · rintro _ H2 ⟨a, h0, p, x0, xs, rfl, rfl, hpl, ha, c1, c2, rfl, s2⟩
          refine ⟨fun σ' H' => wordD h0 = true ∧ σ' = [some (.ref a), some (.int ((m + 1 : Nat) : Int)), none] ∧ Same H2 H', ?_, ?_⟩
          · refine ⟨_, rfl, rfl, _, rfl, ite_neg' (by simp; omega) ⟨_, rfl, a, _, 0, x0, rfl, rfl, SqT.of ha, (by exact atI_nat (j := 0) (by rfl)), x0, h0, rfl, c1, fun H3 s3 => ⟨_, rfl, ?_⟩⟩⟩
            cases hw : wordD h0 with
            | true => exact ite_neg' (by decide) ⟨rfl, rfl, s3⟩
            | false =>
              refine ite_pos' rfl (no H3 ?_ (s2.trans s3))
              show (_ && (wordD h0 && p.all (exprD m))) = false
              rw [hw, Bool.false_and, Bool.and_false]
          · rintro _ H3 ⟨hw, rfl, s3⟩
            have ha3 := s3 _ _ ha
            have lp := hl.parts
            refine ⟨_, rfl, 1, rfl, a, _, rfl, SqT.of ha3, ?_, fun q nq => ⟨q, rfl, ⟨_, SqT.of upd_same⟩, fun L nL => ?_⟩⟩
            · rintro ⟨h1, _⟩
              cases h1
            have e1 : cutV (x0 :: xs) (some 1) none = xs := cut_drop (xs := x0 :: xs) (k := 1) (by simp)
            rw [e1] at nL ⊢
            have s4 := same_new (o := .tup xs) nq
            have hq4 : (upd H3 q (.tup xs)) q = some (.tup xs) := upd_same
            have c4 : VdAll (upd H3 q (.tup xs)) xs p := (c2.up s3).up s4
            refine lc_tup (K := K) (a := q) (xs := xs) (fun i H5 => Same (upd H3 q (.tup xs)) H5 ∧ H5 L = some (.lst (((p.take i).map (exprD m)).map V.bl))) ?_ (fun i H5 hi pv => SqT.of (pv.1 _ _ hq4)) (fun i x H5 hx pv => ?_) (fun H5 pv => ?_)
            · exact ⟨same_new nL, upd_same⟩
            · obtain ⟨s5, hL⟩ := pv
              obtain ⟨e, he, hve⟩ := c4.at hx
              have em : (((m + 1 : Nat) : Int) - 1) = ((m : Nat) : Int) := by omega
              refine ⟨rfl, _, rfl, _, rfl, _, _, rfl, rfl, x, e, (by show [x, V.int (((m + 1 : Nat) : Int) - 1)] = _; rw [em]), hve.up s5, (lp e (List.mem_cons_of_mem _ (List.mem_of_getElem? he))).mono (by omega), fun H6 s6 => ⟨_, s6 _ _ hL, ?_, fun c o z => ?_, ?_⟩⟩
              · rw [List.length_map, List.length_map, List.length_take, sizeLine_eq]
                simp at hpl
                omega
              · rw [upd_ne (ne_of_none z nL)]
                exact s6 _ _ (s5 _ _ z)
              · rw [upd_same, List.take_add_one, he]
                simp
            · obtain ⟨s5, hL⟩ := pv
              rw [c4.len, List.take_length] at hL
              refine ⟨L, _, rfl, SqL.of hL, ?_⟩
              have h1 := fin H5 (s2.trans (s3.trans (s4.trans s5)))
              have e2 : exprD (m + 1) (.tuple (h0 :: p)) = (p.map (exprD m)).all _root_.id := by
                rw [expr_body hlf, List.all_map]
                show ((decide (p.length = 1) || decide (p.length = 2)) && (wordD h0 && p.all (exprD m))) = _
                rw [hpl, hw]
                rfl
              rw [e2] at h1
              exact h1
  have all : ∀ n : Nat, FnOk P w K mg base CX0 (n + 4) f fd ["value", "makers"] (spExpr n) := by
    intro n
    induction n with
    | zero => exact body 0 3 (by omega) (.inl rfl)
    | succ m ih => exact body (m + 1) (m + 4) (by omega) (.inr ⟨m, rfl, f, fd, _, ih, g, F.kp, bd2⟩)
  exact fun n => ⟨⟨f, fd, _, all n, g, F.kp, bd2⟩, ⟨f, fd, _, dsv, all n, g, F.kp, bd, hdsv⟩⟩
end
end My
namespace My
open PySem PySem.Spec PyProof.Rows L2
def signD (s : PyData) : Bool := (signsW.map PyData.str).any fun z => PyData.eqv z s
def testD (a s b : PyData) : Bool := exprD 3 a && (signD s && exprD 3 b)
def spTest : Sp := fun vs H Q _ => ∃ x y z a s b, vs = [x, y, z, .int 3] ∧ Vd H x a ∧ Vd H y s ∧ Vd H z b ∧ LayN 60 a ∧ LayN 60 s ∧ LayN 60 b ∧ ∀ H', Same H H' → Q (.bl (testD a s b)) H'
def ifD : List PyData → Bool
  | [_, a, s, b, x, y] => testD a s b && (isTupD x && isTupD y)
  | _ => false
def superD : List PyData → Bool
  | _ :: w :: ps => (isNoD w || wordD w) && ps.all (exprD 3)
  | _ => false
/-- of a row that is a tuple -/
def spRowT (c : List PyData → Bool) : Sp := fun vs H Q _ => ∃ v ds, vs = [v] ∧ Vd H v (.tuple ds) ∧ LayN 60 (.tuple ds) ∧ ds.length ≤ 1000 ∧ ∀ H', Same H H' → Q (.bl (c ds)) H'
def setD : List PyData → Bool
  | [w, e] => wordD w && exprD 3 e
  | _ => false
def oneD : List PyData → Bool
  | [e] => exprD 3 e
  | _ => false
def headD (h : Str) (ps : List PyData) : Bool := if h = "if" then ifD (.str h :: ps) else if h = "super" then superD (.str h :: ps) else if h = "set" ∨ h = "let" then setD ps else oneD ps
/-- a row -/
def rowD : PyData → Bool
  | .tuple (.str h :: ps) => decide (h ∈ headsW) && headD h ps
  | _ => false
theorem dp_strs {K : PySem.W.Frag} {H : Hp} : ∀ ws : List Str, DpAll K H (ws.map V.str) (ws.map PyData.str)
  | [] => .nil
  | z :: ws => .cons (.str z) (dp_strs ws)
theorem any_str (z : Str) : ∀ ws : List Str, ((ws.map PyData.str).any fun q => PyData.eqv q (.str z)) = decide (z ∈ ws)
  | [] => rfl
  | y :: ws => by
    rw [List.map_cons, List.any_cons, any_str z ws]
    show ((y == z) || _) = _
    by_cases h : z = y
    · subst h
      simp
    · have h' : (y == z) = false := by
        rw [beq_eq_false_iff_ne]
        exact fun e => h e.symm
      rw [h']
      simp [h]
theorem any_nostr {d : PyData} (h : isStrD d = false) : ∀ ws : List Str, ((ws.map PyData.str).any fun q => PyData.eqv q d) = false
  | [] => rfl
  | y :: ws => by
    rw [List.map_cons, List.any_cons, any_nostr h ws, Bool.or_false]
    cases d with
    | str z => cases h
    | _ => rfl
section
variable {P : Program} {w : World} {K : PySem.W.Frag} {mg : Str → Option Value} {base : Heap}
theorem scTest : FnScope ["one", "sign", "other", "makers"] ["one", "sign", "other", "makers"] (defScope sIsTest) := ⟨rfl, rfl, rfl, by decide +kernel, rfl, by decide +kernel, by decide +kernel⟩
theorem cl_test (D : DefAtD K mg "is_test" sIsTest ["one", "sign", "other", "makers"] [.int 3]) (T : Tf K mg) (cE : Cl P w K mg base CX0 7 "is_expression" (spExpr 3)) : ClD P w K mg base CX0 8 "is_test" [.int 3] spTest := by
  obtain ⟨f, fd, F, g, ds, hd, bd⟩ := D.ex
  obtain ⟨sa, gS, hS⟩ := T.signs
  refine ⟨f, fd, _, ds, F.ok scTest (fun vs H Q E h => ?_) (fun cdv A outer s H vs Q E hr h => ?_), g, F.kp, bd, hd⟩
  · obtain ⟨x, y, z, a, s, b, rfl, _⟩ := h
    rfl
  · obtain ⟨x, y, z, a, sg, b, rfl, vx, vy, vz, la, ls, lb, fin⟩ := h
    refine ⟨_, pss_one (ps_ret (pe_and (pe_cl cE hr pass0 (pa_cons (pv 0) (pa_cons (pv 3) pa_nil))) (pe_and (pe_cmpR (op_inT ?hu) (pv 1) (pe_glob rfl gS (v := .ref sa) rfl) rfl) (pe_one (pe_cl cE hr pass0 (pa_cons (pv 2) (pa_cons (pv 3) pa_nil))))))), ?_⟩
    case hu =>
      have := hr.un
      show (A.deeper (envOfC "is_test" (defScope sIsTest) s.heap.objs.size f cdv)).units + 65 < cLine
      omega
    refine ⟨_, rfl, _, rfl, x, a, rfl, vx, la, fun H1 s1 => ⟨_, rfl, ?_⟩⟩
    cases h1 : exprD 3 a with
    | false =>
      refine ite_neg' (by decide) ?_
      have := fin H1 s1
      have e : testD a sg b = false := by show (exprD 3 a && _) = false; rw [h1]; rfl
      rw [e] at this
      exact this
    | true =>
      refine ite_pos' rfl ⟨_, rfl, sg, signsW.map PyData.str, (vy.up s1).dp, .tup (hS H1) (dp_strs signsW), ls.shaped (by omega), by decide +kernel, _, rfl, ?_⟩
      show if signD sg = true then _ else _
      cases h2 : signD sg with
      | false =>
        refine ite_neg' (by decide) ?_
        have := fin H1 s1
        have e : testD a sg b = false := by show (exprD 3 a && (signD sg && _)) = false; rw [h2, Bool.false_and, Bool.and_false]
        rw [e] at this
        exact this
      | true =>
        refine ite_pos' rfl ⟨_, rfl, _, rfl, z, b, rfl, vz.up s1, lb, fun H2 s2 => ?_⟩
        have := fin H2 (s1.trans s2)
        have e : testD a sg b = exprD 3 b := by show (exprD 3 a && (signD sg && exprD 3 b)) = _; rw [h1, h2]; rfl
        rw [e] at this
        exact this
theorem scIf : FnScope ["row"] ["row"] (defScope sIsIf) := ⟨rfl, rfl, rfl, by decide +kernel, rfl, by decide +kernel, by decide +kernel⟩
theorem cl_if (D : DefAt K mg "is_if" sIsIf ["row"]) (T : Tf K mg) (cT : ClD P w K mg base CX0 8 "is_test" [.int 3] spTest) : Cl P w K mg base CX0 9 "is_if" (spRowT ifD) := by
  obtain ⟨f, fd, F, g, bd⟩ := D.ex
  refine ⟨f, fd, _, F.ok scIf (fun vs H Q E h => ?_) (fun cdv A outer s H vs Q E hr h => ?_), g, F.kp, bd⟩
  · obtain ⟨v, ds, rfl, _⟩ := h
    rfl
  · obtain ⟨v, ds, rfl, hv, hl, hlen, fin⟩ := h
    refine ⟨_, pss_cons (ps_if (PW.pt (pw_or (pt_cmpR op_ne (pe_callB call_len_seq (by rfl) T.len PySem.boot_len (pa_cons (pv 0) pa_nil)) pe_int (nomark _)) (pw_or1 (pt_not (pt_val (pe_clD cT hr pass0 (pa_cons (pe_ix ix_tup (pv 0) pe_int (fun _ _ => rfl)) (pa_cons (pe_ix ix_tup (pv 0) pe_int (fun _ _ => rfl)) (pa_cons (pe_ix ix_tup (pv 0) pe_int (fun _ _ => rfl)) pa_nil))))))))) (pss_one (ps_ret pe_bl)) pss_nil)
      (pss_one (ps_ret (pe_and (pe_callB call_isi (by rfl) T.isi (by decide +kernel) (pa_cons (pe_ix ix_tup (pv 0) pe_int (fun _ _ => rfl)) (pa_cons (pe_bltn rfl T.tuple (by decide +kernel) (v := .ty "tuple") rfl) pa_nil)))
        (pe_one (pe_callB call_isi (by rfl) T.isi (by decide +kernel) (pa_cons (pe_ix ix_tup (pv 0) pe_int (fun _ _ => rfl)) (pa_cons (pe_bltn rfl T.tuple (by decide +kernel) (v := .ty "tuple") rfl) pa_nil))))))), ?_⟩
    cases hv with
    | @tup a xs _ h k =>
      refine ⟨_, rfl, a, _, rfl, .inr (SqT.of h), rfl, _, rfl, ?_⟩
      have hlx := k.len
      by_cases h6 : ds.length = 6
      · match ds, xs, k, hlx, h6 with
        | [d0, d1, d2, d3, d4, d5], [x0, x1, x2, x3, x4, x5], k, _, _ =>
          have v1 : Vd H x1 d1 := by obtain ⟨d, e, q⟩ := k.at (i := 1) (v := x1) rfl; cases e; exact q
          have v2 : Vd H x2 d2 := by obtain ⟨d, e, q⟩ := k.at (i := 2) (v := x2) rfl; cases e; exact q
          have v3 : Vd H x3 d3 := by obtain ⟨d, e, q⟩ := k.at (i := 3) (v := x3) rfl; cases e; exact q
          have v4 : Vd H x4 d4 := by obtain ⟨d, e, q⟩ := k.at (i := 4) (v := x4) rfl; cases e; exact q
          have v5 : Vd H x5 d5 := by obtain ⟨d, e, q⟩ := k.at (i := 5) (v := x5) rfl; cases e; exact q
          have lp := hl.parts
          have l1 := (lp d1 (by simp)).mono (m := 60) (by omega)
          have l2 := (lp d2 (by simp)).mono (m := 60) (by omega)
          have l3 := (lp d3 (by simp)).mono (m := 60) (by omega)
          refine ite_neg' (by simp) ⟨_, rfl, a, _, 1, x1, rfl, rfl, SqT.of h, (by exact atI_nat (j := 1) (by rfl)), _, rfl, a, _, 2, x2, rfl, rfl, SqT.of h, (by exact atI_nat (j := 2) (by rfl)), _, rfl, a, _, 3, x3, rfl, rfl, SqT.of h, (by exact atI_nat (j := 3) (by rfl)), x1, x2, x3, d1, d2, d3, rfl, v1, v2, v3, l1, l2, l3, fun H1 s1 => ⟨_, rfl, ?_⟩⟩
          have h1 := s1 _ _ h
          cases ht : testD d1 d2 d3 with
          | false =>
            refine ite_pos' rfl ?_
            have := fin H1 s1
            have e : ifD [d0, d1, d2, d3, d4, d5] = false := by show (testD d1 d2 d3 && _) = false; rw [ht]; rfl
            rw [e] at this
            exact this
          | true =>
            obtain ⟨t4, ht4, _, _, _, k4⟩ := (v4.up s1).ty (K := K)
            obtain ⟨t5, ht5, _, _, _, k5⟩ := (v5.up s1).ty (K := K)
            have := fin H1 s1
            have e : ifD [d0, d1, d2, d3, d4, d5] = (isTupD d4 && isTupD d5) := by show (testD d1 d2 d3 && _) = _; rw [ht]; rfl
            rw [e] at this
            refine ite_neg' (by decide) ⟨_, rfl, a, _, 4, x4, rfl, rfl, SqT.of h1, (by exact atI_nat (j := 4) (by rfl)), x4, _, t4, _, _, rfl, .ty "tuple", ht4, k4, _, rfl, ?_⟩
            cases q4 : isTupD d4 with
            | false =>
              rw [q4] at this
              exact ite_neg' (by decide) this
            | true =>
              rw [q4] at this
              exact ite_pos' rfl ⟨_, rfl, a, _, 5, x5, rfl, rfl, SqT.of h1, (by exact atI_nat (j := 5) (by rfl)), x5, _, t5, _, _, rfl, .ty "tuple", ht5, k5, this⟩
      · have e : ifD ds = false := by
          match ds, h6 with
          | [], _ => rfl
          | [_], _ => rfl
          | [_, _], _ => rfl
          | [_, _, _], _ => rfl
          | [_, _, _, _], _ => rfl
          | [_, _, _, _, _], _ => rfl
          | [_, _, _, _, _, _], h => exact absurd rfl h
          | _ :: _ :: _ :: _ :: _ :: _ :: _ :: _, _ => rfl
        have := fin H (Same.refl _)
        rw [e] at this
        exact ite_pos' (by rw [hlx]; simp; omega) (ite_pos' rfl this)
theorem scSuper : FnScope ["row", "part"] ["row"] (defScope sIsSuper) := ⟨rfl, rfl, rfl, by decide +kernel, rfl, by decide +kernel, by decide +kernel⟩
theorem cl_super (D : DefAt K mg "is_super" sIsSuper ["row"]) (T : Tf K mg) (cW : Cl P w K mg base CX0 2 "is_word" spIsWord) (cE : ClD P w K mg base CX0 7 "is_expression" [.int 3] (spExpr 3)) : Cl P w K mg base CX0 8 "is_super" (spRowT superD) := by
  obtain ⟨f, fd, F, g, bd⟩ := D.ex
  refine ⟨f, fd, _, F.ok scSuper (fun vs H Q E h => ?_) (fun cdv A outer s H vs Q E hr h => ?_), g, F.kp, bd⟩
  · obtain ⟨v, ds, rfl, _⟩ := h
    rfl
  · obtain ⟨v, ds, rfl, hv, hl, hlen, fin⟩ := h
    have nd := scSuper.nd
    refine ⟨_, C8.pss_cut (ps_if (PW.pt (pw_or (pt_cmpR op_lt (pe_callB call_len_seq (by rfl) T.len PySem.boot_len (pa_cons (pv 0) pa_nil)) pe_int (nomark _)) (pw_or1 (pt_not (PW.pt (pw_or (pt_cmpR op_isN (pe_ix ix_tup (pv 0) pe_int (fun _ _ => rfl)) pe_non (nomark _)) (pw_or1 (pt_val (pe_cl cW hr pass0 (pa_cons (pe_ix ix_tup (pv 0) pe_int (fun _ _ => rfl)) pa_nil)))))))))) (pss_one (ps_ret pe_bl)) pss_nil)
      (pss_one (ps_ret (pe_callB (cr_all rfl) (by rfl) T.all (by decide +kernel) (pa_cons (pe_lc (own := [("part", 1)]) (g := gName 1) (te := tCall (spExpr 3) [.int 3] E0 (tCons (tVar 1) tNil)) (by rfl) nd (pi_tup (pe_slice sl_tup (pv 0) (po_some pe_int) po_none)) (blkOk_by (N := ["row", "part"]) (sc := defScope sIsSuper) (by decide +kernel)) (fun _ _ _ _ _ => pg_name (i := 1) nd rfl (.inl rfl)) (fun _ _ _ _ _ => pts_nil)
        (fun _ _ _ _ _ => pe_clD cE hr pass0 (pa_cons (pv 1) pa_nil))) pa_nil)))), ?_⟩
    cases hv with
    | @tup a xs _ h k =>
      have hlx := k.len
      have lp := hl.parts
      refine ⟨fun σ' H' => ∃ (d0 d1 : PyData) (ps : List PyData) (x0 x1 : V) (xs' : List V), ds = d0 :: d1 :: ps ∧ xs = x0 :: x1 :: xs' ∧ (isNoD d1 || wordD d1) = true ∧ VdAll H xs' ps ∧ σ' = [some (.ref a), none] ∧ Same H H', ?_, ?_⟩
      · refine ⟨_, rfl, a, _, rfl, .inr (SqT.of h), _, _, rfl, rfl, _, rfl, ?_⟩
        match ds, xs, k, hlx with
        | [], _, _, e =>
          have := fin H (Same.refl _)
          exact ite_pos' (by rw [e]; simp) (ite_pos' rfl this)
        | [_], _, _, e =>
          have := fin H (Same.refl _)
          exact ite_pos' (by rw [e]; simp) (ite_pos' rfl this)
        | d0 :: d1 :: ps, x0 :: x1 :: xs', k, e =>
          have v1 : Vd H x1 d1 := by obtain ⟨d, e, q⟩ := k.at (i := 1) (v := x1) rfl; cases e; exact q
          have kk : VdAll H xs' ps := by
            cases k with
            | cons _ k => cases k with
              | cons _ k => exact k
          refine ite_neg' (by rw [e]; simp; omega) ⟨_, rfl, a, _, 1, x1, rfl, rfl, SqT.of h, (by exact atI_nat (j := 1) (by rfl)), rfl, _, rfl, ?_⟩
          by_cases hn : x1 = .non
          · have e1 : isNoD d1 = true := by
              subst hn
              cases v1
              rfl
            exact ite_pos' (by simp [hn]) (ite_neg' (by decide) ⟨d0, d1, ps, x0, x1, xs', rfl, rfl, by rw [e1]; rfl, kk, rfl, Same.refl _⟩)
          · have e1 : isNoD d1 = false := by
              cases v1 with
              | non => exact absurd rfl hn
              | _ => rfl
            refine ite_neg' (by simp [hn]) ⟨_, rfl, a, _, 1, x1, rfl, rfl, SqT.of h, (by exact atI_nat (j := 1) (by rfl)), x1, d1, rfl, v1, fun H1 s1 => ⟨_, rfl, ?_⟩⟩
            cases hw : wordD d1 with
            | true => exact ite_neg' (by decide) ⟨d0, d1, ps, x0, x1, xs', rfl, rfl, by rw [e1, hw]; rfl, kk, rfl, s1⟩
            | false =>
              refine ite_pos' rfl ?_
              have := fin H1 s1
              have e2 : superD (d0 :: d1 :: ps) = false := by show ((isNoD d1 || wordD d1) && _) = false; rw [e1, hw]; rfl
              rw [e2] at this
              exact this
      · rintro _ H1 ⟨d0, d1, ps, x0, x1, xs', rfl, rfl, hw, kk, rfl, s1⟩
        have h1 := s1 _ _ h
        refine ⟨_, rfl, 2, rfl, a, _, rfl, SqT.of h1, ?_, fun q nq => ⟨q, rfl, ⟨_, SqT.of upd_same⟩, fun L nL => ?_⟩⟩
        · rintro ⟨z, _⟩
          have z2 : HT.sIx (x0 :: x1 :: xs').length 0 (some 2) = 2 := by
            rw [show (some (2 : Int)) = some (((2 : Nat)) : Int) from rfl, HT.sIx_nat]
            simp
          rw [z2] at z
          cases z
        have e1 : cutV (x0 :: x1 :: xs') (some 2) none = xs' := cut_drop (xs := x0 :: x1 :: xs') (k := 2) (by simp)
        rw [e1] at nL ⊢
        have s4 := same_new (o := .tup xs') nq
        have hq4 : (upd H1 q (.tup xs')) q = some (.tup xs') := upd_same
        have c4 : VdAll (upd H1 q (.tup xs')) xs' ps := (kk.up s1).up s4
        refine lc_tup (K := K) (a := q) (xs := xs') (fun i H5 => Same (upd H1 q (.tup xs')) H5 ∧ H5 L = some (.lst (((ps.take i).map (exprD 3)).map V.bl))) ?_ (fun i H5 hi pv => SqT.of (pv.1 _ _ hq4)) (fun i x H5 hx pv => ?_) (fun H5 pv => ?_)
        · exact ⟨same_new nL, upd_same⟩
        · obtain ⟨s5, hL⟩ := pv
          obtain ⟨e, he, hve⟩ := c4.at hx
          refine ⟨rfl, _, rfl, x, e, rfl, hve.up s5, (lp e (List.mem_cons_of_mem _ (List.mem_cons_of_mem _ (List.mem_of_getElem? he)))).mono (by omega), fun H6 s6 => ⟨_, s6 _ _ hL, ?_, fun c o z => ?_, ?_⟩⟩
          · rw [List.length_map, List.length_map, List.length_take, sizeLine_eq]
            simp at hlen
            omega
          · rw [upd_ne (ne_of_none z nL)]
            exact s6 _ _ (s5 _ _ z)
          · rw [upd_same, List.take_add_one, he]
            simp
        · obtain ⟨s5, hL⟩ := pv
          rw [c4.len, List.take_length] at hL
          refine ⟨L, _, rfl, SqL.of hL, ?_⟩
          have h2 := fin H5 (s1.trans (s4.trans s5))
          have e2 : superD (d0 :: d1 :: ps) = (ps.map (exprD 3)).all _root_.id := by
            rw [List.all_map]
            show ((isNoD d1 || wordD d1) && ps.all (exprD 3)) = _
            rw [hw]
            rfl
          rw [e2] at h2
          exact h2
end
end My
namespace My
open PySem PySem.Spec PyProof.Rows L2
def spRow (K : PySem.W.Frag) : Sp := fun vs H Q _ => ∃ v d hd, vs = [v, .ref hd] ∧ Vd H v d ∧ LayN 60 d ∧ (∀ ds, d = .tuple ds → ds.length ≤ 1000) ∧ (∀ H, SqT K H hd (headsW.map V.str)) ∧ ∀ H', Same H H' → Q (.bl (rowD d)) H'
section
variable {P : Program} {w : World} {K : PySem.W.Frag} {mg : Str → Option Value} {base : Heap}
theorem scIsRow : FnScope ["row", "heads", "head"] ["row", "heads"] (defScope sIsRow) := ⟨rfl, rfl, rfl, by decide +kernel, rfl, by decide +kernel, by decide +kernel⟩
theorem cl_isRow (D : DefAt K mg "is_row" sIsRow ["row", "heads"]) (T : Tf K mg) (cW : Cl P w K mg base CX0 2 "is_word" spIsWord) (cE : ClD P w K mg base CX0 7 "is_expression" [.int 3] (spExpr 3)) (cI : Cl P w K mg base CX0 9 "is_if" (spRowT ifD)) (cU : Cl P w K mg base CX0 8 "is_super" (spRowT superD)) : Cl P w K mg base CX0 10 "is_row" (spRow K) := by
  obtain ⟨f, fd, F, g, bd⟩ := D.ex
  refine ⟨f, fd, _, F.ok scIsRow (fun vs H Q E h => ?_) (fun cdv A outer s H vs Q E hr h => ?_), g, F.kp, bd⟩
  · obtain ⟨v, d, hd, rfl, _⟩ := h
    rfl
  · obtain ⟨v, d, hd, rfl, hv, hl, hlen, hh, fin⟩ := h
    have nd := scIsRow.nd
    refine ⟨_, C8.pss_cut (ps_if (PW.pt (pw_or (pt_not (pt_val (pe_callB call_isi (by rfl) T.isi (by decide +kernel) (pa_cons (pv 0) (pa_cons (pe_bltn rfl T.tuple (by decide +kernel) (v := .ty "tuple") rfl) pa_nil))))) (pw_or (pt_cmpR op_eq (pe_callB call_len_seq (by rfl) T.len PySem.boot_len (pa_cons (pv 0) pa_nil)) pe_int (nomark _)) (pw_or1 (pt_cmpR (op_notInT ?hu) (pe_ix ix_tup (pv 0) pe_int (fun _ _ => rfl)) (pv 1) rfl))))) (pss_one (ps_ret pe_bl)) pss_nil)
      (pss_cons (ps_set (i := 2) nd rfl (.inl rfl) (pe_ix ix_tup (pv 0) pe_int (fun _ _ => rfl)))
      (pss_cons (ps_if (pt_cmpR op_eq (pv 2) pe_str (nomark _)) (pss_one (ps_ret (pe_cl cI hr pass0 (pa_cons (pv 0) pa_nil)))) pss_nil)
      (pss_cons (ps_if (pt_cmpR op_eq (pv 2) pe_str (nomark _)) (pss_one (ps_ret (pe_cl cU hr pass0 (pa_cons (pv 0) pa_nil)))) pss_nil)
      (pss_cons (ps_if (pt_cmpR op_in_seq (pv 2) (pe_tup (pa_cons pe_str (pa_cons pe_str pa_nil))) rfl) (pss_one (ps_ret (pe_and (pe_cmpR op_eq (pe_callB call_len_seq (by rfl) T.len PySem.boot_len (pa_cons (pv 0) pa_nil)) pe_int (nomark _)) (pe_and (pe_cl cW hr pass0 (pa_cons (pe_ix ix_tup (pv 0) pe_int (fun _ _ => rfl)) pa_nil)) (pe_one (pe_clD cE hr pass0 (pa_cons (pe_ix ix_tup (pv 0) pe_int (fun _ _ => rfl)) pa_nil))))))) pss_nil)
      (pss_one (ps_ret (pe_and (pe_cmpR op_eq (pe_callB call_len_seq (by rfl) T.len PySem.boot_len (pa_cons (pv 0) pa_nil)) pe_int (nomark _)) (pe_one (pe_clD cE hr pass0 (pa_cons (pe_ix ix_tup (pv 0) pe_int (fun _ _ => rfl)) pa_nil)))))))))), ?_⟩
    case hu =>
      have := hr.un
      show (A.deeper (envOfC "is_row" (defScope sIsRow) s.heap.objs.size f cdv)).units + 65 < cLine
      omega
    have no : rowD d = false → Q (.bl false) H := fun e => by
      have := fin H (Same.refl _)
      rw [e] at this
      exact this
    refine ⟨fun σ' H' => ∃ (a : Addr) (h0 : Str) (ps : List PyData) (xs : List V), v = .ref a ∧ d = .tuple (.str h0 :: ps) ∧ h0 ∈ headsW ∧ H a = some (.tup (.str h0 :: xs)) ∧ VdAll H xs ps ∧ σ' = [some v, some (.ref hd), none] ∧ H = H', ?_, ?_⟩
    · obtain ⟨t, ht, k1, k2, k3, k4⟩ := hv.ty (K := K)
      refine ⟨_, rfl, v, _, t, _, _, rfl, .ty "tuple", ht, k4, _, rfl, ?_⟩
      cases hv with
      | @tup a xs ds h k =>
        refine ite_neg' (show ¬ ((!true) = true) from by decide) ⟨_, rfl, a, _, rfl, .inr (SqT.of h), rfl, _, rfl, ?_⟩
        have hlx := k.len
        have lp := hl.parts
        match ds, xs, k, hlx with
        | [], _, _, e => exact ite_pos' (by rw [e]; simp) (ite_pos' rfl (no rfl))
        | d0 :: ps, x0 :: xs, k, e =>
          cases k with
          | cons c1 c2 =>
            refine ite_neg' (by rw [e]; simp; omega) ⟨_, rfl, a, _, 0, x0, rfl, rfl, SqT.of h, (by exact atI_nat (j := 0) (by rfl)), _, rfl, d0, headsW.map PyData.str, c1.dp, .tup (hh H) (dp_strs headsW), (lp d0 List.mem_cons_self).shaped (by omega), by decide +kernel, _, rfl, ?_⟩
            cases hs : isStrD d0 with
            | false =>
              rw [any_nostr hs]
              refine ite_pos' rfl (no ?_)
              cases d0 with
              | str z => cases hs
              | _ => rfl
            | true =>
              cases c1 with
              | str z hz =>
                rw [any_str]
                by_cases hm : z ∈ headsW
                · exact ite_neg' (by simp [hm]) ⟨a, z, ps, xs, rfl, rfl, hm, h, c2, rfl, rfl⟩
                · refine ite_pos' (by simp [hm]) (no ?_)
                  show (decide (z ∈ headsW) && _) = false
                  rw [decide_eq_false hm]
                  rfl
              | _ => cases hs
      | _ => exact ite_pos' rfl (ite_pos' rfl (no rfl))
    · rintro _ _ ⟨a, h0, ps, xs, rfl, rfl, hm, h, k, rfl, rfl⟩
      have lp := hl.parts
      have hlen' := hlen _ rfl
      have row_eq : rowD (.tuple (.str h0 :: ps)) = headD h0 ps := by
        show (decide (h0 ∈ headsW) && headD h0 ps) = _
        rw [decide_eq_true hm]
        rfl
      have hd1 : h0 = "if" → headD h0 ps = ifD (.str h0 :: ps) := fun e => by unfold headD; rw [if_pos e]
      have hd2 : ¬ h0 = "if" → h0 = "super" → headD h0 ps = superD (.str h0 :: ps) := fun e e' => by unfold headD; rw [if_neg e, if_pos e']
      have hd3 : ¬ h0 = "if" → ¬ h0 = "super" → (h0 = "set" ∨ h0 = "let") → headD h0 ps = setD ps := fun e e' e'' => by unfold headD; rw [if_neg e, if_neg e', if_pos e'']
      have hd4 : ¬ h0 = "if" → ¬ h0 = "super" → ¬ (h0 = "set" ∨ h0 = "let") → headD h0 ps = oneD ps := fun e e' e'' => by unfold headD; rw [if_neg e, if_neg e', if_neg e'']
      refine ⟨_, rfl, a, _, 0, .str h0, rfl, rfl, SqT.of h, (by exact atI_nat (j := 0) (by rfl)), ?_⟩
      refine ⟨_, rfl, rfl, _, rfl, ?_⟩
      by_cases e1 : h0 = "if"
      · refine ite_pos' (by rw [e1]; decide) ⟨_, rfl, .ref a, _, rfl, hv, hl, hlen', fun H' sm => ?_⟩
        have := fin H' sm
        rw [row_eq, hd1 e1] at this
        exact this
      · refine ite_neg' (by simpa using e1) ⟨_, rfl, rfl, _, rfl, ?_⟩
        by_cases e2 : h0 = "super"
        · refine ite_pos' (by rw [e2]; decide) ⟨_, rfl, .ref a, _, rfl, hv, hl, hlen', fun H' sm => ?_⟩
          have := fin H' sm
          rw [row_eq, hd2 e1 e2] at this
          exact this
        · refine ite_neg' (by simpa using e2) ⟨_, rfl, (by show 2 ≤ sizeLine; decide), fun q nq => ⟨q, _, rfl, .inr (SqT.of upd_same), rfl, rfl, _, rfl, ?_⟩⟩
          have s1 := same_new (o := .tup [.str "set", .str "let"]) nq
          have e3 : inV (.str h0) [.str "set", .str "let"] = decide (h0 ∈ [("set" : Str), "let"]) := in_strs h0 ["set", "let"]
          rw [if_neg (by decide), e3]
          have h1 := s1 _ _ h
          by_cases e4 : h0 = "set" ∨ h0 = "let"
          · refine ite_pos' (by simpa using e4) ?_
            have fin2 : ∀ H', Same H H' → Q (.bl (setD ps)) H' := fun H' sm => by
              have := fin H' sm
              rw [row_eq, hd3 e1 e2 e4] at this
              exact this
            clear fin no row_eq hd1 hd2 hd3 hd4 hlen hl hv
            refine ⟨_, rfl, a, _, rfl, .inr (SqT.of h1), rfl, _, rfl, ?_⟩
            have hlx := k.len
            match ps, xs, k, hlx with
            | [d1, d2], [x1, x2], k, _ =>
              have v1 : Vd H x1 d1 := by obtain ⟨d, e, q⟩ := k.at (i := 0) (v := x1) rfl; cases e; exact q
              have v2 : Vd H x2 d2 := by obtain ⟨d, e, q⟩ := k.at (i := 1) (v := x2) rfl; cases e; exact q
              refine ite_pos' rfl ⟨_, rfl, a, _, 1, x1, rfl, rfl, SqT.of h1, (by exact atI_nat (j := 1) (by rfl)), x1, d1, rfl, v1.up s1, fun H2 s2 => ⟨_, rfl, ?_⟩⟩
              cases hw : wordD d1 with
              | false =>
                have := fin2 H2 (s1.trans s2)
                rw [show setD [d1, d2] = false from by show (wordD d1 && exprD 3 d2) = false; rw [hw]; rfl] at this
                exact ite_neg' (by decide) this
              | true =>
                refine ite_pos' rfl ⟨_, rfl, a, _, 2, x2, rfl, rfl, SqT.of (s2 _ _ h1), (by exact atI_nat (j := 2) (by rfl)), x2, d2, rfl, v2.up (s1.trans s2), (lp d2 (by simp)).mono (by omega), fun H3 s3 => ?_⟩
                have := fin2 H3 (s1.trans (s2.trans s3))
                rw [show setD [d1, d2] = exprD 3 d2 from by show (wordD d1 && exprD 3 d2) = _; rw [hw]; rfl] at this
                exact this
            | [], _, _, e => exact ite_neg' (by simp [e]) (fin2 _ s1)
            | [_], _, _, e => exact ite_neg' (by simp [e]) (fin2 _ s1)
            | _ :: _ :: _ :: _, _, _, e => exact ite_neg' (by simp [e]; omega) (fin2 _ s1)
          · refine ite_neg' (by simpa using e4) ?_
            have fin2 : ∀ H', Same H H' → Q (.bl (oneD ps)) H' := fun H' sm => by
              have := fin H' sm
              rw [row_eq, hd4 e1 e2 e4] at this
              exact this
            clear fin no row_eq hd1 hd2 hd3 hd4 hlen hl hv
            refine ⟨_, rfl, a, _, rfl, .inr (SqT.of h1), rfl, _, rfl, ?_⟩
            have hlx := k.len
            match ps, xs, k, hlx with
            | [d1], [x1], k, _ =>
              have v1 : Vd H x1 d1 := by obtain ⟨d, e, q⟩ := k.at (i := 0) (v := x1) rfl; cases e; exact q
              exact ite_pos' rfl ⟨_, rfl, a, _, 1, x1, rfl, rfl, SqT.of h1, (by exact atI_nat (j := 1) (by rfl)), x1, d1, rfl, v1.up s1, (lp d1 (by simp)).mono (by omega), fun H3 s3 => fin2 H3 (s1.trans s3)⟩
            | [], _, _, e => exact ite_neg' (by simp [e]) (fin2 _ s1)
            | _ :: _ :: _, _, _, e => exact ite_neg' (by simp [e]; omega) (fin2 _ s1)
end
end My
namespace My
open PySem PySem.Spec PyProof.Rows L2
/-- no tuple within is long -/
def Sm : Nat → PyData → Prop
  | n + 1, .tuple ds => ds.length ≤ 400 ∧ ∀ e ∈ ds, Sm n e
  | _, _ => True
theorem Sm.parts {n : Nat} {ds : List PyData} (h : Sm (n + 1) (.tuple ds)) : ds.length ≤ 400 ∧ ∀ e ∈ ds, Sm n e := h
/-- the rows within an if -/
def inners : PyData → List PyData
  | .tuple [h, _, _, _, .tuple a, .tuple b] => if PyData.eqv h (.str "if") = true then a ++ b else []
  | _ => []
/-- the search for the first wrong row: rows that wait, with their ifs -/
def fw : Nat → List (PyData × Nat) → Nat → Option Nat
  | _, [], _ => none
  | 0, _ :: _, n => some n
  | k + 1, (r, i) :: st, n => if n = 16 ∨ 4 < i ∨ rowD r = false then some n else fw k ((inners r).map (fun x => (x, i + 1)) ++ st) (n + 1)
def optV : Option Nat → V
  | none => .non
  | some k => .int k
def less (W : Addr) (H : Hp) : Hp := fun c => if c = W then none else H c
theorem less_at {W c : Addr} {H : Hp} (h : c ≠ W) : less W H c = H c := if_neg h
theorem less_same {W : Addr} {H : Hp} : Same (less W H) H := fun c o e => by
  unfold less at e
  by_cases h : c = W
  · rw [if_pos h] at e
    cases e
  · rw [if_neg h] at e
    exact e
theorem less_up {W : Addr} {H H' : Hp} (s : Same H H') : Same (less W H) (less W H') := fun c o e => by
  unfold less at e ⊢
  by_cases h : c = W
  · rw [if_pos h] at e
    cases e
  · rw [if_neg h] at e ⊢
    exact s c o e
theorem less_upd {W : Addr} {H : Hp} {o : HO} : Same (less W H) (less W (upd H W o)) := fun c u e => by
  unfold less at e ⊢
  by_cases h : c = W
  · rw [if_pos h] at e
    cases e
  · rw [if_neg h] at e ⊢
    rw [upd_ne h]
    exact e
theorem less_of {W : Addr} {H H' : Hp} (s : Same H H') (h : H W = none) : Same H (less W H') := fun c u e => by
  rw [less_at (fun z => by rw [z, h] at e; cases e)]
  exact s c u e
/-- the rows that wait, the last one first -/
inductive Wr (H : Hp) : List V → List (PyData × Nat) → Prop
  | nil : Wr H [] []
  | snoc {ts : List V} {st : List (PyData × Nat)} {p : Addr} {x : V} {r : PyData} {i : Nat} (h : Wr H ts st) (hp : H p = some (.tup [x, .int ((i : Nat) : Int)])) (hv : Vd H x r) (hl : LayN 60 r) (hs : Sm (2 * (6 - i)) r) (hi : i ≤ 5) : Wr H (ts ++ [.ref p]) ((r, i) :: st)
theorem Wr.up {H H' : Hp} (s : Same H H') {ts : List V} {st : List (PyData × Nat)} (h : Wr H ts st) : Wr H' ts st := by
  induction h with
  | nil => exact .nil
  | snoc _ hp hv hl hs hi ih => exact .snoc ih (s _ _ hp) (hv.up s) hl hs hi
theorem Wr.len {H : Hp} {ts : List V} {st : List (PyData × Nat)} (h : Wr H ts st) : ts.length = st.length := by
  induction h with
  | nil => rfl
  | snoc _ _ _ _ _ _ ih => rw [List.length_append, ih]; rfl
def spFirst (K : PySem.W.Frag) : Sp := fun vs H Q _ => ∃ (a hd : Addr) (items : List V) (rs : List PyData), vs = [.ref a, .ref hd] ∧ SqT K H a items ∧ VdAll H items rs ∧ (∀ r ∈ rs, LayN 60 r ∧ Sm 12 r) ∧ rs.length ≤ 400 ∧ (∀ H, SqT K H hd (headsW.map V.str)) ∧
  ∀ H', Same H H' → Q (optV (fw 17 (rs.map fun r => (r, 0)) 0)) H'
abbrev NF : List Str := ["rows", "heads", "waiting", "at", "row", "ifs", "inner"]
def atAt (i : Nat) (σ : L2.St) (_ : Hp) : Nat := match σ[i]? with
  | some (some (.int k)) => (17 - k).toNat
  | _ => 0
theorem drop_cons {α : Type} {l : List α} {i : Nat} {x : α} (h : i < l.length) (hx : l[l.length - 1 - i]? = some x) : l.drop (l.length - (i + 1)) = x :: l.drop (l.length - i) := by
  have e : l.length - (i + 1) = l.length - 1 - i := by omega
  have e2 : l.length - i = l.length - 1 - i + 1 := by omega
  rw [e, e2]
  have hl : l.length - 1 - i < l.length := by omega
  rw [List.drop_eq_getElem_cons hl]
  congr 1
  rw [List.getElem?_eq_getElem hl] at hx
  exact Option.some.inj hx
theorem row_inv {r : PyData} (h : rowD r = true) : ∃ h0 ps, r = .tuple (.str h0 :: ps) ∧ headD h0 ps = true := by
  cases r with
  | tuple ds =>
    cases ds with
    | nil => cases h
    | cons d ps =>
      cases d with
      | str h0 =>
        have h2 : (decide (h0 ∈ headsW) && headD h0 ps) = true := h
        rw [Bool.and_eq_true] at h2
        exact ⟨h0, ps, rfl, h2.2⟩
      | _ => cases h
  | _ => cases h
theorem if_inv {h0 : Str} {ps : List PyData} (e : h0 = "if") (h : headD h0 ps = true) : ∃ a s b A B, ps = [a, s, b, .tuple A, .tuple B] := by
  unfold headD at h
  rw [if_pos e] at h
  match ps, h with
  | [a, s, b, x, y], h =>
    have h2 : (testD a s b && (isTupD x && isTupD y)) = true := h
    simp only [Bool.and_eq_true] at h2
    cases x with
    | tuple A =>
      cases y with
      | tuple B => exact ⟨a, s, b, A, B, rfl⟩
      | _ => cases h2.2.2
    | _ => cases h2.2.1
theorem inners_no {h0 : Str} {ps : List PyData} (e : ¬ h0 = "if") : inners (.tuple (.str h0 :: ps)) = [] := by
  have e1 : PyData.eqv (.str h0) (.str "if") = false := by
    show (h0 == ("if" : Str)) = false
    exact beq_eq_false_iff_ne.mpr e
  unfold inners
  split
  · rename_i heq
    cases heq
    rw [e1]
    rfl
  · rfl
section
variable {P : Program} {w : World} {K : PySem.W.Frag} {mg : Str → Option Value} {base : Heap}
theorem scFirstWrong : FnScope NF ["rows", "heads"] (defScope sFirstWrong) := ⟨rfl, rfl, rfl, by decide +kernel, rfl, by decide +kernel, by decide +kernel⟩
theorem cl_firstWrong (D : DefAt K mg "first_wrong_row" sFirstWrong ["rows", "heads"]) (T : Tf K mg) (cR : Cl P w K mg base CX0 10 "is_row" (spRow K)) : Cl P w K mg base CX0 11 "first_wrong_row" (spFirst K) := by
  obtain ⟨f, fd, F, g, bd⟩ := D.ex
  obtain ⟨t1, g1⟩ := T.rows
  obtain ⟨t2, g2⟩ := T.ifs
  refine ⟨f, fd, _, F.ok scFirstWrong (fun vs H Q E h => ?_) (fun cdv A outer s H vs Q E hr h => ?_), g, F.kp, bd⟩
  · obtain ⟨a, hd, items, rs, rfl, _⟩ := h
    rfl
  · obtain ⟨a, hd, items, rs, rfl, ha, hk, hok, hlen, hh, fin⟩ := h
    have nd := scFirstWrong.nd
    have szs : sizeLine = 16777216 := sizeLine_eq
    refine ⟨_, C8.pss_cut (ps_setLc (i := 2) (own := [("row", 4)]) (g := gName 4) (by rfl) nd rfl rfl (sw_true rfl rfl rfl (by decide +kernel)) (pi_reversed rfl T.reversed (pa_cons (pe_callTy call_list_of (by rfl) T.list (by decide +kernel) (pa_cons (pv 0) pa_nil)) pa_nil)) (blkOk_by (N := NF) (sc := defScope sFirstWrong) (by decide +kernel)) (fun _ _ _ _ _ => pg_name (i := 4) nd rfl (.inl rfl))
          (fun _ _ _ _ _ => pts_nil) (fun _ _ _ _ _ => pe_tup (pa_cons (pv 4) (pa_cons pe_int pa_nil))))
      (pss_cons (ps_set (i := 3) nd rfl (.inl rfl) pe_int)
      (C8.pss_cut (ps_while PassesOwn.never (pt_truth (pv 2) (by intro _; rfl))
        (C8.pss_cut (ps_asg (pe_bm0 PySem.F.plainAttrs_list PySem.F.slot_list_pop PySem.F.type_list_pop mt_pop (pv 2)) (pg_tup rfl (pgs_cons (pg_name (i := 4) nd rfl (.inl rfl)) (pgs_cons (pg_name (i := 5) nd rfl (.inr rfl)) pgs_nil))))
        (C8.pss_cut (ps_if (PW.pt (pw_or (pt_cmpR op_eq (pv 3) (pe_glob rfl g1 (v := .int 16) ⟨_, rfl⟩) (nomark _)) (pw_or (pt_cmpR op_gt (pv 5) (pe_glob rfl g2 (v := .int 4) ⟨_, rfl⟩) (nomark _)) (pw_or1 (pt_not (pt_val (pe_cl cR hr pass0 (pa_cons (pv 4) (pa_cons (pv 1) pa_nil))))))))) (pss_one (ps_ret (pv 3))) pss_nil)
        (C8.pss_cut (ps_if (pt_cmpR op_eq (pe_ix ix_tup (pv 4) pe_int (fun _ _ => rfl)) pe_str (nomark _)) (pss_one (ps_expr (pe_bm PySem.F.plainAttrs_list PySem.F.slot_list_extend PySem.F.type_list_extend mt_extend (pv 2) (pa_cons (pe_lc (own := [("inner", 6)]) (g := gName 6) (by rfl) nd (pi_reversed rfl T.reversed (pa_cons (pe_callTy call_list_of (by rfl) T.list (by decide +kernel) (pa_cons (pe_op op_catM (pe_ix ix_tup (pv 4) pe_int (fun _ _ => rfl)) (pe_ix ix_tup (pv 4) pe_int (fun _ _ => rfl))) pa_nil)) pa_nil)) (blkOk_by (N := NF) (sc := defScope sFirstWrong) (by decide +kernel)) (fun _ _ _ _ _ => pg_name (i := 6) nd rfl (.inl rfl))
          (fun _ _ _ _ _ => pts_nil) (fun _ _ _ _ _ => pe_tup (pa_cons (pv 6) (pa_cons (pe_op op_add (pv 5) pe_int) pa_nil)))) pa_nil)))) pss_nil)
        (pss_one (ps_aug (i := 3) nd rfl (.inl rfl) pe_int ip_add))))))
      (pss_one (ps_ret pe_non)))), ?_⟩
    refine ⟨fun σ' H' => ∃ (W : Addr) (ts : List V), σ' = [some (.ref a), some (.ref hd), some (.ref W), none, none, none, none] ∧ Same H H' ∧ H W = none ∧ H' W = some (.lst ts) ∧ Wr (less W H') ts (rs.map fun r => (r, 0)), ?_, ?_⟩
    · refine ⟨_, rfl, a, items, rfl, .inr ha, fun l nl => ⟨l, items, rfl, SqL.of upd_same, fun W nW => lc_rev (K := K) (a := l) (xs := items) (fun i H2 => Same H H2 ∧ H2 l = some (.lst items) ∧ ∃ ts, H2 W = some (.lst ts) ∧ ts.length = i ∧ Wr (less W H2) ts ((rs.drop (rs.length - i)).map fun r => (r, 0))) ?_ (fun i H2 hi pv => SqL.of pv.2.1) (fun i x H2 hi hx pv => ?_) (fun H2 pv => ?_)⟩⟩
      · refine ⟨(same_new nl).trans (same_new nW), same_new nW _ _ upd_same, [], upd_same, rfl, ?_⟩
        rw [Nat.sub_zero, List.drop_length]
        exact .nil
      · obtain ⟨sm, hl, ts, hW, hlt, hw⟩ := pv
        have hHW : H W = none := (same_new nl).free nW
        have nlW : l ≠ W := ne_of_none upd_same nW
        obtain ⟨r, er, vr⟩ := hk.at hx
        rw [hk.len] at er hi
        refine ⟨rfl, _, rfl, (by show 2 ≤ sizeLine; decide), fun p np => ⟨ts, same_new np _ _ hW, by omega, ?_⟩⟩
        have npW : p ≠ W := fun z => by
          rw [z, hW] at np
          cases np
        have s1 := same_new (o := .tup [x, .int 0]) np
        have k5 : ∀ c o, c ≠ W → H2 c = some o → (upd (upd H2 p (.tup [x, .int 0])) W (.lst (ts ++ [.ref p]))) c = some o := fun c o nc e => by
          rw [upd_ne nc]
          exact s1 _ _ e
        refine ⟨fun c o e => k5 c o (ne_of_none e hHW) (sm _ _ e), k5 _ _ nlW hl, ts ++ [.ref p], upd_same, by rw [List.length_append, hlt]; rfl, ?_⟩
        rw [drop_cons hi er, List.map_cons]
        have hr0 := hok r (List.mem_of_getElem? er)
        refine .snoc (i := 0) (x := x) (hw.up ((less_up s1).trans less_upd)) ?_ ?_ hr0.1 hr0.2 (by omega)
        · rw [less_at npW, upd_ne npW]
          exact upd_same
        · exact (vr.up (less_of sm hHW)).up ((less_up s1).trans less_upd)
      · obtain ⟨sm, hl, ts, hW, hlt, hw⟩ := pv
        rw [hk.len, Nat.sub_self, List.drop_zero] at hw
        exact ⟨W, ts, rfl, sm, (same_new nl).free nW, hW, hw⟩
    · rintro σ' H1 ⟨W, ts0, rfl, s1, nW, hW1, hw1⟩
      refine ⟨fun σ' H' => fw 17 (rs.map fun r => (r, 0)) 0 = none ∧ Same H H', while_by (fun σ H2 => ∃ (n : Nat) (ts : List V) (st : List (PyData × Nat)) (v4 v5 v6 : Option V), σ = [some (.ref a), some (.ref hd), some (.ref W), some (.int ((n : Nat) : Int)), v4, v5, v6] ∧ Same H H2 ∧ H2 W = some (.lst ts) ∧ Wr (less W H2) ts st ∧ n ≤ 16 ∧ st.length ≤ 400 + 800 * n ∧ fw (17 - n) st n = fw 17 (rs.map fun r => (r, 0)) 0) (atAt 3) ?_ (fun σ H2 pv => ?_) ?_, ?_⟩
      · refine ⟨0, ts0, _, none, none, none, rfl, s1, hW1, hw1, by omega, by rw [List.length_map]; omega, rfl⟩
      · obtain ⟨n, ts, st, v4, v5, v6, rfl, sm, hW, hw, hn, hst, hfw⟩ := pv
        refine ⟨_, rfl, !ts.isEmpty, .inl ⟨ts, SqL.of hW, rfl⟩, ?_⟩
        cases hw with
        | nil =>
          refine ite_neg' (by decide) ⟨?_, sm⟩
          rw [← hfw]
          cases (17 - n) <;> rfl
        | @snoc ts' st' p x r i hw' hp hv hl hs hi =>
          refine ite_pos' (by cases ts' <;> rfl) ?_
          have npW : p ≠ W := fun z => by
            rw [z] at hp
            unfold less at hp
            rw [if_pos rfl] at hp
            cases hp
          rw [less_at npW] at hp
          refine ⟨fun σ' H' => σ' = [some (.ref a), some (.ref hd), some (.ref W), some (.int ((n : Nat) : Int)), some x, some (.int ((i : Nat) : Int)), v6] ∧ (upd H2 W (.lst ts')) = H', ?_, ?_⟩
          · refine ⟨_, rfl, .inl ⟨rfl, _, SqL.of hW⟩, W, ts' ++ [.ref p], .ref p, rfl, rfl, hW, ?_, ?_⟩
            · rw [List.length_append]
              simp
            · rw [List.dropLast_concat]
              refine ⟨p, _, rfl, SqT.of (by rw [upd_ne npW]; exact hp), rfl, ?_⟩
              exact ⟨_, _, rfl, _, _, rfl, rfl, rfl, rfl⟩
          · rintro _ _ ⟨rfl, rfl⟩
            have smW : Same H (upd H2 W (.lst ts')) := fun c o e => by
              rw [upd_ne (ne_of_none e nW)]
              exact sm _ _ e
            have lw : Same (less W H2) (upd H2 W (.lst ts')) := less_upd.trans less_same
            obtain ⟨k, hk17⟩ : ∃ k, 17 - n = k + 1 := ⟨16 - n, by omega⟩
            rw [hk17] at hfw
            refine ⟨fun σ' H' => n < 16 ∧ i ≤ 4 ∧ rowD r = true ∧ σ' = [some (.ref a), some (.ref hd), some (.ref W), some (.int ((n : Nat) : Int)), some x, some (.int ((i : Nat) : Int)), v6] ∧ Same (upd H2 W (.lst ts')) H', ?_, ?_⟩
            · have stop : ∀ H', (n = 16 ∨ 4 < i ∨ rowD r = false) → Same H H' → Q (.int ((n : Nat) : Int)) H' := fun H' c sm' => by
                have := fin H' sm'
                rw [← hfw] at this
                unfold fw at this
                rw [if_pos c] at this
                exact this
              refine ⟨_, rfl, rfl, _, rfl, ?_⟩
              by_cases c1 : n = 16
              · refine ite_pos' (by rw [c1]; rfl) (ite_pos' rfl ⟨_, rfl, stop _ (.inl c1) smW⟩)
              · refine ite_neg' (by simp; omega) ⟨_, rfl, _, _, rfl, rfl, _, rfl, ?_⟩
                by_cases c2 : 4 < i
                · exact ite_pos' (by simp; omega) (ite_pos' rfl ⟨_, rfl, stop _ (.inr (.inl c2)) smW⟩)
                · refine ite_neg' (by simp; omega) ⟨_, rfl, _, rfl, x, r, hd, rfl, hv.up lw, hl, fun ds e => ?_, hh, fun H4 s4 => ⟨_, rfl, ?_⟩⟩
                  · subst e
                    obtain ⟨j, hj⟩ : ∃ j, 2 * (6 - i) = j + 1 := ⟨2 * (6 - i) - 1, by omega⟩
                    rw [hj] at hs
                    have := hs.parts.1
                    omega
                  · cases hrd : rowD r with
                    | false => exact ite_pos' rfl ⟨_, rfl, stop _ (.inr (.inr hrd)) (smW.trans s4)⟩
                    | true => exact ite_neg' (by decide) ⟨by omega, by omega, rfl, rfl, s4⟩
            · rintro _ H4 ⟨hn16, hi4, hrd, rfl, s4⟩
              have hfw2 : fw k ((inners r).map (fun y => (y, i + 1)) ++ st') (n + 1) = fw 17 (rs.map fun r => (r, 0)) 0 := by
                rw [← hfw]
                conv => rhs; unfold fw
                rw [if_neg (by rw [hrd]; simp; omega)]
              have sm4 := smW.trans s4
              have hW4 : H4 W = some (.lst ts') := s4 _ _ upd_same
              have l4 : Same (less W H2) (less W H4) := less_upd.trans (less_up s4)
              have hw4 := hw'.up l4
              have hv4 := hv.up l4
              refine ⟨fun σ' H' => ∃ (ts2 : List V) (v6' : Option V), σ' = [some (.ref a), some (.ref hd), some (.ref W), some (.int ((n : Nat) : Int)), some x, some (.int ((i : Nat) : Int)), v6'] ∧ Same H H' ∧ H' W = some (.lst ts2) ∧ Wr (less W H') ts2 ((inners r).map (fun y => (y, i + 1)) ++ st') ∧ (inners r).length ≤ 800, ?_, ?_⟩
              · obtain ⟨h0, ps, rfl, hhd⟩ := row_inv hrd
                cases hv4 with
                | @tup ra xs _ hra hkr =>
                  have hra4 := less_same _ _ hra
                  cases hkr with
                  | @cons x0 _ xs' _ c1 c2 =>
                    cases c1 with
                    | str _ hz =>
                      refine ⟨_, rfl, ra, _, 0, .str h0, rfl, rfl, SqT.of hra4, (by exact atI_nat (j := 0) (by rfl)), rfl, _, rfl, ?_⟩
                      by_cases e : h0 = "if"
                      · refine ite_pos' (by rw [e]; decide) ?_
                        obtain ⟨a1, a2, a3, A, B, rfl⟩ := if_inv e hhd
                        have ein : inners (.tuple [.str h0, a1, a2, a3, .tuple A, .tuple B]) = A ++ B := by
                          show (if PyData.eqv (.str h0) (.str "if") = true then A ++ B else []) = A ++ B
                          rw [if_pos]
                          rw [e]
                          decide
                        rw [ein]
                        match xs', c2 with
                        | [x1, x2, x3, x4, x5], c2 =>
                          have v4 : Vd (less W H4) x4 (.tuple A) := by obtain ⟨d, e, q⟩ := c2.at (i := 3) (v := x4) rfl; cases e; exact q
                          have v5 : Vd (less W H4) x5 (.tuple B) := by obtain ⟨d, e, q⟩ := c2.at (i := 4) (v := x5) rfl; cases e; exact q
                          obtain ⟨j, hj⟩ : ∃ j, 2 * (6 - i) = (j + 1) + 1 := ⟨2 * (6 - i) - 2, by omega⟩
                          have hj2 : 2 * (6 - (i + 1)) = j := by omega
                          rw [hj] at hs
                          have smA := (hs.parts.2 (.tuple A) (by simp)).parts
                          have smB := (hs.parts.2 (.tuple B) (by simp)).parts
                          have lpA := (hl.parts (.tuple A) (by simp)).parts
                          have lpB := (hl.parts (.tuple B) (by simp)).parts
                          cases v4 with
                          | @tup q4 y4 _ h4 k4 =>
                            cases v5 with
                            | @tup q5 y5 _ h5 k5 =>
                              have kAB := k4.append k5
                              have lenA := k4.len
                              have lenB := k5.len
                              have lAB := kAB.len
                              have okAB : ∀ r ∈ A ++ B, LayN 60 r ∧ Sm (2 * (6 - (i + 1))) r := fun r hr => by
                                rw [hj2]
                                rcases List.mem_append.mp hr with h | h
                                · exact ⟨(lpA r h).mono (by omega), smA.2 r h⟩
                                · exact ⟨(lpB r h).mono (by omega), smB.2 r h⟩
                              refine ⟨_, rfl, .inl ⟨rfl, _, SqL.of hW4⟩, _, rfl, ra, _, 4, .ref q4, rfl, rfl, SqT.of hra4, (by exact atI_nat (j := 4) (by rfl)), _, rfl, ra, _, 5, .ref q5, rfl, rfl, SqT.of hra4, (by exact atI_nat (j := 5) (by rfl)), q4, q5, y4, y5, rfl, rfl, less_same _ _ h4, less_same _ _ h5, by omega, fun q H6 s6 hq fq => ?_⟩
                              refine ⟨q, _, rfl, .inr (SqT.of hq), fun l nl => ⟨l, y4 ++ y5, rfl, SqL.of upd_same, fun L nL => ?_⟩⟩
                              have sl := same_new (o := .lst (y4 ++ y5)) nl
                              have sL := same_new (o := .lst []) nL
                              have hW6 := s6 _ _ hW4
                              have hWl := sl _ _ hW6
                              have nLW : L ≠ W := fun z => by
                                rw [z, hWl] at nL
                                cases nL
                              have nLl : L ≠ l := (ne_of_none upd_same nL).symm
                              refine lc_rev (K := K) (a := l) (xs := y4 ++ y5) (fun m H7 => Same (upd H6 l (.lst (y4 ++ y5))) H7 ∧ ∃ acc, H7 L = some (.lst acc) ∧ acc.length = m ∧ Wr (less L (less W H7)) (ts' ++ acc) (((A ++ B).drop ((A ++ B).length - m)).map (fun y => (y, i + 1)) ++ st')) ?_ (fun m H7 hm pv => SqL.of (pv.1 _ _ upd_same)) (fun m y H7 hm hy pv => ?_) (fun H7 pv => ?_)
                              · refine ⟨sL, [], upd_same, rfl, ?_⟩
                                rw [Nat.sub_zero, List.drop_length, List.append_nil]
                                exact (hw4.up (less_up (s6.trans sl))).up (less_of (less_up sL) (by rw [less_at nLW]; exact nL))
                              · obtain ⟨s7, acc, hL7, hla, hw7⟩ := pv
                                obtain ⟨r, er, vr⟩ := kAB.at hy
                                rw [lAB] at er hm
                                have hW7 := s7 _ _ hWl
                                refine ⟨rfl, _, rfl, _, rfl, _, _, rfl, rfl, (by show 2 ≤ sizeLine; decide), fun p2 np2 => ⟨acc, same_new np2 _ _ hL7, ?_, ?_⟩⟩
                                · rw [hla]
                                  have := List.length_append (as := A) (bs := B)
                                  omega
                                · have np2W : p2 ≠ W := fun z => by
                                    rw [z, hW7] at np2
                                    cases np2
                                  have np2L : p2 ≠ L := fun z => by
                                    rw [z, hL7] at np2
                                    cases np2
                                  have sp := same_new (o := .tup [y, .int (((i : Nat) : Int) + 1)]) np2
                                  have toL : ∀ c o, c ≠ L → H7 c = some o → (upd (upd H7 p2 (.tup [y, .int (((i : Nat) : Int) + 1)])) L (.lst (acc ++ [.ref p2]))) c = some o := fun c o nc e => by
                                    rw [upd_ne nc]
                                    exact sp _ _ e
                                  have lL : Same (less L (less W H7)) (less L (less W (upd (upd H7 p2 (.tup [y, .int (((i : Nat) : Int) + 1)])) L (.lst (acc ++ [.ref p2]))))) := fun c o e => by
                                    have hc : c ≠ L := fun z => by
                                      unfold less at e
                                      rw [if_pos z] at e
                                      cases e
                                    have hc2 : c ≠ W := fun z => by
                                      rw [less_at hc] at e
                                      unfold less at e
                                      rw [if_pos z] at e
                                      cases e
                                    rw [less_at hc, less_at hc2] at e ⊢
                                    exact toL c o hc e
                                  have hrl := okAB r (List.mem_of_getElem? er)
                                  have nl6 : H6 l = none := nl
                                  refine ⟨fun c o z => toL c o (fun z2 => ?_) (s7 _ _ z), acc ++ [.ref p2], upd_same, by rw [List.length_append, hla]; rfl, ?_⟩
                                  · rw [z2, nL] at z
                                    cases z
                                  · rw [drop_cons hm er, List.map_cons, List.cons_append, ← List.append_assoc]
                                    refine .snoc (i := i + 1) (x := y) (hw7.up lL) ?_ ?_ hrl.1 hrl.2 (by omega)
                                    · rw [less_at np2L, less_at np2W, upd_ne np2L]
                                      exact upd_same
                                    · exact ((vr.up (less_up (s6.trans sl))).up (less_of (H' := less W H7) (less_up s7) (by rw [less_at nLW]; exact nL))).up lL
                              · obtain ⟨s7, acc, hL7, hla, hw7⟩ := pv
                                rw [lAB, Nat.sub_self, List.drop_zero] at hw7
                                refine ⟨W, L, ts', acc, rfl, rfl, s7 _ _ hWl, hL7, ?_, ?_⟩
                                · have := hw4.len
                                  have := List.length_append (as := A) (bs := B)
                                  rw [hla, lAB]
                                  simp at hst
                                  omega
                                · refine ⟨ts' ++ acc, _, rfl, ?_, upd_same, (hw7.up less_same).up less_upd, ?_⟩
                                  · exact fun c o z => by
                                      rw [upd_ne (ne_of_none z nW)]
                                      exact s7 _ _ (sl _ _ (s6 _ _ (sm4 _ _ z)))
                                  · have := List.length_append (as := A) (bs := B)
                                    omega
                      · refine ite_neg' (by simpa using e) ⟨ts', _, rfl, sm4, hW4, ?_, ?_⟩
                        · rw [inners_no e]
                          exact hw4
                        · rw [inners_no e]
                          exact Nat.zero_le _
              · rintro _ H5 ⟨ts2, v6', rfl, s5, hW5, hw5, hin⟩
                refine ⟨_, rfl, _, _, rfl, rfl, ?_⟩
                refine ⟨⟨n + 1, ts2, _, _, _, _, rfl, s5, hW5, hw5, by omega, ?_, ?_⟩, ?_⟩
                · rw [List.length_append, List.length_map]
                  simp at hst
                  omega
                · rw [show 17 - (n + 1) = k from by omega]
                  exact hfw2
                · show (17 - ((((n : Nat) : Int)) + 1)).toNat < (17 - ((n : Nat) : Int)).toNat
                  omega
      · rintro σ H2 Q1 Q2 hq ⟨x, e, k, ht, h⟩
        exact ⟨x, e, k, ht, hq _ _ h⟩
      · rintro σ' H' ⟨hno, sm⟩
        have h1 := fin H' sm
        rw [hno] at h1
        exact h1
end
end My
namespace PySem
open Sem (wp)
namespace My10
theorem meets_enum1 {v : Value} {o : Obj} {H : Heap → Prop} (B : Begins v o H) :
    Meets (Builtin.«enumerate.__new__» ⟨[.type "enumerate", v], []⟩) (fun _ R s => H s.heap ∧
      R (.ok (.ret (.ref (s.heap.push o).objs.size))) { s with heap := (s.heap.push o).push { cls := .type "enumerate", data := .fields #[.none, .bool false, .ref s.heap.objs.size, rawInt 0, .none, .none] } }) :=
  .of_wp fun prog w A R s h => by
    obtain ⟨hp, g, d, tk, os⟩ := s
    obtain ⟨h1, h⟩ := h
    have hsub := sub_enumerate
    have q1 : ∀ {A' : Around} {E : Value → Shared → Prop} {Q : Value → Shared → Prop}, Q (.ref hp.objs.size) ⟨hp.push o, g, d, tk, os⟩ → wpAny (model prog w) A' (pyIter v) Q E ⟨hp, g, d, tk, os⟩ :=
      fun q => B.iter prog w _ _ ⟨hp, g, d, tk, os⟩ _ h1 q
    wp_walk using q1
    refine wpAny_stack_any fun st => wpAny_pure ?_
    split
    · rename_i c _ _ _ _ _
      cases (c == Value.type "enumerate")
      · wp_walk using q1
        exact ⟨_, rfl, h⟩
      · wp_walk using q1
        exact ⟨_, rfl, h⟩
    · wp_walk using q1
      exact ⟨_, rfl, h⟩
section
variable {prog : Program} {w : World} {A : Around} {E : Value → Shared → Prop} {s : Shared}
theorem enum_begins1 {v : Value} {o : Obj} {H : Heap → Prop} {Q : Value → Shared → Prop} (B : Begins v o H) (h1 : H s.heap)
    (h : ∀ h', IsEnum h' (s.heap.objs.size + 1) s.heap.objs.size 0 .none → h'.get? s.heap.objs.size = some o → h'.objs.size = s.heap.objs.size + 2 →
      (∀ b o, s.heap.get? b = some o → h'.get? b = some o) → Q (.ref (s.heap.objs.size + 1)) { s with heap := h' }) :
    wpAny (model prog w) A (call (.type "enumerate") [v]) Q E s := by
  refine callType_new F.called_enumerate (by decide) (F.typeCall_enumerate_1 _) (F.newCall_enumerate_1 _) (fun obj => F.args_object_init_2 obj _) F.entry_enumerate_new
    (meets_enum1 B) ⟨h1, ?_⟩
  have hz : (s.heap.push o).objs.size = s.heap.objs.size + 1 := Heap.size_push ..
  show _ ∧ _
  rw [hz]
  have he : IsEnum ((s.heap.push o).push { cls := .type "enumerate", data := .fields #[.none, .bool false, .ref s.heap.objs.size, rawInt 0, .none, .none] }) (s.heap.objs.size + 1) s.heap.objs.size 0 .none := by
    have := Heap.get?_push_size (s.heap.push o) (o := { cls := .type "enumerate", data := .fields #[.none, .bool false, .ref s.heap.objs.size, rawInt 0, .none, .none] }) rfl
    rw [hz] at this
    exact this
  refine ⟨⟨_, he, rfl⟩, h _ he (Heap.get?_push_of_some _ (Heap.get?_push_size _ B.free)) (by rw [Heap.size_push, hz]) fun b o x => Heap.get?_push_of_some _ (Heap.get?_push_of_some _ x)⟩
end
end My10
end PySem
namespace L2
open PySem PySem.Spec PyProof.Rows
/-- the turns of enumerate over a tuple -/
def IteT (K : PySem.W.Frag) (a : Addr) : It :=
  ⟨fun i H => ∃ (xs : List V) (x : V), SqT K H a xs ∧ xs[i]? = some x, fun i H v H' => ∃ T x, v = .ref T ∧ H T = none ∧ H' = upd H T (.tup [.int (i : Nat), x]) ∧ ∀ xs, SqT K H a xs → xs[i]? = some x, fun i H => ∃ xs : List V, SqT K H a xs ∧ xs.length = i⟩
theorem turn_enumT {P : Program} {w : World} {K : PySem.W.Frag} {elts : List Expr} {kk : Nat} {tpos : Pos} (a e it : Addr) :
    Turn P w K (.Tuple elts kk tpos) (IteT K a) [e, it] e (fun i h => (∃ old, IsEnum h e it ((i : Nat) : Int) old) ∧ h.IsTupleIter it a i ∧ e ≠ it ∧ it ≠ a) where
  mem := by simp
  obj := fun i h st b hb => by
    obtain ⟨⟨old, he⟩, ⟨o, ho, hc, hd⟩, _⟩ := st
    have e' : b = e ∨ b = it := by simpa using hb
    rcases e' with z | z
    · rw [z]; exact ⟨_, he, fun v q => nomatch q⟩
    · rw [z]; exact ⟨o, ho, fun v q => by rw [hd] at q; cases q⟩
  keep := fun i h h' st k => let ⟨⟨old, he⟩, hi, hne⟩ := st; ⟨⟨old, k e (by simp) _ he⟩, hi.at fun o q => k it (by simp) o q, hne⟩
  item := by
    intro X hP hw hK hc i pins s σ H E I hf st hg
    subst hP hw hK
    obtain ⟨⟨old, he⟩, hit, hne, hna⟩ := st
    obtain ⟨xs, x, hq, hx⟩ := hg
    obtain ⟨its, rv, p, hz⟩ := I.tuple hq
    obtain ⟨u, hu, ru⟩ := rv.get hx
    have hel : e < s.heap.objs.size := Heap.lt_size he
    have hil : it < s.heap.objs.size := by obtain ⟨_, q, _⟩ := hit; exact Heap.lt_size q
    have hea : e ≠ a := fun z => by
      obtain ⟨o, ho, hcl, n, hd⟩ := p
      rw [← z, he] at ho
      cases ho
      simp at hcl
    have D := PySem.Draws.tuple (prog := X.prog) (w := X.w) (A := X.A.in1) (I.ok.hd hc) it a hna.symm its.toArray
    have hlt : i < its.toArray.size := by
      have := (List.getElem?_eq_some_iff.mp hu).1
      simpa using this
    refine wpAny_pyNext_enum_itemD D he ⟨hit, p⟩ hlt hne (by simp [hne, hea]) fun u' h' tk hPu ho hst' hT hsz hk => ?_
    have eu : u' = u := by
      have h1 : its.toArray[i]? = some u := by simpa using hu
      rw [h1] at hPu
      exact (Option.some.inj hPu).symm
    subst eu
    obtain ⟨hit', _⟩ := hst'
    refine ⟨_, rfl, wpAny_letOwnedTupleGo_enum (s := { s with heap := h', toks := tk + 1 }) ho fun h'' he' sb => ?_⟩
    have hT2 : h''.get? s.heap.objs.size = some { cls := .type "tuple", data := .seq #[.int i tk, u'] } := (sb.2 _ (Nat.ne_of_gt hel)).trans hT
    have new : ObjOk X.prog X.w (upd H s.heap.objs.size (.tup [.int (i : Nat), x])) h'' s.heap.objs.size (.tup [.int (i : Nat), x]) :=
      ⟨by show 2 ≤ sizeLine; decide, [.int i tk, u'], .cons ⟨_, rfl⟩ (.cons ru .nil), ⟨_, hT2, rfl, _, rfl⟩⟩
    have I1 : Inv X pins σ (upd H s.heap.objs.size (.tup [.int (i : Nat), x])) { s with heap := h'', toks := tk + 1 } :=
      I.turnedNew (ch := [e, it]) (fun b ob hb q => (sb.2 b (fun z => hb (by simp [z]))).trans (hk b ob (fun z => hb (by simp [z])) (fun z => hb (by simp [z])) q)) hf (Nat.le_refl _) new
    refine ⟨.ref s.heap.objs.size, _, I1, rfl, ⟨_, x, rfl, I.hok.fresh (Nat.le_refl _), rfl, fun ys hy => by rw [I.tuple_inj hy hq]; exact hx⟩, ⟨⟨u', ?_⟩, hit'.at fun o q => (sb.2 it (Ne.symm hne)).trans q, hne, hna⟩, fun b hb => ?_⟩
    · have e1 : ((i + 1 : Nat) : Int) = (i : Int) + 1 := by omega
      rw [e1]; exact he'
    · have hb' : b < s.heap.objs.size := by
        have e' : b = e ∨ b = it := by simpa using hb
        rcases e' with z | z
        · rw [z]; exact hel
        · rw [z]; exact hil
      rw [upd_ne (Nat.ne_of_lt hb')]
      exact (hf b hb).1
  done := by
    intro X hP hw hK hc i pins s σ H E I hf st hg
    subst hP hw hK
    obtain ⟨⟨old, he⟩, hit, hne, hna⟩ := st
    obtain ⟨xs, hq, hx⟩ := hg
    obtain ⟨its, rv, p, hz⟩ := I.tuple hq
    obtain ⟨f0, f1, f2, f3, f4, f5⟩ := hf it (by simp)
    have hl := rv.length
    have hsz : its.toArray.size = i := by
      rw [List.size_toArray]
      omega
    have D := PySem.Draws.tuple (prog := X.prog) (w := X.w) (A := X.A.in1) (I.ok.hd hc) it a hna.symm its.toArray
    rw [← hsz] at hit
    exact wpAny_pyNext_enum_endD D he ⟨hit, p⟩ fun h' eb => ⟨rfl, I.turned (t' := s.toks) (fun b o hb e => eb b o hb e) f0 f1 f3 f4 f5⟩
  self := fun A i s Q E st h => let ⟨⟨_, he⟩, _⟩ := st; wpAny_pyIter_enum he h
def iEnumT (K : PySem.W.Frag) (ta : TA) : TI := fun σ H R => ta σ H fun vs H1 => ∃ a xs, vs = [.ref a] ∧ SqT K H1 a xs ∧ R (IteT K a) H1
theorem pi_enumT {X : Cx} {e : Expr} {ta : TA} {p pos tpos : Pos} {elts : List Expr} {kk : Nat} (hg : Gl X "enumerate") (hm : X.mg "enumerate" = none) (ha : PA X [e] ta) (hs : starEach [e] X.env = [(false, eval e X.env)] := by rfl) :
    PI X (.Tuple elts kk tpos) (.Call (.Name "enumerate" p) [e] [] pos) (iEnumT X.K ta) := by
  refine ⟨fun pins s σ H R I h => ?_⟩
  refine Call_ (ld_blt I hg hm boot_enumerate (PyProof.Rows.callWith_type1 (thn (ha.run pos pins s σ H _ I h) fun us s1 ⟨vs, H1, I1, r1, q1⟩ => ?_) hs rfl))
  obtain ⟨a, xs, ex, hq, q⟩ := q1
  subst ex
  cases r1 with
  | cons r rr =>
    cases rr
    cases r
    obtain ⟨its, rv, p', hz⟩ := I1.tuple hq
    have hal : a < s1.heap.objs.size := by
      obtain ⟨o, ho, _⟩ := p'
      exact Heap.lt_size ho
    refine PySem.My10.enum_begins1 (PySem.begins_tuple a its.toArray) p' fun h' he hit hsz hk => wpAny_pyIter_enum he ?_
    have I2 : Inv X pins σ H1 { s1 with heap := h' } := I1.kept (t' := s1.toks) hk
    refine ⟨s1.heap.objs.size + 1, [s1.heap.objs.size + 1, s1.heap.objs.size], _, _, H1, rfl, I2, turn_enumT a (s1.heap.objs.size + 1) s1.heap.objs.size, ⟨⟨.none, he⟩, ⟨_, hit, rfl, rfl⟩, Nat.succ_ne_self _, Nat.ne_of_gt hal⟩, fun b hb => ?_, q⟩
    have e' : b = s1.heap.objs.size + 1 ∨ b = s1.heap.objs.size := by simpa using hb
    have hle : s1.heap.objs.size ≤ b := by
      rcases e' with z | z
      · rw [z]; exact Nat.le_add_right _ _
      · rw [z]; exact Nat.le_refl _
    exact I1.fpOk hle (I1.hok.fresh hle)
/-- the loop over such pairs -/
theorem for_enumT {K : PySem.W.Frag} {a : Addr} {xs : List V} {g : TG} {tb : TS} {D : Ends} {σ : L2.St} {H : Hp} (Pv : Nat → L2.St → Hp → Prop) (h0 : Pv 0 σ H) (hq : ∀ i σ H, Pv i σ H → SqT K H a xs)
    (hs : ∀ i x T σ H, xs[i]? = some x → Pv i σ H → H T = none → g (.ref T) σ (upd H T (.tup [.int (i : Nat), x])) fun σ2 H2 => tb { D with nx := Pv (i + 1), ct := Pv (i + 1), bk := D.nx } σ2 H2) (hd : ∀ σ H, Pv xs.length σ H → D.nx σ H) :
    ∃ W : Nat → Nat → L2.St → Hp → Prop, (∃ m, W 0 m σ H) ∧ ∀ i m σ H, W i m σ H →
      ((IteT K a).stop i H ∧ D.nx σ H) ∨ ((IteT K a).go i H ∧ ∃ N : L2.St → Hp → Prop, (∀ σ' H', N σ' H' → ∃ m', m' < m ∧ W (i + 1) m' σ' H') ∧ ∀ x H', (IteT K a).yld i H x H' → g x σ H' fun σ2 H2 => tb { D with nx := N, ct := N, bk := D.nx } σ2 H2) := by
  refine ⟨fun i m σ H => m = xs.length - i ∧ i ≤ xs.length ∧ Pv i σ H, ⟨xs.length, by simp, Nat.zero_le _, h0⟩, ?_⟩
  rintro i m σ H ⟨rfl, hi, p⟩
  have q := hq i σ H p
  by_cases hlt : i < xs.length
  · refine .inr ⟨⟨xs, xs[i], q, List.getElem?_eq_getElem hlt⟩, Pv (i + 1), fun σ' H' p' => ⟨xs.length - (i + 1), by omega, rfl, hlt, p'⟩, fun x H' y => ?_⟩
    obtain ⟨T, x', rfl, nT, rfl, hx⟩ := y
    exact hs i x' T σ H (hx xs q) p nT
  · have e : i = xs.length := by omega
    subst e
    exact .inl ⟨⟨xs, q, rfl⟩, hd σ H p⟩
end L2
namespace My
open PySem PySem.Spec PyProof.Rows L2
abbrev NI : List Str := ["self", "name", "rows", "level", "role", "params", "at", "param"]
/-- a role, or what stands in its place -/
def roleD : PyData → Bool
  | .none => true
  | .str z => decide (z = "enter") || decide (z = "leave")
  | _ => false
def spIsRole : Sp := fun vs H Q _ => ∃ v d, vs = [v] ∧ Vd H v d ∧ LayN 60 d ∧ ∀ H', Same H H' → Q (.bl (roleD d)) H'
theorem seqT_up {K : PySem.W.Frag} {H H' : Hp} {a : Addr} {xs : List V} (e : Same H H') (h : SqT K H a xs) : SqT K H' a xs := by
  rcases h with (h | ⟨o, h⟩) | h
  · exact .inl (.inl (e _ _ h))
  · exact .inl (.inr ⟨o, e _ _ h⟩)
  · exact .inr h
/-- a tuple, tracked or written -/
def TupAt (K : PySem.W.Frag) (H : Hp) (a : Addr) : Prop := (∃ xs, H a = some (.tup xs)) ∨ ∃ o, K.lookup a = some o ∧ o.cls = .type "tuple"
theorem TupAt.up {K : PySem.W.Frag} {H H' : Hp} {a : Addr} (s : Same H H') (h : TupAt K H a) : TupAt K H' a := h.imp (fun ⟨xs, e⟩ => ⟨xs, s _ _ e⟩) fun h => h
theorem TupAt.ty {K : PySem.W.Frag} {H : Hp} {a : Addr} (h : TupAt K H a) : TyX K H (.ref a) (.type "tuple") := by
  rcases h with ⟨xs, h⟩ | ⟨o, h1, h2⟩
  · exact .base (.tup h)
  · exact .kTuple h1 h2
/-- rows that are right -/
def RowsOK (K : PySem.W.Frag) (H : Hp) (a : Addr) (rs : List PyData) : Prop := ∃ items, SqT K H a items ∧ TupAt K H a ∧ VdAll H items rs ∧ (∀ r ∈ rs, LayN 60 r ∧ Sm 12 r) ∧ rs.length ≤ 400 ∧ fw 17 (rs.map fun r => (r, 0)) 0 = none
theorem RowsOK.up {K : PySem.W.Frag} {H H' : Hp} {a : Addr} {rs : List PyData} (s : Same H H') (h : RowsOK K H a rs) : RowsOK K H' a rs := by
  obtain ⟨items, h1, h0, h2, h3⟩ := h
  exact ⟨items, seqT_up s h1, h0.up s, h2.up s, h3⟩
def spCheck (K : PySem.W.Frag) : Sp := fun vs H Q _ => ∃ (a hd : Addr) (rs : List PyData), vs = [.ref a, .ref hd] ∧ RowsOK K H a rs ∧ (∀ H, SqT K H hd (headsW.map V.str)) ∧ ∀ H', Same H H' → Q .non H'
/-- the fields of a method that is made -/
def madeF (nm lv rl : V) (p rows : Addr) : List (Str × V) := [("name", nm), ("params", .ref p), ("rows", .ref rows), ("level", lv), ("role", rl)]
/-- what is passed, all right -/
structure Given (K : PySem.W.Frag) (H : Hp) (nm : Str) (prs : List Str) (rows : Addr) (lv rl : V) (rs : List PyData) (dl dr : PyData) : Prop where
  nm : wordB nm = true
  ps : ∀ z ∈ prs, wordB z = true
  nd : prs.Nodup
  len : prs.length ≤ 2
  rows : RowsOK K H rows rs
  lv : Vd H lv dl
  ll : LayN 60 dl
  lo : levelD dl = true
  rl : Vd H rl dr
  lr : LayN 60 dr
  ro : roleD dr = true
theorem Given.up {K : PySem.W.Frag} {H H' : Hp} {nm : Str} {prs : List Str} {rows : Addr} {lv rl : V} {rs : List PyData} {dl dr : PyData} (s : Same H H') (h : Given K H nm prs rows lv rl rs dl dr) : Given K H' nm prs rows lv rl rs dl dr := ⟨h.nm, h.ps, h.nd, h.len, h.rows.up s, h.lv.up s, h.ll, h.lo, h.rl.up s, h.lr, h.ro⟩
def spInit (K : PySem.W.Frag) (C : Addr) : Sp := fun vs H Q _ => ∃ (x p rows dx : Addr) (nm : Str) (prs : List Str) (lv rl : V) (rs : List PyData) (dl dr : PyData), vs = [.ref x, .str nm, .ref rows, lv, rl, .ref p] ∧ H x = some (.ins C dx []) ∧ H p = some (.tup (prs.map V.str)) ∧ Given K H nm prs rows lv rl rs dl dr ∧
  ∀ H', But x H H' → H' x = some (.ins C dx (madeF (.str nm) lv rl p rows)) → Q .non H'
/-- what the class Method says -/
structure TM (K : PySem.W.Frag) (mg : Str → Option Value) (C : Addr) : Prop extends Tf K mg where
  params : ∃ t, mg "MOST_PARAMS" = some (.int 2 t)
  gC : mg "Method" = some (.ref C)
  cls : Cls K C
  n1 : NoAttr K C "name"
  n2 : NoAttr K C "params"
  n3 : NoAttr K C "rows"
  n4 : NoAttr K C "level"
  n5 : NoAttr K C "role"
section
variable {P : Program} {w : World} {K : PySem.W.Frag} {mg : Str → Option Value} {base : Heap} {C : Addr}
theorem scIsRole : FnScope ["value"] ["value"] (defScope sIsRole) := ⟨rfl, rfl, rfl, by decide +kernel, rfl, by decide +kernel, by decide +kernel⟩
theorem cl_isRole (D : DefAt K mg "is_role" sIsRole ["value"]) : Cl P w K mg base CX0 1 "is_role" spIsRole := by
  obtain ⟨f, fd, F, g, bd⟩ := D.ex
  refine ⟨f, fd, _, F.ok scIsRole (fun vs H Q E h => ?_) (fun cdv A outer s H vs Q E hr h => ?_), g, F.kp, bd⟩
  · obtain ⟨v, d, rfl, _⟩ := h
    rfl
  · obtain ⟨v, d, rfl, hv, hl, fin⟩ := h
    refine ⟨_, pss_one (ps_ret (pe_or (pe_cmpR op_isN (pv 0) pe_non (nomark _)) (pe_one (pe_cmpR (op_inT ?hu) (pv 0) (pe_tup (pa_cons pe_str (pa_cons pe_str pa_nil))) rfl)))), ?_⟩
    case hu =>
      have := hr.un
      show (A.deeper (envOfC "is_role" (defScope sIsRole) s.heap.objs.size f cdv)).units + 65 < cLine
      omega
    refine ⟨_, rfl, rfl, _, rfl, ?_⟩
    by_cases hn : v = .non
    · subst hn
      cases hv
      exact ite_pos' (by decide) (fin H (Same.refl _))
    · refine ite_neg' (by simp [hn]) ⟨_, rfl, (by show 2 ≤ sizeLine; decide), fun p np => ⟨d, (["enter", "leave"] : List Str).map PyData.str, (hv.up (same_new np)).dp, .tup (SqT.of upd_same) (dp_strs ["enter", "leave"]), hl.shaped (by omega), by decide +kernel, ?_⟩⟩
      have h1 := fin _ (same_new (o := .tup [.str "enter", .str "leave"]) np)
      have e : (((["enter", "leave"] : List Str).map PyData.str).any fun z => PyData.eqv z d) = roleD d := by
        cases hs : isStrD d with
        | false =>
          rw [any_nostr hs]
          cases hv with
          | non => exact absurd rfl hn
          | str z hz => cases hs
          | _ => rfl
        | true =>
          cases d with
          | str z =>
            rw [any_str]
            show decide (z ∈ [("enter" : Str), "leave"]) = (decide (z = "enter") || decide (z = "leave"))
            by_cases h1 : z = "enter" <;> by_cases h2 : z = "leave" <;> simp [h1, h2]
          | _ => cases hs
      rw [e]
      exact h1
theorem scCheckRows : FnScope ["rows", "heads", "at"] ["rows", "heads"] (defScope sCheckRows) := ⟨rfl, rfl, rfl, by decide +kernel, rfl, by decide +kernel, by decide +kernel⟩
theorem cl_checkRows (D : DefAt K mg "check_rows" sCheckRows ["rows", "heads"]) (T : Tf K mg) (cF : Cl P w K mg base CX0 11 "first_wrong_row" (spFirst K)) : Cl P w K mg base CX0 12 "check_rows" (spCheck K) := by
  obtain ⟨f, fd, F, g, bd⟩ := D.ex
  refine ⟨f, fd, _, F.ok scCheckRows (fun vs H Q E h => ?_) (fun cdv A outer s H vs Q E hr h => ?_), g, F.kp, bd⟩
  · obtain ⟨a, hd, rs, rfl, _⟩ := h
    rfl
  · obtain ⟨a, hd, rs, rfl, ⟨items, ha, hta, hk, hok, hlen, hfw⟩, hh, fin⟩ := h
    have nd := scCheckRows.nd
    refine ⟨_, pss_cons (ps_if (pt_not (pt_val (pe_callB call_isi (by rfl) T.isi (by decide +kernel) (pa_cons (pv 0) (pa_cons (pe_bltn rfl T.tuple (by decide +kernel) (v := .ty "tuple") rfl) pa_nil))))) pss_dead pss_nil)
      (pss_cons (ps_set (i := 2) nd rfl (.inl rfl) (pe_cl cF hr pass0 (pa_cons (pv 0) (pa_cons (pv 1) pa_nil))))
      (pss_one (ps_if (pt_cmpR op_notN (pv 2) pe_non (nomark _)) pss_dead pss_nil))), ?_⟩
    refine ⟨_, rfl, .ref a, _, _, _, _, rfl, .ty "tuple", hta.ty, kit_ty (r := true) (by decide +kernel), _, rfl, ite_neg' (by decide) ?_⟩
    refine ⟨_, rfl, _, rfl, a, hd, items, rs, rfl, ha, hk, hok, hlen, hh, fun H' sm => ?_⟩
    rw [hfw]
    exact ⟨_, rfl, rfl, _, rfl, ite_neg' (by decide) (fin H' sm)⟩
theorem scInit : FnScope NI ["self", "name", "rows", "level", "role", "params"] (defScope sInit) := ⟨rfl, rfl, rfl, by decide +kernel, rfl, by decide +kernel, by decide +kernel⟩
theorem init_body (T : TM K mg C) (cW : Cl P w K mg base CX0 2 "is_word" spIsWord) (cV : Cl P w K mg base CX0 2 "is_level" spIsLevel) (cO : Cl P w K mg base CX0 1 "is_role" spIsRole) (cK : Cl P w K mg base CX0 12 "check_rows" (spCheck K))
    {f : Addr} {cdv : Value} {A : Around} {outer : List Env} {s : Shared} {H : Hp} {vs : List V} {Q : VK} {E : XK} (hr : Room 12 (A.deeper (envOfC "Method.__init__" (defScope sInit) s.heap.objs.size f cdv))) (h : spInit K C vs H Q E) :
    ∃ t, PSs (cxOf CX0 P w K mg base NI "Method.__init__" (defScope sInit) f cdv A outer s H E).nox (defBody sInit) t ∧ t { nx := fun _ H' => Q .non H', rt := Q } (L2.start NI vs) H := by
  obtain ⟨x, p, rows, dx, nm, prs, lv, rl, rs, dl, dr, rfl, hx, hp, G, fin⟩ := h
  have nd := scInit.nd
  obtain ⟨tp, gp⟩ := T.params
  obtain ⟨ha, gh, hh⟩ := T.heads
  refine ⟨_, pss_cons (ps_if (pt_not (pt_val (pe_cl cW hr pass0 (pa_cons (pv 1) pa_nil)))) pss_dead pss_nil)
    (C8.pss_cut (ps_for PassesOwn.never rfl (pi_enumT rfl T.enum (pa_cons (pv 5) pa_nil)) (pg_tup rfl (pgs_cons (pg_name (i := 6) nd rfl (.inl rfl)) (pgs_cons (pg_name (i := 7) nd rfl (.inl rfl)) pgs_nil)))
      (pss_one (ps_if (PW.pt (pw_or (pt_not (pt_val (pe_cl cW hr pass0 (pa_cons (pv 7) pa_nil)))) (pw_or1 (pt_cmpR op_in_seq (pv 7) (pe_slice sl_tup (pv 5) po_none (po_some (pv 6))) rfl)))) pss_dead pss_nil)))
    (pss_cons (ps_if (pt_cmpR op_gt (pe_callB call_len_seq (by rfl) T.len PySem.boot_len (pa_cons (pv 5) pa_nil)) (pe_glob rfl gp (v := .int 2) ⟨_, rfl⟩) (nomark _)) pss_dead pss_nil)
    (pss_cons (ps_if (pt_not (pt_val (pe_cl cV hr pass0 (pa_cons (pv 3) pa_nil)))) pss_dead pss_nil)
    (pss_cons (ps_if (pt_not (pt_val (pe_cl cO hr pass0 (pa_cons (pv 4) pa_nil)))) pss_dead pss_nil)
    (pss_cons (ps_expr (pe_cl cK hr pass0 (pa_cons (pv 2) (pa_cons (pe_glob rfl gh (v := .ref ha) rfl) pa_nil))))
    (pss_cons (ps_fld (pv 0) (pv 1) rfl) (pss_cons (ps_fld (pv 0) (pv 5) rfl) (pss_cons (ps_fld (pv 0) (pv 2) rfl) (pss_cons (ps_fld (pv 0) (pv 3) rfl) (pss_one (ps_fld (pv 0) (pv 4) rfl))))))))))), ?_⟩
  have wl : ∀ {z : Str}, wordB z = true → z.length ≤ 1000 := fun {z} h => by
    unfold wordB at h
    simp only [Bool.and_eq_true, decide_eq_true_eq] at h
    omega
  refine ⟨_, rfl, .str nm, .str nm, rfl, .str nm (wl G.nm), fun H1 s1 => ⟨_, rfl, ite_neg' (by show ¬ ((!wordB nm) = true); rw [G.nm]; decide) ?_⟩⟩
  refine ⟨fun σ' H' => ∃ v6 v7, σ' = [some (.ref x), some (.str nm), some (.ref rows), some lv, some rl, some (.ref p), v6, v7] ∧ Same H H', ?_, ?_⟩
  · refine ⟨_, rfl, p, prs.map V.str, rfl, SqT.of (s1 _ _ hp), for_enumT (K := K) (a := p) (xs := prs.map V.str) (fun i σ' H' => ∃ v6 v7, σ' = [some (.ref x), some (.str nm), some (.ref rows), some lv, some rl, some (.ref p), v6, v7] ∧ Same H H') ?_ (fun i σ' H' pv => ?_) (fun i y T' σ' H' hy pv nT => ?_) (fun σ' H' pv => ?_)⟩
    · exact ⟨none, none, rfl, s1⟩
    · obtain ⟨v6, v7, _, sm⟩ := pv
      exact SqT.of (sm _ _ hp)
    · obtain ⟨v6, v7, rfl, sm⟩ := pv
      rw [List.getElem?_map] at hy
      obtain ⟨z, hz, rfl⟩ := Option.map_eq_some_iff.mp hy
      have hlt : i < prs.length := (List.getElem?_eq_some_iff.mp hz).1
      have hwz := G.ps z (List.mem_of_getElem? hz)
      have smT := sm.trans (same_new (o := .tup [.int (i : Nat), .str z]) nT)
      refine ⟨T', _, rfl, SqT.of upd_same, rfl, _, _, rfl, _, _, rfl, rfl, ?_⟩
      refine ⟨_, rfl, .str z, .str z, rfl, .str z (wl hwz), fun H3 s3 => ⟨_, rfl, ite_neg' (by show ¬ ((!wordB z) = true); rw [hwz]; decide) ?_⟩⟩
      have sm3 := smT.trans s3
      have hit : i ≤ (prs.map V.str).length := by rw [List.length_map]; omega
      refine ⟨_, rfl, _, rfl, _, rfl, ((i : Nat) : Int), rfl, p, prs.map V.str, rfl, SqT.of (sm3 _ _ hp), ?_, fun q nq => ⟨q, _, rfl, .inr (SqT.of upd_same), rfl, ?_, _, rfl, ?_⟩⟩
      · rintro ⟨_, h2⟩
        rw [HT.sIx_nat, Nat.min_eq_left hit, List.length_map] at h2
        omega
      · rw [cut_take hit, ← List.map_take]
        exact flat_strs _
      · rw [cut_take hit, ← List.map_take, if_neg (by decide), in_strs]
        refine ite_neg' ?_ ⟨_, _, rfl, sm3.trans (same_new nq)⟩
        have hnot : z ∉ prs.take i := fun hm => by
          obtain ⟨j, hj, ej⟩ := List.getElem_of_mem hm
          rw [List.length_take] at hj
          have e1 : prs[j]? = some z := by
            rw [List.getElem_take] at ej
            rw [List.getElem?_eq_getElem (by omega), ej]
          have e2 := (List.getElem?_inj (by omega) G.nd).mp (e1.trans hz.symm)
          omega
        simp [hnot]
    · exact pv
  · rintro _ H2 ⟨v6, v7, rfl, s2⟩
    have G2 := G.up s2
    refine ⟨_, rfl, p, _, rfl, .inr (SqT.of (s2 _ _ hp)), _, _, rfl, rfl, _, rfl, ite_neg' (by have := G.len; simp; omega) ?_⟩
    refine ⟨_, rfl, lv, dl, rfl, G2.lv, _, rfl, ite_neg' (by rw [G.lo]; decide) ?_⟩
    refine ⟨_, rfl, rl, dr, rfl, G2.rl, G.lr, fun H3 s3 => ⟨_, rfl, ite_neg' (by rw [G.ro]; decide) ?_⟩⟩
    refine ⟨_, rfl, rows, ha, rs, rfl, G2.rows.up s3, hh, fun H4 s4 => ?_⟩
    have sm4 := s2.trans (s3.trans s4)
    have hx4 := sm4 _ _ hx
    refine ⟨_, rfl, _, rfl, x, C, dx, _, rfl, hx4, T.cls, T.n1, (by show 0 < 1000; decide), ?_⟩
    refine ⟨_, rfl, _, rfl, x, C, dx, _, rfl, upd_same, T.cls, T.n2, (by show 1 < 1000; decide), ?_⟩
    refine ⟨_, rfl, _, rfl, x, C, dx, _, rfl, upd_same, T.cls, T.n3, (by show 2 < 1000; decide), ?_⟩
    refine ⟨_, rfl, _, rfl, x, C, dx, _, rfl, upd_same, T.cls, T.n4, (by show 3 < 1000; decide), ?_⟩
    refine ⟨_, rfl, _, rfl, x, C, dx, _, rfl, upd_same, T.cls, T.n5, (by show 4 < 1000; decide), ?_⟩
    refine fin _ (fun c o nc e => ?_) ?_
    · rw [upd_ne nc, upd_ne nc, upd_ne nc, upd_ne nc, upd_ne nc]
      exact sm4 _ _ e
    · rw [upd_same]
      rfl
end
end My
namespace My
open PySem PySem.Spec PyProof.Rows L2 StX
abbrev kwM : List Str := ["rows", "level", "role"]
theorem bind_init (kV doc pm : Value) (an : Option Addr) (cdv ct : Value) (x n r l o : Value) (rest : List Value) : bindArgs (PySem.W.fnOf "__init__" "Method.__init__" (defArgs sInit) (defBody sInit) (defScope sInit) .none kV doc pm an cdv ct) ⟨x :: n :: rest, kwM.zip [r, l, o]⟩ = (newTuple rest >>= fun t => pure ((["self", "name", "rows", "level", "role", "params"] : List Str).zip [x, n, r, l, o, t])) := by
  cases rest with
  | nil => rfl
  | cons a rest => rfl
/-- the looks for keyword-only defaults, then u -/
def KwTo {α : Type} (D : Addr) : List (Str × Value) → Sem α → Sem α → Prop
  | [], t, u => t = u
  | q :: l, t, u => ∃ (β γ : Type) (k1 : Option Value → Sem β) (k2 : β → Sem γ) (k3 : γ → Sem α) (a : β), t = ((nsGet D q.1 >>= k1) >>= k2) >>= k3 ∧ k1 (some q.2) = pure a ∧ KwTo D l (k2 a >>= k3) u
theorem KwTo.run {α : Type} {K : PySem.W.Frag} {M : Model} {A : Around} {D : Addr} {Q : α → Shared → Prop} {E : Value → Shared → Prop} {s : Shared} (X : K.In s.heap) : ∀ {l : List (Str × Value)} {t u : Sem α}, (∀ q ∈ l, PySem.W.nsIn K D q.1 = some (some q.2)) → KwTo D l t u → wpAny M A u Q E s → wpAny M A t Q E s
  | [], t, u, _, e, h => by
    rw [show t = u from e]
    exact h
  | q :: l, t, u, hl, e, h => by
    obtain ⟨β, γ, k1, k2, k3, a, e1, e2, e3⟩ := e
    have l1 : PySem.W.Looks M s.heap (nsGet D q.1 >>= k1) a := (PySem.W.looks_nsIn X (hl q (List.mem_cons_self ..))).andThen (PySem.W.Looks.of_pure e2)
    rw [e1, bind_assoc]
    exact wpAny_bind (l1.here (KwTo.run X (fun p hp => hl p (List.mem_cons_of_mem _ hp)) e3 h))
theorem bind_plain (D : Addr) (doc pm : Value) (an : Option Addr) (cdv ct : Value) (x n a b c : Value) : KwTo D [("rows", a), ("level", b), ("role", c)] (bindArgs (PySem.W.fnOf "__init__" "Method.__init__" (defArgs sInit) (defBody sInit) (defScope sInit) .none (.ref D) doc pm an cdv ct) ⟨[x, n], []⟩)
    (newTuple [] >>= fun t => pure ((["self", "name", "rows", "level", "role", "params"] : List Str).zip [x, n, a, b, c, t])) :=
  ⟨_, _, _, _, _, _, rfl, rfl, _, _, _, _, _, _, rfl, rfl, _, _, _, _, _, _, rfl, rfl, rfl⟩
/-- a call with keywords -/
def FnRK (P : Program) (w : World) (K : PySem.W.Frag) (mg : Str → Option Value) (base : Heap) (CX : CXT) (k : Nat) (f : Addr) (sp : List V → Sp) : Prop :=
  ∀ (A : Around) (outer : List Env) (s : Shared) (H : Hp) (us ws : List Value) (vs zs : List V) (Q : VK) (E : XK), Room k A → Env0 P w K mg base A outer s H → Vals vs us → Vals zs ws → sp zs vs H Q E → codeAny (model P w) A (.call (.ref f) ⟨us, kwM.zip ws⟩) (CR CX outer P w H s Q E) s
def spMake (K : PySem.W.Frag) (C : Addr) : List V → Sp := fun zs vs H Q E => ∃ (x n r l o : V) (rest : List V), vs = x :: n :: rest ∧ zs = [r, l, o] ∧ rest.length ≤ 10 ∧ ∀ p, H p = none → spInit K C [x, n, r, l, o, .ref p] (upd H p (.tup rest)) Q E
/-- without keywords: empty rows, level 0, no role -/
def spPlain (K : PySem.W.Frag) (C R0 : Addr) : Sp := fun vs H Q E => ∃ x n : V, vs = [x, n] ∧ ∀ p, H p = none → spInit K C [x, n, .ref R0, .int 0, .non, .ref p] (upd H p (.tup [])) Q E
section
variable {P : Program} {w : World} {K : PySem.W.Frag} {mg : Str → Option Value} {base : Heap} {C f : Addr} {oc : Value} {od an : Option Addr} {osl : Array (Option Value)} {kV doc pm cdv ct : Value}
theorem fn_init (lk : K.lookup f = some ⟨oc, od, .func (PySem.W.fnOf "__init__" "Method.__init__" (defArgs sInit) (defBody sInit) (defScope sInit) .none kV doc pm an cdv ct), osl⟩) (hcd : PySem.W.codeIn K cdv "Method.__init__" = true)
    (T : TM K mg C) (cW : Cl P w K mg base CX0 2 "is_word" spIsWord) (cV : Cl P w K mg base CX0 2 "is_level" spIsLevel) (cO : Cl P w K mg base CX0 1 "is_role" spIsRole) (cK : Cl P w K mg base CX0 12 "check_rows" (spCheck K)) : FnRK P w K mg base CX0 13 f (spMake K C) := by
  intro A outer s H us ws vs zs Q E hr e0 r rz hsp
  obtain ⟨x, n, r', l, o, rest, rfl, rfl, hz, hq⟩ := hsp
  obtain ⟨ux, us, rfl, rx, r⟩ : ∃ a b, us = a :: b ∧ RelV x a ∧ Vals (n :: rest) b := by
    cases r with
    | cons h t => exact ⟨_, _, rfl, h, t⟩
  obtain ⟨un, u2, rfl, rn, r2⟩ : ∃ a b, us = a :: b ∧ RelV n a ∧ Vals rest b := by
    cases r with
    | cons h t => exact ⟨_, _, rfl, h, t⟩
  obtain ⟨w1, w2, w3, rfl, rw1, rw2, rw3⟩ : ∃ a b c, ws = [a, b, c] ∧ RelV r' a ∧ RelV l b ∧ RelV o c := by
    cases rz with
    | cons h t => cases t with
      | cons h2 t => cases t with
        | cons h3 t => cases t with
          | nil => exact ⟨_, _, _, rfl, h, h2, h3⟩
  have hn : H s.heap.objs.size = Option.none := e0.hok.fresh (Nat.le_refl _)
  have hz1 : rest.length ≤ sizeLine := by rw [sizeLine_eq]; omega
  have hl2 : u2.length ≤ sizeLine := by rw [← r2.length]; exact hz1
  refine run_bnd lk hcd scInit hr e0 (G := fun xs H2 => ∃ p, H p = Option.none ∧ xs = [x, n, r', l, o, V.ref p] ∧ H2 = upd H p (.tup rest)) (fun A' Ex Q' h => ?_) fun s2 H2 xs ⟨p, hp, ex, eH⟩ hr' => ?_
  · rw [bind_init]
    refine wpAny_bind (wpAny_newTuple (wpAny_pure ?_) hl2)
    have new : ObjOk P w (upd H s.heap.objs.size (.tup rest)) (s.heap.push ({ cls := .type "tuple", data := .seq u2.toArray } : Obj)) s.heap.objs.size (.tup rest) := ⟨hz1, u2, r2, ⟨_, Heap.get?_push_size _ rfl, rfl, _, rfl⟩⟩
    have un' := un_laid (fs := frs outer) (s := s) (o := ({ cls := .type "tuple", data := .seq u2.toArray } : Obj)) (u := .tup rest) hn
    exact h _ _ [x, n, r', l, o, V.ref s.heap.objs.size] [ux, un, w1, w2, w3, Value.ref s.heap.objs.size] (env0_laid e0 new) un' rfl (fun _ _ z => z) (.cons rx (.cons rn (.cons rw1 (.cons rw2 (.cons rw3 (.cons rfl .nil))))))
      rfl ⟨_, hn, rfl, rfl⟩
  · subst ex eH
    obtain ⟨t, h1, h2⟩ := init_body T cW cV cO cK (s := s2) (outer := outer) (f := f) (cdv := cdv) hr' (hq p hp)
    exact ⟨t, h1.nox, h2⟩
theorem fn_plain {D R0 : Addr} {tk : Tok} (lk : K.lookup f = some ⟨oc, od, .func (PySem.W.fnOf "__init__" "Method.__init__" (defArgs sInit) (defBody sInit) (defScope sInit) .none (.ref D) doc pm an cdv ct), osl⟩) (hcd : PySem.W.codeIn K cdv "Method.__init__" = true)
    (d1 : PySem.W.nsIn K D "rows" = some (some (.ref R0))) (d2 : PySem.W.nsIn K D "level" = some (some (.int 0 tk))) (d3 : PySem.W.nsIn K D "role" = some (some .none))
    (T : TM K mg C) (cW : Cl P w K mg base CX0 2 "is_word" spIsWord) (cV : Cl P w K mg base CX0 2 "is_level" spIsLevel) (cO : Cl P w K mg base CX0 1 "is_role" spIsRole) (cK : Cl P w K mg base CX0 12 "check_rows" (spCheck K)) : FnR P w K mg base CX0 13 f (spPlain K C R0) := by
  intro A outer s H us vs Q E hr e0 r hsp
  obtain ⟨x, n, rfl, hq⟩ := hsp
  obtain ⟨ux, un, rfl, rx, rn⟩ : ∃ a b, us = [a, b] ∧ RelV x a ∧ RelV n b := by
    cases r with
    | cons h t => cases t with
      | cons h2 t => cases t with
        | nil => exact ⟨_, _, rfl, h, h2⟩
  have hn : H s.heap.objs.size = Option.none := e0.hok.fresh (Nat.le_refl _)
  have KX : K.In s.heap := e0.mod.kin.keeps fun b o e => (e0.bs b o e).1
  refine run_bnd lk hcd scInit hr e0 (G := fun xs H2 => ∃ p, H p = Option.none ∧ xs = [x, n, .ref R0, .int 0, .non, V.ref p] ∧ H2 = upd H p (.tup [])) (fun A' Ex Q' h => ?_) fun s2 H2 xs ⟨p, hp, ex, eH⟩ hr' => ?_
  · refine KwTo.run KX (l := [("rows", .ref R0), ("level", .int 0 tk), ("role", .none)]) (fun q hq => ?_) (bind_plain D doc pm an cdv ct ux un (.ref R0) (.int 0 tk) .none) ?_
    · simp only [List.mem_cons, List.not_mem_nil, or_false] at hq
      rcases hq with rfl | rfl | rfl
      · exact d1
      · exact d2
      · exact d3
    refine wpAny_bind (wpAny_newTuple (wpAny_pure ?_) (Nat.zero_le _))
    have new : ObjOk P w (upd H s.heap.objs.size (.tup [])) (s.heap.push ({ cls := .type "tuple", data := .seq ([] : List Value).toArray } : Obj)) s.heap.objs.size (.tup []) := ⟨Nat.zero_le _, [], .nil, ⟨_, Heap.get?_push_size _ rfl, rfl, _, rfl⟩⟩
    have un' := un_laid (fs := frs outer) (s := s) (o := ({ cls := .type "tuple", data := .seq ([] : List Value).toArray } : Obj)) (u := .tup []) hn
    exact h _ _ [x, n, .ref R0, .int 0, .non, V.ref s.heap.objs.size] [ux, un, .ref R0, .int 0 tk, .none, Value.ref s.heap.objs.size] (env0_laid e0 new) un' rfl (fun _ _ z => z) (.cons rx (.cons rn (.cons rfl (.cons ⟨_, rfl⟩ (.cons rfl (.cons rfl .nil))))))
      rfl ⟨_, hn, rfl, rfl⟩
  · subst ex eH
    obtain ⟨t, h1, h2⟩ := init_body T cW cV cO cK (s := s2) (outer := outer) (f := f) (cdv := cdv) hr' (hq p hp)
    exact ⟨t, h1.nox, h2⟩
end
def tMakeRK (C : Addr) (sp : List V → Sp) (E : XK) (t tk : TA) : TE := fun σ H Q => t σ H fun vs H1 => tk σ H1 fun zs H2 => zs.length = 3 ∧ ∀ x dx, H2 x = none → H2 dx = none → dx ≠ x →
  sp zs (.ref x :: vs) (upd (upd H2 dx (.own x)) x (.ins C dx [])) (fun v H3 => v = .non ∧ Q (.ref x) H3) E
section
variable {X : Cx} {CX : CXT} {k : Nat} {f C : Addr} {sp : List V → Sp} {E : XK} {x : Str} {p pos : Pos} {e : Expr} {es : List Expr} {kws : List Keyword} {t tk : TA}
theorem run_makeRK {pins : List (Addr × Obj)} {σ : L2.St} {H : Hp} {s : Shared} {Q : VK} {us ws : List Value} {vs zs : List V} (M : Mk X.K C f) (F : FnRK X.prog X.w X.K X.mg X.base CX k f sp) (hr : Room (k + 1) X.A) (hx : Passes CX X E)
    (I : Inv X pins σ H s) (r : Vals vs us) (rz : Vals zs ws)
    (h : ∀ x dx, H x = none → H dx = none → dx ≠ x → sp zs (.ref x :: vs) (upd (upd H dx (.own x)) x (.ins C dx [])) (fun v H2 => v = .non ∧ Q (.ref x) H2) E) :
    wpAny (model X.prog X.w) X.A (call (.ref C) us (kwM.zip ws)) (EP X pins σ Q) X.xe s := by
  have hq := h (s.heap.objs.size + 1) s.heap.objs.size (I.hok.fresh (Nat.le_succ _)) (I.hok.fresh (Nat.le_refl _)) (Nat.ne_of_lt (Nat.lt_succ_self _))
  have I2 := Inv.made (C := C) I
  have r1 : Vals (V.ref (s.heap.objs.size + 1) :: vs) (Value.ref (s.heap.objs.size + 1) :: us) := .cons rfl r
  refine wpAny_call (make_map (f := f) I.kIn M.makes M.init (beq_iff_eq.mp M.fn) (codeAny_mono (F _ X.stack _ _ (Value.ref (s.heap.objs.size + 1) :: us) ws _ _ _ E (hr.make C us (kwM.zip ws))
    (I2.env0.make C us (kwM.zip ws)) r1 rz hq) fun r s' hq' => ?_))
  cases r with
  | error e => exact hx pins σ _ _ e s' I2 hq'
  | ok fl =>
    cases fl with
    | ret u =>
      obtain ⟨v, H', I3, rv, ev, q3⟩ := I2.after hq'
      subst ev
      exact ⟨rv, ⟨V.ref (s.heap.objs.size + 1), H', I3, rfl, q3⟩⟩
    | next => exact False.elim hq'
    | brk => exact False.elim hq'
    | cont => exact False.elim hq'
theorem pe_makeRK (M : Mk X.K C f) (F : FnRK X.prog X.w X.K X.mg X.base CX k f sp) (hr : Room (k + 1) X.A) (hg : Gl X x) (hm : X.mg x = some (.ref C)) (hx : Passes CX X E) (ha : PA X (e :: es) t) (hkw : PK X kws tk)
    (hall : (backToKw pos (keywordEach kws X.env)).all (·.1.isSome) = true := by rfl) (hks : (backToKw pos (keywordEach kws X.env)).filterMap (·.1) = kwM := by rfl) (hdb : (x == ("__debug__" : Str)) = false := by decide)
    (he : starEach (e :: es) X.env = (false, eval e X.env) :: starEach es X.env := by rfl) (hpl : ((backTo pos (starEach (e :: es) X.env)).any (·.1) || (backToKw pos (keywordEach kws X.env)).any (·.1.isNone)) = false := by rfl) :
    PE X (.Call (.Name x p) (e :: es) kws pos) (tMakeRK C sp E t tk) := by
  refine ⟨fun pins s σ H Q I h => ?_⟩
  refine wpAny_Call_Name_kw (ld_glob I hg hm ?_ hdb)
  refine PySem.W.callWith_KW (h₀ := X.base) I.ok.mod.kin M.kp hall (thn (ha.run pos pins s σ H _ I h) fun us s1 ⟨vs, H1, I1, r, q⟩ => ?_) hpl he
  refine thn (hkw.run pos pins s1 σ H1 _ I1 q) fun ws s2 ⟨zs, H2, I2, rz, l1, q2⟩ => ⟨I2.kIn, ?_⟩
  rw [hks]
  exact run_makeRK M F hr hx I2 r rz q2
/-- what the class must say for != -/
structure NeC (K : PySem.W.Frag) (C f : Addr) : Prop where
  ex : ∃ (nm q : Str) (N : Addr) (bs : List Value) (hdct : Bool) (sn : List Str) (sub : List Value) (ab : Bool) (col : Option Bool) (dd : Option Addr) (k0 k1 k2 k3 k5 : Option Value) (newId : String) (o of : Obj) (es : Array DictEntry) (ep : Nat),
    K.lookup C = some (excClassObj nm q C N bs [.type "object"] hdct sn sub ab col dd k0 k1 k2 k3 k5 newId) ∧ K.lookup N = some o ∧ o.data = .dict es ep ∧ StrKeys es ∧ nsFind es "__eq__" = some (.ref f) ∧ nsFind es "__ne__" = none ∧ K.lookup f = some of ∧ of.cls = .type "function"
def rNeO (C : Addr) (sp : Sp) : R2 := fun x y H Q => ∃ a dx fs b dy gs, x = .ref a ∧ H a = some (.ins C dx fs) ∧ y = .ref b ∧ H b = some (.ins C dy gs) ∧ sp [x, y] H (fun v H' => ∃ c, v = .bl c ∧ Q (.bl (!c)) H') (fun _ _ _ => False)
theorem op_neO {n : Nat} {fd : FuncData} {ps : List Str} {sp : Sp} (F : FnOk X.prog X.w X.K X.mg X.base CX0 n f fd ps sp) (N : NeC X.K C f) (hb : Binds X.K fd ps []) (hr : Room (n + 1) X.A) (hu : X.A.units + 1 < cLine) : OpR X (compareOp .NotEq) (rNeO C sp) := by
  intro pins s σ H x y v u Q I rx ry hq
  obtain ⟨a, dx, fs, b, dy, gs, rfl, ha, rfl, hb', hsp⟩ := hq
  cases rx
  cases ry
  obtain ⟨mA, J, _⟩ := ins_get I.hok ha
  obtain ⟨od, J, _⟩ := J.look
  obtain ⟨mB, J', _⟩ := ins_get I.hok hb'
  obtain ⟨od', J', _⟩ := J'.look
  obtain ⟨nm, q, N0, bs, hdct, sn, sub, ab, col, dd, k0, k1, k2, k3, k5, newId, o, of, es, ep, h1, h2, h3, h4, h5, h6, h7, h8⟩ := N.ex
  have e0 : Env0 X.prog X.w X.K X.mg X.base X.A.in1 X.stack s H := by
    have e := I.env0
    exact ⟨e.frames, e.mod, e.bs, e.bsz, e.funs, e.frf, e.hok, e.bare⟩
  have hl := F.len _ _ _ _ hsp
  have r2 : Vals [V.ref a, V.ref b] [Value.ref a, Value.ref b] := .cons rfl (.cons rfl .nil)
  have X0 : s.heap.OwnEqNoNe a C f "object" [.type "object"] :=
    ⟨_, of, nm, q, N0, bs, hdct, sn, sub, ab, col, dd, k0, k1, k2, k3, k5, newId, nsFind es, _, J.1, J.2, I.kIn _ _ h1, ⟨o, es, ep, I.kIn _ _ h2, h3, h4, fun _ => rfl⟩, h5, I.kIn _ _ h7, h8, PySem.F.cmp_object.mro, PySem.F.cmp_object.eq.lookup, h6⟩
  refine compareOp_ne_ownEq PySem.F.cmp_object X0 J'.1 J'.2 hu ?_
  refine wpAny_call (codeAny_mono (F.run X.A.in1 X.stack s H ⟨[.ref a, .ref b], []⟩ [.ref a, .ref b] [.ref a, .ref b] _ _ hr.in1 e0 (by
      have := hb s [.ref a, .ref b] I.kIn (by simpa using hl)
      simpa using this) r2 hsp) fun r s' hq => ?_)
  cases r with
  | error e => exact False.elim hq
  | ok fl =>
    cases fl with
    | ret w =>
      obtain ⟨z, H', I', rz, c, rfl, ex⟩ := I.after hq
      cases rz
      exact ⟨c, rfl, .bl (!c), H', I', rfl, ex⟩
    | next => exact False.elim hq
    | brk => exact False.elim hq
    | cont => exact False.elim hq
end
end My
namespace My
open PySem PySem.Spec PyProof.Rows L2
mutual
theorem Dp.up {K : PySem.W.Frag} {H H' : Hp} (s : Same H H') : ∀ {d : PyData} {v : V}, Dp K H v d → Dp K H' v d
  | .none, _, h => by
    cases h
    exact .non
  | .bool _, _, h => by
    cases h
    exact .bl _
  | .int _, _, h => by
    cases h
    exact .int _
  | .str _, _, h => by
    cases h
    exact .str _
  | .list ds, _, h => by
    cases h with
    | lst hq ha => exact .lst (s.seq hq) (DpAll.up s ha)
  | .tuple ds, _, h => by
    cases h with
    | tup hq ha => exact .tup (seqT_up s hq) (DpAll.up s ha)
  | .dict _, _, h => by cases h
theorem DpAll.up {K : PySem.W.Frag} {H H' : Hp} (s : Same H H') : ∀ {ds : List PyData} {vs : List V}, DpAll K H vs ds → DpAll K H' vs ds
  | [], _, h => by
    cases h
    exact .nil
  | _ :: _, _, h => by
    cases h with
    | cons h1 h2 => exact .cons (Dp.up s h1) (DpAll.up s h2)
end
/-- the type of the class's instances -/
structure TC (K : PySem.W.Frag) (mg : Str → Option Value) (C : Addr) : Prop extends TM K mg C where
  ha : PySem.W.findIn K (.ref C) "__class__" = some (some (.builtin "object.__class__"))
  hn : PySem.W.specialIn K (.builtin "object.__class__") "__get__" = some (some (.builtin "getset_descriptor.__get__"))
  htk : PySem.W.takesIn K (.builtin "object.__class__") = some true
  hm : PySem.W.mroIn K C (.type "object") = some true
  cc : PySem.W.kitOne K (.ref C) (.ref C) = some true
  tt : PySem.W.kitOne K (.type "tuple") (.ref C) = some false
/-- a method, with its parts as data -/
def InM (K : PySem.W.Frag) (H : Hp) (C a : Addr) (d : PyData) : Prop := ∃ (dx p rows : Addr) (nm lv rl : V) (d1 d2 d3 d4 d5 : PyData), H a = some (.ins C dx (madeF nm lv rl p rows)) ∧ d = .tuple [d1, d2, d3, d4, d5] ∧ Dp K H nm d1 ∧ Dp K H (.ref p) d2 ∧ Dp K H (.ref rows) d3 ∧ Dp K H lv d4 ∧ Dp K H rl d5 ∧ LayN 62 d
theorem InM.up {K : PySem.W.Frag} {H H' : Hp} {C a : Addr} {d : PyData} (s : Same H H') (h : InM K H C a d) : InM K H' C a d := by
  obtain ⟨dx, p, rows, nm, lv, rl, d1, d2, d3, d4, d5, h0, h1, h2, h3, h4, h5, h6, h7⟩ := h
  exact ⟨dx, p, rows, nm, lv, rl, d1, d2, d3, d4, d5, s _ _ h0, h1, Dp.up s h2, Dp.up s h3, Dp.up s h4, Dp.up s h5, Dp.up s h6, h7⟩
def spEqM (K : PySem.W.Frag) (C : Addr) : Sp := fun vs H Q _ => ∃ a d, InM K H C a d ∧ ((∃ b xs, vs = [.ref a, .ref b] ∧ H b = some (.tup xs) ∧ Q (.bl false) H) ∨ (∃ b e, vs = [.ref a, .ref b] ∧ InM K H C b e ∧ Q (.bl (PyData.eqv d e)) H))
def spParts (K : PySem.W.Frag) (C : Addr) : Sp := fun vs H Q _ => ∃ a d, vs = [.ref a] ∧ InM K H C a d ∧ ∀ q H', Same H H' → Dp K H' (.ref q) d → Q (.ref q) H'
section
variable {P : Program} {w : World} {K : PySem.W.Frag} {mg : Str → Option Value} {base : Heap} {C : Addr}
theorem TC.ty (T : TC K mg C) {H : Hp} {a dx : Addr} {fs : List (Str × V)} (h : H a = some (.ins C dx fs)) : TyX K H (.ref a) (.ref C) := .base (.ins h T.cls T.ha T.hn T.htk T.hm)
theorem scEq : FnScope ["self", "other"] ["self", "other"] (defScope sEq) := ⟨rfl, rfl, rfl, by decide +kernel, rfl, by decide +kernel, by decide +kernel⟩
theorem ok_eq {f : Addr} {fd : FuncData} (F : Fun K "__eq__" "Method.__eq__" sEq f fd) (T : TC K mg C) : FnOk P w K mg base CX0 1 f fd ["self", "other"] (spEqM K C) := by
  refine F.ok scEq (fun vs H Q E h => ?_) (fun cdv A outer s H vs Q E hr h => ?_)
  · obtain ⟨a, d, _, ⟨b, xs, rfl, _⟩ | ⟨b, e, rfl, _⟩⟩ := h <;> rfl
  · obtain ⟨a, d, hA, h⟩ := h
    refine ⟨_, pss_one (ps_ret (pe_and (pe_callB call_isi (by rfl) T.isi (by decide +kernel) (pa_cons (pv 1) (pa_cons (pe_glob rfl T.gC (v := .ref C) rfl) pa_nil)))
      (pe_and (pe_cmpR (op_eqD ?hu) (pe_fld (pv 0) rfl) (pe_fld (pv 1) rfl) (nomark _)) (pe_and (pe_cmpR (op_eqD ?hu) (pe_fld (pv 0) rfl) (pe_fld (pv 1) rfl) (nomark _)) (pe_and (pe_cmpR (op_eqD ?hu) (pe_fld (pv 0) rfl) (pe_fld (pv 1) rfl) (nomark _)) (pe_and (pe_cmpR (op_eqD ?hu) (pe_fld (pv 0) rfl) (pe_fld (pv 1) rfl) (nomark _)) (pe_one (pe_cmpR (op_eqD ?hu) (pe_fld (pv 0) rfl) (pe_fld (pv 1) rfl) (nomark _))))))))), ?_⟩
    case hu =>
      have := hr.un
      show (A.deeper (envOfC "Method.__eq__" (defScope sEq) s.heap.objs.size _ cdv)).units + 64 < cLine
      omega
    rcases h with ⟨b, xs, rfl, hb, q⟩ | ⟨b, e, rfl, hB, q⟩
    · exact ⟨_, rfl, .ref b, _, _, _, _, rfl, .own C, .base (.tup hb), T.tt, _, rfl, ite_neg' (by decide) q⟩
    · obtain ⟨dx, p, rows, nm, lv, rl, d1, d2, d3, d4, d5, ha, rfl, a1, a2, a3, a4, a5, la⟩ := hA
      obtain ⟨dy, p', rows', nm', lv', rl', e1, e2, e3, e4, e5, hb, rfl, b1, b2, b3, b4, b5, lb⟩ := hB
      have pa := fun x hx => (la.parts x hx).shaped (show 61 ≤ 64 by omega)
      have pb := fun x hx => (lb.parts x hx).shaped (show 61 ≤ 64 by omega)
      have ev : PyData.eqv (.tuple [d1, d2, d3, d4, d5]) (.tuple [e1, e2, e3, e4, e5]) = (PyData.eqv d1 e1 && (PyData.eqv d2 e2 && (PyData.eqv d3 e3 && (PyData.eqv d4 e4 && PyData.eqv d5 e5)))) := by
        simp only [PyData.eqv, PyData.eqvAll, Bool.and_true]
      rw [ev] at q
      refine ⟨_, rfl, .ref b, _, _, _, _, rfl, .own C, T.ty hb, T.cc, _, rfl, ite_pos' rfl ?_⟩
      refine ⟨_, rfl, a, C, dx, _, nm, rfl, ha, T.cls, T.n1, rfl, _, rfl, b, C, dy, _, nm', rfl, hb, T.cls, T.n1, rfl, d1, e1, a1, b1, pa _ (by simp), pb _ (by simp), _, rfl, ?_⟩
      cases h1 : PyData.eqv d1 e1 with
      | false =>
        rw [h1] at q
        exact ite_neg' (by decide) q
      | true =>
        rw [h1, Bool.true_and] at q
        refine ite_pos' rfl ⟨_, rfl, a, C, dx, _, .ref p, rfl, ha, T.cls, T.n2, rfl, _, rfl, b, C, dy, _, .ref p', rfl, hb, T.cls, T.n2, rfl, d2, e2, a2, b2, pa _ (by simp), pb _ (by simp), _, rfl, ?_⟩
        cases h2 : PyData.eqv d2 e2 with
        | false =>
          rw [h2] at q
          exact ite_neg' (by decide) q
        | true =>
          rw [h2, Bool.true_and] at q
          refine ite_pos' rfl ⟨_, rfl, a, C, dx, _, .ref rows, rfl, ha, T.cls, T.n3, rfl, _, rfl, b, C, dy, _, .ref rows', rfl, hb, T.cls, T.n3, rfl, d3, e3, a3, b3, pa _ (by simp), pb _ (by simp), _, rfl, ?_⟩
          cases h3 : PyData.eqv d3 e3 with
          | false =>
            rw [h3] at q
            exact ite_neg' (by decide) q
          | true =>
            rw [h3, Bool.true_and] at q
            refine ite_pos' rfl ⟨_, rfl, a, C, dx, _, lv, rfl, ha, T.cls, T.n4, rfl, _, rfl, b, C, dy, _, lv', rfl, hb, T.cls, T.n4, rfl, d4, e4, a4, b4, pa _ (by simp), pb _ (by simp), _, rfl, ?_⟩
            cases h4 : PyData.eqv d4 e4 with
            | false =>
              rw [h4] at q
              exact ite_neg' (by decide) q
            | true =>
              rw [h4, Bool.true_and] at q
              exact ite_pos' rfl ⟨_, rfl, a, C, dx, _, rl, rfl, ha, T.cls, T.n5, rfl, _, rfl, b, C, dy, _, rl', rfl, hb, T.cls, T.n5, rfl, d5, e5, a5, b5, pa _ (by simp), pb _ (by simp), q⟩
theorem scParts : FnScope ["method"] ["method"] (defScope sParts) := ⟨rfl, rfl, rfl, by decide +kernel, rfl, by decide +kernel, by decide +kernel⟩
theorem cl_parts (D : DefAt K mg "_law_parts" sParts ["method"]) (T : TC K mg C) : Cl P w K mg base CX0 1 "_law_parts" (spParts K C) := by
  obtain ⟨f, fd, F, g, bd⟩ := D.ex
  refine ⟨f, fd, _, F.ok scParts (fun vs H Q E h => ?_) (fun cdv A outer s H vs Q E hr h => ?_), g, F.kp, bd⟩
  · obtain ⟨a, d, rfl, _⟩ := h
    rfl
  · obtain ⟨a, d, rfl, ⟨dx, p, rows, nm, lv, rl, d1, d2, d3, d4, d5, ha, rfl, a1, a2, a3, a4, a5, la⟩, fin⟩ := h
    refine ⟨_, pss_one (ps_ret (pe_tup (pa_cons (pe_fld (pv 0) rfl) (pa_cons (pe_fld (pv 0) rfl) (pa_cons (pe_fld (pv 0) rfl) (pa_cons (pe_fld (pv 0) rfl) (pa_cons (pe_fld (pv 0) rfl) pa_nil))))))), ?_⟩
    refine ⟨_, rfl, a, C, dx, _, nm, rfl, ha, T.cls, T.n1, rfl, _, rfl, a, C, dx, _, .ref p, rfl, ha, T.cls, T.n2, rfl, _, rfl, a, C, dx, _, .ref rows, rfl, ha, T.cls, T.n3, rfl, _, rfl, a, C, dx, _, lv, rfl, ha, T.cls, T.n4, rfl, _, rfl, a, C, dx, _, rl, rfl, ha, T.cls, T.n5, rfl, (by show 5 ≤ sizeLine; decide), fun q nq => ?_⟩
    have s1 := same_new (o := .tup [nm, .ref p, .ref rows, lv, rl]) nq
    exact fin q _ s1 (.tup (SqT.of upd_same) (.cons (Dp.up s1 a1) (.cons (Dp.up s1 a2) (.cons (Dp.up s1 a3) (.cons (Dp.up s1 a4) (.cons (Dp.up s1 a5) .nil))))))
end
end My
namespace My
open PySem PySem.Spec PyProof.Rows L2
theorem erase_map {α β : Type} (g : α → β) : ∀ (l : List α) (k : Nat), (l.map g).eraseIdx k = (l.eraseIdx k).map g
  | [], _ => rfl
  | _ :: _, 0 => rfl
  | x :: l, k + 1 => congrArg (g x :: ·) (erase_map g l k)
/-- some of a list's texts -/
def spPicked (K : PySem.W.Frag) : Sp := fun vs H Q _ => ∃ (b l : Addr) (many : Nat) (n : Nat) (xs : List V) (ws : List Str), vs = [.ref b, .ref l, .int many] ∧ many ≤ 20 ∧ H b = some (.lst xs) ∧ BagL n xs ∧ n < 900000 ∧ H l = some (.lst (ws.map V.str)) ∧ ws.length ≤ 20 ∧ ws.Nodup ∧
  ∀ F H' (fs : List Str) (zs : List V), H F = none → But b H H' → H' b = some (.lst zs) → BagL (n + many) zs → H' F = some (.lst (fs.map V.str)) → fs.length ≤ many → (∀ z ∈ fs, z ∈ ws) → fs.Nodup → Q (.ref F) H'
abbrev NP : List Str := ["bag", "some", "many", "left", "found", "turn"]
section
variable {P : Program} {w : World} {K : PySem.W.Frag} {mg : Str → Option Value} {base : Heap}
theorem scPicked : FnScope NP ["bag", "some", "many"] (defScope sPick) := ⟨rfl, rfl, rfl, by decide +kernel, rfl, by decide +kernel, by decide +kernel⟩
theorem cl_picked (D : DefAt K mg "_law_pick" sPick ["bag", "some", "many"]) (hrng : mg "range" = none) (hmin : mg "min" = none) (hlist : mg "list" = none) (T : TB mg) (cT : Cl P w K mg base CX0 1 "_law_take" spTake) : Cl P w K mg base CX0 2 "_law_pick" (spPicked K) := by
  obtain ⟨f, fd, F, g, bd⟩ := D.ex
  refine ⟨f, fd, _, F.ok scPicked (fun vs H Q E h => ?_) (fun cdv A outer s H vs Q E hr h => ?_), g, F.kp, bd⟩
  · obtain ⟨b, l, many, n, xs, ws, rfl, _⟩ := h
    rfl
  · obtain ⟨b, l, many, n, xs, ws, rfl, hm, hb, hB, hn, hl, hws, hnd, fin⟩ := h
    have nd := scPicked.nd
    have szs : sizeLine = 16777216 := sizeLine_eq
    refine ⟨_, C8.pss_cut (ps_par (i := 3) (j := 4) (by rfl) nd rfl rfl (by decide) rfl rfl (pa_cons (pe_callTy call_list_of (by rfl) hlist (by decide +kernel) (pa_cons (pv 1) pa_nil)) (pa_cons (pe_lst pa_nil) pa_nil)) (by rfl))
      (pss_cons (ps_for PassesOwn.never rfl (pi_range1 rfl hrng (pa_cons (pe_callB (call_min2 rfl) (by rfl) hmin (by decide +kernel) (pa_cons (pv 2) (pa_cons (pe_callB call_len_seq (by rfl) T.len PySem.boot_len (pa_cons (pv 3) pa_nil)) pa_nil))) pa_nil)) (pg_name (i := 5) nd rfl (.inl rfl))
        (pss_one (ps_expr (pe_bm PySem.F.plainAttrs_list PySem.F.slot_list_append PySem.F.type_list_append mt_append (pv 4) (pa_cons (pe_bm PySem.F.plainAttrs_list PySem.F.slot_list_pop PySem.F.type_list_pop mt_popAt (pv 3) (pa_cons (pe_cl cT hr pass0 (pa_cons (pv 0) (pa_cons (pe_callB call_len_seq (by rfl) T.len PySem.boot_len (pa_cons (pv 3) pa_nil)) pa_nil))) pa_nil)) pa_nil)))))
      (pss_one (ps_ret (pv 4)))), ?_⟩
    refine ⟨fun σ' H' => ∃ L F, σ' = [some (.ref b), some (.ref l), some (.int many), some (.ref L), some (.ref F), none] ∧ Same H H' ∧ H L = none ∧ H F = none ∧ L ≠ F ∧ H' L = some (.lst (ws.map V.str)) ∧ H' F = some (.lst []), ?_, ?_⟩
    · refine ⟨_, rfl, l, _, rfl, .inl (SqL.of hl), fun L nL => ⟨(by show 0 ≤ sizeLine; decide), fun F nF => ⟨_, _, rfl, ?_⟩⟩⟩
      have s1 := same_new (o := .lst (ws.map V.str)) nL
      have s2 := same_new (o := .lst []) nF
      exact ⟨L, F, rfl, s1.trans s2, nL, s1.free nF, ne_of_none upd_same nF, s2 _ _ upd_same, upd_same⟩
    · rintro _ H1 ⟨L, F, rfl, sm, nL, nF, nLF, hL, hF⟩
      refine ⟨_, rfl, _, rfl, L, _, rfl, .inl (SqL.of hL), _, _, rfl, _, rfl, ?_⟩
      rw [List.length_map]
      generalize hj : (if (ws.length : Int) < (many : Int) then (ws.length : Int) else (many : Int)) = j
      have j1 : j ≤ ws.length := by rw [← hj]; split <;> omega
      have j2 : j ≤ many := by rw [← hj]; split <;> omega
      have j0 : 0 ≤ j := by rw [← hj]; split <;> omega
      refine ⟨by omega, by omega, for_range (lo := 0) (n := j.toNat) (fun i σ H2 => ∃ (ls fs : List Str) (v5 : Option V) (zs : List V), σ = [some (.ref b), some (.ref l), some (.int many), some (.ref L), some (.ref F), v5] ∧ H2 L = some (.lst (ls.map V.str)) ∧ H2 F = some (.lst (fs.map V.str)) ∧ fs.length = i ∧ ls.length + i = ws.length ∧ (∀ z ∈ ls, z ∈ ws) ∧ (∀ z ∈ fs, z ∈ ws) ∧ ls.Nodup ∧ fs.Nodup ∧ (∀ z ∈ fs, z ∉ ls) ∧ But b H H2 ∧ H2 b = some (.lst zs) ∧ BagL (n + i) zs) ?_ ?_ ?_⟩
      · exact ⟨ws, [], none, xs, rfl, hL, hF, rfl, rfl, fun z hz => hz, (fun z hz => nomatch hz), hnd, List.nodup_nil, (fun z hz => nomatch hz), But.of sm, sm _ _ hb, hB⟩
      · rintro i σ H2 hi ⟨ls, fs, v5, zs, rfl, hL2, hF2, hfl, hll, hls, hfs, hn1, hn2, hn3, bt, hb2, hB2⟩
        have nLb : L ≠ b := fun z => by rw [z, hb] at nL; cases nL
        have nFb : F ≠ b := fun z => by rw [z, hb] at nF; cases nF
        refine ⟨_, rfl, .inl ⟨rfl, _, SqL.of hF2⟩, _, rfl, .inl ⟨rfl, _, SqL.of hL2⟩, _, rfl, _, rfl, L, _, rfl, .inl (SqL.of hL2), b, _, n + i, zs, rfl, hb2, hB2, by omega, ?_, ?_, fun r ys h0 h1 hZ => ?_⟩
        · rw [List.length_map]
          omega
        · rw [List.length_map]
          exact Int.lt_of_lt_of_le (show (ls.length : Int) < 1000000 by omega) (by decide +kernel)
        · rw [List.length_map] at h1
          have hk : ls[r.toNat]? = some (ls[r.toNat]'(by omega)) := List.getElem?_eq_getElem (by omega)
          generalize (ls[r.toNat]'(by omega)) = y at hk
          have hy : y ∈ ls := List.mem_of_getElem? hk
          have hL3 : (upd H2 b (.lst ys)) L = some (.lst (ls.map V.str)) := by
            rw [upd_ne nLb]
            exact hL2
          refine ⟨L, _, r, r.toNat, .str y, rfl, rfl, hL3, by omega, by omega, ?_, ?_, F, fs.map V.str, .str y, rfl, rfl, ?_, ?_, ?_⟩
          · rw [List.length_map]
            exact seqIndex_of h0 h1
          · rw [List.getElem?_map, hk]
            rfl
          · rw [upd_ne nLF.symm, upd_ne nFb]
            exact hF2
          · rw [List.length_map]
            omega
          · refine ⟨ls.eraseIdx r.toNat, fs ++ [y], _, ys, rfl, ?_, ?_, ?_, ?_, fun z hz => hls z (List.mem_of_mem_eraseIdx hz), fun z hz => ?_, hn1.sublist (List.eraseIdx_sublist _ _), ?_, fun z hz hz2 => ?_, fun c o nc e => ?_, ?_, hZ⟩
            · rw [upd_ne nLF, upd_same]
              rw [erase_map]
            · rw [upd_same, List.map_append]
              rfl
            · rw [List.length_append, hfl]
              rfl
            · rw [List.length_eraseIdx_of_lt (by omega)]
              omega
            · rcases List.mem_append.mp hz with h | h
              · exact hfs z h
              · rw [List.mem_singleton.mp h]
                exact hls y hy
            · refine List.nodup_append.mpr ⟨hn2, List.pairwise_singleton _ _, fun a1 ha1 c1 hc1 => ?_⟩
              rw [List.mem_singleton.mp hc1]
              exact fun e => hn3 a1 ha1 (e ▸ hy)
            · have hz3 := List.mem_of_mem_eraseIdx hz2
              rcases List.mem_append.mp hz with h | h
              · exact hn3 z h hz3
              · rw [List.mem_singleton.mp h] at hz2
                obtain ⟨j, hj, hne, ej⟩ := List.mem_eraseIdx_iff_getElem.mp hz2
                have e5 : ls[j]? = some y := by rw [List.getElem?_eq_getElem hj, ej]
                exact hne ((List.getElem?_inj hj hn1).mp (e5.trans hk.symm))
            · rw [upd_ne (ne_of_none e nF), upd_ne (ne_of_none e nL), upd_ne nc]
              exact bt c o nc e
            · rw [upd_ne nFb.symm, upd_ne nLb.symm]
              exact upd_same
      · rintro σ H2 ⟨ls, fs, v5, zs, rfl, hL2, hF2, hfl, hll, hls, hfs, hn1, hn2, hn3, bt, hb2, hB2⟩
        exact ⟨_, rfl, fin F H2 fs zs nF bt hb2 (hB2.mono (by omega)) hF2 (by omega) hfs hn2⟩
end
end My
namespace My
open PySem PySem.Spec PyProof.Rows L2
theorem word_facts {w : Str} (h : wordB w = true) : 1 ≤ w.length ∧ w.length ≤ 8 ∧ lowB w = true := by
  unfold wordB at h
  simp only [Bool.and_eq_true, decide_eq_true_eq] at h
  exact ⟨h.1.1.1, h.1.1.2, h.1.2⟩
theorem lay_word {z : Str} (hb : wordB z = true) : LayN 0 (.str z) := by
  refine lay_str (List.all_eq_true.mpr fun c hc => ?_)
  have := List.all_eq_true.mp (word_facts hb).2.2 c hc
  simp only [Bool.and_eq_true, decide_eq_true_eq] at this
  simp only [decide_eq_true_eq]
  omega
theorem upper_at : ∀ i : _root_.Fin 26, Unicode.upperOf (97 + i.val) = [65 + i.val] := by decide +kernel
theorem upper_cps {w : Str} (h : lowB w = true) : (Txt.upper w).cps = w.cps.map (· - 32) := by
  show PySem.placed w _ = _
  refine PyProof.Rows.placed_single w _ _ fun i c hc => ?_
  have hm : c ∈ w.cps.toList := List.mem_of_getElem? hc
  have := List.all_eq_true.mp h c hm
  simp only [Bool.and_eq_true, decide_eq_true_eq] at this
  have e := upper_at ⟨c - 97, by omega⟩
  have e1 : 97 + (c - 97) = c := by omega
  have e2 : 65 + (c - 97) = c - 32 := by omega
  simp only [e1, e2] at e
  exact e
theorem ABC_mem {c : Nat} (h1 : 65 ≤ c) (h2 : c ≤ 90) : c ∈ ABC.cps.toList := by
  have e : ABC.cps.toList = (List.range 26).map (65 + ·) := by decide +kernel
  rw [e]
  exact List.mem_map.mpr ⟨c - 65, List.mem_range.mpr (by omega), by omega⟩
theorem upper_const {w : Str} (h : wordB w = true) : constD (.str (Txt.upper w)) = true ∧ (Txt.upper w).length ≤ 8 ∧ LayN 0 (.str (Txt.upper w)) := by
  obtain ⟨h1, h2, h3⟩ := word_facts h
  have e := upper_cps h3
  have hlen : (Txt.upper w).length = w.length := by
    show (Txt.upper w).cps.size = w.cps.size
    rw [e, Array.size_map]
  have hall : ∀ c ∈ (Txt.upper w).cps.toList, 65 ≤ c ∧ c ≤ 90 := fun c hc => by
    rw [e, Array.toList_map] at hc
    obtain ⟨x, hx, rfl⟩ := List.mem_map.mp hc
    have := List.all_eq_true.mp h3 x hx
    simp only [Bool.and_eq_true, decide_eq_true_eq] at this
    omega
  refine ⟨?_, by omega, lay_str (List.all_eq_true.mpr fun c hc => ?_)⟩
  · unfold constD spelledL
    simp only [Bool.and_eq_true, decide_eq_true_eq, List.all_eq_true]
    exact ⟨⟨by omega, by omega⟩, fun c hc => ABC_mem (hall c hc).1 (hall c hc).2⟩
  · have := hall c hc
    simp only [decide_eq_true_eq]
    omega
/-- new things and their parts: from the call's heap to a later one in which b, and a list L made since, have changed -/
theorem news_less {b L : Addr} {H H2 H4 H5 : Hp} {o : HO} (hb : H b = some o) (bt : But b H H2) (hb2 : ∃ z, H2 b = some z) (hL2 : ∃ z, H2 L = some z) (k : ∀ c u, c ≠ L → H4 c = some u → H5 c = some u) : Same (news H2 H4) (less L (news H H5)) := fun c u e => by
  have hn : H2 c = none := by
    cases hx : H2 c with
    | none => rfl
    | some z =>
      rw [news_none hx] at e
      cases e
  have hcL : c ≠ L := fun z => by
    obtain ⟨q, hq⟩ := hL2
    rw [z, hq] at hn
    cases hn
  obtain ⟨q, hq⟩ := hb2
  rw [less_at hcL, news_at (free_of bt hq hn)]
  rw [news_at hn] at e
  exact k c u hcL e
theorem less_news {b L : Addr} {H H2 H5 : Hp} {o : HO} (hb : H b = some o) (k : ∀ c u, c ≠ b → c ≠ L → H2 c = some u → H5 c = some u) : Same (less L (news H H2)) (less L (news H H5)) := fun c u e => by
  have hcL : c ≠ L := fun z => by
    unfold less at e
    rw [if_pos z] at e
    cases e
  rw [less_at hcL] at e ⊢
  have hn : H c = none := by
    cases hx : H c with
    | none => rfl
    | some z =>
      rw [news_none hx] at e
      cases e
  have hcb : c ≠ b := fun z => by
    rw [z, hb] at hn
    cases hn
  rw [news_at hn] at e ⊢
  exact k c u hcb hcL e
/-- how many numbers an expression takes at most -/
def costE : Nat → Nat
  | 0 => 2
  | n + 1 => 3 + 2 * costE n
theorem costE_le : ∀ n, n ≤ 3 → costE n ≤ 40
  | 0, _ => by decide
  | 1, _ => by decide
  | 2, _ => by decide
  | 3, _ => by decide
  | _ + 4, h => by omega
/-- words at tw -/
structure Wds (H : Hp) (b tw : Addr) (ws : List Str) : Prop where
  at' : H tw = some (.lst (ws.map V.str))
  ne : tw ≠ b
  pos : 0 < ws.length
  len : ws.length ≤ 20
  ok : ∀ z ∈ ws, wordB z = true
theorem Wds.up {H H' : Hp} {b tw : Addr} {ws : List Str} (h : Wds H b tw ws) (bt : But b H H') : Wds H' b tw ws := ⟨bt _ _ h.ne h.at', h.ne, h.pos, h.len, h.ok⟩
theorem Wds.of {K : PySem.W.Frag} {H : Hp} {b tw : Addr} {ws : List Str} {n : Nat} {xs : List V} {Q : VK} {E : XK} (h : Wds H b tw ws) (hb : H b = some (.lst xs)) (hB : BagL n xs) (hn : n < 1000000)
    (fin : ∀ z zs, z ∈ ws → wordB z = true → BagL (n + 1) zs → Q (.str z) (upd H b (.lst zs))) : spOf K [.ref b, .ref tw] H Q E :=
  ⟨b, tw, n, xs, ws.map V.str, rfl, hb, hB, hn, ⟨.inl (SqL.of h.at'), fun zs => .inl (SqL.of (by rw [upd_ne h.ne]; exact h.at'))⟩, by rw [List.length_map]; exact h.pos, by rw [List.length_map]; have := h.len; omega, fun i v zs hv hZ => by
    rw [List.getElem?_map] at hv
    obtain ⟨z, hz, rfl⟩ := Option.map_eq_some_iff.mp hv
    have hm := List.mem_of_getElem? hz
    exact fin z zs hm (h.ok z hm) hZ⟩
/-- all tuples within are short -/
def SmA (d : PyData) : Prop := ∀ k, Sm k d
theorem SmA.tup {ds : List PyData} (h1 : ds.length ≤ 400) (h : ∀ e ∈ ds, SmA e) : SmA (.tuple ds)
  | 0 => trivial
  | k + 1 => ⟨h1, fun e he => h e he k⟩
theorem SmA.str {z : Str} : SmA (.str z)
  | 0 => trivial
  | _ + 1 => trivial
theorem SmA.non : SmA .none
  | 0 => trivial
  | _ + 1 => trivial
theorem SmA.two {y z : Str} : SmA (.tuple [.str y, .str z]) := SmA.tup (by show 2 ≤ 400; decide) fun e he => by
  simp only [List.mem_cons, List.not_mem_nil, or_false] at he
  rcases he with rfl | rfl <;> exact SmA.str
/-- a word with one part or two -/
theorem expr_node {n : Nat} {w : Str} {ds : List PyData} (hw : wordB w = true) (hl : ds.length = 1 ∨ ds.length = 2) (h : ∀ d ∈ ds, exprD n d = true) : exprD (n + 1) (.tuple (.str w :: ds)) = true := by
  cases hlf : leafD (.tuple (.str w :: ds)) with
  | true => exact expr_leaf hlf
  | false =>
    rw [expr_body hlf]
    show ((decide (ds.length = 1) || decide (ds.length = 2)) && (wordB w && ds.all (exprD n))) = true
    rw [hw, List.all_eq_true.mpr h]
    simp only [Bool.true_and, Bool.and_true, Bool.or_eq_true, decide_eq_true_eq]
    exact hl
def spExprL (n : Nat) : Sp := fun vs H Q _ => ∃ (b tw : Addr) (m : Nat) (xs : List V) (ws : List Str), vs = [.ref b, .ref tw, .int ((n : Nat) : Int)] ∧ H b = some (.lst xs) ∧ BagL m xs ∧ m + costE n < 900000 ∧ Wds H b tw ws ∧
  ∀ v d H' zs, But b H H' → H' b = some (.lst zs) → BagL (m + costE n) zs → Vd (news H H') v d → exprD n d = true → LayN (n + 1) d → SmA d → Q v H'
abbrev NX : List Str := ["bag", "words", "deep", "sort", "parts", "k"]
section
variable {P : Program} {w : World} {K : PySem.W.Frag} {mg : Str → Option Value} {base : Heap}
theorem scExprL : FnScope NX ["bag", "words", "deep"] (defScope sExpr) := ⟨rfl, rfl, rfl, by decide +kernel, rfl, by decide +kernel, by decide +kernel⟩
theorem cl_exprL (D : DefAt K mg "_law_expr" sExpr ["bag", "words", "deep"]) (T : Tw K mg) (cT : Cl P w K mg base CX0 1 "_law_take" spTake) (cO : Cl P w K mg base CX0 2 "_law_of" (spOf K)) : ∀ n : Nat, n ≤ 3 → Cl P w K mg base CX0 (n + 3) "_law_expr" (spExprL n) := by
  obtain ⟨f, fd, F, g, bd⟩ := D.ex
  have nd := scExprL.nd
  have body : ∀ (n k : Nat), n ≤ 3 → 2 ≤ k → (n = 0 ∨ ∃ m, n = m + 1 ∧ Cl P w K mg base CX0 k "_law_expr" (spExprL m)) → FnOk P w K mg base CX0 (k + 1) f fd ["bag", "words", "deep"] (spExprL n) := by
    intro n k hn3 hk2 cS
    refine F.ok scExprL (fun vs H Q E h => ?_) (fun cdv A outer s H vs Q E hr h => ?_)
    · obtain ⟨b, tw, m, xs, ws, rfl, _⟩ := h
      rfl
    · obtain ⟨b, tw, m, xs, ws, rfl, hb, hB, hm, hW, fin⟩ := h
      have szs : sizeLine = 16777216 := sizeLine_eq
      have hc := costE_le n hn3
      have c1 : 2 ≤ costE n := by cases n <;> simp [costE]; omega
      -- the leaves
      have l0 : ∀ H' zs, But b H H' → H' b = some (.lst zs) → BagL (m + 1) zs → Q .non H' := fun H' zs bt hb' hB' => fin .non .none H' zs bt hb' (hB'.mono (by omega)) .non (expr_leaf rfl) ⟨rfl, Nat.zero_le _⟩ SmA.non
      have l1 : ∀ z H' zs, wordB z = true → But b H H' → H' b = some (.lst zs) → BagL (m + 2) zs → Q (.str z) H' := fun z H' zs hz bt hb' hB' =>
        fin (.str z) (.str z) H' zs bt hb' (hB'.mono (by omega)) (.str z (by have := (word_facts hz).2.1; omega)) (expr_leaf (by show (false || (wordB z || _)) = true; rw [hz]; rfl)) ((lay_word hz).mono (by omega)) SmA.str
      have l2 : ∀ z q H' zs, wordB z = true → news H H' q = some (.tup [.str "self", .str z]) → But b H H' → H' b = some (.lst zs) → BagL (m + 2) zs → Q (.ref q) H' := fun z q H' zs hz hq bt hb' hB' =>
        fin (.ref q) (.tuple [.str "self", .str z]) H' zs bt hb' (hB'.mono (by omega)) (.tup hq (.cons (.str _ (by decide +kernel)) (.cons (.str z (by have := (word_facts hz).2.1; omega)) .nil)))
          (expr_leaf (by
            have e : useFD (.tuple [.str "self", .str z]) = true := by show (PyData.eqv (.str "self") (.str "self") && wordB z) = true; rw [hz]; decide
            show (false || (false || (useFD (.tuple [.str "self", .str z]) || _))) = true
            rw [e]
            rfl)) ((LayN.tup (n := 0) fun d hd => by
              simp only [List.mem_cons, List.not_mem_nil, or_false] at hd
              rcases hd with rfl | rfl
              · exact lay_str (by decide +kernel)
              · exact lay_word hz).mono (by omega)) SmA.two
      have l3 : ∀ z q H' zs, wordB z = true → news H H' q = some (.tup [.str "cls", .str (Txt.upper z)]) → But b H H' → H' b = some (.lst zs) → BagL (m + 2) zs → Q (.ref q) H' := fun z q H' zs hz hq bt hb' hB' => by
        obtain ⟨u1, u2, u3⟩ := upper_const hz
        refine fin (.ref q) (.tuple [.str "cls", .str (Txt.upper z)]) H' zs bt hb' (hB'.mono (by omega)) (.tup hq (.cons (.str _ (by decide +kernel)) (.cons (.str _ (by omega)) .nil))) (expr_leaf ?_) ((LayN.tup (n := 0) fun d hd => ?_).mono (by omega)) SmA.two
        · have e : useCD (.tuple [.str "cls", .str (Txt.upper z)]) = true := by show (PyData.eqv (.str "cls") (.str "cls") && constD (.str (Txt.upper z))) = true; rw [u1]; decide
          show (false || (false || (_ || useCD (.tuple [.str "cls", .str (Txt.upper z)])))) = true
          rw [e]
          simp
        · simp only [List.mem_cons, List.not_mem_nil, or_false] at hd
          rcases hd with rfl | rfl
          · exact lay_str (by decide +kernel)
          · exact u3
      have bt1 : ∀ zs, But b H (upd H b (.lst zs)) := fun zs c o nb e => by rw [upd_ne nb]; exact e
      have ofs : ∀ zs, BagL (m + 1) zs → ∀ (Q' : VK) (E' : XK), (∀ z zs', wordB z = true → BagL (m + 2) zs' → Q' (.str z) (upd (upd H b (.lst zs)) b (.lst zs'))) → spOf K [.ref b, .ref tw] (upd H b (.lst zs)) Q' E' := fun zs hZ Q' E' q =>
        (hW.up (bt1 zs)).of upd_same hZ (by omega) fun z zs' _ hz hZ' => q z zs' hz hZ'
      have btu : ∀ zs zs', But b H (upd (upd H b (.lst zs)) b (.lst zs')) := fun zs zs' c o nb e => by rw [upd_ne nb, upd_ne nb]; exact e
      have nbn : ∀ {p : Addr} {H' : Hp}, But b H H' → (∃ z, H' b = some z) → H' p = none → H p = none := fun {p H'} bt hz np => by
        obtain ⟨z, hz⟩ := hz
        exact free_of bt hz np
      have first : ∀ (r : Int) (zs : List V), BagL (m + 1) zs → ∀ (D : Ends), D.rt = Q → ∀ dd : V, (r ≠ 0 → D.nx [some (.ref b), some (.ref tw), some dd, some (.int r), none, none] (upd H b (.lst zs))) →
          tIfS (tTest (tOp rEq (tVar 3) (tC (.int 0)))) (tRet (tC .non)) tNext D [some (.ref b), some (.ref tw), some dd, some (.int r), none, none] (upd H b (.lst zs)) := fun r zs hZ D eD dd hnx => by
        refine ⟨_, rfl, rfl, _, rfl, ?_⟩
        by_cases h : r = 0
        · refine ite_pos' (by subst h; rfl) ?_
          show D.rt .non _
          rw [eD]
          exact l0 _ _ (bt1 zs) upd_same hZ
        · exact ite_neg' (by simp [h]) (hnx h)
      have second : ∀ (r : Int) (zs : List V), BagL (m + 1) zs → ∀ (D : Ends), D.rt = Q → ∀ dd : V, (r ≠ 1 → D.nx [some (.ref b), some (.ref tw), some dd, some (.int r), none, none] (upd H b (.lst zs))) →
          tIfS (tTest (tOp rEq (tVar 3) (tC (.int 1)))) (tRet (tCall (spOf K) [] E0 (tCons (tVar 0) (tCons (tVar 1) tNil)))) tNext D [some (.ref b), some (.ref tw), some dd, some (.int r), none, none] (upd H b (.lst zs)) := fun r zs hZ D eD dd hnx => by
        refine ⟨_, rfl, rfl, _, rfl, ?_⟩
        by_cases h : r = 1
        · refine ite_pos' (by subst h; rfl) ⟨_, rfl, _, rfl, ofs zs hZ _ E0 fun z zs' hz hZ' => ?_⟩
          show D.rt _ _
          rw [eD]
          exact l1 z _ zs' hz (btu zs zs') upd_same hZ'
        · exact ite_neg' (by simp [h]) (hnx h)
      have third : ∀ (r : Int) (zs : List V), BagL (m + 1) zs → ∀ (D : Ends), D.rt = Q → ∀ dd : V, (r ≠ 2 → D.nx [some (.ref b), some (.ref tw), some dd, some (.int r), none, none] (upd H b (.lst zs))) →
          tIfS (tTest (tOp rEq (tVar 3) (tC (.int 2)))) (tRet (tTup (tCons (tC (.str "self")) (tCons (tCall (spOf K) [] E0 (tCons (tVar 0) (tCons (tVar 1) tNil))) tNil)))) tNext D [some (.ref b), some (.ref tw), some dd, some (.int r), none, none] (upd H b (.lst zs)) := fun r zs hZ D eD dd hnx => by
        refine ⟨_, rfl, rfl, _, rfl, ?_⟩
        by_cases h : r = 2
        · refine ite_pos' (by subst h; rfl) ⟨_, rfl, _, rfl, ofs zs hZ _ E0 fun z zs' hz hZ' => ⟨(by show 2 ≤ sizeLine; omega), fun q nq => ?_⟩⟩
          have s3 := same_new (o := .tup [.str "self", .str z]) nq
          show D.rt _ _
          rw [eD]
          refine l2 z q _ zs' hz ?_ ((btu zs zs').trans (But.of s3)) (s3 _ _ upd_same) hZ'
          rw [news_at (nbn (btu zs zs') ⟨_, upd_same⟩ nq), upd_same]
        · exact ite_neg' (by simp [h]) (hnx h)
      have fourth : ∀ (r : Int) (zs : List V), BagL (m + 1) zs → ∀ (D : Ends), D.rt = Q → ∀ dd : V, (r ≠ 3 → D.nx [some (.ref b), some (.ref tw), some dd, some (.int r), none, none] (upd H b (.lst zs))) →
          tIfS (tTest (tOp rEq (tVar 3) (tC (.int 3)))) (tRet (tTup (tCons (tC (.str "cls")) (tCons (tM0 (fun x xs H Q => ∃ a, x = V.str a ∧ xs = [] ∧ a.length ≤ 5592405 ∧ Q (V.str (Txt.upper a)) H) (tCall (spOf K) [] E0 (tCons (tVar 0) (tCons (tVar 1) tNil)))) tNil)))) tNext D [some (.ref b), some (.ref tw), some dd, some (.int r), none, none] (upd H b (.lst zs)) := fun r zs hZ D eD dd hnx => by
        refine ⟨_, rfl, rfl, _, rfl, ?_⟩
        by_cases h : r = 3
        · refine ite_pos' (by subst h; rfl) ⟨_, rfl, _, rfl, ofs zs hZ (fun x H1 => (∃ a, x = V.str a) ∧ ∃ a, x = V.str a ∧ ([] : List V) = [] ∧ a.length ≤ 5592405 ∧ (2 ≤ sizeLine ∧ ∀ p, H1 p = none → D.rt (.ref p) (upd H1 p (.tup [.str "cls", .str (Txt.upper a)])))) E0 fun z zs' hz hZ' => ⟨⟨z, rfl⟩, z, rfl, rfl, by have := (word_facts hz).2.1; omega, (by show 2 ≤ sizeLine; omega), fun q nq => ?_⟩⟩
          have s3 := same_new (o := .tup [.str "cls", .str (Txt.upper z)]) nq
          show D.rt _ _
          rw [eD]
          refine l3 z q _ zs' hz ?_ ((btu zs zs').trans (But.of s3)) (s3 _ _ upd_same) hZ'
          rw [news_at (nbn (btu zs zs') ⟨_, upd_same⟩ nq), upd_same]
        · exact ite_neg' (by simp [h]) (hnx h)
      rcases cS with rfl | ⟨n, rfl, cS⟩
      · refine ⟨_, C8.pss_cut (ps_set (i := 3) nd rfl (.inl rfl) (pe_cl cT hr pass0 (pa_cons (pv 0) (pa_cons (pe_ifExp (pt_cmpR op_gt (pv 2) pe_int (nomark _)) pe_int pe_int) pa_nil)) (by omega)))
          (C8.pss_cut (ps_if (pt_cmpR op_eq (pv 3) pe_int (nomark _)) (pss_one (ps_ret pe_non)) pss_nil)
          (C8.pss_cut (ps_if (pt_cmpR op_eq (pv 3) pe_int (nomark _)) (pss_one (ps_ret (pe_cl cO hr pass0 (pa_cons (pv 0) (pa_cons (pv 1) pa_nil)) (by omega)))) pss_nil)
          (C8.pss_cut (ps_if (pt_cmpR op_eq (pv 3) pe_int (nomark _)) (pss_one (ps_ret (pe_tup (pa_cons pe_str (pa_cons (pe_cl cO hr pass0 (pa_cons (pv 0) (pa_cons (pv 1) pa_nil)) (by omega)) pa_nil))))) pss_nil)
          (C8.pss_cut (ps_if (pt_cmpR op_eq (pv 3) pe_int (nomark _)) (pss_one (ps_ret (pe_tup (pa_cons pe_str (pa_cons (pe_m0 PySem.F.slot_str_upper PySem.F.type_str_upper mt_upper (pe_cl cO hr pass0 (pa_cons (pv 0) (pa_cons (pv 1) pa_nil)) (by omega))) pa_nil))))) pss_nil)
          pss_dead)))), ?_⟩
        refine ⟨fun σ' H' => ∃ r zs, σ' = [some (.ref b), some (.ref tw), some (.int ((0 : Nat) : Int)), some (.int r), none, none] ∧ 0 ≤ r ∧ r < 4 ∧ BagL (m + 1) zs ∧ H' = upd H b (.lst zs), ?_, ?_⟩
        · refine ⟨_, rfl, _, rfl, _, _, rfl, rfl, _, rfl, ite_neg' (by decide) ⟨b, 4, m, xs, rfl, hb, hB, by omega, by decide, by decide +kernel, fun r zs h0 h1 hZ => ⟨r, zs, rfl, h0, h1, hZ, rfl⟩⟩⟩
        rintro _ _ ⟨r, zs, rfl, r0, r6, hZ, rfl⟩
        refine ⟨fun σ' H' => σ' = [some (.ref b), some (.ref tw), some (.int ((0 : Nat) : Int)), some (.int r), none, none] ∧ r ≠ 0 ∧ H' = upd H b (.lst zs), first r zs hZ _ rfl _ fun h => ⟨rfl, h, rfl⟩, ?_⟩
        rintro _ _ ⟨rfl, n0, rfl⟩
        refine ⟨fun σ' H' => σ' = [some (.ref b), some (.ref tw), some (.int ((0 : Nat) : Int)), some (.int r), none, none] ∧ r ≠ 1 ∧ H' = upd H b (.lst zs), second r zs hZ _ rfl _ fun h => ⟨rfl, h, rfl⟩, ?_⟩
        rintro _ _ ⟨rfl, n1, rfl⟩
        refine ⟨fun σ' H' => σ' = [some (.ref b), some (.ref tw), some (.int ((0 : Nat) : Int)), some (.int r), none, none] ∧ r ≠ 2 ∧ H' = upd H b (.lst zs), third r zs hZ _ rfl _ fun h => ⟨rfl, h, rfl⟩, ?_⟩
        rintro _ _ ⟨rfl, n2, rfl⟩
        refine ⟨fun σ' H' => False, fourth r zs hZ _ rfl _ fun h => absurd h (by omega), fun _ _ h => h⟩
      · refine ⟨_, C8.pss_cut (ps_set (i := 3) nd rfl (.inl rfl) (pe_cl cT hr pass0 (pa_cons (pv 0) (pa_cons (pe_ifExp (pt_cmpR op_gt (pv 2) pe_int (nomark _)) pe_int pe_int) pa_nil)) (by omega)))
          (C8.pss_cut (ps_if (pt_cmpR op_eq (pv 3) pe_int (nomark _)) (pss_one (ps_ret pe_non)) pss_nil)
          (C8.pss_cut (ps_if (pt_cmpR op_eq (pv 3) pe_int (nomark _)) (pss_one (ps_ret (pe_cl cO hr pass0 (pa_cons (pv 0) (pa_cons (pv 1) pa_nil)) (by omega)))) pss_nil)
          (C8.pss_cut (ps_if (pt_cmpR op_eq (pv 3) pe_int (nomark _)) (pss_one (ps_ret (pe_tup (pa_cons pe_str (pa_cons (pe_cl cO hr pass0 (pa_cons (pv 0) (pa_cons (pv 1) pa_nil)) (by omega)) pa_nil))))) pss_nil)
          (C8.pss_cut (ps_if (pt_cmpR op_eq (pv 3) pe_int (nomark _)) (pss_one (ps_ret (pe_tup (pa_cons pe_str (pa_cons (pe_m0 PySem.F.slot_str_upper PySem.F.type_str_upper mt_upper (pe_cl cO hr pass0 (pa_cons (pv 0) (pa_cons (pv 1) pa_nil)) (by omega))) pa_nil))))) pss_nil)
          (C8.pss_cut (ps_set (i := 4) nd rfl (.inl rfl) (pe_callTy call_tuple_of (by rfl) T.tuple (by decide +kernel) (pa_cons (pe_lc (own := [("k", 5)]) (g := gName 5) (te := tCall (spExprL n) [] E0 (tCons (tVar 0) (tCons (tVar 1) (tCons (tOp (rI0 fun i j => V.int (i - j)) (tVar 2) (tC (.int 1))) tNil)))) (by rfl) nd
              (pi_range1 (by rfl) T.range (pa_cons (pe_op op_add pe_int (pe_cl cT hr pass0 (pa_cons (pv 0) (pa_cons pe_int pa_nil)) (by omega))) pa_nil)) (blkOk_by (N := NX) (sc := defScope sExpr) (by decide +kernel)) (fun _ _ _ _ _ => pg_name (i := 5) nd rfl (.inl rfl)) (fun _ _ _ _ _ => pts_nil)
              (fun _ _ _ _ _ => pe_cl cS hr pass0 (pa_cons (pv 0) (pa_cons (pv 1) (pa_cons (pe_op op_sub (pv 2) pe_int) pa_nil))) (by omega))) pa_nil)))
          (pss_one (ps_ret (pe_op op_catM (pe_tup (pa_cons (pe_cl cO hr pass0 (pa_cons (pv 0) (pa_cons (pv 1) pa_nil)) (by omega)) pa_nil)) (pv 4))))))))), ?_⟩
        refine ⟨fun σ' H' => ∃ r zs, σ' = [some (.ref b), some (.ref tw), some (.int ((n + 1 : Nat) : Int)), some (.int r), none, none] ∧ 0 ≤ r ∧ r < 6 ∧ BagL (m + 1) zs ∧ H' = upd H b (.lst zs), ?_, ?_⟩
        · refine ⟨_, rfl, _, rfl, _, _, rfl, rfl, _, rfl, ite_pos' (by show decide ((0 : Int) < ((n + 1 : Nat) : Int)) = true; exact decide_eq_true (by omega)) ⟨b, 6, m, xs, rfl, hb, hB, by omega, by decide, by decide +kernel, fun r zs h0 h1 hZ => ⟨r, zs, rfl, h0, h1, hZ, rfl⟩⟩⟩
        rintro _ _ ⟨r, zs, rfl, r0, r6, hZ, rfl⟩
        refine ⟨fun σ' H' => σ' = [some (.ref b), some (.ref tw), some (.int ((n + 1 : Nat) : Int)), some (.int r), none, none] ∧ r ≠ 0 ∧ H' = upd H b (.lst zs), first r zs hZ _ rfl _ fun h => ⟨rfl, h, rfl⟩, ?_⟩
        rintro _ _ ⟨rfl, n0, rfl⟩
        refine ⟨fun σ' H' => σ' = [some (.ref b), some (.ref tw), some (.int ((n + 1 : Nat) : Int)), some (.int r), none, none] ∧ r ≠ 1 ∧ H' = upd H b (.lst zs), second r zs hZ _ rfl _ fun h => ⟨rfl, h, rfl⟩, ?_⟩
        rintro _ _ ⟨rfl, n1, rfl⟩
        refine ⟨fun σ' H' => σ' = [some (.ref b), some (.ref tw), some (.int ((n + 1 : Nat) : Int)), some (.int r), none, none] ∧ r ≠ 2 ∧ H' = upd H b (.lst zs), third r zs hZ _ rfl _ fun h => ⟨rfl, h, rfl⟩, ?_⟩
        rintro _ _ ⟨rfl, n2, rfl⟩
        refine ⟨fun σ' H' => σ' = [some (.ref b), some (.ref tw), some (.int ((n + 1 : Nat) : Int)), some (.int r), none, none] ∧ r ≠ 3 ∧ H' = upd H b (.lst zs), fourth r zs hZ _ rfl _ fun h => ⟨rfl, h, rfl⟩, ?_⟩
        rintro _ _ ⟨rfl, n3, rfl⟩
        have cs := costE_le n (by omega)
        have ce : costE (n + 1) = 3 + 2 * costE n := rfl
        refine ⟨fun σ' H' => ∃ (p : Addr) (vs : List V) (ds : List PyData) (zs' : List V) (H5 : Hp), σ' = [some (.ref b), some (.ref tw), some (.int ((n + 1 : Nat) : Int)), some (.int r), some (.ref p), none] ∧ But b H H' ∧ H' b = some (.lst zs') ∧ BagL (m + 2 + 2 * costE n) zs' ∧ H p = none ∧ H' p = some (.tup vs) ∧ Same H5 (news H H') ∧ VdAll H5 vs ds ∧ (ds.length = 1 ∨ ds.length = 2) ∧ ∀ d ∈ ds, exprD n d = true ∧ LayN (n + 1) d ∧ SmA d, ?_, ?_⟩
        · refine ⟨_, rfl, b, 2, m + 1, zs, rfl, upd_same, hZ, by omega, by decide, by decide +kernel, fun r2 zs2 g0 g1 hZ2 => ?_⟩
          have bt2 := btu zs zs2
          refine ⟨_, _, rfl, rfl, _, rfl, by omega, by omega, fun L nL => lc_range (lo := 0) (n := (1 + r2).toNat)
            (fun i H5 => ∃ (vs : List V) (ds : List PyData) (ys : List V), But b H H5 ∧ H5 b = some (.lst ys) ∧ BagL (m + 2 + i * costE n) ys ∧ H5 L = some (.lst vs) ∧ ds.length = i ∧ VdAll (less L (news H H5)) vs ds ∧ ∀ d ∈ ds, exprD n d = true ∧ LayN (n + 1) d ∧ SmA d) ?_ (fun i H5 hi pv => ?_) (fun H5 pv => ?_)⟩
          · exact ⟨[], [], zs2, bt2.trans (But.of (same_new nL)), same_new nL _ _ upd_same, hZ2.mono (by omega), upd_same, rfl, .nil, (fun d hd => nomatch hd)⟩
          · obtain ⟨vs, ds, ys, bt5, hb5, hB5, hL5, hl5, hva, hds⟩ := pv
            have nLb : L ≠ b := ne_b (H2 := upd (upd H b (.lst zs)) b (.lst zs2)) upd_same nL
            have nHL : H L = none := free_of bt2 upd_same nL
            have i1 : i ≤ 1 := by omega
            have ic : i * costE n ≤ 1 * costE n := Nat.mul_le_mul_right _ i1
            refine ⟨rfl, _, rfl, _, rfl, _, rfl, _, _, rfl, rfl, b, tw, m + 2 + i * costE n, ys, ws, ?_, hb5, hB5, by omega, hW.up bt5, fun v d H6 zs6 bt6 hb6 hB6 hv e1 e2 e3 => ?_⟩
            · show [V.ref b, V.ref tw, V.int (((n + 1 : Nat) : Int) - 1)] = _
              have em : (((n + 1 : Nat) : Int) - 1) = ((n : Nat) : Int) := by omega
              rw [em]
            · have hL6 := bt6 _ _ nLb hL5
              have k6 : ∀ c u, c ≠ L → H6 c = some u → (upd H6 L (.lst (vs ++ [v]))) c = some u := fun c u nc e => by
                rw [upd_ne nc]
                exact e
              refine ⟨vs, hL6, ?_, vs ++ [v], ds ++ [d], zs6, fun c o nc e => k6 c o (fun z => by rw [z, nHL] at e; cases e) (bt6 _ _ nc (bt5 _ _ nc e)), k6 _ _ nLb.symm hb6, hB6.mono ?_, upd_same, by rw [List.length_append, hl5]; rfl, ?_, fun e he => ?_⟩
              · have := hva.len
                omega
              · rw [Nat.succ_mul]
                omega
              · refine VdAll.append (hva.up (less_news hb fun c u nb nc e => k6 c u nc (bt6 _ _ nb e))) (.cons (hv.up (news_less hb bt5 ⟨_, hb5⟩ ⟨_, hL5⟩ fun c u nc e => k6 c u nc e)) .nil)
              · rcases List.mem_append.mp he with h | h
                · exact hds e h
                · rw [List.mem_singleton.mp h]
                  exact ⟨e1, e2, e3⟩
          · obtain ⟨vs, ds, ys, bt5, hb5, hB5, hL5, hl5, hva, hds⟩ := pv
            have ic : (1 + r2).toNat * costE n ≤ 2 * costE n := Nat.mul_le_mul_right _ (by omega)
            refine ⟨L, vs, rfl, .inl ⟨SqL.of hL5, fun p np => ⟨p, vs, ds, ys, less L (news H H5), rfl, bt5.trans (But.of (same_new np)), same_new np _ _ hb5, hB5.mono (by omega), free_of bt5 hb5 np, upd_same, less_same.trans (news_sm (same_new np)), hva, by omega, hds⟩⟩⟩
        · rintro _ H4 ⟨p, vs, ds, zs', H5, rfl, bt4, hb4, hB4, np, hp4, s5, hva, hlen, hds⟩
          have npb : p ≠ b := fun z => by rw [z, hb] at np; cases np
          refine ⟨_, rfl, _, rfl, (hW.up bt4).of (K := K) (E := E0) hb4 hB4 (by omega) fun z zs2 _ hz hZ2 => ?_⟩
          refine ⟨(by show 1 ≤ sizeLine; omega), fun q nq => ⟨_, rfl, q, p, [.str z], vs, rfl, rfl, upd_same, ?_, ?_, fun qq H' sm hq' hor => ?_⟩⟩
          · have h1 : (upd H4 b (.lst zs2)) p = some (.tup vs) := by rw [upd_ne npb]; exact hp4
            exact same_new nq _ _ h1
          · have := hva.len
            simp only [List.length_cons, List.length_nil]
            omega
          · have s7 := same_new (o := .tup [.str z]) nq
            have bt6 : But b H4 H' := fun c o nc e => sm _ _ (s7 _ _ (by rw [upd_ne nc]; exact e))
            have bt7 := bt4.trans bt6
            have hb7 : H' b = some (.lst zs2) := sm _ _ (s7 _ _ upd_same)
            have nqq : H qq = none := by
              have f1 : ∀ c, (upd H4 b (.lst zs2)) c = none → H c = none := fun c e => free_of (bt4.trans fun c o nc e => by rw [upd_ne nc]; exact e) upd_same e
              rcases hor with rfl | rfl | h
              · exact f1 _ nq
              · exact np
              · exact f1 _ (s7.free h)
            refine fin (.ref qq) (.tuple (.str z :: ds)) H' zs2 bt7 hb7 (hZ2.mono (by omega)) (.tup (by rw [news_at nqq]; exact hq') (.cons (.str z (by have := (word_facts hz).2.1; omega)) (hva.up (s5.trans (news_up hb bt6))))) (expr_node hz hlen fun d hd => (hds d hd).1) (LayN.tup fun d hd => ?_) (SmA.tup (by simp only [List.length_cons]; omega) fun d hd => ?_)
            · rcases List.mem_cons.mp hd with rfl | h
              · exact (lay_word hz).mono (by omega)
              · exact (hds d h).2.1
            · rcases List.mem_cons.mp hd with rfl | h
              · exact SmA.str
              · exact (hds d h).2.2
  have all : ∀ n : Nat, n ≤ 3 → FnOk P w K mg base CX0 (n + 3) f fd ["bag", "words", "deep"] (spExprL n) := by
    intro n
    induction n with
    | zero => exact fun _ => body 0 2 (by omega) (by omega) (.inl rfl)
    | succ m ih => exact fun h => body (m + 1) (m + 3) h (by omega) (.inr ⟨m, rfl, f, fd, _, ih (by omega), g, F.kp, bd⟩)
  exact fun n h => ⟨f, fd, _, all n h, g, F.kp, bd⟩
end
end My
namespace My
open PySem PySem.Spec PyProof.Rows L2
def allW : List Str := ["set", "let", "return", "refuse", "super"]
theorem all_facts : ∀ h ∈ allW, LayN 0 (.str h) ∧ h.length ≤ 1000 ∧ h ≠ "if" ∧ h ∈ headsW := by
  intro h hh
  simp only [allW, List.mem_cons, List.not_mem_nil, or_false] at hh
  rcases hh with rfl | rfl | rfl | rfl | rfl <;> exact ⟨lay_str (by decide +kernel), by decide +kernel, by decide +kernel, by decide +kernel⟩
theorem news_of {b : Addr} {H H2 H' : Hp} {o : HO} (bt : But b H H2) (hb2 : H2 b = some o) : Same (news H2 H') (news H H') := fun c u e => by
  cases hx : H2 c with
  | some z =>
    rw [news_none hx] at e
    cases e
  | none =>
    rw [news_at hx] at e
    rw [news_at (free_of bt hb2 hx)]
    exact e
theorem row_one {h : Str} {d : PyData} (hh : h = "return" ∨ h = "refuse") (e : exprD 3 d = true) : rowD (.tuple [.str h, d]) = true := by
  have h1 : decide (h ∈ headsW) = true := by rcases hh with rfl | rfl <;> decide +kernel
  have h2 : headD h [d] = oneD [d] := by
    unfold headD
    rcases hh with rfl | rfl <;> rw [if_neg (by decide +kernel), if_neg (by decide +kernel), if_neg (by decide +kernel)]
  show (decide (h ∈ headsW) && headD h [d]) = true
  rw [h1, h2]
  exact e
theorem row_two {h w : Str} {d : PyData} (hh : h = "set" ∨ h = "let") (hw : wordB w = true) (e : exprD 3 d = true) : rowD (.tuple [.str h, .str w, d]) = true := by
  have h1 : decide (h ∈ headsW) = true := by rcases hh with rfl | rfl <;> decide +kernel
  have h2 : headD h [.str w, d] = setD [.str w, d] := by
    unfold headD
    rcases hh with rfl | rfl <;> rw [if_neg (by decide +kernel), if_neg (by decide +kernel), if_pos (by decide +kernel)]
  show (decide (h ∈ headsW) && headD h [.str w, d]) = true
  rw [h1, h2]
  show (true && (wordB w && exprD 3 d)) = true
  rw [hw, e]
  rfl
theorem row_sup {w : PyData} {ds : List PyData} (hw : (isNoD w || wordD w) = true) (e : ∀ d ∈ ds, exprD 3 d = true) : rowD (.tuple (.str "super" :: w :: ds)) = true := by
  have h1 : decide (("super" : Str) ∈ headsW) = true := by decide +kernel
  have h2 : headD "super" (w :: ds) = superD (.str "super" :: w :: ds) := by
    unfold headD
    rw [if_neg (by decide +kernel), if_pos (by decide +kernel)]
  show (decide (("super" : Str) ∈ headsW) && headD "super" (w :: ds)) = true
  rw [h1, h2]
  show (true && ((isNoD w || wordD w) && ds.all (exprD 3))) = true
  rw [hw, List.all_eq_true.mpr e]
  rfl
/-- a row with no rows within -/
structure RowG (d : PyData) : Prop where
  row : rowD d = true
  lay : LayN 5 d
  sm : SmA d
  inn : inners d = []
theorem Wds.seq {K : PySem.W.Frag} {H : Hp} {b tw : Addr} {ws : List Str} (h : Wds H b tw ws) : SeqB K H b tw (ws.map V.str) := ⟨.inl (SqL.of h.at'), fun zs => .inl (SqL.of (by rw [upd_ne h.ne]; exact h.at'))⟩
theorem Wds.pos' {H : Hp} {b tw : Addr} {ws : List Str} (h : Wds H b tw ws) : 0 < (ws.map V.str).length := by rw [List.length_map]; exact h.pos
theorem Wds.len' {H : Hp} {b tw : Addr} {ws : List Str} (h : Wds H b tw ws) : (ws.map V.str).length < 1000000 := by rw [List.length_map]; have := h.len; omega
theorem Wds.mem {H : Hp} {b tw : Addr} {ws : List Str} (h : Wds H b tw ws) {i : Nat} {v : V} (hv : (ws.map V.str)[i]? = some v) : ∃ z, v = .str z ∧ wordB z = true := by
  rw [List.getElem?_map] at hv
  obtain ⟨z, hz, rfl⟩ := Option.map_eq_some_iff.mp hv
  exact ⟨z, rfl, h.ok z (List.mem_of_getElem? hz)⟩
def spFreeRow (K : PySem.W.Frag) : Sp := fun vs H Q _ => ∃ (b tw ta : Addr) (m : Nat) (xs : List V) (ws : List Str), vs = [.ref b, .ref tw, .ref ta] ∧ H b = some (.lst xs) ∧ BagL m xs ∧ m + 200 < 900000 ∧ Wds H b tw ws ∧ H ta = some (.lst (allW.map V.str)) ∧ ta ≠ b ∧
  ∀ v d H' zs, But b H H' → H' b = some (.lst zs) → BagL (m + 120) zs → Vd (news H H') v d → RowG d → Q v H'
abbrev NFr : List Str := ["bag", "words", "allowed", "sort", "parts", "k"]
section
variable {P : Program} {w : World} {K : PySem.W.Frag} {mg : Str → Option Value} {base : Heap}
theorem scFreeRow : FnScope NFr ["bag", "words", "allowed"] (defScope sFree) := ⟨rfl, rfl, rfl, by decide +kernel, rfl, by decide +kernel, by decide +kernel⟩
theorem cl_freeRow (D : DefAt K mg "_law_free_row" sFree ["bag", "words", "allowed"]) (T : Tw K mg) (cT : Cl P w K mg base CX0 1 "_law_take" spTake) (cO : Cl P w K mg base CX0 2 "_law_of" (spOf K)) (cE : Cl P w K mg base CX0 6 "_law_expr" (spExprL 3)) : Cl P w K mg base CX0 7 "_law_free_row" (spFreeRow K) := by
  obtain ⟨f, fd, F, g, bd⟩ := D.ex
  have nd := scFreeRow.nd
  refine ⟨f, fd, _, F.ok scFreeRow (fun vs H Q E h => ?_) (fun cdv A outer s H vs Q E hr h => ?_), g, F.kp, bd⟩
  · obtain ⟨b, tw, ta, m, xs, ws, rfl, _⟩ := h
    rfl
  · obtain ⟨b, tw, ta, m, xs, ws, rfl, hb, hB, hm, hW, hta, hnb, fin⟩ := h
    have szs : sizeLine = 16777216 := sizeLine_eq
    have cs : costE 3 = 37 := rfl
    refine ⟨_, C8.pss_cut (ps_set (i := 3) nd rfl (.inl rfl) (pe_cl cO hr pass0 (pa_cons (pv 0) (pa_cons (pv 2) pa_nil)) (by omega)))
      (C8.pss_cut (ps_if (pt_cmpR op_in_seq (pv 3) (pe_lst (pa_cons pe_str (pa_cons pe_str pa_nil))) rfl) (pss_one (ps_ret (pe_tup (pa_cons (pv 3) (pa_cons (pe_cl cE hr pass0 (pa_cons (pv 0) (pa_cons (pv 1) (pa_cons pe_int pa_nil))) (by omega)) pa_nil))))) pss_nil)
      (C8.pss_cut (ps_if (pt_cmpR op_eq (pv 3) pe_str (nomark _)) (C8.pss_cut (ps_set (i := 4) nd rfl (.inl rfl) (pe_callTy call_tuple_of (by rfl) T.tuple (by decide +kernel) (pa_cons (pe_lc (own := [("k", 5)]) (g := gName 5) (te := tCall (spExprL 3) [] E0 (tCons (tVar 0) (tCons (tVar 1) (tCons (tC (.int 3)) tNil)))) (by rfl) nd
              (pi_range1 (by rfl) T.range (pa_cons (pe_cl cT hr pass0 (pa_cons (pv 0) (pa_cons pe_int pa_nil)) (by omega)) pa_nil)) (blkOk_by (N := NFr) (sc := defScope sFree) (by decide +kernel)) (fun _ _ _ _ _ => pg_name (i := 5) nd rfl (.inl rfl)) (fun _ _ _ _ _ => pts_nil)
              (fun _ _ _ _ _ => pe_cl cE hr pass0 (pa_cons (pv 0) (pa_cons (pv 1) (pa_cons pe_int pa_nil))) (by omega))) pa_nil)))
          (pss_one (ps_ret (pe_op op_catM (pe_tup (pa_cons (pv 3) (pa_cons (pe_cl cO hr pass0 (pa_cons (pv 0) (pa_cons (pe_op op_cat (pe_lst (pa_cons pe_non pa_nil)) (pv 1)) pa_nil)) (by omega)) pa_nil))) (pv 4))))) pss_nil)
      (pss_one (ps_ret (pe_tup (pa_cons (pv 3) (pa_cons (pe_cl cO hr pass0 (pa_cons (pv 0) (pa_cons (pv 1) pa_nil)) (by omega)) (pa_cons (pe_cl cE hr pass0 (pa_cons (pv 0) (pa_cons (pv 1) (pa_cons pe_int pa_nil))) (by omega)) pa_nil)))))))), ?_⟩
    refine ⟨fun σ' H' => ∃ h zs, σ' = [some (.ref b), some (.ref tw), some (.ref ta), some (.str h), none, none] ∧ h ∈ allW ∧ BagL (m + 1) zs ∧ H' = upd H b (.lst zs), ?_, ?_⟩
    · refine ⟨_, rfl, _, rfl, b, ta, m, xs, allW.map V.str, rfl, hb, hB, by omega, ⟨.inl (SqL.of hta), fun zs => .inl (SqL.of (by rw [upd_ne hnb]; exact hta))⟩, by decide, by decide, fun i v zs hv hZ => ?_⟩
      rw [List.getElem?_map] at hv
      obtain ⟨h, hh, rfl⟩ := Option.map_eq_some_iff.mp hv
      exact ⟨h, zs, rfl, List.mem_of_getElem? hh, hZ, rfl⟩
    rintro _ _ ⟨h, zs, rfl, hh, hZ, rfl⟩
    obtain ⟨hl, hlen, hif, hhead⟩ := all_facts h hh
    have bt1 : But b H (upd H b (.lst zs)) := fun c o nb e => by rw [upd_ne nb]; exact e
    refine ⟨fun σ' H' => h ≠ "return" ∧ h ≠ "refuse" ∧ σ' = [some (.ref b), some (.ref tw), some (.ref ta), some (.str h), none, none] ∧ But b H H' ∧ H' b = some (.lst zs), ?_, ?_⟩
    · refine ⟨_, rfl, (by show 2 ≤ sizeLine; omega), fun L nL => ⟨L, [.str "return", .str "refuse"], rfl, .inl (SqL.of upd_same), rfl, rfl, _, rfl, ?_⟩⟩
      have s2 := same_new (o := .lst [.str "return", .str "refuse"]) nL
      have bt2 := bt1.trans (But.of s2)
      have hb2 := s2 _ _ (upd_same (H := H) (a := b) (o := .lst zs))
      rw [if_neg (by decide)]
      have hin : inV (.str h) [.str "return", .str "refuse"] = decide (h ∈ (["return", "refuse"] : List Str)) := in_strs h ["return", "refuse"]
      by_cases h1 : h = "return" ∨ h = "refuse"
      · refine ite_pos' ?_ ⟨_, rfl, _, rfl, _, rfl, b, tw, m + 1, zs, ws, rfl, hb2, hZ, by omega, hW.up bt2, fun v d H' zs' bt3 hb3 hB3 hv e1 e2 e3 => ⟨(by show 2 ≤ sizeLine; omega), fun q nq => ?_⟩⟩
        · rw [hin]
          exact decide_eq_true (by rcases h1 with rfl | rfl <;> simp)
        · have s4 := same_new (o := .tup [.str h, v]) nq
          have bt4 := bt3.trans (But.of s4)
          refine fin (.ref q) (.tuple [.str h, d]) _ zs' (bt2.trans bt4) (s4 _ _ hb3) (hB3.mono (by omega)) (.tup ?_ (.cons (.str h hlen) (.cons (hv.up ?_) .nil))) ⟨row_one h1 e1, LayN.tup fun e he => ?_, SmA.tup (by show 2 ≤ 400; decide) fun e he => ?_, inners_no hif⟩
          · rw [news_at (free_of (bt2.trans bt3) hb3 nq)]
            exact upd_same
          · refine Same.trans ?_ (news_sm s4)
            exact news_of bt2 hb2
          · simp only [List.mem_cons, List.not_mem_nil, or_false] at he
            rcases he with rfl | rfl
            · exact hl.mono (by omega)
            · exact e2
          · simp only [List.mem_cons, List.not_mem_nil, or_false] at he
            rcases he with rfl | rfl
            · exact SmA.str
            · exact e3
      · refine ite_neg' ?_ ⟨fun e => h1 (.inl e), fun e => h1 (.inr e), rfl, bt2, hb2⟩
        rw [hin]
        simp only [decide_eq_true_eq]
        intro hm'
        simp only [List.mem_cons, List.not_mem_nil, or_false] at hm'
        exact h1 hm'
    rintro _ H2 ⟨nr1, nr2, rfl, bt2, hb2⟩
    refine ⟨fun σ' H' => h ≠ "super" ∧ σ' = [some (.ref b), some (.ref tw), some (.ref ta), some (.str h), none, none] ∧ H2 = H', ?_, ?_⟩
    · refine ⟨_, rfl, rfl, _, rfl, ?_⟩
      by_cases hs : h = "super"
      · subst hs
        refine ite_pos' (by rfl) ?_
        refine ⟨fun σ' H' => ∃ (p : Addr) (vs : List V) (ds : List PyData) (zs' : List V) (H5 : Hp), σ' = [some (.ref b), some (.ref tw), some (.ref ta), some (.str "super"), some (.ref p), none] ∧ But b H H' ∧ H' b = some (.lst zs') ∧ BagL (m + 2 + 3 * 37) zs' ∧ H p = none ∧ H' p = some (.tup vs) ∧ Same H5 (news H H') ∧ VdAll H5 vs ds ∧ ds.length ≤ 3 ∧ ∀ d ∈ ds, exprD 3 d = true ∧ LayN 4 d ∧ SmA d, ?_, ?_⟩
        · refine ⟨_, rfl, b, 4, m + 1, zs, rfl, hb2, hZ, by omega, by decide, by decide +kernel, fun r2 zs2 g0 g1 hZ2 => ?_⟩
          have bt3 : But b H (upd H2 b (.lst zs2)) := bt2.trans fun c o nb e => by rw [upd_ne nb]; exact e
          refine ⟨_, rfl, by omega, by omega, fun L nL => lc_range (lo := 0) (n := r2.toNat)
            (fun i H5 => ∃ (vs : List V) (ds : List PyData) (ys : List V), But b H H5 ∧ H5 b = some (.lst ys) ∧ BagL (m + 2 + i * 37) ys ∧ H5 L = some (.lst vs) ∧ ds.length = i ∧ VdAll (less L (news H H5)) vs ds ∧ ∀ d ∈ ds, exprD 3 d = true ∧ LayN 4 d ∧ SmA d) ?_ (fun i H5 hi pv => ?_) (fun H5 pv => ?_)⟩
          · exact ⟨[], [], zs2, bt3.trans (But.of (same_new nL)), same_new nL _ _ upd_same, hZ2.mono (by omega), upd_same, rfl, .nil, (fun d hd => nomatch hd)⟩
          · obtain ⟨vs, ds, ys, bt5, hb5, hB5, hL5, hl5, hva, hds⟩ := pv
            have nLb : L ≠ b := ne_b (H2 := upd H2 b (.lst zs2)) upd_same nL
            have nHL : H L = none := free_of bt3 upd_same nL
            refine ⟨rfl, _, rfl, _, rfl, b, tw, m + 2 + i * 37, ys, ws, rfl, hb5, hB5, by omega, hW.up bt5, fun v d H6 zs6 bt6 hb6 hB6 hv e1 e2 e3 => ?_⟩
            have hL6 := bt6 _ _ nLb hL5
            have k6 : ∀ c u, c ≠ L → H6 c = some u → (upd H6 L (.lst (vs ++ [v]))) c = some u := fun c u nc e => by
              rw [upd_ne nc]
              exact e
            refine ⟨vs, hL6, ?_, vs ++ [v], ds ++ [d], zs6, fun c o nc e => k6 c o (fun z => by rw [z, nHL] at e; cases e) (bt6 _ _ nc (bt5 _ _ nc e)), k6 _ _ nLb.symm hb6, hB6.mono (by omega), upd_same, by rw [List.length_append, hl5]; rfl, ?_, fun e he => ?_⟩
            · have := hva.len
              omega
            · refine VdAll.append (hva.up (less_news hb fun c u nb nc e => k6 c u nc (bt6 _ _ nb e))) (.cons (hv.up (news_less hb bt5 ⟨_, hb5⟩ ⟨_, hL5⟩ fun c u nc e => k6 c u nc e)) .nil)
            · rcases List.mem_append.mp he with h | h
              · exact hds e h
              · rw [List.mem_singleton.mp h]
                exact ⟨e1, e2, e3⟩
          · obtain ⟨vs, ds, ys, bt5, hb5, hB5, hL5, hl5, hva, hds⟩ := pv
            refine ⟨L, vs, rfl, .inl ⟨SqL.of hL5, fun p np => ⟨p, vs, ds, ys, less L (news H H5), rfl, bt5.trans (But.of (same_new np)), same_new np _ _ hb5, hB5.mono (by omega), free_of bt5 hb5 np, upd_same, less_same.trans (news_sm (same_new np)), hva, by omega, hds⟩⟩⟩
        · rintro _ H4 ⟨p, vs, ds, zs', H5, rfl, bt4, hb4, hB4, np, hp4, s5, hva, hlen2, hds⟩
          have npb : p ≠ b := fun z => by rw [z, hb] at np; cases np
          have hW4 := hW.up bt4
          refine ⟨_, rfl, _, rfl, (by show 1 ≤ sizeLine; omega), fun L nL => ⟨_, rfl, L, tw, [.non], ws.map V.str, rfl, rfl, upd_same, same_new nL _ _ hW4.at', ?_, fun L2 nL2 => ?_⟩⟩
          · rw [List.length_map, sizeLine_eq]
            have := hW.len
            simp only [List.length_cons, List.length_nil]
            omega
          have sL := (same_new (o := .lst [.non]) nL).trans (same_new (o := .lst ([.non] ++ ws.map V.str)) nL2)
          have hbL := sL _ _ hb4
          have nLb : L2 ≠ b := ne_b (same_new nL _ _ hb4) nL2
          have hL2 : (upd (upd H4 L (.lst [.non])) L2 (.lst ([.non] ++ ws.map V.str))) L2 = some (.lst (V.non :: ws.map V.str)) := upd_same
          refine ⟨b, L2, m + 2 + 3 * 37, zs', V.non :: ws.map V.str, rfl, hbL, hB4, by omega, ⟨.inl (SqL.of hL2), fun zs => .inl (SqL.of (by rw [upd_ne nLb]; exact hL2))⟩, Nat.succ_pos _, ?_, fun i v zs3 hv hZ3 => ?_⟩
          · rw [List.length_cons, List.length_map]
            have := hW.len
            omega
          have hvv : ∃ dw, (∀ Hx, Vd Hx v dw) ∧ (isNoD dw || wordD dw) = true ∧ LayN 0 dw ∧ SmA dw := by
            cases i with
            | zero =>
              cases hv
              exact ⟨.none, fun _ => .non, rfl, ⟨rfl, Nat.le_refl _⟩, SmA.non⟩
            | succ i =>
              rw [List.getElem?_cons_succ, List.getElem?_map] at hv
              obtain ⟨z, hz, rfl⟩ := Option.map_eq_some_iff.mp hv
              have hw := hW.ok z (List.mem_of_getElem? hz)
              exact ⟨.str z, fun _ => .str z (by have := (word_facts hw).2.1; omega), (by show (false || wordB z) = true; rw [hw]; rfl), lay_word hw, SmA.str⟩
          obtain ⟨dw, hvd, hwd, hwl, hws⟩ := hvv
          refine ⟨(by show 2 ≤ sizeLine; omega), fun q nq => ⟨_, rfl, q, p, [.str "super", v], vs, rfl, rfl, upd_same, ?_, ?_, fun qq H' sm hq' hor => ?_⟩⟩
          · have h1 : (upd (upd (upd H4 L (.lst [.non])) L2 (.lst ([.non] ++ ws.map V.str))) b (.lst zs3)) p = some (.tup vs) := by rw [upd_ne npb]; exact sL _ _ hp4
            exact same_new nq _ _ h1
          · have := hva.len
            simp only [List.length_cons, List.length_nil]
            omega
          · have s7 := same_new (o := .tup [.str "super", v]) nq
            have bt5 : But b H4 (upd (upd (upd H4 L (.lst [.non])) L2 (.lst ([.non] ++ ws.map V.str))) b (.lst zs3)) := fun c o nc e => by rw [upd_ne nc]; exact sL _ _ e
            have bt6 : But b H4 H' := fun c o nc e => sm _ _ (s7 _ _ (bt5 c o nc e))
            have bt7 := bt4.trans bt6
            have hb7 : H' b = some (.lst zs3) := sm _ _ (s7 _ _ upd_same)
            have nqq : H qq = none := by
              have f1 : ∀ c, (upd (upd (upd H4 L (.lst [.non])) L2 (.lst ([.non] ++ ws.map V.str))) b (.lst zs3)) c = none → H c = none := fun c e => free_of (bt4.trans bt5) upd_same e
              rcases hor with rfl | rfl | h
              · exact f1 _ nq
              · exact np
              · exact f1 _ (s7.free h)
            refine fin (.ref qq) (.tuple (.str "super" :: dw :: ds)) H' zs3 bt7 hb7 (hZ3.mono (by omega)) (.tup (by rw [news_at nqq]; exact hq') (.cons (.str _ hlen) (.cons (hvd _) (hva.up (s5.trans (news_up hb bt6)))))) ⟨row_sup hwd fun d hd => (hds d hd).1, LayN.tup fun d hd => ?_, SmA.tup (by simp only [List.length_cons]; omega) fun d hd => ?_, inners_no hif⟩
            · rcases List.mem_cons.mp hd with rfl | h
              · exact hl.mono (by omega)
              · rcases List.mem_cons.mp h with rfl | h
                · exact hwl.mono (by omega)
                · exact (hds d h).2.1
            · rcases List.mem_cons.mp hd with rfl | h
              · exact SmA.str
              · rcases List.mem_cons.mp h with rfl | h
                · exact hws
                · exact (hds d h).2.2
      · exact ite_neg' (by simp [hs]) ⟨hs, rfl, rfl⟩
    · rintro _ _ ⟨nr3, rfl, rfl⟩
      have hsl : h = "set" ∨ h = "let" := by
        simp only [allW, List.mem_cons, List.not_mem_nil, or_false] at hh
        rcases hh with h' | h' | h' | h' | h'
        · exact .inl h'
        · exact .inr h'
        · exact absurd h' nr1
        · exact absurd h' nr2
        · exact absurd h' nr3
      refine ⟨_, rfl, _, rfl, _, rfl, b, tw, m + 1, zs, ws.map V.str, rfl, hb2, hZ, by omega, (hW.up bt2).seq, hW.pos', hW.len', fun i v zs2 hv hZ2 => ?_⟩
      obtain ⟨z, rfl, hz⟩ := hW.mem hv
      have bt3 : But b H (upd H2 b (.lst zs2)) := bt2.trans fun c o nb e => by rw [upd_ne nb]; exact e
      refine ⟨_, rfl, _, rfl, b, tw, m + 2, zs2, ws, rfl, upd_same, hZ2, by omega, hW.up bt3, fun v d H' zs' bt4 hb4 hB4 hv e1 e2 e3 => ⟨(by show 3 ≤ sizeLine; omega), fun q nq => ?_⟩⟩
      have s4 := same_new (o := .tup [.str h, .str z, v]) nq
      have bt5 := bt4.trans (But.of s4)
      refine fin (.ref q) (.tuple [.str h, .str z, d]) _ zs' (bt3.trans bt5) (s4 _ _ hb4) (hB4.mono (by omega)) (.tup ?_ (.cons (.str h hlen) (.cons (.str z (by have := (word_facts hz).2.1; omega)) (.cons (hv.up ?_) .nil)))) ⟨row_two hsl hz e1, LayN.tup fun e he => ?_, SmA.tup (by show 3 ≤ 400; decide) fun e he => ?_, inners_no hif⟩
      · rw [news_at (free_of (bt3.trans bt4) hb4 nq)]
        exact upd_same
      · refine Same.trans ?_ (news_sm s4)
        exact news_of bt3 upd_same
      · simp only [List.mem_cons, List.not_mem_nil, or_false] at he
        rcases he with rfl | rfl | rfl
        · exact hl.mono (by omega)
        · exact (lay_word hz).mono (by omega)
        · exact e2
      · simp only [List.mem_cons, List.not_mem_nil, or_false] at he
        rcases he with rfl | rfl | rfl
        · exact SmA.str
        · exact SmA.str
        · exact e3
end
end My
namespace My
open PySem PySem.Spec PyProof.Rows L2
/-- but for what stands at b and at l, all is as it was -/
def But2 (b l : Addr) (H H' : Hp) : Prop := ∀ c o, c ≠ b → c ≠ l → H c = some o → H' c = some o
theorem But2.refl {b l : Addr} {H : Hp} : But2 b l H H := fun _ _ _ _ e => e
theorem But2.trans {b l : Addr} {H H' H'' : Hp} (h : But2 b l H H') (k : But2 b l H' H'') : But2 b l H H'' := fun c o n m e => k c o n m (h c o n m e)
theorem But.two {b l : Addr} {H H' : Hp} (h : But b H H') : But2 b l H H' := fun c o n _ e => h c o n e
theorem Same.two {b l : Addr} {H H' : Hp} (h : Same H H') : But2 b l H H' := fun c o _ _ e => h c o e
theorem But2.put {b l : Addr} {H : Hp} {o : HO} : But2 b l H (upd H l o) := fun c u _ nl e => by
  rw [upd_ne nl]
  exact e
theorem But2.free {b l c : Addr} {H H1 : Hp} (bt : But2 b l H H1) (hb : ∃ o, H1 b = some o) (hl : ∃ o, H1 l = some o) (e : H1 c = none) : H c = none := by
  cases hx : H c with
  | none => rfl
  | some u =>
    obtain ⟨ob, hb⟩ := hb
    obtain ⟨ol, hl⟩ := hl
    by_cases hc : c = b
    · rw [hc, hb] at e
      cases e
    · by_cases hc2 : c = l
      · rw [hc2, hl] at e
        cases e
      · rw [bt c u hc hc2 hx] at e
        cases e
/-- of a later one -/
theorem But2.news {b l : Addr} {H H' H'' : Hp} (hb : ∃ o, H b = some o) (hl : ∃ o, H l = some o) (bt : But2 b l H' H'') : Same (news H H') (news H H'') := fun c u e => by
  have hn : H c = none := by
    cases hx : H c with
    | none => rfl
    | some z =>
      rw [news_none hx] at e
      cases e
  rw [news_at hn] at e ⊢
  refine bt c u (fun z => ?_) (fun z => ?_) e
  · obtain ⟨o, hb⟩ := hb
    rw [z, hb] at hn
    cases hn
  · obtain ⟨o, hl⟩ := hl
    rw [z, hl] at hn
    cases hn
/-- of an earlier one -/
theorem But2.from {b l : Addr} {H H2 H' : Hp} (bt : But2 b l H H2) (hb : ∃ o, H2 b = some o) (hl : ∃ o, H2 l = some o) : Same (My.news H2 H') (My.news H H') := fun c u e => by
  have hn : H2 c = none := by
    cases hx : H2 c with
    | none => rfl
    | some z =>
      rw [news_none hx] at e
      cases e
  rw [news_at hn] at e
  rw [news_at (bt.free hb hl hn)]
  exact e
/-- k rows, right where there are i ifs around -/
def BodyG (i k : Nat) (ds : List PyData) : Prop := ∀ (fuel : Nat) (st : List (PyData × Nat)) (n : Nat), n + k ≤ 16 → fw (fuel + k) (ds.map (fun x => (x, i)) ++ st) n = fw fuel st (n + k)
theorem BodyG.nil {i : Nat} : BodyG i 0 [] := fun _ _ _ _ => rfl
theorem BodyG.snoc {i k j : Nat} {ds : List PyData} {r : PyData} (h : BodyG i k ds) (g : BodyG i j [r]) : BodyG i (k + j) (ds ++ [r]) := fun fuel st n hn => by
  rw [List.map_append, List.append_assoc]
  have e : fuel + (k + j) = (fuel + j) + k := by omega
  rw [e, h (fuel + j) _ n (by omega), g fuel st (n + k) (by omega), Nat.add_assoc]
theorem fw_step {i fuel n : Nat} {r : PyData} {st : List (PyData × Nat)} (hr : rowD r = true) (hi : i ≤ 4) (hn : n + 1 ≤ 16) : fw (fuel + 1) ((r, i) :: st) n = fw fuel ((inners r).map (fun x => (x, i + 1)) ++ st) (n + 1) := by
  show (if n = 16 ∨ 4 < i ∨ rowD r = false then some n else _) = _
  rw [if_neg]
  rintro (h | h | h)
  · omega
  · omega
  · rw [hr] at h
    cases h
theorem BodyG.row {i : Nat} {r : PyData} (hi : i ≤ 4) (h : RowG r) : BodyG i 1 [r] := fun fuel st n hn => by
  show fw (fuel + 1) ((r, i) :: st) n = _
  rw [fw_step h.row hi hn, h.inn]
  rfl
/-- an if with right rows within -/
theorem BodyG.ifs {i k1 k2 : Nat} {a s c : PyData} {A B : List PyData} (hi : i ≤ 4) (ht : testD a s c = true) (hA : BodyG (i + 1) k1 A) (hB : BodyG (i + 1) k2 B) : BodyG i (1 + k1 + k2) [.tuple [.str "if", a, s, c, .tuple A, .tuple B]] := fun fuel st n hn => by
  have hr : rowD (.tuple [.str "if", a, s, c, .tuple A, .tuple B]) = true := by
    have h1 : decide (("if" : Str) ∈ headsW) = true := by decide +kernel
    have h2 : headD "if" [a, s, c, .tuple A, .tuple B] = ifD [.str "if", a, s, c, .tuple A, .tuple B] := by
      unfold headD
      rw [if_pos rfl]
    show (decide (("if" : Str) ∈ headsW) && headD "if" [a, s, c, .tuple A, .tuple B]) = true
    rw [h1, h2]
    show (true && (testD a s c && (true && true))) = true
    rw [ht]
    rfl
  have hin : inners (.tuple [.str "if", a, s, c, .tuple A, .tuple B]) = A ++ B := by
    show (if PyData.eqv (.str "if") (.str "if") = true then A ++ B else []) = _
    rw [if_pos (by decide)]
  have e : fuel + (1 + k1 + k2) = (fuel + k2 + k1) + 1 := by omega
  show fw (fuel + (1 + k1 + k2)) ((_, i) :: st) n = _
  rw [e, fw_step hr hi (by omega), hin, List.map_append, List.append_assoc, hA (fuel + k2) _ (n + 1) (by omega), hB fuel st (n + 1 + k1) (by omega)]
  congr 1
  omega
theorem sign_ok : ∀ s ∈ signsW, signD (.str s) = true ∧ LayN 0 (.str s) ∧ s.length ≤ 1000 := by
  intro s hs
  simp only [signsW, List.mem_cons, List.not_mem_nil, or_false] at hs
  rcases hs with rfl | rfl | rfl | rfl <;> exact ⟨by decide +kernel, lay_str (by decide +kernel), by decide +kernel⟩
def spBody (K : PySem.W.Frag) (n : Nat) : Sp := fun vs H Q _ => ∃ (b tw ta l : Addr) (i m c : Nat) (xs : List V) (ws : List Str), vs = [.ref b, .ref tw, .ref ta, .ref l, .int ((i : Nat) : Int)] ∧ i + n = 4 ∧ H b = some (.lst xs) ∧ BagL m xs ∧ m + 130 * c + 400 < 900000 ∧ c ≤ 16 ∧ Wds H b tw ws ∧ tw ≠ l ∧
  H ta = some (.lst (allW.map V.str)) ∧ ta ≠ b ∧ ta ≠ l ∧ H l = some (.lst [.int ((c : Nat) : Int)]) ∧ l ≠ b ∧
  ∀ v ds H' zs c', But2 b l H H' → H' b = some (.lst zs) → BagL (m + 1 + (c - c') * 130) zs → c' ≤ c → H' l = some (.lst [.int ((c' : Nat) : Int)]) → Vd (news H H') v (.tuple ds) → BodyG i (c - c') ds → LayN (6 + 2 * n) (.tuple ds) → SmA (.tuple ds) → Q v H'
/-- the rows made by now -/
structure Lp (b l : Addr) (i n m c : Nat) (H : Hp) (j : Nat) (q : Addr) (c' : Nat) (vs : List V) (ds : List PyData) (zs : List V) (H2 : Hp) : Prop where
  bt : But2 b l H H2
  hb : H2 b = some (.lst zs)
  hB : BagL (m + 1 + (c - c') * 130) zs
  le : c' ≤ c
  hl : H2 l = some (.lst [.int ((c' : Nat) : Int)])
  hq : news H H2 q = some (.tup vs)
  hv : VdAll (news H H2) vs ds
  len : ds.length ≤ j
  good : BodyG i (c - c') ds
  ok : ∀ d ∈ ds, LayN (5 + 2 * n) d ∧ SmA d
theorem Lp.qn {b l : Addr} {i n m c : Nat} {H : Hp} {j : Nat} {q : Addr} {c' : Nat} {vs : List V} {ds : List PyData} {zs : List V} {H2 : Hp} (h : Lp b l i n m c H j q c' vs ds zs H2) : H q = none := by
  have := h.hq
  cases hx : H q with
  | none => rfl
  | some o =>
    rw [news_none hx] at this
    cases this
theorem Lp.qh {b l : Addr} {i n m c : Nat} {H : Hp} {j : Nat} {q : Addr} {c' : Nat} {vs : List V} {ds : List PyData} {zs : List V} {H2 : Hp} (h : Lp b l i n m c H j q c' vs ds zs H2) : H2 q = some (.tup vs) := by
  have := h.hq
  rw [news_at h.qn] at this
  exact this
/-- one more row -/
theorem Lp.snoc {b l : Addr} {i n m c : Nat} {H : Hp} {j : Nat} {q : Addr} {c' : Nat} {vs : List V} {ds : List PyData} {zs : List V} {H2 : Hp} (h : Lp b l i n m c H j q c' vs ds zs H2) (hb0 : ∃ o, H b = some o) (hl0 : ∃ o, H l = some o)
    {H5 H' : Hp} {p qq : Addr} {v : V} {d : PyData} {zs' : List V} {c2 : Nat} (bt : But2 b l H2 H5) (hb : H5 b = some (.lst zs')) (hl : H5 l = some (.lst [.int ((c2 : Nat) : Int)])) (le : c2 ≤ c') (hB : BagL (m + 1 + (c - c2) * 130) zs')
    (hv : Vd (news H H5) v d) (g : BodyG i (c' - c2) [d]) (ok : LayN (5 + 2 * n) d ∧ SmA d) (np : H5 p = none) (sm : Same (upd H5 p (.tup [v])) H') (hq : H' qq = some (.tup (vs ++ [v]))) (hor : qq = q ∨ qq = p ∨ (upd H5 p (.tup [v])) qq = none) :
    Lp b l i n m c H (j + 1) qq c2 (vs ++ [v]) (ds ++ [d]) zs' H' := by
  have bt5 := h.bt.trans bt
  have s6 := (same_new (o := .tup [v]) np).trans sm
  have bt7 : But2 b l H5 H' := Same.two s6
  have nqq : H qq = none := by
    rcases hor with rfl | rfl | e
    · exact h.qn
    · exact bt5.free ⟨_, hb⟩ ⟨_, hl⟩ np
    · exact bt5.free ⟨_, hb⟩ ⟨_, hl⟩ ((same_new np).free e)
  refine ⟨bt5.trans bt7, s6 _ _ hb, hB, Nat.le_trans le h.le, s6 _ _ hl, by rw [news_at nqq]; exact hq, VdAll.append (h.hv.up (But2.news hb0 hl0 (bt.trans bt7))) (.cons (hv.up (news_sm s6)) .nil), by rw [List.length_append]; have := h.len; simp only [List.length_cons, List.length_nil]; omega, ?_, fun e he => ?_⟩
  · have e : c - c2 = (c - c') + (c' - c2) := by have := h.le; omega
    rw [e]
    exact h.good.snoc g
  · rcases List.mem_append.mp he with hx | hx
    · exact h.ok e hx
    · rw [List.mem_singleton.mp hx]
      exact ok
abbrev NB : List Str := ["bag", "words", "allowed", "left", "ifs", "body", "turn", "test", "first", "second"]
section
variable {P : Program} {w : World} {K : PySem.W.Frag} {mg : Str → Option Value} {base : Heap}
theorem scBody : FnScope NB ["bag", "words", "allowed", "left", "ifs"] (defScope sBody) := ⟨rfl, rfl, rfl, by decide +kernel, rfl, by decide +kernel, by decide +kernel⟩
theorem cl_body (D : DefAt K mg "_law_free_body" sBody ["bag", "words", "allowed", "left", "ifs"]) (hrng : mg "range" = none) (cT : Cl P w K mg base CX0 1 "_law_take" spTake) (cO : Cl P w K mg base CX0 2 "_law_of" (spOf K)) (cE : Cl P w K mg base CX0 6 "_law_expr" (spExprL 3)) (cR : Cl P w K mg base CX0 7 "_law_free_row" (spFreeRow K)) : ∀ n : Nat, n ≤ 4 → Cl P w K mg base CX0 (n + 8) "_law_free_body" (spBody K n) := by
  obtain ⟨f, fd, F, g, bd⟩ := D.ex
  have nd := scBody.nd
  have body : ∀ (n k : Nat), n ≤ 4 → 7 ≤ k → (n = 0 ∨ ∃ m, n = m + 1 ∧ Cl P w K mg base CX0 k "_law_free_body" (spBody K m)) → FnOk P w K mg base CX0 (k + 1) f fd ["bag", "words", "allowed", "left", "ifs"] (spBody K n) := by
    intro n k hn4 hk7 cS
    refine F.ok scBody (fun vs H Q E h => ?_) (fun cdv A outer s H vs Q E hr h => ?_)
    · obtain ⟨b, tw, ta, l, i, m, c, xs, ws, rfl, _⟩ := h
      rfl
    · obtain ⟨b, tw, ta, l, i, m, c, xs, ws, rfl, hin, hb, hB, hm, hc, hW, ntl, hta, nab, nal, hl, nlb, fin⟩ := h
      have szs : sizeLine = 16777216 := sizeLine_eq
      have cs : costE 3 = 37 := rfl
      rcases cS with rfl | ⟨n, rfl, cS⟩
      · refine ⟨_, C8.pss_cut (ps_set (i := 5) nd rfl (.inl rfl) (pe_tup pa_nil))
          (pss_cons (ps_for PassesOwn.never rfl (pi_range1 (by rfl) hrng (pa_cons (pe_cl cT hr pass0 (pa_cons (pv 0) (pa_cons pe_int pa_nil)) (by omega)) pa_nil)) (pg_name (i := 6) nd rfl (.inl rfl))
            (C8.pss_cut (ps_if (pt_cmpR op_le (pe_ix ix_list (pv 3) pe_int (fun _ _ => rfl)) pe_int (nomark _)) (pss_one (ps_ret (pv 5))) pss_nil)
            (C8.pss_cut (ps_asg (pe_op op_sub (pe_ix ix_list (pv 3) pe_int (fun _ _ => rfl)) pe_int) (pg_sub (pv 3) pe_int set_list) rfl)
            (pss_one (ps_if (PW.pt (pw_and (pt_cmpR op_lt (pv 4) pe_int (nomark _)) pw_dead))
              pss_dead
              (pss_one (ps_set (i := 5) nd rfl (.inl rfl) (pe_op op_catM (pv 5) (pe_tup (pa_cons (pe_cl cR hr pass0 (pa_cons (pv 0) (pa_cons (pv 1) (pa_cons (pv 2) pa_nil))) (by omega)) pa_nil))))))))))
          (pss_one (ps_ret (pv 5)))), ?_⟩
        have finish : ∀ {j q c' vs ds zs H2}, j ≤ 4 → Lp b l i 0 m c H j q c' vs ds zs H2 → Q (.ref q) H2 := fun {j q c' vs ds zs H2} hj h =>
          fin (.ref q) ds H2 zs c' h.bt h.hb h.hB h.le h.hl (.tup h.hq h.hv) h.good ((LayN.tup fun d hd => (h.ok d hd).1).mono (by omega)) (SmA.tup (by have := h.len; omega) fun d hd => (h.ok d hd).2)
        refine ⟨fun σ' H' => ∃ q, σ' = [some (.ref b), some (.ref tw), some (.ref ta), some (.ref l), some (.int ((i : Nat) : Int)), some (.ref q), none, none, none, none] ∧ Same H H' ∧ H q = none ∧ H' q = some (.tup []), ⟨(by show 0 ≤ sizeLine; omega), fun q nq => ⟨q, rfl, same_new nq, nq, upd_same⟩⟩, ?_⟩
        rintro _ H1 ⟨q0, rfl, s1, nq0, hq0⟩
        refine ⟨_, rfl, b, 5, m, xs, rfl, s1 _ _ hb, hB, by omega, by decide, by decide +kernel, fun r zs h0 h1 hZ => ?_⟩
        have q0b : q0 ≠ b := fun z => by rw [z, hb] at nq0; cases nq0
        refine ⟨_, rfl, by omega, by omega, for_range (lo := 0) (n := r.toNat) (fun j σ H2 => ∃ q c' vs ds zs v6 v7 v8 v9, σ = [some (.ref b), some (.ref tw), some (.ref ta), some (.ref l), some (.int ((i : Nat) : Int)), some (.ref q), v6, v7, v8, v9] ∧ Lp b l i 0 m c H j q c' vs ds zs H2) ?_ (fun j σ H2 hj pv => ?_) (fun σ H2 pv => ?_)⟩
        · refine ⟨q0, c, [], [], zs, none, none, none, none, rfl, fun a o nb nl e => ?_, upd_same, hZ.mono (by omega), Nat.le_refl _, ?_, ?_, .nil, Nat.zero_le _, by rw [Nat.sub_self]; exact BodyG.nil, fun d hd => nomatch hd⟩
          · rw [upd_ne nb]
            exact s1 _ _ e
          · rw [upd_ne nlb]
            exact s1 _ _ hl
          · rw [news_at nq0, upd_ne q0b]
            exact hq0
        · obtain ⟨q, c', vs, ds, zs, v6, v7, v8, v9, rfl, lp⟩ := pv
          have qnb : q ≠ b := fun z => absurd lp.qn (by rw [z, hb]; nofun)
          have qnl : q ≠ l := fun z => absurd lp.qn (by rw [z, hl]; nofun)
          refine ⟨fun σ' H' => ∃ c1, c' = c1 + 1 ∧ σ' = [some (.ref b), some (.ref tw), some (.ref ta), some (.ref l), some (.int ((i : Nat) : Int)), some (.ref q), some (.int (0 + ((j : Nat) : Int))), v7, v8, v9] ∧ H2 = H', ?_, ?_⟩
          · refine ⟨_, rfl, l, _, 0, _, rfl, rfl, SqL.of lp.hl, rfl, _, _, rfl, rfl, _, rfl, ite2 (fun h => ⟨_, rfl, finish (by omega) lp⟩) (fun h => ⟨c' - 1, ?_, rfl, rfl⟩)⟩
            have h' : ¬ (((c' : Nat) : Int) ≤ 0) := by simpa using h
            omega
          rintro _ _ ⟨c1, rfl, rfl, rfl⟩
          refine ⟨fun σ' H' => σ' = [some (.ref b), some (.ref tw), some (.ref ta), some (.ref l), some (.int ((i : Nat) : Int)), some (.ref q), some (.int (0 + ((j : Nat) : Int))), v7, v8, v9] ∧ But2 b l H2 H' ∧ H' b = some (.lst zs) ∧ H' l = some (.lst [.int ((c1 : Nat) : Int)]), ?_, ?_⟩
          · refine ⟨_, rfl, l, _, 0, _, rfl, rfl, SqL.of lp.hl, rfl, _, _, rfl, rfl, _, rfl, l, _, 0, 0, rfl, rfl, lp.hl, rfl, rfl, But2.put, by rw [upd_ne nlb.symm]; exact lp.hb, ?_⟩
            rw [upd_same]
            show some (HO.lst [.int (((c1 + 1 : Nat) : Int) - 1)]) = _
            have e : (((c1 + 1 : Nat) : Int) - 1) = ((c1 : Nat) : Int) := by omega
            rw [e]
          rintro _ H3 ⟨rfl, bt3, hb3, hl3⟩
          have cle := lp.le
          have hB3 := lp.hB
          have W3 := (show Wds H3 b tw ws from ⟨bt3 _ _ hW.ne ntl (lp.bt _ _ hW.ne ntl hW.at'), hW.ne, hW.pos, hW.len, hW.ok⟩)
          have ta3 := bt3 _ _ nab nal (lp.bt _ _ nab nal hta)
          refine ⟨_, rfl, _, _, rfl, rfl, _, rfl, ite_neg' (by show ¬ decide (((i : Nat) : Int) < 4) = true; simp; omega) (ite_neg' (by decide) ⟨_, rfl, _, rfl, _, rfl, _, rfl, b, tw, ta, m + 1 + (c - (c1 + 1)) * 130, zs, ws, rfl, hb3, hB3, by omega, W3, ta3, nab, fun v d H5 zs5 bt5 hb5 hB5 hv g => ⟨(by show 1 ≤ sizeLine; omega), fun p np => ?_⟩⟩)⟩
          · have bt6 : But2 b l H2 H5 := bt3.trans bt5.two
            have hl5 := bt5 _ _ nlb hl3
            have hq5 := bt6 _ _ qnb qnl lp.qh
            have hg : BodyG i (c1 + 1 - c1) [d] := by
              have e : c1 + 1 - c1 = 1 := by omega
              rw [e]
              exact BodyG.row (by omega) g
            refine ⟨q, p, vs, [v], rfl, rfl, same_new np _ _ hq5, upd_same, ?_, fun qq H' sm hq' hor => ?_⟩
            · have := lp.hv.len
              have := lp.len
              simp only [List.length_cons, List.length_nil]
              omega
            · exact ⟨qq, c1, _, _, zs5, _, v7, v8, v9, rfl, lp.snoc ⟨_, hb⟩ ⟨_, hl⟩ bt6 hb5 hl5 (by omega) (hB5.mono (by omega)) (hv.up (But2.from (lp.bt.trans bt3) ⟨_, hb3⟩ ⟨_, hl3⟩)) hg ⟨g.lay.mono (by omega), g.sm⟩ np sm hq' hor⟩
        · obtain ⟨q, c', vs, ds, zs, v6, v7, v8, v9, rfl, lp⟩ := pv
          exact ⟨_, rfl, finish (by omega) lp⟩
      · refine ⟨_, C8.pss_cut (ps_set (i := 5) nd rfl (.inl rfl) (pe_tup pa_nil))
          (pss_cons (ps_for PassesOwn.never rfl (pi_range1 (by rfl) hrng (pa_cons (pe_cl cT hr pass0 (pa_cons (pv 0) (pa_cons pe_int pa_nil)) (by omega)) pa_nil)) (pg_name (i := 6) nd rfl (.inl rfl))
            (C8.pss_cut (ps_if (pt_cmpR op_le (pe_ix ix_list (pv 3) pe_int (fun _ _ => rfl)) pe_int (nomark _)) (pss_one (ps_ret (pv 5))) pss_nil)
            (C8.pss_cut (ps_asg (pe_op op_sub (pe_ix ix_list (pv 3) pe_int (fun _ _ => rfl)) pe_int) (pg_sub (pv 3) pe_int set_list) rfl)
            (pss_one (ps_if (PW.pt (pw_and (pt_cmpR op_lt (pv 4) pe_int (nomark _)) (pw_and1 (pt_cmpR op_eq (pe_cl cT hr pass0 (pa_cons (pv 0) (pa_cons pe_int pa_nil)) (by omega)) pe_int (nomark _)))))
              (C8.pss_cut (ps_set (i := 7) nd rfl (.inl rfl) (pe_tup (pa_cons (pe_cl cE hr pass0 (pa_cons (pv 0) (pa_cons (pv 1) (pa_cons pe_int pa_nil))) (by omega)) (pa_cons (pe_cl cO hr pass0 (pa_cons (pv 0) (pa_cons (pe_lst (pa_cons pe_str (pa_cons pe_str (pa_cons pe_str (pa_cons pe_str pa_nil))))) pa_nil)) (by omega)) (pa_cons (pe_cl cE hr pass0 (pa_cons (pv 0) (pa_cons (pv 1) (pa_cons pe_int pa_nil))) (by omega)) pa_nil)))))
              (C8.pss_cut (ps_set (i := 8) nd rfl (.inl rfl) (pe_cl cS hr pass0 (pa_cons (pv 0) (pa_cons (pv 1) (pa_cons (pv 2) (pa_cons (pv 3) (pa_cons (pe_op op_add (pv 4) pe_int) pa_nil))))) (by omega)))
              (C8.pss_cut (ps_set (i := 9) nd rfl (.inl rfl) (pe_cl cS hr pass0 (pa_cons (pv 0) (pa_cons (pv 1) (pa_cons (pv 2) (pa_cons (pv 3) (pa_cons (pe_op op_add (pv 4) pe_int) pa_nil))))) (by omega)))
              (pss_one (ps_set (i := 5) nd rfl (.inl rfl) (pe_op op_catM (pv 5) (pe_tup (pa_cons (pe_op op_catM (pe_op op_catM (pe_tup (pa_cons pe_str pa_nil)) (pv 7)) (pe_tup (pa_cons (pv 8) (pa_cons (pv 9) pa_nil)))) pa_nil))))))))
              (pss_one (ps_set (i := 5) nd rfl (.inl rfl) (pe_op op_catM (pv 5) (pe_tup (pa_cons (pe_cl cR hr pass0 (pa_cons (pv 0) (pa_cons (pv 1) (pa_cons (pv 2) pa_nil))) (by omega)) pa_nil))))))))))
          (pss_one (ps_ret (pv 5)))), ?_⟩
        have finish : ∀ {j q c' vs ds zs H2}, j ≤ 4 → Lp b l i (n + 1) m c H j q c' vs ds zs H2 → Q (.ref q) H2 := fun {j q c' vs ds zs H2} hj h =>
          fin (.ref q) ds H2 zs c' h.bt h.hb h.hB h.le h.hl (.tup h.hq h.hv) h.good ((LayN.tup fun d hd => (h.ok d hd).1).mono (by omega)) (SmA.tup (by have := h.len; omega) fun d hd => (h.ok d hd).2)
        refine ⟨fun σ' H' => ∃ q, σ' = [some (.ref b), some (.ref tw), some (.ref ta), some (.ref l), some (.int ((i : Nat) : Int)), some (.ref q), none, none, none, none] ∧ Same H H' ∧ H q = none ∧ H' q = some (.tup []), ⟨(by show 0 ≤ sizeLine; omega), fun q nq => ⟨q, rfl, same_new nq, nq, upd_same⟩⟩, ?_⟩
        rintro _ H1 ⟨q0, rfl, s1, nq0, hq0⟩
        refine ⟨_, rfl, b, 5, m, xs, rfl, s1 _ _ hb, hB, by omega, by decide, by decide +kernel, fun r zs h0 h1 hZ => ?_⟩
        have q0b : q0 ≠ b := fun z => by rw [z, hb] at nq0; cases nq0
        refine ⟨_, rfl, by omega, by omega, for_range (lo := 0) (n := r.toNat) (fun j σ H2 => ∃ q c' vs ds zs v6 v7 v8 v9, σ = [some (.ref b), some (.ref tw), some (.ref ta), some (.ref l), some (.int ((i : Nat) : Int)), some (.ref q), v6, v7, v8, v9] ∧ Lp b l i (n + 1) m c H j q c' vs ds zs H2) ?_ (fun j σ H2 hj pv => ?_) (fun σ H2 pv => ?_)⟩
        · refine ⟨q0, c, [], [], zs, none, none, none, none, rfl, fun a o nb nl e => ?_, upd_same, hZ.mono (by omega), Nat.le_refl _, ?_, ?_, .nil, Nat.zero_le _, by rw [Nat.sub_self]; exact BodyG.nil, fun d hd => nomatch hd⟩
          · rw [upd_ne nb]
            exact s1 _ _ e
          · rw [upd_ne nlb]
            exact s1 _ _ hl
          · rw [news_at nq0, upd_ne q0b]
            exact hq0
        · obtain ⟨q, c', vs, ds, zs, v6, v7, v8, v9, rfl, lp⟩ := pv
          have qnb : q ≠ b := fun z => absurd lp.qn (by rw [z, hb]; nofun)
          have qnl : q ≠ l := fun z => absurd lp.qn (by rw [z, hl]; nofun)
          refine ⟨fun σ' H' => ∃ c1, c' = c1 + 1 ∧ σ' = [some (.ref b), some (.ref tw), some (.ref ta), some (.ref l), some (.int ((i : Nat) : Int)), some (.ref q), some (.int (0 + ((j : Nat) : Int))), v7, v8, v9] ∧ H2 = H', ?_, ?_⟩
          · refine ⟨_, rfl, l, _, 0, _, rfl, rfl, SqL.of lp.hl, rfl, _, _, rfl, rfl, _, rfl, ite2 (fun h => ⟨_, rfl, finish (by omega) lp⟩) (fun h => ⟨c' - 1, ?_, rfl, rfl⟩)⟩
            have h' : ¬ (((c' : Nat) : Int) ≤ 0) := by simpa using h
            omega
          rintro _ _ ⟨c1, rfl, rfl, rfl⟩
          refine ⟨fun σ' H' => σ' = [some (.ref b), some (.ref tw), some (.ref ta), some (.ref l), some (.int ((i : Nat) : Int)), some (.ref q), some (.int (0 + ((j : Nat) : Int))), v7, v8, v9] ∧ But2 b l H2 H' ∧ H' b = some (.lst zs) ∧ H' l = some (.lst [.int ((c1 : Nat) : Int)]), ?_, ?_⟩
          · refine ⟨_, rfl, l, _, 0, _, rfl, rfl, SqL.of lp.hl, rfl, _, _, rfl, rfl, _, rfl, l, _, 0, 0, rfl, rfl, lp.hl, rfl, rfl, But2.put, by rw [upd_ne nlb.symm]; exact lp.hb, ?_⟩
            rw [upd_same]
            show some (HO.lst [.int (((c1 + 1 : Nat) : Int) - 1)]) = _
            have e : (((c1 + 1 : Nat) : Int) - 1) = ((c1 : Nat) : Int) := by omega
            rw [e]
          rintro _ H3 ⟨rfl, bt3, hb3, hl3⟩
          have cle := lp.le
          have hB3 := lp.hB
          have W3 := (show Wds H3 b tw ws from ⟨bt3 _ _ hW.ne ntl (lp.bt _ _ hW.ne ntl hW.at'), hW.ne, hW.pos, hW.len, hW.ok⟩)
          have ta3 := bt3 _ _ nab nal (lp.bt _ _ nab nal hta)
          refine ⟨_, rfl, _, _, rfl, rfl, _, rfl, ite_pos' (by show decide (((i : Nat) : Int) < 4) = true; exact decide_eq_true (by omega)) ⟨_, rfl, b, 3, m + 1 + (c - (c1 + 1)) * 130, zs, rfl, hb3, hB3, by omega, by decide, by decide +kernel, fun r3 zs4 g0 g1 hB4 => ⟨rfl, _, rfl, ?_⟩⟩⟩
          have bt4 : But b H3 (upd H3 b (.lst zs4)) := fun a o nb e => by rw [upd_ne nb]; exact e
          have hl4 := bt4 _ _ nlb hl3
          have W4 := W3.up bt4
          by_cases h3 : r3 = 0
          · refine ite_pos' (by subst h3; rfl) ?_
            have base4 : But2 b l H (upd H3 b (.lst zs4)) := lp.bt.trans (bt3.trans bt4.two)
            have b24 : But2 b l H2 (upd H3 b (.lst zs4)) := bt3.trans bt4.two
            refine ⟨fun σ' H' => ∃ t v1 x v2 d1 d2 zs5, σ' = [some (.ref b), some (.ref tw), some (.ref ta), some (.ref l), some (.int ((i : Nat) : Int)), some (.ref q), some (.int (0 + ((j : Nat) : Int))), some (.ref t), v8, v9] ∧ But2 b l H2 H' ∧ H' b = some (.lst zs5) ∧ BagL (m + 1 + (c - (c1 + 1)) * 130 + 76) zs5 ∧ H' l = some (.lst [.int ((c1 : Nat) : Int)]) ∧
              H t = none ∧ H' t = some (.tup [v1, .str x, v2]) ∧ Vd (news H H') v1 d1 ∧ Vd (news H H') v2 d2 ∧ x ∈ signsW ∧ exprD 3 d1 = true ∧ exprD 3 d2 = true ∧ LayN 4 d1 ∧ LayN 4 d2 ∧ SmA d1 ∧ SmA d2, ?_, ?_⟩
            · refine ⟨_, rfl, _, rfl, b, tw, m + 1 + (c - (c1 + 1)) * 130 + 1, zs4, ws, rfl, upd_same, hB4, by omega, W4, fun v1 d1 H5 zs5 bt5 hb5 hB5 hv1 e1 g1 u1 => ⟨_, rfl, (by show 4 ≤ sizeLine; omega), fun L nL => ?_⟩⟩
              have W5 := W4.up bt5
              have base5 := base4.trans bt5.two
              have hl5 := bt5 _ _ nlb hl4
              have sL := same_new (o := .lst [.str "is", .str "is not", .str "==", .str "!="]) nL
              have nLb : L ≠ b := ne_b hb5 nL
              have hL : (upd H5 L (.lst [.str "is", .str "is not", .str "==", .str "!="])) L = some (.lst (signsW.map V.str)) := upd_same
              refine ⟨b, L, m + 1 + (c - (c1 + 1)) * 130 + 1 + 37, zs5, signsW.map V.str, rfl, sL _ _ hb5, hB5, by omega, ⟨.inl (SqL.of hL), fun zs => .inl (SqL.of (by rw [upd_ne nLb]; exact hL))⟩, by decide, by decide, fun i v zs6 hv hB6 => ?_⟩
              rw [List.getElem?_map] at hv
              obtain ⟨x, hx, rfl⟩ := Option.map_eq_some_iff.mp hv
              have hxs := List.mem_of_getElem? hx
              have bt6 : But b H5 (upd (upd H5 L (.lst [.str "is", .str "is not", .str "==", .str "!="])) b (.lst zs6)) := fun a o nb e => by
                rw [upd_ne nb]
                exact sL _ _ e
              have W6 := W5.up bt6
              refine ⟨_, rfl, _, rfl, b, tw, m + 1 + (c - (c1 + 1)) * 130 + 1 + 37 + 1, zs6, ws, rfl, upd_same, hB6, by omega, W6, fun v2 d2 H7 zs7 bt7 hb7 hB7 hv2 e2 g2 u2 => ⟨(by show 3 ≤ sizeLine; omega), fun t nt => ?_⟩⟩
              have st := same_new (o := .tup [v1, .str x, v2]) nt
              have base6 := base5.trans bt6.two
              have base7 := base6.trans bt7.two
              have hl6 := bt6 _ _ nlb hl5
              have hl7 := bt7 _ _ nlb hl6
              refine ⟨t, v1, x, v2, d1, d2, zs7, rfl, b24.trans (bt5.two.trans (bt6.two.trans (bt7.two.trans (Same.two st)))), st _ _ hb7, hB7.mono (by omega), st _ _ hl7, base7.free ⟨_, hb7⟩ ⟨_, hl7⟩ nt, upd_same, hv1.up ?_, hv2.up ?_, hxs, e1, e2, g1, g2, u1, u2⟩
              · exact (But2.from base4 ⟨_, upd_same⟩ ⟨_, hl4⟩).trans (But2.news ⟨_, hb⟩ ⟨_, hl⟩ (bt6.two.trans (bt7.two.trans (Same.two st))))
              · exact (But2.from base6 ⟨_, upd_same⟩ ⟨_, hl6⟩).trans (news_sm st)
            rintro _ H5 ⟨t, v1, x, v2, d1, d2, zs5, rfl, bt5, hb5, hB5, hl5, nt, ht5, hv1, hv2, hx, e1, e2, g1, g2, u1, u2⟩
            have tb : t ≠ b := fun z => by rw [z, hb] at nt; cases nt
            have tl : t ≠ l := fun z => by rw [z, hl] at nt; cases nt
            have base5 := lp.bt.trans bt5
            have W2 := (show Wds H2 b tw ws from ⟨lp.bt _ _ hW.ne ntl hW.at', hW.ne, hW.pos, hW.len, hW.ok⟩)
            have W5 := (show Wds H5 b tw ws from ⟨bt5 _ _ hW.ne ntl W2.at', hW.ne, hW.pos, hW.len, hW.ok⟩)
            have ta5 := bt5 _ _ nab nal (lp.bt _ _ nab nal hta)
            have ei : ((i : Nat) : Int) + 1 = ((i + 1 : Nat) : Int) := by omega
            refine ⟨fun σ' H' => ∃ v3 A zs6 c2, σ' = [some (.ref b), some (.ref tw), some (.ref ta), some (.ref l), some (.int ((i : Nat) : Int)), some (.ref q), some (.int (0 + ((j : Nat) : Int))), some (.ref t), some v3, v9] ∧ But2 b l H5 H' ∧ H' b = some (.lst zs6) ∧ BagL (m + 1 + (c - (c1 + 1)) * 130 + 76 + 1 + (c1 - c2) * 130) zs6 ∧ c2 ≤ c1 ∧ H' l = some (.lst [.int ((c2 : Nat) : Int)]) ∧
              Vd (news H H') v3 (.tuple A) ∧ BodyG (i + 1) (c1 - c2) A ∧ LayN (6 + 2 * n) (.tuple A) ∧ SmA (.tuple A), ?_, ?_⟩
            · refine ⟨_, rfl, _, rfl, _, rfl, _, rfl, _, rfl, _, _, rfl, rfl, b, tw, ta, l, i + 1, m + 1 + (c - (c1 + 1)) * 130 + 76, c1, zs5, ws, ?_, by omega, hb5, hB5, by omega, by omega, W5, ntl, ta5, nab, nal, hl5, nlb, fun v3 A H6 zs6 c2 bt6 hb6 hB6 le6 hl6 hv3 g3 lay3 u3 => ?_⟩
              · show [V.ref b, V.ref tw, V.ref ta, V.ref l, V.int (((i : Nat) : Int) + 1)] = _
                rw [ei]
              · exact ⟨v3, A, zs6, c2, rfl, bt6, hb6, hB6, le6, hl6, hv3.up (But2.from base5 ⟨_, hb5⟩ ⟨_, hl5⟩), g3, lay3, u3⟩
            rintro _ H6 ⟨v3, A, zs6, c2, rfl, bt6, hb6, hB6, le6, hl6, hv3, g3, lay3, u3⟩
            have base6 := base5.trans bt6
            have W6 := (show Wds H6 b tw ws from ⟨bt6 _ _ hW.ne ntl W5.at', hW.ne, hW.pos, hW.len, hW.ok⟩)
            have ta6 := bt6 _ _ nab nal ta5
            refine ⟨fun σ' H' => ∃ v4 B zs7 c3, σ' = [some (.ref b), some (.ref tw), some (.ref ta), some (.ref l), some (.int ((i : Nat) : Int)), some (.ref q), some (.int (0 + ((j : Nat) : Int))), some (.ref t), some v3, some v4] ∧ But2 b l H6 H' ∧ H' b = some (.lst zs7) ∧ BagL (m + 1 + (c - (c1 + 1)) * 130 + 78 + (c1 - c3) * 130) zs7 ∧ c3 ≤ c2 ∧ H' l = some (.lst [.int ((c3 : Nat) : Int)]) ∧
              Vd (news H H') v4 (.tuple B) ∧ BodyG (i + 1) (c2 - c3) B ∧ LayN (6 + 2 * n) (.tuple B) ∧ SmA (.tuple B), ?_, ?_⟩
            · refine ⟨_, rfl, _, rfl, _, rfl, _, rfl, _, rfl, _, _, rfl, rfl, b, tw, ta, l, i + 1, m + 1 + (c - (c1 + 1)) * 130 + 76 + 1 + (c1 - c2) * 130, c2, zs6, ws, ?_, by omega, hb6, hB6, by omega, by omega, W6, ntl, ta6, nab, nal, hl6, nlb, fun v4 B H7 zs7 c3 bt7 hb7 hB7 le7 hl7 hv4 g4 lay4 u4 => ?_⟩
              · show [V.ref b, V.ref tw, V.ref ta, V.ref l, V.int (((i : Nat) : Int) + 1)] = _
                rw [ei]
              · exact ⟨v4, B, zs7, c3, rfl, bt7, hb7, hB7.mono (by omega), le7, hl7, hv4.up (But2.from base6 ⟨_, hb6⟩ ⟨_, hl6⟩), g4, lay4, u4⟩
            rintro _ H7 ⟨v4, B, zs7, c3, rfl, bt7, hb7, hB7, le7, hl7, hv4, g4, lay4, u4⟩
            have base7 := base6.trans bt7
            have ht7 := bt7 _ _ tb tl (bt6 _ _ tb tl ht5)
            have b27 : But2 b l H2 H7 := bt5.trans (bt6.trans bt7)
            have hq7 := b27 _ _ qnb qnl lp.qh
            have fr7 : ∀ {a : Addr}, H7 a = none → H a = none := fun {a} e => base7.free ⟨_, hb7⟩ ⟨_, hl7⟩ e
            refine ⟨_, rfl, (by show 1 ≤ sizeLine; omega), fun p1 np1 => ⟨_, rfl, p1, t, [.str "if"], [v1, .str x, v2], rfl, rfl, upd_same, same_new np1 _ _ ht7, (by show 1 + 3 ≤ 1000; decide), fun q1 Ha sa hq1 or1 => ⟨_, rfl, _, rfl, (by show 2 ≤ sizeLine; omega), fun p2 np2 => ⟨q1, p2, [.str "if"] ++ [v1, .str x, v2], [v3, v4], rfl, rfl, same_new np2 _ _ hq1, upd_same, (by show 4 + 2 ≤ 1000; decide), fun q2 Hb sb hq2 or2 => ⟨(by show 1 ≤ sizeLine; omega), fun p np => ?_⟩⟩⟩⟩⟩
            have s1a := (same_new (o := .tup [.str "if"]) np1).trans sa
            have s1b := (s1a.trans (same_new (o := .tup [v3, v4]) np2)).trans sb
            have nq1 : H q1 = none := by
              rcases or1 with rfl | rfl | e
              · exact fr7 np1
              · exact nt
              · exact fr7 ((same_new np1).free e)
            have nq2 : H q2 = none := by
              rcases or2 with rfl | rfl | e
              · exact nq1
              · exact fr7 (s1a.free np2)
              · exact fr7 (s1a.free ((same_new np2).free e))
            refine ⟨q, p, vs, [.ref q2], rfl, rfl, same_new np _ _ (s1b _ _ hq7), upd_same, ?_, fun qq H' sm hq' hor => ?_⟩
            · have := lp.hv.len
              have := lp.len
              simp only [List.length_cons, List.length_nil]
              omega
            · have s7b : Same (news H H7) (news H Hb) := news_sm s1b
              have s57 : Same (news H H5) (news H Hb) := (But2.news ⟨_, hb⟩ ⟨_, hl⟩ (bt6.trans bt7)).trans s7b
              have s67 : Same (news H H6) (news H Hb) := (But2.news ⟨_, hb⟩ ⟨_, hl⟩ bt7).trans s7b
              obtain ⟨x1, x2, x3⟩ := sign_ok x hx
              have ht : testD d1 (.str x) d2 = true := by
                unfold testD
                rw [e1, x1, e2]
                rfl
              have hg : BodyG i (c1 + 1 - c3) [.tuple [.str "if", d1, .str x, d2, .tuple A, .tuple B]] := by
                have e : c1 + 1 - c3 = 1 + (c1 - c2) + (c2 - c3) := by omega
                rw [e]
                exact BodyG.ifs (by omega) ht g3 g4
              refine ⟨qq, c3, _, _, zs7, _, _, _, _, rfl, lp.snoc ⟨_, hb⟩ ⟨_, hl⟩ (b27.trans (Same.two s1b)) (s1b _ _ hb7) (s1b _ _ hl7) (by omega) (hB7.mono (by omega)) (.tup (a := q2) (xs := [.str "if", v1, .str x, v2, v3, v4]) (by rw [news_at nq2]; exact hq2) (.cons (.str _ (by decide +kernel)) (.cons (hv1.up s57) (.cons (.str x x3) (.cons (hv2.up s57) (.cons (hv3.up s67) (.cons (hv4.up s7b) .nil))))))) hg ⟨(LayN.tup (n := 6 + 2 * n) fun e he => ?_).mono (by omega), SmA.tup (by show 6 ≤ 400; decide) fun e he => ?_⟩ np sm hq' hor⟩
              · simp only [List.mem_cons, List.not_mem_nil, or_false] at he
                rcases he with rfl | rfl | rfl | rfl | rfl | rfl
                · exact (lay_str (by decide +kernel)).mono (by omega)
                · exact g1.mono (by omega)
                · exact x2.mono (by omega)
                · exact g2.mono (by omega)
                · exact lay3
                · exact lay4
              · simp only [List.mem_cons, List.not_mem_nil, or_false] at he
                rcases he with rfl | rfl | rfl | rfl | rfl | rfl
                · exact SmA.str
                · exact u1
                · exact SmA.str
                · exact u2
                · exact u3
                · exact u4
          · refine ite_neg' (by simp [h3]) ⟨_, rfl, _, rfl, _, rfl, _, rfl, b, tw, ta, m + 1 + (c - (c1 + 1)) * 130 + 1, zs4, ws, rfl, upd_same, hB4, by omega, W4, bt4 _ _ nab ta3, nab, fun v d H5 zs5 bt5 hb5 hB5 hv g => ⟨(by show 1 ≤ sizeLine; omega), fun p np => ?_⟩⟩
            have bt6 : But2 b l H2 H5 := bt3.trans (bt4.two.trans bt5.two)
            have hl5 := bt5 _ _ nlb hl4
            have hq5 := bt6 _ _ qnb qnl lp.qh
            have hg : BodyG i (c1 + 1 - c1) [d] := by
              have e : c1 + 1 - c1 = 1 := by omega
              rw [e]
              exact BodyG.row (by omega) g
            refine ⟨q, p, vs, [v], rfl, rfl, same_new np _ _ hq5, upd_same, ?_, fun qq H' sm hq' hor => ?_⟩
            · have := lp.hv.len
              have := lp.len
              simp only [List.length_cons, List.length_nil]
              omega
            · exact ⟨qq, c1, _, _, zs5, _, v7, v8, v9, rfl, lp.snoc ⟨_, hb⟩ ⟨_, hl⟩ bt6 hb5 hl5 (by omega) (hB5.mono (by omega)) (hv.up (But2.from (lp.bt.trans (bt3.trans bt4.two)) ⟨_, upd_same⟩ ⟨_, hl4⟩)) hg ⟨g.lay.mono (by omega), g.sm⟩ np sm hq' hor⟩
        · obtain ⟨q, c', vs, ds, zs, v6, v7, v8, v9, rfl, lp⟩ := pv
          exact ⟨_, rfl, finish (by omega) lp⟩
  have all : ∀ n : Nat, n ≤ 4 → FnOk P w K mg base CX0 (n + 8) f fd ["bag", "words", "allowed", "left", "ifs"] (spBody K n) := by
    intro n
    induction n with
    | zero => exact fun _ => body 0 7 (by omega) (by omega) (.inl rfl)
    | succ m ih => exact fun h => body (m + 1) (m + 8) h (by omega) (.inr ⟨m, rfl, f, fd, _, ih (by omega), g, F.kp, bd⟩)
  exact fun n h => ⟨f, fd, _, all n h, g, F.kp, bd⟩
end
end My
namespace My
open PySem PySem.Spec PyProof.Rows L2
/-- a method that is made of what was given -/
structure Made (K : PySem.W.Frag) (H : Hp) (C a : Addr) (nm : Str) (prs : List Str) (rows : Addr) (lv rl : V) (rs : List PyData) (dl dr : PyData) : Prop where
  giv : Given K H nm prs rows lv rl rs dl dr
  ex : ∃ dx p, H a = some (.ins C dx (madeF (.str nm) lv rl p rows)) ∧ H p = some (.tup (prs.map V.str))
def dataM (nm : Str) (prs : List Str) (rs : List PyData) (dl dr : PyData) : PyData := .tuple [.str nm, .tuple (prs.map PyData.str), .tuple rs, dl, dr]
theorem Made.up {K : PySem.W.Frag} {H H' : Hp} {C a : Addr} {nm : Str} {prs : List Str} {rows : Addr} {lv rl : V} {rs : List PyData} {dl dr : PyData} (s : Same H H') (h : Made K H C a nm prs rows lv rl rs dl dr) : Made K H' C a nm prs rows lv rl rs dl dr := by
  obtain ⟨dx, p, h1, h2⟩ := h.ex
  exact ⟨h.giv.up s, dx, p, s _ _ h1, s _ _ h2⟩
theorem Given.lay {K : PySem.W.Frag} {H : Hp} {nm : Str} {prs : List Str} {rows : Addr} {lv rl : V} {rs : List PyData} {dl dr : PyData} (h : Given K H nm prs rows lv rl rs dl dr) : LayN 62 (dataM nm prs rs dl dr) := by
  obtain ⟨items, h1, h0, h2, h3, h4, h5⟩ := h.rows
  refine LayN.tup fun d hd => ?_
  simp only [List.mem_cons, List.not_mem_nil, or_false] at hd
  rcases hd with rfl | rfl | rfl | rfl | rfl
  · exact (lay_word h.nm).mono (by omega)
  · refine (LayN.tup (n := 0) fun e he => ?_).mono (by omega)
    obtain ⟨z, hz, rfl⟩ := List.mem_map.mp he
    exact lay_word (h.ps z hz)
  · exact LayN.tup fun e he => (h3 e he).1
  · exact h.ll.mono (by omega)
  · exact h.lr.mono (by omega)
theorem Given.dps {K : PySem.W.Frag} {H : Hp} {nm : Str} {prs : List Str} {rows : Addr} {lv rl : V} {rs : List PyData} {dl dr : PyData} (h : Given K H nm prs rows lv rl rs dl dr) : Dp K H (.str nm) (.str nm) ∧ Dp K H (.ref rows) (.tuple rs) ∧ Dp K H lv dl ∧ Dp K H rl dr := by
  obtain ⟨items, h1, h0, h2, h3, h4, h5⟩ := h.rows
  exact ⟨.str _, .tup h1 h2.dp, h.lv.dp, h.rl.dp⟩
theorem Made.inM {K : PySem.W.Frag} {H : Hp} {C a : Addr} {nm : Str} {prs : List Str} {rows : Addr} {lv rl : V} {rs : List PyData} {dl dr : PyData} (h : Made K H C a nm prs rows lv rl rs dl dr) : InM K H C a (dataM nm prs rs dl dr) := by
  obtain ⟨dx, p, h1, h2⟩ := h.ex
  obtain ⟨q1, q2, q3, q4⟩ := h.giv.dps
  exact ⟨dx, p, rows, .str nm, lv, rl, _, _, _, _, _, h1, rfl, q1, .tup (SqT.of h2) (dp_strs prs), q2, q3, q4, h.giv.lay⟩
def spMade (K : PySem.W.Frag) (C : Addr) : Sp := fun vs H Q _ => ∃ (nm : Str) (ps rows : Addr) (lv rl : V) (prs : List Str) (rs : List PyData) (dl dr : PyData), vs = [.str nm, .ref ps, .ref rows, lv, rl] ∧ H ps = some (.tup (prs.map V.str)) ∧ Given K H nm prs rows lv rl rs dl dr ∧
  ∀ a H', Same H H' → Made K H' C a nm prs rows lv rl rs dl dr → Q (.ref a) H'
theorem make_read {K : PySem.W.Frag} {C : Addr} {H : Hp} {nm : Str} {prs : List Str} {rows : Addr} {lv rl : V} {rs : List PyData} {dl dr : PyData} {Q : VK} {E : XK} (G : Given K H nm prs rows lv rl rs dl dr)
    (fin : ∀ a H', Same H H' → Made K H' C a nm prs rows lv rl rs dl dr → Q (.ref a) H') : ∀ x dx, H x = none → H dx = none → dx ≠ x → spMake K C [.ref rows, lv, rl] (.ref x :: .str nm :: prs.map V.str) (upd (upd H dx (.own x)) x (.ins C dx [])) (fun v H3 => v = .non ∧ Q (.ref x) H3) E := fun x dx nx nd nxd => by
  have s1 := same_new (o := .own x) nd
  have nx1 : (upd H dx (.own x)) x = none := by rw [upd_ne nxd.symm]; exact nx
  have s2 := s1.trans (same_new (o := .ins C dx []) nx1)
  refine ⟨.ref x, .str nm, .ref rows, lv, rl, prs.map V.str, rfl, rfl, by rw [List.length_map]; have := G.len; omega, fun p np => ?_⟩
  have s3 := s2.trans (same_new (o := .tup (prs.map V.str)) np)
  have npx : p ≠ x := fun z => by rw [z, upd_same] at np; cases np
  refine ⟨x, p, rows, dx, nm, prs, lv, rl, rs, dl, dr, rfl, ?_, upd_same, G.up s3, fun H' bt hx => ⟨rfl, ?_⟩⟩
  · rw [upd_ne npx.symm]
    exact upd_same
  · have s4 : Same H H' := fun c o e => by
      have hc : c ≠ x := fun z => by rw [z, nx] at e; cases e
      exact bt c o hc (s3 _ _ e)
    exact fin x H' s4 ⟨G.up s4, dx, p, hx, bt p _ npx upd_same⟩
/-- without keywords -/
theorem plain_read {K : PySem.W.Frag} {C R0 : Addr} {H : Hp} {nm : Str} {Q : VK} {E : XK} (G : Given K H nm [] R0 (.int 0) .non [] (.int 0) .none)
    (fin : ∀ a H', Same H H' → Made K H' C a nm [] R0 (.int 0) .non [] (.int 0) .none → Q (.ref a) H') : ∀ x dx, H x = none → H dx = none → dx ≠ x → spPlain K C R0 [.ref x, .str nm] (upd (upd H dx (.own x)) x (.ins C dx [])) (fun v H3 => v = .non ∧ Q (.ref x) H3) E := fun x dx nx nd nxd => by
  have s1 := same_new (o := .own x) nd
  have nx1 : (upd H dx (.own x)) x = none := by rw [upd_ne nxd.symm]; exact nx
  have s2 := s1.trans (same_new (o := .ins C dx []) nx1)
  refine ⟨.ref x, .str nm, rfl, fun p np => ?_⟩
  have s3 := s2.trans (same_new (o := .tup []) np)
  have npx : p ≠ x := fun z => by rw [z, upd_same] at np; cases np
  refine ⟨x, p, R0, dx, nm, [], .int 0, .non, [], .int 0, .none, rfl, ?_, upd_same, G.up s3, fun H' bt hx => ⟨rfl, ?_⟩⟩
  · rw [upd_ne npx.symm]
    exact upd_same
  · have s4 : Same H H' := fun c o e => by
      have hc : c ≠ x := fun z => by rw [z, nx] at e; cases e
      exact bt c o hc (s3 _ _ e)
    exact fin x H' s4 ⟨G.up s4, dx, p, hx, bt p _ npx upd_same⟩
section
variable {P : Program} {w : World} {K : PySem.W.Frag} {mg : Str → Option Value} {base : Heap} {C f0 : Addr}
theorem scMade : FnScope ["name", "params", "body", "grade", "duty"] ["name", "params", "body", "grade", "duty"] (defScope sMade) := ⟨rfl, rfl, rfl, by decide +kernel, rfl, by decide +kernel, by decide +kernel⟩
theorem cl_made (D : DefAt K mg "_law_made" sMade ["name", "params", "body", "grade", "duty"]) (hlen : mg "len" = none) (gC : mg "Method" = some (.ref C)) (M : Mk K C f0) (F : FnRK P w K mg base CX0 13 f0 (spMake K C)) : Cl P w K mg base CX0 15 "_law_made" (spMade K C) := by
  obtain ⟨f, fd, FF, g, bd⟩ := D.ex
  refine ⟨f, fd, _, FF.ok scMade (fun vs H Q E h => ?_) (fun cdv A outer s H vs Q E hr h => ?_), g, FF.kp, bd⟩
  · obtain ⟨nm, ps, rows, lv, rl, prs, rs, dl, dr, rfl, _⟩ := h
    rfl
  · obtain ⟨nm, ps, rows, lv, rl, prs, rs, dl, dr, rfl, hps, G, O⟩ := h
    refine ⟨_, pss_cons (ps_if (pt_cmpR op_eq (pe_callB call_len_seq (by rfl) hlen PySem.boot_len (pa_cons (pv 1) pa_nil)) pe_int (nomark _)) (pss_one (ps_ret (pe_makeRK M F hr rfl gC pass0 (pa_cons (pv 0) pa_nil) (pk_cons (pv 2) (pk_cons (pv 3) (pk_cons (pv 4) pk_nil)))))) pss_nil)
      (pss_cons (ps_if (pt_cmpR op_eq (pe_callB call_len_seq (by rfl) hlen PySem.boot_len (pa_cons (pv 1) pa_nil)) pe_int (nomark _)) (pss_one (ps_ret (pe_makeRK M F hr rfl gC pass0 (pa_cons (pv 0) (pa_cons (pe_ix ix_tup (pv 1) pe_int (fun _ _ => rfl)) pa_nil)) (pk_cons (pv 2) (pk_cons (pv 3) (pk_cons (pv 4) pk_nil)))))) pss_nil)
      (pss_one (ps_ret (pe_makeRK M F hr rfl gC pass0 (pa_cons (pv 0) (pa_cons (pe_ix ix_tup (pv 1) pe_int (fun _ _ => rfl)) (pa_cons (pe_ix ix_tup (pv 1) pe_int (fun _ _ => rfl)) pa_nil))) (pk_cons (pv 2) (pk_cons (pv 3) (pk_cons (pv 4) pk_nil))))))), ?_⟩
    have hl4 := G.len
    match prs, hl4 with
    | [], _ =>
      exact ⟨_, rfl, ps, _, rfl, .inr (SqT.of hps), rfl, _, rfl, ite_pos' (by simp) ⟨_, rfl, _, rfl, _, rfl, _, rfl, rfl, make_read G O⟩⟩
    | [a], _ =>
      refine ⟨_, rfl, ps, _, rfl, .inr (SqT.of hps), rfl, _, rfl, ite_neg' (by simp) ?_⟩
      exact ⟨_, rfl, ps, _, rfl, .inr (SqT.of hps), rfl, _, rfl, ite_pos' (by simp) ⟨_, rfl, _, rfl, ps, _, 0, .str a, rfl, rfl, SqT.of hps, (by exact atI_nat (j := 0) (by rfl)), _, rfl, _, rfl, _, rfl, rfl, make_read G O⟩⟩
    | [a, c], _ =>
      refine ⟨_, rfl, ps, _, rfl, .inr (SqT.of hps), rfl, _, rfl, ite_neg' (by simp) ?_⟩
      refine ⟨_, rfl, ps, _, rfl, .inr (SqT.of hps), rfl, _, rfl, ite_neg' (by simp) ?_⟩
      exact ⟨_, rfl, _, rfl, ps, _, 0, .str a, rfl, rfl, SqT.of hps, (by exact atI_nat (j := 0) (by rfl)), _, rfl, ps, _, 1, .str c, rfl, rfl, SqT.of hps, (by exact atI_nat (j := 1) (by rfl)), _, rfl, _, rfl, _, rfl, rfl, make_read G O⟩
    | _ :: _ :: _ :: _, h => exact absurd h (by simp)
end
/-- the parts that are drawn, in the order of their places -/
structure Drawn (K : PySem.W.Frag) (H : Hp) (o : Addr) (nm : Str) (prs : List Str) (pt rows : Addr) (lv rl : V) (rs : List PyData) (dl dr : PyData) : Prop where
  ho : H o = some (.tup [.str nm, .ref pt, .ref rows, lv, rl])
  hp : H pt = some (.tup (prs.map V.str))
  giv : Given K H nm prs rows lv rl rs dl dr
theorem Drawn.up {K : PySem.W.Frag} {H H' : Hp} {o : Addr} {nm : Str} {prs : List Str} {pt rows : Addr} {lv rl : V} {rs : List PyData} {dl dr : PyData} (s : Same H H') (h : Drawn K H o nm prs pt rows lv rl rs dl dr) : Drawn K H' o nm prs pt rows lv rl rs dl dr := ⟨s _ _ h.ho, s _ _ h.hp, h.giv.up s⟩
theorem Drawn.dp {K : PySem.W.Frag} {H : Hp} {o : Addr} {nm : Str} {prs : List Str} {pt rows : Addr} {lv rl : V} {rs : List PyData} {dl dr : PyData} (h : Drawn K H o nm prs pt rows lv rl rs dl dr) : Dp K H (.ref o) (dataM nm prs rs dl dr) := by
  obtain ⟨q1, q2, q3, q4⟩ := h.giv.dps
  exact .tup (SqT.of h.ho) (.cons q1 (.cons (.tup (SqT.of h.hp) (dp_strs prs)) (.cons q2 (.cons q3 (.cons q4 .nil)))))
def spDraw (K : PySem.W.Frag) : Sp := fun vs H Q _ => ∃ (b tw : Addr) (m : Nat) (xs : List V) (ws : List Str), vs = [.ref b, .ref tw] ∧ H b = some (.lst xs) ∧ BagL m xs ∧ m + 4000 < 800000 ∧ Wds H b tw ws ∧ ws.Nodup ∧
  ∀ o H' zs nm prs pt rows lv rl rs dl dr, But b H H' → H' b = some (.lst zs) → BagL (m + 3000) zs → Drawn K (news H H') o nm prs pt rows lv rl rs dl dr → Q (.ref o) H'
end My
namespace My
open PySem PySem.Spec PyProof.Rows L2
theorem BodyG.none' {k : Nat} {ds : List PyData} (h : BodyG 0 k ds) (hk : k ≤ 16) : fw 17 (ds.map fun r => (r, 0)) 0 = none := by
  have e := h (17 - k) [] 0 (by omega)
  rw [List.append_nil] at e
  have e2 : 17 - k + k = 17 := by omega
  rw [e2] at e
  rw [e]
  cases h2 : 17 - k <;> rfl
theorem role_ok : ∀ v ∈ ([V.non, V.str "enter", V.str "leave"] : List V), ∃ d, (∀ H, Vd H v d) ∧ LayN 60 d ∧ roleD d = true := by
  intro v hv
  simp only [List.mem_cons, List.not_mem_nil, or_false] at hv
  rcases hv with rfl | rfl | rfl
  · exact ⟨.none, fun _ => .non, ⟨rfl, Nat.zero_le _⟩, rfl⟩
  · exact ⟨.str "enter", fun _ => .str _ (by decide +kernel), (lay_str (by decide +kernel)).mono (by omega), by decide +kernel⟩
  · exact ⟨.str "leave", fun _ => .str _ (by decide +kernel), (lay_str (by decide +kernel)).mono (by omega), by decide +kernel⟩
abbrev ND : List Str := ["bag", "words", "params", "body"]
section
variable {P : Program} {w : World} {K : PySem.W.Frag} {mg : Str → Option Value} {base : Heap}
theorem scDraw : FnScope ND ["bag", "words"] (defScope sDraw) := ⟨rfl, rfl, rfl, by decide +kernel, rfl, by decide +kernel, by decide +kernel⟩
theorem cl_draw (D : DefAt K mg "_law_draw" sDraw ["bag", "words"]) (T : Tw K mg) (cT : Cl P w K mg base CX0 1 "_law_take" spTake) (cO : Cl P w K mg base CX0 2 "_law_of" (spOf K)) (cP : Cl P w K mg base CX0 2 "_law_pick" (spPicked K)) (cB : Cl P w K mg base CX0 12 "_law_free_body" (spBody K 4)) : Cl P w K mg base CX0 13 "_law_draw" (spDraw K) := by
  obtain ⟨f, fd, F, g, bd⟩ := D.ex
  have nd := scDraw.nd
  refine ⟨f, fd, _, F.ok scDraw (fun vs H Q E h => ?_) (fun cdv A outer s H vs Q E hr h => ?_), g, F.kp, bd⟩
  · obtain ⟨b, tw, m, xs, ws, rfl, _⟩ := h
    rfl
  · obtain ⟨b, tw, m, xs, ws, rfl, hb, hB, hm, hW, hnd, fin⟩ := h
    have szs : sizeLine = 16777216 := sizeLine_eq
    refine ⟨_, C8.pss_cut (ps_set (i := 2) nd rfl (.inl rfl) (pe_callTy call_tuple_of (by rfl) T.tuple (by decide +kernel) (pa_cons (pe_cl cP hr pass0 (pa_cons (pv 0) (pa_cons (pv 1) (pa_cons (pe_cl cT hr pass0 (pa_cons (pv 0) (pa_cons pe_int pa_nil))) pa_nil)))) pa_nil)))
      (C8.pss_cut (ps_set (i := 3) nd rfl (.inl rfl) (pe_cl cB hr pass0 (pa_cons (pv 0) (pa_cons (pv 1) (pa_cons (pe_lst (pa_cons pe_str (pa_cons pe_str (pa_cons pe_str (pa_cons pe_str (pa_cons pe_str pa_nil)))))) (pa_cons (pe_lst (pa_cons pe_int pa_nil)) (pa_cons pe_int pa_nil)))))))
      (pss_one (ps_ret (pe_tup (pa_cons (pe_cl cO hr pass0 (pa_cons (pv 0) (pa_cons (pv 1) pa_nil))) (pa_cons (pv 2) (pa_cons (pv 3) (pa_cons (pe_cl cT hr pass0 (pa_cons (pv 0) (pa_cons pe_int pa_nil))) (pa_cons (pe_cl cO hr pass0 (pa_cons (pv 0) (pa_cons (pe_lst (pa_cons pe_non (pa_cons pe_str (pa_cons pe_str pa_nil)))) pa_nil))) pa_nil))))))))), ?_⟩
    refine ⟨fun σ' H' => ∃ (pt : Addr) (prs : List Str) (zs : List V), σ' = [some (.ref b), some (.ref tw), some (.ref pt), none] ∧ But b H H' ∧ H' b = some (.lst zs) ∧ BagL (m + 3) zs ∧ H pt = none ∧ H' pt = some (.tup (prs.map V.str)) ∧ prs.length ≤ 2 ∧ (∀ z ∈ prs, wordB z = true) ∧ prs.Nodup, ?_, ?_⟩
    · refine ⟨_, rfl, _, rfl, _, rfl, b, 3, m, xs, rfl, hb, hB, by omega, by decide, by decide +kernel, fun r zs g0 g1 hZ => ?_⟩
      have bt1 : But b H (upd H b (.lst zs)) := fun c o nb e => by rw [upd_ne nb]; exact e
      have W1 := hW.up bt1
      refine ⟨b, tw, r.toNat, m + 1, zs, ws, ?_, by omega, upd_same, hZ, by omega, W1.at', hW.len, hnd, fun F H' fs zs2 nF bt2 hb2 hB2 hF hlen hmem hnd2 => ?_⟩
      · show [V.ref b, V.ref tw, V.int r] = _
        have e : ((r.toNat : Nat) : Int) = r := Int.toNat_of_nonneg g0
        rw [e]
      · refine ⟨F, fs.map V.str, rfl, .inl ⟨SqL.of hF, fun pt np => ⟨pt, fs, zs2, rfl, (bt1.trans bt2).trans (But.of (same_new np)), same_new np _ _ hb2, hB2.mono (by omega), free_of (bt1.trans bt2) hb2 np, upd_same, by omega, fun z hz => hW.ok z (hmem z hz), hnd2⟩⟩⟩
    rintro _ H1 ⟨pt, prs, zs, rfl, bt1, hb1, hB1, npt, hpt, hlen, hok, hndp⟩
    have W1 := hW.up bt1
    have ptb : pt ≠ b := fun z => by rw [z, hb] at npt; cases npt
    refine ⟨fun σ' H' => ∃ (rows : Addr) (items : List V) (ds : List PyData) (zs2 : List V), σ' = [some (.ref b), some (.ref tw), some (.ref pt), some (.ref rows)] ∧ But b H H' ∧ H' b = some (.lst zs2) ∧ BagL (m + 3 + 1 + 2080) zs2 ∧ H' pt = some (.tup (prs.map V.str)) ∧ RowsOK K (news H H') rows ds, ?_, ?_⟩
    · refine ⟨_, rfl, _, rfl, (by show 5 ≤ sizeLine; omega), fun ta nta => ⟨(by show 1 ≤ sizeLine; omega), fun l nl => ?_⟩⟩
      have s2 := same_new (o := .lst [.str "set", .str "let", .str "return", .str "refuse", .str "super"]) nta
      have s3 := s2.trans (same_new (o := .lst [.int 16]) nl)
      have tab : ta ≠ b := ne_b hb1 nta
      have lb : l ≠ b := ne_b (s2 _ _ hb1) nl
      have tal : ta ≠ l := fun z => by
        rw [← z, upd_same] at nl
        cases nl
      have W3 := W1.up (But.of s3)
      have twl : tw ≠ l := fun z => by
        have := s2 _ _ W1.at'
        rw [z, nl] at this
        cases this
      have hb3 := s3 _ _ hb1
      have bt3 := bt1.trans (But.of s3)
      refine ⟨b, tw, ta, l, 0, m + 3, 16, zs, ws, rfl, by omega, hb3, hB1, by omega, by omega, W3, twl, (by rw [upd_ne tal]; exact upd_same), tab, tal, upd_same, lb, fun v ds H' zs2 c' bt4 hb4 hB4 le4 hl4 hv g4 lay4 u4 => ?_⟩
      have nHl : H1 l = none := s2.free nl
      have btb : But b H1 H' := fun c o nb e => bt4 c o nb (fun z => by rw [z, nHl] at e; cases e) (s3 _ _ e)
      have hv2 := hv.up (news_of bt3 hb3 (H' := H'))
      cases hv2 with
      | @tup rows items _ hr' hk =>
        refine ⟨rows, items, ds, zs2, rfl, bt1.trans btb, hb4, hB4.mono (by omega), btb _ _ ptb hpt, items, SqT.of hr', .inl ⟨_, hr'⟩, hk, fun r hr2 => ⟨(lay4.parts r hr2).mono (by omega), ((u4 13).parts.2 r hr2)⟩, ((u4 13).parts.1), g4.none' (by omega)⟩
    rintro _ H2 ⟨rows, items, ds, zs2, rfl, bt2, hb2, hB2, hpt2, hrows⟩
    have W2 := hW.up bt2
    refine ⟨_, rfl, _, rfl, b, tw, m + 3 + 1 + 2080, zs2, ws.map V.str, rfl, hb2, hB2, by omega, W2.seq, W2.pos', W2.len', fun i v zs3 hv hB3 => ?_⟩
    obtain ⟨nm, rfl, hnm⟩ := W2.mem hv
    have bt3 : But b H2 (upd H2 b (.lst zs3)) := fun c o nb e => by rw [upd_ne nb]; exact e
    refine ⟨_, rfl, _, rfl, _, rfl, b, 4, m + 3 + 1 + 2080 + 1, zs3, rfl, upd_same, hB3, by omega, by decide, by decide +kernel, fun r zs4 g0 g1 hB4 => ?_⟩
    have bt4 : But b (upd H2 b (.lst zs3)) (upd (upd H2 b (.lst zs3)) b (.lst zs4)) := fun c o nb e => by rw [upd_ne nb]; exact e
    refine ⟨_, rfl, (by show 3 ≤ sizeLine; omega), fun L nL => ?_⟩
    have sL := same_new (o := .lst [.non, .str "enter", .str "leave"]) nL
    have hbL := sL _ _ (upd_same (H := upd H2 b (.lst zs3)) (a := b) (o := .lst zs4))
    have Lb : L ≠ b := ne_b (H2 := upd (upd H2 b (.lst zs3)) b (.lst zs4)) upd_same nL
    have hL : (upd (upd (upd H2 b (.lst zs3)) b (.lst zs4)) L (.lst [.non, .str "enter", .str "leave"])) L = some (.lst [.non, .str "enter", .str "leave"]) := upd_same
    refine ⟨b, L, m + 3 + 1 + 2080 + 1 + 1, zs4, [.non, .str "enter", .str "leave"], rfl, hbL, hB4, by omega, ⟨.inl (SqL.of hL), fun zs => .inl (SqL.of (by rw [upd_ne Lb]; exact hL))⟩, by decide, by decide, fun i rl zs5 hrl hB5 => ?_⟩
    obtain ⟨dr, hdr, ldr, rdr⟩ := role_ok rl (List.mem_of_getElem? hrl)
    refine ⟨(by show 5 ≤ sizeLine; omega), fun o no => ?_⟩
    have bt5 : But b H2 (upd (upd (upd (upd H2 b (.lst zs3)) b (.lst zs4)) L (.lst [.non, .str "enter", .str "leave"])) b (.lst zs5)) := fun c u nb e => by
      rw [upd_ne nb]
      exact sL _ _ (bt4 c u nb (bt3 c u nb e))
    have so := same_new (o := .tup [.str nm, .ref pt, .ref rows, .int r, rl]) no
    have bt6 := bt5.trans (But.of so)
    have bt7 := bt2.trans bt6
    have hbf := so _ _ (upd_same (H := upd (upd (upd H2 b (.lst zs3)) b (.lst zs4)) L (.lst [.non, .str "enter", .str "leave"])) (a := b) (o := .lst zs5))
    have nHo : H o = none := free_of (bt2.trans bt5) upd_same no
    have nw := news_up (H := H) hb bt6
    refine fin o _ zs5 nm prs pt rows (.int r) rl ds (.int r) dr bt7 hbf (hB5.mono (by omega)) ⟨by rw [news_at nHo]; exact upd_same, by rw [news_at npt]; exact bt6 _ _ ptb hpt2, hnm, hok, hndp, hlen, hrows.up nw, .int r, ⟨rfl, Nat.zero_le _⟩, ?_, hdr _, ldr, rdr⟩
    show (decide (0 ≤ r) && decide (r ≤ 3)) = true
    rw [decide_eq_true g0, decide_eq_true (by omega : r ≤ 3)]
    rfl
end
end My
namespace My
open PySem PySem.Spec PyProof.Rows L2
def spBag (K : PySem.W.Frag) : Sp := fun vs H Q _ => ∃ (a : Addr) (ns : List Int) (at' : Int), vs = [.ref a, .int at'] ∧ SqL K H a (ns.map V.int) ∧ 0 ≤ at' ∧ at' < 63 ∧ ∀ p xs, H p = none → BagL 0 xs → Q (.ref p) (upd H p (.lst xs))
def spRight : Sp := fun vs H Q _ => ∃ (b : Addr) (n : Nat) (xs : List V), vs = [.ref b] ∧ H b = some (.lst xs) ∧ BagL n xs ∧ n < 1000 ∧ ∀ H', But b H H' → Q (.bl true) H'
def spLaw (K : PySem.W.Frag) : Sp := fun vs H Q _ => ∃ (a : Addr) (ns : List Int), vs = [.ref a] ∧ SqL K H a (ns.map V.int) ∧ ns.length ≤ 63 ∧ ∀ H', Q (.bl true) H'
structure TL (mg : Str → Option Value) : Prop extends TB mg where
  range : mg "range" = none
  max : mg "max" = none
  min : mg "min" = none
section
variable {P : Program} {w : World} {K : PySem.W.Frag} {mg : Str → Option Value} {base : Heap}
theorem scBag : FnScope ["script", "at", "cell", "digits"] ["script", "at"] (defScope sBag) := ⟨rfl, rfl, rfl, by decide +kernel, rfl, by decide +kernel, by decide +kernel⟩
theorem cl_bag (D : DefAt K mg "_law_bag" sBag ["script", "at"]) (T : TB mg) : Cl P w K mg base CX0 1 "_law_bag" (spBag K) := by
  obtain ⟨f, fd, F, g, b⟩ := D.ex
  refine ⟨f, fd, _, F.ok scBag (fun vs H Q E h => ?_) (fun cdv A outer s H vs Q E hr h => ?_), g, F.kp, b⟩
  · obtain ⟨a, ns, at', rfl, _⟩ := h
    rfl
  · obtain ⟨a, ns, at', rfl, hS, h0, h1, k⟩ := h
    have nd := scBag.nd
    refine ⟨_, C8.pss_cut (ps_set (i := 2) nd rfl (.inl rfl) (pe_ifExp (pt_cmpR op_lt (pv 1) (pe_callB call_len_seq (by rfl) T.len PySem.boot_len (pa_cons (pv 0) pa_nil)) (nomark _)) (pe_ix ix_list (pv 0) (pv 1) (fun _ _ => rfl)) pe_int))
      (C8.pss_cut (ps_set (i := 3) nd rfl (.inl rfl) (pe_ifExp (pt_cmpR op_ge (pe_callB call_abs (by rfl) T.abs (by decide +kernel) (pa_cons (pv 2) pa_nil)) (pe_op op_pow pe_int pe_int) (nomark _)) (pe_callB call_abs (by rfl) T.abs (by decide +kernel) (pa_cons (pv 2) pa_nil)) pe_int))
      (pss_one (ps_ret (pe_lst (pa_cons (pv 3) (pa_cons (pe_op op_add (pe_op op_add (pe_op op_mul (pe_op op_mod (pe_callTy call_int1 (by rfl) T.int (by decide +kernel) (pa_cons (pv 2) pa_nil)) pe_int) pe_int) (pe_op op_mul pe_int (pv 1))) pe_int) (pa_cons pe_int pa_nil))))))), ?_⟩
    refine ⟨fun σ' H' => ∃ z : Int, σ' = [some (.ref a), some (.int at'), some (.int z), none] ∧ H = H', ?_, ?_⟩
    · refine ⟨_, rfl, _, rfl, a, _, rfl, .inl hS, _, _, rfl, rfl, _, rfl, ite2 (fun h => ?_) (fun h => ?_)⟩
      · have hl : at' < (ns.map V.int).length := by simpa using h
        obtain ⟨v, e1, e2⟩ := at_nat h0 hl
        rw [List.getElem?_map] at e2
        obtain ⟨z, _, rfl⟩ := Option.map_eq_some_iff.mp e2
        exact ⟨_, rfl, _, rfl, a, _, at', _, rfl, rfl, hS, e1, z, rfl, rfl⟩
      · exact ⟨0, rfl, rfl⟩
    · rintro σ' H' ⟨z, rfl, rfl⟩
      refine ⟨fun σ' H' => ∃ y : Int, 0 ≤ y ∧ σ' = [some (.ref a), some (.int at'), some (.int z), some (.int y)] ∧ H = H', ?_, ?_⟩
      · refine ⟨_, rfl, _, rfl, _, _, rfl, rfl, ⟨by decide, by decide, by decide⟩, _, _, rfl, rfl, _, rfl, ite2 (fun h => ?_) (fun h => ?_)⟩
        · refine ⟨_, rfl, _, rfl, _, ?_, rfl, rfl⟩
          split <;> omega
        · exact ⟨0, Int.le_refl _, rfl, rfl⟩
      · rintro σ' H' ⟨y, hy, rfl, rfl⟩
        have m0 : 0 ≤ z % 2305843009213693951 := Int.emod_nonneg _ (by decide)
        have m1 : z % 2305843009213693951 < 2305843009213693951 := Int.emod_lt_of_pos _ (by decide)
        refine ⟨_, rfl, _, rfl, .inl ⟨_, rfl, _, _, rfl, rfl, (by show (0 : Int) < 2305843009213693951; decide), _, _, rfl, rfl, .inr (by decide), _, rfl, _, _, rfl, rfl, .inl (by decide), _, _, rfl, rfl, _, _, rfl, rfl, (by show 3 ≤ sizeLine; decide), fun p hp => ?_⟩⟩
        exact k _ _ hp ⟨_, _, _, rfl, hy, by omega, by omega, Int.le_refl _, Int.le_refl _⟩
theorem scLaw : FnScope ["script", "at"] ["script"] (defScope sLaw) := ⟨rfl, rfl, rfl, by decide +kernel, rfl, by decide +kernel, by decide +kernel⟩
theorem ok_law {f : Addr} {fd : FuncData} {k : Nat} (F : Fun K "law" "law" sLaw f fd) (T : TL mg) (cB : Cl P w K mg base CX0 1 "_law_bag" (spBag K)) (cR : Cl P w K mg base CX0 (k + 1) "_law_right" spRight) : FnOk P w K mg base CX0 (k + 2) f fd ["script"] (spLaw K) := by
  refine F.ok scLaw (fun vs H Q E h => ?_) (fun cdv A outer s H vs Q E hr h => ?_)
  · obtain ⟨a, ns, rfl, _⟩ := h
    rfl
  · obtain ⟨a, ns, rfl, hS, hlen, kk⟩ := h
    refine ⟨_, pss_cons (ps_for PassesOwn.never rfl (pi_range1 rfl T.range (pa_cons (pe_callB (call_max2 rfl) (by rfl) T.max (by decide +kernel) (pa_cons pe_int (pa_cons (pe_callB (call_min2 rfl) (by rfl) T.min (by decide +kernel) (pa_cons pe_int (pa_cons (pe_callB call_len_seq (by rfl) T.len PySem.boot_len (pa_cons (pv 0) pa_nil)) pa_nil))) pa_nil))) pa_nil))
        (pg_name (i := 1) scLaw.nd rfl (.inl rfl))
        (pss_one (ps_if (pt_not (pt_val (pe_cl cR hr pass0 (pa_cons (pe_cl cB hr pass0 (pa_cons (pv 0) (pa_cons (pv 1) pa_nil)) (by omega)) pa_nil) (by omega)))) (pss_one (ps_ret pe_bl)) pss_nil)))
      (pss_one (ps_ret pe_bl)), ?_⟩
    refine ⟨_, rfl, a, _, rfl, .inl hS, _, _, rfl, _, _, rfl, _, rfl, ?_⟩
    generalize hj : (if (if ((List.map V.int ns).length : Int) < 6 then ((List.map V.int ns).length : Int) else 6) > 1 then if ((List.map V.int ns).length : Int) < 6 then ((List.map V.int ns).length : Int) else 6 else 1) = j
    have j1 : 1 ≤ j := by rw [← hj]; split <;> omega
    have j6 : j ≤ 6 := by rw [← hj]; split <;> split <;> omega
    refine ⟨by omega, by omega, for_range (lo := 0) (n := j.toNat) (fun i σ H2 => ∃ v : Option V, σ = [some (.ref a), v] ∧ SqL K H2 a (ns.map V.int)) ⟨none, rfl, hS⟩ ?_ ?_⟩
    · rintro i σ H2 hi ⟨v, rfl, hS2⟩
      refine ⟨_, rfl, _, rfl, a, ns, _, rfl, hS2, by omega, by omega, fun p xs hp hB => ⟨p, 0, xs, rfl, upd_same, hB, by omega, fun H5 bt => ⟨true, rfl, ?_⟩⟩⟩
      refine iteF ⟨_, rfl, ?_⟩
      rcases hS2 with (q | ⟨o, q⟩) | q
      · exact .inl (.inl (bt _ _ (ne_of_none q hp) (same_new hp _ _ q)))
      · exact .inl (.inr ⟨o, bt _ _ (ne_of_none q hp) (same_new hp _ _ q)⟩)
      · exact .inr q
    · rintro σ H2 ⟨v, rfl, hS2⟩
      exact kk _
end
end My
namespace My
open PySem PySem.Spec PyProof.Rows L2 StX
theorem eqO_read {K : PySem.W.Frag} {H : Hp} {C a b : Addr} {d e : PyData} {Q : VK} (hA : InM K H C a d) (hB : InM K H C b e) (q : Q (.bl (PyData.eqv d e)) H) : rEqO K C (spEqM K C) (.ref a) (.ref b) H Q := by
  obtain ⟨dx, p, rows, nm, lv, rl, d1, d2, d3, d4, d5, ha, ed, r⟩ := hA
  obtain ⟨dy, p', rows', nm', lv', rl', e1, e2, e3, e4, e5, hb, ee, r'⟩ := hB
  exact ⟨a, dx, _, rfl, ha, .inr (.inr ⟨b, dy, _, rfl, hb⟩), a, d, ⟨dx, p, rows, nm, lv, rl, d1, d2, d3, d4, d5, ha, ed, r⟩, .inr ⟨b, e, rfl, ⟨dy, p', rows', nm', lv', rl', e1, e2, e3, e4, e5, hb, ee, r'⟩, _, rfl, q⟩⟩
theorem eqT_read {K : PySem.W.Frag} {H : Hp} {C a o : Addr} {d : PyData} {xs : List V} {Q : VK} (hA : InM K H C a d) (ho : H o = some (.tup xs)) (q : Q (.bl false) H) : rEqO K C (spEqM K C) (.ref a) (.ref o) H Q := by
  obtain ⟨dx, p, rows, nm, lv, rl, d1, d2, d3, d4, d5, ha, ed, r⟩ := hA
  exact ⟨a, dx, _, rfl, ha, .inr (.inl ⟨o, xs, rfl, ho⟩), a, d, ⟨dx, p, rows, nm, lv, rl, d1, d2, d3, d4, d5, ha, ed, r⟩, .inl ⟨o, xs, rfl, ho, _, rfl, q⟩⟩
theorem neO_read {K : PySem.W.Frag} {H : Hp} {C a b : Addr} {d e : PyData} {Q : VK} (hA : InM K H C a d) (hB : InM K H C b e) (q : Q (.bl (!PyData.eqv d e)) H) : rNeO C (spEqM K C) (.ref a) (.ref b) H Q := by
  obtain ⟨dx, p, rows, nm, lv, rl, d1, d2, d3, d4, d5, ha, ed, r⟩ := hA
  obtain ⟨dy, p', rows', nm', lv', rl', e1, e2, e3, e4, e5, hb, ee, r'⟩ := hB
  exact ⟨a, dx, _, b, dy, _, rfl, ha, rfl, hb, a, d, ⟨dx, p, rows, nm, lv, rl, d1, d2, d3, d4, d5, ha, ed, r⟩, .inr ⟨b, e, rfl, ⟨dy, p', rows', nm', lv', rl', e1, e2, e3, e4, e5, hb, ee, r'⟩, _, rfl, q⟩⟩
theorem Made.lift {K : PySem.W.Frag} {H H' : Hp} {C a b : Addr} {nm : Str} {prs : List Str} {rows : Addr} {lv rl : V} {rs : List PyData} {dl dr : PyData} {xs : List V} (h : Made K H C a nm prs rows lv rl rs dl dr) (hb : H b = some (.lst xs)) (bt : But b H H') (G : Given K H' nm prs rows lv rl rs dl dr) : Made K H' C a nm prs rows lv rl rs dl dr := by
  obtain ⟨dx, p, h1, h2⟩ := h.ex
  exact ⟨G, dx, p, bt _ _ (fun z => by rw [z, hb] at h1; cases h1) h1, bt _ _ (fun z => by rw [z, hb] at h2; cases h2) h2⟩
theorem eqv_self {n : Nat} {d : PyData} (h : LayN n d) : PyData.eqv d d = true := PySem.SeqAt.eqv_refl d h.1
theorem plain_read2 {K : PySem.W.Frag} {C R0 : Addr} {H : Hp} {nm : Str} {Q' : VK} {E : XK} (G : Given K H nm [] R0 (.int 0) .non [] (.int 0) .none) {x dx : Addr} (nx : H x = none) (nd : H dx = none) (nxd : dx ≠ x)
    (fin : ∀ H', Same H H' → Made K H' C x nm [] R0 (.int 0) .non [] (.int 0) .none → Q' .non H') : spPlain K C R0 [.ref x, .str nm] (upd (upd H dx (.own x)) x (.ins C dx [])) Q' E := by
  have s1 := same_new (o := .own x) nd
  have nx1 : (upd H dx (.own x)) x = none := by rw [upd_ne nxd.symm]; exact nx
  have s2 := s1.trans (same_new (o := .ins C dx []) nx1)
  refine ⟨.ref x, .str nm, rfl, fun p np => ?_⟩
  have s3 := s2.trans (same_new (o := .tup []) np)
  have npx : p ≠ x := fun z => by rw [z, upd_same] at np; cases np
  refine ⟨x, p, R0, dx, nm, [], .int 0, .non, [], .int 0, .none, rfl, ?_, upd_same, G.up s3, fun H' bt hx => ?_⟩
  · rw [upd_ne npx.symm]
    exact upd_same
  · have s4 : Same H H' := fun c o e => by
      have hc : c ≠ x := fun z => by rw [z, nx] at e; cases e
      exact bt c o hc (s3 _ _ e)
    exact fin H' s4 ⟨G.up s4, dx, p, hx, bt p _ npx upd_same⟩
abbrev NR : List Str := ["bag", "words", "one", "other", "first", "second", "anew", "at", "mixed", "third", "plain"]
section
variable {P : Program} {w : World} {K : PySem.W.Frag} {mg : Str → Option Value} {base : Heap} {C f0 f1 R0 : Addr} {fd1 : FuncData}
theorem scRight : FnScope NR ["bag"] (defScope sRight) := ⟨rfl, rfl, rfl, by decide +kernel, rfl, by decide +kernel, by decide +kernel⟩
theorem cl_right (D : DefAt K mg "_law_right" sRight ["bag"]) (T : TC K mg C) (cT : Cl P w K mg base CX0 1 "_law_take" spTake) (cN : Cl P w K mg base CX0 2 "_law_names" (spWords K)) (cD : Cl P w K mg base CX0 13 "_law_draw" (spDraw K)) (cM : Cl P w K mg base CX0 15 "_law_made" (spMade K C)) (cS : Cl P w K mg base CX0 1 "_law_parts" (spParts K C))
    (M : Mk K C f0) (FP : FnR P w K mg base CX0 13 f0 (spPlain K C R0)) (hR0 : ∀ H, RowsOK K H R0 []) (F1 : FnOk P w K mg base CX0 1 f1 fd1 ["self", "other"] (spEqM K C)) (hs : PySem.W.findIn K (.ref C) "__eq__" = some (some (.ref f1))) (hf : PySem.W.isFn K (.ref f1) = true) (hb1 : Binds K fd1 ["self", "other"] [])
    (n1 : PySem.W.notFirst K C (.type "str") = true) (n2 : PySem.W.notFirst K C (.type "tuple") = true) (N : NeC K C f1) : Cl P w K mg base CX0 16 "_law_right" spRight := by
  obtain ⟨f, fd, F, g, bd⟩ := D.ex
  have nd := scRight.nd
  refine ⟨f, fd, _, F.ok scRight (fun vs H Q E h => ?_) (fun cdv A outer s H vs Q E hr h => ?_), g, F.kp, bd⟩
  · obtain ⟨b, n, xs, rfl, _⟩ := h
    rfl
  · obtain ⟨b, n, xs, rfl, hb, hB, hn, fin⟩ := h
    have szs : sizeLine = 16777216 := sizeLine_eq
    have five : ∀ (X : Cx) (i : Nat) (x : Str), True := fun _ _ _ => trivial
    refine ⟨_, C8.pss_cut (ps_set (i := 1) nd rfl (.inl rfl) (pe_cl cN hr pass0 (pa_cons (pv 0) (pa_cons pe_int pa_nil))))
      (C8.pss_cut (ps_par (i := 2) (j := 3) (by rfl) nd rfl rfl (by decide) rfl rfl (pa_cons (pe_cl cD hr pass0 (pa_cons (pv 0) (pa_cons (pv 1) pa_nil))) (pa_cons (pe_cl cD hr pass0 (pa_cons (pv 0) (pa_cons (pv 1) pa_nil))) pa_nil)) (by rfl))
      (C8.pss_cut (ps_set (i := 4) nd rfl (.inl rfl) (pe_cl cM hr pass0 (pa_cons (pe_ix ix_tup (pv 2) pe_int (fun _ _ => rfl)) (pa_cons (pe_ix ix_tup (pv 2) pe_int (fun _ _ => rfl)) (pa_cons (pe_ix ix_tup (pv 2) pe_int (fun _ _ => rfl)) (pa_cons (pe_ix ix_tup (pv 2) pe_int (fun _ _ => rfl)) (pa_cons (pe_ix ix_tup (pv 2) pe_int (fun _ _ => rfl)) pa_nil)))))))
      (C8.pss_cut (ps_set (i := 5) nd rfl (.inl rfl) (pe_cl cM hr pass0 (pa_cons (pe_ix ix_tup (pv 3) pe_int (fun _ _ => rfl)) (pa_cons (pe_ix ix_tup (pv 3) pe_int (fun _ _ => rfl)) (pa_cons (pe_ix ix_tup (pv 3) pe_int (fun _ _ => rfl)) (pa_cons (pe_ix ix_tup (pv 3) pe_int (fun _ _ => rfl)) (pa_cons (pe_ix ix_tup (pv 3) pe_int (fun _ _ => rfl)) pa_nil)))))))
      (C8.pss_cut (ps_if (PW.pt (pw_or (pt_cmpR (op_neD ?hu) (pe_cl cS hr pass0 (pa_cons (pv 4) pa_nil)) (pv 2) (nomark _)) (pw_or (pt_cmpR (op_neD ?hu) (pe_cl cS hr pass0 (pa_cons (pv 5) pa_nil)) (pv 3) (nomark _)) (pw_or1 (pt_not (pt_val (pe_callB call_isi (by rfl) T.isi (by decide +kernel) (pa_cons (pe_fld (pv 4) rfl) (pa_cons (pe_bltn rfl T.tuple (by decide +kernel) (v := .ty "tuple") rfl) pa_nil))))))))) pss_dead pss_nil)
      (C8.pss_cut (ps_if (PW.pt (pw_or (pt_val (pe_callB call_isi (by rfl) T.isi (by decide +kernel) (pa_cons (pe_fld (pv 4) rfl) (pa_cons (pe_bltn rfl T.bool (by decide +kernel) (v := .ty "bool") rfl) pa_nil)))) (pw_or1 (pt_cmpR op_ne (pe_cmpR (op_eqO F1 hs hf hb1 n1 n2 (hr.mono (by omega))) (pv 4) (pv 5) (nomark _)) (pe_cmpR (op_eqD ?hu) (pv 2) (pv 3) (nomark _)) (nomark _))))) pss_dead pss_nil)
      (C8.pss_cut (ps_set (i := 6) nd rfl (.inl rfl) (pe_cl cM hr pass0 (pa_cons (pe_ix ix_tup (pv 2) pe_int (fun _ _ => rfl)) (pa_cons (pe_ix ix_tup (pv 2) pe_int (fun _ _ => rfl)) (pa_cons (pe_ix ix_tup (pv 2) pe_int (fun _ _ => rfl)) (pa_cons (pe_ix ix_tup (pv 2) pe_int (fun _ _ => rfl)) (pa_cons (pe_ix ix_tup (pv 2) pe_int (fun _ _ => rfl)) pa_nil)))))))
      (C8.pss_cut (ps_if (PW.pt (pw_or (pt_not (pt_cmpR (op_eqO F1 hs hf hb1 n1 n2 (hr.mono (by omega))) (pv 6) (pv 4) (nomark _))) (pw_or (pt_cmpR (op_neO F1 N hb1 (hr.mono (by omega)) ?hu1) (pv 4) (pv 6) (nomark _)) (pw_or (pt_cmpR (op_eqO F1 hs hf hb1 n1 n2 (hr.mono (by omega))) (pv 4) (pv 2) (nomark _)) (pw_or1 (pt_cmpR op_isN (pv 4) pe_non (nomark _))))))) pss_dead pss_nil)
      (C8.pss_cut (ps_set (i := 7) nd rfl (.inl rfl) (pe_cl cT hr pass0 (pa_cons (pv 0) (pa_cons pe_int pa_nil))))
      (C8.pss_cut (ps_set (i := 8) nd rfl (.inl rfl) (pe_op op_catM (pe_op op_catM (pe_slice sl_tup (pv 2) po_none (po_some (pv 7))) (pe_tup (pa_cons (pe_ix ix_tup (pv 3) (pv 7) (fun _ _ => rfl)) pa_nil))) (pe_slice sl_tup (pv 2) (po_some (pe_op op_add (pv 7) pe_int)) po_none)))
      (C8.pss_cut (ps_set (i := 9) nd rfl (.inl rfl) (pe_cl cM hr pass0 (pa_cons (pe_ix ix_tup (pv 8) pe_int (fun _ _ => rfl)) (pa_cons (pe_ix ix_tup (pv 8) pe_int (fun _ _ => rfl)) (pa_cons (pe_ix ix_tup (pv 8) pe_int (fun _ _ => rfl)) (pa_cons (pe_ix ix_tup (pv 8) pe_int (fun _ _ => rfl)) (pa_cons (pe_ix ix_tup (pv 8) pe_int (fun _ _ => rfl)) pa_nil)))))))
      (C8.pss_cut (ps_set (i := 10) nd rfl (.inl rfl) (pe_makeR M FP (hr.mono (by omega)) rfl T.gC pass0 (pa_cons (pe_ix ix_tup (pv 2) pe_int (fun _ _ => rfl)) pa_nil)))
      (pss_one (ps_ret (pe_and (pe_cmpR op_eq (pe_cmpR (op_eqO F1 hs hf hb1 n1 n2 (hr.mono (by omega))) (pv 9) (pv 4) (nomark _)) (pe_cmpR (op_eqD ?hu) (pv 8) (pv 2) (nomark _)) (nomark _))
        (pe_one (pe_cmpR (op_eqD ?hu) (pe_cl cS hr pass0 (pa_cons (pv 10) pa_nil)) (pe_tup (pa_cons (pe_ix ix_tup (pv 2) pe_int (fun _ _ => rfl)) (pa_cons (pe_tup pa_nil) (pa_cons (pe_tup pa_nil) (pa_cons pe_int (pa_cons pe_non pa_nil)))))) (nomark _))))))))))))))))), ?_⟩
    case hu =>
      have := hr.un
      show (A.deeper (envOfC "_law_right" (defScope sRight) s.heap.objs.size f cdv)).units + 64 < cLine
      omega
    case hu1 =>
      have := hr.un
      show (A.deeper (envOfC "_law_right" (defScope sRight) s.heap.objs.size f cdv)).units + 1 < cLine
      omega
    refine ⟨fun σ' H' => ∃ (tw : Addr) (ws : List Str) (zs : List V), σ' = [some (.ref b), some (.ref tw), none, none, none, none, none, none, none, none, none] ∧ But b H H' ∧ H' b = some (.lst zs) ∧ BagL (n + 35) zs ∧ Wds H' b tw ws ∧ ws.Nodup, ?_, ?_⟩
    · exact ⟨_, rfl, b, 5, n, xs, rfl, by omega, hb, hB, by omega, fun F H' ws zs nF bt hb' hB' hF hl hnd hok => ⟨F, ws, zs, rfl, bt, hb', hB', ⟨hF, (fun z => by rw [z, hb] at nF; cases nF), by omega, by omega, hok⟩, hnd⟩⟩
    rintro _ H1 ⟨tw, ws, zs1, rfl, bt1, hb1, hB1, W1, nd1⟩
    refine ⟨fun σ' H' => ∃ (o1 : Addr) (nm1 : Str) (prs1 : List Str) (pt1 rows1 : Addr) (lv1 rl1 : V) (rs1 : List PyData) (dl1 dr1 : PyData) (o2 : Addr) (nm2 : Str) (prs2 : List Str) (pt2 rows2 : Addr) (lv2 rl2 : V) (rs2 : List PyData) (dl2 dr2 : PyData) (zs : List V), σ' = [some (.ref b), some (.ref tw), some (.ref o1), some (.ref o2), none, none, none, none, none, none, none] ∧ But b H1 H' ∧ H' b = some (.lst zs) ∧ BagL (n + 6035) zs ∧
      Drawn K (news H1 H') o1 nm1 prs1 pt1 rows1 lv1 rl1 rs1 dl1 dr1 ∧ Drawn K (news H1 H') o2 nm2 prs2 pt2 rows2 lv2 rl2 rs2 dl2 dr2, ?_, ?_⟩
    · exact ⟨_, rfl, _, rfl, b, tw, n + 35, zs1, ws, rfl, hb1, hB1, by omega, W1, nd1, fun o1 H2 zs2 nm1 prs1 pt1 rows1 lv1 rl1 rs1 dl1 dr1 bt2 hb2 hB2 D1 => ⟨_, rfl, _, rfl, b, tw, n + 35 + 3000, zs2, ws, rfl, hb2, hB2, by omega, W1.up bt2, nd1, fun o2 H3 zs3 nm2 prs2 pt2 rows2 lv2 rl2 rs2 dl2 dr2 bt3 hb3 hB3 D2 =>
        ⟨_, _, rfl, o1, nm1, prs1, pt1, rows1, lv1, rl1, rs1, dl1, dr1, o2, nm2, prs2, pt2, rows2, lv2, rl2, rs2, dl2, dr2, zs3, rfl, bt2.trans bt3, hb3, hB3.mono (by omega), D1.up (news_up hb1 bt3), D2.up (news_of bt2 hb2)⟩⟩⟩
    rintro _ H3 ⟨o1, nm1, prs1, pt1, rows1, lv1, rl1, rs1, dl1, dr1, o2, nm2, prs2, pt2, rows2, lv2, rl2, rs2, dl2, dr2, zs3, rfl, bt3, hb3, hB3, D1, D2⟩
    have d1 : ∀ {Hx : Hp}, But b H3 Hx → Drawn K Hx o1 nm1 prs1 pt1 rows1 lv1 rl1 rs1 dl1 dr1 := fun {Hx} bt => D1.up ((news_up hb1 bt).trans news_same)
    have d2 : ∀ {Hx : Hp}, But b H3 Hx → Drawn K Hx o2 nm2 prs2 pt2 rows2 lv2 rl2 rs2 dl2 dr2 := fun {Hx} bt => D2.up ((news_up hb1 bt).trans news_same)
    have D13 := d1 (But.of (Same.refl H3))
    have D23 := d2 (But.of (Same.refl H3))
    have lay1 := D1.giv.lay
    have lay2 := D2.giv.lay
    have sh1 := lay1.shaped (by omega)
    have sh2 := lay2.shaped (by omega)
    refine ⟨fun σ' H' => ∃ a1 : Addr, σ' = [some (.ref b), some (.ref tw), some (.ref o1), some (.ref o2), some (.ref a1), none, none, none, none, none, none] ∧ Same H3 H' ∧ Made K H' C a1 nm1 prs1 rows1 lv1 rl1 rs1 dl1 dr1, ?_, ?_⟩
    · exact ⟨_, rfl, o1, _, 0, _, rfl, rfl, SqT.of D13.ho, (by exact atI_nat (j := 0) (by rfl)), _, rfl, o1, _, 1, _, rfl, rfl, SqT.of D13.ho, (by exact atI_nat (j := 1) (by rfl)), _, rfl, o1, _, 2, _, rfl, rfl, SqT.of D13.ho, (by exact atI_nat (j := 2) (by rfl)), _, rfl, o1, _, 3, _, rfl, rfl, SqT.of D13.ho, (by exact atI_nat (j := 3) (by rfl)), _, rfl, o1, _, 4, _, rfl, rfl, SqT.of D13.ho, (by exact atI_nat (j := 4) (by rfl)), nm1, pt1, rows1, lv1, rl1, prs1, rs1, dl1, dr1, rfl, D13.hp, D13.giv, fun a H' sm hm => ⟨a, rfl, sm, hm⟩⟩
    rintro _ H4 ⟨a1, rfl, s4, m14⟩
    have D24 := d2 (But.of s4)
    refine ⟨fun σ' H' => ∃ a2 : Addr, σ' = [some (.ref b), some (.ref tw), some (.ref o1), some (.ref o2), some (.ref a1), some (.ref a2), none, none, none, none, none] ∧ Same H4 H' ∧ Made K H' C a2 nm2 prs2 rows2 lv2 rl2 rs2 dl2 dr2, ?_, ?_⟩
    · exact ⟨_, rfl, o2, _, 0, _, rfl, rfl, SqT.of D24.ho, (by exact atI_nat (j := 0) (by rfl)), _, rfl, o2, _, 1, _, rfl, rfl, SqT.of D24.ho, (by exact atI_nat (j := 1) (by rfl)), _, rfl, o2, _, 2, _, rfl, rfl, SqT.of D24.ho, (by exact atI_nat (j := 2) (by rfl)), _, rfl, o2, _, 3, _, rfl, rfl, SqT.of D24.ho, (by exact atI_nat (j := 3) (by rfl)), _, rfl, o2, _, 4, _, rfl, rfl, SqT.of D24.ho, (by exact atI_nat (j := 4) (by rfl)), nm2, pt2, rows2, lv2, rl2, prs2, rs2, dl2, dr2, rfl, D24.hp, D24.giv, fun a H' sm hm => ⟨a, rfl, sm, hm⟩⟩
    rintro _ H5 ⟨a2, rfl, s5, m25⟩
    have m15 := m14.up s5
    refine ⟨fun σ' H' => σ' = [some (.ref b), some (.ref tw), some (.ref o1), some (.ref o2), some (.ref a1), some (.ref a2), none, none, none, none, none] ∧ Same H5 H', ?_, ?_⟩
    · refine ⟨_, rfl, a1, _, rfl, m15.inM, fun q1 H6 s6 dp6 => ⟨_, rfl, _, _, dp6, (d1 (But.of (s4.trans (s5.trans s6)))).dp, sh1, sh1, _, rfl, ite_neg' (by rw [eqv_self lay1]; decide) ?_⟩⟩
      refine ⟨_, rfl, a2, _, rfl, (m25.up s6).inM, fun q2 H7 s7 dp7 => ⟨_, rfl, _, _, dp7, (d2 (But.of (s4.trans (s5.trans (s6.trans s7))))).dp, sh2, sh2, _, rfl, ite_neg' (by rw [eqv_self lay2]; decide) ?_⟩⟩
      obtain ⟨dx, p, h1, h2⟩ := (m15.up (s6.trans s7)).ex
      exact ⟨_, rfl, a1, C, dx, _, .ref p, rfl, h1, T.cls, T.n2, rfl, .ref p, _, _, _, _, rfl, .ty "tuple", .base (.tup h2), kit_ty (r := true) (by decide +kernel), _, rfl, ite_neg' (by decide) ⟨rfl, s6.trans s7⟩⟩
    rintro _ H6 ⟨rfl, s6⟩
    have m16 := m15.up s6
    have m26 := m25.up s6
    have D16 := d1 (But.of (s4.trans (s5.trans s6)))
    have D26 := d2 (But.of (s4.trans (s5.trans s6)))
    refine ⟨fun σ' H' => σ' = [some (.ref b), some (.ref tw), some (.ref o1), some (.ref o2), some (.ref a1), some (.ref a2), none, none, none, none, none] ∧ H6 = H', ?_, ?_⟩
    · obtain ⟨dx, p, h1, h2⟩ := m16.ex
      obtain ⟨t, ht, k1, k2, k3, k4⟩ := m16.giv.lv.ty (K := K)
      have hbl : isBlD dl1 = false := by
        have := m16.giv.lo
        cases dl1 <;> first | rfl | cases this
      rw [hbl] at k3
      refine ⟨_, rfl, a1, C, dx, _, lv1, rfl, h1, T.cls, T.n4, rfl, lv1, _, t, _, _, rfl, .ty "bool", ht, k3, _, rfl, ite_neg' (by decide) ?_⟩
      refine ⟨_, rfl, _, rfl, eqO_read m16.inM m26.inM ⟨_, rfl, _, rfl, _, _, D16.dp, D26.dp, sh1, sh2, rfl, _, rfl, ite_neg' (by simp) ⟨rfl, rfl⟩⟩⟩
    rintro _ _ ⟨rfl, rfl⟩
    refine ⟨fun σ' H' => ∃ a3 : Addr, σ' = [some (.ref b), some (.ref tw), some (.ref o1), some (.ref o2), some (.ref a1), some (.ref a2), some (.ref a3), none, none, none, none] ∧ Same H6 H' ∧ Made K H' C a3 nm1 prs1 rows1 lv1 rl1 rs1 dl1 dr1, ?_, ?_⟩
    · exact ⟨_, rfl, o1, _, 0, _, rfl, rfl, SqT.of D16.ho, (by exact atI_nat (j := 0) (by rfl)), _, rfl, o1, _, 1, _, rfl, rfl, SqT.of D16.ho, (by exact atI_nat (j := 1) (by rfl)), _, rfl, o1, _, 2, _, rfl, rfl, SqT.of D16.ho, (by exact atI_nat (j := 2) (by rfl)), _, rfl, o1, _, 3, _, rfl, rfl, SqT.of D16.ho, (by exact atI_nat (j := 3) (by rfl)), _, rfl, o1, _, 4, _, rfl, rfl, SqT.of D16.ho, (by exact atI_nat (j := 4) (by rfl)), nm1, pt1, rows1, lv1, rl1, prs1, rs1, dl1, dr1, rfl, D16.hp, D16.giv, fun a H' sm hm => ⟨a, rfl, sm, hm⟩⟩
    rintro _ H7 ⟨a3, rfl, s7, m37⟩
    have m17 := m16.up s7
    have D17 := D16.up s7
    refine ⟨fun σ' H' => σ' = [some (.ref b), some (.ref tw), some (.ref o1), some (.ref o2), some (.ref a1), some (.ref a2), some (.ref a3), none, none, none, none] ∧ H7 = H', ?_, ?_⟩
    · refine ⟨_, rfl, _, rfl, eqO_read m37.inM m17.inM ⟨_, rfl, ite_neg' (by rw [eqv_self lay1]; decide) ?_⟩⟩
      refine ⟨_, rfl, _, rfl, neO_read m17.inM m37.inM ⟨_, rfl, ite_neg' (by rw [eqv_self lay1]; decide) ?_⟩⟩
      exact ⟨_, rfl, _, rfl, eqT_read m17.inM D17.ho ⟨_, rfl, ite_neg' (by decide) ⟨_, rfl, rfl, _, rfl, ite_neg' (by simp) ⟨rfl, rfl⟩⟩⟩⟩
    rintro _ _ ⟨rfl, rfl⟩
    have s37 := s4.trans (s5.trans (s6.trans s7))
    have hb7 := s37 _ _ hb3
    refine ⟨fun σ' H' => ∃ (r : Int) (zs : List V), σ' = [some (.ref b), some (.ref tw), some (.ref o1), some (.ref o2), some (.ref a1), some (.ref a2), some (.ref a3), some (.int r), none, none, none] ∧ 0 ≤ r ∧ r < 5 ∧ H' = upd H7 b (.lst zs), ?_, ?_⟩
    · exact ⟨_, rfl, b, 5, n + 6035, zs3, rfl, hb7, hB3, by omega, by decide, by decide +kernel, fun r zs g0 g1 hZ => ⟨r, zs, rfl, g0, g1, rfl⟩⟩
    rintro _ _ ⟨r, zs8, rfl, r0, r5, rfl⟩
    have b78 : But b H7 (upd H7 b (.lst zs8)) := fun c o nb e => by rw [upd_ne nb]; exact e
    have b38 : But b H3 (upd H7 b (.lst zs8)) := (But.of s37).trans b78
    have D18 := d1 b38
    have D28 := d2 b38
    have m18 := m17.lift hb7 b78 D18.giv
    generalize upd H7 b (.lst zs8) = H8 at b38 D18 D28 m18 b78
    obtain ⟨k, rfl⟩ := Int.eq_ofNat_of_zero_le r0
    have hk : k < 5 := by omega
    have l1 : ([V.str nm1, .ref pt1, .ref rows1, lv1, rl1] : List V).length = 5 := rfl
    have l2 : ([V.str nm2, .ref pt2, .ref rows2, lv2, rl2] : List V).length = 5 := rfl
    refine ⟨fun σ' H' => ∃ (mx : Addr) (nm : Str) (prs : List Str) (pt rows : Addr) (lv rl : V) (rs : List PyData) (dl dr : PyData), σ' = [some (.ref b), some (.ref tw), some (.ref o1), some (.ref o2), some (.ref a1), some (.ref a2), some (.ref a3), some (.int ((k : Nat) : Int)), some (.ref mx), none, none] ∧ Same H8 H' ∧ Drawn K H' mx nm prs pt rows lv rl rs dl dr, ?_, ?_⟩
    · have hv : ([V.str nm2, .ref pt2, .ref rows2, lv2, rl2] : List V)[k]? = some (([V.str nm2, .ref pt2, .ref rows2, lv2, rl2] : List V)[k]'(by rw [l2]; exact hk)) := List.getElem?_eq_getElem _
      generalize (([V.str nm2, .ref pt2, .ref rows2, lv2, rl2] : List V)[k]'(by rw [l2]; exact hk)) = v at hv
      refine ⟨_, rfl, _, rfl, ((k : Nat) : Int), rfl, o1, _, rfl, SqT.of D18.ho, ?_, fun c1 nc1 => ?_⟩
      · rintro ⟨_, h2⟩
        rw [l1, HT.sIx_nat, Nat.min_eq_left (by omega)] at h2
        omega
      rw [cut_take (by rw [l1]; omega)] at *
      have s1 := same_new (o := .tup (([V.str nm1, .ref pt1, .ref rows1, lv1, rl1] : List V).take k)) nc1
      have ht1 : (([V.str nm1, .ref pt1, .ref rows1, lv1, rl1] : List V).take k).length ≤ 5 := by rw [List.length_take]; omega
      refine ⟨_, rfl, _, rfl, o2, _, ((k : Nat) : Int), v, rfl, rfl, SqT.of (s1 _ _ D28.ho), (by exact atI_nat hv), (by show 1 ≤ sizeLine; omega), fun t1 nt1 => ⟨c1, t1, _, [v], rfl, rfl, same_new nt1 _ _ upd_same, upd_same, (by simp only [List.length_cons, List.length_nil]; omega), fun c2 Ha sa hc2 _ => ?_⟩⟩
      have s2 := (s1.trans (same_new (o := .tup [v]) nt1)).trans sa
      refine ⟨_, rfl, _, rfl, _, _, rfl, rfl, _, rfl, o1, _, rfl, SqT.of (s2 _ _ D18.ho), ?_, fun c3 nc3 => ?_⟩
      · rintro ⟨h2, _⟩
        have e : (((k : Nat) : Int) + 1) = ((k + 1 : Nat) : Int) := by omega
        rw [e, l1, HT.sIx_nat] at h2
        omega
      have e : (((k : Nat) : Int) + 1) = ((k + 1 : Nat) : Int) := by omega
      rw [e, cut_drop (by rw [l1]; omega)]
      have s3 := s2.trans (same_new (o := .tup (([V.str nm1, .ref pt1, .ref rows1, lv1, rl1] : List V).drop (k + 1))) nc3)
      refine ⟨c2, c3, _, _, rfl, rfl, same_new nc3 _ _ hc2, upd_same, ?_, fun mx H' sm hmx _ => ?_⟩
      · rw [List.length_append, List.length_drop, l1]
        simp only [List.length_cons, List.length_nil]
        omega
      have sf := s3.trans sm
      have E1 := D18.up sf
      have E2 := D28.up sf
      have g1 := E1.giv
      have g2 := E2.giv
      match k, hk with
      | 0, _ =>
        cases hv
        exact ⟨mx, nm2, prs1, pt1, rows1, lv1, rl1, rs1, dl1, dr1, rfl, sf, hmx, E1.hp, g2.nm, g1.ps, g1.nd, g1.len, g1.rows, g1.lv, g1.ll, g1.lo, g1.rl, g1.lr, g1.ro⟩
      | 1, _ =>
        cases hv
        exact ⟨mx, nm1, prs2, pt2, rows1, lv1, rl1, rs1, dl1, dr1, rfl, sf, hmx, E2.hp, g1.nm, g2.ps, g2.nd, g2.len, g1.rows, g1.lv, g1.ll, g1.lo, g1.rl, g1.lr, g1.ro⟩
      | 2, _ =>
        cases hv
        exact ⟨mx, nm1, prs1, pt1, rows2, lv1, rl1, rs2, dl1, dr1, rfl, sf, hmx, E1.hp, g1.nm, g1.ps, g1.nd, g1.len, g2.rows, g1.lv, g1.ll, g1.lo, g1.rl, g1.lr, g1.ro⟩
      | 3, _ =>
        cases hv
        exact ⟨mx, nm1, prs1, pt1, rows1, lv2, rl1, rs1, dl2, dr1, rfl, sf, hmx, E1.hp, g1.nm, g1.ps, g1.nd, g1.len, g1.rows, g2.lv, g2.ll, g2.lo, g1.rl, g1.lr, g1.ro⟩
      | 4, _ =>
        cases hv
        exact ⟨mx, nm1, prs1, pt1, rows1, lv1, rl2, rs1, dl1, dr2, rfl, sf, hmx, E1.hp, g1.nm, g1.ps, g1.nd, g1.len, g1.rows, g1.lv, g1.ll, g1.lo, g2.rl, g2.lr, g2.ro⟩
    rintro _ H9 ⟨mx, nm, prs, pt, rows, lv, rl, rs, dl, dr, rfl, s9, Dm⟩
    refine ⟨fun σ' H' => ∃ a4 : Addr, σ' = [some (.ref b), some (.ref tw), some (.ref o1), some (.ref o2), some (.ref a1), some (.ref a2), some (.ref a3), some (.int ((k : Nat) : Int)), some (.ref mx), some (.ref a4), none] ∧ Same H9 H' ∧ Made K H' C a4 nm prs rows lv rl rs dl dr, ?_, ?_⟩
    · exact ⟨_, rfl, mx, _, 0, _, rfl, rfl, SqT.of Dm.ho, (by exact atI_nat (j := 0) (by rfl)), _, rfl, mx, _, 1, _, rfl, rfl, SqT.of Dm.ho, (by exact atI_nat (j := 1) (by rfl)), _, rfl, mx, _, 2, _, rfl, rfl, SqT.of Dm.ho, (by exact atI_nat (j := 2) (by rfl)), _, rfl, mx, _, 3, _, rfl, rfl, SqT.of Dm.ho, (by exact atI_nat (j := 3) (by rfl)), _, rfl, mx, _, 4, _, rfl, rfl, SqT.of Dm.ho, (by exact atI_nat (j := 4) (by rfl)), nm, pt, rows, lv, rl, prs, rs, dl, dr, rfl, Dm.hp, Dm.giv, fun a H' sm hm => ⟨a, rfl, sm, hm⟩⟩
    rintro _ HA ⟨a4, rfl, sA, m4A⟩
    have D1A := D18.up (s9.trans sA)
    refine ⟨fun σ' H' => ∃ a5 : Addr, σ' = [some (.ref b), some (.ref tw), some (.ref o1), some (.ref o2), some (.ref a1), some (.ref a2), some (.ref a3), some (.int ((k : Nat) : Int)), some (.ref mx), some (.ref a4), some (.ref a5)] ∧ Same HA H' ∧ Made K H' C a5 nm1 [] R0 (.int 0) .non [] (.int 0) .none, ?_, ?_⟩
    · refine ⟨_, rfl, o1, _, 0, _, rfl, rfl, SqT.of D1A.ho, (by exact atI_nat (j := 0) (by rfl)), ?_⟩
      intro x dx nx ndx nxd
      exact plain_read2 ⟨D1A.giv.nm, (fun z hz => nomatch hz), List.nodup_nil, by decide, hR0 _, .int 0, ⟨rfl, Nat.zero_le _⟩, by decide, .non, ⟨rfl, Nat.zero_le _⟩, rfl⟩ nx ndx nxd fun H' sm hm => ⟨rfl, x, rfl, sm, hm⟩
    rintro _ HB ⟨a5, rfl, sB, m5B⟩
    have sAB := s9.trans (sA.trans sB)
    have m1B := m18.up sAB
    have D1B := D18.up sAB
    have DmB := Dm.up (sA.trans sB)
    have m4B := m4A.up sB
    have shm := DmB.giv.lay.shaped (show 62 ≤ 64 by omega)
    refine ⟨_, rfl, _, rfl, eqO_read m4B.inM m1B.inM ⟨_, rfl, _, rfl, _, _, DmB.dp, D1B.dp, shm, sh1, rfl, _, rfl, ite_pos' (by simp) ?_⟩⟩
    refine ⟨_, rfl, a5, _, rfl, m5B.inM, fun q HC sC dpC => ⟨_, rfl, o1, _, 0, _, rfl, rfl, SqT.of (sC _ _ D1B.ho), (by exact atI_nat (j := 0) (by rfl)), (by show 0 ≤ sizeLine; omega), fun e1 ne1 => ⟨(by show 0 ≤ sizeLine; omega), fun e2 ne2 => ⟨(by show 5 ≤ sizeLine; omega), fun t nt => ?_⟩⟩⟩⟩
    have sD := ((same_new (o := .tup []) ne1).trans (same_new (o := .tup []) ne2)).trans (same_new (o := .tup [.str nm1, .ref e1, .ref e2, .int 0, .non]) nt)
    have he1 := (same_new (o := .tup [.str nm1, .ref e1, .ref e2, .int 0, .non]) nt) _ _ (same_new (o := .tup []) ne2 _ _ (upd_same (H := HC) (a := e1) (o := .tup [])))
    have he2 := (same_new (o := .tup [.str nm1, .ref e1, .ref e2, .int 0, .non]) nt) _ _ (upd_same (H := upd HC e1 (.tup [])) (a := e2) (o := .tup []))
    have layp := m5B.giv.lay
    refine ⟨dataM nm1 [] [] (.int 0) .none, dataM nm1 [] [] (.int 0) .none, Dp.up sD dpC, .tup (SqT.of upd_same) (.cons (.str _) (.cons (.tup (SqT.of he1) .nil) (.cons (.tup (SqT.of he2) .nil) (.cons (.int 0) (.cons .non .nil))))), layp.shaped (by omega), layp.shaped (by omega), ?_⟩
    rw [eqv_self layp]
    exact fin _ (bt1.trans (bt3.trans (b38.trans (But.of (sAB.trans (sC.trans sD))))))
end
end My
namespace My
open PySem PySem.Spec PyProof.Rows L2 StX
theorem def_mk {K : PySem.W.Frag} {h : Heap} {mg : Str → Option Value} (X : K.In h) (G : h.Ns mainGlobals mg) {x : Str} {st : Stmt} {ps : List Str} {f : Addr} {oc : Value} {od an : Option Addr} {osl : Array (Option Value)} {kV doc pm cdv ct : Value}
    (a : PySem.W.nsIn K mainGlobals x = some (some (.ref f))) (l : K.lookup f = some ⟨oc, od, .func (PySem.W.fnOf x x (defArgs st) (defBody st) (defScope st) .none kV doc pm an cdv ct), osl⟩) (c : PySem.W.codeIn K cdv x = true) (k : PySem.W.keepIn K (.ref f) = true)
    (b : ∀ F : Fun K x x st f (PySem.W.fnOf x x (defArgs st) (defBody st) (defScope st) .none kV doc pm an cdv ct), Binds K (PySem.W.fnOf x x (defArgs st) (defBody st) (defScope st) .none kV doc pm an cdv ct) ps []) : DefAt K mg x st ps :=
  ⟨f, _, fun_mk l c k, PySem.W.mg_of X G a, b (fun_mk l c k)⟩
theorem sq_mk {K : PySem.W.Frag} {a : Addr} {dd : Option Addr} {its : Array Value} {n : Nat} {sl : Array (Option Value)} {xs : List V} (l : K.lookup a = some ⟨.type "tuple", dd, .seq its n, sl⟩) (hv : Vals xs its.toList) (hz : its.size ≤ sizeLine) : ∀ H, SqT K H a xs := fun H => .inr ⟨_, its, n, l, rfl, rfl, hz, hv⟩
/-- one default, left out or not -/
theorem fun_mkD {K : PySem.W.Frag} {x : Str} {st : Stmt} {f Tq : Addr} {oc : Value} {od an : Option Addr} {osl : Array (Option Value)} {kV doc pm cdv ct tcl : Value} {tdd : Option Addr} {tk : Tok} {tn : Nat} {tsl : Array (Option Value)}
    (l : K.lookup f = some ⟨oc, od, .func (PySem.W.fnOf x x (defArgs st) (defBody st) (defScope st) (.ref Tq) kV doc pm an cdv ct), osl⟩) (c : PySem.W.codeIn K cdv x = true) (k : PySem.W.keepIn K (.ref f) = true)
    (lt : K.lookup Tq = some ⟨tcl, tdd, .seq #[.int 3 tk] tn, tsl⟩) : FunD K x x (defArgs st) (defBody st) (defScope st) [.int 3] [] f (PySem.W.fnOf x x (defArgs st) (defBody st) (defScope st) (.ref Tq) kV doc pm an cdv ct) :=
  ⟨⟨oc, od, .ref Tq, kV, doc, pm, an, cdv, ct, osl, rfl, l, c, .inr ⟨by simp, Tq, _, [.int 3 tk], tn, rfl, lt, rfl, .cons ⟨_, rfl⟩ .nil⟩, .inl rfl⟩, k⟩
theorem test_mk {K : PySem.W.Frag} {h : Heap} {mg : Str → Option Value} (X : K.In h) (G : h.Ns mainGlobals mg) {f Tq : Addr} {oc : Value} {od an : Option Addr} {osl : Array (Option Value)} {kV doc pm cdv ct tcl : Value} {tdd : Option Addr} {tk : Tok} {tn : Nat} {tsl : Array (Option Value)}
    (a : PySem.W.nsIn K mainGlobals "is_test" = some (some (.ref f))) (l : K.lookup f = some ⟨oc, od, .func (PySem.W.fnOf "is_test" "is_test" (defArgs sIsTest) (defBody sIsTest) (defScope sIsTest) (.ref Tq) kV doc pm an cdv ct), osl⟩) (c : PySem.W.codeIn K cdv "is_test" = true) (k : PySem.W.keepIn K (.ref f) = true)
    (lt : K.lookup Tq = some ⟨tcl, tdd, .seq #[.int 3 tk] tn, tsl⟩) : DefAtD K mg "is_test" sIsTest ["one", "sign", "other", "makers"] [.int 3] := by
  have F := fun_mkD (x := "is_test") (st := sIsTest) l c k lt
  obtain ⟨ds, h1, h2⟩ := F.binds1 (ps := ["one", "sign", "other", "makers"]) 3 0 (by simp) rfl (fun T kV doc pm an cdv ct us its h1 h2 => match us, its, h1, h2 with | [_, _, _], [_], _, _ => ⟨_, rfl, rfl⟩)
  exact ⟨f, _, F, PySem.W.mg_of X G a, ds, h1, h2⟩
theorem expr_mk {K : PySem.W.Frag} {h : Heap} {mg : Str → Option Value} (X : K.In h) (G : h.Ns mainGlobals mg) {f Tq : Addr} {oc : Value} {od an : Option Addr} {osl : Array (Option Value)} {kV doc pm cdv ct tcl : Value} {tdd : Option Addr} {tk : Tok} {tn : Nat} {tsl : Array (Option Value)}
    (a : PySem.W.nsIn K mainGlobals "is_expression" = some (some (.ref f))) (l : K.lookup f = some ⟨oc, od, .func (PySem.W.fnOf "is_expression" "is_expression" (defArgs sIsExpr) (defBody sIsExpr) (defScope sIsExpr) (.ref Tq) kV doc pm an cdv ct), osl⟩) (c : PySem.W.codeIn K cdv "is_expression" = true) (k : PySem.W.keepIn K (.ref f) = true)
    (lt : K.lookup Tq = some ⟨tcl, tdd, .seq #[.int 3 tk] tn, tsl⟩) : DefAt2 K mg "is_expression" sIsExpr ["value", "makers"] [.int 3] := by
  have F := fun_mkD (x := "is_expression") (st := sIsExpr) l c k lt
  have h12 := F.binds1 (ps := ["value", "makers"]) 1 0 (by simp) rfl (fun T kV doc pm an cdv ct us its h1 h2 => match us, its, h1, h2 with | [_], [_], _, _ => ⟨_, rfl, rfl⟩)
  obtain ⟨ds, h3, h4⟩ := F.binds1 (ps := ["value", "makers"]) 2 1 (by simp) rfl (fun T kV doc pm an cdv ct us its h1 h2 => match us, its, h1, h2 with | [_, _], [_], _, _ => ⟨_, rfl, rfl⟩)
  cases h3
  exact ⟨f, _, F, PySem.W.mg_of X G a, h12, h4⟩
def strKeysB (es : Array DictEntry) : Bool := es.toList.all fun e => match e.key with
  | .str _ _ => true
  | _ => false
theorem strKeys_of {es : Array DictEntry} (h : strKeysB es = true) : StrKeys es := fun e he => by
  have := List.all_eq_true.mp h e (Array.mem_toList_iff.mpr he)
  revert this
  cases e.key <;> intro this <;> first | exact ⟨_, _, rfl⟩ | cases this
theorem nec_mk {K : PySem.W.Frag} {C f N : Addr} {nm q : Str} {bs : List Value} {hdct : Bool} {sn : List Str} {sub : List Value} {ab : Bool} {col : Option Bool} {dd : Option Addr} {k0 k1 k2 k3 k5 : Option Value} {newId : String} {es : Array DictEntry} {ep : Nat} {ocl : Value} {odd : Option Addr} {osl : Array (Option Value)} {fdd : Option Addr} {fdt : Data} {fsl : Array (Option Value)}
    (h1 : K.lookup C = some (excClassObj nm q C N bs [.type "object"] hdct sn sub ab col dd k0 k1 k2 k3 k5 newId)) (h2 : K.lookup N = some ⟨ocl, odd, .dict es ep, osl⟩) (h7 : K.lookup f = some ⟨.type "function", fdd, fdt, fsl⟩) (h4 : strKeysB es = true) (h5 : nsFind es "__eq__" = some (.ref f)) (h6 : nsFind es "__ne__" = none) : NeC K C f :=
  ⟨nm, q, N, bs, hdct, sn, sub, ab, col, dd, k0, k1, k2, k3, k5, newId, _, _, es, ep, h1, h2, rfl, strKeys_of h4, h5, h6, h7, rfl⟩
theorem r0_mk {K : PySem.W.Frag} {a : Addr} {dd : Option Addr} {n : Nat} {sl : Array (Option Value)} (l : K.lookup a = some ⟨.type "tuple", dd, .seq #[] n, sl⟩) : ∀ H, RowsOK K H a [] := fun H =>
  ⟨[], sq_mk l .nil (by decide) H, .inr ⟨_, l, rfl⟩, .nil, (fun r hr => nomatch hr), by decide, rfl⟩
theorem tw_mk {K : PySem.W.Frag} {h : Heap} {mg : Str → Option Value} (_ : K.In h) (T : Tw K mg) : Tw K mg := T
theorem tf_mk {K : PySem.W.Frag} {mg : Str → Option Value} (T : Tf K mg) : Tf K mg := T
theorem na {K : PySem.W.Frag} {C : Addr} {f : Str} (h : PySem.W.findIn K (.ref C) f = some none) : NoAttr K C f := h
theorem end_mk {P : Program} {w : World} {K : PySem.W.Frag} {h : Heap} {mg : Str → Option Value} {fa : Addr} (X : K.In h) (G : h.Ns mainGlobals mg) (hfa : mg "law" = some (.ref fa)) {C f0 f1 R0 Dk : Addr} {fd1 : FuncData} {tk : Tok}
    (T : TC K mg C) (hmax : mg "max" = none) (hmin : mg "min" = none) (habs : mg "abs" = none) (M : Mk K C f0)
    {oc : Value} {od an : Option Addr} {osl : Array (Option Value)} {doc pm cdv ct : Value} (lk : K.lookup f0 = some ⟨oc, od, .func (PySem.W.fnOf "__init__" "Method.__init__" (defArgs sInit) (defBody sInit) (defScope sInit) .none (.ref Dk) doc pm an cdv ct), osl⟩) (hcd : PySem.W.codeIn K cdv "Method.__init__" = true)
    (d1 : PySem.W.nsIn K Dk "rows" = some (some (.ref R0))) (d2 : PySem.W.nsIn K Dk "level" = some (some (.int 0 tk))) (d3 : PySem.W.nsIn K Dk "role" = some (some .none)) (hR0 : ∀ H, RowsOK K H R0 [])
    (FE : Fun K "__eq__" "Method.__eq__" sEq f1 fd1) (hs : PySem.W.findIn K (.ref C) "__eq__" = some (some (.ref f1))) (hf : PySem.W.isFn K (.ref f1) = true) (hb1 : Fun K "__eq__" "Method.__eq__" sEq f1 fd1 → Binds K fd1 ["self", "other"] [])
    (n1 : PySem.W.notFirst K C (.type "str") = true) (n2 : PySem.W.notFirst K C (.type "tuple") = true) (N : NeC K C f1)
    (dE : DefAt2 K mg "is_expression" sIsExpr ["value", "makers"] [.int 3]) (dT : DefAtD K mg "is_test" sIsTest ["one", "sign", "other", "makers"] [.int 3])
    (dI : DefAt K mg "is_integer" sIsInt ["value"]) (dL : DefAt K mg "is_level" sIsLevel ["value"]) (dS : DefAt K mg "is_spelled" sIsSpelled ["value", "letters"]) (dW : DefAt K mg "is_word" sIsWord ["value"]) (dC : DefAt K mg "is_constant" sIsConst ["value"]) (dUC : DefAt K mg "is_use_of_constant" sUseC ["value"]) (dUF : DefAt K mg "is_use_of_field" sUseF ["value"]) (dIf : DefAt K mg "is_if" sIsIf ["row"]) (dSu : DefAt K mg "is_super" sIsSuper ["row"]) (dR : DefAt K mg "is_row" sIsRow ["row", "heads"]) (dF : DefAt K mg "first_wrong_row" sFirstWrong ["rows", "heads"]) (dK : DefAt K mg "check_rows" sCheckRows ["rows", "heads"]) (dO : DefAt K mg "is_role" sIsRole ["value"]) (l1 : DefAt K mg "_law_bag" sBag ["script", "at"]) (l2 : DefAt K mg "_law_take" sTake ["bag", "many"]) (l3 : DefAt K mg "_law_of" sOf ["bag", "some"]) (lp : DefAt K mg "_law_pick" sPick ["bag", "some", "many"]) (l4 : DefAt K mg "_law_letters" sLetters []) (l5 : DefAt K mg "_law_reserved" sReserved []) (l6 : DefAt K mg "_law_names" sWords ["bag", "many"]) (l7 : DefAt K mg "_law_expr" sExpr ["bag", "words", "deep"]) (l8 : DefAt K mg "_law_free_row" sFree ["bag", "words", "allowed"]) (l9 : DefAt K mg "_law_free_body" sBody ["bag", "words", "allowed", "left", "ifs"]) (la : DefAt K mg "_law_made" sMade ["name", "params", "body", "grade", "duty"]) (lq : DefAt K mg "_law_parts" sParts ["method"]) (ld : DefAt K mg "_law_draw" sDraw ["bag", "words"]) (lr : DefAt K mg "_law_right" sRight ["bag"])
    {f4 : Addr} {oc4 : Value} {od4 an4 : Option Addr} {sl4 : Array (Option Value)} {kV4 dc4 pm4 cd4 ct4 : Value}
    (a4 : PySem.W.nsIn K mainGlobals "law" = some (some (.ref f4))) (m4 : K.lookup f4 = some ⟨oc4, od4, .func (PySem.W.fnOf "law" "law" (defArgs sLaw) (defBody sLaw) (defScope sLaw) .none kV4 dc4 pm4 an4 cd4 ct4), sl4⟩) (c4 : PySem.W.codeIn K cd4 "law" = true) (k4 : PySem.W.keepIn K (.ref f4) = true) :
    ∃ fd : FuncData, (∀ (s : Shared) (u : Value), BindsTo s fd ⟨[u], []⟩ [("script", u)]) ∧ ∀ base : Heap, K.In base → base.Ns mainGlobals mg → FnOk P w K mg base CX0 17 fa fd ["script"] (spLaw K) := by
  have e := hfa.symm.trans (PySem.W.mg_of X G a4)
  cases e
  have tb : TB mg := ⟨T.int, T.len, habs⟩
  have tl : TL mg := { toTB := tb, range := T.range, max := hmax, min := hmin }
  refine ⟨PySem.W.fnOf "law" "law" (defArgs sLaw) (defBody sLaw) (defScope sLaw) .none kV4 dc4 pm4 an4 cd4 ct4, fun s u => .of_eq rfl, fun base _ _ => ?_⟩
  have cT := cl_take (P := P) (w := w) (base := base) l2 tb
  have cO := cl_of l3 tb cT
  have cN := cl_words l6 T.range cT (cl_letters l4) (cl_reserved l5)
  have cP := cl_picked lp T.range hmin T.list tb cT
  have cX := cl_exprL l7 T.toTw cT cO 3 (by omega)
  have cR := cl_freeRow l8 T.toTw cT cO cX
  have cB := cl_body l9 T.range cT cO cX cR 4 (by omega)
  have cD := cl_draw ld T.toTw cT cO cP cB
  have cS := cl_isSpelled (P := P) (w := w) (base := base) dS T.toTw
  have cW := cl_isWord dW T.toTw cS
  have cC := cl_isConst dC T.toTw cS
  have cI := cl_isInt (P := P) (w := w) (base := base) dI T.toTw
  have cV := cl_isLevel dL T.toTw cI
  have cUC := cl_useC dUC T.toTw cC
  have cUF := cl_useF dUF T.toTw cW
  have cE := cl_expr dE T.toTw cW cUF cUC 3
  have cTe := cl_test dT T.toTf cE.1
  have cIf := cl_if dIf T.toTf cTe
  have cSu := cl_super dSu T.toTf cW cE.2
  have cRow := cl_isRow dR T.toTf cW cE.2 cIf cSu
  have cF := cl_firstWrong dF T.toTf cRow
  have cK := cl_checkRows dK T.toTf cF
  have cRo := cl_isRole (P := P) (w := w) (base := base) dO
  have FI := fn_init (P := P) (w := w) (base := base) lk hcd T.toTM cW cV cRo cK
  have FP := fn_plain (P := P) (w := w) (base := base) lk hcd d1 d2 d3 T.toTM cW cV cRo cK
  have cM := cl_made la T.len T.gC M FI
  have cPa := cl_parts (P := P) (w := w) (base := base) lq T
  have F1 : FnOk P w K mg base CX0 1 f1 fd1 ["self", "other"] (spEqM K C) := ok_eq FE T
  exact ok_law (k := 15) (fun_mk (st := sLaw) m4 c4 k4) tl (cl_bag l1 tb) (cl_right lr T cT cN cD cM cPa M FP hR0 F1 hs hf (hb1 FE) n1 n2 N)
end My
namespace My
open PySem PySem.Spec PyProof.Rows L2
theorem walk {l : PySem.W.OpenLaw} {q : Program} {loose : List Str} {XP : (Str → Option Value) → Heap → Prop} {YP : World → Heap → Prop} {d : DefRec} {K : Params → PySem.W.Frag} (hn : l.most = some 63) (hdf : d.params.defaults = [])
    (hY : ∀ (w : World) (h : Heap), YP w h → (K w.params).In h)
    (F : ∀ (w : World) (mg : Str → Option Value) (fa : Addr) (h : Heap), (K w.params).In h → h.Ns mainGlobals mg → mg d.name = some (.ref fa) →
      ∃ fd : FuncData, (∀ (s : Shared) (u : Value), BindsTo s fd ⟨[u], []⟩ [("script", u)]) ∧ ∀ base : Heap, (K w.params).In base → base.Ns mainGlobals mg → FnOk l.prog w (K w.params) mg base CX0 17 fa fd ["script"] (spLaw (K w.params))) :
    PySem.W.WalkO q loose XP YP l.row.toRowW d [] (fun f vs => PySem.call f vs) :=
  L2.walk_of (n := 63) (k := 17) (x := "script") (CX := fun _ => CX0) (sp := fun w => spLaw (K w.params)) hn (by decide) hdf ⟨rfl, by decide, by decide⟩ hY F (fun _ _ a ns hl _ hS => ⟨a, ns, rfl, hS, hl, fun _ => rfl⟩) fun _ _ _ _ _ z => z
end My
open PySem PySem.W PyProof.Rows
set_option maxRecDepth 100000 in
set_option maxHeartbeats 0 in
theorem PySem.Challenge.cw_carriedfields_k01_methods_made_holds : PySem.Challenge.rw_carriedfields_k01_methods_made.Holds := by
  w_on; o_law; k_head; (case hw => w_witness2)
  k_fill
  refine My.walk (l := PySem.Challenge.rw_carriedfields_k01_methods_made) rfl rfl (fun w h Y => PySem.W.kIn_of Y) ?F
  case F =>
    intro w mg fa h KX G hmg
    have dI := My.def_mk KX G (x := "is_integer") (st := My.top 11) (ps := ["value"]) (by k_is) (by k_is) (by k_is) (by k_is) (fun F => F.binds fun _ _ _ _ _ _ us hl => match us, hl with | [_], _ => rfl)
    have dL := My.def_mk KX G (x := "is_level") (st := My.top 12) (ps := ["value"]) (by k_is) (by k_is) (by k_is) (by k_is) (fun F => F.binds fun _ _ _ _ _ _ us hl => match us, hl with | [_], _ => rfl)
    have dS := My.def_mk KX G (x := "is_spelled") (st := My.top 13) (ps := ["value", "letters"]) (by k_is) (by k_is) (by k_is) (by k_is) (fun F => F.binds fun _ _ _ _ _ _ us hl => match us, hl with | [_, _], _ => rfl)
    have dW := My.def_mk KX G (x := "is_word") (st := My.top 14) (ps := ["value"]) (by k_is) (by k_is) (by k_is) (by k_is) (fun F => F.binds fun _ _ _ _ _ _ us hl => match us, hl with | [_], _ => rfl)
    have dC := My.def_mk KX G (x := "is_constant") (st := My.top 15) (ps := ["value"]) (by k_is) (by k_is) (by k_is) (by k_is) (fun F => F.binds fun _ _ _ _ _ _ us hl => match us, hl with | [_], _ => rfl)
    have dUC := My.def_mk KX G (x := "is_use_of_constant") (st := My.top 22) (ps := ["value"]) (by k_is) (by k_is) (by k_is) (by k_is) (fun F => F.binds fun _ _ _ _ _ _ us hl => match us, hl with | [_], _ => rfl)
    have dUF := My.def_mk KX G (x := "is_use_of_field") (st := My.top 23) (ps := ["value"]) (by k_is) (by k_is) (by k_is) (by k_is) (fun F => F.binds fun _ _ _ _ _ _ us hl => match us, hl with | [_], _ => rfl)
    have dIf := My.def_mk KX G (x := "is_if") (st := My.top 26) (ps := ["row"]) (by k_is) (by k_is) (by k_is) (by k_is) (fun F => F.binds fun _ _ _ _ _ _ us hl => match us, hl with | [_], _ => rfl)
    have dSu := My.def_mk KX G (x := "is_super") (st := My.top 27) (ps := ["row"]) (by k_is) (by k_is) (by k_is) (by k_is) (fun F => F.binds fun _ _ _ _ _ _ us hl => match us, hl with | [_], _ => rfl)
    have dR := My.def_mk KX G (x := "is_row") (st := My.top 28) (ps := ["row", "heads"]) (by k_is) (by k_is) (by k_is) (by k_is) (fun F => F.binds fun _ _ _ _ _ _ us hl => match us, hl with | [_, _], _ => rfl)
    have dF := My.def_mk KX G (x := "first_wrong_row") (st := My.top 29) (ps := ["rows", "heads"]) (by k_is) (by k_is) (by k_is) (by k_is) (fun F => F.binds fun _ _ _ _ _ _ us hl => match us, hl with | [_, _], _ => rfl)
    have dK := My.def_mk KX G (x := "check_rows") (st := My.top 30) (ps := ["rows", "heads"]) (by k_is) (by k_is) (by k_is) (by k_is) (fun F => F.binds fun _ _ _ _ _ _ us hl => match us, hl with | [_, _], _ => rfl)
    have dO := My.def_mk KX G (x := "is_role") (st := My.top 33) (ps := ["value"]) (by k_is) (by k_is) (by k_is) (by k_is) (fun F => F.binds fun _ _ _ _ _ _ us hl => match us, hl with | [_], _ => rfl)
    have l1 := My.def_mk KX G (x := "_law_bag") (st := My.top 36) (ps := ["script", "at"]) (by k_is) (by k_is) (by k_is) (by k_is) (fun F => F.binds fun _ _ _ _ _ _ us hl => match us, hl with | [_, _], _ => rfl)
    have l2 := My.def_mk KX G (x := "_law_take") (st := My.top 37) (ps := ["bag", "many"]) (by k_is) (by k_is) (by k_is) (by k_is) (fun F => F.binds fun _ _ _ _ _ _ us hl => match us, hl with | [_, _], _ => rfl)
    have l3 := My.def_mk KX G (x := "_law_of") (st := My.top 38) (ps := ["bag", "some"]) (by k_is) (by k_is) (by k_is) (by k_is) (fun F => F.binds fun _ _ _ _ _ _ us hl => match us, hl with | [_, _], _ => rfl)
    have lp := My.def_mk KX G (x := "_law_pick") (st := My.top 39) (ps := ["bag", "some", "many"]) (by k_is) (by k_is) (by k_is) (by k_is) (fun F => F.binds fun _ _ _ _ _ _ us hl => match us, hl with | [_, _, _], _ => rfl)
    have l4 := My.def_mk KX G (x := "_law_letters") (st := My.top 40) (ps := []) (by k_is) (by k_is) (by k_is) (by k_is) (fun F => F.binds fun _ _ _ _ _ _ us hl => match us, hl with | [], _ => rfl)
    have l5 := My.def_mk KX G (x := "_law_reserved") (st := My.top 41) (ps := []) (by k_is) (by k_is) (by k_is) (by k_is) (fun F => F.binds fun _ _ _ _ _ _ us hl => match us, hl with | [], _ => rfl)
    have l6 := My.def_mk KX G (x := "_law_names") (st := My.top 42) (ps := ["bag", "many"]) (by k_is) (by k_is) (by k_is) (by k_is) (fun F => F.binds fun _ _ _ _ _ _ us hl => match us, hl with | [_, _], _ => rfl)
    have l7 := My.def_mk KX G (x := "_law_expr") (st := My.top 43) (ps := ["bag", "words", "deep"]) (by k_is) (by k_is) (by k_is) (by k_is) (fun F => F.binds fun _ _ _ _ _ _ us hl => match us, hl with | [_, _, _], _ => rfl)
    have l8 := My.def_mk KX G (x := "_law_free_row") (st := My.top 44) (ps := ["bag", "words", "allowed"]) (by k_is) (by k_is) (by k_is) (by k_is) (fun F => F.binds fun _ _ _ _ _ _ us hl => match us, hl with | [_, _, _], _ => rfl)
    have l9 := My.def_mk KX G (x := "_law_free_body") (st := My.top 45) (ps := ["bag", "words", "allowed", "left", "ifs"]) (by k_is) (by k_is) (by k_is) (by k_is) (fun F => F.binds fun _ _ _ _ _ _ us hl => match us, hl with | [_, _, _, _, _], _ => rfl)
    have la := My.def_mk KX G (x := "_law_made") (st := My.top 46) (ps := ["name", "params", "body", "grade", "duty"]) (by k_is) (by k_is) (by k_is) (by k_is) (fun F => F.binds fun _ _ _ _ _ _ us hl => match us, hl with | [_, _, _, _, _], _ => rfl)
    have lq := My.def_mk KX G (x := "_law_parts") (st := My.top 47) (ps := ["method"]) (by k_is) (by k_is) (by k_is) (by k_is) (fun F => F.binds fun _ _ _ _ _ _ us hl => match us, hl with | [_], _ => rfl)
    have ld := My.def_mk KX G (x := "_law_draw") (st := My.top 48) (ps := ["bag", "words"]) (by k_is) (by k_is) (by k_is) (by k_is) (fun F => F.binds fun _ _ _ _ _ _ us hl => match us, hl with | [_, _], _ => rfl)
    have lr := My.def_mk KX G (x := "_law_right") (st := My.top 49) (ps := ["bag"]) (by k_is) (by k_is) (by k_is) (by k_is) (fun F => F.binds fun _ _ _ _ _ _ us hl => match us, hl with | [_], _ => rfl)
    have dE := My.expr_mk KX G (by k_is) (by k_is) (by k_is) (by k_is) (by k_is)
    have dT := My.test_mk KX G (by k_is) (by k_is) (by k_is) (by k_is) (by k_is)
    have TW := My.tw_mk (mg := mg) KX { isi := (PySem.W.mg_none_of (n := "isinstance") KX G (by k_is)), int := (PySem.W.mg_none_of (n := "int") KX G (by k_is)), str := (PySem.W.mg_none_of (n := "str") KX G (by k_is)), bool := (PySem.W.mg_none_of (n := "bool") KX G (by k_is)), len := (PySem.W.mg_none_of (n := "len") KX G (by k_is)), all := (PySem.W.mg_none_of (n := "all") KX G (by k_is)), tuple := (PySem.W.mg_none_of (n := "tuple") KX G (by k_is)), range := (PySem.W.mg_none_of (n := "range") KX G (by k_is)), list := (PySem.W.mg_none_of (n := "list") KX G (by k_is)), reversed := (PySem.W.mg_none_of (n := "reversed") KX G (by k_is)), enum := (PySem.W.mg_none_of (n := "enumerate") KX G (by k_is)), small := ⟨_, PySem.W.mg_of (n := "SMALL") KX G (by k_is)⟩, capital := ⟨_, PySem.W.mg_of (n := "CAPITAL") KX G (by k_is)⟩, longest := ⟨_, PySem.W.mg_of (n := "LONGEST") KX G (by k_is)⟩, highest := ⟨_, PySem.W.mg_of (n := "HIGHEST_LEVEL") KX G (by k_is)⟩, res := ⟨_, PySem.W.mg_of (n := "RESERVED") KX G (by k_is), My.sq_mk (by k_is) (by repeat (first | exact .nil | refine .cons ⟨_, rfl⟩ ?_)) (by decide)⟩ }
    have TF := My.tf_mk (mg := mg) { toTw := TW, rows := ⟨_, PySem.W.mg_of (n := "MOST_ROWS") KX G (by k_is)⟩, ifs := ⟨_, PySem.W.mg_of (n := "MOST_IFS") KX G (by k_is)⟩, signs := ⟨_, PySem.W.mg_of (n := "SIGNS") KX G (by k_is), My.sq_mk (by k_is) (by repeat (first | exact .nil | refine .cons ⟨_, rfl⟩ ?_)) (by decide)⟩, heads := ⟨_, PySem.W.mg_of (n := "METHOD_HEADS") KX G (by k_is), My.sq_mk (by k_is) (by repeat (first | exact .nil | refine .cons ⟨_, rfl⟩ ?_)) (by decide)⟩ }
    refine' My.end_mk KX G hmg ?zzT (PySem.W.mg_none_of (n := "max") KX G (by k_is)) (PySem.W.mg_none_of (n := "min") KX G (by k_is)) (PySem.W.mg_none_of (n := "abs") KX G (by k_is)) ?zzM ?zzlk ?zzhcd ?zzd1 ?zzd2 ?zzd3 ?zzR0 ?zzFE ?zzhs ?zzhf ?zzhb ?zzn1 ?zzn2 ?zzN dE dT dI dL dS dW dC dUC dUF dIf dSu dR dF dK dO l1 l2 l3 lp l4 l5 l6 l7 l8 l9 la lq ld lr ?zza4 ?zzm4 ?zzc4 ?zzk4
    (case zzT => exact { toTf := TF, params := ⟨_, PySem.W.mg_of (n := "MOST_PARAMS") KX G (by k_is)⟩, gC := PySem.W.mg_of (n := "Method") KX G (by k_is), cls := ⟨by k_is, by k_is, by k_is, by k_is⟩, n1 := My.na (by k_is), n2 := My.na (by k_is), n3 := My.na (by k_is), n4 := My.na (by k_is), n5 := My.na (by k_is), ha := by k_is, hn := by k_is, htk := by k_is, hm := by k_is, cc := by kernel_rfl, tt := by kernel_rfl })
    (case zzM => exact ⟨by k_is, by k_is, by k_is, by k_is⟩)
    (case zzlk => k_is); (case zzhcd => k_is); (case zzd1 => k_is); (case zzd2 => k_is); (case zzd3 => k_is)
    (case zzR0 => exact My.r0_mk (by k_is))
    (case zzhs => k_is)
    (case zzhf => k_is)
    (case zzFE => exact L2.fun_mk (by k_is) (by k_is) (by k_is))
    (case zzhb => exact fun F => F.binds fun _ _ _ _ _ _ us hl => match us, hl with | [_, _], _ => rfl)
    (case zzn1 => kernel_rfl)
    (case zzn2 => kernel_rfl)
    (case zzN => exact My.nec_mk (by k_is) (by k_is) (by k_is) (by kernel_rfl) (by kernel_rfl) (by kernel_rfl))
    (case zza4 => k_is); (case zzm4 => k_is); (case zzc4 => k_is); (case zzk4 => k_is)
