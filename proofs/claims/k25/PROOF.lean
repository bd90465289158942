import PyProof.Rows.All
import Wide.All
import OpenK.AllK
import Wide.FinOn
import HandS.ForExc
import HandS.Wide
import HandS.TryMany
import HandS.HotCalls
import HandS.Comp
import HandS.Codes
import HandS.ExcSuper
import HandS.ExcInit
import KE.KExcSuper
import KE.KExcIs
import HandS.ExcCtx
import HandS.FStr
import HandS.FStrTup
import KE.GoesComp
import HandS.Hot
import KE.RegKSuper
import PySem.Challenge.RW_carriedfields_k25_error_classes
set_option Elab.async false
set_option linter.all false
set_option maxRecDepth 100000
set_option maxHeartbeats 4000000
namespace My
open PySem L2
def top (i : Nat) : Stmt := PySem.Challenge.pw_carriedfields_k25_error_classes.main.body.getD i (.Pass ⟨0, 0, 0, 0⟩)
abbrev sBag : Stmt := top 25
abbrev sTake : Stmt := top 26
abbrev sOf : Stmt := top 27
/-- the greatest second part of a bag, and one more -/
def bagLim : Int := 11529215046069000000
/-- the list of a bag from which n numbers were drawn at most -/
def BagL (n : Nat) (xs : List V) : Prop := ∃ d m c : Int, xs = [.int d, .int m, .int c] ∧ 0 ≤ d ∧ 0 ≤ m ∧ m < 11529215046069900000 ∧ 0 ≤ c ∧ c ≤ n
def spTake : Sp := fun vs H Q _ => ∃ (b : Addr) (many : Int) (n : Nat) (xs : List V), vs = [.ref b, .int many] ∧ H b = some (.lst xs) ∧ BagL n xs ∧ n < 1000000 ∧ 0 < many ∧ many < 2 ^ 4000 ∧
  ∀ (r : Int) (ys : List V), 0 ≤ r → r < many → BagL (n + 1) ys → Q (.int r) (upd H b (.lst ys))
structure TB (mg : Str → Option Value) : Prop where
  int : mg "int" = none
  len : mg "len" = none
  abs : mg "abs" = none
/-- a def of the module under its name, and its promise -/
structure Cl (P : Program) (w : World) (K : PySem.W.Frag) (mg : Str → Option Value) (base : Heap) (CX : CXT) (k : Nat) (x : Str) (sp : Sp) : Prop where
  ex : ∃ (f : Addr) (fd : FuncData) (ps : List Str), FnOk P w K mg base CX k f fd ps sp ∧ mg x = some (.ref f) ∧ PySem.W.keepIn K (.ref f) = true ∧ Binds K fd ps []
/-- what the top has written of a def -/
structure DefAt (K : PySem.W.Frag) (mg : Str → Option Value) (x : Str) (st : Stmt) (ps : List Str) : Prop where
  ex : ∃ (f : Addr) (fd : FuncData), Fun K x x st f fd ∧ mg x = some (.ref f) ∧ Binds K fd ps []
section
variable {X : Cx} {CX : CXT} {k j : Nat} {x : Str} {sp : Sp} {p pos : Pos} {e : Expr} {es : List Expr} {t : TA} {E : XK}
theorem pe_cl (c : Cl X.prog X.w X.K X.mg X.base CX k x sp) (hr : Room j X.A) (hx : Passes CX X E) (ha : PA X (e :: es) t) (hk : k ≤ j := by decide) (hg : Gl X x := by rfl)
    (hdb : (x == ("__debug__" : Str)) = false := by decide) (he : starEach (e :: es) X.env = (false, eval e X.env) :: starEach es X.env := by rfl) (hpl : (backTo pos (starEach es X.env)).any (·.1) = false := by rfl) :
    PE X (.Call (.Name x p) (e :: es) [] pos) (tCall sp [] E t) := by
  obtain ⟨f, fd, ps, F, hm, kp, b⟩ := c.ex
  exact pe_call F (hr.mono hk) hg hm kp b .nil hx ha hdb he hpl
end
/-- a sequence to be read, also behind a store to b -/
def SeqB (K : PySem.W.Frag) (H : Hp) (b l : Addr) (ys : List V) : Prop := (SqL K H l ys ∨ SqT K H l ys) ∧ ∀ zs, SqL K (upd H b (.lst zs)) l ys ∨ SqT K (upd H b (.lst zs)) l ys
def spOf (K : PySem.W.Frag) : Sp := fun vs H Q _ => ∃ (b l : Addr) (n : Nat) (xs ys : List V), vs = [.ref b, .ref l] ∧ H b = some (.lst xs) ∧ BagL n xs ∧ n < 1000000 ∧ SeqB K H b l ys ∧ 0 < ys.length ∧ ys.length < 1000000 ∧
  ∀ (i : Nat) (v : V) (zs : List V), ys[i]? = some v → BagL (n + 1) zs → Q v (upd H b (.lst zs))
section
variable {P : Program} {w : World} {K : PySem.W.Frag} {mg : Str → Option Value} {base : Heap}
theorem scTake : FnScope ["bag", "many", "digit", "mixed"] ["bag", "many"] (defScope sTake) := ⟨rfl, rfl, rfl, by decide +kernel, rfl, by decide +kernel, by decide +kernel⟩
theorem ok_take {f : Addr} {fd : FuncData} (F : Fun K "_law_take" "_law_take" sTake f fd) (T : TB mg) : FnOk P w K mg base CX0 1 f fd ["bag", "many"] spTake := by
  refine F.ok scTake (fun vs H Q E h => ?_) (fun cdv A outer s H vs Q E hr h => ?_)
  · obtain ⟨b, many, n, xs, rfl, _⟩ := h
    rfl
  · obtain ⟨b, many, n, xs, rfl, hb, ⟨d, m, c, rfl, hd, hm0, hm, hc0, hc⟩, hn, hm1, hm2, k⟩ := h
    have nd := scTake.nd
    refine ⟨_, pss_cons (ps_if (pt_cmpR op_gt (pe_ix ix_list (pv 0) pe_int (fun _ _ => rfl)) pe_int (nomark _))
        (pss_cons (ps_set (i := 2) nd rfl (.inl rfl) (pe_op op_mod (pe_callTy call_int1 (by rfl) T.int (by decide +kernel) (pa_cons (pe_ix ix_list (pv 0) pe_int (fun _ _ => rfl)) pa_nil)) (pv 1)))
        (pss_cons (ps_asg (pe_op op_fdivW (pe_ix ix_list (pv 0) pe_int (fun _ _ => rfl)) (pv 1)) (pg_sub (pv 0) pe_int set_list) rfl)
        (pss_one (ps_ret (pv 2))))) pss_nil)
      (pss_cons (ps_asg (pe_op op_add (pe_ix ix_list (pv 0) pe_int (fun _ _ => rfl)) pe_int) (pg_sub (pv 0) pe_int set_list) rfl)
      (pss_cons (ps_set (i := 3) nd rfl (.inl rfl) (pe_op op_mod (pe_callTy call_int1 (by rfl) T.int (by decide +kernel) (pa_cons (pe_op op_pow (pe_op op_add (pe_ix ix_list (pv 0) pe_int (fun _ _ => rfl)) (pe_op op_mul pe_int (pe_ix ix_list (pv 0) pe_int (fun _ _ => rfl)))) pe_int) pa_nil)) pe_int))
      (pss_cons (ps_set (i := 3) nd rfl (.inl rfl) (pe_op op_mod (pe_callTy call_int1 (by rfl) T.int (by decide +kernel) (pa_cons (pe_op op_pow (pe_op op_add (pv 3) (pe_op op_mul pe_int (pe_ix ix_list (pv 0) pe_int (fun _ _ => rfl)))) pe_int) pa_nil)) pe_int))
      (pss_one (ps_ret (pe_op op_mod (pe_callTy call_int1 (by rfl) T.int (by decide +kernel) (pa_cons (pe_op op_fdiv (pv 3) pe_int) pa_nil)) (pv 1))))))), ?_⟩
    refine ⟨_, rfl, b, _, 0, _, rfl, rfl, SqL.of hb, rfl, _, _, rfl, rfl, _, rfl, ite2 (fun h => ?_) (fun h => ?_)⟩
    · have hd0 : 0 < d := by simpa using h
      refine ⟨_, rfl, b, _, 0, _, rfl, rfl, SqL.of hb, rfl, .inl ⟨_, rfl, _, rfl, _, _, rfl, rfl, hm1, ?_⟩⟩
      refine ⟨_, rfl, b, _, 0, _, rfl, rfl, SqL.of hb, rfl, _, rfl, _, _, rfl, rfl, wide_div (b := 4000) hm1 (by omega) (by decide) (by decide), ?_⟩
      refine ⟨_, rfl, b, _, 0, 0, rfl, rfl, hb, rfl, ?_⟩
      refine ⟨_, rfl, k _ _ (Int.emod_nonneg _ (by omega)) (Int.emod_lt_of_pos _ hm1) ⟨_, _, _, rfl, Int.ediv_nonneg hd (by omega), hm0, hm, hc0, by omega⟩⟩
    · refine ⟨_, rfl, b, _, 2, _, rfl, rfl, SqL.of hb, rfl, _, _, rfl, rfl, _, rfl, b, _, 2, 2, rfl, rfl, hb, rfl, ?_⟩
      have hb1 : (upd H b (.lst ([V.int d, .int m, .int c].set 2 (.int (c + 1))))) b = some (.lst [V.int d, .int m, .int (c + 1)]) := upd_same
      refine ⟨_, rfl, b, _, 1, _, rfl, rfl, SqL.of hb1, rfl, _, rfl, b, _, 2, _, rfl, rfl, SqL.of hb1, rfl, _, _, rfl, rfl, .inl (by omega), _, _, rfl, rfl, _, _, rfl, rfl, ⟨by decide, by decide, by omega⟩, .inl ⟨_, rfl, _, _, rfl, rfl, (by show (0 : Int) < 2305843009213693921; decide), ?_⟩⟩
      have h1 : 0 ≤ (m + 1000033 * (c + 1)) ^ Int.toNat 3 % 2305843009213693921 := Int.emod_nonneg _ (by decide)
      have h2 : (m + 1000033 * (c + 1)) ^ Int.toNat 3 % 2305843009213693921 < 2305843009213693921 := Int.emod_lt_of_pos _ (by decide)
      generalize (m + 1000033 * (c + 1)) ^ Int.toNat 3 % 2305843009213693921 = z at h1 h2 ⊢
      refine ⟨_, rfl, _, rfl, b, _, 2, _, rfl, rfl, SqL.of hb1, rfl, _, _, rfl, rfl, .inl (by omega), _, _, rfl, rfl, _, _, rfl, rfl, ⟨by decide, by decide, by omega⟩, .inl ⟨_, rfl, _, _, rfl, rfl, (by show (0 : Int) < 2305843009213693951; decide), ?_⟩⟩
      refine ⟨_, rfl, _, _, rfl, rfl, ⟨by decide, by decide⟩, .inl ⟨_, rfl, _, rfl, _, _, rfl, rfl, hm1, ?_⟩⟩
      exact k _ _ (Int.emod_nonneg _ (by omega)) (Int.emod_lt_of_pos _ hm1) ⟨_, _, _, rfl, hd, hm0, hm, by omega, by omega⟩
theorem cl_take (D : DefAt K mg "_law_take" sTake ["bag", "many"]) (T : TB mg) : Cl P w K mg base CX0 1 "_law_take" spTake := by
  obtain ⟨f, fd, F, g, b⟩ := D.ex
  exact ⟨f, fd, _, ok_take F T, g, F.kp, b⟩
theorem scOf : FnScope ["bag", "some"] ["bag", "some"] (defScope sOf) := ⟨rfl, rfl, rfl, by decide +kernel, rfl, by decide +kernel, by decide +kernel⟩
theorem at_nat {xs : List V} {i : Int} (h0 : 0 ≤ i) (h : i < xs.length) : ∃ v, atI xs i = some v ∧ xs[i.toNat]? = some v := by
  obtain ⟨n, rfl⟩ := Int.eq_ofNat_of_zero_le h0
  have hn : n < xs.length := by omega
  have e : xs[n]? = some xs[n] := List.getElem?_eq_getElem hn
  exact ⟨xs[n], atI_nat e, e⟩
theorem cl_of (D : DefAt K mg "_law_of" sOf ["bag", "some"]) (T : TB mg) (c : Cl P w K mg base CX0 1 "_law_take" spTake) : Cl P w K mg base CX0 2 "_law_of" (spOf K) := by
  obtain ⟨f, fd, F, g, b⟩ := D.ex
  refine ⟨f, fd, _, F.ok scOf (fun vs H Q E h => ?_) (fun cdv A outer s H vs Q E hr h => ?_), g, F.kp, b⟩
  · obtain ⟨b, l, n, xs, ys, rfl, _⟩ := h
    rfl
  · obtain ⟨b, l, n, xs, ys, rfl, hb, hB, hn, hS, h0, h1, k⟩ := h
    refine ⟨_, pss_one (ps_ret (pe_ix ix_seq (pv 1) (pe_cl c hr pass0 (pa_cons (pv 0) (pa_cons (pe_callB call_len_seq (by rfl) T.len PySem.boot_len (pa_cons (pv 1) pa_nil)) pa_nil))) (fun _ _ => rfl))), ?_⟩
    refine ⟨_, rfl, _, rfl, _, rfl, l, ys, rfl, hS.1, b, _, n, xs, rfl, hb, hB, hn, by omega, ?_, fun r zs h2 h3 hZ => ?_⟩
    · exact Int.lt_of_lt_of_le (show (ys.length : Int) < 1000000 by omega) (by decide +kernel)
    · obtain ⟨v, e1, e2⟩ := at_nat h2 h3
      rcases hS.2 zs with q | q
      · exact .inl ⟨l, ys, r, v, rfl, rfl, q, e1, k _ _ _ e2 hZ⟩
      · exact .inr (.inl ⟨l, ys, r, v, rfl, rfl, q, e1, k _ _ _ e2 hZ⟩)
end
end My
namespace My
open PySem L2
abbrev sLaw : Stmt := top 35
def spBag (K : PySem.W.Frag) : Sp := fun vs H Q _ => ∃ (a : Addr) (ns : List Int) (at' : Int), vs = [.ref a, .int at'] ∧ SqL K H a (ns.map V.int) ∧ 0 ≤ at' ∧ at' < 63 ∧ ∀ p xs, H p = none → BagL 0 xs → Q (.ref p) (upd H p (.lst xs))
/-- all but what stands at b is as it was -/
def But (b : Addr) (H H' : Hp) : Prop := ∀ c o, c ≠ b → H c = some o → H' c = some o
def spRight : Sp := fun vs H Q _ => ∃ (b : Addr) (xs : List V), vs = [.ref b] ∧ H b = some (.lst xs) ∧ BagL 0 xs ∧ ∀ H', But b H H' → Q (.bl true) H'
def spLaw (K : PySem.W.Frag) : Sp := fun vs H Q _ => ∃ (a : Addr) (ns : List Int), vs = [.ref a] ∧ SqL K H a (ns.map V.int) ∧ ns.length ≤ 63 ∧ ∀ H', Q (.bl true) H'
structure TL (mg : Str → Option Value) : Prop extends TB mg where
  range : mg "range" = none
  max : mg "max" = none
  min : mg "min" = none
section
variable {P : Program} {w : World} {K : PySem.W.Frag} {mg : Str → Option Value} {base : Heap}
theorem scBag : FnScope ["script", "at", "cell", "digits"] ["script", "at"] (defScope sBag) := ⟨rfl, rfl, rfl, by decide +kernel, rfl, by decide +kernel, by decide +kernel⟩
theorem cl_bag (D : DefAt K mg "_law_bag" sBag ["script", "at"]) (T : TB mg) : Cl P w K mg base CX0 1 "_law_bag" (spBag K) := by
  obtain ⟨f, fd, F, g, b⟩ := D.ex
  refine ⟨f, fd, _, F.ok scBag (fun vs H Q E h => ?_) (fun cdv A outer s H vs Q E hr h => ?_), g, F.kp, b⟩
  · obtain ⟨a, ns, at', rfl, _⟩ := h
    rfl
  · obtain ⟨a, ns, at', rfl, hS, h0, h1, k⟩ := h
    have nd := scBag.nd
    refine ⟨_, C8.pss_cut (ps_set (i := 2) nd rfl (.inl rfl) (pe_ifExp (pt_cmpR op_lt (pv 1) (pe_callB call_len_seq (by rfl) T.len PySem.boot_len (pa_cons (pv 0) pa_nil)) (nomark _)) (pe_ix ix_list (pv 0) (pv 1) (fun _ _ => rfl)) pe_int))
      (C8.pss_cut (ps_set (i := 3) nd rfl (.inl rfl) (pe_ifExp (pt_cmpR op_ge (pe_callB call_abs (by rfl) T.abs (by decide +kernel) (pa_cons (pv 2) pa_nil)) (pe_op op_pow pe_int pe_int) (nomark _)) (pe_callB call_abs (by rfl) T.abs (by decide +kernel) (pa_cons (pv 2) pa_nil)) pe_int))
      (pss_one (ps_ret (pe_lst (pa_cons (pv 3) (pa_cons (pe_op op_add (pe_op op_add (pe_op op_mul (pe_op op_mod (pe_callTy call_int1 (by rfl) T.int (by decide +kernel) (pa_cons (pv 2) pa_nil)) pe_int) pe_int) (pe_op op_mul pe_int (pv 1))) pe_int) (pa_cons pe_int pa_nil))))))), ?_⟩
    refine ⟨fun σ' H' => ∃ z : Int, σ' = [some (.ref a), some (.int at'), some (.int z), none] ∧ H = H', ?_, ?_⟩
    · refine ⟨_, rfl, _, rfl, a, _, rfl, .inl hS, _, _, rfl, rfl, _, rfl, ite2 (fun h => ?_) (fun h => ?_)⟩
      · have hl : at' < (ns.map V.int).length := by simpa using h
        obtain ⟨v, e1, e2⟩ := at_nat h0 hl
        rw [List.getElem?_map] at e2
        obtain ⟨z, _, rfl⟩ := Option.map_eq_some_iff.mp e2
        exact ⟨_, rfl, _, rfl, a, _, at', _, rfl, rfl, hS, e1, z, rfl, rfl⟩
      · exact ⟨0, rfl, rfl⟩
    · rintro σ' H' ⟨z, rfl, rfl⟩
      refine ⟨fun σ' H' => ∃ y : Int, 0 ≤ y ∧ σ' = [some (.ref a), some (.int at'), some (.int z), some (.int y)] ∧ H = H', ?_, ?_⟩
      · refine ⟨_, rfl, _, rfl, _, _, rfl, rfl, ⟨by decide, by decide, by decide⟩, _, _, rfl, rfl, _, rfl, ite2 (fun h => ?_) (fun h => ?_)⟩
        · refine ⟨_, rfl, _, rfl, _, ?_, rfl, rfl⟩
          split <;> omega
        · exact ⟨0, Int.le_refl _, rfl, rfl⟩
      · rintro σ' H' ⟨y, hy, rfl, rfl⟩
        have m0 : 0 ≤ z % 2305843009213693951 := Int.emod_nonneg _ (by decide)
        have m1 : z % 2305843009213693951 < 2305843009213693951 := Int.emod_lt_of_pos _ (by decide)
        refine ⟨_, rfl, _, rfl, .inl ⟨_, rfl, _, _, rfl, rfl, (by show (0 : Int) < 2305843009213693951; decide), _, _, rfl, rfl, .inr (by decide), _, rfl, _, _, rfl, rfl, .inl (by decide), _, _, rfl, rfl, _, _, rfl, rfl, (by show 3 ≤ sizeLine; decide), fun p hp => ?_⟩⟩
        exact k _ _ hp ⟨_, _, _, rfl, hy, by omega, by omega, Int.le_refl _, Int.le_refl _⟩
theorem scLaw : FnScope ["script", "at"] ["script"] (defScope sLaw) := ⟨rfl, rfl, rfl, by decide +kernel, rfl, by decide +kernel, by decide +kernel⟩
theorem ok_law {f : Addr} {fd : FuncData} {k : Nat} (F : Fun K "law" "law" sLaw f fd) (T : TL mg) (cB : Cl P w K mg base CX0 1 "_law_bag" (spBag K)) (cR : Cl P w K mg base CX0 (k + 1) "_law_right" spRight) : FnOk P w K mg base CX0 (k + 2) f fd ["script"] (spLaw K) := by
  refine F.ok scLaw (fun vs H Q E h => ?_) (fun cdv A outer s H vs Q E hr h => ?_)
  · obtain ⟨a, ns, rfl, _⟩ := h
    rfl
  · obtain ⟨a, ns, rfl, hS, hlen, kk⟩ := h
    refine ⟨_, pss_cons (ps_for PassesOwn.never rfl (pi_range1 rfl T.range (pa_cons (pe_callB (call_max2 rfl) (by rfl) T.max (by decide +kernel) (pa_cons pe_int (pa_cons (pe_callB (call_min2 rfl) (by rfl) T.min (by decide +kernel) (pa_cons pe_int (pa_cons (pe_callB call_len_seq (by rfl) T.len PySem.boot_len (pa_cons (pv 0) pa_nil)) pa_nil))) pa_nil))) pa_nil))
        (pg_name (i := 1) scLaw.nd rfl (.inl rfl))
        (pss_one (ps_if (pt_not (pt_val (pe_cl cR hr pass0 (pa_cons (pe_cl cB hr pass0 (pa_cons (pv 0) (pa_cons (pv 1) pa_nil)) (by omega)) pa_nil) (by omega)))) (pss_one (ps_ret pe_bl)) pss_nil)))
      (pss_one (ps_ret pe_bl)), ?_⟩
    refine ⟨_, rfl, a, _, rfl, .inl hS, _, _, rfl, _, _, rfl, _, rfl, ?_⟩
    generalize hj : (if (if ((List.map V.int ns).length : Int) < 6 then ((List.map V.int ns).length : Int) else 6) > 1 then if ((List.map V.int ns).length : Int) < 6 then ((List.map V.int ns).length : Int) else 6 else 1) = j
    have j1 : 1 ≤ j := by rw [← hj]; split <;> omega
    have j6 : j ≤ 6 := by rw [← hj]; split <;> split <;> omega
    refine ⟨by omega, by omega, for_range (lo := 0) (n := j.toNat) (fun i σ H2 => ∃ v : Option V, σ = [some (.ref a), v] ∧ SqL K H2 a (ns.map V.int)) ⟨none, rfl, hS⟩ ?_ ?_⟩
    · rintro i σ H2 hi ⟨v, rfl, hS2⟩
      refine ⟨_, rfl, _, rfl, a, ns, _, rfl, hS2, by omega, by omega, fun p xs hp hB => ?_⟩
      refine ⟨p, xs, rfl, upd_same, hB, fun H3 hb => ⟨true, rfl, ?_⟩⟩
      refine iteF ?_
      refine ⟨_, rfl, ?_⟩
      rcases hS2 with (q | ⟨o, q⟩) | q
      · exact .inl (.inl (hb _ _ (ne_of_none q hp) (by rw [upd_ne (ne_of_none q hp)]; exact q)))
      · exact .inl (.inr ⟨o, hb _ _ (ne_of_none q hp) (by rw [upd_ne (ne_of_none q hp)]; exact q)⟩)
      · exact .inr q
    · rintro σ H2 ⟨v, rfl, hS2⟩
      exact kk _
end
end My
namespace Sx
open PySem PySem.W PySem.Calls PyProof.Rows PySem.HandSPX
/-- what the written part says of an own exception class at C whose __init__ (at fI) says super().__init__(..) -/
structure SxC (prog : Program) (K : Frag) (C fI cc cda : Addr) (qual : Str) (params : Arguments) (body : List Stmt) (scope : Scope) : Prop where
  cls : ∃ nm q N bs bm sn sub ab col dd k0 k1 k2 k3 k5, K.lookup C = some (excClassObj nm q C N bs bm true sn sub ab col dd k0 k1 k2 k3 k5 "ValueError.__new__") ∧ refsVE bm = true
  sa : findIn K (.ref C) "__setattr__" = some (some (.builtin "object.__setattr__"))
  iC : findIn K (.ref C) "__init__" = some (some (.ref fI))
  tC : typeIn K (.ref fI) = some (.type "function")
  kC : keepIn K (.ref C) = true
  exC : subIn K (.ref C) (.type "BaseException") = some true
  tyC : typeIn K (.ref C) = some (.type "type")
  sup : ks_superIn K C C "__init__" = some (some (.builtin "ValueError.__init__"))
  sV : subIn K (.ref C) (.type "ValueError") = some true
  own : mroIn K C (.ref C) = some true
  cell : ∃ cl cld csl, K.lookup cc = some ⟨cl, cld, .cell (some (.ref C)), csl⟩
  code : ∃ ccl cdd vs ccs file tf, K.lookup cda = some ⟨ccl, cdd, .fields vs, ccs⟩ ∧ vs[2]? = some (.str file tf) ∧ ((prog.main.file : Str) == file) = true
  fn : ∃ oc od osl kV doc pm an ct, K.lookup fI = some ⟨oc, od, .func (ksFn "__init__" qual params body scope .none kV doc pm an (.ref cda) ct cc), osl⟩ ∧ codeIn K (.ref cda) qual = true
  sup0 : nsIn K mainGlobals "super" = some none
  third : nsIn K cStatics "thirdparty.any" = some none
  top : (prog.main.scope.names.lookup ("super" : Str)).isSome = false
/-- the state's own modules -/
structure Gb (mg : Str → Option Value) (h : Heap) : Prop where
  g : h.Ns mainGlobals mg
  b : ∃ mb, h.Ns builtinsNs mb ∧ ∀ x : Str, x ≠ "__name__" → mb x = bootBuiltins x
theorem Gb.keeps {mg : Str → Option Value} {h h' : Heap} (G : Gb mg h) (k : ∀ b o, h.get? b = some o → h'.get? b = some o) : Gb mg h' := by
  obtain ⟨g, mb, b, e⟩ := G
  exact ⟨g.keeps k, mb, b.keeps k, e⟩
section
variable {prog : Program} {w : World} {A : Around} {E : Value → Shared → Prop} {h : Heap} {g : Array GenState} {d : Drawn} {t : Nat} {os : OsState} {K : Frag} {C fI cc cda : Addr} {qual : Str} {params : Arguments} {body : List Stmt} {scope : Scope}
theorem cls_of (T : SxC prog K C fI cc cda qual params body scope) : ∃ cd, clsIn K C = some cd ∧ refsVE cd.mro = true ∧ cd.hasDict = true := by
  obtain ⟨nm, q, N, bs, bm, sn, sub, ab, col, dd, k0, k1, k2, k3, k5, hC, hbm⟩ := T.cls
  refine ⟨_, (by unfold clsIn; rw [hC] <;> rfl : clsIn K C = some { name := nm, bases := bs, mro := .ref C :: bm, ns := N, qualname := q, hasDict := true, slotNames := sn, subclasses := sub, abstract := ab, collection := col, hasDel := false }), ?_, rfl⟩
  exact hbm
/-- super().__init__(..) of an exception, called by its method-wrapper -/
theorem call_mw {nm q : Str} {N : Addr} {bs bm : List Value} {hdct : Bool} {sn : List Str} {sub : List Value} {ab : Bool} {col : Option Bool} {dd : Option Addr} {k0 k1 k2 k3 k5 : Option Value} {u e t0 : Addr} {rest : List Value} {Q : Value → Shared → Prop}
    (hC : h.get? C = some (excClassObj nm q C N bs bm hdct sn sub ab col dd k0 k1 k2 k3 k5 "ValueError.__new__")) (he : h.get? e = some (excO C t0)) (hu : h.get? u = some (kxs_mw "ValueError.__init__" e)) (hrest : rest.length ≤ sizeLine)
    (hq : ∀ h' t1, (∀ b o, b ≠ e → h.get? b = some o → h'.get? b = some o) → h'.get? e = some (excO C t1) → Q .none ⟨h', g, d, t, os⟩) :
    wpAny (model prog w) A (call (.ref u) rest) Q E ⟨h, g, d, t, os⟩ := by
  refine wpAny_call (codeAny_of_tree ?_)
  show wpAny _ A.in1 (callAny (.ref u) ⟨rest, []⟩) _ _ _
  simp only [callAny]
  refine wpAny_bind (wpAny_load hu ?_)
  simp only [kxs_mw, show (Value.type "method-wrapper" == Value.type "method" || Value.type "method-wrapper" == Value.type "builtin_function_or_method" || Value.type "method-wrapper" == Value.type "method-wrapper") = true by decide, if_true]
  refine PySem.W.KFB.if_so (by decide) ?_
  refine wpAny_bind (PySem.ESX.check_bound F.excBase_ValueError hC he rfl ?_)
  refine wpAny_bind (wpAny_pure (wpAny_pure ?_))
  refine ⟨Code.quiet_builtin _ (by decide +kernel), codeAny_builtin F.excBase_ValueError.initEntry ?_⟩
  rw [Around.under_plainId F.excBase_ValueError.init.plain _]
  wp_walk
  refine hq _ h.objs.size (fun b o hb ho => ?_) ?_
  · rw [Heap.get?_update_other _ _ (Ne.symm hb)]
    exact Heap.get?_push_of_some _ ho
  · rw [Heap.get?_update_self _ (Heap.get?_push_of_some _ he) rfl]
    rfl
end
end Sx
namespace Sx
open PySem PySem.W PySem.Calls PyProof.Rows PySem.HandSPX
section
variable {prog : Program} {w : World} {A : Around} {E : Value → Shared → Prop} {s : Shared} {K : Frag} {C fI cc cda : Addr} {qual : Str} {params : Arguments} {body : List Stmt} {scope : Scope} {mg : Str → Option Value}
theorem sx_super (T : SxC prog K C fI cc cda qual params body scope) {body0 : List Stmt} {L x t0 : Addr} {m : Str → Option Value} {msg : Expr} {p0 p1 p2 p3 p4 : Pos} {Q : Flow → Shared → Prop} {ar : Arg}
    (X : K.In s.heap) (G : Gb mg s.heap) (hn : s.heap.Ns L m) (hv : m ar.arg = some (.ref x)) (hx : s.heap.get? x = some (excO C t0)) (hp : (params.posonlyargs ++ params.args).head? = some ar)
    (hks : scope.names.lookup ("super" : Str) = some .globalImplicit) (hkc : scope.names.lookup ("__class__" : Str) = some .free) (hka : scope.names.lookup ar.arg = some .local) (hk : scope.kind = .function)
    (hmsg : ∀ (s' : Shared) (Q' : Value → Shared → Prop), (∀ b o, s.heap.get? b = some o → s'.heap.get? b = some o) → (∀ u tk, Q' u { s' with toks := tk }) → wpAny (model prog w) A (eval msg (ksEnv qual scope L fI (.ref cda) cc)) Q' E s')
    (hq : ∀ h' tk t1, (∀ b o, b ≠ x → s.heap.get? b = some o → h'.get? b = some o) → h'.get? x = some (excO C t1) → Q .next { s with heap := h', toks := tk })
    (hin : interactive (ksEnv qual scope L fI (.ref cda) cc) = false)
    (he : starEach [msg] (ksEnv qual scope L fI (.ref cda) cc) = [(false, eval msg (ksEnv qual scope L fI (.ref cda) cc))] := by rfl)
    (hsw : swapsWith (.Call (.Attribute (.Call (.Name "super" p0) [] [] p1) "__init__" p2) [msg] [] p3) none p4.line (ksEnv qual scope L fI (.ref cda) cc) = pure false := by rfl)
    (hev : eval (.Call (.Attribute (.Call (.Name "super" p0) [] [] p1) "__init__" p2) [msg] [] p3) (ksEnv qual scope L fI (.ref cda) cc) = (do
      let ov ← attributeBase (.Call (.Name "super" p0) [] [] p1) "__init__" (ksEnv qual scope L fI (.ref cda) cc) (eval (.Call (.Name "super" p0) [] [] p1) (ksEnv qual scope L fI (.ref cda) cc))
      standAt p2.atName
      let (f, first) ← holding [ov] (getMethod ov "__init__" (pure false))
      callWith p3 f first (backTo p3 (starEach [msg] (ksEnv qual scope L fI (.ref cda) cc))) []) := by rfl) :
    _root_.PySem.wpAt (model prog w) A (.func body0 (ksEnv qual scope L fI (.ref cda) cc)) (exec (.Expr (.Call (.Attribute (.Call (.Name "super" p0) [] [] p1) "__init__" p2) [msg] [] p3) p4) (ksEnv qual scope L fI (.ref cda) cc)) Q E s := by
  obtain ⟨nm, q, N, bs, bm, sn, sub, ab, col, dd, k0, k1, k2, k3, k5, hC, hbm⟩ := T.cls
  obtain ⟨cl, cld, csl, hcell⟩ := T.cell
  obtain ⟨ccl, cdd, vs, ccs, file, tf, hcode, hvs, hfile⟩ := T.code
  obtain ⟨oc, od, osl, kV, doc, pm, an, ct, hfn, _⟩ := T.fn
  obtain ⟨cd, hcd, _, _⟩ := cls_of T
  obtain ⟨hg, mb, hb, hbv⟩ := G
  obtain ⟨hh, g, d, t, os⟩ := s
  refine ks_wpAt_Expr_any (ks_wpAt_MethodCall (pl := pure false) ?_ hev) hin hsw
  refine ks_wpAt_super_base (env := ksEnv qual scope L fI (.ref cda) cc) hks hkc (by decide) rfl (X _ _ hfn) rfl hp rfl (X _ _ hcode) rfl hvs hfile T.top ?_
  refine ks_loadName_global hk hks (loadGlobal_builtin (env := ksEnv qual scope L fI (.ref cda) cc) hg (mg_none_of X hg T.sup0) hb ((hbv _ (by decide +kernel)).trans (by first | rfl | decide +kernel | kernel_rfl)) ⟨rfl, ?_⟩)
  refine wpAny_loadName_free hk hkc rfl ⟨_, X _ _ hcell, rfl⟩ ?_
  refine wpAny_loadName_local hk hka hn hv ?_
  refine ks_wpAny_isType_cls (X _ _ hC) rfl ⟨rfl, ?_⟩
  refine ks_wpAny_call_super (X _ _ hC) rfl hx rfl (fun c e => nomatch e) (looks_mroIn X T.own) (fun h1 e1 k1' => ?_)
  -- getMethod
  have X1 : K.In h1 := X.keeps k1'
  have I : InstAt hh x (excO C t0) C none := ⟨hx, rfl, rfl, trivial⟩
  have hxC : x ≠ C := ks_ne X I hcd
  have hm : alongIn K "__init__" ((cd.mro.dropWhile (· != .ref C)).drop 1) = some (some (.builtin "ValueError.__init__")) := by
    have z := T.sup
    unfold ks_superIn at z
    rw [hcd] at z
    exact z
  have hI : Looks (model prog w) h1 (isInstance (.ref x) (.type "ValueError")) true := (⟨k1' _ _ hx, rfl, rfl, trivial⟩ : InstAt h1 x (excO C t0) C none).type.andThen (looks_subIn X1 T.sV)
  refine kxs_getMethod kxs_ValueError e1 (looks_opaque X1 T.third) (l₀ := cd.mro) (fun A Q E s k q => wpAny_bind ((looks_clsIn X1 hcd) A _ E s k (wpAny_pure q))) rfl X1 hm hI hxC (by decide) ?_
  -- the call
  rw [he]
  refine kxs_callWith (i := "ValueError.__init__") (x := x) rfl (evalArgs_plain ?_)
  refine spliced_cons ?_
  have k2' : ∀ b o, hh.get? b = some o → (h1.push (kxs_mw "ValueError.__init__" x)).get? b = some o := fun b o e => Heap.get?_push_of_some _ (k1' b o e)
  refine hmsg _ _ k2' fun u tk => spliced_nil ?_
  refine ⟨Heap.get?_push_at rfl rfl, ?_⟩
  refine call_mw (rest := [u]) (k2' _ _ (X _ _ hC)) (k2' _ _ hx) (Heap.get?_push_at rfl rfl) (by rw [sizeLine_eq]; exact (by decide : 1 ≤ 16777216)) (fun h' t1 k3' e3 => ?_)
  exact hq h' _ t1 (fun b o hb e => k3' b o hb (k2' b o e)) e3
end
end Sx
namespace Sx
open PySem PySem.W PySem.Calls PyProof.Rows PySem.HandSPX
/-- the message of an __init__ can be made, whatever it is -/
def MsgOk (prog : Program) (w : World) (env : Addr → Env) (msg : Expr) (m : Str → Option Value) (h0 : Heap) : Prop :=
  ∀ (A : Around) (L : Addr) (s' : Shared) (Q' E' : Value → Shared → Prop), A.units + 40 < cLine → s'.heap.Ns L m → (∀ b o, h0.get? b = some o → s'.heap.get? b = some o) → (∀ u tk, Q' u { s' with toks := tk }) → wpAny (model prog w) A (eval msg (env L)) Q' E' s'
theorem kept_but {K : Frag} {h h' : Heap} {x : Addr} (X : K.In h) (hx : K.lookup x = none) (k : ∀ b o, b ≠ x → h.get? b = some o → h'.get? b = some o) : K.In h' := fun a o e =>
  k a o (fun z => by rw [z, hx] at e; cases e) (X a o e)
/-- what __init__ leaves of a fresh exception at x -/
structure InitEnd (h h' : Heap) (x C dx t1 : Addr) (m : Str → Option Value) : Prop where
  keep : ∀ b o, b ≠ x → h.get? b = some o → h'.get? b = some o
  obj : h'.get? x = some { cls := .ref C, dict := some dx, data := .fields #[.ref t1, .none, .none, .none, .bool false, .none] }
  dbig : h.objs.size ≤ dx
  dne : dx ≠ x
  ns : h'.Ns1 dx m
section
variable {prog : Program} {w : World} {A : Around} {R : Result → Shared → Prop} {s : Shared} {K : Frag} {C fI cc cda : Addr} {qual : Str} {params : Arguments} {body : List Stmt} {scope : Scope} {mg : Str → Option Value}
/-- __init__(self, f): super().__init__(msg); self.f = f -/
theorem sx_init1 (T : SxC prog K C fI cc cda qual params body scope) {x t0 : Addr} {v : Value} {msg : Expr} {f : Str} {p0 p1 p2 p3 p4 q1 q2 q3 q4 : Pos} {ar : Arg}
    (X : K.In s.heap) (G : Gb mg s.heap) (hlim : s.heap.NoLimit) (hx : s.heap.get? x = some (excO C t0)) (hnx : K.lookup x = none) (hroom : A.depth < recursionLimit) (hun : A.units + 60 < cLine)
    (hbody : body = [.Expr (.Call (.Attribute (.Call (.Name "super" p0) [] [] p1) "__init__" p2) [msg] [] p3) p4, .Assign [.Attribute (.Name "self" q1) f q2] (.Name f q3) q4])
    (hbind : ∀ (kV doc pm : Value) (an : Option Addr) (ct : Value), bindArgs (ksFn "__init__" qual params body scope .none kV doc pm an (.ref cda) ct cc) ⟨[.ref x, v], []⟩ = pure [(("self" : Str), .ref x), (f, v)])
    (hp : (params.posonlyargs ++ params.args).head? = some ar) (har : ar.arg = "self") (hf : f ≠ "self") (hfd : (f == ("__debug__" : Str)) = false)
    (hks : scope.names.lookup ("super" : Str) = some .globalImplicit) (hkc : scope.names.lookup ("__class__" : Str) = some .free) (hka : scope.names.lookup ("self" : Str) = some .local) (hkf : scope.names.lookup f = some .local) (hk : scope.kind = .function)
    (hcell : ∀ x ∈ scope.names, x.2 ≠ .cell) (hco : scope.isCoroutine = false) (hgen : scope.isGenerator = false)
    (hno : findIn K (.ref C) f = some none)
    (hmsg : MsgOk prog w (fun L => ksEnv qual scope L fI (.ref cda) cc) msg (fun y => ([(("self" : Str), Value.ref x), (f, v)] : List (Str × Value)).reverse.lookup y) s.heap)
    (hin : ∀ L, interactive (ksEnv qual scope L fI (.ref cda) cc) = false)
    (he : ∀ L, starEach [msg] (ksEnv qual scope L fI (.ref cda) cc) = [(false, eval msg (ksEnv qual scope L fI (.ref cda) cc))])
    (hsw : ∀ L, swapsWith (.Call (.Attribute (.Call (.Name "super" p0) [] [] p1) "__init__" p2) [msg] [] p3) none p4.line (ksEnv qual scope L fI (.ref cda) cc) = pure false)
    (hsw2 : ∀ L, swapsWith (.Name f q3) (some (.Attribute (.Name "self" q1) f q2)) q4.line (ksEnv qual scope L fI (.ref cda) cc) = pure false)
    (hev : ∀ L, eval (.Call (.Attribute (.Call (.Name "super" p0) [] [] p1) "__init__" p2) [msg] [] p3) (ksEnv qual scope L fI (.ref cda) cc) = (do
      let ov ← attributeBase (.Call (.Name "super" p0) [] [] p1) "__init__" (ksEnv qual scope L fI (.ref cda) cc) (eval (.Call (.Name "super" p0) [] [] p1) (ksEnv qual scope L fI (.ref cda) cc))
      standAt p2.atName
      let (f, first) ← holding [ov] (getMethod ov "__init__" (pure false))
      callWith p3 f first (backTo p3 (starEach [msg] (ksEnv qual scope L fI (.ref cda) cc))) []))
    (hq : ∀ h' tk dx t1, InitEnd s.heap h' x C dx t1 (fun y => if y = f then some v else none) → R (.ok (.ret .none)) { s with heap := h', toks := tk }) :
    codeAny (model prog w) A (.call (.ref fI) ⟨[.ref x, v], []⟩) R s := by
  obtain ⟨oc, od, osl, kV, doc, pm, an, ct, hfn, hcd⟩ := T.fn
  obtain ⟨cd, hcd1, hcd2, hcd3⟩ := cls_of T
  subst hbody
  refine ks_codeAny_call_defAt (fd := ksFn "__init__" qual params _ scope .none kV doc pm an (.ref cda) ct cc) (binds := [(("self" : Str), .ref x), (f, v)]) hroom (X _ _ hfn) rfl hlim (codeRec_of X hcd) rfl (BindsTo.of_eq (hbind kV doc pm an ct)) hcell ?_ (fun h0 hns hk0 => ?_) hco hgen hk
  · intro y hy
    rcases List.mem_cons.mp hy with rfl | hy
    · exact hka
    · rcases List.mem_cons.mp hy with rfl | hy
      · exact hkf
      · cases hy
  have mself : (([(("self" : Str), Value.ref x), (f, v)] : List (Str × Value)).reverse.lookup ("self" : Str)) = some (.ref x) := by
    have e : (("self" : Str) == f) = false := by simpa using (Ne.symm hf)
    show ([(f, v), (("self" : Str), Value.ref x)] : List (Str × Value)).lookup ("self" : Str) = _
    simp [List.lookup, e]
  have mf : (([(("self" : Str), Value.ref x), (f, v)] : List (Str × Value)).reverse.lookup f) = some v := by
    show ([(f, v), (("self" : Str), Value.ref x)] : List (Str × Value)).lookup f = _
    simp [List.lookup]
  have hL : s.heap.objs.size ≠ x := Nat.ne_of_gt (Heap.lt_size hx)
  have X0 : K.In h0 := X.keeps hk0
  refine ks_wpAt_execs_cons (sx_super (s := { s with heap := h0, toks := s.toks + _ }) T (mg := mg) (ar := ar) X0 (G.keeps hk0) hns (by rw [har]; exact mself) (hk0 _ _ hx) hp hks hkc (by rw [har]; exact hka) hk ?_ (fun h1 tk1 t1 k1 e1 => ?_) (hin _) (he _) (hsw _) (hev _))
  · intro s' Q' k' q'
    refine hmsg _ _ _ _ _ ?_ (hns.keeps k') (fun b o e => k' _ _ (hk0 _ _ e)) q'
    show A.units + 3 + 40 < cLine
    omega
  · refine wpAt_of_wpAny ?_
    have hn1 : h1.Ns s.heap.objs.size (fun y => ([(("self" : Str), Value.ref x), (f, v)] : List (Str × Value)).reverse.lookup y) := hns.at fun o e => k1 _ _ hL e
    refine wpAny_execs_cons (plainObj_wpAny_Assign_Attribute ?_ (hsw2 _))
    refine ESX.ldL (v := v) hn1 mf (ESX.ldL (v := .ref x) hn1 mself ?_ hk hka (by decide)) hk hkf hfd
    have X1 : K.In h1 := kept_but X0 hnx k1
    refine set_plain X1 (ox := excO C t1) (od := none) ⟨e1, rfl, rfl, trivial⟩ T.sa ?_
    refine exc_osa X1 e1 hcd1 hcd2 hcd3 hno (fun h3 tk3 dx k3 dn dne hx3 hn3 => ?_)
    show wpAny _ _ (execs _ _) _ _ _
    have z0 : s.heap.objs.size < h0.objs.size := hns.lt
    have z1 : s.heap.objs.size < h1.objs.size := hn1.lt
    exact wpAny_execs_nil (hq h3 tk3 dx t1 ⟨fun b o hb e => k3 b o hb (k1 b o hb (hk0 b o e)), hx3, Nat.le_of_lt (Nat.lt_of_lt_of_le z1 dn), dne, hn3⟩)
end
end Sx
namespace Sx
open PySem PySem.W PySem.Calls PyProof.Rows PySem.HandSPX
/-- __init__ of a fresh exception, called with these arguments: it leaves the fields m -/
def InitOk (prog : Program) (w : World) (K : Frag) (mg : Str → Option Value) (C fI : Addr) (rest : List Value) (m : Str → Option Value) (h0 : Heap) : Prop :=
  ∀ (A : Around) (R : Result → Shared → Prop) (s : Shared) (x t0 : Addr), K.In s.heap → Gb mg s.heap → s.heap.NoLimit → s.heap.get? x = some (excO C t0) → K.lookup x = none → A.depth < recursionLimit → A.units + 60 < cLine →
    (∀ b o, h0.get? b = some o → s.heap.get? b = some o) → (∀ h' tk dx t1, InitEnd s.heap h' x C dx t1 m → R (.ok (.ret .none)) { s with heap := h', toks := tk }) → codeAny (model prog w) A (.call (.ref fI) ⟨.ref x :: rest, []⟩) R s
/-- a made exception -/
structure OwnMade (h h' : Heap) (e C d : Addr) (m : Str → Option Value) : Prop where
  keep : ∀ b o, h.get? b = some o → h'.get? b = some o
  new : h.objs.size ≤ e
  obj : ∃ oe vs, h'.get? e = some oe ∧ oe.cls = .ref C ∧ oe.dict = some d ∧ oe.data = .fields vs ∧ vs[1]? = some .none ∧ vs[2]? = some .none
  dbig : h.objs.size ≤ d
  dne : d ≠ e
  ns : h'.Ns1 d m
section
variable {prog : Program} {w : World} {A : Around} {R : Result → Shared → Prop} {s : Shared} {K : Frag} {C fI cc cda : Addr} {qual : Str} {params : Arguments} {body : List Stmt} {scope : Scope} {mg : Str → Option Value}
theorem sx_made (T : SxC prog K C fI cc cda qual params body scope) {rest : List Value} {m : Str → Option Value} (I : InitOk prog w K mg C fI rest m s.heap) (X : K.In s.heap) (G : Gb mg s.heap) (hlim : s.heap.NoLimit) (hl : rest.length ≤ sizeLine)
    (hr1 : (A.under (.builtin "type.__call__" ⟨.ref C :: rest, []⟩)).depth < recursionLimit) (hr2 : (A.under (.builtin "type.__call__" ⟨.ref C :: rest, []⟩)).units + 60 < cLine)
    (hq : ∀ h' tk e d, OwnMade s.heap h' e C d m → R (.ok (.ret (.ref e))) { s with heap := h', toks := tk }) :
    codeAny (model prog w) A (.call (.ref C) ⟨rest, []⟩) R s := by
  obtain ⟨nm, q, N, bs, bm, sn, sub, ab, col, dd, k0, k1, k2, k3, k5, hC, hbm⟩ := T.cls
  obtain ⟨hp, g, dr, tk, os⟩ := s
  have k : ∀ b o, hp.get? b = some o → ((hp.push (kdv_tup rest)).push (excO C hp.objs.size)).get? b = some o := fun b o e => Heap.get?_push_of_some _ (Heap.get?_push_of_some _ e)
  have hget : ((hp.push (kdv_tup rest)).push (excO C hp.objs.size)).get? (hp.objs.size + 1) = some (excO C hp.objs.size) := by heap_get
  have hnx : K.lookup (hp.objs.size + 1) = none := by
    cases e : K.lookup (hp.objs.size + 1) with
    | none => rfl
    | some o =>
      have z : hp.get? (hp.objs.size + 1) = some o := X _ _ e
      exact absurd (Nat.lt_of_succ_lt (Heap.lt_size z)) (Nat.lt_irrefl _)
  refine call_own F.excBase_ValueError (fun X => refsVE_contains X bm hbm) (X _ _ hC) (looks_findIn X T.iC) (fun self => bind_fn X self T.tC) hl ?_
  refine I _ _ ⟨(hp.push (kdv_tup rest)).push (excO C hp.objs.size), g, dr, tk, os⟩ _ _ (X.keeps k) (G.keeps k) (hlim.keeps k) hget hnx hr1 hr2 k fun h' tk' dx t1 ⟨k', hx, dn, dne, hns⟩ => ?_
  have old : ∀ b o, hp.get? b = some o → h'.get? b = some o := fun b o e => k' b o (Nat.ne_of_lt (Nat.lt_succ_of_lt (Heap.lt_size e))) (k b o e)
  have z : hp.objs.size + 1 + 1 ≤ dx := by
    first
      | (simpa only [Heap.size_push] using dn)
      | exact dn
      | (have q := dn; rw [Heap.size_push, Heap.size_push] at q; exact q)
  exact ⟨rfl, hq h' tk' (hp.objs.size + 1) dx ⟨old, Nat.le_succ _, ⟨_, _, hx, rfl, rfl, rfl, rfl, rfl⟩, Nat.le_trans (Nat.le_trans (Nat.le_succ _) (Nat.le_succ _)) z, dne, hns⟩⟩
end
end Sx
namespace L2
open PySem PySem.Spec PyProof.Rows Sx
theorem Inv.gb {X : Cx} {pins : List (Addr × Obj)} {σ : St} {H : Hp} {s : Shared} (I : Inv X pins σ H s) : Gb X.mg s.heap := by
  obtain ⟨mb, hb, e⟩ := I.ok.mod.blt
  exact ⟨I.ok.mod.glob.keeps I.bk, mb, hb.keeps I.bk, e⟩
/-- C(..) may be made of such arguments, and then has these fields -/
def MkOk (X : Cx) (C fI : Addr) (P : List V → Hp → Prop) (flds : List V → List (Str × V)) : Prop :=
  ∀ (pins : List (Addr × Obj)) (σ : St) (H : Hp) (s : Shared) (vs : List V) (us : List Value), Inv X pins σ H s → Vals vs us → P vs H → ∃ m, InitOk X.prog X.w X.K X.mg C fI us m s.heap ∧ ∀ f, RelO ((flds vs).lookup f) (m f)
def tMkSx (C : Addr) (P : List V → Hp → Prop) (flds : List V → List (Str × V)) (ta : TA) : St → Hp → XK → Prop := fun σ H Q => ta σ H fun vs H1 => P vs H1 ∧ vs.length ≤ 1000 ∧ ∀ d, H1 d = none → Q (.ref C) (some d) (upd H1 d (.xd (flds vs)))
section
variable {X : Cx} {C fI cc cda : Addr} {qual : Str} {params : Arguments} {body : List Stmt} {scope : Scope}
theorem pmk_sx {x : Str} {P : List V → Hp → Prop} {flds : List V → List (Str × V)} {e : Expr} {es : List Expr} {ta : TA} {p pos : Pos} {k : Nat} (T : SxC X.prog X.K C fI cc cda qual params body scope) (M : MkOk X C fI P flds) (hr : Room (k + 1) X.A) (ha : PA X (e :: es) ta)
    (hm : X.mg x = some (.ref C)) (hg : Gl X x := by rfl) (hdb : (x == ("__debug__" : Str)) = false := by decide)
    (he : starEach (e :: es) X.env = (false, eval e X.env) :: starEach es X.env := by rfl) (hpl : (backTo pos (starEach es X.env)).any (·.1) = false := by rfl) :
    L2N.PMk X (.Call (.Name x p) (e :: es) [] pos) (tMkSx C P flds ta) := by
  intro pins s σ H Q I h
  refine wpAny_Call_Name_kw (ld_glob I hg hm ?_ hdb)
  refine PySem.W.callWith_K (h₀ := X.base) I.ok.mod.kin T.kC (thn (ha.run pos pins s σ H _ I h) fun us s1 hh => ?_) he hpl
  obtain ⟨vs, H1, I1, r1, hP, hlen, q1⟩ := hh
  refine ⟨I1.kIn, ?_⟩
  show wpAny _ _ (call (.ref C) us) _ _ _
  have hlim := I1.nolimit
  obtain ⟨m, hI, hrel⟩ := M pins σ H1 s1 vs us I1 r1 hP
  have hus : us.length ≤ sizeLine := by
    rw [← Paired.length r1, sizeLine_eq]
    omega
  obtain ⟨hp, g, dr, tk, os⟩ := s1
  have hm := hr.make C us []
  refine wpAny_call (sx_made T hI I1.kIn I1.gb hlim hus hm.depth (by have := hm.units; omega) fun h' tk' e d M => ?_)
  show L2N.MkP X pins σ Q (.ref e) ⟨h', g, dr, tk', os⟩
  obtain ⟨oe, fv, hoe, hc, hd, hdat, h1, h2⟩ := M.obj
  have hns := M.ns
  obtain ⟨G', g1, g2⟩ := restrict h' fun b => decide (b ≠ e)
  have gk : ∀ b, b ≠ e → G'.get? b = h'.get? b := fun b hb => g1 b (decide_eq_true hb)
  have ge : G'.get? e = none := g2 e (by simp)
  have old : ∀ b o, hp.get? b = some o → G'.get? b = some o := fun b o q => (gk b (Nat.ne_of_lt (Nat.lt_of_lt_of_le (Heap.lt_size q) M.new))).trans (M.keep b o q)
  have ob : ObjOk X.prog X.w (upd H1 d (.xd (flds vs))) G' d (.xd (flds vs)) := ⟨_, hns.at (fun o q => (gk d M.dne).trans q), hrel⟩
  have J : Inv X pins σ (upd H1 d (.xd (flds vs))) ⟨G', g, dr, tk', os⟩ := I1.laid (t' := tk') old M.dbig ob
  refine ⟨e, oe, fv, ⟨G', g, dr, tk', os⟩, _, .ref C, some d, rfl, J, fun b o q => ?_, ge, hoe, ⟨hc, hd, fun vs' e' => by rw [hdat] at e'; cases e'; exact h2⟩, hdat, h1, ?_, rfl, I1.bare, raises_own T.exC T.tyC, q1 d (I1.hok.fresh M.dbig)⟩
  · by_cases hb : b = e
    · have q' : G'.get? b = some o := q
      rw [hb, ge] at q'; cases q'
    · exact (gk b hb).symm.trans q
  · rw [upd_ne (Ne.symm M.dne)]
    exact I1.hok.fresh M.new
end
end L2
namespace Sx
open PySem PySem.W PySem.Calls PyProof.Rows PySem.HandSPX
/-- a value that can stand in an f-string -/
def FmtOk (prog : Program) (w : World) (v : Value) (h0 : Heap) : Prop := ∀ (A : Around) (s' : Shared) (Q' E' : Value → Shared → Prop), A.units + 40 < cLine → (∀ b o, h0.get? b = some o → s'.heap.get? b = some o) →
  (∀ y u tk, y.length ≤ 3000 → Q' (.str y u) { s' with toks := tk }) → wpAny (model prog w) A (formatField v Str.empty) Q' E' s'
/-- a part of an f-string -/
def PartOk (prog : Program) (w : World) (env : Addr → Env) (m : Str → Option Value) (h0 : Heap) (e : Expr) : Prop :=
  ∀ (A : Around) (L : Addr) (s' : Shared) (Q' E' : Value → Shared → Prop), A.units + 40 < cLine → s'.heap.Ns L m → (∀ b o, h0.get? b = some o → s'.heap.get? b = some o) → (∀ y u tk, y.length ≤ 3000 → Q' (.str y u) { s' with toks := tk }) → wpAny (model prog w) A (eval e (env L)) Q' E' s'
section
variable {prog : Program} {w : World} {env : Addr → Env} {m : Str → Option Value} {h0 : Heap}
theorem part_const {z : Str} {j : Nat} {pos : Pos} (hz : z.length ≤ 3000) : PartOk prog w env m h0 (.Constant (.str z) j pos) := by
  intro A L s' Q' E' _ _ _ q
  exact wpAny_Constant_str (q z _ _ hz)
theorem part_fv {x : Str} {v : Value} {pos p2 : Pos} (hv : m x = some v) (hF : FmtOk prog w v h0) (hk : ∀ L, (env L).scope.kind = .function) (hl : ∀ L, (env L).kindOf x = some .local) (hloc : ∀ L, (env L).locals = L) (hd : (x == ("__debug__" : Str)) = false) :
    PartOk prog w env m h0 (.FormattedValue (.Name x p2) (-1) none pos) := by
  intro A L s' Q' E' hu hn hk0 q
  refine wpAny_FormattedValue_plain (ESX.ldL (m := m) (v := v) (by rw [hloc]; exact hn) hv ?_ (hk L) (hl L) hd)
  exact hF A s' Q' E' hu hk0 q
theorem joins_ok {A : Around} {L : Addr} {E' : Value → Shared → Prop} : ∀ (es : List Expr) (acc : Str) (s' : Shared) (R : Str → Shared → Prop), (∀ e ∈ es, PartOk prog w env m h0 e) → A.units + 40 < cLine → s'.heap.Ns L m → (∀ b o, h0.get? b = some o → s'.heap.get? b = some o) →
    acc.length + 3000 * es.length ≤ sizeLine → (∀ out tk, out.length ≤ sizeLine → R out { s' with toks := tk }) → Joins (model prog w) A E' (evalEach es (env L)) acc R s'
  | [], acc, s', R, _, _, _, _, hz, q => by
    have e0 : evalEach [] (env L) = [] := by first | rfl | simp [evalEach]
    rw [e0]
    exact q acc s'.toks (by omega)
  | e :: es, acc, s', R, hp, hu, hn, hk, hz, q => by
    have e0 : evalEach (e :: es) (env L) = eval e (env L) :: evalEach es (env L) := by first | rfl | simp [evalEach]
    rw [e0]
    rw [List.length_cons] at hz
    refine hp e List.mem_cons_self A L s' _ _ hu hn hk fun y u tk hy => ?_
    have hl : (acc ++ y).length = acc.length + y.length := strLen_append _ _
    exact ⟨y, u, rfl, by omega, joins_ok es (acc ++ y) { s' with toks := tk } R (fun e' h' => hp e' (List.mem_cons_of_mem _ h')) hu hn hk (by omega) fun out tk' ho => q out tk' ho⟩
theorem msg_joined {e1 e2 : Expr} {es : List Expr} {pos : Pos} (hp : ∀ e ∈ e1 :: e2 :: es, PartOk prog w env m h0 e) (hz : es.length ≤ 20) : MsgOk prog w env (.JoinedStr (e1 :: e2 :: es) pos) m h0 := by
  intro A L s' Q' E' hu hn hk q
  refine wpAny_JoinedStr (joins_ok (e1 :: e2 :: es) Str.empty s' _ hp hu hn hk ?_ fun out tk ho => ⟨ho, q _ _⟩)
  rw [sizeLine_eq, List.length_cons, List.length_cons]
  show 0 + _ ≤ _
  omega
theorem msg_const {z : Str} {j : Nat} {pos : Pos} : MsgOk prog w env (.Constant (.str z) j pos) m h0 := by
  intro A L s' Q' E' _ _ _ q
  exact wpAny_Constant_str (q _ _)
theorem fmt_none : FmtOk prog w .none h0 := fun A s' Q' E' _ _ q => wpAny_formatField_none (q _ _ _ (by decide +kernel))
theorem fmt_bool {b : Bool} : FmtOk prog w (.bool b) h0 := fun A s' Q' E' _ _ q => wpAny_formatField_bool (q _ _ _ (by cases b <;> decide +kernel))
theorem fmt_int {i : Int} {t : Tok} (hi : i.natAbs.log2 < 1920) : FmtOk prog w (.int i t) h0 := fun A s' Q' E' _ _ q => wpAny_formatField_int hi (q _ _ _ (by
  have e := int_text_length_le (k := 1920) (by decide) hi
  rw [PySem.ofString_length]; omega))
theorem fmt_str {z : Str} {t : Tok} (hz : z.length ≤ 3000) : FmtOk prog w (.str z t) h0 := fun A s' Q' E' _ _ q => wpAny_formatField_str (q _ _ _ hz) (q _ _ _ hz) (by rw [sizeLine_eq]; omega)
theorem fmt_tup {a : Addr} {o : Obj} {items : Array Value} {n : Nat} {ts : List Str} (ha : h0.get? a = some o) (hc : o.cls = .type "tuple") (hd : o.data = .seq items n) (hT : ReprAll prog w items.toList ts) (hsz : (tupleText ts).length ≤ 2000) : FmtOk prog w (.ref a) h0 := fun A s' Q' E' hu hk q =>
  fmt_tuple (by omega) (hk _ _ ha) hc hd hT (by rw [sizeLine_eq]; omega) fun m u tk hm => q _ _ _ (by omega)
end
end Sx
namespace Sx
open PySem PySem.W PySem.Calls PyProof.Rows PySem.HandSPX
section
variable {prog : Program} {w : World} {A : Around} {R : Result → Shared → Prop} {s : Shared} {K : Frag} {C fI cc cda : Addr} {qual : Str} {params : Arguments} {body : List Stmt} {scope : Scope} {mg : Str → Option Value}
/-- __init__(self): super().__init__(msg) -/
theorem sx_init0 (T : SxC prog K C fI cc cda qual params body scope) {x t0 : Addr} {msg : Expr} {p0 p1 p2 p3 p4 : Pos} {ar : Arg}
    (X : K.In s.heap) (G : Gb mg s.heap) (hlim : s.heap.NoLimit) (hx : s.heap.get? x = some (excO C t0)) (hnx : K.lookup x = none) (hroom : A.depth < recursionLimit) (hun : A.units + 60 < cLine)
    (hbody : body = [.Expr (.Call (.Attribute (.Call (.Name "super" p0) [] [] p1) "__init__" p2) [msg] [] p3) p4])
    (hbind : ∀ (kV doc pm : Value) (an : Option Addr) (ct : Value), bindArgs (ksFn "__init__" qual params body scope .none kV doc pm an (.ref cda) ct cc) ⟨[.ref x], []⟩ = pure [(("self" : Str), .ref x)])
    (hp : (params.posonlyargs ++ params.args).head? = some ar) (har : ar.arg = "self")
    (hks : scope.names.lookup ("super" : Str) = some .globalImplicit) (hkc : scope.names.lookup ("__class__" : Str) = some .free) (hka : scope.names.lookup ("self" : Str) = some .local) (hk : scope.kind = .function)
    (hcell : ∀ x ∈ scope.names, x.2 ≠ .cell) (hco : scope.isCoroutine = false) (hgen : scope.isGenerator = false)
    (hmsg : MsgOk prog w (fun L => ksEnv qual scope L fI (.ref cda) cc) msg (fun y => ([(("self" : Str), Value.ref x)] : List (Str × Value)).reverse.lookup y) s.heap)
    (hin : ∀ L, interactive (ksEnv qual scope L fI (.ref cda) cc) = false)
    (he : ∀ L, starEach [msg] (ksEnv qual scope L fI (.ref cda) cc) = [(false, eval msg (ksEnv qual scope L fI (.ref cda) cc))])
    (hsw : ∀ L, swapsWith (.Call (.Attribute (.Call (.Name "super" p0) [] [] p1) "__init__" p2) [msg] [] p3) none p4.line (ksEnv qual scope L fI (.ref cda) cc) = pure false)
    (hev : ∀ L, eval (.Call (.Attribute (.Call (.Name "super" p0) [] [] p1) "__init__" p2) [msg] [] p3) (ksEnv qual scope L fI (.ref cda) cc) = (do
      let ov ← attributeBase (.Call (.Name "super" p0) [] [] p1) "__init__" (ksEnv qual scope L fI (.ref cda) cc) (eval (.Call (.Name "super" p0) [] [] p1) (ksEnv qual scope L fI (.ref cda) cc))
      standAt p2.atName
      let (f, first) ← holding [ov] (getMethod ov "__init__" (pure false))
      callWith p3 f first (backTo p3 (starEach [msg] (ksEnv qual scope L fI (.ref cda) cc))) []))
    (hq : ∀ h' tk t1, (∀ b o, b ≠ x → s.heap.get? b = some o → h'.get? b = some o) → h'.get? x = some (excO C t1) → R (.ok (.ret .none)) { s with heap := h', toks := tk }) :
    codeAny (model prog w) A (.call (.ref fI) ⟨[.ref x], []⟩) R s := by
  obtain ⟨oc, od, osl, kV, doc, pm, an, ct, hfn, hcd⟩ := T.fn
  obtain ⟨cd, hcd1, hcd2, hcd3⟩ := cls_of T
  subst hbody
  refine ks_codeAny_call_defAt (fd := ksFn "__init__" qual params _ scope .none kV doc pm an (.ref cda) ct cc) (binds := [(("self" : Str), .ref x)]) hroom (X _ _ hfn) rfl hlim (codeRec_of X hcd) rfl (BindsTo.of_eq (hbind kV doc pm an ct)) hcell ?_ (fun h0 hns hk0 => ?_) hco hgen hk
  · intro y hy
    rcases List.mem_cons.mp hy with rfl | hy
    · exact hka
    · cases hy
  have mself : (([(("self" : Str), Value.ref x)] : List (Str × Value)).reverse.lookup ("self" : Str)) = some (.ref x) := by
    show ([(("self" : Str), Value.ref x)] : List (Str × Value)).lookup ("self" : Str) = _
    simp [List.lookup]
  have hL : s.heap.objs.size ≠ x := Nat.ne_of_gt (Heap.lt_size hx)
  have X0 : K.In h0 := X.keeps hk0
  refine ks_wpAt_execs_cons (sx_super (s := { s with heap := h0, toks := s.toks + _ }) T (mg := mg) (ar := ar) X0 (G.keeps hk0) hns (by rw [har]; exact mself) (hk0 _ _ hx) hp hks hkc (by rw [har]; exact hka) hk ?_ (fun h1 tk1 t1 k1 e1 => ?_) (hin _) (he _) (hsw _) (hev _))
  · intro s' Q' k' q'
    refine hmsg _ _ _ _ _ ?_ (hns.keeps k') (fun b o e => k' _ _ (hk0 _ _ e)) q'
    show A.units + 3 + 40 < cLine
    omega
  · refine wpAt_of_wpAny ?_
    exact wpAny_execs_nil (hq h1 tk1 t1 (fun b o hb e => k1 b o hb (hk0 b o e)) e1)
/-- __init__(self, f, g): super().__init__(msg); self.f = f; self.g = g -/
theorem sx_init2 (T : SxC prog K C fI cc cda qual params body scope) {x t0 : Addr} {v v2 : Value} {msg : Expr} {f f2 : Str} {p0 p1 p2 p3 p4 q1 q2 q3 q4 u1 u2 u3 u4 : Pos} {ar : Arg}
    (X : K.In s.heap) (G : Gb mg s.heap) (hlim : s.heap.NoLimit) (hx : s.heap.get? x = some (excO C t0)) (hnx : K.lookup x = none) (hroom : A.depth < recursionLimit) (hun : A.units + 60 < cLine)
    (hbody : body = [.Expr (.Call (.Attribute (.Call (.Name "super" p0) [] [] p1) "__init__" p2) [msg] [] p3) p4, .Assign [.Attribute (.Name "self" q1) f q2] (.Name f q3) q4, .Assign [.Attribute (.Name "self" u1) f2 u2] (.Name f2 u3) u4])
    (hbind : ∀ (kV doc pm : Value) (an : Option Addr) (ct : Value), bindArgs (ksFn "__init__" qual params body scope .none kV doc pm an (.ref cda) ct cc) ⟨[.ref x, v, v2], []⟩ = pure [(("self" : Str), .ref x), (f, v), (f2, v2)])
    (hp : (params.posonlyargs ++ params.args).head? = some ar) (har : ar.arg = "self") (hf : f ≠ "self") (hf2 : f2 ≠ "self") (hff : f ≠ f2) (hfd : (f == ("__debug__" : Str)) = false) (hfd2 : (f2 == ("__debug__" : Str)) = false)
    (hks : scope.names.lookup ("super" : Str) = some .globalImplicit) (hkc : scope.names.lookup ("__class__" : Str) = some .free) (hka : scope.names.lookup ("self" : Str) = some .local) (hkf : scope.names.lookup f = some .local) (hkf2 : scope.names.lookup f2 = some .local) (hk : scope.kind = .function)
    (hcell : ∀ x ∈ scope.names, x.2 ≠ .cell) (hco : scope.isCoroutine = false) (hgen : scope.isGenerator = false)
    (hno : findIn K (.ref C) f = some none) (hno2 : findIn K (.ref C) f2 = some none)
    (hmsg : MsgOk prog w (fun L => ksEnv qual scope L fI (.ref cda) cc) msg (fun y => ([(("self" : Str), Value.ref x), (f, v), (f2, v2)] : List (Str × Value)).reverse.lookup y) s.heap)
    (hin : ∀ L, interactive (ksEnv qual scope L fI (.ref cda) cc) = false)
    (he : ∀ L, starEach [msg] (ksEnv qual scope L fI (.ref cda) cc) = [(false, eval msg (ksEnv qual scope L fI (.ref cda) cc))])
    (hsw : ∀ L, swapsWith (.Call (.Attribute (.Call (.Name "super" p0) [] [] p1) "__init__" p2) [msg] [] p3) none p4.line (ksEnv qual scope L fI (.ref cda) cc) = pure false)
    (hsw2 : ∀ L, swapsWith (.Name f q3) (some (.Attribute (.Name "self" q1) f q2)) q4.line (ksEnv qual scope L fI (.ref cda) cc) = pure false)
    (hsw3 : ∀ L, swapsWith (.Name f2 u3) (some (.Attribute (.Name "self" u1) f2 u2)) u4.line (ksEnv qual scope L fI (.ref cda) cc) = pure false)
    (hev : ∀ L, eval (.Call (.Attribute (.Call (.Name "super" p0) [] [] p1) "__init__" p2) [msg] [] p3) (ksEnv qual scope L fI (.ref cda) cc) = (do
      let ov ← attributeBase (.Call (.Name "super" p0) [] [] p1) "__init__" (ksEnv qual scope L fI (.ref cda) cc) (eval (.Call (.Name "super" p0) [] [] p1) (ksEnv qual scope L fI (.ref cda) cc))
      standAt p2.atName
      let (f, first) ← holding [ov] (getMethod ov "__init__" (pure false))
      callWith p3 f first (backTo p3 (starEach [msg] (ksEnv qual scope L fI (.ref cda) cc))) []))
    (hq : ∀ h' tk dx t1, InitEnd s.heap h' x C dx t1 (fun y => if y = f2 then some v2 else if y = f then some v else none) → R (.ok (.ret .none)) { s with heap := h', toks := tk }) :
    codeAny (model prog w) A (.call (.ref fI) ⟨[.ref x, v, v2], []⟩) R s := by
  obtain ⟨oc, od, osl, kV, doc, pm, an, ct, hfn, hcd⟩ := T.fn
  obtain ⟨cd, hcd1, hcd2, hcd3⟩ := cls_of T
  subst hbody
  refine ks_codeAny_call_defAt (fd := ksFn "__init__" qual params _ scope .none kV doc pm an (.ref cda) ct cc) (binds := [(("self" : Str), .ref x), (f, v), (f2, v2)]) hroom (X _ _ hfn) rfl hlim (codeRec_of X hcd) rfl (BindsTo.of_eq (hbind kV doc pm an ct)) hcell ?_ (fun h0 hns hk0 => ?_) hco hgen hk
  · intro y hy
    rcases List.mem_cons.mp hy with rfl | hy
    · exact hka
    · rcases List.mem_cons.mp hy with rfl | hy
      · exact hkf
      · rcases List.mem_cons.mp hy with rfl | hy
        · exact hkf2
        · cases hy
  have mself : (([(("self" : Str), Value.ref x), (f, v), (f2, v2)] : List (Str × Value)).reverse.lookup ("self" : Str)) = some (.ref x) := by
    have e : (("self" : Str) == f) = false := by simpa using (Ne.symm hf)
    have e2 : (("self" : Str) == f2) = false := by simpa using (Ne.symm hf2)
    show ([(f2, v2), (f, v), (("self" : Str), Value.ref x)] : List (Str × Value)).lookup ("self" : Str) = _
    simp [List.lookup, e, e2]
  have mf : (([(("self" : Str), Value.ref x), (f, v), (f2, v2)] : List (Str × Value)).reverse.lookup f) = some v := by
    show ([(f2, v2), (f, v), (("self" : Str), Value.ref x)] : List (Str × Value)).lookup f = _
    have e3 : (f == f2) = false := by simpa using hff
    simp [List.lookup, e3]
  have mf2 : (([(("self" : Str), Value.ref x), (f, v), (f2, v2)] : List (Str × Value)).reverse.lookup f2) = some v2 := by
    show ([(f2, v2), (f, v), (("self" : Str), Value.ref x)] : List (Str × Value)).lookup f2 = _
    simp [List.lookup]
  have hL : s.heap.objs.size ≠ x := Nat.ne_of_gt (Heap.lt_size hx)
  have X0 : K.In h0 := X.keeps hk0
  refine ks_wpAt_execs_cons (sx_super (s := { s with heap := h0, toks := s.toks + _ }) T (mg := mg) (ar := ar) X0 (G.keeps hk0) hns (by rw [har]; exact mself) (hk0 _ _ hx) hp hks hkc (by rw [har]; exact hka) hk ?_ (fun h1 tk1 t1 k1 e1 => ?_) (hin _) (he _) (hsw _) (hev _))
  · intro s' Q' k' q'
    refine hmsg _ _ _ _ _ ?_ (hns.keeps k') (fun b o e => k' _ _ (hk0 _ _ e)) q'
    show A.units + 3 + 40 < cLine
    omega
  · refine wpAt_of_wpAny ?_
    have hn1 : h1.Ns s.heap.objs.size (fun y => ([(("self" : Str), Value.ref x), (f, v), (f2, v2)] : List (Str × Value)).reverse.lookup y) := hns.at fun o e => k1 _ _ hL e
    refine wpAny_execs_cons (plainObj_wpAny_Assign_Attribute ?_ (hsw2 _))
    refine ESX.ldL (v := v) hn1 mf (ESX.ldL (v := .ref x) hn1 mself ?_ hk hka (by decide)) hk hkf hfd
    have X1 : K.In h1 := kept_but X0 hnx k1
    refine set_plain X1 (ox := excO C t1) (od := none) ⟨e1, rfl, rfl, trivial⟩ T.sa ?_
    refine exc_osa X1 e1 hcd1 hcd2 hcd3 hno (fun h3 tk3 dx k3 dn dne hx3 hn3 => ?_)
    show wpAny _ _ (execs _ _) _ _ _
    have z0 : s.heap.objs.size < h0.objs.size := hns.lt
    have z1 : s.heap.objs.size < h1.objs.size := hn1.lt
    have hn3' : h3.Ns s.heap.objs.size (fun y => ([(("self" : Str), Value.ref x), (f, v), (f2, v2)] : List (Str × Value)).reverse.lookup y) := hn1.at fun o e => k3 _ _ hL e
    have X3 : K.In h3 := kept_but X1 hnx k3
    refine wpAny_execs_cons (plainObj_wpAny_Assign_Attribute ?_ (hsw3 _))
    refine ESX.ldL (v := v2) hn3' mf2 (ESX.ldL (v := .ref x) hn3' mself ?_ hk hka (by decide)) hk hkf2 hfd2
    obtain ⟨oD, _, _, hoD, _, _⟩ := hn3.count (Within.cons f v Within.nil)
    refine set_plain X3 (ox := { cls := .ref C, dict := some dx, data := .fields #[.ref t1, .none, .none, .none, .bool false, .none] }) (od := some oD) ⟨hx3, rfl, rfl, hoD⟩ T.sa ?_
    refine OEX.osa_old X3 hx3 hn3 (Within.cons f v Within.nil) (by show 1 ≤ 1000; decide) hcd1 hcd2 hcd3 hno2 (fun h4 tk4 k4 hn4 => ?_)
    show wpAny _ _ (execs _ _) _ _ _
    have hdx : ∀ {b : Addr} {o : Obj}, s.heap.get? b = some o → b ≠ dx := fun {b o} e z => by
      have y := Heap.lt_size e
      rw [z] at y
      exact absurd (Nat.lt_trans (Nat.lt_of_lt_of_le z1 dn) y) (Nat.lt_irrefl _)
    exact wpAny_execs_nil (hq h4 tk4 dx t1 ⟨fun b o hb e => k4 b o (hdx e) (k3 b o hb (k1 b o hb (hk0 b o e))), k4 _ _ (Ne.symm dne) hx3, Nat.le_of_lt (Nat.lt_of_lt_of_le z1 dn), dne, hn4⟩)
end
end Sx
namespace Sx
open PySem PySem.W PySem.Calls PyProof.Rows PySem.HandSPX
/-- __init__ of a fresh exception without fields -/
def InitOk0 (prog : Program) (w : World) (K : Frag) (mg : Str → Option Value) (C fI : Addr) : Prop :=
  ∀ (A : Around) (R : Result → Shared → Prop) (s : Shared) (x t0 : Addr), K.In s.heap → Gb mg s.heap → s.heap.NoLimit → s.heap.get? x = some (excO C t0) → K.lookup x = none → A.depth < recursionLimit → A.units + 60 < cLine →
    (∀ h' tk t1, (∀ b o, b ≠ x → s.heap.get? b = some o → h'.get? b = some o) → h'.get? x = some (excO C t1) → R (.ok (.ret .none)) { s with heap := h', toks := tk }) → codeAny (model prog w) A (.call (.ref fI) ⟨[.ref x], []⟩) R s
/-- a made exception without a dict -/
structure OwnMade0 (h h' : Heap) (e C : Addr) : Prop where
  keep : ∀ b o, h.get? b = some o → h'.get? b = some o
  new : h.objs.size ≤ e
  obj : ∃ oe vs, h'.get? e = some oe ∧ oe.cls = .ref C ∧ oe.dict = none ∧ oe.data = .fields vs ∧ vs[1]? = some .none ∧ vs[2]? = some .none
section
variable {prog : Program} {w : World} {A : Around} {R : Result → Shared → Prop} {s : Shared} {K : Frag} {C fI cc cda : Addr} {qual : Str} {params : Arguments} {body : List Stmt} {scope : Scope} {mg : Str → Option Value}
theorem sx_made0 (T : SxC prog K C fI cc cda qual params body scope) (I : InitOk0 prog w K mg C fI) (X : K.In s.heap) (G : Gb mg s.heap) (hlim : s.heap.NoLimit)
    (hr1 : (A.under (.builtin "type.__call__" ⟨[.ref C], []⟩)).depth < recursionLimit) (hr2 : (A.under (.builtin "type.__call__" ⟨[.ref C], []⟩)).units + 60 < cLine)
    (hq : ∀ h' tk e, OwnMade0 s.heap h' e C → R (.ok (.ret (.ref e))) { s with heap := h', toks := tk }) :
    codeAny (model prog w) A (.call (.ref C) ⟨[], []⟩) R s := by
  obtain ⟨nm, q, N, bs, bm, sn, sub, ab, col, dd, k0, k1, k2, k3, k5, hC, hbm⟩ := T.cls
  obtain ⟨hp, g, dr, tk, os⟩ := s
  have k : ∀ b o, hp.get? b = some o → ((hp.push (kdv_tup [])).push (excO C hp.objs.size)).get? b = some o := fun b o e => Heap.get?_push_of_some _ (Heap.get?_push_of_some _ e)
  have hget : ((hp.push (kdv_tup [])).push (excO C hp.objs.size)).get? (hp.objs.size + 1) = some (excO C hp.objs.size) := by heap_get
  have hnx : K.lookup (hp.objs.size + 1) = none := by
    cases e : K.lookup (hp.objs.size + 1) with
    | none => rfl
    | some o =>
      have z : hp.get? (hp.objs.size + 1) = some o := X _ _ e
      exact absurd (Nat.lt_of_succ_lt (Heap.lt_size z)) (Nat.lt_irrefl _)
  refine call_own F.excBase_ValueError (fun X => refsVE_contains X bm hbm) (X _ _ hC) (looks_findIn X T.iC) (fun self => bind_fn X self T.tC) (Nat.zero_le _) ?_
  refine I _ _ ⟨(hp.push (kdv_tup [])).push (excO C hp.objs.size), g, dr, tk, os⟩ _ _ (X.keeps k) (G.keeps k) (hlim.keeps k) hget hnx hr1 hr2 fun h' tk' t1 k' hx => ?_
  have old : ∀ b o, hp.get? b = some o → h'.get? b = some o := fun b o e => k' b o (Nat.ne_of_lt (Nat.lt_succ_of_lt (Heap.lt_size e))) (k b o e)
  exact ⟨rfl, hq h' tk' (hp.objs.size + 1) ⟨old, Nat.le_succ _, ⟨_, _, hx, rfl, rfl, rfl, rfl, rfl⟩⟩⟩
end
end Sx
namespace L2
open PySem PySem.Spec PyProof.Rows Sx
section
variable {X : Cx} {C fI cc cda : Addr} {qual : Str} {params : Arguments} {body : List Stmt} {scope : Scope}
theorem pmk_sx0 {x : Str} {p pos : Pos} {k : Nat} (T : SxC X.prog X.K C fI cc cda qual params body scope) (M : InitOk0 X.prog X.w X.K X.mg C fI) (hr : Room (k + 1) X.A)
    (hm : X.mg x = some (.ref C)) (hg : Gl X x := by rfl) (hdb : (x == ("__debug__" : Str)) = false := by decide) :
    L2N.PMk X (.Call (.Name x p) [] [] pos) (fun _ H Q => Q (.ref C) none H) := by
  intro pins s σ H Q I h
  refine wpAny_Call_Name_kw (ld_glob I hg hm ?_ hdb)
  refine PySem.W.callWith_K0 I.kIn T.kC ?_
  have hlim := I.nolimit
  obtain ⟨hp, g, dr, tk, os⟩ := s
  have hm := hr.make C [] []
  refine wpAny_call (sx_made0 T M I.kIn I.gb hlim hm.depth (by have := hm.units; omega) fun h' tk' e M => ?_)
  show L2N.MkP X pins σ Q (.ref e) ⟨h', g, dr, tk', os⟩
  obtain ⟨oe, fv, hoe, hc, hd, hdat, h1, h2⟩ := M.obj
  refine ⟨e, oe, fv, ⟨hp, g, dr, tk, os⟩, _, .ref C, none, rfl, I, M.keep, ?_, hoe, ⟨hc, hd, fun vs' e' => by rw [hdat] at e'; cases e'; exact h2⟩, hdat, h1, I.hok.fresh M.new, rfl, I.bare, raises_own T.exC T.tyC, h⟩
  cases q : (⟨hp, g, dr, tk, os⟩ : Shared).heap.get? e with
  | none => rfl
  | some o => exact absurd (Heap.lt_size q) (Nat.not_lt.mpr M.new)
end
end L2
namespace L2
open PySem PySem.Spec PyProof.Rows Sx
/-- a small value that may stand in a tuple in an f-string -/
def SmV : V → Prop
  | .non => True
  | .bl _ => True
  | .int i => i.natAbs.log2 < 300
  | .str z => (reprText z).length ≤ 300
  | _ => False
/-- a value that may stand in an f-string -/
def FmV (K : PySem.W.Frag) (H : Hp) : V → Prop
  | .non => True
  | .bl _ => True
  | .int i => i.natAbs.log2 < 1920
  | .str z => z.length ≤ 3000
  | .ref a => ∃ xs, SqT K H a xs ∧ xs.length ≤ 4 ∧ ∀ x ∈ xs, SmV x
  | _ => False
theorem repr_sm {prog : Program} {w : World} : ∀ {xs : List V} {us : List Value}, Vals xs us → (∀ x ∈ xs, SmV x) → ∃ ts, ReprAll prog w us ts ∧ piled ts ≤ 304 * xs.length
  | [], _, r, _ => by
    cases r
    exact ⟨[], .nil, Nat.zero_le _⟩
  | x :: xs, _, r, h => by
    cases r with
    | @cons _ u _ us r1 r2 =>
      obtain ⟨ts, h1, h2⟩ := repr_sm (prog := prog) (w := w) r2 fun y hy => h y (List.mem_cons_of_mem _ hy)
      have hx := h x List.mem_cons_self
      have one : ∃ t : Str, ReprIs prog w u t ∧ t.length ≤ 302 := by
        cases x with
        | non =>
          cases r1
          exact ⟨_, .none, by decide +kernel⟩
        | bl b =>
          cases r1
          exact ⟨_, .bool b, by cases b <;> decide +kernel⟩
        | int i =>
          obtain ⟨t, rfl⟩ := r1
          have hi : i.natAbs.log2 < 300 := hx
          have e := int_text_length_le (k := 300) (by decide) hi
          exact ⟨_, .int t (by omega), by rw [PySem.ofString_length]; omega⟩
        | str z =>
          obtain ⟨t, rfl⟩ := r1
          have hz : (reprText z).length ≤ 300 := hx
          exact ⟨_, .str z t (by rw [sizeLine_eq]; omega), by omega⟩
        | _ => exact False.elim hx
      obtain ⟨t, e1, e2⟩ := one
      refine ⟨t :: ts, .cons e1 h1, ?_⟩
      rw [piled_cons, List.length_cons]
      omega
theorem fmt_of {X : Cx} {pins : List (Addr × Obj)} {σ : St} {H : Hp} {s : Shared} {v : V} {u : Value} (I : Inv X pins σ H s) (r : RelV v u) (h : FmV X.K H v) : FmtOk X.prog X.w u s.heap := by
  cases v with
  | non =>
    cases r
    exact fmt_none
  | bl b =>
    cases r
    exact fmt_bool
  | int i =>
    obtain ⟨t, rfl⟩ := r
    exact fmt_int h
  | str z =>
    obtain ⟨t, rfl⟩ := r
    exact fmt_str h
  | ref a =>
    obtain rfl : u = Value.ref a := r
    obtain ⟨xs, hS, hl, hx⟩ := h
    obtain ⟨its, rv, ⟨o, ho, hcl, n, hd⟩, _⟩ := I.tuple hS
    obtain ⟨ts, h1, h2⟩ := repr_sm (prog := X.prog) (w := X.w) rv hx
    have h3 := fmt_text ts
    exact fmt_tup ho hcl hd h1 (by omega)
  | _ => exact False.elim h
/-- the fields by their names -/
def fldsN (ns : List Str) : List V → List (Str × V) := fun vs => ns.zip vs
def PFm (K : PySem.W.Frag) (n : Nat) : List V → Hp → Prop := fun vs H => vs.length = n ∧ ∀ v ∈ vs, FmV K H v
section
variable {X : Cx} {C fI cc cda : Addr} {qual : Str} {st : Stmt}
/-- the text's own conditions, all by rfl or decide -/
structure TxtC (st : Stmt) (qual : Str) (fI cc cda : Addr) (names : List Str) : Prop where
  hp : ∃ ar, ((defArgs st).posonlyargs ++ (defArgs st).args).head? = some ar ∧ ar.arg = "self"
  hks : (defScope st).names.lookup ("super" : Str) = some .globalImplicit
  hkc : (defScope st).names.lookup ("__class__" : Str) = some .free
  hka : (defScope st).names.lookup ("self" : Str) = some .local
  hkf : ∀ f ∈ names, (defScope st).names.lookup f = some .local ∧ f ≠ "self" ∧ (f == ("__debug__" : Str)) = false
  hk : (defScope st).kind = .function
  hcell : ∀ x ∈ (defScope st).names, x.2 ≠ .cell
  hco : (defScope st).isCoroutine = false
  hgen : (defScope st).isGenerator = false
theorem mkOk1 {f : Str} {msg : Expr} {p0 p1 p2 p3 p4 q1 q2 q3 q4 : Pos} (T : SxC X.prog X.K C fI cc cda qual (defArgs st) (defBody st) (defScope st)) (Y : TxtC st qual fI cc cda [f]) (hno : PySem.W.findIn X.K (.ref C) f = some none)
    (hbody : defBody st = [.Expr (.Call (.Attribute (.Call (.Name "super" p0) [] [] p1) "__init__" p2) [msg] [] p3) p4, .Assign [.Attribute (.Name "self" q1) f q2] (.Name f q3) q4])
    (hbind : ∀ (kV doc pm : Value) (an : Option Addr) (ct : Value) (x v : Value), bindArgs (PySem.W.ksFn "__init__" qual (defArgs st) (defBody st) (defScope st) .none kV doc pm an (.ref cda) ct cc) ⟨[x, v], []⟩ = pure [(("self" : Str), x), (f, v)])
    (hmsg : ∀ (m : Str → Option Value) (v : Value) (h0 : Heap), m f = some v → FmtOk X.prog X.w v h0 → MsgOk X.prog X.w (fun L => PySem.W.ksEnv qual (defScope st) L fI (.ref cda) cc) msg m h0)
    (he : ∀ L, starEach [msg] (PySem.W.ksEnv qual (defScope st) L fI (.ref cda) cc) = [(false, eval msg (PySem.W.ksEnv qual (defScope st) L fI (.ref cda) cc))])
    (hsw : ∀ L, swapsWith (.Call (.Attribute (.Call (.Name "super" p0) [] [] p1) "__init__" p2) [msg] [] p3) none p4.line (PySem.W.ksEnv qual (defScope st) L fI (.ref cda) cc) = pure false := by intro _; rfl)
    (hsw2 : ∀ L, swapsWith (.Name f q3) (some (.Attribute (.Name "self" q1) f q2)) q4.line (PySem.W.ksEnv qual (defScope st) L fI (.ref cda) cc) = pure false := by intro _; rfl)
    (hev : ∀ L, eval (.Call (.Attribute (.Call (.Name "super" p0) [] [] p1) "__init__" p2) [msg] [] p3) (PySem.W.ksEnv qual (defScope st) L fI (.ref cda) cc) = (do
      let ov ← attributeBase (.Call (.Name "super" p0) [] [] p1) "__init__" (PySem.W.ksEnv qual (defScope st) L fI (.ref cda) cc) (eval (.Call (.Name "super" p0) [] [] p1) (PySem.W.ksEnv qual (defScope st) L fI (.ref cda) cc))
      standAt p2.atName
      let (f, first) ← holding [ov] (getMethod ov "__init__" (pure false))
      callWith p3 f first (backTo p3 (starEach [msg] (PySem.W.ksEnv qual (defScope st) L fI (.ref cda) cc))) []) := by intro _; rfl) :
    MkOk X C fI (PFm X.K 1) (fldsN [f]) := by
  intro pins σ H s vs us I r hP
  obtain ⟨h1, h2⟩ := hP
  obtain ⟨v, rfl⟩ : ∃ v, vs = [v] := by
    match vs, h1 with
    | [v], _ => exact ⟨v, rfl⟩
  cases r with
  | @cons _ u _ us r1 r2 =>
    cases r2
    have hF : FmtOk X.prog X.w u s.heap := fmt_of I r1 (h2 v List.mem_cons_self)
    obtain ⟨ar, hp, har⟩ := Y.hp
    obtain ⟨hkf, hfs, hfd⟩ := Y.hkf f List.mem_cons_self
    refine ⟨fun y => if y = f then some u else none, ?_, fun g => ?_⟩
    · intro A R s' x t0 XK G hlim hx hnx hdp hun hk0 hq
      have hms : (([(("self" : Str), Value.ref x), (f, u)] : List (Str × Value)).reverse.lookup f) = some u := by
        show ([(f, u), (("self" : Str), Value.ref x)] : List (Str × Value)).lookup f = _
        simp [List.lookup]
      refine sx_init1 T XK G hlim hx hnx hdp hun hbody (fun kV doc pm an ct => hbind kV doc pm an ct _ _) hp har hfs hfd Y.hks Y.hkc Y.hka hkf Y.hk Y.hcell Y.hco Y.hgen hno ?_ (fun L => by simp [interactive, Y.hk]) he hsw hsw2 hev hq
      exact hmsg _ u s'.heap hms fun A s2 Q' E' hu hk2 q => hF A s2 Q' E' hu (fun b o e => hk2 b o (hk0 b o e)) q
    · by_cases hg : g = f
      · subst hg
        simp only [if_true]
        have q : List.lookup g (fldsN [g] [v]) = some v := by simp [fldsN, List.lookup]
        rw [q]
        exact r1
      · simp only [if_neg hg]
        have e : (g == f) = false := by simpa using hg
        have q : List.lookup g (fldsN [f] [v]) = none := by simp [fldsN, List.lookup, e]
        rw [q]
        trivial
end
end L2
namespace L2
open PySem PySem.Spec PyProof.Rows Sx
section
variable {X : Cx} {C fI cc cda : Addr} {qual : Str} {st : Stmt}
theorem mkOk0 {msg : Expr} {p0 p1 p2 p3 p4 : Pos} (T : SxC X.prog X.K C fI cc cda qual (defArgs st) (defBody st) (defScope st)) (Y : TxtC st qual fI cc cda [])
    (hbody : defBody st = [.Expr (.Call (.Attribute (.Call (.Name "super" p0) [] [] p1) "__init__" p2) [msg] [] p3) p4])
    (hbind : ∀ (kV doc pm : Value) (an : Option Addr) (ct : Value) (x : Value), bindArgs (PySem.W.ksFn "__init__" qual (defArgs st) (defBody st) (defScope st) .none kV doc pm an (.ref cda) ct cc) ⟨[x], []⟩ = pure [(("self" : Str), x)])
    (hmsg : ∀ (m : Str → Option Value) (h0 : Heap), MsgOk X.prog X.w (fun L => PySem.W.ksEnv qual (defScope st) L fI (.ref cda) cc) msg m h0)
    (he : ∀ L, starEach [msg] (PySem.W.ksEnv qual (defScope st) L fI (.ref cda) cc) = [(false, eval msg (PySem.W.ksEnv qual (defScope st) L fI (.ref cda) cc))])
    (hsw : ∀ L, swapsWith (.Call (.Attribute (.Call (.Name "super" p0) [] [] p1) "__init__" p2) [msg] [] p3) none p4.line (PySem.W.ksEnv qual (defScope st) L fI (.ref cda) cc) = pure false := by intro _; rfl)
    (hev : ∀ L, eval (.Call (.Attribute (.Call (.Name "super" p0) [] [] p1) "__init__" p2) [msg] [] p3) (PySem.W.ksEnv qual (defScope st) L fI (.ref cda) cc) = (do
      let ov ← attributeBase (.Call (.Name "super" p0) [] [] p1) "__init__" (PySem.W.ksEnv qual (defScope st) L fI (.ref cda) cc) (eval (.Call (.Name "super" p0) [] [] p1) (PySem.W.ksEnv qual (defScope st) L fI (.ref cda) cc))
      standAt p2.atName
      let (f, first) ← holding [ov] (getMethod ov "__init__" (pure false))
      callWith p3 f first (backTo p3 (starEach [msg] (PySem.W.ksEnv qual (defScope st) L fI (.ref cda) cc))) []) := by intro _; rfl) :
    InitOk0 X.prog X.w X.K X.mg C fI := by
  intro A R s' x t0 XK G hlim hx hnx hdp hun hq
  obtain ⟨ar, hp, har⟩ := Y.hp
  exact sx_init0 T XK G hlim hx hnx hdp hun hbody (fun kV doc pm an ct => hbind kV doc pm an ct _) hp har Y.hks Y.hkc Y.hka Y.hk Y.hcell Y.hco Y.hgen (hmsg _ _) (fun L => by simp [interactive, Y.hk]) he hsw hev hq
theorem mkOk2 {f f2 : Str} {msg : Expr} {p0 p1 p2 p3 p4 q1 q2 q3 q4 u1 u2 u3 u4 : Pos} (T : SxC X.prog X.K C fI cc cda qual (defArgs st) (defBody st) (defScope st)) (Y : TxtC st qual fI cc cda [f, f2]) (hno : PySem.W.findIn X.K (.ref C) f = some none) (hno2 : PySem.W.findIn X.K (.ref C) f2 = some none) (hff : f ≠ f2)
    (hbody : defBody st = [.Expr (.Call (.Attribute (.Call (.Name "super" p0) [] [] p1) "__init__" p2) [msg] [] p3) p4, .Assign [.Attribute (.Name "self" q1) f q2] (.Name f q3) q4, .Assign [.Attribute (.Name "self" u1) f2 u2] (.Name f2 u3) u4])
    (hbind : ∀ (kV doc pm : Value) (an : Option Addr) (ct : Value) (x v v2 : Value), bindArgs (PySem.W.ksFn "__init__" qual (defArgs st) (defBody st) (defScope st) .none kV doc pm an (.ref cda) ct cc) ⟨[x, v, v2], []⟩ = pure [(("self" : Str), x), (f, v), (f2, v2)])
    (hmsg : ∀ (m : Str → Option Value) (v v2 : Value) (h0 : Heap), m f = some v → m f2 = some v2 → FmtOk X.prog X.w v h0 → FmtOk X.prog X.w v2 h0 → MsgOk X.prog X.w (fun L => PySem.W.ksEnv qual (defScope st) L fI (.ref cda) cc) msg m h0)
    (he : ∀ L, starEach [msg] (PySem.W.ksEnv qual (defScope st) L fI (.ref cda) cc) = [(false, eval msg (PySem.W.ksEnv qual (defScope st) L fI (.ref cda) cc))])
    (hsw : ∀ L, swapsWith (.Call (.Attribute (.Call (.Name "super" p0) [] [] p1) "__init__" p2) [msg] [] p3) none p4.line (PySem.W.ksEnv qual (defScope st) L fI (.ref cda) cc) = pure false := by intro _; rfl)
    (hsw2 : ∀ L, swapsWith (.Name f q3) (some (.Attribute (.Name "self" q1) f q2)) q4.line (PySem.W.ksEnv qual (defScope st) L fI (.ref cda) cc) = pure false := by intro _; rfl)
    (hsw3 : ∀ L, swapsWith (.Name f2 u3) (some (.Attribute (.Name "self" u1) f2 u2)) u4.line (PySem.W.ksEnv qual (defScope st) L fI (.ref cda) cc) = pure false := by intro _; rfl)
    (hev : ∀ L, eval (.Call (.Attribute (.Call (.Name "super" p0) [] [] p1) "__init__" p2) [msg] [] p3) (PySem.W.ksEnv qual (defScope st) L fI (.ref cda) cc) = (do
      let ov ← attributeBase (.Call (.Name "super" p0) [] [] p1) "__init__" (PySem.W.ksEnv qual (defScope st) L fI (.ref cda) cc) (eval (.Call (.Name "super" p0) [] [] p1) (PySem.W.ksEnv qual (defScope st) L fI (.ref cda) cc))
      standAt p2.atName
      let (f, first) ← holding [ov] (getMethod ov "__init__" (pure false))
      callWith p3 f first (backTo p3 (starEach [msg] (PySem.W.ksEnv qual (defScope st) L fI (.ref cda) cc))) []) := by intro _; rfl) :
    MkOk X C fI (PFm X.K 2) (fldsN [f, f2]) := by
  intro pins σ H s vs us I r hP
  obtain ⟨h1, h2⟩ := hP
  obtain ⟨v, v2, rfl⟩ : ∃ v v2, vs = [v, v2] := by
    match vs, h1 with
    | [v, v2], _ => exact ⟨v, v2, rfl⟩
  cases r with
  | @cons _ u _ us r1 r2 =>
    cases r2 with
    | @cons _ u2 _ us r2 r3 =>
      cases r3
      have hF : FmtOk X.prog X.w u s.heap := fmt_of I r1 (h2 v List.mem_cons_self)
      have hF2 : FmtOk X.prog X.w u2 s.heap := fmt_of I r2 (h2 v2 (List.mem_cons_of_mem _ List.mem_cons_self))
      obtain ⟨ar, hp, har⟩ := Y.hp
      obtain ⟨hkf, hfs, hfd⟩ := Y.hkf f List.mem_cons_self
      obtain ⟨hkf2, hfs2, hfd2⟩ := Y.hkf f2 (List.mem_cons_of_mem _ List.mem_cons_self)
      refine ⟨fun y => if y = f2 then some u2 else if y = f then some u else none, ?_, fun g => ?_⟩
      · intro A R s' x t0 XK G hlim hx hnx hdp hun hk0 hq
        have e3 : (f == f2) = false := by simpa using hff
        have hms : (([(("self" : Str), Value.ref x), (f, u), (f2, u2)] : List (Str × Value)).reverse.lookup f) = some u := by
          show ([(f2, u2), (f, u), (("self" : Str), Value.ref x)] : List (Str × Value)).lookup f = _
          simp [List.lookup, e3]
        have hms2 : (([(("self" : Str), Value.ref x), (f, u), (f2, u2)] : List (Str × Value)).reverse.lookup f2) = some u2 := by
          show ([(f2, u2), (f, u), (("self" : Str), Value.ref x)] : List (Str × Value)).lookup f2 = _
          simp [List.lookup]
        refine sx_init2 T XK G hlim hx hnx hdp hun hbody (fun kV doc pm an ct => hbind kV doc pm an ct _ _ _) hp har hfs hfs2 hff hfd hfd2 Y.hks Y.hkc Y.hka hkf hkf2 Y.hk Y.hcell Y.hco Y.hgen hno hno2 ?_ (fun L => by simp [interactive, Y.hk]) he hsw hsw2 hsw3 hev hq
        exact hmsg _ u u2 s'.heap hms hms2 (fun A s2 Q' E' hu hk2 q => hF A s2 Q' E' hu (fun b o e => hk2 b o (hk0 b o e)) q) fun A s2 Q' E' hu hk2 q => hF2 A s2 Q' E' hu (fun b o e => hk2 b o (hk0 b o e)) q
      · by_cases hg2 : g = f2
        · subst hg2
          have e3 : (g == f) = false := by simpa using (Ne.symm hff)
          simp only [if_true]
          have q : List.lookup g (fldsN [f, g] [v, v2]) = some v2 := by simp [fldsN, List.lookup, e3]
          rw [q]
          exact r2
        · simp only [if_neg hg2]
          have e2 : (g == f2) = false := by simpa using hg2
          by_cases hg : g = f
          · subst hg
            simp only [if_true]
            have q : List.lookup g (fldsN [g, f2] [v, v2]) = some v := by simp [fldsN, List.lookup]
            rw [q]
            exact r1
          · simp only [if_neg hg]
            have e : (g == f) = false := by simpa using hg
            have q : List.lookup g (fldsN [f, f2] [v, v2]) = none := by simp [fldsN, List.lookup, e, e2]
            rw [q]
            trivial
end
end L2
namespace My
open PySem PySem.Spec PyProof.Rows Sx L2
section
variable {X : Cx} {C fI cc cda : Addr}
theorem all2 {P : Expr → Prop} {a b : Expr} (h1 : P a) (h2 : P b) : ∀ e ∈ [a, b], P e := fun e he => by
  rcases List.mem_cons.mp he with rfl | he
  · exact h1
  · exact (List.mem_singleton.mp he) ▸ h2
theorem all3 {P : Expr → Prop} {a b c : Expr} (h1 : P a) (h2 : P b) (h3 : P c) : ∀ e ∈ [a, b, c], P e := fun e he => by
  rcases List.mem_cons.mp he with rfl | he
  · exact h1
  · exact all2 h2 h3 e he
theorem all4 {P : Expr → Prop} {a b c d : Expr} (h1 : P a) (h2 : P b) (h3 : P c) (h4 : P d) : ∀ e ∈ [a, b, c, d], P e := fun e he => by
  rcases List.mem_cons.mp he with rfl | he
  · exact h1
  · exact all3 h2 h3 h4 e he
theorem fa0 {P : Str → Prop} : ∀ f ∈ ([] : List Str), P f := fun f hf => nomatch hf
theorem fa1 {P : Str → Prop} {a : Str} (h1 : P a) : ∀ f ∈ [a], P f := fun f hf => (List.mem_singleton.mp hf) ▸ h1
theorem fa2 {P : Str → Prop} {a b : Str} (h1 : P a) (h2 : P b) : ∀ f ∈ [a, b], P f := fun f hf => by
  rcases List.mem_cons.mp hf with rfl | hf
  · exact h1
  · exact fa1 h2 f hf
theorem mk_BadName (T : SxC X.prog X.K C fI cc cda "BadName.__init__" (defArgs (inClass (top 2) 0)) (defBody (inClass (top 2) 0)) (defScope (inClass (top 2) 0))) (hno : PySem.W.findIn X.K (.ref C) "name" = some none) : MkOk X C fI (PFm X.K 1) (fldsN ["name"]) :=
  mkOk1 (st := (inClass (top 2) 0)) T ⟨⟨_, rfl, rfl⟩, rfl, rfl, rfl, fa1 ⟨rfl, by decide, by decide⟩, rfl, by decide, rfl, rfl⟩ hno rfl (fun _ _ _ _ _ _ _ => rfl) (fun _ _ _ _ _ => msg_const) (fun _ => rfl)
theorem mk_BadRow (T : SxC X.prog X.K C fI cc cda "BadRow.__init__" (defArgs (inClass (top 3) 0)) (defBody (inClass (top 3) 0)) (defScope (inClass (top 3) 0))) (hno : PySem.W.findIn X.K (.ref C) "at" = some none) : MkOk X C fI (PFm X.K 1) (fldsN ["at"]) :=
  mkOk1 (st := (inClass (top 3) 0)) T ⟨⟨_, rfl, rfl⟩, rfl, rfl, rfl, fa1 ⟨rfl, by decide, by decide⟩, rfl, by decide, rfl, rfl⟩ hno rfl (fun _ _ _ _ _ _ _ => rfl) (fun m v h0 h1 f1 => msg_joined (all3 (part_const (by decide +kernel)) (part_fv h1 f1 (fun _ => rfl) (fun _ => rfl) (fun _ => rfl) (by decide)) (part_const (by decide +kernel))) (by decide)) (fun _ => rfl)
theorem mk_BadMethod (T : SxC X.prog X.K C fI cc cda "BadMethod.__init__" (defArgs (inClass (top 4) 0)) (defBody (inClass (top 4) 0)) (defScope (inClass (top 4) 0))) (hno : PySem.W.findIn X.K (.ref C) "part" = some none) : MkOk X C fI (PFm X.K 1) (fldsN ["part"]) :=
  mkOk1 (st := (inClass (top 4) 0)) T ⟨⟨_, rfl, rfl⟩, rfl, rfl, rfl, fa1 ⟨rfl, by decide, by decide⟩, rfl, by decide, rfl, rfl⟩ hno rfl (fun _ _ _ _ _ _ _ => rfl) (fun m v h0 h1 f1 => msg_joined (all2 (part_const (by decide +kernel)) (part_fv h1 f1 (fun _ => rfl) (fun _ => rfl) (fun _ => rfl) (by decide))) (by decide)) (fun _ => rfl)
theorem mk_BadCarry (T : SxC X.prog X.K C fI cc cda "BadCarry.__init__" (defArgs (inClass (top 5) 0)) (defBody (inClass (top 5) 0)) (defScope (inClass (top 5) 0))) (hno : PySem.W.findIn X.K (.ref C) "part" = some none) : MkOk X C fI (PFm X.K 1) (fldsN ["part"]) :=
  mkOk1 (st := (inClass (top 5) 0)) T ⟨⟨_, rfl, rfl⟩, rfl, rfl, rfl, fa1 ⟨rfl, by decide, by decide⟩, rfl, by decide, rfl, rfl⟩ hno rfl (fun _ _ _ _ _ _ _ => rfl) (fun m v h0 h1 f1 => msg_joined (all2 (part_const (by decide +kernel)) (part_fv h1 f1 (fun _ => rfl) (fun _ => rfl) (fun _ => rfl) (by decide))) (by decide)) (fun _ => rfl)
theorem mk_BadKind (T : SxC X.prog X.K C fI cc cda "BadKind.__init__" (defArgs (inClass (top 6) 0)) (defBody (inClass (top 6) 0)) (defScope (inClass (top 6) 0))) (hno : PySem.W.findIn X.K (.ref C) "part" = some none) : MkOk X C fI (PFm X.K 1) (fldsN ["part"]) :=
  mkOk1 (st := (inClass (top 6) 0)) T ⟨⟨_, rfl, rfl⟩, rfl, rfl, rfl, fa1 ⟨rfl, by decide, by decide⟩, rfl, by decide, rfl, rfl⟩ hno rfl (fun _ _ _ _ _ _ _ => rfl) (fun m v h0 h1 f1 => msg_joined (all2 (part_const (by decide +kernel)) (part_fv h1 f1 (fun _ => rfl) (fun _ => rfl) (fun _ => rfl) (by decide))) (by decide)) (fun _ => rfl)
theorem mk_BadLibrary (T : SxC X.prog X.K C fI cc cda "BadLibrary.__init__" (defArgs (inClass (top 7) 0)) (defBody (inClass (top 7) 0)) (defScope (inClass (top 7) 0))) (hno : PySem.W.findIn X.K (.ref C) "at" = some none) (hno2 : PySem.W.findIn X.K (.ref C) "part" = some none) : MkOk X C fI (PFm X.K 2) (fldsN ["at", "part"]) :=
  mkOk2 (st := (inClass (top 7) 0)) T ⟨⟨_, rfl, rfl⟩, rfl, rfl, rfl, fa2 ⟨rfl, by decide, by decide⟩ ⟨rfl, by decide, by decide⟩, rfl, by decide, rfl, rfl⟩ hno hno2 (by decide) rfl (fun _ _ _ _ _ _ _ _ => rfl) (fun m v v2 h0 h1 h2 f1 f2 => msg_joined (all4 (part_const (by decide +kernel)) (part_fv h2 f2 (fun _ => rfl) (fun _ => rfl) (fun _ => rfl) (by decide)) (part_const (by decide +kernel)) (part_fv h1 f1 (fun _ => rfl) (fun _ => rfl) (fun _ => rfl) (by decide))) (by decide)) (fun _ => rfl)
theorem mk_NoKind (T : SxC X.prog X.K C fI cc cda "NoKind.__init__" (defArgs (inClass (top 8) 0)) (defBody (inClass (top 8) 0)) (defScope (inClass (top 8) 0))) (hno : PySem.W.findIn X.K (.ref C) "name" = some none) : MkOk X C fI (PFm X.K 1) (fldsN ["name"]) :=
  mkOk1 (st := (inClass (top 8) 0)) T ⟨⟨_, rfl, rfl⟩, rfl, rfl, rfl, fa1 ⟨rfl, by decide, by decide⟩, rfl, by decide, rfl, rfl⟩ hno rfl (fun _ _ _ _ _ _ _ => rfl) (fun _ _ _ _ _ => msg_const) (fun _ => rfl)
theorem mk_BadText (T : SxC X.prog X.K C fI cc cda "BadText.__init__" (defArgs (inClass (top 9) 0)) (defBody (inClass (top 9) 0)) (defScope (inClass (top 9) 0))) (hno : PySem.W.findIn X.K (.ref C) "at" = some none) : MkOk X C fI (PFm X.K 1) (fldsN ["at"]) :=
  mkOk1 (st := (inClass (top 9) 0)) T ⟨⟨_, rfl, rfl⟩, rfl, rfl, rfl, fa1 ⟨rfl, by decide, by decide⟩, rfl, by decide, rfl, rfl⟩ hno rfl (fun _ _ _ _ _ _ _ => rfl) (fun m v h0 h1 f1 => msg_joined (all2 (part_const (by decide +kernel)) (part_fv h1 f1 (fun _ => rfl) (fun _ => rfl) (fun _ => rfl) (by decide))) (by decide)) (fun _ => rfl)
theorem mk_NoMethod (T : SxC X.prog X.K C fI cc cda "NoMethod.__init__" (defArgs (inClass (top 10) 0)) (defBody (inClass (top 10) 0)) (defScope (inClass (top 10) 0))) (hno : PySem.W.findIn X.K (.ref C) "name" = some none) : MkOk X C fI (PFm X.K 1) (fldsN ["name"]) :=
  mkOk1 (st := (inClass (top 10) 0)) T ⟨⟨_, rfl, rfl⟩, rfl, rfl, rfl, fa1 ⟨rfl, by decide, by decide⟩, rfl, by decide, rfl, rfl⟩ hno rfl (fun _ _ _ _ _ _ _ => rfl) (fun _ _ _ _ _ => msg_const) (fun _ => rfl)
theorem mk_BadCall (T : SxC X.prog X.K C fI cc cda "BadCall.__init__" (defArgs (inClass (top 11) 0)) (defBody (inClass (top 11) 0)) (defScope (inClass (top 11) 0))) (hno : PySem.W.findIn X.K (.ref C) "name" = some none) : MkOk X C fI (PFm X.K 1) (fldsN ["name"]) :=
  mkOk1 (st := (inClass (top 11) 0)) T ⟨⟨_, rfl, rfl⟩, rfl, rfl, rfl, fa1 ⟨rfl, by decide, by decide⟩, rfl, by decide, rfl, rfl⟩ hno rfl (fun _ _ _ _ _ _ _ => rfl) (fun _ _ _ _ _ => msg_const) (fun _ => rfl)
theorem mk_BadValue (T : SxC X.prog X.K C fI cc cda "BadValue.__init__" (defArgs (inClass (top 12) 0)) (defBody (inClass (top 12) 0)) (defScope (inClass (top 12) 0))) (hno : PySem.W.findIn X.K (.ref C) "at" = some none) : MkOk X C fI (PFm X.K 1) (fldsN ["at"]) :=
  mkOk1 (st := (inClass (top 12) 0)) T ⟨⟨_, rfl, rfl⟩, rfl, rfl, rfl, fa1 ⟨rfl, by decide, by decide⟩, rfl, by decide, rfl, rfl⟩ hno rfl (fun _ _ _ _ _ _ _ => rfl) (fun m v h0 h1 f1 => msg_joined (all2 (part_const (by decide +kernel)) (part_fv h1 f1 (fun _ => rfl) (fun _ => rfl) (fun _ => rfl) (by decide))) (by decide)) (fun _ => rfl)
theorem mk_NotNow (T : SxC X.prog X.K C fI cc cda "NotNow.__init__" (defArgs (inClass (top 13) 0)) (defBody (inClass (top 13) 0)) (defScope (inClass (top 13) 0))) (hno : PySem.W.findIn X.K (.ref C) "name" = some none) : MkOk X C fI (PFm X.K 1) (fldsN ["name"]) :=
  mkOk1 (st := (inClass (top 13) 0)) T ⟨⟨_, rfl, rfl⟩, rfl, rfl, rfl, fa1 ⟨rfl, by decide, by decide⟩, rfl, by decide, rfl, rfl⟩ hno rfl (fun _ _ _ _ _ _ _ => rfl) (fun _ _ _ _ _ => msg_const) (fun _ => rfl)
theorem mk_BadState (T : SxC X.prog X.K C fI cc cda "BadState.__init__" (defArgs (inClass (top 14) 0)) (defBody (inClass (top 14) 0)) (defScope (inClass (top 14) 0))) (hno : PySem.W.findIn X.K (.ref C) "given" = some none) : MkOk X C fI (PFm X.K 1) (fldsN ["given"]) :=
  mkOk1 (st := (inClass (top 14) 0)) T ⟨⟨_, rfl, rfl⟩, rfl, rfl, rfl, fa1 ⟨rfl, by decide, by decide⟩, rfl, by decide, rfl, rfl⟩ hno rfl (fun _ _ _ _ _ _ _ => rfl) (fun _ _ _ _ _ => msg_const) (fun _ => rfl)
theorem mk_BadPassage (T : SxC X.prog X.K C fI cc cda "BadPassage.__init__" (defArgs (inClass (top 15) 0)) (defBody (inClass (top 15) 0)) (defScope (inClass (top 15) 0))) (hno : PySem.W.findIn X.K (.ref C) "part" = some none) : MkOk X C fI (PFm X.K 1) (fldsN ["part"]) :=
  mkOk1 (st := (inClass (top 15) 0)) T ⟨⟨_, rfl, rfl⟩, rfl, rfl, rfl, fa1 ⟨rfl, by decide, by decide⟩, rfl, by decide, rfl, rfl⟩ hno rfl (fun _ _ _ _ _ _ _ => rfl) (fun m v h0 h1 f1 => msg_joined (all2 (part_const (by decide +kernel)) (part_fv h1 f1 (fun _ => rfl) (fun _ => rfl) (fun _ => rfl) (by decide))) (by decide)) (fun _ => rfl)
theorem mk_BadSaved (T : SxC X.prog X.K C fI cc cda "BadSaved.__init__" (defArgs (inClass (top 16) 0)) (defBody (inClass (top 16) 0)) (defScope (inClass (top 16) 0))) (hno : PySem.W.findIn X.K (.ref C) "at" = some none) : MkOk X C fI (PFm X.K 1) (fldsN ["at"]) :=
  mkOk1 (st := (inClass (top 16) 0)) T ⟨⟨_, rfl, rfl⟩, rfl, rfl, rfl, fa1 ⟨rfl, by decide, by decide⟩, rfl, by decide, rfl, rfl⟩ hno rfl (fun _ _ _ _ _ _ _ => rfl) (fun m v h0 h1 f1 => msg_joined (all2 (part_const (by decide +kernel)) (part_fv h1 f1 (fun _ => rfl) (fun _ => rfl) (fun _ => rfl) (by decide))) (by decide)) (fun _ => rfl)
theorem mk_NoField (T : SxC X.prog X.K C fI cc cda "NoField.__init__" (defArgs (inClass (top 17) 0)) (defBody (inClass (top 17) 0)) (defScope (inClass (top 17) 0))) (hno : PySem.W.findIn X.K (.ref C) "name" = some none) : MkOk X C fI (PFm X.K 1) (fldsN ["name"]) :=
  mkOk1 (st := (inClass (top 17) 0)) T ⟨⟨_, rfl, rfl⟩, rfl, rfl, rfl, fa1 ⟨rfl, by decide, by decide⟩, rfl, by decide, rfl, rfl⟩ hno rfl (fun _ _ _ _ _ _ _ => rfl) (fun _ _ _ _ _ => msg_const) (fun _ => rfl)
theorem mk_BadCallers (T : SxC X.prog X.K C fI cc cda "BadCallers.__init__" (defArgs (inClass (top 18) 0)) (defBody (inClass (top 18) 0)) (defScope (inClass (top 18) 0))) (hno : PySem.W.findIn X.K (.ref C) "part" = some none) : MkOk X C fI (PFm X.K 1) (fldsN ["part"]) :=
  mkOk1 (st := (inClass (top 18) 0)) T ⟨⟨_, rfl, rfl⟩, rfl, rfl, rfl, fa1 ⟨rfl, by decide, by decide⟩, rfl, by decide, rfl, rfl⟩ hno rfl (fun _ _ _ _ _ _ _ => rfl) (fun m v h0 h1 f1 => msg_joined (all2 (part_const (by decide +kernel)) (part_fv h1 f1 (fun _ => rfl) (fun _ => rfl) (fun _ => rfl) (by decide))) (by decide)) (fun _ => rfl)
theorem mk_UnlikeFaces (T : SxC X.prog X.K C fI cc cda "UnlikeFaces.__init__" (defArgs (inClass (top 19) 0)) (defBody (inClass (top 19) 0)) (defScope (inClass (top 19) 0))) : InitOk0 X.prog X.w X.K X.mg C fI :=
  mkOk0 (st := (inClass (top 19) 0)) T ⟨⟨_, rfl, rfl⟩, rfl, rfl, rfl, fa0, rfl, by decide, rfl, rfl⟩ rfl (fun _ _ _ _ _ _ => rfl) (fun _ _ => msg_const) (fun _ => rfl)
theorem mk_BadJoint (T : SxC X.prog X.K C fI cc cda "BadJoint.__init__" (defArgs (inClass (top 20) 0)) (defBody (inClass (top 20) 0)) (defScope (inClass (top 20) 0))) (hno : PySem.W.findIn X.K (.ref C) "given" = some none) : MkOk X C fI (PFm X.K 1) (fldsN ["given"]) :=
  mkOk1 (st := (inClass (top 20) 0)) T ⟨⟨_, rfl, rfl⟩, rfl, rfl, rfl, fa1 ⟨rfl, by decide, by decide⟩, rfl, by decide, rfl, rfl⟩ hno rfl (fun _ _ _ _ _ _ _ => rfl) (fun _ _ _ _ _ => msg_const) (fun _ => rfl)
theorem mk_BadStep (T : SxC X.prog X.K C fI cc cda "BadStep.__init__" (defArgs (inClass (top 21) 0)) (defBody (inClass (top 21) 0)) (defScope (inClass (top 21) 0))) (hno : PySem.W.findIn X.K (.ref C) "given" = some none) : MkOk X C fI (PFm X.K 1) (fldsN ["given"]) :=
  mkOk1 (st := (inClass (top 21) 0)) T ⟨⟨_, rfl, rfl⟩, rfl, rfl, rfl, fa1 ⟨rfl, by decide, by decide⟩, rfl, by decide, rfl, rfl⟩ hno rfl (fun _ _ _ _ _ _ _ => rfl) (fun _ _ _ _ _ => msg_const) (fun _ => rfl)
theorem mk_TooMany (T : SxC X.prog X.K C fI cc cda "TooMany.__init__" (defArgs (inClass (top 22) 0)) (defBody (inClass (top 22) 0)) (defScope (inClass (top 22) 0))) (hno : PySem.W.findIn X.K (.ref C) "what" = some none) : MkOk X C fI (PFm X.K 1) (fldsN ["what"]) :=
  mkOk1 (st := (inClass (top 22) 0)) T ⟨⟨_, rfl, rfl⟩, rfl, rfl, rfl, fa1 ⟨rfl, by decide, by decide⟩, rfl, by decide, rfl, rfl⟩ hno rfl (fun _ _ _ _ _ _ _ => rfl) (fun m v h0 h1 f1 => msg_joined (all2 (part_const (by decide +kernel)) (part_fv h1 f1 (fun _ => rfl) (fun _ => rfl) (fun _ => rfl) (by decide))) (by decide)) (fun _ => rfl)
theorem mk_NoGood (T : SxC X.prog X.K C fI cc cda "NoGood.__init__" (defArgs (inClass (top 23) 0)) (defBody (inClass (top 23) 0)) (defScope (inClass (top 23) 0))) : InitOk0 X.prog X.w X.K X.mg C fI :=
  mkOk0 (st := (inClass (top 23) 0)) T ⟨⟨_, rfl, rfl⟩, rfl, rfl, rfl, fa0, rfl, by decide, rfl, rfl⟩ rfl (fun _ _ _ _ _ _ => rfl) (fun _ _ => msg_const) (fun _ => rfl)
end
end My
namespace My
open PySem PySem.Spec PyProof.Rows Sx L2
abbrev sFirst : Stmt := top 30
abbrev sSecond : Stmt := top 31
/-- an own exception class of the text -/
structure OneC (P : Program) (K : PySem.W.Frag) (mg : Str → Option Value) (x qual : Str) (st : Stmt) (names : List Str) (C : Addr) : Prop where
  ex : ∃ fI cc cda, SxC P K C fI cc cda qual (defArgs st) (defBody st) (defScope st)
  g : mg x = some (.ref C)
  nf : ∀ f ∈ names, PySem.W.findIn K (.ref C) f = some none
/-- the name of a class's first field -/
def fname (k : Nat) : Str := match k with
  | 0 => "name"
  | 1 => "at"
  | 2 => "part"
  | 3 => "part"
  | 4 => "part"
  | 5 => "at"
  | 6 => "name"
  | 7 => "at"
  | 8 => "name"
  | 9 => "name"
  | 10 => "at"
  | 11 => "name"
  | 12 => "given"
  | 13 => "part"
  | 14 => "at"
  | 15 => "name"
  | 16 => "part"
  | 17 => ""
  | 18 => "given"
  | 19 => "given"
  | 20 => "what"
  | 21 => ""
  | _ => ""
def fieldsOf (k : Nat) (one other : V) : List (Str × V) := if k = 5 then [("at", one), ("part", other)] else [(fname k, one)]
/-- the 22 classes of the text -/
structure All22 (P : Program) (K : PySem.W.Frag) (mg : Str → Option Value) (Cs : Nat → Addr) : Prop where
  c0 : OneC P K mg "BadName" "BadName.__init__" (inClass (top 2) 0) ["name"] (Cs 0)
  c1 : OneC P K mg "BadRow" "BadRow.__init__" (inClass (top 3) 0) ["at"] (Cs 1)
  c2 : OneC P K mg "BadMethod" "BadMethod.__init__" (inClass (top 4) 0) ["part"] (Cs 2)
  c3 : OneC P K mg "BadCarry" "BadCarry.__init__" (inClass (top 5) 0) ["part"] (Cs 3)
  c4 : OneC P K mg "BadKind" "BadKind.__init__" (inClass (top 6) 0) ["part"] (Cs 4)
  c5 : OneC P K mg "BadLibrary" "BadLibrary.__init__" (inClass (top 7) 0) ["at", "part"] (Cs 5)
  c6 : OneC P K mg "NoKind" "NoKind.__init__" (inClass (top 8) 0) ["name"] (Cs 6)
  c7 : OneC P K mg "BadText" "BadText.__init__" (inClass (top 9) 0) ["at"] (Cs 7)
  c8 : OneC P K mg "NoMethod" "NoMethod.__init__" (inClass (top 10) 0) ["name"] (Cs 8)
  c9 : OneC P K mg "BadCall" "BadCall.__init__" (inClass (top 11) 0) ["name"] (Cs 9)
  c10 : OneC P K mg "BadValue" "BadValue.__init__" (inClass (top 12) 0) ["at"] (Cs 10)
  c11 : OneC P K mg "NotNow" "NotNow.__init__" (inClass (top 13) 0) ["name"] (Cs 11)
  c12 : OneC P K mg "BadState" "BadState.__init__" (inClass (top 14) 0) ["given"] (Cs 12)
  c13 : OneC P K mg "BadPassage" "BadPassage.__init__" (inClass (top 15) 0) ["part"] (Cs 13)
  c14 : OneC P K mg "BadSaved" "BadSaved.__init__" (inClass (top 16) 0) ["at"] (Cs 14)
  c15 : OneC P K mg "NoField" "NoField.__init__" (inClass (top 17) 0) ["name"] (Cs 15)
  c16 : OneC P K mg "BadCallers" "BadCallers.__init__" (inClass (top 18) 0) ["part"] (Cs 16)
  c17 : OneC P K mg "UnlikeFaces" "UnlikeFaces.__init__" (inClass (top 19) 0) [] (Cs 17)
  c18 : OneC P K mg "BadJoint" "BadJoint.__init__" (inClass (top 20) 0) ["given"] (Cs 18)
  c19 : OneC P K mg "BadStep" "BadStep.__init__" (inClass (top 21) 0) ["given"] (Cs 19)
  c20 : OneC P K mg "TooMany" "TooMany.__init__" (inClass (top 22) 0) ["what"] (Cs 20)
  c21 : OneC P K mg "NoGood" "NoGood.__init__" (inClass (top 23) 0) [] (Cs 21)
section
variable {X : Cx} {C : Addr} {e : Expr} {es : List Expr} {ta : TA} {p pos : Pos} {k : Nat}
theorem pm_BadName (O : OneC X.prog X.K X.mg "BadName" "BadName.__init__" (inClass (top 2) 0) ["name"] C) (hr : Room (k + 1) X.A) (ha : PA X (e :: es) ta) (hg : Gl X "BadName" := by rfl) (he : starEach (e :: es) X.env = (false, eval e X.env) :: starEach es X.env := by rfl) (hpl : (backTo pos (starEach es X.env)).any (·.1) = false := by rfl) :
    L2N.PMk X (.Call (.Name "BadName" p) (e :: es) [] pos) (tMkSx C (PFm X.K 1) (fldsN ["name"]) ta) := by
  obtain ⟨_, _, _, T⟩ := O.ex
  exact pmk_sx T (mk_BadName T (O.nf _ List.mem_cons_self)) hr ha O.g hg (by decide) he hpl
theorem pm_BadRow (O : OneC X.prog X.K X.mg "BadRow" "BadRow.__init__" (inClass (top 3) 0) ["at"] C) (hr : Room (k + 1) X.A) (ha : PA X (e :: es) ta) (hg : Gl X "BadRow" := by rfl) (he : starEach (e :: es) X.env = (false, eval e X.env) :: starEach es X.env := by rfl) (hpl : (backTo pos (starEach es X.env)).any (·.1) = false := by rfl) :
    L2N.PMk X (.Call (.Name "BadRow" p) (e :: es) [] pos) (tMkSx C (PFm X.K 1) (fldsN ["at"]) ta) := by
  obtain ⟨_, _, _, T⟩ := O.ex
  exact pmk_sx T (mk_BadRow T (O.nf _ List.mem_cons_self)) hr ha O.g hg (by decide) he hpl
theorem pm_BadMethod (O : OneC X.prog X.K X.mg "BadMethod" "BadMethod.__init__" (inClass (top 4) 0) ["part"] C) (hr : Room (k + 1) X.A) (ha : PA X (e :: es) ta) (hg : Gl X "BadMethod" := by rfl) (he : starEach (e :: es) X.env = (false, eval e X.env) :: starEach es X.env := by rfl) (hpl : (backTo pos (starEach es X.env)).any (·.1) = false := by rfl) :
    L2N.PMk X (.Call (.Name "BadMethod" p) (e :: es) [] pos) (tMkSx C (PFm X.K 1) (fldsN ["part"]) ta) := by
  obtain ⟨_, _, _, T⟩ := O.ex
  exact pmk_sx T (mk_BadMethod T (O.nf _ List.mem_cons_self)) hr ha O.g hg (by decide) he hpl
theorem pm_BadCarry (O : OneC X.prog X.K X.mg "BadCarry" "BadCarry.__init__" (inClass (top 5) 0) ["part"] C) (hr : Room (k + 1) X.A) (ha : PA X (e :: es) ta) (hg : Gl X "BadCarry" := by rfl) (he : starEach (e :: es) X.env = (false, eval e X.env) :: starEach es X.env := by rfl) (hpl : (backTo pos (starEach es X.env)).any (·.1) = false := by rfl) :
    L2N.PMk X (.Call (.Name "BadCarry" p) (e :: es) [] pos) (tMkSx C (PFm X.K 1) (fldsN ["part"]) ta) := by
  obtain ⟨_, _, _, T⟩ := O.ex
  exact pmk_sx T (mk_BadCarry T (O.nf _ List.mem_cons_self)) hr ha O.g hg (by decide) he hpl
theorem pm_BadKind (O : OneC X.prog X.K X.mg "BadKind" "BadKind.__init__" (inClass (top 6) 0) ["part"] C) (hr : Room (k + 1) X.A) (ha : PA X (e :: es) ta) (hg : Gl X "BadKind" := by rfl) (he : starEach (e :: es) X.env = (false, eval e X.env) :: starEach es X.env := by rfl) (hpl : (backTo pos (starEach es X.env)).any (·.1) = false := by rfl) :
    L2N.PMk X (.Call (.Name "BadKind" p) (e :: es) [] pos) (tMkSx C (PFm X.K 1) (fldsN ["part"]) ta) := by
  obtain ⟨_, _, _, T⟩ := O.ex
  exact pmk_sx T (mk_BadKind T (O.nf _ List.mem_cons_self)) hr ha O.g hg (by decide) he hpl
theorem pm_BadLibrary (O : OneC X.prog X.K X.mg "BadLibrary" "BadLibrary.__init__" (inClass (top 7) 0) ["at", "part"] C) (hr : Room (k + 1) X.A) (ha : PA X (e :: es) ta) (hg : Gl X "BadLibrary" := by rfl) (he : starEach (e :: es) X.env = (false, eval e X.env) :: starEach es X.env := by rfl) (hpl : (backTo pos (starEach es X.env)).any (·.1) = false := by rfl) :
    L2N.PMk X (.Call (.Name "BadLibrary" p) (e :: es) [] pos) (tMkSx C (PFm X.K 2) (fldsN ["at", "part"]) ta) := by
  obtain ⟨_, _, _, T⟩ := O.ex
  exact pmk_sx T (mk_BadLibrary T (O.nf _ List.mem_cons_self) (O.nf _ (List.mem_cons_of_mem _ List.mem_cons_self))) hr ha O.g hg (by decide) he hpl
theorem pm_NoKind (O : OneC X.prog X.K X.mg "NoKind" "NoKind.__init__" (inClass (top 8) 0) ["name"] C) (hr : Room (k + 1) X.A) (ha : PA X (e :: es) ta) (hg : Gl X "NoKind" := by rfl) (he : starEach (e :: es) X.env = (false, eval e X.env) :: starEach es X.env := by rfl) (hpl : (backTo pos (starEach es X.env)).any (·.1) = false := by rfl) :
    L2N.PMk X (.Call (.Name "NoKind" p) (e :: es) [] pos) (tMkSx C (PFm X.K 1) (fldsN ["name"]) ta) := by
  obtain ⟨_, _, _, T⟩ := O.ex
  exact pmk_sx T (mk_NoKind T (O.nf _ List.mem_cons_self)) hr ha O.g hg (by decide) he hpl
theorem pm_BadText (O : OneC X.prog X.K X.mg "BadText" "BadText.__init__" (inClass (top 9) 0) ["at"] C) (hr : Room (k + 1) X.A) (ha : PA X (e :: es) ta) (hg : Gl X "BadText" := by rfl) (he : starEach (e :: es) X.env = (false, eval e X.env) :: starEach es X.env := by rfl) (hpl : (backTo pos (starEach es X.env)).any (·.1) = false := by rfl) :
    L2N.PMk X (.Call (.Name "BadText" p) (e :: es) [] pos) (tMkSx C (PFm X.K 1) (fldsN ["at"]) ta) := by
  obtain ⟨_, _, _, T⟩ := O.ex
  exact pmk_sx T (mk_BadText T (O.nf _ List.mem_cons_self)) hr ha O.g hg (by decide) he hpl
theorem pm_NoMethod (O : OneC X.prog X.K X.mg "NoMethod" "NoMethod.__init__" (inClass (top 10) 0) ["name"] C) (hr : Room (k + 1) X.A) (ha : PA X (e :: es) ta) (hg : Gl X "NoMethod" := by rfl) (he : starEach (e :: es) X.env = (false, eval e X.env) :: starEach es X.env := by rfl) (hpl : (backTo pos (starEach es X.env)).any (·.1) = false := by rfl) :
    L2N.PMk X (.Call (.Name "NoMethod" p) (e :: es) [] pos) (tMkSx C (PFm X.K 1) (fldsN ["name"]) ta) := by
  obtain ⟨_, _, _, T⟩ := O.ex
  exact pmk_sx T (mk_NoMethod T (O.nf _ List.mem_cons_self)) hr ha O.g hg (by decide) he hpl
theorem pm_BadCall (O : OneC X.prog X.K X.mg "BadCall" "BadCall.__init__" (inClass (top 11) 0) ["name"] C) (hr : Room (k + 1) X.A) (ha : PA X (e :: es) ta) (hg : Gl X "BadCall" := by rfl) (he : starEach (e :: es) X.env = (false, eval e X.env) :: starEach es X.env := by rfl) (hpl : (backTo pos (starEach es X.env)).any (·.1) = false := by rfl) :
    L2N.PMk X (.Call (.Name "BadCall" p) (e :: es) [] pos) (tMkSx C (PFm X.K 1) (fldsN ["name"]) ta) := by
  obtain ⟨_, _, _, T⟩ := O.ex
  exact pmk_sx T (mk_BadCall T (O.nf _ List.mem_cons_self)) hr ha O.g hg (by decide) he hpl
theorem pm_BadValue (O : OneC X.prog X.K X.mg "BadValue" "BadValue.__init__" (inClass (top 12) 0) ["at"] C) (hr : Room (k + 1) X.A) (ha : PA X (e :: es) ta) (hg : Gl X "BadValue" := by rfl) (he : starEach (e :: es) X.env = (false, eval e X.env) :: starEach es X.env := by rfl) (hpl : (backTo pos (starEach es X.env)).any (·.1) = false := by rfl) :
    L2N.PMk X (.Call (.Name "BadValue" p) (e :: es) [] pos) (tMkSx C (PFm X.K 1) (fldsN ["at"]) ta) := by
  obtain ⟨_, _, _, T⟩ := O.ex
  exact pmk_sx T (mk_BadValue T (O.nf _ List.mem_cons_self)) hr ha O.g hg (by decide) he hpl
theorem pm_NotNow (O : OneC X.prog X.K X.mg "NotNow" "NotNow.__init__" (inClass (top 13) 0) ["name"] C) (hr : Room (k + 1) X.A) (ha : PA X (e :: es) ta) (hg : Gl X "NotNow" := by rfl) (he : starEach (e :: es) X.env = (false, eval e X.env) :: starEach es X.env := by rfl) (hpl : (backTo pos (starEach es X.env)).any (·.1) = false := by rfl) :
    L2N.PMk X (.Call (.Name "NotNow" p) (e :: es) [] pos) (tMkSx C (PFm X.K 1) (fldsN ["name"]) ta) := by
  obtain ⟨_, _, _, T⟩ := O.ex
  exact pmk_sx T (mk_NotNow T (O.nf _ List.mem_cons_self)) hr ha O.g hg (by decide) he hpl
theorem pm_BadState (O : OneC X.prog X.K X.mg "BadState" "BadState.__init__" (inClass (top 14) 0) ["given"] C) (hr : Room (k + 1) X.A) (ha : PA X (e :: es) ta) (hg : Gl X "BadState" := by rfl) (he : starEach (e :: es) X.env = (false, eval e X.env) :: starEach es X.env := by rfl) (hpl : (backTo pos (starEach es X.env)).any (·.1) = false := by rfl) :
    L2N.PMk X (.Call (.Name "BadState" p) (e :: es) [] pos) (tMkSx C (PFm X.K 1) (fldsN ["given"]) ta) := by
  obtain ⟨_, _, _, T⟩ := O.ex
  exact pmk_sx T (mk_BadState T (O.nf _ List.mem_cons_self)) hr ha O.g hg (by decide) he hpl
theorem pm_BadPassage (O : OneC X.prog X.K X.mg "BadPassage" "BadPassage.__init__" (inClass (top 15) 0) ["part"] C) (hr : Room (k + 1) X.A) (ha : PA X (e :: es) ta) (hg : Gl X "BadPassage" := by rfl) (he : starEach (e :: es) X.env = (false, eval e X.env) :: starEach es X.env := by rfl) (hpl : (backTo pos (starEach es X.env)).any (·.1) = false := by rfl) :
    L2N.PMk X (.Call (.Name "BadPassage" p) (e :: es) [] pos) (tMkSx C (PFm X.K 1) (fldsN ["part"]) ta) := by
  obtain ⟨_, _, _, T⟩ := O.ex
  exact pmk_sx T (mk_BadPassage T (O.nf _ List.mem_cons_self)) hr ha O.g hg (by decide) he hpl
theorem pm_BadSaved (O : OneC X.prog X.K X.mg "BadSaved" "BadSaved.__init__" (inClass (top 16) 0) ["at"] C) (hr : Room (k + 1) X.A) (ha : PA X (e :: es) ta) (hg : Gl X "BadSaved" := by rfl) (he : starEach (e :: es) X.env = (false, eval e X.env) :: starEach es X.env := by rfl) (hpl : (backTo pos (starEach es X.env)).any (·.1) = false := by rfl) :
    L2N.PMk X (.Call (.Name "BadSaved" p) (e :: es) [] pos) (tMkSx C (PFm X.K 1) (fldsN ["at"]) ta) := by
  obtain ⟨_, _, _, T⟩ := O.ex
  exact pmk_sx T (mk_BadSaved T (O.nf _ List.mem_cons_self)) hr ha O.g hg (by decide) he hpl
theorem pm_NoField (O : OneC X.prog X.K X.mg "NoField" "NoField.__init__" (inClass (top 17) 0) ["name"] C) (hr : Room (k + 1) X.A) (ha : PA X (e :: es) ta) (hg : Gl X "NoField" := by rfl) (he : starEach (e :: es) X.env = (false, eval e X.env) :: starEach es X.env := by rfl) (hpl : (backTo pos (starEach es X.env)).any (·.1) = false := by rfl) :
    L2N.PMk X (.Call (.Name "NoField" p) (e :: es) [] pos) (tMkSx C (PFm X.K 1) (fldsN ["name"]) ta) := by
  obtain ⟨_, _, _, T⟩ := O.ex
  exact pmk_sx T (mk_NoField T (O.nf _ List.mem_cons_self)) hr ha O.g hg (by decide) he hpl
theorem pm_BadCallers (O : OneC X.prog X.K X.mg "BadCallers" "BadCallers.__init__" (inClass (top 18) 0) ["part"] C) (hr : Room (k + 1) X.A) (ha : PA X (e :: es) ta) (hg : Gl X "BadCallers" := by rfl) (he : starEach (e :: es) X.env = (false, eval e X.env) :: starEach es X.env := by rfl) (hpl : (backTo pos (starEach es X.env)).any (·.1) = false := by rfl) :
    L2N.PMk X (.Call (.Name "BadCallers" p) (e :: es) [] pos) (tMkSx C (PFm X.K 1) (fldsN ["part"]) ta) := by
  obtain ⟨_, _, _, T⟩ := O.ex
  exact pmk_sx T (mk_BadCallers T (O.nf _ List.mem_cons_self)) hr ha O.g hg (by decide) he hpl
theorem pm_UnlikeFaces (O : OneC X.prog X.K X.mg "UnlikeFaces" "UnlikeFaces.__init__" (inClass (top 19) 0) [] C) (hr : Room (k + 1) X.A) (hg : Gl X "UnlikeFaces" := by rfl) : L2N.PMk X (.Call (.Name "UnlikeFaces" p) [] [] pos) (fun _ H Q => Q (.ref C) none H) := by
  obtain ⟨_, _, _, T⟩ := O.ex
  exact pmk_sx0 T (mk_UnlikeFaces T) hr O.g hg (by decide)
theorem pm_BadJoint (O : OneC X.prog X.K X.mg "BadJoint" "BadJoint.__init__" (inClass (top 20) 0) ["given"] C) (hr : Room (k + 1) X.A) (ha : PA X (e :: es) ta) (hg : Gl X "BadJoint" := by rfl) (he : starEach (e :: es) X.env = (false, eval e X.env) :: starEach es X.env := by rfl) (hpl : (backTo pos (starEach es X.env)).any (·.1) = false := by rfl) :
    L2N.PMk X (.Call (.Name "BadJoint" p) (e :: es) [] pos) (tMkSx C (PFm X.K 1) (fldsN ["given"]) ta) := by
  obtain ⟨_, _, _, T⟩ := O.ex
  exact pmk_sx T (mk_BadJoint T (O.nf _ List.mem_cons_self)) hr ha O.g hg (by decide) he hpl
theorem pm_BadStep (O : OneC X.prog X.K X.mg "BadStep" "BadStep.__init__" (inClass (top 21) 0) ["given"] C) (hr : Room (k + 1) X.A) (ha : PA X (e :: es) ta) (hg : Gl X "BadStep" := by rfl) (he : starEach (e :: es) X.env = (false, eval e X.env) :: starEach es X.env := by rfl) (hpl : (backTo pos (starEach es X.env)).any (·.1) = false := by rfl) :
    L2N.PMk X (.Call (.Name "BadStep" p) (e :: es) [] pos) (tMkSx C (PFm X.K 1) (fldsN ["given"]) ta) := by
  obtain ⟨_, _, _, T⟩ := O.ex
  exact pmk_sx T (mk_BadStep T (O.nf _ List.mem_cons_self)) hr ha O.g hg (by decide) he hpl
theorem pm_TooMany (O : OneC X.prog X.K X.mg "TooMany" "TooMany.__init__" (inClass (top 22) 0) ["what"] C) (hr : Room (k + 1) X.A) (ha : PA X (e :: es) ta) (hg : Gl X "TooMany" := by rfl) (he : starEach (e :: es) X.env = (false, eval e X.env) :: starEach es X.env := by rfl) (hpl : (backTo pos (starEach es X.env)).any (·.1) = false := by rfl) :
    L2N.PMk X (.Call (.Name "TooMany" p) (e :: es) [] pos) (tMkSx C (PFm X.K 1) (fldsN ["what"]) ta) := by
  obtain ⟨_, _, _, T⟩ := O.ex
  exact pmk_sx T (mk_TooMany T (O.nf _ List.mem_cons_self)) hr ha O.g hg (by decide) he hpl
theorem pm_NoGood (O : OneC X.prog X.K X.mg "NoGood" "NoGood.__init__" (inClass (top 23) 0) [] C) (hr : Room (k + 1) X.A) (hg : Gl X "NoGood" := by rfl) : L2N.PMk X (.Call (.Name "NoGood" p) [] [] pos) (fun _ H Q => Q (.ref C) none H) := by
  obtain ⟨_, _, _, T⟩ := O.ex
  exact pmk_sx0 T (mk_NoGood T) hr O.g hg (by decide)
end
/-- a def that may raise (its exceptions without a context) -/
theorem okN {P : Program} {w : World} {K : PySem.W.Frag} {mg : Str → Option Value} {base : Heap} {x qual : Str} {st : Stmt} {f : Addr} {fd : FuncData} {N ps : List Str} {k : Nat} {sp : Sp} (F : Fun K x qual st f fd) (S : FnScope N ps (defScope st)) (len : ∀ vs H Q E, sp vs H Q E → vs.length = ps.length)
    (hb : ∀ (cdv : Value) (A : Around) (outer : List Env) (s : Shared) (H : Hp) (vs : List V) (Q : VK) (E : XK), Room k (A.deeper (envOfC qual (defScope st) s.heap.objs.size f cdv)) → sp vs H Q E →
      ∃ t, PSs (cxOf (L2N.CX P w) P w K mg base N qual (defScope st) f cdv A outer s H E) (defBody st) t ∧ t { nx := fun _ H' => Q .non H', rt := Q } (L2.start N vs) H) : FnOk P w K mg base (L2N.CX P w) (k + 1) f fd ps sp := by
  obtain ⟨_, _, _, _, _, _, _, _, _, rfl, l1, l2⟩ := F.ex
  exact fn_of l1 l2 S len fun A outer s H vs Q E r1 r2 => hb _ A outer s H vs Q E r1 r2
def Ex (Cs : Nat → Addr) (E : XK) (H : Hp) (k : Nat) (one other : V) : Prop :=
  (k = 17 ∨ k = 21 → E (.ref (Cs k)) none H) ∧ (k ≠ 17 → k ≠ 21 → ∀ d, H d = none → E (.ref (Cs k)) (some d) (upd H d (.xd (fieldsOf k one other))))
def spFirst (K : PySem.W.Frag) (Cs : Nat → Addr) : Sp := fun vs H Q E => ∃ (k : Nat) (one other : V), vs = [.int k, one, other] ∧ k < 22 ∧ FmV K H one ∧ FmV K H other ∧ (k ≤ 10 → Ex Cs E H k one other) ∧ (10 < k → Q .non H)
def spSecond (K : PySem.W.Frag) (Cs : Nat → Addr) : Sp := fun vs H _ E => ∃ (k : Nat) (one other : V), vs = [.int k, one, other] ∧ 10 < k ∧ k < 22 ∧ FmV K H one ∧ FmV K H other ∧ Ex Cs E H k one other
theorem ite_pos' {c : Prop} [Decidable c] {A B : Prop} (h : c) (a : A) : if c then A else B := by
  rw [if_pos h]
  exact a
theorem ite_neg' {c : Prop} [Decidable c] {A B : Prop} (h : ¬ c) (a : B) : if c then A else B := by
  rw [if_neg h]
  exact a
theorem if_raise {z : Nat} {k : Nat} {one other : V} {tr rest : TS} {D : Ends} {H : Hp} (h1 : k = z → ∀ D', tr D' [some (.int k), some one, some other] H) (h2 : k ≠ z → rest D [some (.int k), some one, some other] H) :
    tSeq (tIfS (tTest (tOp rEq (tVar 0) (tC (.int z)))) tr tNext) rest D [some (.int k), some one, some other] H := by
  refine ⟨_, rfl, rfl, _, rfl, ?_⟩
  by_cases h : k = z
  · exact ite_pos' (by simp [h]) (h1 h _)
  · exact ite_neg' (by simp; omega) (h2 h)
theorem if_raise1 {z : Nat} {k : Nat} {one other : V} {tr : TS} {D : Ends} {H : Hp} (h1 : k = z → ∀ D', tr D' [some (.int k), some one, some other] H) (h2 : k ≠ z → D.nx [some (.int k), some one, some other] H) :
    tIfS (tTest (tOp rEq (tVar 0) (tC (.int z)))) tr tNext D [some (.int k), some one, some other] H := by
  refine ⟨_, rfl, rfl, _, rfl, ?_⟩
  by_cases h : k = z
  · exact ite_pos' (by simp [h]) (h1 h _)
  · exact ite_neg' (by simp; omega) (h2 h)
section
variable {P : Program} {w : World} {K : PySem.W.Frag} {mg : Str → Option Value} {base : Heap} {Cs : Nat → Addr}
theorem pf1 {one : V} {H : Hp} (h : FmV K H one) : PFm K 1 [one] H := ⟨rfl, fun v hv => (List.mem_singleton.mp hv) ▸ h⟩
theorem pf2 {one other : V} {H : Hp} (h : FmV K H one) (h' : FmV K H other) : PFm K 2 [one, other] H := ⟨rfl, fun v hv => by
  rcases List.mem_cons.mp hv with rfl | hv
  · exact h
  · exact (List.mem_singleton.mp hv) ▸ h'⟩
theorem scFirst : FnScope ["k", "one", "other"] ["k", "one", "other"] (defScope sFirst) := ⟨rfl, rfl, rfl, by decide +kernel, rfl, by decide +kernel, by decide +kernel⟩
theorem scSecond : FnScope ["k", "one", "other"] ["k", "one", "other"] (defScope sSecond) := ⟨rfl, rfl, rfl, by decide +kernel, rfl, by decide +kernel, by decide +kernel⟩
theorem cl_first (D : DefAt K mg "_law_raise_first" sFirst ["k", "one", "other"]) (A22 : All22 P K mg Cs) : Cl P w K mg base (L2N.CX P w) 2 "_law_raise_first" (spFirst K Cs) := by
  obtain ⟨f, fd, F, g, b⟩ := D.ex
  refine ⟨f, fd, _, okN F scFirst (fun vs H Q E h => ?_) (fun cdv A outer s H vs Q E hr h => ?_), g, F.kp, b⟩
  · obtain ⟨k, one, other, rfl, _⟩ := h
    rfl
  · obtain ⟨k, one, other, rfl, hk, f1, f2, hE, hQ⟩ := h
    refine ⟨_, (pss_cons (ps_if (pt_cmpR op_eq (pv 0) pe_int (nomark _)) (pss_one (L2N.ps_raise rfl (L2N.takes_of rfl rfl rfl rfl) (pm_BadName A22.c0 hr (pa_cons (pv 1) pa_nil)))) pss_nil)
      (pss_cons (ps_if (pt_cmpR op_eq (pv 0) pe_int (nomark _)) (pss_one (L2N.ps_raise rfl (L2N.takes_of rfl rfl rfl rfl) (pm_BadRow A22.c1 hr (pa_cons (pv 1) pa_nil)))) pss_nil)
      (pss_cons (ps_if (pt_cmpR op_eq (pv 0) pe_int (nomark _)) (pss_one (L2N.ps_raise rfl (L2N.takes_of rfl rfl rfl rfl) (pm_BadMethod A22.c2 hr (pa_cons (pv 1) pa_nil)))) pss_nil)
      (pss_cons (ps_if (pt_cmpR op_eq (pv 0) pe_int (nomark _)) (pss_one (L2N.ps_raise rfl (L2N.takes_of rfl rfl rfl rfl) (pm_BadCarry A22.c3 hr (pa_cons (pv 1) pa_nil)))) pss_nil)
      (pss_cons (ps_if (pt_cmpR op_eq (pv 0) pe_int (nomark _)) (pss_one (L2N.ps_raise rfl (L2N.takes_of rfl rfl rfl rfl) (pm_BadKind A22.c4 hr (pa_cons (pv 1) pa_nil)))) pss_nil)
      (pss_cons (ps_if (pt_cmpR op_eq (pv 0) pe_int (nomark _)) (pss_one (L2N.ps_raise rfl (L2N.takes_of rfl rfl rfl rfl) (pm_BadLibrary A22.c5 hr (pa_cons (pv 1) (pa_cons (pv 2) pa_nil))))) pss_nil)
      (pss_cons (ps_if (pt_cmpR op_eq (pv 0) pe_int (nomark _)) (pss_one (L2N.ps_raise rfl (L2N.takes_of rfl rfl rfl rfl) (pm_NoKind A22.c6 hr (pa_cons (pv 1) pa_nil)))) pss_nil)
      (pss_cons (ps_if (pt_cmpR op_eq (pv 0) pe_int (nomark _)) (pss_one (L2N.ps_raise rfl (L2N.takes_of rfl rfl rfl rfl) (pm_BadText A22.c7 hr (pa_cons (pv 1) pa_nil)))) pss_nil)
      (pss_cons (ps_if (pt_cmpR op_eq (pv 0) pe_int (nomark _)) (pss_one (L2N.ps_raise rfl (L2N.takes_of rfl rfl rfl rfl) (pm_NoMethod A22.c8 hr (pa_cons (pv 1) pa_nil)))) pss_nil)
      (pss_cons (ps_if (pt_cmpR op_eq (pv 0) pe_int (nomark _)) (pss_one (L2N.ps_raise rfl (L2N.takes_of rfl rfl rfl rfl) (pm_BadCall A22.c9 hr (pa_cons (pv 1) pa_nil)))) pss_nil)
      (pss_one (ps_if (pt_cmpR op_eq (pv 0) pe_int (nomark _)) (pss_one (L2N.ps_raise rfl (L2N.takes_of rfl rfl rfl rfl) (pm_BadValue A22.c10 hr (pa_cons (pv 1) pa_nil)))) pss_nil)))))))))))), ?_⟩
    refine if_raise (z := 0) (fun h D2 => by subst h; exact ⟨_, rfl, pf1 f1, (by show 1 ≤ 1000; decide), fun d hd => (hE (by decide)).2 (by decide) (by decide) d hd⟩) (fun n0 => ?_)
    refine if_raise (z := 1) (fun h D2 => by subst h; exact ⟨_, rfl, pf1 f1, (by show 1 ≤ 1000; decide), fun d hd => (hE (by decide)).2 (by decide) (by decide) d hd⟩) (fun n1 => ?_)
    refine if_raise (z := 2) (fun h D2 => by subst h; exact ⟨_, rfl, pf1 f1, (by show 1 ≤ 1000; decide), fun d hd => (hE (by decide)).2 (by decide) (by decide) d hd⟩) (fun n2 => ?_)
    refine if_raise (z := 3) (fun h D2 => by subst h; exact ⟨_, rfl, pf1 f1, (by show 1 ≤ 1000; decide), fun d hd => (hE (by decide)).2 (by decide) (by decide) d hd⟩) (fun n3 => ?_)
    refine if_raise (z := 4) (fun h D2 => by subst h; exact ⟨_, rfl, pf1 f1, (by show 1 ≤ 1000; decide), fun d hd => (hE (by decide)).2 (by decide) (by decide) d hd⟩) (fun n4 => ?_)
    refine if_raise (z := 5) (fun h D2 => by subst h; exact ⟨_, rfl, _, rfl, pf2 f1 f2, (by show 2 ≤ 1000; decide), fun d hd => (hE (by decide)).2 (by decide) (by decide) d hd⟩) (fun n5 => ?_)
    refine if_raise (z := 6) (fun h D2 => by subst h; exact ⟨_, rfl, pf1 f1, (by show 1 ≤ 1000; decide), fun d hd => (hE (by decide)).2 (by decide) (by decide) d hd⟩) (fun n6 => ?_)
    refine if_raise (z := 7) (fun h D2 => by subst h; exact ⟨_, rfl, pf1 f1, (by show 1 ≤ 1000; decide), fun d hd => (hE (by decide)).2 (by decide) (by decide) d hd⟩) (fun n7 => ?_)
    refine if_raise (z := 8) (fun h D2 => by subst h; exact ⟨_, rfl, pf1 f1, (by show 1 ≤ 1000; decide), fun d hd => (hE (by decide)).2 (by decide) (by decide) d hd⟩) (fun n8 => ?_)
    refine if_raise (z := 9) (fun h D2 => by subst h; exact ⟨_, rfl, pf1 f1, (by show 1 ≤ 1000; decide), fun d hd => (hE (by decide)).2 (by decide) (by decide) d hd⟩) (fun n9 => ?_)
    refine if_raise1 (z := 10) (fun h D2 => by subst h; exact ⟨_, rfl, pf1 f1, (by show 1 ≤ 1000; decide), fun d hd => (hE (by decide)).2 (by decide) (by decide) d hd⟩) (fun n10 => ?_)
    exact hQ (by omega)
theorem cl_second (D : DefAt K mg "_law_raise_second" sSecond ["k", "one", "other"]) (A22 : All22 P K mg Cs) : Cl P w K mg base (L2N.CX P w) 2 "_law_raise_second" (spSecond K Cs) := by
  obtain ⟨f, fd, F, g, b⟩ := D.ex
  refine ⟨f, fd, _, okN F scSecond (fun vs H Q E h => ?_) (fun cdv A outer s H vs Q E hr h => ?_), g, F.kp, b⟩
  · obtain ⟨k, one, other, rfl, _⟩ := h
    rfl
  · obtain ⟨k, one, other, rfl, h10, hk, f1, f2, hE⟩ := h
    refine ⟨_, (pss_cons (ps_if (pt_cmpR op_eq (pv 0) pe_int (nomark _)) (pss_one (L2N.ps_raise rfl (L2N.takes_of rfl rfl rfl rfl) (pm_NotNow A22.c11 hr (pa_cons (pv 1) pa_nil)))) pss_nil)
      (pss_cons (ps_if (pt_cmpR op_eq (pv 0) pe_int (nomark _)) (pss_one (L2N.ps_raise rfl (L2N.takes_of rfl rfl rfl rfl) (pm_BadState A22.c12 hr (pa_cons (pv 1) pa_nil)))) pss_nil)
      (pss_cons (ps_if (pt_cmpR op_eq (pv 0) pe_int (nomark _)) (pss_one (L2N.ps_raise rfl (L2N.takes_of rfl rfl rfl rfl) (pm_BadPassage A22.c13 hr (pa_cons (pv 1) pa_nil)))) pss_nil)
      (pss_cons (ps_if (pt_cmpR op_eq (pv 0) pe_int (nomark _)) (pss_one (L2N.ps_raise rfl (L2N.takes_of rfl rfl rfl rfl) (pm_BadSaved A22.c14 hr (pa_cons (pv 1) pa_nil)))) pss_nil)
      (pss_cons (ps_if (pt_cmpR op_eq (pv 0) pe_int (nomark _)) (pss_one (L2N.ps_raise rfl (L2N.takes_of rfl rfl rfl rfl) (pm_NoField A22.c15 hr (pa_cons (pv 1) pa_nil)))) pss_nil)
      (pss_cons (ps_if (pt_cmpR op_eq (pv 0) pe_int (nomark _)) (pss_one (L2N.ps_raise rfl (L2N.takes_of rfl rfl rfl rfl) (pm_BadCallers A22.c16 hr (pa_cons (pv 1) pa_nil)))) pss_nil)
      (pss_cons (ps_if (pt_cmpR op_eq (pv 0) pe_int (nomark _)) (pss_one (L2N.ps_raise rfl (L2N.takes_of rfl rfl rfl rfl) (pm_UnlikeFaces A22.c17 hr))) pss_nil)
      (pss_cons (ps_if (pt_cmpR op_eq (pv 0) pe_int (nomark _)) (pss_one (L2N.ps_raise rfl (L2N.takes_of rfl rfl rfl rfl) (pm_BadJoint A22.c18 hr (pa_cons (pv 1) pa_nil)))) pss_nil)
      (pss_cons (ps_if (pt_cmpR op_eq (pv 0) pe_int (nomark _)) (pss_one (L2N.ps_raise rfl (L2N.takes_of rfl rfl rfl rfl) (pm_BadStep A22.c19 hr (pa_cons (pv 1) pa_nil)))) pss_nil)
      (pss_cons (ps_if (pt_cmpR op_eq (pv 0) pe_int (nomark _)) (pss_one (L2N.ps_raise rfl (L2N.takes_of rfl rfl rfl rfl) (pm_TooMany A22.c20 hr (pa_cons (pv 1) pa_nil)))) pss_nil)
      (pss_one (L2N.ps_raise rfl (L2N.takes_of rfl rfl rfl rfl) (pm_NoGood A22.c21 hr))))))))))))), ?_⟩
    refine if_raise (z := 11) (fun h D2 => by subst h; exact ⟨_, rfl, pf1 f1, (by show 1 ≤ 1000; decide), fun d hd => (hE).2 (by decide) (by decide) d hd⟩) (fun n11 => ?_)
    refine if_raise (z := 12) (fun h D2 => by subst h; exact ⟨_, rfl, pf1 f1, (by show 1 ≤ 1000; decide), fun d hd => (hE).2 (by decide) (by decide) d hd⟩) (fun n12 => ?_)
    refine if_raise (z := 13) (fun h D2 => by subst h; exact ⟨_, rfl, pf1 f1, (by show 1 ≤ 1000; decide), fun d hd => (hE).2 (by decide) (by decide) d hd⟩) (fun n13 => ?_)
    refine if_raise (z := 14) (fun h D2 => by subst h; exact ⟨_, rfl, pf1 f1, (by show 1 ≤ 1000; decide), fun d hd => (hE).2 (by decide) (by decide) d hd⟩) (fun n14 => ?_)
    refine if_raise (z := 15) (fun h D2 => by subst h; exact ⟨_, rfl, pf1 f1, (by show 1 ≤ 1000; decide), fun d hd => (hE).2 (by decide) (by decide) d hd⟩) (fun n15 => ?_)
    refine if_raise (z := 16) (fun h D2 => by subst h; exact ⟨_, rfl, pf1 f1, (by show 1 ≤ 1000; decide), fun d hd => (hE).2 (by decide) (by decide) d hd⟩) (fun n16 => ?_)
    refine if_raise (z := 17) (fun h D2 => by subst h; exact hE.1 (by decide)) (fun n17 => ?_)
    refine if_raise (z := 18) (fun h D2 => by subst h; exact ⟨_, rfl, pf1 f1, (by show 1 ≤ 1000; decide), fun d hd => (hE).2 (by decide) (by decide) d hd⟩) (fun n18 => ?_)
    refine if_raise (z := 19) (fun h D2 => by subst h; exact ⟨_, rfl, pf1 f1, (by show 1 ≤ 1000; decide), fun d hd => (hE).2 (by decide) (by decide) d hd⟩) (fun n19 => ?_)
    refine if_raise (z := 20) (fun h D2 => by subst h; exact ⟨_, rfl, pf1 f1, (by show 1 ≤ 1000; decide), fun d hd => (hE).2 (by decide) (by decide) d hd⟩) (fun n20 => ?_)
    have e : k = 21 := by omega
    subst e
    exact hE.1 (by decide)
end
end My
namespace My
open PySem PySem.Spec PyProof.Rows Sx L2
theorem goes_hot {prog : Program} {w : World} {A : Around} {x1 : Addr} {x : Str} {pos : Pos} (it : Addr) (n : Nat) :
    Goes prog w A (.Name x pos) it [it, x1] [it] n (fun i v _ => ∃ t, v = .int ((i : Nat) : Int) t) (fun i h => IsRangeIter h it ((i : Nat) : Int) ((n : Int) - ((i : Nat) : Int)) 1 ∧ HotX.HotAt A x1 h ∧ x1 ≠ it) where
  sub := fun b hb => by rw [List.mem_singleton.mp hb]; exact List.mem_cons_self
  frame := fun i h h' st k => by
    obtain ⟨a, ⟨hh, o, vs, b1, b2, b3⟩, c⟩ := st
    exact ⟨k it List.mem_cons_self _ a, ⟨hh, o, vs, k x1 (List.mem_cons_of_mem _ List.mem_cons_self) _ b1, b2, b3⟩, c⟩
  goes := fun i s Q E hi st hQ => by
    obtain ⟨a, ⟨hh, o, vs, b1, b2, b3⟩, ne⟩ := st
    refine wpAny_pyNext_range_item a (by omega) fun h' st' sb => ⟨_, rfl, go_of (n := "range_iterator") st' rfl rfl (by decide) (hQ _ h' _ ⟨_, rfl⟩ ⟨?_, ⟨hh, o, vs, (sb.2 x1 ne).trans b1, b2, b3⟩, ne⟩ (fun b u hb e => (sb.2 b fun z => hb (z ▸ List.mem_singleton_self _)).trans e) (Nat.le_succ _))⟩
    have e1 : ((i : Nat) : Int) + 1 = (((i + 1 : Nat)) : Int) := by omega
    have e2 : (n : Int) - ((i : Nat) : Int) - 1 = (n : Int) - (((i + 1 : Nat)) : Int) := by omega
    rw [e1, e2] at st'
    exact st'
  stops := fun s Q E st hQ => by
    obtain ⟨a, hot, ne⟩ := st
    exact HotX.pyNext_range_end_hot hot a (by omega) fun h' eb => ⟨rfl, hQ h' s.toks (fun b u _ e => eb b u e) (Nat.le_refl _)⟩
  self := fun i s Q E st h => wpAny_pyIter_rangeiter st.1 h
/-- the scope of [k for k in range(n) if found[k]] -/
def scK : Scope := { kind := .function, names := [(PySem.Str.ofString ".0", .local), (PySem.Str.ofString "k", .local), (PySem.Str.ofString "found", .free)], isGenerator := false, isCoroutine := false, more := [] }
/-- the places of the true ones among the first i -/
def keepK (bs : List Bool) (i : Nat) : List V := ((List.range i).filter fun j => bs.getD j false).map fun j => V.int ((j : Nat) : Int)
theorem keepK_succ (bs : List Bool) (i : Nat) : keepK bs (i + 1) = keepK bs i ++ (if bs.getD i false = true then [V.int ((i : Nat) : Int)] else []) := by
  unfold keepK
  rw [List.range_succ, List.filter_append, List.map_append]
  congr 1
  by_cases h : bs.getD i false = true
  · rw [if_pos h, List.filter_cons, if_pos h]
    rfl
  · rw [if_neg h, List.filter_cons, if_neg h]
    rfl
def tHotK (i n : Nat) : TE := fun σ H Q => ∃ (a : Addr) (bs : List Bool), σ[i]? = some (some (.ref a)) ∧ H a = some (.lst (bs.map V.bl)) ∧ bs.length = n ∧ ∀ D, H D = none → Q (.ref D) (upd H D (.lst (keepK bs n)))
section
variable {X : Cx}
theorem lc_hot {p : Addr × Obj} {pins : List (Addr × Obj)} {σ : L2.St} {H : Hp} {s : Shared} {Q : VK} {n : Nat} {q1 q2 q6 q7 q8 : Pos} {a c it : Addr} {bs : List Bool} {its : List Value} {hp2 : Heap} {t2 : Nat} {cl : List (Str × Addr)}
    (I : Inv X pins σ H s) (hot : L2H.Hot1 X.A p) (P1 : s.heap.get? p.1 = some p.2) (hn : n ≤ 1000) (hl : bs.length = n) (hkc : X.env.kindOf "found" = some .cell) (hc2 : s.heap.IsCell c (some (.ref a))) (rv : Vals (bs.map V.bl) its) (pl : PlainL s.heap a its.toArray)
    (hcl : cl.lookup ("found" : Str) = some c) (q : ∀ D, H D = none → Q (.ref D) (upd H D (.lst (keepK bs n))))
    (k2 : ∀ b o, s.heap.get? b = some o → hp2.get? b = some o) (hit : s.heap.objs.size ≤ it) (hr : IsRangeIter hp2 it 0 n 1) :
    LcGoes X.prog X.w X.A X.xe X.env scK cl (.Name "k" q2) [.Subscript (.Name "found" q6) (.Name "k" q7) q8] (.Name "k" q1) none (EP X pins σ Q) (.ref it) { s with heap := hp2, toks := t2 } := by
  obtain ⟨hh, v1, e1, c1⟩ := hot
  have hp1 : p.1 < s.heap.objs.size := Heap.lt_size P1
  have nep : p.1 ≠ it := Nat.ne_of_lt (Nat.lt_of_lt_of_le hp1 hit)
  have hit2 : it < hp2.objs.size := Heap.lt_size hr
  have hr0 : IsRangeIter hp2 it (((0 : Nat)) : Int) ((n : Int) - (((0 : Nat)) : Int)) 1 := by
    have e : (n : Int) - (((0 : Nat)) : Int) = n := by omega
    rw [e]
    exact hr
  have sz2 : s.heap.objs.size ≤ hp2.objs.size := Nat.le_trans hit (Nat.le_of_lt hit2)
  refine ⟨it, [it, p.1], [it], n, _, _, rfl, goes_hot (x1 := p.1) it n, by rw [sizeLine_eq]; omega, ⟨hr0, ⟨hh, p.2, v1, k2 _ _ P1, e1, c1⟩, nep⟩, fun b hb => ?_, fun D C s₃ hB => ?_⟩
  · rcases List.mem_cons.mp hb with rfl | hb
    · exact hit2
    · rw [List.mem_singleton.mp hb]
      exact Nat.lt_of_lt_of_le hp1 sz2
  · obtain ⟨⟨h₃, tk₃, rfl⟩, old, nD, nC, hDC, hnm⟩ := hB
    have nD' : hp2.objs.size ≤ D := nD
    have nC' : hp2.objs.size ≤ C := nC
    have hitC : it ≠ C := Nat.ne_of_lt (Nat.lt_of_lt_of_le hit2 nC')
    have hpC : p.1 ≠ C := Nat.ne_of_lt (Nat.lt_of_lt_of_le hp1 (Nat.le_trans sz2 nC'))
    have lo : ∀ {b : Addr} {o : Obj}, s.heap.get? b = some o → b ≠ C ∧ b ≠ D ∧ b ≠ it := fun {b o} e => by
      have z := Heap.lt_size e
      exact ⟨Nat.ne_of_lt (Nat.lt_of_lt_of_le z (Nat.le_trans sz2 nC')), Nat.ne_of_lt (Nat.lt_of_lt_of_le z (Nat.le_trans sz2 nD')), Nat.ne_of_lt (Nat.lt_of_lt_of_le z hit)⟩
    refine ⟨fun i ys s₁ => ∃ h' tk m, s₁ = { s with heap := h', toks := tk } ∧ h'.Ns C m ∧ Vals (keepK bs i) ys ∧ ∀ b o, s.heap.get? b = some o → h'.get? b = some o, ⟨h₃, tk₃, _, rfl, hnm, .nil, fun b o e => old b o (k2 b o e)⟩, ?_, ?_, ?_⟩
    · rintro i ys s₁ h' tk ⟨h₄, tk₄, m, rfl, n₄, e₄, k₄⟩ hk' _
      refine ⟨h', tk, m, rfl, n₄.at fun o e => hk' _ o (fun hm => ?_) e, e₄, fun b o e => hk' b o (fun hm => ?_) (k₄ b o e)⟩
      · rcases List.mem_cons.mp hm with z | z
        · exact hDC z.symm
        · exact hitC (List.mem_singleton.mp z).symm
      · rcases List.mem_cons.mp hm with z | z
        · exact (lo e).2.1 z
        · exact (lo e).2.2 (List.mem_singleton.mp z)
    · rintro i v ys s₁ hi ⟨tk, rfl⟩ st ⟨h₄, tk₄, m, rfl, n₄, e₄, k₄⟩ hpl
      have hkind : (compEnvC scK cl C X.env).scope.kind = .function := rfl
      have kk : (compEnvC scK cl C X.env).kindOf "k" = some .local := lookup_relabel_local rfl
      have kf : (compEnvC scK cl C X.env).kindOf "found" = some .cell := by
        have z : (NameKind.free == NameKind.free && X.env.scope.kind == .function && X.env.kindOf (PySem.Str.ofString "found") == some .cell) = true := by
          rw [show X.env.kindOf (PySem.Str.ofString "found") = some .cell from hkc, I.ok.kind]
          rfl
        show ((scK.names.map fun (n, k) => if (k == .free && X.env.scope.kind == .function && X.env.kindOf n == some .cell) then (n, NameKind.cell) else (n, k)).lookup ("found" : Str)) = _
        simp only [scK, List.map_cons, List.map_nil, z, if_true]
        rfl
      have hpp : ((compEnvC scK cl C X.env).scope.kind == .class || ((compEnvC scK cl C X.env).scope.kind == .module && (compEnvC scK cl C X.env).locals != (compEnvC scK cl C X.env).globals)) = false := rfl
      have hi' : i < bs.length := by rw [hl]; exact hi
      obtain ⟨b, hb⟩ : ∃ b, bs[i]? = some b := ⟨_, List.getElem?_eq_getElem hi'⟩
      have hbd : bs.getD i false = b := by rw [List.getD_eq_getElem?_getD, hb]; rfl
      obtain ⟨wv, hw, rw'⟩ := rv.get (i := i) (x := V.bl b) (by rw [List.getElem?_map, hb]; rfl)
      obtain rfl : wv = Value.bool b := rw'
      refine wpAny_assign_Name (wpAny_storeName_local kk n₄ (fun h₆ n₆ s₆ => ?_) hpp)
      have up : ∀ b o, b ≠ C → h₄.get? b = some o → h₆.get? b = some o := fun b o hb e => (s₆.2 b hb).trans e
      have up0 : ∀ b o, s.heap.get? b = some o → h₆.get? b = some o := fun b o e => up b o (lo e).1 (k₄ b o e)
      obtain ⟨oc, hoc, hod⟩ := id hc2
      have st6 : IsRangeIter h₆ it (((i + 1 : Nat)) : Int) ((n : Int) - (((i + 1 : Nat)) : Int)) 1 ∧ HotX.HotAt X.A p.1 h₆ ∧ p.1 ≠ it := ⟨up _ _ hitC st.1, ⟨hh, p.2, v1, up0 _ _ P1, e1, c1⟩, nep⟩
      have hpl6 : h₆.PlainList D ys.toArray := hpl.at fun o e => up D o hDC e
      have n6k : (if (PySem.Str.ofString "k") = (PySem.Str.ofString "k") then some (Value.int ((i : Nat) : Int) tk) else m (PySem.Str.ofString "k")) = some (Value.int ((i : Nat) : Int) tk) := if_pos rfl
      refine wpAny_tests_one (isTrue_plain (Subscript_ (wpAny_Name (wpAny_loadName_cell hkind kf hcl ⟨oc, up0 _ _ hoc, hod⟩ (wpAny_Name (wpAny_loadName_local hkind kk n₆ n6k ?_) (by decide))) (by decide))))
      have hil : h₆.IsList a its.toArray := pl.isList.at fun o e => up0 _ _ e
      refine item_listR hil (Int.natCast_nonneg i) (by omega) (by simpa using hw) ?_ rfl
      refine wpAny_truthy_bool ?_
      have keep1 : keepK bs (i + 1) = keepK bs i ++ (if b = true then [V.int ((i : Nat) : Int)] else []) := by rw [keepK_succ, hbd]
      cases b with
      | false =>
        refine ite_neg' (by decide) ⟨⟨h₆, _, _, rfl, n₆, ?_, up0⟩, st6, hpl6⟩
        rw [keep1]
        simpa using e₄
      | true =>
        refine ite_pos' rfl (wpAny_Name (wpAny_loadName_local hkind kk n₆ n6k ⟨⟨h₆, _, _, rfl, n₆, ?_, up0⟩, st6, hpl6⟩) (by decide))
        rw [keep1]
        exact e₄.append (.cons ⟨_, rfl⟩ .nil)
    · rintro ys s₁ ⟨h₄, tk₄, m, rfl, n₄, e₄, k₄⟩ hpl
      refine ⟨m, n₄, fun h' hs' => ?_⟩
      have nD'' : s.heap.objs.size ≤ D := Nat.le_trans sz2 nD'
      have up' : ∀ b o, s.heap.get? b = some o → h'.get? b = some o := fun b o e => (hs'.2 b (lo e).1).trans (k₄ b o e)
      have hplD : h'.PlainList D ys.toArray := hpl.at fun o e => (hs'.2 D hDC).trans e
      obtain ⟨nn, hobj⟩ := hplD
      have hlen : (keepK bs n).length ≤ sizeLine := by
        have z : (keepK bs n).length ≤ n := by
          unfold keepK
          rw [List.length_map]
          exact Nat.le_trans (List.length_filter_le _ _) (by rw [List.length_range]; exact Nat.le_refl _)
        rw [sizeLine_eq]
        omega
      exact ⟨.ref D, upd H D (.lst (keepK bs n)), I.laid (t' := tk₄) up' nD'' ⟨hlen, ys, nn, e₄, hobj⟩, rfl, q D (I.hok.fresh nD'')⟩
theorem pe_hotk {p : Addr × Obj} (hot : L2H.Hot1 X.A p) (hp : p ∈ X.pn) {i n : Nat} {j : Nat} {q1 q2 q3 q4 q5 q6 q7 q8 pos : Pos} (hn : n ≤ 1000) (hN : X.N[i]? = some "found") (hkc : X.env.kindOf "found" = some .cell) (hm : X.mg "range" = none) (hg : Gl X "range" := by rfl)
    (hs : ∀ x, foldedSetIterable (.Call (.Name "range" q3) [.Constant (.int n) j q4] [] q5) X.env x = pure x := by intro _; rfl) :
    PE X (.ListComp (.Name "k" q1) [⟨.Name "k" q2, .Call (.Name "range" q3) [.Constant (.int n) j q4] [] q5, [.Subscript (.Name "found" q6) (.Name "k" q7) q8], 0⟩] scK pos) (tHotK i n) := by
  refine ⟨fun pins s σ H Q I h => ?_⟩
  obtain ⟨a, bs, hσ, ha, hl, q⟩ := h
  -- what is known of found
  obtain ⟨m, hns, hlk⟩ := id I.loc
  obtain ⟨u, ru, lk⟩ := hlk i "found" _ hN hσ (.inr (.inl hkc))
  obtain rfl : u = Value.ref a := ru
  obtain ⟨c, hc1, hc2⟩ : ∃ c, X.env.cells.lookup ("found" : Str) = some c ∧ s.heap.IsCell c (some (.ref a)) := by
    rcases lk with ⟨k, _⟩ | ⟨_, c, e, z⟩
    · rw [hkc] at k
      cases k
    · exact ⟨c, e, z⟩
  obtain ⟨its, rv, pl, hz⟩ := I.list (SqL.of ha)
  obtain ⟨P1, P2, _⟩ := I.pin p (List.mem_append_left _ hp)
  have hclos : closureFor scK X.env = pure (cloFrom X.env.cells scK.names []) := closure_ok fun y hy e => by
    have hy' : y = (PySem.Str.ofString ".0", NameKind.local) ∨ y = (PySem.Str.ofString "k", NameKind.local) ∨ y = (PySem.Str.ofString "found", NameKind.free) := by simpa [scK] using hy
    rcases hy' with rfl | rfl | rfl
    · cases e
    · cases e
    · exact ⟨c, hc1⟩
  have hcl : (cloFrom X.env.cells scK.names []).lookup ("found" : Str) = some c := by
    have e : cloFrom X.env.cells scK.names [] = [(PySem.Str.ofString "found", (X.env.cells.lookup ("found" : Str)).getD 0)] := rfl
    rw [e, hc1]
    simp [List.lookup]
  refine ListComp_goes hclos (by decide) rfl (by decide) ?_ hs
  -- the range
  refine Call_ (ld_blt I hg hm boot_range (PyProof.Rows.callWith_type1 (spliced_more (wpAny_Constant_int (spliced_none ?_))) rfl rfl))
  refine call_range_1 ?_
  refine wpAny_pyIter_range (IsRange.new ..) (small_one (by omega) (by omega) (by omega) (by omega)) ?_
  have er : Builtin.Range.rangeSize 0 n 1 = n := by rw [rangeSize_one]; split <;> omega
  refine lc_hot (s := s) I hot P1 hn hl hkc hc2 rv pl hcl q (fun b o e => Heap.get?_push_of_some _ (Heap.get?_push_of_some _ e)) ?_ ?_
  · show s.heap.objs.size ≤ (s.heap.push _).objs.size
    rw [Heap.size_push]
    exact Nat.le_succ _
  · rw [er]
    exact Heap.get?_push_size _ rfl
end
end My
namespace My
open PySem PySem.Spec PyProof.Rows Sx L2
/-- a def that is called while the exception p is handled; its promise may speak of p -/
structure FnP (P : Program) (w : World) (K : PySem.W.Frag) (mg : Str → Option Value) (base : Heap) (k : Nat) (f : Addr) (fd : FuncData) (ps : List Str) (sp : Addr × Obj → Sp) : Prop where
  len : ∀ p vs H Q E, sp p vs H Q E → vs.length = ps.length
  run : ∀ (p : Addr × Obj) (A : Around) (outer : List Env) (s : Shared) (H : Hp) (args : Args) (us : List Value) (vs : List V) (Q : VK) (E : XK), L2H.RoomH k A → L2H.Hot1 A p → L2H.PinOk outer H s p → Env0 P w K mg base A outer s H →
    BindsTo s fd args (ps.zip us) → Vals vs us → sp p vs H Q E → codeAny (model P w) A (.call (.ref f) args) (CR CX0 outer P w H s Q E) s
theorem fnP_of {P : Program} {w : World} {K : PySem.W.Frag} {mg : Str → Option Value} {base : Heap} {x qual : Str} {st : Stmt} {f : Addr} {fd : FuncData} {N ps : List Str} {k : Nat} {sp : Addr × Obj → Sp} (F : Fun K x qual st f fd) (S : FnScope N ps (defScope st)) (len : ∀ p vs H Q E, sp p vs H Q E → vs.length = ps.length)
    (hb : ∀ (cdv : Value) (A : Around) (outer : List Env) (s : Shared) (H : Hp) (vs : List V) (Q : VK) (E : XK) (p : Addr × Obj), L2H.Hot1 A p → L2H.RoomH k (A.deeper (envOfC qual (defScope st) s.heap.objs.size f cdv)) → sp p vs H Q E →
      ∃ t, PSs (L2H.cxH CX0 P w K mg base N qual (defScope st) f cdv A outer s H E p).nox (defBody st) t ∧ t { nx := fun _ H' => Q .non H', rt := Q } (L2.start N vs) H) : FnP P w K mg base (k + 1) f fd ps sp := by
  obtain ⟨_, _, _, _, _, _, cdv, _, _, rfl, l1, l2⟩ := F.ex
  refine ⟨len, fun p A outer s H args us vs Q E room hot pin env bd rel prom => ?_⟩
  have hlen := len _ _ _ _ _ prom
  have KS : K.In s.heap := env.mod.kin.keeps fun b o e => (env.bs b o e).1
  have NL : s.heap.NoLimit := env.mod.nolimit.keeps fun b o e => (env.bs b o e).1
  have kinds : ∀ y ∈ ps.zip us, (defScope st).names.lookup y.1 = some .local ∨ ((defScope st).names.lookup y.1 = some .cell ∧ ((cellsFrom (s.heap.objs.size + 1) (defScope st).names []).lookup y.1).isSome = true) := fun ⟨nm, vv⟩ hy => by
    rcases S.par nm (List.of_mem_zip hy).1 with z | z
    · exact .inl z
    · exact .inr ⟨z, PySem.W.cellsFrom_some _ _ _ (.inl z)⟩
  refine codeAny_call_function room.depth (KS _ _ l1) rfl S.co S.gen rfl (PySem.W.codeRec_of KS l2) (bd _ _ _ _ ?_)
  refine wpAny_newFunctionEnv_cells S.kind kinds fun env' henv s1 inC => ?_
  subst henv
  refine ⟨NL.keeps inC.toInCall.keep, codeAny_func ?_⟩
  obtain ⟨t, hT, hR⟩ := hb cdv A outer s H vs Q E p hot (room.deeper _) prom
  have J := L2H.inv_startH (CX := CX0) (E := E) S pin env hlen rel inC
  refine wpAny_mono ((hT.nox).run [] s1 (L2.start N vs) H _ J hR) (fun fl s' out => ?_) fun e s' out => out
  cases fl with
  | ret u =>
    obtain ⟨v, σ', H', J', rv, q⟩ := out
    exact ⟨v, H', J'.os, J'.bare, J'.base, J'.hok, rv, q⟩
  | next =>
    obtain ⟨σ', H', J', q⟩ := out
    exact ⟨V.non, H', J'.os, J'.bare, J'.base, J'.hok, rfl, q⟩
  | brk =>
    obtain ⟨_, _, _, z⟩ := out
    exact False.elim z
  | cont =>
    obtain ⟨_, _, _, z⟩ := out
    exact False.elim z
/-- .. under its name -/
structure ClP (P : Program) (w : World) (K : PySem.W.Frag) (mg : Str → Option Value) (base : Heap) (k : Nat) (x : Str) (sp : Addr × Obj → Sp) : Prop where
  ex : ∃ (f : Addr) (fd : FuncData) (ps : List Str), FnP P w K mg base k f fd ps sp ∧ mg x = some (.ref f) ∧ PySem.W.keepIn K (.ref f) = true ∧ Binds K fd ps []
section
variable {X : Cx} {p : Addr × Obj} {k j : Nat} {x : Str} {sp : Addr × Obj → Sp} {q pos : Pos} {e : Expr} {es : List Expr} {t : TA}
theorem pe_clP (c : ClP X.prog X.w X.K X.mg X.base k x sp) (hr : L2H.RoomH j X.A) (hot : L2H.Hot1 X.A p) (hp : p ∈ X.pn) (ha : PA X (e :: es) t) (hk : k ≤ j := by decide) (hg : Gl X x := by rfl)
    (hdb : (x == ("__debug__" : Str)) = false := by decide) (he : starEach (e :: es) X.env = (false, eval e X.env) :: starEach es X.env := by rfl) (hpl : (backTo pos (starEach es X.env)).any (·.1) = false := by rfl) :
    PE X (.Call (.Name x q) (e :: es) [] pos) (fun σ H Q => t σ H fun vs H1 => sp p vs H1 Q E0) := by
  obtain ⟨f, fd, ps, F, hm, kp, bd⟩ := c.ex
  refine ⟨fun pins s σ H Q I h => ?_⟩
  refine wpAny_Call_Name_kw (ld_glob I hg hm ?_ hdb)
  refine PySem.W.callWith_K (h₀ := X.base) I.ok.mod.kin kp (thn (ha.run pos pins s σ H _ I h) fun us s1 ⟨vs, H1, I1, r, prom⟩ => ⟨I1.kIn, ?_⟩) he hpl
  have hlen : us.length = ps.length := by rw [← r.length]; exact F.len _ _ _ _ _ prom
  have b1 := bd s1 us I1.kIn (by rw [List.append_nil]; exact hlen)
  rw [List.append_nil] at b1
  have P1 := I1.pin p (List.mem_append_left _ hp)
  have pin : L2H.PinOk X.stack H1 s1 p := ⟨P1.1, P1.2.1, fun hm => (List.mem_cons.mp (I1.stkSub p.1 hm)).elim P1.2.2.1 P1.2.2.2.1, P1.2.2.2.2⟩
  refine wpAny_call (codeAny_mono (F.run p X.A X.stack s1 H1 ⟨us, []⟩ us vs Q E0 (hr.mono hk) hot pin I1.env0 b1 r prom) fun res s' out => ?_)
  cases res with
  | error er => exact out.elim
  | ok fl =>
    cases fl with
    | ret u => exact I1.after out
    | next => exact out.elim
    | brk => exact out.elim
    | cont => exact out.elim
/-- what the class D must say, so that its exceptions may be asked -/
structure AskC (K : PySem.W.Frag) (D : Addr) : Prop where
  cl : (PySem.W.clsIn K D).isSome = true
  hd : PySem.W.hasDictIn K D = true
  ga : PySem.W.findIn K (.ref D) "__getattribute__" = some (some (.builtin "BaseException.__getattribute__"))
  gg : PySem.W.findIn K (.ref D) "__getattr__" = some none
  sB : PySem.W.subIn K (.ref D) (.type "BaseException") = some true
  ac : PySem.W.findIn K (.ref D) "__class__" = some (some (.builtin "object.__class__"))
  sn : PySem.W.specialIn K (.builtin "object.__class__") "__get__" = some (some (.builtin "getset_descriptor.__get__"))
  tk : PySem.W.takesIn K (.builtin "object.__class__") = some true
  mo : PySem.W.mroIn K D (.type "object") = some true
/-- the exception p is of the class D, its dict (if any) holds fs -/
def PinE (H : Hp) (p : Addr × Obj) (D : Addr) (fs : Option (List (Str × V))) : Prop := (∃ vs, p.2.data = .fields vs) ∧ p.2.cls = .ref D ∧ match fs with
  | none => p.2.dict = none
  | some l => ∃ d, p.2.dict = some d ∧ H d = some (.xd l)
theorem PinE.same {H H' : Hp} {D : Addr} {fs : Option (List (Str × V))} (h : PinE H p D fs) (sm : Same H H') : PinE H' p D fs := by
  obtain ⟨h1, h2, h3⟩ := h
  refine ⟨h1, h2, ?_⟩
  cases fs with
  | none => exact h3
  | some l =>
    obtain ⟨d, e, z⟩ := h3
    exact ⟨d, e, sm _ _ z⟩
theorem pinE_inst {H : Hp} {D : Addr} {fs : Option (List (Str × V))} {pins : List (Addr × Obj)} {σ : L2.St} {s : Shared} (h : PinE H p D fs) (I : Inv X pins σ H s) (hp : p ∈ X.pn) : ∃ od, PySem.W.InstAt s.heap p.1 p.2 D od := by
  obtain ⟨⟨vs, h1⟩, h2, h3⟩ := h
  have g := (I.pin p (List.mem_append_left _ hp)).1
  have nc : PySem.W.notCls p.2 = true := by unfold PySem.W.notCls; rw [h1] <;> rfl
  cases fs with
  | none =>
    have h3' : p.2.dict = none := h3
    exact ⟨none, g, h2, nc, by rw [h3']; trivial⟩
  | some l =>
    obtain ⟨d, e, z⟩ := h3
    obtain ⟨mA, hns, _⟩ : ObjOk X.prog X.w H s.heap d (.xd l) := I.hok d _ z
    obtain ⟨od, ho, _⟩ := lookIn_ns hns
    exact ⟨some od, g, h2, nc, by rw [e]; exact ho⟩
theorem call_isP {D : Addr} (C : AskC X.K D) (hp : p ∈ X.pn) : CallR X (.builtin "isinstance") (fun xs H Q => ∃ (c : V) (cv : Value) (b : Bool) (fs : Option (List (Str × V))), xs = [.ref p.1, c] ∧ (∀ u, RelV c u → u = cv) ∧ PySem.W.kitOne X.K (.ref D) cv = some b ∧ PinE H p D fs ∧ Q (.bl b) H) := by
  intro pins s σ H xs us Q I r h
  obtain ⟨c, cv, b, fs, rfl, hcv, hk, hP, q⟩ := h
  obtain ⟨od, J⟩ := pinE_inst hP I hp
  match r with
  | .cons rx (.cons rt .nil) =>
    cases rx
    have ec := hcv _ rt
    subst ec
    exact PySem.W.kia_one (PySem.W.kitx_exc C.cl C.ga C.gg C.sB C.ac C.sn C.tk C.mo) I.kIn J hk (fun z => nomatch z) fun tk => ⟨.bl b, H, I.kept (t' := tk) fun _ _ z => z, rfl, q⟩
theorem pe_xfP {D : Addr} {e : Expr} {te : TE} {pos : Pos} {n : Str} (C : AskC X.K D) (hp : p ∈ X.pn) (hno : PySem.W.findIn X.K (.ref D) n = some none) (he : PE X e te) (hb : attributeBase e n X.env (eval e X.env) = eval e X.env := by rfl) :
    PE X (.Attribute e n pos) (fun σ H Q => te σ H fun x H1 => x = .ref p.1 ∧ ∃ l v, PinE H1 p D (some l) ∧ l.lookup n = some v ∧ Q v H1) := by
  refine ⟨fun pins s σ H Q I h => ?_⟩
  refine attr_of hb (thn (he.run pins s σ H _ I h) fun u s1 ⟨x, H1, I1, rx, ex, l, v, hP, hl, q⟩ => ?_)
  subst ex
  obtain rfl : u = Value.ref p.1 := rx
  obtain ⟨⟨vs, h1⟩, h2, d, e, z⟩ := hP
  have g := (I1.pin p (List.mem_append_left _ hp)).1
  have nc : PySem.W.notCls p.2 = true := by unfold PySem.W.notCls; rw [h1] <;> rfl
  obtain ⟨mA, hns, hrel⟩ : ObjOk X.prog X.w H1 s1.heap d (.xd l) := I1.hok d _ z
  obtain ⟨od, ho, hlo⟩ := lookIn_ns hns
  obtain ⟨u, hu, ru⟩ := RelO.some_of (v := v) (o := mA n) (by rw [← hl]; exact hrel n)
  have J : PySem.W.InstAt s1.heap p.1 p.2 D (some od) := ⟨g, h2, nc, by rw [e]; exact ho⟩
  exact HandSPX.exc_get I1.kIn J C.ga C.gg C.sB (PySem.W.findObj_own C.hd hno rfl (by rw [hlo, hu])) (handed_of ru) ⟨v, H1, I1.tok _, ru, q⟩
end
end My
namespace My
open PySem PySem.Spec PyProof.Rows Sx L2
abbrev sClasses : Stmt := top 32
abbrev sFields : Stmt := top 33
/-- which of the classes the i-th is -/
def whichB (i : Nat) : List Bool := (List.range 22).map fun j => decide (i = j)
theorem which_keep : ∀ i : _root_.Fin 22, keepK (whichB i.val) 22 = [V.int ((i.val : Nat) : Int)] := by decide +kernel
def spClasses (Cs : Nat → Addr) : Addr × Obj → Sp := fun p vs H Q _ => ∃ (i : Nat) (fs : Option (List (Str × V))), vs = [.ref p.1] ∧ i < 22 ∧ PinE H p (Cs i) fs ∧ ∀ L H', H L = none → Same H H' → H' L = some (.lst [.int i, .int (-1)]) → Q (.ref L) H'
/-- how the classes stand to one another -/
structure Kit (K : PySem.W.Frag) (Cs : Nat → Addr) : Prop where
  one : ∀ i j, i < 22 → j < 22 → PySem.W.kitOne K (.ref (Cs i)) (.ref (Cs j)) = some (decide (i = j))
  ve : ∀ i, i < 22 → PySem.W.kitOne K (.ref (Cs i)) (.type "ValueError") = some true
  ask : ∀ i, i < 22 → AskC K (Cs i)
theorem same_new {H : Hp} {a : Addr} {o : HO} (h : H a = none) : Same H (upd H a o) := fun b u e => by
  rw [upd_ne (ne_of_none e h)]
  exact e
section
variable {P : Program} {w : World} {K : PySem.W.Frag} {mg : Str → Option Value} {base : Heap} {Cs : Nat → Addr}
theorem scClasses : FnScope ["e", "found"] ["e"] (defScope sClasses) := ⟨rfl, rfl, rfl, by decide +kernel, rfl, by decide +kernel, by decide +kernel⟩
theorem cl_classes (D : DefAt K mg "_law_classes" sClasses ["e"]) (A22 : All22 P K mg Cs) (T : Kit K Cs) (hisi : mg "isinstance" = none) (hrng : mg "range" = none) (hVE : mg "ValueError" = none) : ClP P w K mg base 1 "_law_classes" (spClasses Cs) := by
  obtain ⟨f, fd, F, g, b⟩ := D.ex
  refine ⟨f, fd, _, fnP_of F scClasses (fun p vs H Q E h => ?_) (fun cdv A outer s H vs Q E p hot hr h => ?_), g, F.kp, b⟩
  · obtain ⟨i, fs, rfl, _⟩ := h
    rfl
  · obtain ⟨i, fs, rfl, hi, hP, k⟩ := h
    have nd := scClasses.nd
    have hA := T.ask
    refine ⟨_, (C8.pss_cut (ps_set (i := 1) nd rfl (.inr rfl) (pe_lst (pa_cons (pe_callB (call_isP (hA i hi) (List.mem_cons_self)) (by rfl) hisi (by decide +kernel) (pa_cons (pv 0) (pa_cons (pe_glob rfl (A22.c0).g (v := .ref (Cs 0)) rfl) pa_nil))) (pa_cons (pe_callB (call_isP (hA i hi) (List.mem_cons_self)) (by rfl) hisi (by decide +kernel) (pa_cons (pv 0) (pa_cons (pe_glob rfl (A22.c1).g (v := .ref (Cs 1)) rfl) pa_nil))) (pa_cons (pe_callB (call_isP (hA i hi) (List.mem_cons_self)) (by rfl) hisi (by decide +kernel) (pa_cons (pv 0) (pa_cons (pe_glob rfl (A22.c2).g (v := .ref (Cs 2)) rfl) pa_nil))) (pa_cons (pe_callB (call_isP (hA i hi) (List.mem_cons_self)) (by rfl) hisi (by decide +kernel) (pa_cons (pv 0) (pa_cons (pe_glob rfl (A22.c3).g (v := .ref (Cs 3)) rfl) pa_nil))) pa_nil))))))
      (C8.pss_cut (ps_set (i := 1) nd rfl (.inr rfl) (pe_op op_cat (pv 1) (pe_lst (pa_cons (pe_callB (call_isP (hA i hi) (List.mem_cons_self)) (by rfl) hisi (by decide +kernel) (pa_cons (pv 0) (pa_cons (pe_glob rfl (A22.c4).g (v := .ref (Cs 4)) rfl) pa_nil))) (pa_cons (pe_callB (call_isP (hA i hi) (List.mem_cons_self)) (by rfl) hisi (by decide +kernel) (pa_cons (pv 0) (pa_cons (pe_glob rfl (A22.c5).g (v := .ref (Cs 5)) rfl) pa_nil))) (pa_cons (pe_callB (call_isP (hA i hi) (List.mem_cons_self)) (by rfl) hisi (by decide +kernel) (pa_cons (pv 0) (pa_cons (pe_glob rfl (A22.c6).g (v := .ref (Cs 6)) rfl) pa_nil))) (pa_cons (pe_callB (call_isP (hA i hi) (List.mem_cons_self)) (by rfl) hisi (by decide +kernel) (pa_cons (pv 0) (pa_cons (pe_glob rfl (A22.c7).g (v := .ref (Cs 7)) rfl) pa_nil))) pa_nil)))))))
      (C8.pss_cut (ps_set (i := 1) nd rfl (.inr rfl) (pe_op op_cat (pv 1) (pe_lst (pa_cons (pe_callB (call_isP (hA i hi) (List.mem_cons_self)) (by rfl) hisi (by decide +kernel) (pa_cons (pv 0) (pa_cons (pe_glob rfl (A22.c8).g (v := .ref (Cs 8)) rfl) pa_nil))) (pa_cons (pe_callB (call_isP (hA i hi) (List.mem_cons_self)) (by rfl) hisi (by decide +kernel) (pa_cons (pv 0) (pa_cons (pe_glob rfl (A22.c9).g (v := .ref (Cs 9)) rfl) pa_nil))) (pa_cons (pe_callB (call_isP (hA i hi) (List.mem_cons_self)) (by rfl) hisi (by decide +kernel) (pa_cons (pv 0) (pa_cons (pe_glob rfl (A22.c10).g (v := .ref (Cs 10)) rfl) pa_nil))) (pa_cons (pe_callB (call_isP (hA i hi) (List.mem_cons_self)) (by rfl) hisi (by decide +kernel) (pa_cons (pv 0) (pa_cons (pe_glob rfl (A22.c11).g (v := .ref (Cs 11)) rfl) pa_nil))) pa_nil)))))))
      (C8.pss_cut (ps_set (i := 1) nd rfl (.inr rfl) (pe_op op_cat (pv 1) (pe_lst (pa_cons (pe_callB (call_isP (hA i hi) (List.mem_cons_self)) (by rfl) hisi (by decide +kernel) (pa_cons (pv 0) (pa_cons (pe_glob rfl (A22.c12).g (v := .ref (Cs 12)) rfl) pa_nil))) (pa_cons (pe_callB (call_isP (hA i hi) (List.mem_cons_self)) (by rfl) hisi (by decide +kernel) (pa_cons (pv 0) (pa_cons (pe_glob rfl (A22.c13).g (v := .ref (Cs 13)) rfl) pa_nil))) (pa_cons (pe_callB (call_isP (hA i hi) (List.mem_cons_self)) (by rfl) hisi (by decide +kernel) (pa_cons (pv 0) (pa_cons (pe_glob rfl (A22.c14).g (v := .ref (Cs 14)) rfl) pa_nil))) pa_nil))))))
      (C8.pss_cut (ps_set (i := 1) nd rfl (.inr rfl) (pe_op op_cat (pv 1) (pe_lst (pa_cons (pe_callB (call_isP (hA i hi) (List.mem_cons_self)) (by rfl) hisi (by decide +kernel) (pa_cons (pv 0) (pa_cons (pe_glob rfl (A22.c15).g (v := .ref (Cs 15)) rfl) pa_nil))) (pa_cons (pe_callB (call_isP (hA i hi) (List.mem_cons_self)) (by rfl) hisi (by decide +kernel) (pa_cons (pv 0) (pa_cons (pe_glob rfl (A22.c16).g (v := .ref (Cs 16)) rfl) pa_nil))) (pa_cons (pe_callB (call_isP (hA i hi) (List.mem_cons_self)) (by rfl) hisi (by decide +kernel) (pa_cons (pv 0) (pa_cons (pe_glob rfl (A22.c17).g (v := .ref (Cs 17)) rfl) pa_nil))) pa_nil))))))
      (C8.pss_cut (ps_set (i := 1) nd rfl (.inr rfl) (pe_op op_cat (pv 1) (pe_lst (pa_cons (pe_callB (call_isP (hA i hi) (List.mem_cons_self)) (by rfl) hisi (by decide +kernel) (pa_cons (pv 0) (pa_cons (pe_glob rfl (A22.c18).g (v := .ref (Cs 18)) rfl) pa_nil))) (pa_cons (pe_callB (call_isP (hA i hi) (List.mem_cons_self)) (by rfl) hisi (by decide +kernel) (pa_cons (pv 0) (pa_cons (pe_glob rfl (A22.c19).g (v := .ref (Cs 19)) rfl) pa_nil))) (pa_cons (pe_callB (call_isP (hA i hi) (List.mem_cons_self)) (by rfl) hisi (by decide +kernel) (pa_cons (pv 0) (pa_cons (pe_glob rfl (A22.c20).g (v := .ref (Cs 20)) rfl) pa_nil))) (pa_cons (pe_callB (call_isP (hA i hi) (List.mem_cons_self)) (by rfl) hisi (by decide +kernel) (pa_cons (pv 0) (pa_cons (pe_glob rfl (A22.c21).g (v := .ref (Cs 21)) rfl) pa_nil))) pa_nil)))))))
      (pss_one (ps_ret (pe_op op_cat (pe_hotk (n := 22) hot List.mem_cons_self (i := 1) (by decide) rfl rfl hrng) (pe_ifExp (pt_val (pe_callB (call_isP (hA i hi) (List.mem_cons_self)) (by rfl) hisi (by decide +kernel) (pa_cons (pv 0) (pa_cons (pe_bltn rfl hVE (by decide +kernel) (v := .ty "ValueError") rfl) pa_nil)))) (pe_lst (pa_cons (pe_un un_neg pe_int) pa_nil)) (pe_lst pa_nil))))))))))), ?_⟩
    refine ⟨fun σ' H' => ∃ q, σ' = [some (.ref p.1), some (.ref q)] ∧ Same H H' ∧ H' q = some (.lst [.bl (decide (i = 0)), .bl (decide (i = 1)), .bl (decide (i = 2)), .bl (decide (i = 3))]), ⟨_, rfl, _, _, _, fs, rfl, fun _ z => z, T.one i 0 hi (by decide), hP, _, rfl, _, _, _, fs, rfl, fun _ z => z, T.one i 1 hi (by decide), hP, _, rfl, _, _, _, fs, rfl, fun _ z => z, T.one i 2 hi (by decide), hP, _, rfl, _, _, _, fs, rfl, fun _ z => z, T.one i 3 hi (by decide), hP, (by show 4 ≤ sizeLine; decide), fun p0 n0 => ⟨p0, rfl, same_new n0, upd_same⟩⟩, ?_⟩
    rintro σ' H1 ⟨q, rfl, sm, hq⟩
    refine ⟨fun σ' H' => ∃ q, σ' = [some (.ref p.1), some (.ref q)] ∧ Same H H' ∧ H' q = some (.lst [.bl (decide (i = 0)), .bl (decide (i = 1)), .bl (decide (i = 2)), .bl (decide (i = 3)), .bl (decide (i = 4)), .bl (decide (i = 5)), .bl (decide (i = 6)), .bl (decide (i = 7))]), ⟨_, rfl, _, rfl, _, _, _, fs, rfl, fun _ z => z, T.one i 4 hi (by decide), (hP.same sm), _, rfl, _, _, _, fs, rfl, fun _ z => z, T.one i 5 hi (by decide), (hP.same sm), _, rfl, _, _, _, fs, rfl, fun _ z => z, T.one i 6 hi (by decide), (hP.same sm), _, rfl, _, _, _, fs, rfl, fun _ z => z, T.one i 7 hi (by decide), (hP.same sm), (by show 4 ≤ sizeLine; decide), fun p1 n1 => ⟨q, p1, _, _, rfl, rfl, (by rw [upd_ne (ne_of_none hq n1)]; exact hq), upd_same, (by show 8 ≤ sizeLine; decide), fun r hr' => ⟨r, rfl, sm.trans ((same_new n1).trans (same_new hr')), upd_same⟩⟩⟩, ?_⟩
    rintro σ' H1 ⟨q, rfl, sm, hq⟩
    refine ⟨fun σ' H' => ∃ q, σ' = [some (.ref p.1), some (.ref q)] ∧ Same H H' ∧ H' q = some (.lst [.bl (decide (i = 0)), .bl (decide (i = 1)), .bl (decide (i = 2)), .bl (decide (i = 3)), .bl (decide (i = 4)), .bl (decide (i = 5)), .bl (decide (i = 6)), .bl (decide (i = 7)), .bl (decide (i = 8)), .bl (decide (i = 9)), .bl (decide (i = 10)), .bl (decide (i = 11))]), ⟨_, rfl, _, rfl, _, _, _, fs, rfl, fun _ z => z, T.one i 8 hi (by decide), (hP.same sm), _, rfl, _, _, _, fs, rfl, fun _ z => z, T.one i 9 hi (by decide), (hP.same sm), _, rfl, _, _, _, fs, rfl, fun _ z => z, T.one i 10 hi (by decide), (hP.same sm), _, rfl, _, _, _, fs, rfl, fun _ z => z, T.one i 11 hi (by decide), (hP.same sm), (by show 4 ≤ sizeLine; decide), fun p1 n1 => ⟨q, p1, _, _, rfl, rfl, (by rw [upd_ne (ne_of_none hq n1)]; exact hq), upd_same, (by show 12 ≤ sizeLine; decide), fun r hr' => ⟨r, rfl, sm.trans ((same_new n1).trans (same_new hr')), upd_same⟩⟩⟩, ?_⟩
    rintro σ' H1 ⟨q, rfl, sm, hq⟩
    refine ⟨fun σ' H' => ∃ q, σ' = [some (.ref p.1), some (.ref q)] ∧ Same H H' ∧ H' q = some (.lst [.bl (decide (i = 0)), .bl (decide (i = 1)), .bl (decide (i = 2)), .bl (decide (i = 3)), .bl (decide (i = 4)), .bl (decide (i = 5)), .bl (decide (i = 6)), .bl (decide (i = 7)), .bl (decide (i = 8)), .bl (decide (i = 9)), .bl (decide (i = 10)), .bl (decide (i = 11)), .bl (decide (i = 12)), .bl (decide (i = 13)), .bl (decide (i = 14))]), ⟨_, rfl, _, rfl, _, _, _, fs, rfl, fun _ z => z, T.one i 12 hi (by decide), (hP.same sm), _, rfl, _, _, _, fs, rfl, fun _ z => z, T.one i 13 hi (by decide), (hP.same sm), _, rfl, _, _, _, fs, rfl, fun _ z => z, T.one i 14 hi (by decide), (hP.same sm), (by show 3 ≤ sizeLine; decide), fun p1 n1 => ⟨q, p1, _, _, rfl, rfl, (by rw [upd_ne (ne_of_none hq n1)]; exact hq), upd_same, (by show 15 ≤ sizeLine; decide), fun r hr' => ⟨r, rfl, sm.trans ((same_new n1).trans (same_new hr')), upd_same⟩⟩⟩, ?_⟩
    rintro σ' H1 ⟨q, rfl, sm, hq⟩
    refine ⟨fun σ' H' => ∃ q, σ' = [some (.ref p.1), some (.ref q)] ∧ Same H H' ∧ H' q = some (.lst [.bl (decide (i = 0)), .bl (decide (i = 1)), .bl (decide (i = 2)), .bl (decide (i = 3)), .bl (decide (i = 4)), .bl (decide (i = 5)), .bl (decide (i = 6)), .bl (decide (i = 7)), .bl (decide (i = 8)), .bl (decide (i = 9)), .bl (decide (i = 10)), .bl (decide (i = 11)), .bl (decide (i = 12)), .bl (decide (i = 13)), .bl (decide (i = 14)), .bl (decide (i = 15)), .bl (decide (i = 16)), .bl (decide (i = 17))]), ⟨_, rfl, _, rfl, _, _, _, fs, rfl, fun _ z => z, T.one i 15 hi (by decide), (hP.same sm), _, rfl, _, _, _, fs, rfl, fun _ z => z, T.one i 16 hi (by decide), (hP.same sm), _, rfl, _, _, _, fs, rfl, fun _ z => z, T.one i 17 hi (by decide), (hP.same sm), (by show 3 ≤ sizeLine; decide), fun p1 n1 => ⟨q, p1, _, _, rfl, rfl, (by rw [upd_ne (ne_of_none hq n1)]; exact hq), upd_same, (by show 18 ≤ sizeLine; decide), fun r hr' => ⟨r, rfl, sm.trans ((same_new n1).trans (same_new hr')), upd_same⟩⟩⟩, ?_⟩
    rintro σ' H1 ⟨q, rfl, sm, hq⟩
    refine ⟨fun σ' H' => ∃ q, σ' = [some (.ref p.1), some (.ref q)] ∧ Same H H' ∧ H' q = some (.lst [.bl (decide (i = 0)), .bl (decide (i = 1)), .bl (decide (i = 2)), .bl (decide (i = 3)), .bl (decide (i = 4)), .bl (decide (i = 5)), .bl (decide (i = 6)), .bl (decide (i = 7)), .bl (decide (i = 8)), .bl (decide (i = 9)), .bl (decide (i = 10)), .bl (decide (i = 11)), .bl (decide (i = 12)), .bl (decide (i = 13)), .bl (decide (i = 14)), .bl (decide (i = 15)), .bl (decide (i = 16)), .bl (decide (i = 17)), .bl (decide (i = 18)), .bl (decide (i = 19)), .bl (decide (i = 20)), .bl (decide (i = 21))]), ⟨_, rfl, _, rfl, _, _, _, fs, rfl, fun _ z => z, T.one i 18 hi (by decide), (hP.same sm), _, rfl, _, _, _, fs, rfl, fun _ z => z, T.one i 19 hi (by decide), (hP.same sm), _, rfl, _, _, _, fs, rfl, fun _ z => z, T.one i 20 hi (by decide), (hP.same sm), _, rfl, _, _, _, fs, rfl, fun _ z => z, T.one i 21 hi (by decide), (hP.same sm), (by show 4 ≤ sizeLine; decide), fun p1 n1 => ⟨q, p1, _, _, rfl, rfl, (by rw [upd_ne (ne_of_none hq n1)]; exact hq), upd_same, (by show 22 ≤ sizeLine; decide), fun r hr' => ⟨r, rfl, sm.trans ((same_new n1).trans (same_new hr')), upd_same⟩⟩⟩, ?_⟩
    rintro σ' H1 ⟨q, rfl, sm, hq⟩
    -- [k for k in range(22) if found[k]] + ([-1] if isinstance(e, ValueError) else [])
    refine ⟨q, whichB i, rfl, hq, rfl, fun D hD => ?_⟩
    have ek : keepK (whichB i) 22 = [V.int ((i : Nat) : Int)] := which_keep ⟨i, hi⟩
    rw [ek]
    have s2 : Same H (upd H1 D (.lst [V.int ((i : Nat) : Int)])) := sm.trans (same_new hD)
    refine ⟨_, rfl, _, _, _, fs, rfl, fun _ z => z, T.ve i hi, hP.same s2, true, rfl, ite_pos' rfl ?_⟩
    refine ⟨_, rfl, (by show 1 ≤ sizeLine; decide), fun p2 n2 => ⟨D, p2, _, _, rfl, rfl, (by rw [upd_ne (ne_of_none upd_same n2)]; exact upd_same), upd_same, (by show 2 ≤ sizeLine; decide), fun r hr' => ?_⟩⟩
    refine k r _ ?_ (s2.trans ((same_new n2).trans (same_new hr'))) upd_same
    exact s2.free (by
      cases e : (upd H1 D (.lst [V.int ((i : Nat) : Int)])) r with
      | none => rfl
      | some o => rw [(same_new n2) r o e] at hr'; cases hr')
end
end My
namespace My
open PySem PySem.Spec PyProof.Rows Sx L2
/-- the values that an exception of the k-th class bears -/
def valsOf (k : Nat) (one other : V) : List V := if k = 17 ∨ k = 21 then [] else if k = 5 then [one, other] else [one]
def pinF (k : Nat) (one other : V) : Option (List (Str × V)) := if k = 17 ∨ k = 21 then none else some (fieldsOf k one other)
def spFields (Cs : Nat → Addr) : Addr × Obj → Sp := fun p vs H Q _ => ∃ (k : Nat) (one other : V), vs = [.int k, .ref p.1] ∧ k < 22 ∧ PinE H p (Cs k) (pinF k one other) ∧ ∀ T H', H T = none → Same H H' → H' T = some (.tup (valsOf k one other)) → Q (.ref T) H'
theorem same_free {H H' : Hp} (sm : Same H H') {T : Addr} (h : H' T = none) : H T = none := sm.free h
section
variable {K : PySem.W.Frag} {z : List Int} {t : TA} {tr rest : TS} {D : Ends} {H : Hp} {k : Nat} {x : V}
theorem in_no (ht : ∀ σ H Q, t σ H Q = Q (z.map V.int) H) (hz : z.length ≤ 100) (hb : inV (.int ((k : Nat) : Int)) (z.map V.int) = false) (hf : (z.map V.int).all flatV = true) (h : ∀ p0, H p0 = none → rest D [some (.int ((k : Nat) : Int)), some x] (upd H p0 (.lst (z.map V.int)))) :
    tSeq (tIfS (tTest (tOp (rIn K false) (tVar 0) (tLst t))) tr tNext) rest D [some (.int ((k : Nat) : Int)), some x] H := by
  refine ⟨_, rfl, ?_⟩
  show t _ _ _
  rw [ht]
  refine ⟨by rw [sizeLine_eq, List.length_map]; omega, fun p0 n0 => ⟨p0, _, rfl, .inl (SqL.of upd_same), rfl, hf, _, rfl, ?_⟩⟩
  refine ite_neg' ?_ (h p0 n0)
  rw [if_neg (by decide), hb]
  decide
theorem in_yes (ht : ∀ σ H Q, t σ H Q = Q (z.map V.int) H) (hz : z.length ≤ 100) (hb : inV (.int ((k : Nat) : Int)) (z.map V.int) = true) (hf : (z.map V.int).all flatV = true) (h : ∀ p0, H p0 = none → ∀ D', D'.rt = D.rt → tr D' [some (.int ((k : Nat) : Int)), some x] (upd H p0 (.lst (z.map V.int)))) :
    tSeq (tIfS (tTest (tOp (rIn K false) (tVar 0) (tLst t))) tr tNext) rest D [some (.int ((k : Nat) : Int)), some x] H := by
  refine ⟨_, rfl, ?_⟩
  show t _ _ _
  rw [ht]
  refine ⟨by rw [sizeLine_eq, List.length_map]; omega, fun p0 n0 => ⟨p0, _, rfl, .inl (SqL.of upd_same), rfl, hf, _, rfl, ?_⟩⟩
  refine ite_pos' ?_ (h p0 n0 _ rfl)
  rw [if_neg (by decide), hb]
theorem eq_no {i : Int} (hb : ((k : Nat) : Int) ≠ i) (h : rest D [some (.int ((k : Nat) : Int)), some x] H) :
    tSeq (tIfS (tTest (tOp rEq (tVar 0) (tC (.int i)))) tr tNext) rest D [some (.int ((k : Nat) : Int)), some x] H := by
  refine ⟨_, rfl, rfl, _, rfl, ite_neg' (by simp [hb]) h⟩
theorem eq_yes {i : Int} (hb : ((k : Nat) : Int) = i) (h : ∀ D', D'.rt = D.rt → tr D' [some (.int ((k : Nat) : Int)), some x] H) :
    tSeq (tIfS (tTest (tOp rEq (tVar 0) (tC (.int i)))) tr tNext) rest D [some (.int ((k : Nat) : Int)), some x] H := by
  refine ⟨_, rfl, rfl, _, rfl, ite_pos' (by simp [hb]) (h _ rfl)⟩
end
section
variable {P : Program} {w : World} {K : PySem.W.Frag} {mg : Str → Option Value} {base : Heap} {Cs : Nat → Addr}
theorem scFields : FnScope ["k", "e"] ["k", "e"] (defScope sFields) := ⟨rfl, rfl, rfl, by decide +kernel, rfl, by decide +kernel, by decide +kernel⟩
theorem cl_fields (D : DefAt K mg "_law_fields" sFields ["k", "e"]) (T : Kit K Cs) (hno : ∀ i, i < 22 → ∀ n ∈ (["at", "part", "name", "what", "given"] : List Str), PySem.W.findIn K (.ref (Cs i)) n = some none) : ClP P w K mg base 1 "_law_fields" (spFields Cs) := by
  obtain ⟨f, fd, F, g, b⟩ := D.ex
  refine ⟨f, fd, _, fnP_of F scFields (fun p vs H Q E h => ?_) (fun cdv A outer s H vs Q E p hot hr h => ?_), g, F.kp, b⟩
  · obtain ⟨k, one, other, rfl, _⟩ := h
    rfl
  · obtain ⟨k, one, other, rfl, hk, hP, fin⟩ := h
    have n1 := hno k hk "at" (by decide)
    have n2 := hno k hk "part" (by decide)
    have n3 := hno k hk "name" (by decide)
    have n4 := hno k hk "what" (by decide)
    have n5 := hno k hk "given" (by decide)
    have hA := T.ask k hk
    have hin := List.mem_cons_self (a := p) (l := [])
    refine ⟨_, (pss_cons (ps_if (pt_cmpR op_in_seq (pv 0) (pe_lst (pa_cons pe_int (pa_cons pe_int pa_nil))) rfl) (pss_one (ps_ret (pe_tup pa_nil))) pss_nil)
      (pss_cons (ps_if (pt_cmpR op_eq (pv 0) pe_int (nomark _)) (pss_one (ps_ret (pe_tup (pa_cons (pe_xfP hA hin n1 (pv 1)) (pa_cons (pe_xfP hA hin n2 (pv 1)) pa_nil))))) pss_nil)
      (pss_cons (ps_if (pt_cmpR op_in_seq (pv 0) (pe_lst (pa_cons pe_int (pa_cons pe_int (pa_cons pe_int (pa_cons pe_int pa_nil))))) rfl) (pss_one (ps_ret (pe_tup (pa_cons (pe_xfP hA hin n1 (pv 1)) pa_nil)))) pss_nil)
      (pss_cons (ps_if (pt_cmpR op_in_seq (pv 0) (pe_lst (pa_cons pe_int (pa_cons pe_int (pa_cons pe_int (pa_cons pe_int (pa_cons pe_int pa_nil)))))) rfl) (pss_one (ps_ret (pe_tup (pa_cons (pe_xfP hA hin n2 (pv 1)) pa_nil)))) pss_nil)
      (pss_cons (ps_if (pt_cmpR op_in_seq (pv 0) (pe_lst (pa_cons pe_int (pa_cons pe_int (pa_cons pe_int (pa_cons pe_int (pa_cons pe_int (pa_cons pe_int pa_nil))))))) rfl) (pss_one (ps_ret (pe_tup (pa_cons (pe_xfP hA hin n3 (pv 1)) pa_nil)))) pss_nil)
      (pss_one (ps_ret (pe_ifExp (pt_cmpR op_eq (pv 0) pe_int (nomark _)) (pe_tup (pa_cons (pe_xfP hA hin n4 (pv 1)) pa_nil)) (pe_tup (pa_cons (pe_xfP hA hin n5 (pv 1)) pa_nil)))))))))), ?_⟩
    have hc : k = 0 ∨ k = 1 ∨ k = 2 ∨ k = 3 ∨ k = 4 ∨ k = 5 ∨ k = 6 ∨ k = 7 ∨ k = 8 ∨ k = 9 ∨ k = 10 ∨ k = 11 ∨ k = 12 ∨ k = 13 ∨ k = 14 ∨ k = 15 ∨ k = 16 ∨ k = 17 ∨ k = 18 ∨ k = 19 ∨ k = 20 ∨ k = 21 := by omega
    rcases hc with rfl | rfl | rfl | rfl | rfl | rfl | rfl | rfl | rfl | rfl | rfl | rfl | rfl | rfl | rfl | rfl | rfl | rfl | rfl | rfl | rfl | rfl
    · refine in_no (z := [17, 21]) (fun _ _ _ => rfl) (by decide) (by decide) (by decide) (fun a0 m0 => ?_)
      refine eq_no (by decide) ?_
      refine in_no (z := [1, 7, 10, 14]) (fun _ _ _ => rfl) (by decide) (by decide) (by decide) (fun a2 m2 => ?_)
      refine in_no (z := [2, 3, 4, 13, 16]) (fun _ _ _ => rfl) (by decide) (by decide) (by decide) (fun a3 m3 => ?_)
      refine in_yes (z := [0, 6, 8, 9, 11, 15]) (fun _ _ _ => rfl) (by decide) (by decide) (by decide) (fun a4 m4 D2 eD => ?_)
      refine ⟨_, rfl, rfl, _, one, hP.same (Same.trans (Same.trans (Same.trans (same_new m0) (same_new m2)) (same_new m3)) (same_new m4)), rfl, (by show 1 ≤ sizeLine; decide), fun T2 hT => ?_⟩
      rw [eD]
      exact fin T2 _ (same_free (Same.trans (Same.trans (Same.trans (same_new m0) (same_new m2)) (same_new m3)) (same_new m4)) hT) (Same.trans (Same.trans (Same.trans (Same.trans (same_new m0) (same_new m2)) (same_new m3)) (same_new m4)) (same_new hT)) upd_same
    · refine in_no (z := [17, 21]) (fun _ _ _ => rfl) (by decide) (by decide) (by decide) (fun a0 m0 => ?_)
      refine eq_no (by decide) ?_
      refine in_yes (z := [1, 7, 10, 14]) (fun _ _ _ => rfl) (by decide) (by decide) (by decide) (fun a2 m2 D2 eD => ?_)
      refine ⟨_, rfl, rfl, _, one, hP.same (Same.trans (same_new m0) (same_new m2)), rfl, (by show 1 ≤ sizeLine; decide), fun T2 hT => ?_⟩
      rw [eD]
      exact fin T2 _ (same_free (Same.trans (same_new m0) (same_new m2)) hT) (Same.trans (Same.trans (same_new m0) (same_new m2)) (same_new hT)) upd_same
    · refine in_no (z := [17, 21]) (fun _ _ _ => rfl) (by decide) (by decide) (by decide) (fun a0 m0 => ?_)
      refine eq_no (by decide) ?_
      refine in_no (z := [1, 7, 10, 14]) (fun _ _ _ => rfl) (by decide) (by decide) (by decide) (fun a2 m2 => ?_)
      refine in_yes (z := [2, 3, 4, 13, 16]) (fun _ _ _ => rfl) (by decide) (by decide) (by decide) (fun a3 m3 D2 eD => ?_)
      refine ⟨_, rfl, rfl, _, one, hP.same (Same.trans (Same.trans (same_new m0) (same_new m2)) (same_new m3)), rfl, (by show 1 ≤ sizeLine; decide), fun T2 hT => ?_⟩
      rw [eD]
      exact fin T2 _ (same_free (Same.trans (Same.trans (same_new m0) (same_new m2)) (same_new m3)) hT) (Same.trans (Same.trans (Same.trans (same_new m0) (same_new m2)) (same_new m3)) (same_new hT)) upd_same
    · refine in_no (z := [17, 21]) (fun _ _ _ => rfl) (by decide) (by decide) (by decide) (fun a0 m0 => ?_)
      refine eq_no (by decide) ?_
      refine in_no (z := [1, 7, 10, 14]) (fun _ _ _ => rfl) (by decide) (by decide) (by decide) (fun a2 m2 => ?_)
      refine in_yes (z := [2, 3, 4, 13, 16]) (fun _ _ _ => rfl) (by decide) (by decide) (by decide) (fun a3 m3 D2 eD => ?_)
      refine ⟨_, rfl, rfl, _, one, hP.same (Same.trans (Same.trans (same_new m0) (same_new m2)) (same_new m3)), rfl, (by show 1 ≤ sizeLine; decide), fun T2 hT => ?_⟩
      rw [eD]
      exact fin T2 _ (same_free (Same.trans (Same.trans (same_new m0) (same_new m2)) (same_new m3)) hT) (Same.trans (Same.trans (Same.trans (same_new m0) (same_new m2)) (same_new m3)) (same_new hT)) upd_same
    · refine in_no (z := [17, 21]) (fun _ _ _ => rfl) (by decide) (by decide) (by decide) (fun a0 m0 => ?_)
      refine eq_no (by decide) ?_
      refine in_no (z := [1, 7, 10, 14]) (fun _ _ _ => rfl) (by decide) (by decide) (by decide) (fun a2 m2 => ?_)
      refine in_yes (z := [2, 3, 4, 13, 16]) (fun _ _ _ => rfl) (by decide) (by decide) (by decide) (fun a3 m3 D2 eD => ?_)
      refine ⟨_, rfl, rfl, _, one, hP.same (Same.trans (Same.trans (same_new m0) (same_new m2)) (same_new m3)), rfl, (by show 1 ≤ sizeLine; decide), fun T2 hT => ?_⟩
      rw [eD]
      exact fin T2 _ (same_free (Same.trans (Same.trans (same_new m0) (same_new m2)) (same_new m3)) hT) (Same.trans (Same.trans (Same.trans (same_new m0) (same_new m2)) (same_new m3)) (same_new hT)) upd_same
    · refine in_no (z := [17, 21]) (fun _ _ _ => rfl) (by decide) (by decide) (by decide) (fun a0 m0 => ?_)
      refine eq_yes (by decide) (fun D2 eD => ?_)
      refine ⟨_, rfl, rfl, _, one, hP.same (same_new m0), rfl, _, rfl, rfl, _, other, hP.same (same_new m0), rfl, (by show 2 ≤ sizeLine; decide), fun T2 hT => ?_⟩
      rw [eD]
      exact fin T2 _ (same_free (same_new m0) hT) (Same.trans (same_new m0) (same_new hT)) upd_same
    · refine in_no (z := [17, 21]) (fun _ _ _ => rfl) (by decide) (by decide) (by decide) (fun a0 m0 => ?_)
      refine eq_no (by decide) ?_
      refine in_no (z := [1, 7, 10, 14]) (fun _ _ _ => rfl) (by decide) (by decide) (by decide) (fun a2 m2 => ?_)
      refine in_no (z := [2, 3, 4, 13, 16]) (fun _ _ _ => rfl) (by decide) (by decide) (by decide) (fun a3 m3 => ?_)
      refine in_yes (z := [0, 6, 8, 9, 11, 15]) (fun _ _ _ => rfl) (by decide) (by decide) (by decide) (fun a4 m4 D2 eD => ?_)
      refine ⟨_, rfl, rfl, _, one, hP.same (Same.trans (Same.trans (Same.trans (same_new m0) (same_new m2)) (same_new m3)) (same_new m4)), rfl, (by show 1 ≤ sizeLine; decide), fun T2 hT => ?_⟩
      rw [eD]
      exact fin T2 _ (same_free (Same.trans (Same.trans (Same.trans (same_new m0) (same_new m2)) (same_new m3)) (same_new m4)) hT) (Same.trans (Same.trans (Same.trans (Same.trans (same_new m0) (same_new m2)) (same_new m3)) (same_new m4)) (same_new hT)) upd_same
    · refine in_no (z := [17, 21]) (fun _ _ _ => rfl) (by decide) (by decide) (by decide) (fun a0 m0 => ?_)
      refine eq_no (by decide) ?_
      refine in_yes (z := [1, 7, 10, 14]) (fun _ _ _ => rfl) (by decide) (by decide) (by decide) (fun a2 m2 D2 eD => ?_)
      refine ⟨_, rfl, rfl, _, one, hP.same (Same.trans (same_new m0) (same_new m2)), rfl, (by show 1 ≤ sizeLine; decide), fun T2 hT => ?_⟩
      rw [eD]
      exact fin T2 _ (same_free (Same.trans (same_new m0) (same_new m2)) hT) (Same.trans (Same.trans (same_new m0) (same_new m2)) (same_new hT)) upd_same
    · refine in_no (z := [17, 21]) (fun _ _ _ => rfl) (by decide) (by decide) (by decide) (fun a0 m0 => ?_)
      refine eq_no (by decide) ?_
      refine in_no (z := [1, 7, 10, 14]) (fun _ _ _ => rfl) (by decide) (by decide) (by decide) (fun a2 m2 => ?_)
      refine in_no (z := [2, 3, 4, 13, 16]) (fun _ _ _ => rfl) (by decide) (by decide) (by decide) (fun a3 m3 => ?_)
      refine in_yes (z := [0, 6, 8, 9, 11, 15]) (fun _ _ _ => rfl) (by decide) (by decide) (by decide) (fun a4 m4 D2 eD => ?_)
      refine ⟨_, rfl, rfl, _, one, hP.same (Same.trans (Same.trans (Same.trans (same_new m0) (same_new m2)) (same_new m3)) (same_new m4)), rfl, (by show 1 ≤ sizeLine; decide), fun T2 hT => ?_⟩
      rw [eD]
      exact fin T2 _ (same_free (Same.trans (Same.trans (Same.trans (same_new m0) (same_new m2)) (same_new m3)) (same_new m4)) hT) (Same.trans (Same.trans (Same.trans (Same.trans (same_new m0) (same_new m2)) (same_new m3)) (same_new m4)) (same_new hT)) upd_same
    · refine in_no (z := [17, 21]) (fun _ _ _ => rfl) (by decide) (by decide) (by decide) (fun a0 m0 => ?_)
      refine eq_no (by decide) ?_
      refine in_no (z := [1, 7, 10, 14]) (fun _ _ _ => rfl) (by decide) (by decide) (by decide) (fun a2 m2 => ?_)
      refine in_no (z := [2, 3, 4, 13, 16]) (fun _ _ _ => rfl) (by decide) (by decide) (by decide) (fun a3 m3 => ?_)
      refine in_yes (z := [0, 6, 8, 9, 11, 15]) (fun _ _ _ => rfl) (by decide) (by decide) (by decide) (fun a4 m4 D2 eD => ?_)
      refine ⟨_, rfl, rfl, _, one, hP.same (Same.trans (Same.trans (Same.trans (same_new m0) (same_new m2)) (same_new m3)) (same_new m4)), rfl, (by show 1 ≤ sizeLine; decide), fun T2 hT => ?_⟩
      rw [eD]
      exact fin T2 _ (same_free (Same.trans (Same.trans (Same.trans (same_new m0) (same_new m2)) (same_new m3)) (same_new m4)) hT) (Same.trans (Same.trans (Same.trans (Same.trans (same_new m0) (same_new m2)) (same_new m3)) (same_new m4)) (same_new hT)) upd_same
    · refine in_no (z := [17, 21]) (fun _ _ _ => rfl) (by decide) (by decide) (by decide) (fun a0 m0 => ?_)
      refine eq_no (by decide) ?_
      refine in_yes (z := [1, 7, 10, 14]) (fun _ _ _ => rfl) (by decide) (by decide) (by decide) (fun a2 m2 D2 eD => ?_)
      refine ⟨_, rfl, rfl, _, one, hP.same (Same.trans (same_new m0) (same_new m2)), rfl, (by show 1 ≤ sizeLine; decide), fun T2 hT => ?_⟩
      rw [eD]
      exact fin T2 _ (same_free (Same.trans (same_new m0) (same_new m2)) hT) (Same.trans (Same.trans (same_new m0) (same_new m2)) (same_new hT)) upd_same
    · refine in_no (z := [17, 21]) (fun _ _ _ => rfl) (by decide) (by decide) (by decide) (fun a0 m0 => ?_)
      refine eq_no (by decide) ?_
      refine in_no (z := [1, 7, 10, 14]) (fun _ _ _ => rfl) (by decide) (by decide) (by decide) (fun a2 m2 => ?_)
      refine in_no (z := [2, 3, 4, 13, 16]) (fun _ _ _ => rfl) (by decide) (by decide) (by decide) (fun a3 m3 => ?_)
      refine in_yes (z := [0, 6, 8, 9, 11, 15]) (fun _ _ _ => rfl) (by decide) (by decide) (by decide) (fun a4 m4 D2 eD => ?_)
      refine ⟨_, rfl, rfl, _, one, hP.same (Same.trans (Same.trans (Same.trans (same_new m0) (same_new m2)) (same_new m3)) (same_new m4)), rfl, (by show 1 ≤ sizeLine; decide), fun T2 hT => ?_⟩
      rw [eD]
      exact fin T2 _ (same_free (Same.trans (Same.trans (Same.trans (same_new m0) (same_new m2)) (same_new m3)) (same_new m4)) hT) (Same.trans (Same.trans (Same.trans (Same.trans (same_new m0) (same_new m2)) (same_new m3)) (same_new m4)) (same_new hT)) upd_same
    · refine in_no (z := [17, 21]) (fun _ _ _ => rfl) (by decide) (by decide) (by decide) (fun a0 m0 => ?_)
      refine eq_no (by decide) ?_
      refine in_no (z := [1, 7, 10, 14]) (fun _ _ _ => rfl) (by decide) (by decide) (by decide) (fun a2 m2 => ?_)
      refine in_no (z := [2, 3, 4, 13, 16]) (fun _ _ _ => rfl) (by decide) (by decide) (by decide) (fun a3 m3 => ?_)
      refine in_no (z := [0, 6, 8, 9, 11, 15]) (fun _ _ _ => rfl) (by decide) (by decide) (by decide) (fun a4 m4 => ?_)
      refine ⟨_, rfl, rfl, _, rfl, ite_neg' (by decide) ?_⟩
      refine ⟨_, rfl, rfl, _, one, hP.same (Same.trans (Same.trans (Same.trans (same_new m0) (same_new m2)) (same_new m3)) (same_new m4)), rfl, (by show 1 ≤ sizeLine; decide), fun T2 hT => ?_⟩
      exact fin T2 _ (same_free (Same.trans (Same.trans (Same.trans (same_new m0) (same_new m2)) (same_new m3)) (same_new m4)) hT) (Same.trans (Same.trans (Same.trans (Same.trans (same_new m0) (same_new m2)) (same_new m3)) (same_new m4)) (same_new hT)) upd_same
    · refine in_no (z := [17, 21]) (fun _ _ _ => rfl) (by decide) (by decide) (by decide) (fun a0 m0 => ?_)
      refine eq_no (by decide) ?_
      refine in_no (z := [1, 7, 10, 14]) (fun _ _ _ => rfl) (by decide) (by decide) (by decide) (fun a2 m2 => ?_)
      refine in_yes (z := [2, 3, 4, 13, 16]) (fun _ _ _ => rfl) (by decide) (by decide) (by decide) (fun a3 m3 D2 eD => ?_)
      refine ⟨_, rfl, rfl, _, one, hP.same (Same.trans (Same.trans (same_new m0) (same_new m2)) (same_new m3)), rfl, (by show 1 ≤ sizeLine; decide), fun T2 hT => ?_⟩
      rw [eD]
      exact fin T2 _ (same_free (Same.trans (Same.trans (same_new m0) (same_new m2)) (same_new m3)) hT) (Same.trans (Same.trans (Same.trans (same_new m0) (same_new m2)) (same_new m3)) (same_new hT)) upd_same
    · refine in_no (z := [17, 21]) (fun _ _ _ => rfl) (by decide) (by decide) (by decide) (fun a0 m0 => ?_)
      refine eq_no (by decide) ?_
      refine in_yes (z := [1, 7, 10, 14]) (fun _ _ _ => rfl) (by decide) (by decide) (by decide) (fun a2 m2 D2 eD => ?_)
      refine ⟨_, rfl, rfl, _, one, hP.same (Same.trans (same_new m0) (same_new m2)), rfl, (by show 1 ≤ sizeLine; decide), fun T2 hT => ?_⟩
      rw [eD]
      exact fin T2 _ (same_free (Same.trans (same_new m0) (same_new m2)) hT) (Same.trans (Same.trans (same_new m0) (same_new m2)) (same_new hT)) upd_same
    · refine in_no (z := [17, 21]) (fun _ _ _ => rfl) (by decide) (by decide) (by decide) (fun a0 m0 => ?_)
      refine eq_no (by decide) ?_
      refine in_no (z := [1, 7, 10, 14]) (fun _ _ _ => rfl) (by decide) (by decide) (by decide) (fun a2 m2 => ?_)
      refine in_no (z := [2, 3, 4, 13, 16]) (fun _ _ _ => rfl) (by decide) (by decide) (by decide) (fun a3 m3 => ?_)
      refine in_yes (z := [0, 6, 8, 9, 11, 15]) (fun _ _ _ => rfl) (by decide) (by decide) (by decide) (fun a4 m4 D2 eD => ?_)
      refine ⟨_, rfl, rfl, _, one, hP.same (Same.trans (Same.trans (Same.trans (same_new m0) (same_new m2)) (same_new m3)) (same_new m4)), rfl, (by show 1 ≤ sizeLine; decide), fun T2 hT => ?_⟩
      rw [eD]
      exact fin T2 _ (same_free (Same.trans (Same.trans (Same.trans (same_new m0) (same_new m2)) (same_new m3)) (same_new m4)) hT) (Same.trans (Same.trans (Same.trans (Same.trans (same_new m0) (same_new m2)) (same_new m3)) (same_new m4)) (same_new hT)) upd_same
    · refine in_no (z := [17, 21]) (fun _ _ _ => rfl) (by decide) (by decide) (by decide) (fun a0 m0 => ?_)
      refine eq_no (by decide) ?_
      refine in_no (z := [1, 7, 10, 14]) (fun _ _ _ => rfl) (by decide) (by decide) (by decide) (fun a2 m2 => ?_)
      refine in_yes (z := [2, 3, 4, 13, 16]) (fun _ _ _ => rfl) (by decide) (by decide) (by decide) (fun a3 m3 D2 eD => ?_)
      refine ⟨_, rfl, rfl, _, one, hP.same (Same.trans (Same.trans (same_new m0) (same_new m2)) (same_new m3)), rfl, (by show 1 ≤ sizeLine; decide), fun T2 hT => ?_⟩
      rw [eD]
      exact fin T2 _ (same_free (Same.trans (Same.trans (same_new m0) (same_new m2)) (same_new m3)) hT) (Same.trans (Same.trans (Same.trans (same_new m0) (same_new m2)) (same_new m3)) (same_new hT)) upd_same
    · refine in_yes (z := [17, 21]) (fun _ _ _ => rfl) (by decide) (by decide) (by decide) (fun a0 m0 D2 eD => ?_)
      refine ⟨Nat.zero_le _, fun T2 hT => ?_⟩
      rw [eD]
      exact fin T2 _ (same_free (same_new m0) hT) (Same.trans (same_new m0) (same_new hT)) upd_same
    · refine in_no (z := [17, 21]) (fun _ _ _ => rfl) (by decide) (by decide) (by decide) (fun a0 m0 => ?_)
      refine eq_no (by decide) ?_
      refine in_no (z := [1, 7, 10, 14]) (fun _ _ _ => rfl) (by decide) (by decide) (by decide) (fun a2 m2 => ?_)
      refine in_no (z := [2, 3, 4, 13, 16]) (fun _ _ _ => rfl) (by decide) (by decide) (by decide) (fun a3 m3 => ?_)
      refine in_no (z := [0, 6, 8, 9, 11, 15]) (fun _ _ _ => rfl) (by decide) (by decide) (by decide) (fun a4 m4 => ?_)
      refine ⟨_, rfl, rfl, _, rfl, ite_neg' (by decide) ?_⟩
      refine ⟨_, rfl, rfl, _, one, hP.same (Same.trans (Same.trans (Same.trans (same_new m0) (same_new m2)) (same_new m3)) (same_new m4)), rfl, (by show 1 ≤ sizeLine; decide), fun T2 hT => ?_⟩
      exact fin T2 _ (same_free (Same.trans (Same.trans (Same.trans (same_new m0) (same_new m2)) (same_new m3)) (same_new m4)) hT) (Same.trans (Same.trans (Same.trans (Same.trans (same_new m0) (same_new m2)) (same_new m3)) (same_new m4)) (same_new hT)) upd_same
    · refine in_no (z := [17, 21]) (fun _ _ _ => rfl) (by decide) (by decide) (by decide) (fun a0 m0 => ?_)
      refine eq_no (by decide) ?_
      refine in_no (z := [1, 7, 10, 14]) (fun _ _ _ => rfl) (by decide) (by decide) (by decide) (fun a2 m2 => ?_)
      refine in_no (z := [2, 3, 4, 13, 16]) (fun _ _ _ => rfl) (by decide) (by decide) (by decide) (fun a3 m3 => ?_)
      refine in_no (z := [0, 6, 8, 9, 11, 15]) (fun _ _ _ => rfl) (by decide) (by decide) (by decide) (fun a4 m4 => ?_)
      refine ⟨_, rfl, rfl, _, rfl, ite_neg' (by decide) ?_⟩
      refine ⟨_, rfl, rfl, _, one, hP.same (Same.trans (Same.trans (Same.trans (same_new m0) (same_new m2)) (same_new m3)) (same_new m4)), rfl, (by show 1 ≤ sizeLine; decide), fun T2 hT => ?_⟩
      exact fin T2 _ (same_free (Same.trans (Same.trans (Same.trans (same_new m0) (same_new m2)) (same_new m3)) (same_new m4)) hT) (Same.trans (Same.trans (Same.trans (Same.trans (same_new m0) (same_new m2)) (same_new m3)) (same_new m4)) (same_new hT)) upd_same
    · refine in_no (z := [17, 21]) (fun _ _ _ => rfl) (by decide) (by decide) (by decide) (fun a0 m0 => ?_)
      refine eq_no (by decide) ?_
      refine in_no (z := [1, 7, 10, 14]) (fun _ _ _ => rfl) (by decide) (by decide) (by decide) (fun a2 m2 => ?_)
      refine in_no (z := [2, 3, 4, 13, 16]) (fun _ _ _ => rfl) (by decide) (by decide) (by decide) (fun a3 m3 => ?_)
      refine in_no (z := [0, 6, 8, 9, 11, 15]) (fun _ _ _ => rfl) (by decide) (by decide) (by decide) (fun a4 m4 => ?_)
      refine ⟨_, rfl, rfl, _, rfl, ite_pos' (by decide) ?_⟩
      refine ⟨_, rfl, rfl, _, one, hP.same (Same.trans (Same.trans (Same.trans (same_new m0) (same_new m2)) (same_new m3)) (same_new m4)), rfl, (by show 1 ≤ sizeLine; decide), fun T2 hT => ?_⟩
      exact fin T2 _ (same_free (Same.trans (Same.trans (Same.trans (same_new m0) (same_new m2)) (same_new m3)) (same_new m4)) hT) (Same.trans (Same.trans (Same.trans (Same.trans (same_new m0) (same_new m2)) (same_new m3)) (same_new m4)) (same_new hT)) upd_same
    · refine in_yes (z := [17, 21]) (fun _ _ _ => rfl) (by decide) (by decide) (by decide) (fun a0 m0 D2 eD => ?_)
      refine ⟨Nat.zero_le _, fun T2 hT => ?_⟩
      rw [eD]
      exact fin T2 _ (same_free (same_new m0) hT) (Same.trans (same_new m0) (same_new hT)) upd_same
end
end My
namespace My
open PySem PySem.Spec PyProof.Rows Sx L2
abbrev sNames : Stmt := top 29
theorem takes0N {X : Cx} : L2N.Takes X (fun _ _ _ _ => False) := fun _ _ x => by
  obtain ⟨_, _, _, _, _, _, _, _, _, _, _, _, _, _, _, _, z⟩ := x
  exact z.elim
/-- as PinE, by the class and the dict alone -/
def PinX (H : Hp) (cls : Value) (dct : Option Addr) (D : Addr) (fs : Option (List (Str × V))) : Prop := cls = .ref D ∧ match fs with
  | none => dct = none
  | some l => ∃ d, dct = some d ∧ H d = some (.xd l)
theorem PinX.same {H H' : Hp} {cls : Value} {dct : Option Addr} {D : Addr} {fs : Option (List (Str × V))} (h : PinX H cls dct D fs) (sm : Same H H') : PinX H' cls dct D fs := by
  obtain ⟨h1, h2⟩ := h
  refine ⟨h1, ?_⟩
  cases fs with
  | none => exact h2
  | some l =>
    obtain ⟨d, e, z⟩ := h2
    exact ⟨d, e, sm _ _ z⟩
def spClX (Cs : Nat → Addr) (a : Addr) (cls : Value) (dct : Option Addr) : Sp := fun vs H Q _ => ∃ (i : Nat) (fs : Option (List (Str × V))), vs = [.ref a] ∧ i < 22 ∧ PinX H cls dct (Cs i) fs ∧ ∀ L H', H L = none → Same H H' → H' L = some (.lst [.int i, .int (-1)]) → Q (.ref L) H'
def spFiX (Cs : Nat → Addr) (a : Addr) (cls : Value) (dct : Option Addr) : Sp := fun vs H Q _ => ∃ (k : Nat) (one other : V), vs = [.int k, .ref a] ∧ k < 22 ∧ PinX H cls dct (Cs k) (pinF k one other) ∧ ∀ T H', H T = none → Same H H' → H' T = some (.tup (valsOf k one other)) → Q (.ref T) H'
theorem ClP.imp {P : Program} {w : World} {K : PySem.W.Frag} {mg : Str → Option Value} {base : Heap} {k : Nat} {x : Str} {sp sp' : Addr × Obj → Sp} (c : ClP P w K mg base k x sp) (h : ∀ p vs H Q E, (∃ vs, p.2.data = .fields vs) → sp' p vs H Q E → sp p vs H Q E) (hl : ∀ p vs H Q E, sp' p vs H Q E → ∀ n, (∀ p vs H Q E, sp p vs H Q E → vs.length = n) → vs.length = n) : ClP P w K mg base k x sp' := by
  obtain ⟨f, fd, ps, F, g, kp, b⟩ := c.ex
  exact ⟨f, fd, ps, ⟨fun p vs H Q E z => hl p vs H Q E z _ F.len, fun p A outer s H args us vs Q E hr hot pin env bd rel z => F.run p A outer s H args us vs Q E hr hot pin env bd rel (h _ _ _ _ _ ⟨_, hot.2.choose_spec.1⟩ z)⟩, g, kp, b⟩
theorem FmV.same {K : PySem.W.Frag} {H H' : Hp} {v : V} (h : FmV K H v) (sm : Same H H') : FmV K H' v := by
  cases v with
  | ref a =>
    obtain ⟨xs, hS, hl, hx⟩ := h
    refine ⟨xs, ?_, hl, hx⟩
    rcases hS with (z | ⟨o, z⟩) | z
    · exact .inl (.inl (sm _ _ z))
    · exact .inl (.inr ⟨o, sm _ _ z⟩)
    · exact .inr z
  | _ => exact h
/-- the entries for the first n classes -/
def Ents (H : Hp) (F : Addr) (one other : V) (n : Nat) (es : List V) : Prop := es.length = n ∧ ∀ j, j < n → ∃ t L T : Addr, es[j]? = some (.ref t) ∧ H t = some (.tup [.int ((j : Nat) : Int), .ref L, .ref T]) ∧ H L = some (.lst [.int ((j : Nat) : Int), .int (-1)]) ∧ L ≠ F ∧ H T = some (.tup (valsOf j one other))
theorem Ents.keep {H H' : Hp} {F : Addr} {one other : V} {n : Nat} {es : List V} (h : Ents H F one other n es) (hF : ∃ xs, H F = some (.lst xs)) (k : ∀ b o, b ≠ F → H b = some o → H' b = some o) : Ents H' F one other n es := by
  obtain ⟨h1, h2⟩ := h
  obtain ⟨xs, hF⟩ := hF
  refine ⟨h1, fun j hj => ?_⟩
  obtain ⟨t, L, T, e1, e2, e3, e4, e5⟩ := h2 j hj
  have n1 : t ≠ F := ne_of e2 hF (by intro z; cases z)
  have n2 : T ≠ F := ne_of e5 hF (by intro z; cases z)
  exact ⟨t, L, T, e1, k _ _ n1 e2, k _ _ e4 e3, e4, k _ _ n2 e5⟩
theorem Ents.add {H : Hp} {F : Addr} {one other : V} {n : Nat} {es : List V} (h : Ents H F one other n es) {t L T : Addr} (e2 : H t = some (.tup [.int ((n : Nat) : Int), .ref L, .ref T])) (e3 : H L = some (.lst [.int ((n : Nat) : Int), .int (-1)])) (e4 : L ≠ F) (e5 : H T = some (.tup (valsOf n one other))) :
    Ents H F one other (n + 1) (es ++ [.ref t]) := by
  obtain ⟨h1, h2⟩ := h
  refine ⟨by rw [List.length_append, h1]; rfl, fun j hj => ?_⟩
  by_cases hjn : j < n
  · obtain ⟨t', L', T', z1, z⟩ := h2 j hjn
    exact ⟨t', L', T', by rw [List.getElem?_append_left (by omega)]; exact z1, z⟩
  · have e : j = n := by omega
    subst e
    exact ⟨t, L, T, by rw [List.getElem?_append_right (by omega), h1]; simp, e2, e3, e4, e5⟩
def spNames (K : PySem.W.Frag) : Sp := fun vs H Q _ => ∃ one other : V, vs = [one, other] ∧ FmV K H one ∧ FmV K H other ∧ ∀ F H' es, H F = none → Same H H' → H' F = some (.lst es) → Ents H' F one other 22 es → Q (.ref F) H'
/-- what a turn of the loop asks -/
def tsN (K : PySem.W.Frag) (Cs : Nat → Addr) : Addr → Value → Option Addr → TS := fun a cls d => tDrop (tBM K "list" rAppend (tVar 2) (tCons (tTup (tCons (tVar 3) (tCons (fun σ H Q => (tCons (tVar 4) tNil) σ H fun vs H1 => spClX Cs a cls d vs H1 Q E0) (tCons (fun σ H Q => (tCons (tVar 3) (tCons (tVar 4) tNil)) σ H fun vs H1 => spFiX Cs a cls d vs H1 Q E0) tNil)))) tNil))
def tbN (K : PySem.W.Frag) (Cs : Nat → Addr) (W : WX) : TS := tSeq (tDrop (tCallS (spFirst K Cs) (WE W) (tCons (tVar 3) (tCons (tVar 0) (tCons (tVar 1) tNil))))) (tDrop (tCallS (spSecond K Cs) (WE W) (tCons (tVar 3) (tCons (tVar 0) (tCons (tVar 1) tNil)))))
def tTurn (K : PySem.W.Frag) (Cs : Nat → Addr) (CE : Addr) : TS := fun D σ H => tbN K Cs (wAs K (.ref CE) 4 (tsN K Cs) (fun _ _ _ _ => False) D) D σ H
theorem turn_ok {K : PySem.W.Frag} {Cs : Nat → Addr} {CE F0 : Addr} {i : Nat} {one other : V} {es : List V} {w0 : Option V} {H2 : Hp} {D : Ends} (hi : i < 22) (hF0 : H2 F0 = some (.lst es)) (en : Ents H2 F0 one other i es) (m1 : FmV K H2 one) (m2 : FmV K H2 other) (hx : PySem.W.exmOne K (.ref (Cs i)) (.ref CE) = some true)
    (fin : ∀ w H3 es', (∀ b o, b ≠ F0 → H2 b = some o → H3 b = some o) → H3 F0 = some (.lst es') → Ents H3 F0 one other (i + 1) es' → D.nx [some one, some other, some (.ref F0), some (.int i), w] H3) :
    tTurn K Cs CE D [some one, some other, some (.ref F0), some (.int i), w0] H2 := by
  have hsuite : ∀ (a : Addr) (fs : Option (List (Str × V))) (d : Option Addr) (H : Hp), Same H2 H → PinX H (.ref (Cs i)) d (Cs i) fs → pinF i one other = fs → ∀ D', (∀ σ H3 es', (∀ b o, b ≠ F0 → H b = some o → H3 b = some o) → H3 F0 = some (.lst es') → Ents H3 F0 one other (i + 1) es' → σ = [some one, some other, some (.ref F0), some (.int i), some (.ref a)] → D'.nx σ H3) →
      tsN K Cs a (.ref (Cs i)) d D' [some one, some other, some (.ref F0), some (.int i), some (.ref a)] H := by
    intro a fs d H sm hP hfs D' hD
    refine ⟨_, rfl, .inl ⟨rfl, es, SqL.of (sm _ _ hF0)⟩, _, rfl, _, rfl, i, fs, rfl, hi, hP, fun L H3 nL s3 hL => ⟨_, rfl, _, rfl, i, one, other, rfl, hi, ?_, fun T H4 nT s4 hT => ⟨by show 3 ≤ sizeLine; decide, fun t nt => ⟨F0, es, .ref t, rfl, rfl, ?_, ?_, ?_⟩⟩⟩⟩
    · rw [hfs]
      exact hP.same s3
    · exact same_new nt _ _ (s4 _ _ (s3 _ _ (sm _ _ hF0)))
    · rw [en.1, sizeLine_eq]
      omega
    · have hF4 := s4 _ _ (s3 _ _ (sm _ _ hF0))
      have nLF : L ≠ F0 := fun z => by
        have h5 := sm _ _ hF0
        rw [← z, nL] at h5
        cases h5
      have nTF : T ≠ F0 := fun z => by
        have h5 := s3 _ _ (sm _ _ hF0)
        rw [← z, nT] at h5
        cases h5
      have ntF : t ≠ F0 := fun z => by
        rw [← z, nt] at hF4
        cases hF4
      have k5 : ∀ b o, b ≠ F0 → H4 b = some o → (upd (upd H4 t (.tup [.int i, .ref L, .ref T])) F0 (.lst (es ++ [.ref t]))) b = some o := fun b o nb e => by
        rw [upd_ne nb]
        exact same_new nt _ _ e
      refine hD _ _ (es ++ [.ref t]) (fun b o nb e => k5 b o nb (s4 _ _ (s3 _ _ e))) upd_same ?_ rfl
      refine Ents.add (Ents.keep en ⟨_, hF0⟩ fun b o nb e => k5 b o nb (s4 _ _ (s3 _ _ (sm _ _ e)))) (t := t) (L := L) (T := T) ?_ (k5 _ _ nLF (s4 _ _ hL)) nLF (k5 _ _ nTF hT)
      rw [upd_ne ntF]
      exact upd_same
  have hex : ∀ H, Same H2 H → Ex Cs (WE (wAs K (.ref CE) 4 (tsN K Cs) (fun _ _ _ _ => False) D) [some one, some other, some (.ref F0), some (.int i), w0]) H i one other := by
    intro H sm
    refine ⟨fun h => ⟨true, hx, fun _ a na => ?_, fun z => Bool.noConfusion z⟩, fun h1 h2 d nd => ⟨true, hx, fun _ a na => ?_, fun z => Bool.noConfusion z⟩⟩
    · exact hsuite a none none H sm ⟨rfl, rfl⟩ (if_pos h) _ fun σ H3 es' k h1 h2 e => by
        subst e
        exact fin none H3 es' (fun b o nb z => k b o nb (sm _ _ z)) h1 h2
    · exact hsuite a (some (fieldsOf i one other)) (some d) _ (sm.trans (same_new nd)) ⟨rfl, d, rfl, upd_same⟩ (if_neg (by omega)) _ fun σ H3 es' k h1 h2 e => by
        subst e
        exact fin none H3 es' (fun b o nb z => k b o nb (same_new nd _ _ (sm _ _ z))) h1 h2
  exact ⟨_, rfl, _, rfl, _, rfl, i, one, other, rfl, hi, m1, m2, fun _ => hex H2 (Same.refl _), fun h10 => ⟨_, rfl, _, rfl, _, rfl, i, one, other, rfl, h10, hi, m1, m2, hex H2 (Same.refl _)⟩⟩
section
variable {P : Program} {w : World} {K : PySem.W.Frag} {mg : Str → Option Value} {base : Heap} {Cs : Nat → Addr} {CE : Addr}
theorem scNames : FnScope ["one", "other", "found", "k", "e"] ["one", "other"] (defScope sNames) := ⟨rfl, rfl, rfl, by decide +kernel, rfl, by decide +kernel, by decide +kernel⟩
theorem cl_names (D : DefAt K mg "_law_names_raised" sNames ["one", "other"]) (hrng : mg "range" = none) (gCE : mg "CarriedError" = some (.ref CE)) (hex : ∀ i, i < 22 → PySem.W.exmOne K (.ref (Cs i)) (.ref CE) = some true)
    (c1 : Cl P w K mg base (L2N.CX P w) 2 "_law_raise_first" (spFirst K Cs)) (c2 : Cl P w K mg base (L2N.CX P w) 2 "_law_raise_second" (spSecond K Cs))
    (cC : ClP P w K mg base 1 "_law_classes" (spClasses Cs)) (cF : ClP P w K mg base 1 "_law_fields" (spFields Cs)) : Cl P w K mg base CX0 3 "_law_names_raised" (spNames K) := by
  obtain ⟨f, fd, F, g, b⟩ := D.ex
  obtain ⟨f1, fd1, ps1, F1, g1, kp1, b1⟩ := c1.ex
  obtain ⟨f2, fd2, ps2, F2, g2, kp2, b2⟩ := c2.ex
  have cC' : ClP P w K mg base 1 "_law_classes" (fun p => spClX Cs p.1 p.2.cls p.2.dict) := cC.imp (fun p vs H Q E hd z => by
    obtain ⟨i, fs, e, hi, hp, q⟩ := z
    exact ⟨i, fs, e, hi, ⟨hd, hp.1, by
      have h2 := hp.2
      cases fs with
      | none => exact h2
      | some l => exact h2⟩, q⟩) (fun p vs H Q E z n hn => by
    obtain ⟨i, fs, rfl, hi, hp, q⟩ := z
    have hp' : ∃ fs', PinE H (p.1, { p.2 with data := .fields #[] }) (Cs i) fs' := ⟨fs, ⟨_, rfl⟩, hp.1, by
      have h2 := hp.2
      cases fs with
      | none => exact h2
      | some l => exact h2⟩
    obtain ⟨fs', hp'⟩ := hp'
    exact hn (p.1, { p.2 with data := .fields #[] }) [.ref p.1] H Q E ⟨i, fs', rfl, hi, hp', q⟩)
  have cF' : ClP P w K mg base 1 "_law_fields" (fun p => spFiX Cs p.1 p.2.cls p.2.dict) := cF.imp (fun p vs H Q E hd z => by
    obtain ⟨i, one, other, e, hi, hp, q⟩ := z
    exact ⟨i, one, other, e, hi, ⟨hd, hp.1, by
      have h2 := hp.2
      cases hf : pinF i one other with
      | none => rw [hf] at h2; exact h2
      | some l => rw [hf] at h2; exact h2⟩, q⟩) (fun p vs H Q E z n hn => by
    obtain ⟨i, one, other, rfl, hi, hp, q⟩ := z
    exact hn (p.1, { p.2 with data := .fields #[] }) [.int i, .ref p.1] H Q E ⟨i, one, other, rfl, hi, ⟨⟨_, rfl⟩, hp.1, by
      have h2 := hp.2
      cases hf : pinF i one other with
      | none => rw [hf] at h2; exact h2
      | some l => rw [hf] at h2; exact h2⟩, q⟩)
  refine ⟨f, fd, _, F.ok scNames (fun vs H Q E h => ?_) (fun cdv A outer s H vs Q E hr h => ?_), g, F.kp, b⟩
  · obtain ⟨one, other, rfl, _⟩ := h
    rfl
  · obtain ⟨one, other, rfl, m1, m2, fin⟩ := h
    have nd := scNames.nd
    refine ⟨_, pss_cons (ps_set (i := 2) nd rfl (.inl rfl) (pe_lst pa_nil)) (pss_cons (ps_for PassesOwn.never rfl (pi_range1 rfl hrng (pa_cons pe_int pa_nil)) (pg_name (i := 3) nd rfl (.inl rfl))
      (pss_one (L2N.ps_try_as (i := 4) (tb := fun W => tSeq (tDrop (tCallS (spFirst K Cs) (WE W) (tCons (tVar 3) (tCons (tVar 0) (tCons (tVar 1) tNil))))) (tDrop (tCallS (spSecond K Cs) (WE W) (tCons (tVar 3) (tCons (tVar 0) (tCons (tVar 1) tNil))))))
        (ts := fun a cls d => tDrop (tBM K "list" rAppend (tVar 2) (tCons (tTup (tCons (tVar 3) (tCons (fun σ H Q => (tCons (tVar 4) tNil) σ H fun vs H1 => spClX Cs a cls d vs H1 Q E0) (tCons (fun σ H Q => (tCons (tVar 3) (tCons (tVar 4) tNil)) σ H fun vs H1 => spFiX Cs a cls d vs H1 Q E0) tNil)))) tNil))) (Wout := fun _ _ _ _ => False) rfl rfl nd rfl rfl ⟨rfl, by decide, .inl gCE⟩ takes0N
        (fun W pn xe tk _ => pss_cons (ps_expr (pe_callS F1 hr rfl g1 kp1 b1 (fun σ => L2N.passAt tk σ) (pa_cons (pv 3) (pa_cons (pv 0) (pa_cons (pv 1) pa_nil))))) (pss_one (ps_expr (pe_callS F2 hr rfl g2 kp2 b2 (fun σ => L2N.passAt tk σ) (pa_cons (pv 3) (pa_cons (pv 0) (pa_cons (pv 1) pa_nil)))))))
        (fun a oe cls d pn hz hf => ?suite)))) (pss_one (ps_ret (pv 2)))), ?_⟩
    case suite =>
      obtain ⟨vs, hd⟩ := hf
      have hot : L2H.Hot1 ((cxOf CX0 P w K mg base ["one", "other", "found", "k", "e"] "_law_names_raised" (defScope sNames) f cdv A outer s H E).nox.suite a ((a, oe) :: pn)).A (a, oe) := ⟨rfl, vs, hd, hz.2.2 vs hd⟩
      have hrH : L2H.RoomH 2 ((cxOf CX0 P w K mg base ["one", "other", "found", "k", "e"] "_law_names_raised" (defScope sNames) f cdv A outer s H E).nox.suite a ((a, oe) :: pn)).A := ⟨hr.dp, hr.un⟩
      have hin : (a, oe) ∈ ((cxOf CX0 P w K mg base ["one", "other", "found", "k", "e"] "_law_names_raised" (defScope sNames) f cdv A outer s H E).nox.suite a ((a, oe) :: pn)).pn := List.mem_cons_self
      have e1 := hz.1
      have e2 := hz.2.1
      subst e1 e2
      exact pss_one (ps_expr (pe_bm PySem.F.plainAttrs_list PySem.F.slot_list_append PySem.F.type_list_append mt_append (pv 2) (pa_cons (pe_tup (pa_cons (pv 3) (pa_cons (pe_clP cC' hrH hot hin (pa_cons (pv 4) pa_nil)) (pa_cons (pe_clP cF' hrH hot hin (pa_cons (pv 3) (pa_cons (pv 4) pa_nil))) pa_nil)))) pa_nil)))
    refine ⟨Nat.zero_le _, fun F0 nF => ⟨22, rfl, by decide, by decide, ?_⟩⟩
    refine for_range (lo := 0) (n := 22) (g := gName 3) (tb := tTurn K Cs CE) (D := { nx := tRet (tVar 2) { nx := fun _ H' => Q .non H', rt := Q }, rt := Q }) (fun i σ H2 => ∃ es v w, σ = [some one, some other, some (.ref F0), v, w] ∧ Same H H2 ∧ H2 F0 = some (.lst es) ∧ Ents H2 F0 one other i es) ?_ (fun i σ H2 hi pv => ?_) (fun σ H2 pv => ?_)
    · exact ⟨[], none, none, rfl, same_new nF, upd_same, rfl, fun j hj => absurd hj (Nat.not_lt_zero _)⟩
    · obtain ⟨es, v, w, rfl, sm, hF0, en⟩ := pv
      show tTurn K Cs CE _ [some one, some other, some (.ref F0), some (.int (0 + ((i : Nat) : Int))), w] H2
      rw [Int.zero_add]
      refine turn_ok hi hF0 en (FmV.same m1 sm) (FmV.same m2 sm) (hex i hi) fun w H3 es' k hF3 en3 => ⟨es', _, w, rfl, fun b o e => k b o (fun z => ?_) (sm _ _ e), hF3, en3⟩
      rw [z, nF] at e
      cases e
    · obtain ⟨es, v, w, rfl, sm, hF0, en⟩ := pv
      exact ⟨_, rfl, fin F0 H2 es nF sm hF0 en⟩
end
end My
namespace My
open PySem PySem.Spec PyProof.Rows Sx L2
abbrev sRight : Stmt := top 34
def MnV : List (List V × List PyData) := [([.int 1, .int 2], [.int 1, .int 2]), ([], []), ([.str "call", .str "a", .non], [.str "call", .str "a", .none])]
/-- a value of the menu, and what it reads as -/
def Mn (H : Hp) (v : V) (d : PyData) : Prop := (∃ i : Int, v = .int i ∧ d = .int i ∧ i.natAbs.log2 < 1920) ∨ (v = .non ∧ d = .none) ∨ (v = .bl true ∧ d = .bool true) ∨ (v = .str "a" ∧ d = .str "a") ∨ (v = .str "" ∧ d = .str "") ∨
  ∃ a p, v = .ref a ∧ p ∈ MnV ∧ H a = some (.tup p.1) ∧ d = .tuple p.2
theorem Mn.step {H H' : Hp} {v : V} {d : PyData} (h : Mn H v d) (k : ∀ a xs, H a = some (.tup xs) → H' a = some (.tup xs)) : Mn H' v d := by
  rcases h with h | h | h | h | h | ⟨a, p, e, hp, hH, hd⟩
  · exact .inl h
  · exact .inr (.inl h)
  · exact .inr (.inr (.inl h))
  · exact .inr (.inr (.inr (.inl h)))
  · exact .inr (.inr (.inr (.inr (.inl h))))
  · exact .inr (.inr (.inr (.inr (.inr ⟨a, p, e, hp, k _ _ hH, hd⟩))))
theorem mnV_all {q : List V × List PyData → Prop} (h1 : q ([.int 1, .int 2], [.int 1, .int 2])) (h2 : q ([], [])) (h3 : q ([.str "call", .str "a", .non], [.str "call", .str "a", .none])) : ∀ p ∈ MnV, q p := fun p hp => by
  rcases List.mem_cons.mp hp with rfl | hp
  · exact h1
  rcases List.mem_cons.mp hp with rfl | hp
  · exact h2
  rcases List.mem_singleton.mp hp with rfl
  exact h3
theorem Mn.dp {K : PySem.W.Frag} {H : Hp} {v : V} {d : PyData} (h : Mn H v d) : Dp K H v d := by
  rcases h with ⟨i, rfl, rfl, _⟩ | ⟨rfl, rfl⟩ | ⟨rfl, rfl⟩ | ⟨rfl, rfl⟩ | ⟨rfl, rfl⟩ | ⟨a, p, rfl, hp, hH, rfl⟩
  · exact .int i
  · exact .non
  · exact .bl _
  · exact .str _
  · exact .str _
  · refine .tup (SqT.of hH) ?_
    revert p
    intro p hp hH
    exact mnV_all (q := fun p => DpAll K H p.1 p.2) (.cons (.int _) (.cons (.int _) .nil)) .nil (.cons (.str _) (.cons (.str _) (.cons .non .nil))) p hp
theorem Mn.lay {H : Hp} {v : V} {d : PyData} (h : Mn H v d) : d.canLay0 = true ∧ d.depth ≤ 1 := by
  rcases h with ⟨i, rfl, rfl, _⟩ | ⟨rfl, rfl⟩ | ⟨rfl, rfl⟩ | ⟨rfl, rfl⟩ | ⟨rfl, rfl⟩ | ⟨a, p, rfl, hp, hH, rfl⟩
  · exact ⟨rfl, Nat.zero_le _⟩
  · exact ⟨rfl, Nat.zero_le _⟩
  · exact ⟨rfl, Nat.zero_le _⟩
  · exact ⟨by decide +kernel, Nat.zero_le _⟩
  · exact ⟨by decide +kernel, Nat.zero_le _⟩
  · exact mnV_all (q := fun p => (PyData.tuple p.2).canLay0 = true ∧ (PyData.tuple p.2).depth ≤ 1) (by decide +kernel) (by decide +kernel) (by decide +kernel) p hp
theorem Mn.fm {K : PySem.W.Frag} {H : Hp} {v : V} {d : PyData} (h : Mn H v d) : FmV K H v := by
  rcases h with ⟨i, rfl, rfl, hi⟩ | ⟨rfl, rfl⟩ | ⟨rfl, rfl⟩ | ⟨rfl, rfl⟩ | ⟨rfl, rfl⟩ | ⟨a, p, rfl, hp, hH, rfl⟩
  · exact hi
  · trivial
  · trivial
  · show (Str.length _) ≤ 3000
    decide
  · show (Str.length _) ≤ 3000
    decide
  · refine ⟨_, SqT.of hH, ?_, ?_⟩
    · exact mnV_all (q := fun p => p.1.length ≤ 4) (by decide) (by decide) (by decide) p hp
    · refine mnV_all (q := fun p => ∀ x ∈ p.1, SmV x) ?_ ?_ ?_ p hp
      · intro x hx
        rcases List.mem_cons.mp hx with rfl | hx
        · show (Int.natAbs _).log2 < _
          decide +kernel
        rcases List.mem_singleton.mp hx with rfl
        show (Int.natAbs _).log2 < _
        decide +kernel
      · intro x hx
        cases hx
      · intro x hx
        rcases List.mem_cons.mp hx with rfl | hx
        · show (PySem.reprText _).length ≤ 300
          decide +kernel
        rcases List.mem_cons.mp hx with rfl | hx
        · show (PySem.reprText _).length ≤ 300
          decide +kernel
        rcases List.mem_singleton.mp hx with rfl
        trivial
theorem dpAll_of {K : PySem.W.Frag} {H : Hp} : ∀ {xs : List V} {ds : List PyData}, xs.length = ds.length → (∀ (i : Nat) (x : V) (d : PyData), xs[i]? = some x → ds[i]? = some d → Dp K H x d) → DpAll K H xs ds
  | [], [], _, _ => .nil
  | [], _ :: _, h, _ => nomatch h
  | _ :: _, [], h, _ => nomatch h
  | x :: xs, d :: ds, h, k => .cons (k 0 x d rfl rfl) (dpAll_of (Nat.succ.inj h) fun i y e h1 h2 => k (i + 1) y e h1 h2)
theorem layAll_of : ∀ {ds : List PyData} {n : Nat}, (∀ d ∈ ds, d.canLay0 = true ∧ d.depth ≤ n) → PyData.canLayAll0 ds = true ∧ PyData.depthAll ds ≤ n
  | [], _, _ => ⟨rfl, Nat.zero_le _⟩
  | d :: ds, n, h => by
    have h1 := h d List.mem_cons_self
    have h2 := layAll_of (ds := ds) (n := n) fun e he => h e (List.mem_cons_of_mem _ he)
    refine ⟨?_, ?_⟩
    · unfold PyData.canLayAll0
      rw [h1.1, h2.1]
      rfl
    · unfold PyData.depthAll
      exact Nat.max_le.mpr ⟨h1.2, h2.2⟩
def dsOf (k : Nat) (d1 d2 : PyData) : List PyData := if k = 17 ∨ k = 21 then [] else if k = 5 then [d1, d2] else [d1]
def rowOf (d1 d2 : PyData) (j : Nat) : PyData := .tuple [.int ((j : Nat) : Int), .list [.int ((j : Nat) : Int), .int (-1)], .tuple (dsOf j d1 d2)]
def allOf (d1 d2 : PyData) : PyData := .list ((List.range 22).map (rowOf d1 d2))
theorem dp_vals {K : PySem.W.Frag} {H : Hp} {one other : V} {d1 d2 : PyData} (h1 : Mn H one d1) (h2 : Mn H other d2) (k : Nat) : DpAll K H (valsOf k one other) (dsOf k d1 d2) := by
  unfold valsOf dsOf
  split
  · exact .nil
  · split
    · exact .cons h1.dp (.cons h2.dp .nil)
    · exact .cons h1.dp .nil
theorem lay_row {d1 d2 : PyData} (h1 : d1.canLay0 = true ∧ d1.depth ≤ 1) (h2 : d2.canLay0 = true ∧ d2.depth ≤ 1) (j : Nat) : (rowOf d1 d2 j).canLay0 = true ∧ (rowOf d1 d2 j).depth ≤ 10 := by
  have h3 : PyData.canLayAll0 (dsOf j d1 d2) = true ∧ PyData.depthAll (dsOf j d1 d2) ≤ 1 := layAll_of fun d hd => by
    unfold dsOf at hd
    split at hd
    · cases hd
    · split at hd
      · rcases List.mem_cons.mp hd with rfl | hd
        · exact h1
        · rcases List.mem_singleton.mp hd with rfl
          exact h2
      · rcases List.mem_singleton.mp hd with rfl
        exact h1
  refine ⟨?_, ?_⟩
  · simp [rowOf, PyData.canLay0, PyData.canLayAll0, h3.1]
  · have := h3.2
    simp [rowOf, PyData.depth, PyData.depthAll]
    omega
theorem lay_all {d1 d2 : PyData} (h1 : d1.canLay0 = true ∧ d1.depth ≤ 1) (h2 : d2.canLay0 = true ∧ d2.depth ≤ 1) : SeqAt.shaped (allOf d1 d2) = true ∧ PyData.eqv (allOf d1 d2) (allOf d1 d2) = true := by
  have h := layAll_of (ds := (List.range 22).map (rowOf d1 d2)) (n := 10) fun d hd => by
    obtain ⟨j, _, rfl⟩ := List.mem_map.mp hd
    exact lay_row h1 h2 j
  have hc : (allOf d1 d2).canLay0 = true := by
    unfold allOf PyData.canLay0
    exact h.1
  refine ⟨?_, PySem.SeqAt.eqv_refl _ hc⟩
  unfold SeqAt.shaped
  rw [hc, Bool.true_and]
  refine decide_eq_true ?_
  unfold allOf PyData.depth
  have := h.2
  omega
theorem dp_ents {K : PySem.W.Frag} {H : Hp} {F : Addr} {one other : V} {d1 d2 : PyData} {es : List V} (hF : H F = some (.lst es)) (en : Ents H F one other 22 es) (h1 : Mn H one d1) (h2 : Mn H other d2) : Dp K H (.ref F) (allOf d1 d2) := by
  refine .lst (SqL.of hF) (dpAll_of ?_ fun i x d hx hd => ?_)
  · rw [en.1, List.length_map, List.length_range]
  · have hi : i < 22 := by
      have := List.getElem?_eq_some_iff.mp hx
      obtain ⟨hl, _⟩ := this
      rw [en.1] at hl
      exact hl
    obtain ⟨t, L, T, e1, e2, e3, e4, e5⟩ := en.2 i hi
    rw [e1] at hx
    cases hx
    rw [List.getElem?_map, List.getElem?_range hi] at hd
    cases hd
    exact .tup (SqT.of e2) (.cons (.int _) (.cons (.lst (SqL.of e3) (.cons (.int _) (.cons (.int _) .nil))) (.cons (.tup (SqT.of e5) (dp_vals h1 h2 i)) .nil)))
def Menu (H : Hp) (ys : List V) : Prop := ys.length = 11 ∧ ∀ v ∈ ys, ∃ d, Mn H v d
def tbD (K : PySem.W.Frag) : TS := tSeq (tAsg (tIf (tTest (tOp (rIn K false) (tVar 5) (tLst (tCons (tC (.int 17)) (tCons (tC (.int 21)) tNil))))) (tTup tNil) (tIf (tTest (tOp rEq (tVar 5) (tC (.int 5)))) (tTup (tCons (tVar 2) (tCons (tVar 3) tNil))) (tTup (tCons (tVar 2) tNil)))) (gName 6))
  (tDrop (tBM K "list" rAppend (tVar 4) (tCons (tTup (tCons (tVar 5) (tCons (tLst (tCons (tVar 5) (tCons (tUn (rU fun i => V.int (-i)) (tC (V.int 1))) tNil))) (tCons (tVar 6) tNil)))) tNil)))
theorem in_two : ∀ i : _root_.Fin 22, inV (.int ((i.val : Nat) : Int)) [.int 17, .int 21] = decide (i.val = 17 ∨ i.val = 21) := by decide
theorem turnD {K : PySem.W.Frag} {D : Addr} {i : Nat} {one other : V} {es : List V} {x0 x1 w0 : Option V} {H2 : Hp} {Dd : Ends} (hi : i < 22) (hD : H2 D = some (.lst es)) (en : Ents H2 D one other i es)
    (fin : ∀ w H3 es', (∀ b o, b ≠ D → H2 b = some o → H3 b = some o) → H3 D = some (.lst es') → Ents H3 D one other (i + 1) es' → Dd.nx [x0, x1, some one, some other, some (.ref D), some (.int i), w] H3) :
    tbD K Dd [x0, x1, some one, some other, some (.ref D), some (.int i), w0] H2 := by
  have tail : ∀ (T : Addr) (H : Hp), Same H2 H → H2 T = none → H T = some (.tup (valsOf i one other)) →
      (tDrop (tBM K "list" rAppend (tVar 4) (tCons (tTup (tCons (tVar 5) (tCons (tLst (tCons (tVar 5) (tCons (tUn (rU fun i => V.int (-i)) (tC (V.int 1))) tNil))) (tCons (tVar 6) tNil)))) tNil))) Dd [x0, x1, some one, some other, some (.ref D), some (.int i), some (.ref T)] H := by
    intro T H sm nT hT
    refine ⟨_, rfl, .inl ⟨rfl, es, SqL.of (sm _ _ hD)⟩, _, rfl, _, rfl, _, rfl, (by show 2 ≤ sizeLine; decide), fun L nL => ⟨_, rfl, (by show 3 ≤ sizeLine; decide), fun t nt => ⟨D, es, .ref t, rfl, rfl, same_new nt _ _ (same_new nL _ _ (sm _ _ hD)), ?_, ?_⟩⟩⟩
    · rw [en.1, sizeLine_eq]
      omega
    · have hD2 := same_new (o := .lst [.int i, .int (-1)]) nL _ _ (sm _ _ hD)
      have nLD : L ≠ D := fun z => by
        have h5 := sm _ _ hD
        rw [← z, nL] at h5
        cases h5
      have nTD : T ≠ D := fun z => by
        rw [z, hD] at nT
        cases nT
      have ntD : t ≠ D := fun z => by
        rw [z] at nt
        rw [show (upd H L _) D = _ from hD2] at nt
        cases nt
      have k5 : ∀ b o, b ≠ D → H b = some o → (upd (upd (upd H L (.lst [.int i, .int (-1)])) t (.tup [.int i, .ref L, .ref T])) D (.lst (es ++ [.ref t]))) b = some o := fun b o nb e => by
        rw [upd_ne nb]
        exact same_new nt _ _ (same_new nL _ _ e)
      refine fin _ _ (es ++ [.ref t]) (fun b o nb e => k5 b o nb (sm _ _ e)) upd_same ?_
      refine Ents.add (Ents.keep en ⟨_, hD⟩ fun b o nb e => k5 b o nb (sm _ _ e)) (t := t) (L := L) (T := T) ?_ ?_ nLD (k5 _ _ nTD hT)
      · show (upd _ _ _) t = _
        rw [upd_ne ntD]
        exact upd_same
      · show (upd _ _ _) L = _
        rw [upd_ne nLD]
        exact same_new nt _ _ upd_same
  refine ⟨_, rfl, (by show 2 ≤ sizeLine; decide), fun p0 n0 => ⟨p0, _, rfl, .inl (SqL.of upd_same), rfl, rfl, _, rfl, ?_⟩⟩
  have ht := in_two ⟨i, hi⟩
  by_cases hc : i = 17 ∨ i = 21
  · refine ite_pos' ?_ ?_
    · rw [if_neg (by decide), ht]
      exact decide_eq_true hc
    · refine ⟨(by show 0 ≤ sizeLine; decide), fun T nT => tail T _ ((same_new n0).trans (same_new nT)) ((same_new n0).free nT) ?_⟩
      unfold valsOf
      rw [if_pos hc]
      exact upd_same
  · refine ite_neg' ?_ ?_
    · rw [if_neg (by decide), ht]
      simp [hc]
    · refine ⟨_, rfl, rfl, _, rfl, ?_⟩
      by_cases h5 : i = 5
      · refine ite_pos' (by simp [h5]) ?_
        refine ⟨_, rfl, _, rfl, (by show 2 ≤ sizeLine; decide), fun T nT => tail T _ ((same_new n0).trans (same_new nT)) ((same_new n0).free nT) ?_⟩
        unfold valsOf
        rw [if_neg hc, if_pos h5]
        exact upd_same
      · refine ite_neg' (by simp; omega) ?_
        refine ⟨_, rfl, (by show 1 ≤ sizeLine; decide), fun T nT => tail T _ ((same_new n0).trans (same_new nT)) ((same_new n0).free nT) ?_⟩
        unfold valsOf
        rw [if_neg hc, if_neg h5]
        exact upd_same
section
variable {P : Program} {w : World} {K : PySem.W.Frag} {mg : Str → Option Value} {base : Heap}
theorem scRight : FnScope ["bag", "some", "one", "other", "due", "k", "worths"] ["bag"] (defScope sRight) := ⟨rfl, rfl, rfl, by decide +kernel, rfl, by decide +kernel, by decide +kernel⟩
theorem cl_right (D : DefAt K mg "_law_right" sRight ["bag"]) (T : TB mg) (hrng : mg "range" = none) (cT : Cl P w K mg base CX0 1 "_law_take" spTake) (cO : Cl P w K mg base CX0 2 "_law_of" (spOf K)) (cN : Cl P w K mg base CX0 3 "_law_names_raised" (spNames K)) : Cl P w K mg base CX0 4 "_law_right" spRight := by
  obtain ⟨f, fd, F, g, bd⟩ := D.ex
  refine ⟨f, fd, _, F.ok scRight (fun vs H Q E h => ?_) (fun cdv A outer s H vs Q E hr h => ?_), g, F.kp, bd⟩
  · obtain ⟨b, xs, rfl, _⟩ := h
    rfl
  · obtain ⟨b, xs, rfl, hb, hB, fin⟩ := h
    have nd := scRight.nd
    refine ⟨_, C8.pss_cut (ps_set (i := 1) nd rfl (.inl rfl) (pe_lst (pa_cons pe_non (pa_cons pe_int (pa_cons pe_int (pa_cons (pe_un un_neg pe_int) (pa_cons pe_str (pa_cons pe_str (pa_cons (pe_tup (pa_cons pe_int (pa_cons pe_int pa_nil))) (pa_cons (pe_tup pa_nil) (pa_cons pe_bl (pa_cons (pe_op op_pow pe_int pe_int) (pa_cons (pe_tup (pa_cons pe_str (pa_cons pe_str (pa_cons pe_non pa_nil)))) pa_nil)))))))))))))
      (C8.pss_cut (ps_par (i := 2) (j := 3) rfl nd rfl rfl (by decide) rfl rfl (pa_cons (pe_cl cO hr pass0 (pa_cons (pv 0) (pa_cons (pv 1) pa_nil))) (pa_cons (pe_cl cO hr pass0 (pa_cons (pv 0) (pa_cons (pe_op op_cat (pv 1) (pe_lst (pa_cons (pe_cl cT hr pass0 (pa_cons (pv 0) (pa_cons (pe_op op_pow pe_int pe_int) pa_nil))) pa_nil))) pa_nil))) pa_nil)) rfl)
      (pss_cons (ps_set (i := 4) nd rfl (.inl rfl) (pe_lst pa_nil))
      (pss_cons (ps_for PassesOwn.never rfl (pi_range1 rfl hrng (pa_cons pe_int pa_nil)) (pg_name (i := 5) nd rfl (.inl rfl))
        (pss_cons (ps_set (i := 6) nd rfl (.inl rfl) (pe_ifExp (pt_cmpR op_in_seq (pv 5) (pe_lst (pa_cons pe_int (pa_cons pe_int pa_nil))) rfl) (pe_tup pa_nil) (pe_ifExp (pt_cmpR op_eq (pv 5) pe_int (nomark _)) (pe_tup (pa_cons (pv 2) (pa_cons (pv 3) pa_nil))) (pe_tup (pa_cons (pv 2) pa_nil)))))
        (pss_one (ps_expr (pe_bm PySem.F.plainAttrs_list PySem.F.slot_list_append PySem.F.type_list_append mt_append (pv 4) (pa_cons (pe_tup (pa_cons (pv 5) (pa_cons (pe_lst (pa_cons (pv 5) (pa_cons (pe_un un_neg pe_int) pa_nil))) (pa_cons (pv 6) pa_nil)))) pa_nil))))))
      (pss_one (ps_ret (pe_cmpR (op_eqD ?hu) (pe_cl cN hr pass0 (pa_cons (pv 2) (pa_cons (pv 3) pa_nil))) (pv 4) (nomark _))))))), ?_⟩
    case hu =>
      have := hr.un
      show (A.deeper (envOfC "_law_right" (defScope sRight) s.heap.objs.size f cdv)).units + 64 < cLine
      omega
    refine ⟨fun σ' H' => ∃ S ys, σ' = [some (.ref b), some (.ref S), none, none, none, none, none] ∧ Same H H' ∧ H S = none ∧ H' S = some (.lst ys) ∧ Menu H' ys, ?_, ?_⟩
    · refine ⟨_, rfl, (by show 2 ≤ sizeLine; decide), fun t1 n1 => ⟨(by show 0 ≤ sizeLine; decide), fun t2 n2 => ⟨_, _, rfl, rfl, ⟨by decide, by decide, by decide⟩, (by show 3 ≤ sizeLine; decide), fun t3 n3 => ⟨(by show 11 ≤ sizeLine; decide), fun S nS => ?_⟩⟩⟩⟩
      have s1 := same_new (o := .tup [.int 1, .int 2]) n1
      have s2 := same_new (o := .tup []) n2
      have s3 := same_new (o := .tup [.str "call", .str "a", .non]) n3
      have s4 := same_new (o := .lst [.non, .int 0, .int 5, .int (-1), .str "a", .str "", .ref t1, .ref t2, .bl true, .int (10 ^ 30), .ref t3]) nS
      refine ⟨S, _, rfl, s1.trans (s2.trans (s3.trans s4)), s1.free (s2.free (s3.free nS)), upd_same, rfl, ?_⟩
      have m1 := s4 _ _ (s3 _ _ (s2 _ _ (upd_same (H := H) (a := t1) (o := .tup [.int 1, .int 2]))))
      have m2 := s4 _ _ (s3 _ _ (upd_same (a := t2) (o := .tup [])))
      have m3 := s4 _ _ (upd_same (a := t3) (o := .tup [.str "call", .str "a", .non]))
      intro v hv
      replace hv : v ∈ [V.non, .int 0, .int 5, .int (-1), .str "a", .str "", .ref t1, .ref t2, .bl true, .int (10 ^ 30), .ref t3] := hv
      simp only [List.mem_cons, List.not_mem_nil, or_false] at hv
      rcases hv with rfl | rfl | rfl | rfl | rfl | rfl | rfl | rfl | rfl | rfl | rfl
      · exact ⟨.none, .inr (.inl ⟨rfl, rfl⟩)⟩
      · exact ⟨_, .inl ⟨_, rfl, rfl, by decide +kernel⟩⟩
      · exact ⟨_, .inl ⟨_, rfl, rfl, by decide +kernel⟩⟩
      · exact ⟨_, .inl ⟨_, rfl, rfl, by decide +kernel⟩⟩
      · exact ⟨_, .inr (.inr (.inr (.inl ⟨rfl, rfl⟩)))⟩
      · exact ⟨_, .inr (.inr (.inr (.inr (.inl ⟨rfl, rfl⟩))))⟩
      · exact ⟨_, .inr (.inr (.inr (.inr (.inr ⟨t1, ([.int 1, .int 2], [.int 1, .int 2]), rfl, by simp [MnV], m1, rfl⟩))))⟩
      · exact ⟨_, .inr (.inr (.inr (.inr (.inr ⟨t2, ([], []), rfl, by simp [MnV], m2, rfl⟩))))⟩
      · exact ⟨_, .inr (.inr (.inl ⟨rfl, rfl⟩))⟩
      · exact ⟨_, .inl ⟨_, rfl, rfl, by decide +kernel⟩⟩
      · exact ⟨_, .inr (.inr (.inr (.inr (.inr ⟨t3, ([.str "call", .str "a", .non], [.str "call", .str "a", .none]), rfl, by simp [MnV], m3, rfl⟩))))⟩
    · rintro σ' H' ⟨S, ys, rfl, sm, nS, hS, hM⟩
      refine ⟨fun σ' H' => ∃ one other d1 d2 S, σ' = [some (.ref b), some (.ref S), some one, some other, none, none, none] ∧ But b H H' ∧ (∃ zs, H' b = some (.lst zs)) ∧ Mn H' one d1 ∧ Mn H' other d2, ?_, ?_⟩
      · have hb1 := sm _ _ hb
        have nSb : S ≠ b := fun z => by
          rw [z, hb] at nS
          cases nS
        refine ⟨_, rfl, _, rfl, b, S, 0, xs, ys, rfl, hb1, hB, by decide, ⟨.inl (SqL.of hS), fun zs => .inl (SqL.of (by rw [upd_ne nSb]; exact hS))⟩, by rw [hM.1]; decide, by rw [hM.1]; decide, fun i v zs hv hZ => ?_⟩
        have hS2 : (upd H' b (.lst zs)) S = some (.lst ys) := by rw [upd_ne nSb]; exact hS
        refine ⟨_, rfl, _, rfl, _, rfl, _, _, rfl, rfl, ⟨by decide, by decide, by decide⟩, b, _, 1, zs, rfl, upd_same, hZ, by decide, by decide +kernel, by decide +kernel, fun r zs2 h2 h3 hZ2 => ⟨(by show 1 ≤ sizeLine; decide), fun p np => ⟨S, p, ys, _, rfl, rfl, ?_, upd_same, ?_, fun q nq => ?_⟩⟩⟩
        · exact same_new np _ _ (by rw [upd_ne nSb, upd_ne nSb]; exact hS)
        · rw [hM.1, sizeLine_eq]
          exact (by decide : 11 + 1 ≤ 16777216)
        · have kq : ∀ a o, a ≠ b → H' a = some o → (upd (upd (upd (upd H' b (.lst zs)) b (.lst zs2)) p (.lst [.int r])) q (.lst (ys ++ [.int r]))) a = some o := fun a o na e => same_new nq _ _ (same_new np _ _ (by rw [upd_ne na, upd_ne na]; exact e))
          have hbq : (upd (upd (upd (upd H' b (.lst zs)) b (.lst zs2)) p (.lst [.int r])) q (.lst (ys ++ [.int r]))) b = some (.lst zs2) := same_new nq _ _ (same_new np _ _ upd_same)
          have nqb : q ≠ b := fun z => by
            have := same_new (o := .lst [V.int r]) np _ _ (upd_same (H := upd H' b (.lst zs)) (a := b) (o := .lst zs2))
            rw [z, this] at nq
            cases nq
          refine ⟨b, q, 2, zs2, ys ++ [.int r], rfl, hbq, hZ2, by decide, ⟨.inl (SqL.of upd_same), fun zs3 => .inl (SqL.of (by rw [upd_ne nqb]; exact upd_same))⟩, by rw [List.length_append, hM.1]; exact (by decide : 0 < 11 + 1), by rw [List.length_append, hM.1]; exact (by decide : 11 + 1 < 1000000), fun j v' zs3 hv' hZ3 => ?_⟩
          obtain ⟨d1, M1⟩ := hM.2 v (List.mem_of_getElem? hv)
          have M2 : ∃ d2, Mn H' v' d2 := by
            rcases List.mem_append.mp (List.mem_of_getElem? hv') with z | z
            · exact hM.2 v' z
            · rcases List.mem_singleton.mp z with rfl
              refine ⟨_, .inl ⟨r, rfl, rfl, ?_⟩⟩
              have h4 : r < 100000000000000000000 := Int.lt_of_lt_of_le h3 (by decide +kernel)
              by_cases hr0 : r.natAbs = 0
              · rw [hr0]
                decide +kernel
              · exact (Nat.log2_lt hr0).mpr (Nat.lt_of_lt_of_le (show r.natAbs < 100000000000000000000 by omega) (by decide +kernel))
          obtain ⟨d2, M2⟩ := M2
          have kt : ∀ a xs, H' a = some (.tup xs) → (upd (upd (upd (upd (upd H' b (.lst zs)) b (.lst zs2)) p (.lst [.int r])) q (.lst (ys ++ [.int r]))) b (.lst zs3)) a = some (.tup xs) := fun a xs' e => by
            have na : a ≠ b := ne_of e hb1 (by intro z; cases z)
            rw [upd_ne na]
            exact kq a _ na e
          exact ⟨v, v', rfl, v, v', d1, d2, S, rfl, fun a o na e => by
            rw [upd_ne na]
            exact kq a o na (sm _ _ e), ⟨zs3, upd_same⟩, M1.step kt, M2.step kt⟩
      · rintro σ' H' ⟨one, other, d1, d2, S, rfl, bt, ⟨zs, hb2⟩, M1, M2⟩
        refine ⟨Nat.zero_le _, fun D nD => ⟨22, rfl, by decide, by decide, ?_⟩⟩
        have nDb : D ≠ b := fun z => by
          rw [z, hb2] at nD
          cases nD
        refine for_range (lo := 0) (n := 22) (g := gName 5) (tb := tbD K) (D := { nx := tRet (tOp (rEqD K) (tCall (spNames K) [] E0 (tCons (tVar 2) (tCons (tVar 3) tNil))) (tVar 4)) { nx := fun _ H' => Q .non H', rt := Q }, rt := Q })
          (fun i σ H2 => ∃ es v w, σ = [some (.ref b), some (.ref S), some one, some other, some (.ref D), v, w] ∧ But b H H2 ∧ (∃ zs, H2 b = some (.lst zs)) ∧ Mn H2 one d1 ∧ Mn H2 other d2 ∧ H2 D = some (.lst es) ∧ Ents H2 D one other i es) ?_ (fun i σ H2 hi pv => ?_) (fun σ H2 pv => ?_)
        · have sm := same_new (o := .lst []) nD
          exact ⟨[], none, none, rfl, fun a o na e => sm _ _ (bt a o na e), ⟨zs, sm _ _ hb2⟩, M1.step fun a xs e => sm _ _ e, M2.step fun a xs e => sm _ _ e, upd_same, rfl, fun j hj => absurd hj (Nat.not_lt_zero _)⟩
        · obtain ⟨es, v, w, rfl, bt2, ⟨zs2, hb3⟩, N1, N2, hD, en⟩ := pv
          show tbD K _ [some (.ref b), some (.ref S), some one, some other, some (.ref D), some (.int (0 + ((i : Nat) : Int))), w] H2
          rw [Int.zero_add]
          refine turnD hi hD en fun w H3 es' k hD3 en3 => ⟨es', _, w, rfl, fun a o na e => k a o (fun z => ?_) (bt2 a o na e), ⟨zs2, k b _ (fun z => nDb z.symm) hb3⟩, N1.step fun a xs e => k a _ (ne_of e hD (by intro z; cases z)) e, N2.step fun a xs e => k a _ (ne_of e hD (by intro z; cases z)) e, hD3, en3⟩
          have h5 := bt a o na e
          rw [z, nD] at h5
          cases h5
        · obtain ⟨es, v, w, rfl, bt2, ⟨zs2, hb3⟩, N1, N2, hD, en⟩ := pv
          refine ⟨_, rfl, _, rfl, one, other, rfl, N1.fm, N2.fm, fun F H3 es3 nF sm hF en3 => ⟨_, rfl, allOf d1 d2, allOf d1 d2, ?_, ?_, (lay_all N1.lay N2.lay).1, (lay_all N1.lay N2.lay).1, ?_⟩⟩
          · exact dp_ents hF en3 (N1.step fun a xs e => sm _ _ e) (N2.step fun a xs e => sm _ _ e)
          · exact dp_ents (sm _ _ hD) (en.keep ⟨_, hD⟩ fun b o _ e => sm _ _ e) (N1.step fun a xs e => sm _ _ e) (N2.step fun a xs e => sm _ _ e)
          · rw [(lay_all N1.lay N2.lay).2]
            exact fin H3 fun a o na e => sm _ _ (bt2 a o na e)
end
end My
namespace My
open PySem PySem.Spec PyProof.Rows Sx L2 PySem.HandSPX
theorem exm_of {K : PySem.W.Frag} {S B : Addr} (h1 : PySem.W.subIn K (.ref B) (.type "BaseException") = some true) (h2 : PySem.W.isClsIn K B = true) (h3 : PySem.W.typeIn K (.ref B) = some (.type "type")) (h4 : PySem.W.subIn K (.ref S) (.ref B) = some true) :
    PySem.W.exmOne K (.ref S) (.ref B) = some true := by
  have e1 : (PySem.W.subIn K (.ref B) (.type "BaseException") == some true) = true := by rw [h1] <;> rfl
  have e2 : ((PySem.W.clsIn K B).isSome && PySem.W.typeIn K (.ref B) == some (.type "type")) = true := by
    have h2' : (PySem.W.clsIn K B).isSome = true := h2
    rw [h2', h3] <;> rfl
  unfold PySem.W.exmOne PySem.W.kitCls
  rw [if_pos e1]
  first
  | exact (if_pos e2).trans h4
  | (show (if _ then _ else _) = _; rw [if_pos e2]; exact h4)
theorem def_mk {K : PySem.W.Frag} {h : Heap} {mg : Str → Option Value} (X : K.In h) (G : h.Ns mainGlobals mg) {x : Str} {st : Stmt} {ps : List Str} {f : Addr} {oc : Value} {od an : Option Addr} {osl : Array (Option Value)} {kV doc pm cdv ct : Value}
    (a : PySem.W.nsIn K mainGlobals x = some (some (.ref f))) (l : K.lookup f = some ⟨oc, od, .func (PySem.W.fnOf x x (defArgs st) (defBody st) (defScope st) .none kV doc pm an cdv ct), osl⟩) (c : PySem.W.codeIn K cdv x = true) (k : PySem.W.keepIn K (.ref f) = true)
    (b : ∀ F : Fun K x x st f (PySem.W.fnOf x x (defArgs st) (defBody st) (defScope st) .none kV doc pm an cdv ct), Binds K (PySem.W.fnOf x x (defArgs st) (defBody st) (defScope st) .none kV doc pm an cdv ct) ps []) : DefAt K mg x st ps :=
  ⟨f, _, fun_mk l c k, PySem.W.mg_of X G a, b (fun_mk l c k)⟩
theorem one_mk {P : Program} {K : PySem.W.Frag} {h : Heap} {mg : Str → Option Value} (X : K.In h) (G : h.Ns mainGlobals mg) {x qual : Str} {st : Stmt} {names : List Str} {C fI cc cda : Addr}
    {nm q : Str} {N : Addr} {bs bm : List Value} {sn : List Str} {sub : List Value} {ab : Bool} {col : Option Bool} {dd : Option Addr} {m0 m1 m2 m3 m5 : Option Value}
    {oc : Value} {od an : Option Addr} {osl : Array (Option Value)} {kV doc pm ct : Value} {cl : Value} {cld : Option Addr} {csl : Array (Option Value)} {ccl : Value} {cdd : Option Addr} {vs : Array Value} {ccs : Array (Option Value)} {file : Str} {tf : Tok}
    (aC : PySem.W.nsIn K mainGlobals x = some (some (.ref C)))
    (xL : K.lookup C = some (excClassObj nm q C N bs bm true sn sub ab col dd m0 m1 m2 m3 m5 "ValueError.__new__"))
    (ia : PySem.W.findIn K (.ref C) "__init__" = some (some (.ref fI)))
    (l1 : K.lookup fI = some ⟨oc, od, .func (PySem.W.ksFn "__init__" qual (defArgs st) (defBody st) (defScope st) .none kV doc pm an (.ref cda) ct cc), osl⟩)
    (lk : K.lookup cc = some ⟨cl, cld, .cell (some (.ref C)), csl⟩)
    (lc : K.lookup cda = some ⟨ccl, cdd, .fields vs, ccs⟩) (v2 : vs[2]? = some (.str file tf)) (fl : ((P.main.file : Str) == file) = true)
    (rb : refsVE bm = true)
    (sa : PySem.W.findIn K (.ref C) "__setattr__" = some (some (.builtin "object.__setattr__")))
    (tc : PySem.W.typeIn K (.ref fI) = some (.type "function")) (c1 : PySem.W.codeIn K (.ref cda) qual = true)
    (kC : PySem.W.keepIn K (.ref C) = true) (eC : PySem.W.subIn K (.ref C) (.type "BaseException") = some true) (tC : PySem.W.typeIn K (.ref C) = some (.type "type"))
    (su : PySem.W.ks_superIn K C C "__init__" = some (some (.builtin "ValueError.__init__"))) (sV : PySem.W.subIn K (.ref C) (.type "ValueError") = some true) (ow : PySem.W.mroIn K C (.ref C) = some true)
    (s0 : PySem.W.nsIn K mainGlobals "super" = some none) (th : PySem.W.nsIn K cStatics "thirdparty.any" = some none) (tp : (P.main.scope.names.lookup ("super" : Str)).isSome = false)
    (nf : ∀ f ∈ names, PySem.W.findIn K (.ref C) f = some none) : OneC P K mg x qual st names C :=
  ⟨⟨fI, cc, cda, { cls := ⟨nm, q, N, bs, bm, sn, sub, ab, col, dd, m0, m1, m2, m3, m5, xL, rb⟩, sa := sa, iC := ia, tC := tc, kC := kC, exC := eC, tyC := tC, sup := su, sV := sV, own := ow, cell := ⟨_, _, _, lk⟩, code := ⟨_, _, _, _, _, _, lc, v2, fl⟩, fn := ⟨_, _, _, _, _, _, _, _, l1, c1⟩, sup0 := s0, third := th, top := tp }⟩, PySem.W.mg_of X G aC, nf⟩
def Csl (l : List Addr) : Nat → Addr := fun i => l.getD i 0
theorem lt22 {q : Nat → Prop} (h0 : q 0) (h1 : q 1) (h2 : q 2) (h3 : q 3) (h4 : q 4) (h5 : q 5) (h6 : q 6) (h7 : q 7) (h8 : q 8) (h9 : q 9) (h10 : q 10) (h11 : q 11) (h12 : q 12) (h13 : q 13) (h14 : q 14) (h15 : q 15) (h16 : q 16) (h17 : q 17) (h18 : q 18) (h19 : q 19) (h20 : q 20) (h21 : q 21) : ∀ i, i < 22 → q i := fun i hi => by
  have hc : i = 0 ∨ i = 1 ∨ i = 2 ∨ i = 3 ∨ i = 4 ∨ i = 5 ∨ i = 6 ∨ i = 7 ∨ i = 8 ∨ i = 9 ∨ i = 10 ∨ i = 11 ∨ i = 12 ∨ i = 13 ∨ i = 14 ∨ i = 15 ∨ i = 16 ∨ i = 17 ∨ i = 18 ∨ i = 19 ∨ i = 20 ∨ i = 21 := by omega
  rcases hc with rfl | rfl | rfl | rfl | rfl | rfl | rfl | rfl | rfl | rfl | rfl | rfl | rfl | rfl | rfl | rfl | rfl | rfl | rfl | rfl | rfl | rfl
  · exact h0
  · exact h1
  · exact h2
  · exact h3
  · exact h4
  · exact h5
  · exact h6
  · exact h7
  · exact h8
  · exact h9
  · exact h10
  · exact h11
  · exact h12
  · exact h13
  · exact h14
  · exact h15
  · exact h16
  · exact h17
  · exact h18
  · exact h19
  · exact h20
  · exact h21

theorem all_lt {n : Nat} {f : Nat → Bool} (h : (List.range n).all f = true) {i : Nat} (hi : i < n) : f i = true := List.all_eq_true.mp h i (List.mem_range.mpr hi)
def noB (K : PySem.W.Frag) (C : Addr) (n : Str) : Bool := match PySem.W.findIn K (.ref C) n with
  | some .none => true
  | _ => false
theorem noB_of {K : PySem.W.Frag} {C : Addr} {n : Str} (h : noB K C n = true) : PySem.W.findIn K (.ref C) n = some none := by
  unfold noB at h
  split at h
  · assumption
  · cases h
theorem kit_mk {K : PySem.W.Frag} {Cs : Nat → Addr} (h1 : ((List.range 22).all fun i => (List.range 22).all fun j => PySem.W.kitOne K (.ref (Cs i)) (.ref (Cs j)) == some (decide (i = j))) = true)
    (h2 : ((List.range 22).all fun i => PySem.W.kitOne K (.ref (Cs i)) (.type "ValueError") == some true) = true) (h3 : ∀ i, i < 22 → AskC K (Cs i)) : Kit K Cs :=
  ⟨fun i j hi hj => beq_iff_eq.mp (all_lt (all_lt h1 hi) hj), fun i hi => beq_iff_eq.mp (all_lt h2 hi), h3⟩
theorem no_mk {K : PySem.W.Frag} {Cs : Nat → Addr} {l : List Str} (h : ((List.range 22).all fun i => l.all fun n => noB K (Cs i) n) = true) : ∀ i, i < 22 → ∀ n ∈ l, PySem.W.findIn K (.ref (Cs i)) n = some none :=
  fun i hi n hn => noB_of (List.all_eq_true.mp (all_lt h hi) n hn)
theorem ex_mk {K : PySem.W.Frag} {Cs : Nat → Addr} {CE : Addr} (h : ((List.range 22).all fun i => PySem.W.exmOne K (.ref (Cs i)) (.ref CE) == some true) = true) : ∀ i, i < 22 → PySem.W.exmOne K (.ref (Cs i)) (.ref CE) = some true :=
  fun i hi => beq_iff_eq.mp (all_lt h hi)
theorem end_mk {P : Program} {w : World} {K : PySem.W.Frag} {h : Heap} {mg : Str → Option Value} {fa : Addr} {Cs : Nat → Addr} {CE : Addr} (X : K.In h) (G : h.Ns mainGlobals mg) (hfa : mg "law" = some (.ref fa)) (A22 : All22 P K mg Cs) (T : Kit K Cs)
    (hno : ∀ i, i < 22 → ∀ n ∈ (["at", "part", "name", "what", "given"] : List Str), PySem.W.findIn K (.ref (Cs i)) n = some none) (hex : ∀ i, i < 22 → PySem.W.exmOne K (.ref (Cs i)) (.ref CE) = some true)
    (aE : PySem.W.nsIn K mainGlobals "CarriedError" = some (some (.ref CE)))
    (dB : DefAt K mg "_law_bag" sBag ["script", "at"]) (dT : DefAt K mg "_law_take" sTake ["bag", "many"]) (dO : DefAt K mg "_law_of" sOf ["bag", "some"]) (dN : DefAt K mg "_law_names_raised" sNames ["one", "other"])
    (d1 : DefAt K mg "_law_raise_first" sFirst ["k", "one", "other"]) (d2 : DefAt K mg "_law_raise_second" sSecond ["k", "one", "other"]) (dC : DefAt K mg "_law_classes" sClasses ["e"]) (dF : DefAt K mg "_law_fields" sFields ["k", "e"]) (dR : DefAt K mg "_law_right" sRight ["bag"])
    {f4 : Addr} {oc4 : Value} {od4 an4 : Option Addr} {sl4 : Array (Option Value)} {kV4 dc4 pm4 cd4 ct4 : Value}
    (a4 : PySem.W.nsIn K mainGlobals "law" = some (some (.ref f4))) (l4 : K.lookup f4 = some ⟨oc4, od4, .func (PySem.W.fnOf "law" "law" (defArgs sLaw) (defBody sLaw) (defScope sLaw) .none kV4 dc4 pm4 an4 cd4 ct4), sl4⟩) (c4 : PySem.W.codeIn K cd4 "law" = true) (k4 : PySem.W.keepIn K (.ref f4) = true)
    (z1 : PySem.W.nsIn K mainGlobals "int" = some none) (z2 : PySem.W.nsIn K mainGlobals "len" = some none) (z3 : PySem.W.nsIn K mainGlobals "abs" = some none) (z4 : PySem.W.nsIn K mainGlobals "range" = some none) (z5 : PySem.W.nsIn K mainGlobals "max" = some none) (z6 : PySem.W.nsIn K mainGlobals "min" = some none)
    (z7 : PySem.W.nsIn K mainGlobals "isinstance" = some none) (z8 : PySem.W.nsIn K mainGlobals "ValueError" = some none) :
    ∃ fd : FuncData, (∀ (s : Shared) (u : Value), BindsTo s fd ⟨[u], []⟩ [("script", u)]) ∧ ∀ base : Heap, K.In base → base.Ns mainGlobals mg → FnOk P w K mg base CX0 5 fa fd ["script"] (spLaw K) := by
  have e := hfa.symm.trans (PySem.W.mg_of X G a4)
  cases e
  have no := fun {n : Str} => PySem.W.mg_none_of (n := n) X G
  have tb : TB mg := ⟨no z1, no z2, no z3⟩
  have tl : TL mg := { toTB := tb, range := no z4, max := no z5, min := no z6 }
  refine ⟨PySem.W.fnOf "law" "law" (defArgs sLaw) (defBody sLaw) (defScope sLaw) .none kV4 dc4 pm4 an4 cd4 ct4, fun s u => .of_eq rfl, fun base _ _ => ?_⟩
  have cT := cl_take (P := P) (w := w) (base := base) dT tb
  have cO := cl_of dO tb cT
  have cN := cl_names dN (no z4) (PySem.W.mg_of X G aE) hex (cl_first (w := w) (base := base) d1 A22) (cl_second d2 A22) (cl_classes dC A22 T (no z7) (no z4) (no z8)) (cl_fields dF T hno)
  exact ok_law (k := 3) (fun_mk (st := sLaw) l4 c4 k4) tl (cl_bag dB tb) (cl_right dR tb (no z4) cT cO cN)
theorem all22 {P : Program} {K : PySem.W.Frag} {mg : Str → Option Value} {C0 C1 C2 C3 C4 C5 C6 C7 C8 C9 C10 C11 C12 C13 C14 C15 C16 C17 C18 C19 C20 C21 : Addr}
    (o0 : OneC P K mg "BadName" "BadName.__init__" (inClass (top 2) 0) ["name"] C0) (o1 : OneC P K mg "BadRow" "BadRow.__init__" (inClass (top 3) 0) ["at"] C1) (o2 : OneC P K mg "BadMethod" "BadMethod.__init__" (inClass (top 4) 0) ["part"] C2) (o3 : OneC P K mg "BadCarry" "BadCarry.__init__" (inClass (top 5) 0) ["part"] C3) (o4 : OneC P K mg "BadKind" "BadKind.__init__" (inClass (top 6) 0) ["part"] C4) (o5 : OneC P K mg "BadLibrary" "BadLibrary.__init__" (inClass (top 7) 0) ["at", "part"] C5) (o6 : OneC P K mg "NoKind" "NoKind.__init__" (inClass (top 8) 0) ["name"] C6) (o7 : OneC P K mg "BadText" "BadText.__init__" (inClass (top 9) 0) ["at"] C7) (o8 : OneC P K mg "NoMethod" "NoMethod.__init__" (inClass (top 10) 0) ["name"] C8) (o9 : OneC P K mg "BadCall" "BadCall.__init__" (inClass (top 11) 0) ["name"] C9) (o10 : OneC P K mg "BadValue" "BadValue.__init__" (inClass (top 12) 0) ["at"] C10) (o11 : OneC P K mg "NotNow" "NotNow.__init__" (inClass (top 13) 0) ["name"] C11) (o12 : OneC P K mg "BadState" "BadState.__init__" (inClass (top 14) 0) ["given"] C12) (o13 : OneC P K mg "BadPassage" "BadPassage.__init__" (inClass (top 15) 0) ["part"] C13) (o14 : OneC P K mg "BadSaved" "BadSaved.__init__" (inClass (top 16) 0) ["at"] C14) (o15 : OneC P K mg "NoField" "NoField.__init__" (inClass (top 17) 0) ["name"] C15) (o16 : OneC P K mg "BadCallers" "BadCallers.__init__" (inClass (top 18) 0) ["part"] C16) (o17 : OneC P K mg "UnlikeFaces" "UnlikeFaces.__init__" (inClass (top 19) 0) [] C17) (o18 : OneC P K mg "BadJoint" "BadJoint.__init__" (inClass (top 20) 0) ["given"] C18) (o19 : OneC P K mg "BadStep" "BadStep.__init__" (inClass (top 21) 0) ["given"] C19) (o20 : OneC P K mg "TooMany" "TooMany.__init__" (inClass (top 22) 0) ["what"] C20) (o21 : OneC P K mg "NoGood" "NoGood.__init__" (inClass (top 23) 0) [] C21) :
    All22 P K mg (Csl [C0, C1, C2, C3, C4, C5, C6, C7, C8, C9, C10, C11, C12, C13, C14, C15, C16, C17, C18, C19, C20, C21]) := ⟨o0, o1, o2, o3, o4, o5, o6, o7, o8, o9, o10, o11, o12, o13, o14, o15, o16, o17, o18, o19, o20, o21⟩
theorem ask_of {P : Program} {K : PySem.W.Frag} {mg : Str → Option Value} {x qual : Str} {st : Stmt} {names : List Str} {C : Addr} (_ : OneC P K mg x qual st names C) (h1 : (PySem.W.clsIn K C).isSome = true) (h2 : PySem.W.hasDictIn K C = true)
    (h3 : PySem.W.findIn K (.ref C) "__getattribute__" = some (some (.builtin "BaseException.__getattribute__"))) (h4 : PySem.W.findIn K (.ref C) "__getattr__" = some none) (h5 : PySem.W.subIn K (.ref C) (.type "BaseException") = some true)
    (h6 : PySem.W.findIn K (.ref C) "__class__" = some (some (.builtin "object.__class__"))) (h7 : PySem.W.specialIn K (.builtin "object.__class__") "__get__" = some (some (.builtin "getset_descriptor.__get__"))) (h8 : PySem.W.takesIn K (.builtin "object.__class__") = some true) (h9 : PySem.W.mroIn K C (.type "object") = some true) : AskC K C :=
  ⟨h1, h2, h3, h4, h5, h6, h7, h8, h9⟩
theorem ask22 {K : PySem.W.Frag} {C0 C1 C2 C3 C4 C5 C6 C7 C8 C9 C10 C11 C12 C13 C14 C15 C16 C17 C18 C19 C20 C21 : Addr} (h0 : AskC K C0) (h1 : AskC K C1) (h2 : AskC K C2) (h3 : AskC K C3) (h4 : AskC K C4) (h5 : AskC K C5) (h6 : AskC K C6) (h7 : AskC K C7) (h8 : AskC K C8) (h9 : AskC K C9) (h10 : AskC K C10) (h11 : AskC K C11) (h12 : AskC K C12) (h13 : AskC K C13) (h14 : AskC K C14) (h15 : AskC K C15) (h16 : AskC K C16) (h17 : AskC K C17) (h18 : AskC K C18) (h19 : AskC K C19) (h20 : AskC K C20) (h21 : AskC K C21) : ∀ i, i < 22 → AskC K (Csl [C0, C1, C2, C3, C4, C5, C6, C7, C8, C9, C10, C11, C12, C13, C14, C15, C16, C17, C18, C19, C20, C21] i) :=
  lt22 h0 h1 h2 h3 h4 h5 h6 h7 h8 h9 h10 h11 h12 h13 h14 h15 h16 h17 h18 h19 h20 h21
end My
namespace My
open PySem PySem.Spec PyProof.Rows L2
theorem walk {l : PySem.W.OpenLaw} {q : Program} {loose : List Str} {XP : (Str → Option Value) → Heap → Prop} {YP : World → Heap → Prop} {d : DefRec} {K : Params → PySem.W.Frag} (hn : l.most = some 63) (hdf : d.params.defaults = [])
    (hY : ∀ (w : World) (h : Heap), YP w h → (K w.params).In h)
    (F : ∀ (w : World) (mg : Str → Option Value) (fa : Addr) (h : Heap), (K w.params).In h → h.Ns mainGlobals mg → mg d.name = some (.ref fa) →
      ∃ fd : FuncData, (∀ (s : Shared) (u : Value), BindsTo s fd ⟨[u], []⟩ [("script", u)]) ∧ ∀ base : Heap, (K w.params).In base → base.Ns mainGlobals mg → FnOk l.prog w (K w.params) mg base CX0 5 fa fd ["script"] (spLaw (K w.params))) :
    PySem.W.WalkO q loose XP YP l.row.toRowW d [] (fun f vs => PySem.call f vs) :=
  L2.walk_of (n := 63) (k := 5) (x := "script") (CX := fun _ => CX0) (sp := fun w => spLaw (K w.params)) hn (by decide) hdf ⟨rfl, by decide, by decide⟩ hY F (fun _ _ a ns hl _ hS => ⟨a, ns, rfl, hS, hl, fun _ => rfl⟩) fun _ _ _ _ _ z => z
end My
open PySem PySem.W PyProof.Rows
set_option maxRecDepth 100000 in
set_option maxHeartbeats 0 in
theorem PySem.Challenge.cw_carriedfields_k25_error_classes_holds : PySem.Challenge.rw_carriedfields_k25_error_classes.Holds := by
  w_on; o_law; k_head; (case hw => w_witness2)
  k_fill
  refine My.walk (l := PySem.Challenge.rw_carriedfields_k25_error_classes) rfl rfl (fun w h Y => PySem.W.kIn_of Y) ?F
  case F =>
    intro w mg fa h KX G hmg
    have O0 := My.one_mk (P := PySem.Challenge.pw_carriedfields_k25_error_classes) KX G (x := "BadName") (qual := "BadName.__init__") (st := L2.inClass (My.top 2) 0) (names := ["name"]) (by k_is) (by k_is) (by k_is) (by k_is) (by k_is) (by k_is) (by rfl) (by decide +kernel) (by decide +kernel) (by k_is) (by k_is) (by k_is) (by k_is) (by k_is) (by k_is) (by kernel_rfl) (by k_is) (by k_is) (by k_is) (by k_is) (by decide +kernel) (My.fa1 (by k_is))
    have q0 := My.ask_of O0 (by kernel_rfl) (by k_is) (by k_is) (by k_is) (by k_is) (by k_is) (by k_is) (by k_is) (by k_is)
    have O1 := My.one_mk (P := PySem.Challenge.pw_carriedfields_k25_error_classes) KX G (x := "BadRow") (qual := "BadRow.__init__") (st := L2.inClass (My.top 3) 0) (names := ["at"]) (by k_is) (by k_is) (by k_is) (by k_is) (by k_is) (by k_is) (by rfl) (by decide +kernel) (by decide +kernel) (by k_is) (by k_is) (by k_is) (by k_is) (by k_is) (by k_is) (by kernel_rfl) (by k_is) (by k_is) (by k_is) (by k_is) (by decide +kernel) (My.fa1 (by k_is))
    have q1 := My.ask_of O1 (by kernel_rfl) (by k_is) (by k_is) (by k_is) (by k_is) (by k_is) (by k_is) (by k_is) (by k_is)
    have O2 := My.one_mk (P := PySem.Challenge.pw_carriedfields_k25_error_classes) KX G (x := "BadMethod") (qual := "BadMethod.__init__") (st := L2.inClass (My.top 4) 0) (names := ["part"]) (by k_is) (by k_is) (by k_is) (by k_is) (by k_is) (by k_is) (by rfl) (by decide +kernel) (by decide +kernel) (by k_is) (by k_is) (by k_is) (by k_is) (by k_is) (by k_is) (by kernel_rfl) (by k_is) (by k_is) (by k_is) (by k_is) (by decide +kernel) (My.fa1 (by k_is))
    have q2 := My.ask_of O2 (by kernel_rfl) (by k_is) (by k_is) (by k_is) (by k_is) (by k_is) (by k_is) (by k_is) (by k_is)
    have O3 := My.one_mk (P := PySem.Challenge.pw_carriedfields_k25_error_classes) KX G (x := "BadCarry") (qual := "BadCarry.__init__") (st := L2.inClass (My.top 5) 0) (names := ["part"]) (by k_is) (by k_is) (by k_is) (by k_is) (by k_is) (by k_is) (by rfl) (by decide +kernel) (by decide +kernel) (by k_is) (by k_is) (by k_is) (by k_is) (by k_is) (by k_is) (by kernel_rfl) (by k_is) (by k_is) (by k_is) (by k_is) (by decide +kernel) (My.fa1 (by k_is))
    have q3 := My.ask_of O3 (by kernel_rfl) (by k_is) (by k_is) (by k_is) (by k_is) (by k_is) (by k_is) (by k_is) (by k_is)
    have O4 := My.one_mk (P := PySem.Challenge.pw_carriedfields_k25_error_classes) KX G (x := "BadKind") (qual := "BadKind.__init__") (st := L2.inClass (My.top 6) 0) (names := ["part"]) (by k_is) (by k_is) (by k_is) (by k_is) (by k_is) (by k_is) (by rfl) (by decide +kernel) (by decide +kernel) (by k_is) (by k_is) (by k_is) (by k_is) (by k_is) (by k_is) (by kernel_rfl) (by k_is) (by k_is) (by k_is) (by k_is) (by decide +kernel) (My.fa1 (by k_is))
    have q4 := My.ask_of O4 (by kernel_rfl) (by k_is) (by k_is) (by k_is) (by k_is) (by k_is) (by k_is) (by k_is) (by k_is)
    have O5 := My.one_mk (P := PySem.Challenge.pw_carriedfields_k25_error_classes) KX G (x := "BadLibrary") (qual := "BadLibrary.__init__") (st := L2.inClass (My.top 7) 0) (names := ["at", "part"]) (by k_is) (by k_is) (by k_is) (by k_is) (by k_is) (by k_is) (by rfl) (by decide +kernel) (by decide +kernel) (by k_is) (by k_is) (by k_is) (by k_is) (by k_is) (by k_is) (by kernel_rfl) (by k_is) (by k_is) (by k_is) (by k_is) (by decide +kernel) (My.fa2 (by k_is) (by k_is))
    have q5 := My.ask_of O5 (by kernel_rfl) (by k_is) (by k_is) (by k_is) (by k_is) (by k_is) (by k_is) (by k_is) (by k_is)
    have O6 := My.one_mk (P := PySem.Challenge.pw_carriedfields_k25_error_classes) KX G (x := "NoKind") (qual := "NoKind.__init__") (st := L2.inClass (My.top 8) 0) (names := ["name"]) (by k_is) (by k_is) (by k_is) (by k_is) (by k_is) (by k_is) (by rfl) (by decide +kernel) (by decide +kernel) (by k_is) (by k_is) (by k_is) (by k_is) (by k_is) (by k_is) (by kernel_rfl) (by k_is) (by k_is) (by k_is) (by k_is) (by decide +kernel) (My.fa1 (by k_is))
    have q6 := My.ask_of O6 (by kernel_rfl) (by k_is) (by k_is) (by k_is) (by k_is) (by k_is) (by k_is) (by k_is) (by k_is)
    have O7 := My.one_mk (P := PySem.Challenge.pw_carriedfields_k25_error_classes) KX G (x := "BadText") (qual := "BadText.__init__") (st := L2.inClass (My.top 9) 0) (names := ["at"]) (by k_is) (by k_is) (by k_is) (by k_is) (by k_is) (by k_is) (by rfl) (by decide +kernel) (by decide +kernel) (by k_is) (by k_is) (by k_is) (by k_is) (by k_is) (by k_is) (by kernel_rfl) (by k_is) (by k_is) (by k_is) (by k_is) (by decide +kernel) (My.fa1 (by k_is))
    have q7 := My.ask_of O7 (by kernel_rfl) (by k_is) (by k_is) (by k_is) (by k_is) (by k_is) (by k_is) (by k_is) (by k_is)
    have O8 := My.one_mk (P := PySem.Challenge.pw_carriedfields_k25_error_classes) KX G (x := "NoMethod") (qual := "NoMethod.__init__") (st := L2.inClass (My.top 10) 0) (names := ["name"]) (by k_is) (by k_is) (by k_is) (by k_is) (by k_is) (by k_is) (by rfl) (by decide +kernel) (by decide +kernel) (by k_is) (by k_is) (by k_is) (by k_is) (by k_is) (by k_is) (by kernel_rfl) (by k_is) (by k_is) (by k_is) (by k_is) (by decide +kernel) (My.fa1 (by k_is))
    have q8 := My.ask_of O8 (by kernel_rfl) (by k_is) (by k_is) (by k_is) (by k_is) (by k_is) (by k_is) (by k_is) (by k_is)
    have O9 := My.one_mk (P := PySem.Challenge.pw_carriedfields_k25_error_classes) KX G (x := "BadCall") (qual := "BadCall.__init__") (st := L2.inClass (My.top 11) 0) (names := ["name"]) (by k_is) (by k_is) (by k_is) (by k_is) (by k_is) (by k_is) (by rfl) (by decide +kernel) (by decide +kernel) (by k_is) (by k_is) (by k_is) (by k_is) (by k_is) (by k_is) (by kernel_rfl) (by k_is) (by k_is) (by k_is) (by k_is) (by decide +kernel) (My.fa1 (by k_is))
    have q9 := My.ask_of O9 (by kernel_rfl) (by k_is) (by k_is) (by k_is) (by k_is) (by k_is) (by k_is) (by k_is) (by k_is)
    have O10 := My.one_mk (P := PySem.Challenge.pw_carriedfields_k25_error_classes) KX G (x := "BadValue") (qual := "BadValue.__init__") (st := L2.inClass (My.top 12) 0) (names := ["at"]) (by k_is) (by k_is) (by k_is) (by k_is) (by k_is) (by k_is) (by rfl) (by decide +kernel) (by decide +kernel) (by k_is) (by k_is) (by k_is) (by k_is) (by k_is) (by k_is) (by kernel_rfl) (by k_is) (by k_is) (by k_is) (by k_is) (by decide +kernel) (My.fa1 (by k_is))
    have q10 := My.ask_of O10 (by kernel_rfl) (by k_is) (by k_is) (by k_is) (by k_is) (by k_is) (by k_is) (by k_is) (by k_is)
    have O11 := My.one_mk (P := PySem.Challenge.pw_carriedfields_k25_error_classes) KX G (x := "NotNow") (qual := "NotNow.__init__") (st := L2.inClass (My.top 13) 0) (names := ["name"]) (by k_is) (by k_is) (by k_is) (by k_is) (by k_is) (by k_is) (by rfl) (by decide +kernel) (by decide +kernel) (by k_is) (by k_is) (by k_is) (by k_is) (by k_is) (by k_is) (by kernel_rfl) (by k_is) (by k_is) (by k_is) (by k_is) (by decide +kernel) (My.fa1 (by k_is))
    have q11 := My.ask_of O11 (by kernel_rfl) (by k_is) (by k_is) (by k_is) (by k_is) (by k_is) (by k_is) (by k_is) (by k_is)
    have O12 := My.one_mk (P := PySem.Challenge.pw_carriedfields_k25_error_classes) KX G (x := "BadState") (qual := "BadState.__init__") (st := L2.inClass (My.top 14) 0) (names := ["given"]) (by k_is) (by k_is) (by k_is) (by k_is) (by k_is) (by k_is) (by rfl) (by decide +kernel) (by decide +kernel) (by k_is) (by k_is) (by k_is) (by k_is) (by k_is) (by k_is) (by kernel_rfl) (by k_is) (by k_is) (by k_is) (by k_is) (by decide +kernel) (My.fa1 (by k_is))
    have q12 := My.ask_of O12 (by kernel_rfl) (by k_is) (by k_is) (by k_is) (by k_is) (by k_is) (by k_is) (by k_is) (by k_is)
    have O13 := My.one_mk (P := PySem.Challenge.pw_carriedfields_k25_error_classes) KX G (x := "BadPassage") (qual := "BadPassage.__init__") (st := L2.inClass (My.top 15) 0) (names := ["part"]) (by k_is) (by k_is) (by k_is) (by k_is) (by k_is) (by k_is) (by rfl) (by decide +kernel) (by decide +kernel) (by k_is) (by k_is) (by k_is) (by k_is) (by k_is) (by k_is) (by kernel_rfl) (by k_is) (by k_is) (by k_is) (by k_is) (by decide +kernel) (My.fa1 (by k_is))
    have q13 := My.ask_of O13 (by kernel_rfl) (by k_is) (by k_is) (by k_is) (by k_is) (by k_is) (by k_is) (by k_is) (by k_is)
    have O14 := My.one_mk (P := PySem.Challenge.pw_carriedfields_k25_error_classes) KX G (x := "BadSaved") (qual := "BadSaved.__init__") (st := L2.inClass (My.top 16) 0) (names := ["at"]) (by k_is) (by k_is) (by k_is) (by k_is) (by k_is) (by k_is) (by rfl) (by decide +kernel) (by decide +kernel) (by k_is) (by k_is) (by k_is) (by k_is) (by k_is) (by k_is) (by kernel_rfl) (by k_is) (by k_is) (by k_is) (by k_is) (by decide +kernel) (My.fa1 (by k_is))
    have q14 := My.ask_of O14 (by kernel_rfl) (by k_is) (by k_is) (by k_is) (by k_is) (by k_is) (by k_is) (by k_is) (by k_is)
    have O15 := My.one_mk (P := PySem.Challenge.pw_carriedfields_k25_error_classes) KX G (x := "NoField") (qual := "NoField.__init__") (st := L2.inClass (My.top 17) 0) (names := ["name"]) (by k_is) (by k_is) (by k_is) (by k_is) (by k_is) (by k_is) (by rfl) (by decide +kernel) (by decide +kernel) (by k_is) (by k_is) (by k_is) (by k_is) (by k_is) (by k_is) (by kernel_rfl) (by k_is) (by k_is) (by k_is) (by k_is) (by decide +kernel) (My.fa1 (by k_is))
    have q15 := My.ask_of O15 (by kernel_rfl) (by k_is) (by k_is) (by k_is) (by k_is) (by k_is) (by k_is) (by k_is) (by k_is)
    have O16 := My.one_mk (P := PySem.Challenge.pw_carriedfields_k25_error_classes) KX G (x := "BadCallers") (qual := "BadCallers.__init__") (st := L2.inClass (My.top 18) 0) (names := ["part"]) (by k_is) (by k_is) (by k_is) (by k_is) (by k_is) (by k_is) (by rfl) (by decide +kernel) (by decide +kernel) (by k_is) (by k_is) (by k_is) (by k_is) (by k_is) (by k_is) (by kernel_rfl) (by k_is) (by k_is) (by k_is) (by k_is) (by decide +kernel) (My.fa1 (by k_is))
    have q16 := My.ask_of O16 (by kernel_rfl) (by k_is) (by k_is) (by k_is) (by k_is) (by k_is) (by k_is) (by k_is) (by k_is)
    have O17 := My.one_mk (P := PySem.Challenge.pw_carriedfields_k25_error_classes) KX G (x := "UnlikeFaces") (qual := "UnlikeFaces.__init__") (st := L2.inClass (My.top 19) 0) (names := []) (by k_is) (by k_is) (by k_is) (by k_is) (by k_is) (by k_is) (by rfl) (by decide +kernel) (by decide +kernel) (by k_is) (by k_is) (by k_is) (by k_is) (by k_is) (by k_is) (by kernel_rfl) (by k_is) (by k_is) (by k_is) (by k_is) (by decide +kernel) My.fa0
    have q17 := My.ask_of O17 (by kernel_rfl) (by k_is) (by k_is) (by k_is) (by k_is) (by k_is) (by k_is) (by k_is) (by k_is)
    have O18 := My.one_mk (P := PySem.Challenge.pw_carriedfields_k25_error_classes) KX G (x := "BadJoint") (qual := "BadJoint.__init__") (st := L2.inClass (My.top 20) 0) (names := ["given"]) (by k_is) (by k_is) (by k_is) (by k_is) (by k_is) (by k_is) (by rfl) (by decide +kernel) (by decide +kernel) (by k_is) (by k_is) (by k_is) (by k_is) (by k_is) (by k_is) (by kernel_rfl) (by k_is) (by k_is) (by k_is) (by k_is) (by decide +kernel) (My.fa1 (by k_is))
    have q18 := My.ask_of O18 (by kernel_rfl) (by k_is) (by k_is) (by k_is) (by k_is) (by k_is) (by k_is) (by k_is) (by k_is)
    have O19 := My.one_mk (P := PySem.Challenge.pw_carriedfields_k25_error_classes) KX G (x := "BadStep") (qual := "BadStep.__init__") (st := L2.inClass (My.top 21) 0) (names := ["given"]) (by k_is) (by k_is) (by k_is) (by k_is) (by k_is) (by k_is) (by rfl) (by decide +kernel) (by decide +kernel) (by k_is) (by k_is) (by k_is) (by k_is) (by k_is) (by k_is) (by kernel_rfl) (by k_is) (by k_is) (by k_is) (by k_is) (by decide +kernel) (My.fa1 (by k_is))
    have q19 := My.ask_of O19 (by kernel_rfl) (by k_is) (by k_is) (by k_is) (by k_is) (by k_is) (by k_is) (by k_is) (by k_is)
    have O20 := My.one_mk (P := PySem.Challenge.pw_carriedfields_k25_error_classes) KX G (x := "TooMany") (qual := "TooMany.__init__") (st := L2.inClass (My.top 22) 0) (names := ["what"]) (by k_is) (by k_is) (by k_is) (by k_is) (by k_is) (by k_is) (by rfl) (by decide +kernel) (by decide +kernel) (by k_is) (by k_is) (by k_is) (by k_is) (by k_is) (by k_is) (by kernel_rfl) (by k_is) (by k_is) (by k_is) (by k_is) (by decide +kernel) (My.fa1 (by k_is))
    have q20 := My.ask_of O20 (by kernel_rfl) (by k_is) (by k_is) (by k_is) (by k_is) (by k_is) (by k_is) (by k_is) (by k_is)
    have O21 := My.one_mk (P := PySem.Challenge.pw_carriedfields_k25_error_classes) KX G (x := "NoGood") (qual := "NoGood.__init__") (st := L2.inClass (My.top 23) 0) (names := []) (by k_is) (by k_is) (by k_is) (by k_is) (by k_is) (by k_is) (by rfl) (by decide +kernel) (by decide +kernel) (by k_is) (by k_is) (by k_is) (by k_is) (by k_is) (by k_is) (by kernel_rfl) (by k_is) (by k_is) (by k_is) (by k_is) (by decide +kernel) My.fa0
    have q21 := My.ask_of O21 (by kernel_rfl) (by k_is) (by k_is) (by k_is) (by k_is) (by k_is) (by k_is) (by k_is) (by k_is)
    have dB := My.def_mk KX G (x := "_law_bag") (st := My.top 25) (ps := ["script", "at"]) (by k_is) (by k_is) (by k_is) (by k_is) (fun F => F.binds fun _ _ _ _ _ _ us hl => match us, hl with | [_, _], _ => rfl)
    have dT := My.def_mk KX G (x := "_law_take") (st := My.top 26) (ps := ["bag", "many"]) (by k_is) (by k_is) (by k_is) (by k_is) (fun F => F.binds fun _ _ _ _ _ _ us hl => match us, hl with | [_, _], _ => rfl)
    have dO := My.def_mk KX G (x := "_law_of") (st := My.top 27) (ps := ["bag", "some"]) (by k_is) (by k_is) (by k_is) (by k_is) (fun F => F.binds fun _ _ _ _ _ _ us hl => match us, hl with | [_, _], _ => rfl)
    have dN := My.def_mk KX G (x := "_law_names_raised") (st := My.top 29) (ps := ["one", "other"]) (by k_is) (by k_is) (by k_is) (by k_is) (fun F => F.binds fun _ _ _ _ _ _ us hl => match us, hl with | [_, _], _ => rfl)
    have d1 := My.def_mk KX G (x := "_law_raise_first") (st := My.top 30) (ps := ["k", "one", "other"]) (by k_is) (by k_is) (by k_is) (by k_is) (fun F => F.binds fun _ _ _ _ _ _ us hl => match us, hl with | [_, _, _], _ => rfl)
    have d2 := My.def_mk KX G (x := "_law_raise_second") (st := My.top 31) (ps := ["k", "one", "other"]) (by k_is) (by k_is) (by k_is) (by k_is) (fun F => F.binds fun _ _ _ _ _ _ us hl => match us, hl with | [_, _, _], _ => rfl)
    have dC := My.def_mk KX G (x := "_law_classes") (st := My.top 32) (ps := ["e"]) (by k_is) (by k_is) (by k_is) (by k_is) (fun F => F.binds fun _ _ _ _ _ _ us hl => match us, hl with | [_], _ => rfl)
    have dF := My.def_mk KX G (x := "_law_fields") (st := My.top 33) (ps := ["k", "e"]) (by k_is) (by k_is) (by k_is) (by k_is) (fun F => F.binds fun _ _ _ _ _ _ us hl => match us, hl with | [_, _], _ => rfl)
    have dR := My.def_mk KX G (x := "_law_right") (st := My.top 34) (ps := ["bag"]) (by k_is) (by k_is) (by k_is) (by k_is) (fun F => F.binds fun _ _ _ _ _ _ us hl => match us, hl with | [_], _ => rfl)
    have A22 := My.all22 O0 O1 O2 O3 O4 O5 O6 O7 O8 O9 O10 O11 O12 O13 O14 O15 O16 O17 O18 O19 O20 O21
    have A9 := My.ask22 q0 q1 q2 q3 q4 q5 q6 q7 q8 q9 q10 q11 q12 q13 q14 q15 q16 q17 q18 q19 q20 q21
    have T := My.kit_mk (by kernel_rfl) (by kernel_rfl) A9
    refine' My.end_mk KX G hmg A22 T (My.no_mk (by kernel_rfl)) ?hx ?aE dB dT dO dN d1 d2 dC dF dR ?a4 ?l4 ?c4 ?k4 ?z1 ?z2 ?z3 ?z4 ?z5 ?z6 ?z7 ?z8
    (case aE => k_is); (case hx => exact My.ex_mk (by kernel_rfl)); (case a4 => k_is); (case l4 => k_is); (case c4 => k_is); (case k4 => k_is)
    (case z1 => k_is); (case z2 => k_is); (case z3 => k_is); (case z4 => k_is); (case z5 => k_is); (case z6 => k_is); (case z7 => k_is); (case z8 => k_is)
