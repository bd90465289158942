import PyProof.Rows.All
import Wide.All
import OpenK.AllK
import Wide.FinOn
import HandS.ForExc
import HandS.Wide
import HandS.TryMany
import HandS.HotCalls
import HandS.Comp
import HandS.Codes
import HandS.Text
import HandS.Steps
import HandS.Iter
import HandS.IsInst
import HandS.Deep
import HandS.ListEq
import HandS.ExcSuper
import HandS.ExcInit
import KE.KExcSuper
import KE.KExcIs
import HandS.ExcCtx
import HandS.FStr
import HandS.FStrTup
import HandS.MakeKwOnly
import HandS.OwnEq
import HandS.TupMul
import HandS.TupAny
import HandS.Style
import KE.RegKSuper
import PySem.Challenge.RW_carriedfields_k93_callers_made
set_option Elab.async false
set_option linter.all false
set_option maxRecDepth 100000
set_option maxHeartbeats 4000000
namespace My
open PySem L2
def top (i : Nat) : Stmt := PySem.Challenge.pw_carriedfields_k93_callers_made.main.body.getD i (.Pass ⟨0, 0, 0, 0⟩)
abbrev sBag : Stmt := top 15
abbrev sTake : Stmt := top 16
abbrev sOf : Stmt := top 17
/-- the list of a bag from which n numbers were drawn at most -/
def BagL (n : Nat) (xs : List V) : Prop := ∃ d m c : Int, xs = [.int d, .int m, .int c] ∧ 0 ≤ d ∧ 0 ≤ m ∧ m < 2305843009213693951 ∧ 0 ≤ c ∧ c ≤ n
def spTake : Sp := fun vs H Q _ => ∃ (b : Addr) (many : Int) (n : Nat) (xs : List V), vs = [.ref b, .int many] ∧ H b = some (.lst xs) ∧ BagL n xs ∧ n < 1000000 ∧ 0 < many ∧ many < 2 ^ 4000 ∧
  ∀ (r : Int) (ys : List V), 0 ≤ r → r < many → BagL (n + 1) ys → Q (.int r) (upd H b (.lst ys))
structure TB (mg : Str → Option Value) : Prop where
  int : mg "int" = none
  len : mg "len" = none
  abs : mg "abs" = none
/-- a def of the module under its name, and its promise -/
structure Cl (P : Program) (w : World) (K : PySem.W.Frag) (mg : Str → Option Value) (base : Heap) (CX : CXT) (k : Nat) (x : Str) (sp : Sp) : Prop where
  ex : ∃ (f : Addr) (fd : FuncData) (ps : List Str), FnOk P w K mg base CX k f fd ps sp ∧ mg x = some (.ref f) ∧ PySem.W.keepIn K (.ref f) = true ∧ Binds K fd ps []
/-- what the top has written of a def -/
structure DefAt (K : PySem.W.Frag) (mg : Str → Option Value) (x : Str) (st : Stmt) (ps : List Str) : Prop where
  ex : ∃ (f : Addr) (fd : FuncData), Fun K x x st f fd ∧ mg x = some (.ref f) ∧ Binds K fd ps []
section
variable {X : Cx} {CX : CXT} {k j : Nat} {x : Str} {sp : Sp} {p pos : Pos} {e : Expr} {es : List Expr} {t : TA} {E : XK}
theorem pe_cl (c : Cl X.prog X.w X.K X.mg X.base CX k x sp) (hr : Room j X.A) (hx : Passes CX X E) (ha : PA X (e :: es) t) (hk : k ≤ j := by decide) (hg : Gl X x := by rfl)
    (hdb : (x == ("__debug__" : Str)) = false := by decide) (he : starEach (e :: es) X.env = (false, eval e X.env) :: starEach es X.env := by rfl) (hpl : (backTo pos (starEach es X.env)).any (·.1) = false := by rfl) :
    PE X (.Call (.Name x p) (e :: es) [] pos) (tCall sp [] E t) := by
  obtain ⟨f, fd, ps, F, hm, kp, b⟩ := c.ex
  exact pe_call F (hr.mono hk) hg hm kp b .nil hx ha hdb he hpl
end
/-- a sequence to be read, also behind a store to b -/
def SeqB (K : PySem.W.Frag) (H : Hp) (b l : Addr) (ys : List V) : Prop := (SqL K H l ys ∨ SqT K H l ys) ∧ ∀ zs, SqL K (upd H b (.lst zs)) l ys ∨ SqT K (upd H b (.lst zs)) l ys
def spOf (K : PySem.W.Frag) : Sp := fun vs H Q _ => ∃ (b l : Addr) (n : Nat) (xs ys : List V), vs = [.ref b, .ref l] ∧ H b = some (.lst xs) ∧ BagL n xs ∧ n < 1000000 ∧ SeqB K H b l ys ∧ 0 < ys.length ∧ ys.length < 1000000 ∧
  ∀ (i : Nat) (v : V) (zs : List V), ys[i]? = some v → BagL (n + 1) zs → Q v (upd H b (.lst zs))
/-- one of the signs of a text -/
def spOfS : Sp := fun vs H Q _ => ∃ (b : Addr) (n : Nat) (xs : List V) (z : Str), vs = [.ref b, .str z] ∧ H b = some (.lst xs) ∧ BagL n xs ∧ n < 1000000 ∧ 0 < z.length ∧ z.length < 1000000 ∧
  ∀ (i : Nat) (c : Nat) (zs : List V), z.cps.toList[i]? = some c → BagL (n + 1) zs → Q (.str ⟨#[c]⟩) (upd H b (.lst zs))
section
variable {P : Program} {w : World} {K : PySem.W.Frag} {mg : Str → Option Value} {base : Heap}
theorem scTake : FnScope ["pot", "many", "digit", "mixed"] ["pot", "many"] (defScope sTake) := ⟨rfl, rfl, rfl, by decide +kernel, rfl, by decide +kernel, by decide +kernel⟩
theorem ok_take {f : Addr} {fd : FuncData} (F : Fun K "_law_take" "_law_take" sTake f fd) (T : TB mg) : FnOk P w K mg base CX0 1 f fd ["pot", "many"] spTake := by
  refine F.ok scTake (fun vs H Q E h => ?_) (fun cdv A outer s H vs Q E hr h => ?_)
  · obtain ⟨b, many, n, xs, rfl, _⟩ := h
    rfl
  · obtain ⟨b, many, n, xs, rfl, hb, ⟨d, m, c, rfl, hd, hm0, hm, hc0, hc⟩, hn, hm1, hm2, k⟩ := h
    have nd := scTake.nd
    refine ⟨_, pss_cons (ps_if (pt_cmpR op_gt (pe_ix ix_list (pv 0) pe_int (fun _ _ => rfl)) pe_int (nomark _))
        (pss_cons (ps_set (i := 2) nd rfl (.inl rfl) (pe_op op_mod (pe_callTy call_int1 (by rfl) T.int (by decide +kernel) (pa_cons (pe_ix ix_list (pv 0) pe_int (fun _ _ => rfl)) pa_nil)) (pv 1)))
        (pss_cons (ps_asg (pe_op op_fdivW (pe_ix ix_list (pv 0) pe_int (fun _ _ => rfl)) (pv 1)) (pg_sub (pv 0) pe_int set_list) rfl)
        (pss_one (ps_ret (pv 2))))) pss_nil)
      (pss_cons (ps_asg (pe_op op_add (pe_ix ix_list (pv 0) pe_int (fun _ _ => rfl)) pe_int) (pg_sub (pv 0) pe_int set_list) rfl)
      (pss_cons (ps_set (i := 3) nd rfl (.inl rfl) (pe_op op_add (pe_op op_pow (pe_op op_add (pe_ix ix_list (pv 0) pe_int (fun _ _ => rfl)) (pe_op op_mul pe_int (pe_ix ix_list (pv 0) pe_int (fun _ _ => rfl)))) pe_int) (pe_op op_mul pe_int (pe_ix ix_list (pv 0) pe_int (fun _ _ => rfl)))))
      (pss_cons (ps_set (i := 3) nd rfl (.inl rfl) (pe_op op_add (pe_op op_mod (pe_callTy call_int1 (by rfl) T.int (by decide +kernel) (pa_cons (pv 3) pa_nil)) pe_int) (pe_op op_mul pe_int (pe_ix ix_list (pv 0) pe_int (fun _ _ => rfl)))))
      (pss_cons (ps_set (i := 3) nd rfl (.inl rfl) (pe_op op_mod (pe_callTy call_int1 (by rfl) T.int (by decide +kernel) (pa_cons (pe_op op_add (pe_op op_pow (pv 3) pe_int) (pe_ix ix_list (pv 0) pe_int (fun _ _ => rfl))) pa_nil)) pe_int))
      (pss_one (ps_ret (pe_op op_mod (pe_callTy call_int1 (by rfl) T.int (by decide +kernel) (pa_cons (pe_op op_fdiv (pv 3) pe_int) pa_nil)) (pv 1)))))))), ?_⟩
    refine ⟨_, rfl, b, _, 0, _, rfl, rfl, SqL.of hb, rfl, _, _, rfl, rfl, _, rfl, ite2 (fun h => ?_) (fun h => ?_)⟩
    · have hd0 : 0 < d := by simpa using h
      refine ⟨_, rfl, b, _, 0, _, rfl, rfl, SqL.of hb, rfl, .inl ⟨_, rfl, _, rfl, _, _, rfl, rfl, hm1, ?_⟩⟩
      refine ⟨_, rfl, b, _, 0, _, rfl, rfl, SqL.of hb, rfl, _, rfl, _, _, rfl, rfl, wide_div (b := 4000) hm1 (by omega) (by decide) (by decide), ?_⟩
      refine ⟨_, rfl, b, _, 0, 0, rfl, rfl, hb, rfl, ?_⟩
      refine ⟨_, rfl, k _ _ (Int.emod_nonneg _ (by omega)) (Int.emod_lt_of_pos _ hm1) ⟨_, _, _, rfl, Int.ediv_nonneg hd (by omega), hm0, hm, hc0, by omega⟩⟩
    · refine ⟨_, rfl, b, _, 2, _, rfl, rfl, SqL.of hb, rfl, _, _, rfl, rfl, _, rfl, b, _, 2, 2, rfl, rfl, hb, rfl, ?_⟩
      have hb1 : (upd H b (.lst ([V.int d, .int m, .int c].set 2 (.int (c + 1))))) b = some (.lst [V.int d, .int m, .int (c + 1)]) := upd_same
      refine ⟨_, rfl, b, _, 1, _, rfl, rfl, SqL.of hb1, rfl, _, rfl, b, _, 2, _, rfl, rfl, SqL.of hb1, rfl, _, _, rfl, rfl, .inl (by omega), _, _, rfl, rfl, _, _, rfl, rfl, ⟨by decide, by decide, by omega⟩, ?_⟩
      refine ⟨_, rfl, b, _, 2, _, rfl, rfl, SqL.of hb1, rfl, _, _, rfl, rfl, .inl (by omega), _, _, rfl, rfl, ?_⟩
      generalize (m + 7368787 * (c + 1)) ^ Int.toNat 3 + 15485863 * (c + 1) = z0
      have h1 : 0 ≤ z0 % 2305843009213693951 := Int.emod_nonneg _ (by decide)
      have h2 : z0 % 2305843009213693951 < 2305843009213693951 := Int.emod_lt_of_pos _ (by decide)
      refine ⟨_, rfl, .inl ⟨_, rfl, _, _, rfl, rfl, (by show (0 : Int) < 2305843009213693951; decide), ?_⟩⟩
      refine ⟨_, rfl, b, _, 2, _, rfl, rfl, SqL.of hb1, rfl, _, _, rfl, rfl, .inl (by omega), _, _, rfl, rfl, ?_⟩
      generalize z0 % 2305843009213693951 = z at h1 h2 ⊢
      refine ⟨_, rfl, _, _, rfl, rfl, ⟨by decide, by decide, by omega⟩, _, rfl, b, _, 1, _, rfl, rfl, SqL.of hb1, rfl, _, _, rfl, rfl, .inl ⟨_, rfl, _, _, rfl, rfl, (by show (0 : Int) < 2147483647; decide), ?_⟩⟩
      refine ⟨_, rfl, _, _, rfl, rfl, ⟨by decide, by decide⟩, .inl ⟨_, rfl, _, rfl, _, _, rfl, rfl, hm1, ?_⟩⟩
      exact k _ _ (Int.emod_nonneg _ (by omega)) (Int.emod_lt_of_pos _ hm1) ⟨_, _, _, rfl, hd, hm0, hm, by omega, by omega⟩
theorem cl_take (D : DefAt K mg "_law_take" sTake ["pot", "many"]) (T : TB mg) : Cl P w K mg base CX0 1 "_law_take" spTake := by
  obtain ⟨f, fd, F, g, b⟩ := D.ex
  exact ⟨f, fd, _, ok_take F T, g, F.kp, b⟩
theorem scOf : FnScope ["pot", "some"] ["pot", "some"] (defScope sOf) := ⟨rfl, rfl, rfl, by decide +kernel, rfl, by decide +kernel, by decide +kernel⟩
theorem at_nat {α : Type} {xs : List α} {i : Int} (h0 : 0 ≤ i) (h : i < xs.length) : ∃ v, atI xs i = some v ∧ xs[i.toNat]? = some v := by
  obtain ⟨n, rfl⟩ := Int.eq_ofNat_of_zero_le h0
  have hn : n < xs.length := by omega
  have e : xs[n]? = some xs[n] := List.getElem?_eq_getElem hn
  exact ⟨xs[n], atI_nat e, e⟩
theorem cl_of (D : DefAt K mg "_law_of" sOf ["pot", "some"]) (T : TB mg) (c : Cl P w K mg base CX0 1 "_law_take" spTake) : Cl P w K mg base CX0 2 "_law_of" (spOf K) := by
  obtain ⟨f, fd, F, g, b⟩ := D.ex
  refine ⟨f, fd, _, F.ok scOf (fun vs H Q E h => ?_) (fun cdv A outer s H vs Q E hr h => ?_), g, F.kp, b⟩
  · obtain ⟨b, l, n, xs, ys, rfl, _⟩ := h
    rfl
  · obtain ⟨b, l, n, xs, ys, rfl, hb, hB, hn, hS, h0, h1, k⟩ := h
    refine ⟨_, pss_one (ps_ret (pe_ix ix_seq (pv 1) (pe_cl c hr pass0 (pa_cons (pv 0) (pa_cons (pe_callB call_len_seq (by rfl) T.len PySem.boot_len (pa_cons (pv 1) pa_nil)) pa_nil))) (fun _ _ => rfl))), ?_⟩
    refine ⟨_, rfl, _, rfl, _, rfl, l, ys, rfl, hS.1, b, _, n, xs, rfl, hb, hB, hn, by omega, ?_, fun r zs h2 h3 hZ => ?_⟩
    · exact Int.lt_of_lt_of_le (show (ys.length : Int) < 1000000 by omega) (by decide +kernel)
    · obtain ⟨v, e1, e2⟩ := at_nat h2 h3
      rcases hS.2 zs with q | q
      · exact .inl ⟨l, ys, r, v, rfl, rfl, q, e1, k _ _ _ e2 hZ⟩
      · exact .inr (.inl ⟨l, ys, r, v, rfl, rfl, q, e1, k _ _ _ e2 hZ⟩)
theorem cl_ofS (D : DefAt K mg "_law_of" sOf ["pot", "some"]) (T : TB mg) (c : Cl P w K mg base CX0 1 "_law_take" spTake) : Cl P w K mg base CX0 2 "_law_of" spOfS := by
  obtain ⟨f, fd, F, g, b⟩ := D.ex
  refine ⟨f, fd, _, F.ok scOf (fun vs H Q E h => ?_) (fun cdv A outer s H vs Q E hr h => ?_), g, F.kp, b⟩
  · obtain ⟨b, n, xs, z, rfl, _⟩ := h
    rfl
  · obtain ⟨b, n, xs, z, rfl, hb, hB, hn, h0, h1, k⟩ := h
    refine ⟨_, pss_one (ps_ret (pe_ix ix_str (pv 1) (pe_cl c hr pass0 (pa_cons (pv 0) (pa_cons (pe_callB call_len_str (by rfl) T.len PySem.boot_len (pa_cons (pv 1) pa_nil)) pa_nil))) (fun _ _ => rfl))), ?_⟩
    have hl : z.cps.toList.length = z.length := Array.length_toList
    refine ⟨_, rfl, _, rfl, _, rfl, z, rfl, (by rw [sizeLine_eq]; omega), b, _, n, xs, rfl, hb, hB, hn, by omega, ?_, fun r zs h2 h3 hZ => ?_⟩
    · exact Int.lt_of_lt_of_le (show (z.length : Int) < 1000000 by omega) (by decide +kernel)
    · obtain ⟨v, e1, e2⟩ := at_nat (xs := z.cps.toList) h2 (by omega)
      exact ⟨z, r, v, rfl, rfl, (by rw [sizeLine_eq]; omega), e1, k _ _ _ e2 hZ⟩
end
end My
namespace My
open PySem PySem.Spec PyProof.Rows L2
abbrev sWords : Stmt := top 18
theorem same_new {H : Hp} {a : Addr} {o : HO} (h : H a = none) : Same H (upd H a o) := fun b u e => by
  rw [upd_ne (ne_of_none e h)]
  exact e
def abc : Str := "abcdefghijklmnopqrstuvwxyz"
def resW : List Str := ["alone", "carry", "class", "cls", "def", "else", "enter", "if", "is", "keep", "leave", "made", "marks", "none", "not", "refuse", "return", "save", "self", "super", "thing"]
/-- lower letters alone -/
def lowB (w : Str) : Bool := w.cps.toList.all fun c => decide (97 ≤ c) && decide (c ≤ 122)
/-- a word -/
def wordB (w : Str) : Bool := decide (1 ≤ w.length) && decide (w.length ≤ 8) && lowB w && decide (w ∉ resW)
def ch (c : Nat) : Str := ⟨#[c]⟩
theorem str_app (a b : Str) : (a ++ b).cps = a.cps ++ b.cps := rfl
theorem str_len_app (a c : Str) : (a ++ c).length = a.length + c.length := Array.size_append
theorem len_list (z : Str) : z.cps.toList.length = z.length := Array.length_toList
/-- but for what stands at b, all is as it was -/
def But (b : Addr) (H H' : Hp) : Prop := ∀ c o, c ≠ b → H c = some o → H' c = some o
theorem But.trans {b : Addr} {H H' H'' : Hp} (h : But b H H') (k : But b H' H'') : But b H H'' := fun c o n e => k c o n (h c o n e)
theorem But.of {b : Addr} {H H' : Hp} (h : Same H H') : But b H H' := fun c o _ e => h c o e
theorem But.up {b : Addr} {H : Hp} {o : HO} : But b H (upd H b o) := fun c o nb e => by
  rw [upd_ne nb]
  exact e
theorem ite_pos' {c : Prop} [Decidable c] {A B : Prop} (h : c) (a : A) : if c then A else B := by
  rw [if_pos h]
  exact a
theorem ite_neg' {c : Prop} [Decidable c] {A B : Prop} (h : ¬ c) (a : B) : if c then A else B := by
  rw [if_neg h]
  exact a
theorem BagL.mono {n m : Nat} {xs : List V} (h : BagL n xs) (k : n ≤ m) : BagL m xs := by
  obtain ⟨d, e, c, rfl, h1, h2, h3, h4, h5⟩ := h
  exact ⟨d, e, c, rfl, h1, h2, h3, h4, by omega⟩
theorem abc_at : ∀ i : _root_.Fin 26, atI abc.cps.toList ((i.val : Nat) : Int) = some (97 + i.val) := by decide +kernel
theorem abc_ix {i : Int} (h0 : 0 ≤ i) (h1 : i < 26) : atI abc.cps.toList i = some (97 + i.toNat) := by
  have e := abc_at ⟨i.toNat, by omega⟩
  have e2 : ((i.toNat : Nat) : Int) = i := Int.toNat_of_nonneg h0
  simp only [e2] at e
  exact e
theorem abc_low {i : Nat} {c : Nat} (h : abc.cps.toList[i]? = some c) : (decide (97 ≤ c) && decide (c ≤ 122)) = true :=
  List.all_eq_true.mp (show (abc.cps.toList.all fun c => decide (97 ≤ c) && decide (c ≤ 122)) = true by decide +kernel) c (List.mem_of_getElem? h)
/-- a sign put at a place -/
def ins (L : List Nat) (k c : Nat) : List Nat := L.take k ++ [c] ++ L.drop k
theorem cutS_take (z : Str) {k : Nat} (h : k ≤ z.length) : (cutS z none (some ((k : Nat) : Int))).cps.toList = z.cps.toList.take k := by
  unfold cutS
  rw [HT.sIx_nat, Nat.min_eq_left h]
  rfl
theorem cutS_drop (z : Str) {k : Nat} (h : k ≤ z.length) : (cutS z (some ((k : Nat) : Int)) none).cps.toList = z.cps.toList.drop k := by
  unfold cutS
  rw [HT.sIx_nat, Nat.min_eq_left h]
  show ((z.cps.toList.drop k).take (z.length - k)).toArray.toList = _
  rw [List.toList_toArray]
  refine List.take_of_length_le ?_
  rw [List.length_drop, len_list]
  exact Nat.le_refl _
theorem ins_str (z c : Str) {k d : Nat} (h : k ≤ z.length) (hc : c = ch d) : (cutS z none (some ((k : Nat) : Int)) ++ c ++ cutS z (some ((k : Nat) : Int)) none).cps.toList = ins z.cps.toList k d := by
  rw [str_app, str_app, Array.toList_append, Array.toList_append, cutS_take z h, cutS_drop z h, hc]
  rfl
theorem ins_len {L : List Nat} {k c : Nat} (h : k ≤ L.length) : (ins L k c).length = L.length + 1 := by
  unfold ins
  rw [List.length_append, List.length_append, List.length_take, List.length_drop]
  show min k L.length + 1 + (L.length - k) = _
  omega
theorem ins_all {L : List Nat} {k c : Nat} {p : Nat → Bool} (h : L.all p = true) (hc : p c = true) : (ins L k c).all p = true := by
  refine List.all_eq_true.mpr fun x hx => ?_
  unfold ins at hx
  rcases List.mem_append.mp hx with hx | hx
  · rcases List.mem_append.mp hx with hx | hx
    · exact List.all_eq_true.mp h x (List.mem_of_mem_take hx)
    · rw [List.mem_singleton.mp hx]
      exact hc
  · exact List.all_eq_true.mp h x (List.mem_of_mem_drop hx)
theorem ins_mem {L : List Nat} {k c : Nat} : c ∈ ins L k c := List.mem_append_left _ (List.mem_append_right _ (List.mem_singleton.mpr rfl))
theorem ins_old {L : List Nat} {k c x : Nat} (h : x ∈ L) : x ∈ ins L k c := by
  unfold ins
  have e : L = L.take k ++ L.drop k := (List.take_append_drop k L).symm
  rw [e] at h
  rcases List.mem_append.mp h with h | h
  · exact List.mem_append_left _ (List.mem_append_left _ h)
  · exact List.mem_append_right _ h
theorem res_q : ∀ r ∈ resW, 113 ∉ r.cps.toList := by decide +kernel
theorem word_of {w : Str} (h1 : 1 ≤ w.length) (h2 : w.length ≤ 8) (hl : lowB w = true) (hq : 113 ∈ w.cps.toList) : wordB w = true := by
  unfold wordB
  simp only [Bool.and_eq_true, decide_eq_true_eq]
  exact ⟨⟨⟨h1, h2⟩, hl⟩, fun hm => res_q w hm hq⟩
theorem join_low : ∀ {ys : List Str}, (∀ y ∈ ys, ∃ c, y = ch c ∧ (decide (97 ≤ c) && decide (c ≤ 122)) = true) → lowB (Txt.join "" ys) = true ∧ (Txt.join "" ys).length = ys.length := by
  intro ys h
  rw [TL.join_eq]
  have key : ∀ zs : List Str, (∀ y ∈ zs, ∃ c, y = ch c ∧ (decide (97 ≤ c) && decide (c ≤ 122)) = true) → lowB (Str.join "" zs) = true ∧ (Str.join "" zs).length = zs.length := by
    intro zs
    induction zs with
    | nil => exact fun _ => ⟨rfl, rfl⟩
    | cons x r ih =>
      intro h
      obtain ⟨c, rfl, hc⟩ := h x List.mem_cons_self
      have h2 := ih fun y hy => h y (List.mem_cons_of_mem _ hy)
      cases r with
      | nil => exact ⟨by unfold lowB; show (_ && true) = true; rw [Bool.and_true]; exact hc, rfl⟩
      | cons z r =>
        have e : (Str.join "" (ch c :: z :: r)) = ch c ++ "" ++ Str.join "" (z :: r) := rfl
        rw [e]
        constructor
        · unfold lowB
          rw [str_app, str_app, Array.toList_append, Array.toList_append, List.all_append, List.all_append]
          have h3 := h2.1
          unfold lowB at h3
          rw [h3]
          show (((_ && true) && true) && true) = true
          rw [Bool.and_true, Bool.and_true, Bool.and_true]
          exact hc
        · rw [str_len_app, str_len_app, h2.2]
          show 1 + 0 + (r.length + 1) = r.length + 1 + 1
          omega
  exact key ys h
def spWords (K : PySem.W.Frag) : Sp := fun vs H Q _ => ∃ (b : Addr) (many : Nat) (n : Nat) (xs : List V), vs = [.ref b, .int many] ∧ many ≤ 20 ∧ H b = some (.lst xs) ∧ BagL n xs ∧ n < 900000 ∧
  ∀ F H' (ws : List Str) (zs : List V), H F = none → But b H H' → H' b = some (.lst zs) → BagL (n + 10) zs → H' F = some (.lst (ws.map V.str)) → ws.length = many → (∀ w ∈ ws, wordB w = true) → Q (.ref F) H'
abbrev NW : List Str := ["pot", "many", "letters", "stem", "spot", "shift", "turn", "k"]
section
variable {P : Program} {w : World} {K : PySem.W.Frag} {mg : Str → Option Value} {base : Heap}
theorem scWords : FnScope NW ["pot", "many"] (defScope sWords) := ⟨rfl, rfl, rfl, by decide +kernel, rfl, by decide +kernel, by decide +kernel⟩
theorem cl_words (D : DefAt K mg "_law_words" sWords ["pot", "many"]) (hrng : mg "range" = none) (T : TB mg) (cT : Cl P w K mg base CX0 1 "_law_take" spTake) (cO : Cl P w K mg base CX0 2 "_law_of" spOfS) : Cl P w K mg base CX0 3 "_law_words" (spWords K) := by
  obtain ⟨f, fd, F, g, bd⟩ := D.ex
  refine ⟨f, fd, _, F.ok scWords (fun vs H Q E h => ?_) (fun cdv A outer s H vs Q E hr h => ?_), g, F.kp, bd⟩
  · obtain ⟨b, many, n, xs, rfl, _⟩ := h
    rfl
  · obtain ⟨b, many, n, xs, rfl, hm, hb, hB, hn, fin⟩ := h
    have nd := scWords.nd
    refine ⟨_, pss_cons (ps_set (i := 2) nd rfl (.inr rfl) pe_str)
      (C8.pss_cut (ps_set (i := 3) nd rfl (.inr rfl) (pe_join pe_str (pe_lc (own := [("turn", 6)]) (g := gName 6) (by rfl) nd (pi_range1 rfl hrng (pa_cons (pe_cl cT hr pass0 (pa_cons (pv 0) (pa_cons pe_int pa_nil))) pa_nil)) (blkOk_by (N := NW) (sc := defScope sWords) (by decide +kernel)) (fun _ _ _ _ _ => pg_name (i := 6) nd rfl (.inl rfl)) (fun _ _ _ _ _ => pts_nil)
            (fun _ _ _ _ _ => pe_cl cO hr pass0 (pa_cons (pv 0) (pa_cons (pv 2) pa_nil))))))
      (C8.pss_cut (ps_set (i := 4) nd rfl (.inr rfl) (pe_cl cT hr pass0 (pa_cons (pv 0) (pa_cons (pe_op op_add (pe_callB call_len_str (by rfl) T.len PySem.boot_len (pa_cons (pv 3) pa_nil)) pe_int) pa_nil))))
      (C8.pss_cut (ps_set (i := 3) nd rfl (.inr rfl) (pe_op op_add_str (pe_op op_add_str (pe_slice sl_str (pv 3) po_none (po_some (pv 4))) pe_str) (pe_slice sl_str (pv 3) (po_some (pv 4)) po_none)))
      (C8.pss_cut (ps_asg (pe_tup (pa_cons (pe_cl cT hr pass0 (pa_cons (pv 0) (pa_cons (pe_op op_add (pe_callB call_len_str (by rfl) T.len PySem.boot_len (pa_cons (pv 3) pa_nil)) pe_int) pa_nil))) (pa_cons (pe_cl cT hr pass0 (pa_cons (pv 0) (pa_cons pe_int pa_nil))) pa_nil))) (pg_tup rfl (pgs_cons (pg_name (i := 4) nd rfl (.inr rfl)) (pgs_cons (pg_name (i := 5) nd rfl (.inr rfl)) pgs_nil))))
      (pss_one (ps_ret (pe_lc (own := [("k", 7)]) (g := gName 7) (by rfl) nd (pi_range1 rfl hrng (pa_cons (pv 1) pa_nil)) (blkOk_by (N := NW) (sc := defScope sWords) (by decide +kernel)) (fun _ _ _ _ _ => pg_name (i := 7) nd rfl (.inl rfl)) (fun _ _ _ _ _ => pts_nil)
            (fun _ _ _ _ _ => pe_op op_add_str (pe_op op_add_str (pe_slice sl_str (pv 3) po_none (po_some (pv 4))) (pe_ix ix_str (pv 2) (pe_op op_mod (pe_callTy call_int1 (by rfl) T.int (by decide +kernel) (pa_cons (pe_op op_add (pv 5) (pv 7)) pa_nil)) pe_int) (fun _ _ => rfl))) (pe_slice sl_str (pv 3) (po_some (pv 4)) po_none))))))))), ?_⟩
    have szs : sizeLine = 16777216 := sizeLine_eq
    refine ⟨fun σ' H' => ∃ (z : Str) (ys : List V), σ' = [some (.ref b), some (.int many), some (.str abc), some (.str z), none, none, none, none] ∧ lowB z = true ∧ z.length ≤ 6 ∧ But b H H' ∧ H' b = some (.lst ys) ∧ BagL (n + 7) ys, ?_, ?_⟩
    · refine ⟨⟨_, rfl⟩, _, rfl, b, _, n, xs, rfl, hb, hB, by omega, by decide, by decide +kernel, fun r zs h0 h1 hZ => ?_⟩
      refine ⟨_, rfl, by omega, by omega, fun L nL => lc_range (lo := 0) (n := r.toNat) (fun i H2 => ∃ (ss : List Str) (ys : List V), H2 L = some (.lst (ss.map V.str)) ∧ ss.length = i ∧ (∀ y ∈ ss, ∃ c, y = ch c ∧ (decide (97 ≤ c) && decide (c ≤ 122)) = true) ∧ But b H H2 ∧ H2 b = some (.lst ys) ∧ BagL (n + 1 + i) ys) ?_ (fun i H2 hi pv => ?_) (fun H2 pv => ?_)⟩
      · exact ⟨[], zs, upd_same, rfl, (fun y hy => nomatch hy), But.up.trans (But.of (same_new nL)), same_new nL _ _ upd_same, hZ⟩
      · obtain ⟨ss, ys, hL, hl, hs, bt, hb2, hB2⟩ := pv
        have nLb : L ≠ b := fun z => by
          rw [z, upd_same] at nL
          cases nL
        refine ⟨rfl, _, rfl, _, rfl, b, n + 1 + i, ys, abc, rfl, hb2, hB2, by omega, by decide +kernel, by decide +kernel, fun j c zs2 hc hZ2 => ⟨ss.map V.str, ?_, ?_, ?_⟩⟩
        · rw [upd_ne nLb]
          exact hL
        · rw [List.length_map]
          omega
        · refine ⟨ss ++ [ch c], zs2, ?_, ?_, ?_, ?_, ?_, hZ2⟩
          · rw [upd_same, List.map_append]
            rfl
          · rw [List.length_append, hl]
            rfl
          · intro y hy
            rcases List.mem_append.mp hy with h | h
            · exact hs y h
            · exact ⟨c, List.mem_singleton.mp h, abc_low hc⟩
          · intro d o nb e
            by_cases hd : d = L
            · rw [hd] at e
              rw [upd_ne nLb] at nL
              rw [nL] at e
              cases e
            · rw [upd_ne hd, upd_ne nb]
              exact bt d o nb e
          · rw [upd_ne nLb.symm]
            exact upd_same
      · obtain ⟨ss, ys, hL, hl, hs, bt, hb2, hB2⟩ := pv
        obtain ⟨k1, k2⟩ := join_low hs
        refine ⟨"", L, ss, rfl, rfl, .inl (SqL.of hL), ?_, ?_⟩
        · have e : (ss.map (·.length)).sum = ss.length := by
            clear hL hl k1 k2
            induction ss with
            | nil => rfl
            | cons y r ih =>
              obtain ⟨c, rfl, _⟩ := hs y List.mem_cons_self
              have h3 := ih fun y hy => hs y (List.mem_cons_of_mem _ hy)
              rw [List.map_cons, List.sum_cons, h3]
              show 1 + r.length = r.length + 1
              omega
          rw [e]
          show ss.length + ss.length * 0 ≤ _
          omega
        · exact ⟨_, ys, rfl, k1, by omega, bt, hb2, hB2.mono (by omega)⟩
    · rintro _ H1 ⟨z, ys, rfl, hz, hz6, bt1, hb1, hB1⟩
      refine ⟨fun σ' H' => ∃ (j : Nat) (ys : List V), σ' = [some (.ref b), some (.int many), some (.str abc), some (.str z), some (.int j), none, none, none] ∧ j ≤ z.length ∧ But b H H' ∧ H' b = some (.lst ys) ∧ BagL (n + 8) ys, ?_, ?_⟩
      · refine ⟨_, rfl, _, rfl, z, rfl, by omega, _, _, rfl, rfl, b, _, n + 7, ys, rfl, hb1, hB1, by omega, by omega, ?_, fun r zs h0 h1 hZ => ?_⟩
        · exact Int.lt_of_lt_of_le (show ((z.length : Int) + 1) < 1000000 by omega) (by decide +kernel)
        · refine ⟨r.toNat, zs, ?_, by omega, bt1.trans But.up, upd_same, hZ⟩
          rw [Int.toNat_of_nonneg h0]
          rfl
      · rintro _ H2 ⟨j, ys2, rfl, hj, bt2, hb2, hB2⟩
        have e1 : (cutS z none (some ((j : Nat) : Int)) ++ "q" ++ cutS z (some ((j : Nat) : Int)) none).cps.toList = ins z.cps.toList j 113 := ins_str z "q" hj rfl
        have l1 : (ins z.cps.toList j 113).length = z.length + 1 := by rw [ins_len (by rw [len_list]; exact hj), len_list]
        have c1 := cutS_length z none (some ((j : Nat) : Int))
        have c2 := cutS_length z (some ((j : Nat) : Int)) none
        refine ⟨fun σ' H' => ∃ y : Str, σ' = [some (.ref b), some (.int many), some (.str abc), some (.str y), some (.int j), none, none, none] ∧ y.cps.toList = ins z.cps.toList j 113 ∧ H2 = H', ?_, ?_⟩
        · refine ⟨_, rfl, _, rfl, ((j : Nat) : Int), rfl, z, rfl, by omega, _, _, rfl, rfl, ?_, _, rfl, _, rfl, ((j : Nat) : Int), rfl, z, rfl, by omega, _, _, rfl, rfl, ?_, _, rfl, e1, rfl⟩
          · show (cutS z none (some ((j : Nat) : Int))).length + 1 ≤ sizeLine
            omega
          · rw [str_len_app]
            show (cutS z none (some ((j : Nat) : Int))).length + 1 + (cutS z (some ((j : Nat) : Int)) none).length ≤ sizeLine
            omega
        · rintro _ _ ⟨y, rfl, ey, rfl⟩
          have ly : y.length = z.length + 1 := by rw [← len_list, ey, l1]
          refine ⟨fun σ' H' => ∃ (k s : Nat) (ys : List V), σ' = [some (.ref b), some (.int many), some (.str abc), some (.str y), some (.int k), some (.int s), none, none] ∧ k ≤ y.length ∧ s < 26 ∧ But b H H' ∧ H' b = some (.lst ys) ∧ BagL (n + 10) ys, ?_, ?_⟩
          · refine ⟨_, rfl, _, rfl, y, rfl, by omega, _, _, rfl, rfl, b, _, n + 8, ys2, rfl, hb2, hB2, by omega, by omega, ?_, fun r zs h0 h1 hZ => ?_⟩
            · exact Int.lt_of_lt_of_le (show ((y.length : Int) + 1) < 1000000 by omega) (by decide +kernel)
            · refine ⟨_, rfl, b, _, n + 9, zs, rfl, upd_same, hZ, by omega, by decide, by decide +kernel, fun r2 zs2 q0 q1 hZ2 => ⟨(by show 2 ≤ sizeLine; decide), fun p np => ⟨p, _, rfl, SqT.of upd_same, rfl, ?_⟩⟩⟩
              refine ⟨_, _, rfl, _, _, rfl, rfl, ?_⟩
              have npb : b ≠ p := fun z => by
                rw [← z, upd_same] at np
                cases np
              refine ⟨r.toNat, r2.toNat, zs2, ?_, by omega, by omega, bt2.trans (But.up.trans (But.up.trans (But.of (same_new np)))), ?_, hZ2⟩
              · rw [Int.toNat_of_nonneg h0, Int.toNat_of_nonneg q0]
                rfl
              · rw [upd_ne npb]
                exact upd_same
          · rintro _ H3 ⟨k, s, ys3, rfl, hk, hs, bt3, hb3, hB3⟩
            refine ⟨_, rfl, ((many : Nat) : Int), rfl, by omega, by omega, fun L nL => lc_range (lo := 0) (n := many) (fun i H2 => ∃ ws : List Str, H2 L = some (.lst (ws.map V.str)) ∧ ws.length = i ∧ (∀ w ∈ ws, wordB w = true) ∧ Same H3 H2) ?_ (fun i H4 hi pv => ?_) (fun H4 pv => ?_)⟩
            · exact ⟨[], upd_same, rfl, (fun w hw => nomatch hw), same_new nL⟩
            · obtain ⟨ws, hL, hl, hw, sm⟩ := pv
              have m0 : 0 ≤ (((s : Nat) : Int) + (0 + ((i : Nat) : Int))) % 26 := Int.emod_nonneg _ (by decide)
              have m1 : (((s : Nat) : Int) + (0 + ((i : Nat) : Int))) % 26 < 26 := Int.emod_lt_of_pos _ (by decide)
              obtain ⟨q, hq⟩ : ∃ q : Nat, q = ((((s : Nat) : Int) + (0 + ((i : Nat) : Int))) % 26).toNat := ⟨_, rfl⟩
              have ai : atI abc.cps.toList ((((s : Nat) : Int) + (0 + ((i : Nat) : Int))) % 26) = some (97 + q) := by rw [hq]; exact abc_ix m0 m1
              have hq26 : q < 26 := by omega
              have d1 := cutS_length y none (some ((k : Nat) : Int))
              have d2 := cutS_length y (some ((k : Nat) : Int)) none
              refine ⟨rfl, _, rfl, _, rfl, ((k : Nat) : Int), rfl, y, rfl, by omega, _, rfl, _, rfl, _, rfl, _, _, rfl, rfl, .inl ⟨_, rfl, _, _, rfl, rfl, (by show (0 : Int) < 26; decide), _, _, _, rfl, rfl, by decide, ai, _, _, rfl, rfl, ?_, _, rfl, _, rfl, ((k : Nat) : Int), rfl, y, rfl, by omega, _, _, rfl, rfl, ?_, _, hL, ?_, ?_⟩⟩
              · show (cutS y none (some ((k : Nat) : Int))).length + 1 ≤ sizeLine
                omega
              · rw [str_len_app]
                show (cutS y none (some ((k : Nat) : Int))).length + 1 + (cutS y (some ((k : Nat) : Int)) none).length ≤ sizeLine
                omega
              · rw [List.length_map]
                omega
              · have e2 := ins_str y (ch (97 + q)) (k := k) (d := 97 + q) hk rfl
                refine ⟨ws ++ [cutS y none (some ((k : Nat) : Int)) ++ ch (97 + q) ++ cutS y (some ((k : Nat) : Int)) none], ?_, ?_, ?_, ?_⟩
                · rw [upd_same, List.map_append]
                  rfl
                · rw [List.length_append, hl]
                  rfl
                · intro w' hw'
                  rcases List.mem_append.mp hw' with h | h
                  · exact hw w' h
                  · rw [List.mem_singleton.mp h]
                    have lw : (cutS y none (some ((k : Nat) : Int)) ++ ch (97 + q) ++ cutS y (some ((k : Nat) : Int)) none).length = y.length + 1 := by
                      rw [← len_list, e2, ins_len (by rw [len_list]; exact hk), len_list]
                    refine word_of (by omega) (by omega) ?_ ?_
                    · unfold lowB
                      rw [e2]
                      refine ins_all ?_ (by simp; omega)
                      rw [ey]
                      exact ins_all hz (by decide)
                    · rw [e2, ey]
                      exact ins_old ins_mem
                · intro c o e
                  rw [upd_ne (ne_of_none e nL)]
                  exact sm c o e
            · obtain ⟨ws, hL, hl, hw, sm⟩ := pv
              have hLH : H L = none := by
                cases hx : H L with
                | none => rfl
                | some o =>
                  by_cases hLb : L = b
                  · rw [hLb, hb3] at nL
                    cases nL
                  · rw [bt3 L o hLb hx] at nL
                    cases nL
              exact fin L H4 ws ys3 hLH (bt3.trans (But.of sm)) (sm _ _ hb3) hB3 hL hl hw
end
end My
namespace My
open PySem PySem.Spec PyProof.Rows L2
abbrev sPicked : Stmt := top 19
abbrev sStrict : Stmt := top 20
abbrev sAreW : Stmt := top 22
theorem erase_map {α β : Type} (g : α → β) : ∀ (l : List α) (k : Nat), (l.map g).eraseIdx k = (l.eraseIdx k).map g
  | [], _ => rfl
  | _ :: _, 0 => rfl
  | x :: l, k + 1 => congrArg (g x :: ·) (erase_map g l k)
/-- some of a list's texts -/
def spPicked (K : PySem.W.Frag) : Sp := fun vs H Q _ => ∃ (b l : Addr) (many : Nat) (n : Nat) (xs : List V) (ws : List Str), vs = [.ref b, .ref l, .int many] ∧ many ≤ 20 ∧ H b = some (.lst xs) ∧ BagL n xs ∧ n < 900000 ∧ H l = some (.lst (ws.map V.str)) ∧ ws.length ≤ 20 ∧
  ∀ F H' (fs : List Str) (zs : List V), H F = none → But b H H' → H' b = some (.lst zs) → BagL (n + many) zs → H' F = some (.lst (fs.map V.str)) → fs.length ≤ many → (∀ z ∈ fs, z ∈ ws) → Q (.ref F) H'
abbrev NP : List Str := ["pot", "some", "many", "left", "found", "turn"]
section
variable {P : Program} {w : World} {K : PySem.W.Frag} {mg : Str → Option Value} {base : Heap}
theorem scPicked : FnScope NP ["pot", "some", "many"] (defScope sPicked) := ⟨rfl, rfl, rfl, by decide +kernel, rfl, by decide +kernel, by decide +kernel⟩
theorem cl_picked (D : DefAt K mg "_law_picked" sPicked ["pot", "some", "many"]) (hrng : mg "range" = none) (hmin : mg "min" = none) (hlist : mg "list" = none) (T : TB mg) (cT : Cl P w K mg base CX0 1 "_law_take" spTake) : Cl P w K mg base CX0 2 "_law_picked" (spPicked K) := by
  obtain ⟨f, fd, F, g, bd⟩ := D.ex
  refine ⟨f, fd, _, F.ok scPicked (fun vs H Q E h => ?_) (fun cdv A outer s H vs Q E hr h => ?_), g, F.kp, bd⟩
  · obtain ⟨b, l, many, n, xs, ws, rfl, _⟩ := h
    rfl
  · obtain ⟨b, l, many, n, xs, ws, rfl, hm, hb, hB, hn, hl, hws, fin⟩ := h
    have nd := scPicked.nd
    have szs : sizeLine = 16777216 := sizeLine_eq
    refine ⟨_, C8.pss_cut (ps_par (i := 3) (j := 4) (by rfl) nd rfl rfl (by decide) rfl rfl (pa_cons (pe_callTy call_list_of (by rfl) hlist (by decide +kernel) (pa_cons (pv 1) pa_nil)) (pa_cons (pe_lst pa_nil) pa_nil)) (by rfl))
      (pss_cons (ps_for PassesOwn.never rfl (pi_range1 rfl hrng (pa_cons (pe_callB (call_min2 rfl) (by rfl) hmin (by decide +kernel) (pa_cons (pv 2) (pa_cons (pe_callB call_len_seq (by rfl) T.len PySem.boot_len (pa_cons (pv 3) pa_nil)) pa_nil))) pa_nil)) (pg_name (i := 5) nd rfl (.inl rfl))
        (pss_one (ps_expr (pe_bm PySem.F.plainAttrs_list PySem.F.slot_list_append PySem.F.type_list_append mt_append (pv 4) (pa_cons (pe_bm PySem.F.plainAttrs_list PySem.F.slot_list_pop PySem.F.type_list_pop mt_popAt (pv 3) (pa_cons (pe_cl cT hr pass0 (pa_cons (pv 0) (pa_cons (pe_callB call_len_seq (by rfl) T.len PySem.boot_len (pa_cons (pv 3) pa_nil)) pa_nil))) pa_nil)) pa_nil)))))
      (pss_one (ps_ret (pv 4)))), ?_⟩
    refine ⟨fun σ' H' => ∃ L F, σ' = [some (.ref b), some (.ref l), some (.int many), some (.ref L), some (.ref F), none] ∧ Same H H' ∧ H L = none ∧ H F = none ∧ L ≠ F ∧ H' L = some (.lst (ws.map V.str)) ∧ H' F = some (.lst []), ?_, ?_⟩
    · refine ⟨_, rfl, l, _, rfl, .inl (SqL.of hl), fun L nL => ⟨(by show 0 ≤ sizeLine; decide), fun F nF => ⟨_, _, rfl, ?_⟩⟩⟩
      have s1 := same_new (o := .lst (ws.map V.str)) nL
      have s2 := same_new (o := .lst []) nF
      exact ⟨L, F, rfl, s1.trans s2, nL, s1.free nF, ne_of_none upd_same nF, s2 _ _ upd_same, upd_same⟩
    · rintro _ H1 ⟨L, F, rfl, sm, nL, nF, nLF, hL, hF⟩
      refine ⟨_, rfl, _, rfl, L, _, rfl, .inl (SqL.of hL), _, _, rfl, _, rfl, ?_⟩
      rw [List.length_map]
      generalize hj : (if (ws.length : Int) < (many : Int) then (ws.length : Int) else (many : Int)) = j
      have j1 : j ≤ ws.length := by rw [← hj]; split <;> omega
      have j2 : j ≤ many := by rw [← hj]; split <;> omega
      have j0 : 0 ≤ j := by rw [← hj]; split <;> omega
      refine ⟨by omega, by omega, for_range (lo := 0) (n := j.toNat) (fun i σ H2 => ∃ (ls fs : List Str) (v5 : Option V) (zs : List V), σ = [some (.ref b), some (.ref l), some (.int many), some (.ref L), some (.ref F), v5] ∧ H2 L = some (.lst (ls.map V.str)) ∧ H2 F = some (.lst (fs.map V.str)) ∧ fs.length = i ∧ ls.length + i = ws.length ∧ (∀ z ∈ ls, z ∈ ws) ∧ (∀ z ∈ fs, z ∈ ws) ∧ But b H H2 ∧ H2 b = some (.lst zs) ∧ BagL (n + i) zs) ?_ ?_ ?_⟩
      · exact ⟨ws, [], none, xs, rfl, hL, hF, rfl, rfl, fun z hz => hz, (fun z hz => nomatch hz), But.of sm, sm _ _ hb, hB⟩
      · rintro i σ H2 hi ⟨ls, fs, v5, zs, rfl, hL2, hF2, hfl, hll, hls, hfs, bt, hb2, hB2⟩
        have nLb : L ≠ b := fun z => by rw [z, hb] at nL; cases nL
        have nFb : F ≠ b := fun z => by rw [z, hb] at nF; cases nF
        refine ⟨_, rfl, .inl ⟨rfl, _, SqL.of hF2⟩, _, rfl, .inl ⟨rfl, _, SqL.of hL2⟩, _, rfl, _, rfl, L, _, rfl, .inl (SqL.of hL2), b, _, n + i, zs, rfl, hb2, hB2, by omega, ?_, ?_, fun r ys h0 h1 hZ => ?_⟩
        · rw [List.length_map]
          omega
        · rw [List.length_map]
          exact Int.lt_of_lt_of_le (show (ls.length : Int) < 1000000 by omega) (by decide +kernel)
        · rw [List.length_map] at h1
          have hk : ls[r.toNat]? = some (ls[r.toNat]'(by omega)) := List.getElem?_eq_getElem (by omega)
          generalize (ls[r.toNat]'(by omega)) = y at hk
          have hy : y ∈ ls := List.mem_of_getElem? hk
          have hL3 : (upd H2 b (.lst ys)) L = some (.lst (ls.map V.str)) := by
            rw [upd_ne nLb]
            exact hL2
          refine ⟨L, _, r, r.toNat, .str y, rfl, rfl, hL3, by omega, by omega, ?_, ?_, F, fs.map V.str, .str y, rfl, rfl, ?_, ?_, ?_⟩
          · rw [List.length_map]
            exact seqIndex_of h0 h1
          · rw [List.getElem?_map, hk]
            rfl
          · rw [upd_ne nLF.symm, upd_ne nFb]
            exact hF2
          · rw [List.length_map]
            omega
          · refine ⟨ls.eraseIdx r.toNat, fs ++ [y], _, ys, rfl, ?_, ?_, ?_, ?_, fun z hz => hls z (List.mem_of_mem_eraseIdx hz), fun z hz => ?_, fun c o nc e => ?_, ?_, hZ⟩
            · rw [upd_ne nLF, upd_same]
              rw [erase_map]
            · rw [upd_same, List.map_append]
              rfl
            · rw [List.length_append, hfl]
              rfl
            · rw [List.length_eraseIdx_of_lt (by omega)]
              omega
            · rcases List.mem_append.mp hz with h | h
              · exact hfs z h
              · rw [List.mem_singleton.mp h]
                exact hls y hy
            · rw [upd_ne (ne_of_none e nF), upd_ne (ne_of_none e nL), upd_ne nc]
              exact bt c o nc e
            · rw [upd_ne nFb.symm, upd_ne nLb.symm]
              exact upd_same
      · rintro σ H2 ⟨ls, fs, v5, zs, rfl, hL2, hF2, hfl, hll, hls, hfs, bt, hb2, hB2⟩
        exact ⟨_, rfl, fin F H2 fs zs nF bt hb2 (hB2.mono (by omega)) hF2 (by omega) hfs⟩
end
end My
namespace My
open PySem PySem.Spec PyProof.Rows L2
abbrev sIsInt : Stmt := top 7
abbrev sIsSpelled : Stmt := top 8
abbrev sIsWord : Stmt := top 9
abbrev sAreWords : Stmt := top 13
mutual
/-- values as data; texts are short -/
inductive Vd (H : Hp) : V → PyData → Prop
  | non : Vd H .non .none
  | bl (b : Bool) : Vd H (.bl b) (.bool b)
  | int (i : Int) : Vd H (.int i) (.int i)
  | str (z : Str) (h : z.length ≤ 1000) : Vd H (.str z) (.str z)
  | lst {a : Addr} {xs : List V} {ds : List PyData} (h : H a = some (.lst xs)) (k : VdAll H xs ds) : Vd H (.ref a) (.list ds)
  | tup {a : Addr} {xs : List V} {ds : List PyData} (h : H a = some (.tup xs)) (k : VdAll H xs ds) : Vd H (.ref a) (.tuple ds)
inductive VdAll (H : Hp) : List V → List PyData → Prop
  | nil : VdAll H [] []
  | cons {v : V} {d : PyData} {vs : List V} {ds : List PyData} (h : Vd H v d) (k : VdAll H vs ds) : VdAll H (v :: vs) (d :: ds)
end
mutual
theorem Vd.up {H H' : Hp} (s : Same H H') : ∀ {d : PyData} {v : V}, Vd H v d → Vd H' v d
  | .none, _, h => by
    cases h
    exact .non
  | .bool _, _, h => by
    cases h
    exact .bl _
  | .int _, _, h => by
    cases h
    exact .int _
  | .str _, _, h => by
    cases h with
    | str z hz => exact .str _ hz
  | .list ds, _, h => by
    cases h with
    | lst hq ha => exact .lst (s _ _ hq) (VdAll.up s ha)
  | .tuple ds, _, h => by
    cases h with
    | tup hq ha => exact .tup (s _ _ hq) (VdAll.up s ha)
  | .dict _, _, h => by cases h
theorem VdAll.up {H H' : Hp} (s : Same H H') : ∀ {ds : List PyData} {vs : List V}, VdAll H vs ds → VdAll H' vs ds
  | [], _, h => by
    cases h
    exact .nil
  | _ :: _, _, h => by
    cases h with
    | cons h1 h2 => exact .cons (Vd.up s h1) (VdAll.up s h2)
end
mutual
theorem Vd.dp {K : PySem.W.Frag} {H : Hp} : ∀ {d : PyData} {v : V}, Vd H v d → Dp K H v d
  | .none, _, h => by
    cases h
    exact .non
  | .bool _, _, h => by
    cases h
    exact .bl _
  | .int _, _, h => by
    cases h
    exact .int _
  | .str _, _, h => by
    cases h with
    | str z hz => exact .str _
  | .list ds, _, h => by
    cases h with
    | lst hq ha => exact .lst (SqL.of hq) (VdAll.dp ha)
  | .tuple ds, _, h => by
    cases h with
    | tup hq ha => exact .tup (SqT.of hq) (VdAll.dp ha)
  | .dict _, _, h => by cases h
theorem VdAll.dp {K : PySem.W.Frag} {H : Hp} : ∀ {ds : List PyData} {vs : List V}, VdAll H vs ds → DpAll K H vs ds
  | [], _, h => by
    cases h
    exact .nil
  | _ :: _, _, h => by
    cases h with
    | cons h1 h2 => exact .cons (Vd.dp h1) (VdAll.dp h2)
end
theorem VdAll.len {H : Hp} : ∀ {ds : List PyData} {vs : List V}, VdAll H vs ds → vs.length = ds.length
  | [], _, h => by
    cases h
    rfl
  | _ :: _, _, h => by
    cases h with
    | cons h1 h2 => exact congrArg Nat.succ (VdAll.len h2)
theorem VdAll.at {H : Hp} : ∀ {ds : List PyData} {vs : List V} {i : Nat} {v : V}, VdAll H vs ds → vs[i]? = some v → ∃ d, ds[i]? = some d ∧ Vd H v d
  | [], _, _, _, h, e => by
    cases h
    cases e
  | d :: ds, _, i, v, h, e => by
    cases h with
    | @cons v' _ vs' _ h1 h2 =>
      cases i with
      | zero =>
        cases e
        exact ⟨d, rfl, h1⟩
      | succ i => exact VdAll.at (i := i) h2 e
def isStrD : PyData → Bool
  | .str _ => true
  | _ => false
def isIntD : PyData → Bool
  | .int _ => true
  | .bool _ => true
  | _ => false
def isBlD : PyData → Bool
  | .bool _ => true
  | _ => false
def isTupD : PyData → Bool
  | .tuple _ => true
  | _ => false
theorem Vd.ty {K : PySem.W.Frag} {H : Hp} {v : V} {d : PyData} (h : Vd H v d) : ∃ t, TyX K H v t ∧ PySem.W.kitOne K t (.type "str") = some (isStrD d) ∧ PySem.W.kitOne K t (.type "int") = some (isIntD d) ∧ PySem.W.kitOne K t (.type "bool") = some (isBlD d) ∧ PySem.W.kitOne K t (.type "tuple") = some (isTupD d) := by
  cases h with
  | non => exact ⟨_, .base .non, kit_ty (by decide +kernel), kit_ty (by decide +kernel), kit_ty (by decide +kernel), kit_ty (by decide +kernel)⟩
  | bl b => exact ⟨_, .base (.bl b), kit_ty (by show kitB _ _ = some false; decide +kernel), kit_ty (by show kitB _ _ = some true; decide +kernel), kit_ty (by show kitB _ _ = some true; decide +kernel), kit_ty (by show kitB _ _ = some false; decide +kernel)⟩
  | int i => exact ⟨_, .base (.int i), kit_ty (by show kitB _ _ = some false; decide +kernel), kit_ty (by show kitB _ _ = some true; decide +kernel), kit_ty (by show kitB _ _ = some false; decide +kernel), kit_ty (by show kitB _ _ = some false; decide +kernel)⟩
  | str z => exact ⟨_, .base (.str z), kit_ty (by show kitB _ _ = some true; decide +kernel), kit_ty (by show kitB _ _ = some false; decide +kernel), kit_ty (by show kitB _ _ = some false; decide +kernel), kit_ty (by show kitB _ _ = some false; decide +kernel)⟩
  | lst h k => exact ⟨_, .base (.lst h), kit_ty (by show kitB _ _ = some false; decide +kernel), kit_ty (by show kitB _ _ = some false; decide +kernel), kit_ty (by show kitB _ _ = some false; decide +kernel), kit_ty (by show kitB _ _ = some false; decide +kernel)⟩
  | tup h k => exact ⟨_, .base (.tup h), kit_ty (by show kitB _ _ = some false; decide +kernel), kit_ty (by show kitB _ _ = some false; decide +kernel), kit_ty (by show kitB _ _ = some false; decide +kernel), kit_ty (by show kitB _ _ = some true; decide +kernel)⟩
/-- over the signs of a text -/
theorem lc_str {x : Str} {g : TG} {tt : TT} {te : TE} {vs : List Nat} {σ : L2.St} {H1 : Hp} {D : Addr} {Qd : Hp → Prop} (Pv : Nat → Hp → Prop) (h0 : Pv 0 (upd H1 D (.lst [])))
    (hs : ∀ i c H, x.cps.toList[i]? = some c → Pv i H → g (.str ⟨#[c]⟩) (wipe σ vs) H fun σ2 H2 => wipe σ2 vs = wipe σ vs ∧ tt σ2 H2 fun b H3 =>
      if b = true then te σ2 H3 fun y H4 => ∃ acc, H4 D = some (.lst acc) ∧ acc.length < sizeLine ∧ Pv (i + 1) (upd H4 D (.lst (acc ++ [y]))) else Pv (i + 1) H3) (hd : ∀ H, Pv x.cps.toList.length H → Qd H) :
    ∃ W : Nat → Nat → Hp → Prop, (∃ m, W 0 m (upd H1 D (.lst []))) ∧ ∀ i m H, W i m H →
      ((Its x).stop i H ∧ Qd H) ∨ ((Its x).go i H ∧ ∃ Nx : Hp → Prop, (∀ H', Nx H' → ∃ m', m' < m ∧ W (i + 1) m' H') ∧ ∀ y H', (Its x).yld i H y H' → g y (wipe σ vs) H' fun σ2 H2 => wipe σ2 vs = wipe σ vs ∧ tt σ2 H2 fun b H3 =>
        if b = true then te σ2 H3 fun y H4 => ∃ acc, H4 D = some (.lst acc) ∧ acc.length < sizeLine ∧ Nx (upd H4 D (.lst (acc ++ [y]))) else Nx H3) := by
  have hsz : x.cps.size = x.cps.toList.length := by rw [Array.length_toList]
  refine ⟨fun i m H => m = x.cps.toList.length - i ∧ i ≤ x.cps.toList.length ∧ Pv i H, ⟨x.cps.toList.length, by simp, Nat.zero_le _, h0⟩, ?_⟩
  rintro i m H ⟨rfl, hi, p⟩
  by_cases hlt : i < x.cps.toList.length
  · refine .inr ⟨by show i < x.cps.size; omega, Pv (i + 1), fun H' p' => ⟨x.cps.toList.length - (i + 1), by omega, rfl, hlt, p'⟩, fun y H' q => ?_⟩
    obtain ⟨rfl, c, hc, rfl⟩ := q
    exact hs i c _ (by rw [Array.getElem?_toList]; exact hc) p
  · have e : i = x.cps.toList.length := by omega
    subst e
    exact .inl ⟨by show x.cps.size ≤ _; omega, hd H p⟩
/-- what the module's top has written -/
structure Tw (K : PySem.W.Frag) (mg : Str → Option Value) : Prop where
  isi : mg "isinstance" = none
  int : mg "int" = none
  str : mg "str" = none
  bool : mg "bool" = none
  len : mg "len" = none
  all : mg "all" = none
  tuple : mg "tuple" = none
  range : mg "range" = none
  small : ∃ t, mg "SMALL" = some (.str abc t)
  longest : ∃ t, mg "LONGEST" = some (.int 8 t)
  res : ∃ a, mg "RESERVED" = some (.ref a) ∧ ∀ H, SqT K H a (resW.map V.str)
def lowLen (z : Str) : Bool := decide (1 ≤ z.length) && decide (z.length ≤ 8) && lowB z
def spelledD : PyData → Bool
  | .str z => lowLen z
  | _ => false
def wordD : PyData → Bool
  | .str z => wordB z
  | _ => false
theorem in_strs (x : Str) : ∀ ws : List Str, inV (.str x) (ws.map V.str) = decide (x ∈ ws)
  | [] => rfl
  | y :: ws => by
    have ih := in_strs x ws
    unfold inV at ih ⊢
    rw [List.map_cons, List.any_cons, ih]
    show ((y == x) || _) = _
    by_cases h : x = y
    · subst h
      simp
    · have h' : (y == x) = false := by
        rw [beq_eq_false_iff_ne]
        exact fun e => h e.symm
      rw [h']
      simp [h]
theorem flat_strs (ws : List Str) : (ws.map V.str).all flatV = true := by
  rw [List.all_map]
  exact List.all_eq_true.mpr fun _ _ => rfl
def spIsInt : Sp := fun vs H Q _ => ∃ v d, vs = [v] ∧ Vd H v d ∧ Q (.bl (isIntD d && !isBlD d)) H
def spIsSpelled : Sp := fun vs H Q _ => ∃ v d, vs = [v, .str abc] ∧ Vd H v d ∧ ∀ H', Same H H' → Q (.bl (spelledD d)) H'
def spIsWord : Sp := fun vs H Q _ => ∃ v d, vs = [v] ∧ Vd H v d ∧ ∀ H', Same H H' → Q (.bl (wordD d)) H'
section
variable {P : Program} {w : World} {K : PySem.W.Frag} {mg : Str → Option Value} {base : Heap}
theorem scIsInt : FnScope ["value"] ["value"] (defScope sIsInt) := ⟨rfl, rfl, rfl, by decide +kernel, rfl, by decide +kernel, by decide +kernel⟩
theorem cl_isInt (D : DefAt K mg "is_integer" sIsInt ["value"]) (T : Tw K mg) : Cl P w K mg base CX0 1 "is_integer" spIsInt := by
  obtain ⟨f, fd, F, g, bd⟩ := D.ex
  refine ⟨f, fd, _, F.ok scIsInt (fun vs H Q E h => ?_) (fun cdv A outer s H vs Q E hr h => ?_), g, F.kp, bd⟩
  · obtain ⟨v, d, rfl, _⟩ := h
    rfl
  · obtain ⟨v, d, rfl, hv, fin⟩ := h
    obtain ⟨t, ht, k1, k2, k3, k4⟩ := hv.ty (K := K)
    refine ⟨_, pss_one (ps_ret (pe_and (pe_callB call_isi (by rfl) T.isi (by decide +kernel) (pa_cons (pv 0) (pa_cons (pe_bltn rfl T.int (by decide +kernel) (v := .ty "int") rfl) pa_nil)))
      (pe_one (pe_not (pe_callB call_isi (by rfl) T.isi (by decide +kernel) (pa_cons (pv 0) (pa_cons (pe_bltn rfl T.bool (by decide +kernel) (v := .ty "bool") rfl) pa_nil))))))), ?_⟩
    refine ⟨_, rfl, v, _, t, _, _, rfl, .ty "int", ht, k2, _, rfl, ?_⟩
    cases hi : isIntD d with
    | false =>
      rw [hi] at fin
      exact ite_neg' (by decide) fin
    | true =>
      refine ite_pos' rfl ⟨_, rfl, v, _, t, _, _, rfl, .ty "bool", ht, k3, _, rfl, ?_⟩
      rw [hi] at fin
      exact fin
theorem scIsSpelled : FnScope ["value", "letters", "letter"] ["value", "letters"] (defScope sIsSpelled) := ⟨rfl, rfl, rfl, by decide +kernel, rfl, by decide +kernel, by decide +kernel⟩
theorem in_abc (c : Nat) : decide (c ∈ abc.cps.toList) = (decide (97 ≤ c) && decide (c ≤ 122)) := by
  have e : abc.cps.toList = (List.range 26).map (97 + ·) := by decide +kernel
  rw [e]
  by_cases h : 97 ≤ c ∧ c ≤ 122
  · obtain ⟨h1, h2⟩ := h
    simp only [h1, h2, decide_true, Bool.and_self, decide_eq_true_eq]
    exact List.mem_map.mpr ⟨c - 97, List.mem_range.mpr (by omega), by omega⟩
  · have h3 : (decide (97 ≤ c) && decide (c ≤ 122)) = false := by
      simp only [Bool.and_eq_false_iff, decide_eq_false_iff_not]
      omega
    rw [h3]
    refine decide_eq_false fun hm => ?_
    obtain ⟨k, hk, rfl⟩ := List.mem_map.mp hm
    have := List.mem_range.mp hk
    omega
theorem cl_isSpelled (D : DefAt K mg "is_spelled" sIsSpelled ["value", "letters"]) (T : Tw K mg) : Cl P w K mg base CX0 1 "is_spelled" spIsSpelled := by
  obtain ⟨f, fd, F, g, bd⟩ := D.ex
  obtain ⟨tl, gl⟩ := T.longest
  refine ⟨f, fd, _, F.ok scIsSpelled (fun vs H Q E h => ?_) (fun cdv A outer s H vs Q E hr h => ?_), g, F.kp, bd⟩
  · obtain ⟨v, d, rfl, _⟩ := h
    rfl
  · obtain ⟨v, d, rfl, hv, fin⟩ := h
    obtain ⟨t, ht, k1, k2, k3, k4⟩ := hv.ty (K := K)
    have nd := scIsSpelled.nd
    refine ⟨_, pss_cons (ps_if (PW.pt (pw_or (pt_not (pt_val (pe_callB call_isi (by rfl) T.isi (by decide +kernel) (pa_cons (pv 0) (pa_cons (pe_bltn rfl T.str (by decide +kernel) (v := .ty "str") rfl) pa_nil)))))
        (pw_or1 (pt_not (pt_chain op_le op_le pe_int (pe_callB call_len_str (by rfl) T.len PySem.boot_len (pa_cons (pv 0) pa_nil)) (pe_glob rfl gl (v := .int 8) ⟨_, rfl⟩)))))) (pss_one (ps_ret pe_bl)) pss_nil)
      (pss_one (ps_ret (pe_callB (cr_all rfl) (by rfl) T.all (by decide +kernel) (pa_cons (pe_lc (own := [("letter", 2)]) (g := gName 2) (by rfl) nd (pi_str (pv 0)) (blkOk_by (N := ["value", "letters", "letter"]) (sc := defScope sIsSpelled) (by decide +kernel)) (fun _ _ _ _ _ => pg_name (i := 2) nd rfl (.inl rfl)) (fun _ _ _ _ _ => pts_nil)
        (fun _ _ _ _ _ => pe_cmpR op_inS (pv 2) (pv 1) rfl)) pa_nil)))), ?_⟩
    refine ⟨_, rfl, v, _, t, _, _, rfl, .ty "str", ht, k1, _, rfl, ?_⟩
    have hF : spelledD d = false → Q (.bl false) H := fun e => by
      have := fin H (Same.refl _)
      rw [e] at this
      exact this
    cases hv with
    | str z hz =>
      refine ite_neg' (show ¬ ((false : Bool) = true) from by decide) ?_
      refine ⟨_, rfl, z, rfl, by rw [sizeLine_eq]; omega, _, _, rfl, rfl, _, rfl, ?_⟩
      have tail : lowLen z = lowB z → ∀ D : Ends, D.rt = Q → tRet (tCB (rAll K) (tCons (tLc (iStr (tVar 0)) (gName 2) tYes (tOp rInS (tVar 2) (tVar 1)) [2]) tNil)) D [some (.str z), some (.str abc), none] H := by
        intro hl D eD
        refine ⟨_, rfl, z, rfl, fun L nL => lc_str (fun i H2 => Same H H2 ∧ H2 L = some (.lst (((z.cps.toList.take i).map fun c => decide (97 ≤ c) && decide (c ≤ 122)).map V.bl))) ?_ (fun i c H2 hc pv => ?_) (fun H2 pv => ?_)⟩
        · exact ⟨same_new nL, upd_same⟩
        · obtain ⟨sm, hL⟩ := pv
          have hi : i < z.cps.toList.length := (List.getElem?_eq_some_iff.mp hc).1
          have hz2 : z.cps.toList.length ≤ 1000 := by rw [Array.length_toList]; exact hz
          refine ⟨rfl, _, rfl, _, rfl, c, abc, rfl, rfl, _, hL, ?_, fun d o e => ?_, ?_⟩
          · rw [List.length_map, List.length_map, List.length_take, sizeLine_eq]
            omega
          · rw [upd_ne (ne_of_none e nL)]
            exact sm _ _ e
          · rw [upd_same, List.take_add_one, hc, in_abc]
            simp
        · obtain ⟨sm, hL⟩ := pv
          rw [List.take_length] at hL
          refine ⟨L, _, rfl, SqL.of hL, ?_⟩
          rw [eD]
          have h1 := fin H2 sm
          have e1 : spelledD (.str z) = (z.cps.toList.map fun c => decide (97 ≤ c) && decide (c ≤ 122)).all _root_.id := by
            rw [List.all_map]
            show lowLen z = _
            rw [hl]
            rfl
          rw [e1] at h1
          exact h1
      by_cases h1 : 1 ≤ z.length
      · refine ite_pos' (by simp; omega) ⟨_, _, rfl, rfl, _, rfl, ?_⟩
        by_cases h2 : z.length ≤ 8
        · refine ite_neg' (by simp; omega) ?_
          exact tail (by unfold lowLen; simp [h1, h2]) _ rfl
        · refine ite_pos' (by simp; omega) ?_
          exact hF (by unfold spelledD lowLen; simp [h2])
      · refine ite_neg' (by simp; omega) ⟨_, rfl, ite_pos' rfl ?_⟩
        exact hF (by unfold spelledD lowLen; simp [h1])
    | _ => exact ite_pos' (show (true : Bool) = true from rfl) (ite_pos' rfl (hF rfl))
theorem scIsWord : FnScope ["value"] ["value"] (defScope sIsWord) := ⟨rfl, rfl, rfl, by decide +kernel, rfl, by decide +kernel, by decide +kernel⟩
theorem wordB_eq (z : Str) : wordB z = (lowLen z && !decide (z ∈ resW)) := by
  unfold wordB lowLen
  by_cases h : z ∈ resW <;> simp [h]
theorem cl_isWord (D : DefAt K mg "is_word" sIsWord ["value"]) (T : Tw K mg) (cS : Cl P w K mg base CX0 1 "is_spelled" spIsSpelled) : Cl P w K mg base CX0 2 "is_word" spIsWord := by
  obtain ⟨f, fd, F, g, bd⟩ := D.ex
  obtain ⟨ts, gs⟩ := T.small
  obtain ⟨ra, gR, hR⟩ := T.res
  refine ⟨f, fd, _, F.ok scIsWord (fun vs H Q E h => ?_) (fun cdv A outer s H vs Q E hr h => ?_), g, F.kp, bd⟩
  · obtain ⟨v, d, rfl, _⟩ := h
    rfl
  · obtain ⟨v, d, rfl, hv, fin⟩ := h
    refine ⟨_, pss_one (ps_ret (pe_and (pe_cl cS hr pass0 (pa_cons (pv 0) (pa_cons (pe_glob rfl gs (v := .str abc) ⟨_, rfl⟩) pa_nil))) (pe_one (pe_cmpR op_notIn_seq (pv 0) (pe_glob rfl gR (v := .ref ra) rfl) rfl)))), ?_⟩
    refine ⟨_, rfl, v, d, rfl, hv, fun H' sm => ⟨_, rfl, ?_⟩⟩
    have h1 := fin H' sm
    cases hv with
    | str z hz =>
      have e1 : wordD (.str z) = (lowLen z && !decide (z ∈ resW)) := wordB_eq z
      rw [e1] at h1
      cases hl : lowLen z with
      | false =>
        rw [hl] at h1
        refine ite_neg' ?_ h1
        show ¬ (lowLen z = true)
        rw [hl]
        decide
      | true =>
        rw [hl] at h1
        refine ite_pos' hl ?_
        refine ⟨_, rfl, ra, resW.map V.str, rfl, .inr (hR H'), rfl, flat_strs resW, ?_⟩
        rw [if_pos rfl, in_strs]
        exact h1
    | _ => exact ite_neg' (show ¬ ((false : Bool) = true) from by decide) h1
/-- a tuple of words -/
def partsD : PyData → Bool
  | .tuple ds => ds.all wordD
  | _ => false
def spAreWords : Sp := fun vs H Q _ => ∃ v d, vs = [v] ∧ Vd H v d ∧ (∀ ds, d = .tuple ds → ds.length ≤ 1000) ∧ ∀ H', Same H H' → Q (.bl (partsD d)) H'
theorem scAreWords : FnScope ["value", "word"] ["value"] (defScope sAreWords) := ⟨rfl, rfl, rfl, by decide +kernel, rfl, by decide +kernel, by decide +kernel⟩
theorem cl_areWords (D : DefAt K mg "are_words" sAreWords ["value"]) (T : Tw K mg) (cW : Cl P w K mg base CX0 2 "is_word" spIsWord) : Cl P w K mg base CX0 3 "are_words" spAreWords := by
  obtain ⟨f, fd, F, g, bd⟩ := D.ex
  refine ⟨f, fd, _, F.ok scAreWords (fun vs H Q E h => ?_) (fun cdv A outer s H vs Q E hr h => ?_), g, F.kp, bd⟩
  · obtain ⟨v, d, rfl, _⟩ := h
    rfl
  · obtain ⟨v, d, rfl, hv, hlen, fin⟩ := h
    obtain ⟨t, ht, k1, k2, k3, k4⟩ := hv.ty (K := K)
    have nd := scAreWords.nd
    refine ⟨_, pss_one (ps_ret (pe_and (pe_callB call_isi (by rfl) T.isi (by decide +kernel) (pa_cons (pv 0) (pa_cons (pe_bltn rfl T.tuple (by decide +kernel) (v := .ty "tuple") rfl) pa_nil)))
      (pe_one (pe_callB (cr_all rfl) (by rfl) T.all (by decide +kernel) (pa_cons (pe_lc (own := [("word", 1)]) (g := gName 1) (by rfl) nd (pi_tup (pv 0)) (blkOk_by (N := ["value", "word"]) (sc := defScope sAreWords) (by decide +kernel)) (fun _ _ _ _ _ => pg_name (i := 1) nd rfl (.inl rfl)) (fun _ _ _ _ _ => pts_nil)
        (fun _ _ _ _ _ => pe_cl cW hr pass0 (pa_cons (pv 1) pa_nil))) pa_nil))))), ?_⟩
    refine ⟨_, rfl, v, _, t, _, _, rfl, .ty "tuple", ht, k4, _, rfl, ?_⟩
    have hF : partsD d = false → Q (.bl false) H := fun e => by
      have := fin H (Same.refl _)
      rw [e] at this
      exact this
    cases hv with
    | @tup a xs ds h k =>
      refine ite_pos' rfl ⟨_, rfl, a, rfl, ⟨_, SqT.of h⟩, fun L nL => lc_tup (K := K) (a := a) (xs := xs) (fun i H2 => Same H H2 ∧ H2 L = some (.lst (((ds.take i).map wordD).map V.bl))) ?_ (fun i H2 hi pv => SqT.of (pv.1 _ _ h)) (fun i x H2 hx pv => ?_) (fun H2 pv => ?_)⟩
      · exact ⟨same_new nL, upd_same⟩
      · obtain ⟨sm, hL⟩ := pv
        obtain ⟨e, he, hve⟩ := k.at hx
        refine ⟨rfl, _, rfl, x, e, rfl, hve.up sm, fun H3 s3 => ⟨_, s3 _ _ hL, ?_, fun c o q => ?_, ?_⟩⟩
        · rw [List.length_map, List.length_map, List.length_take, sizeLine_eq]
          have := hlen ds rfl
          omega
        · rw [upd_ne (ne_of_none q nL)]
          exact s3 _ _ (sm _ _ q)
        · rw [upd_same, List.take_add_one, he]
          simp
      · obtain ⟨sm, hL⟩ := pv
        rw [k.len, List.take_length] at hL
        refine ⟨L, _, rfl, SqL.of hL, ?_⟩
        have h1 := fin H2 sm
        have e1 : partsD (.tuple ds) = (ds.map wordD).all _root_.id := by
          rw [List.all_map]
          rfl
        rw [e1] at h1
        exact h1
    | _ => exact ite_neg' (show ¬ ((false : Bool) = true) from by decide) (hF rfl)
/-- among these texts -/
def inWs (ws : List Str) : PyData → Bool
  | .str z => decide (z ∈ ws)
  | _ => false
def partsW (ws : List Str) : PyData → Bool
  | .tuple ds => ds.all (inWs ws)
  | _ => false
def spAreW : Sp := fun vs H Q _ => ∃ v d tw ws, vs = [v, .ref tw] ∧ Vd H v d ∧ (∀ ds, d = .tuple ds → ds.length ≤ 1000) ∧ H tw = some (.lst (ws.map V.str)) ∧ ∀ H', Same H H' → Q (.bl (partsW ws d)) H'
theorem scAreW : FnScope ["given", "terms", "one"] ["given", "terms"] (defScope sAreW) := ⟨rfl, rfl, rfl, by decide +kernel, rfl, by decide +kernel, by decide +kernel⟩
theorem cl_areW (D : DefAt K mg "_law_are_words" sAreW ["given", "terms"]) (T : Tw K mg) : Cl P w K mg base CX0 1 "_law_are_words" spAreW := by
  obtain ⟨f, fd, F, g, bd⟩ := D.ex
  refine ⟨f, fd, _, F.ok scAreW (fun vs H Q E h => ?_) (fun cdv A outer s H vs Q E hr h => ?_), g, F.kp, bd⟩
  · obtain ⟨v, d, tw, ws, rfl, _⟩ := h
    rfl
  · obtain ⟨v, d, tw, ws, rfl, hv, hlen, hw, fin⟩ := h
    obtain ⟨t, ht, k1, k2, k3, k4⟩ := hv.ty (K := K)
    have nd := scAreW.nd
    refine ⟨_, pss_one (ps_ret (pe_and (pe_callB call_isi (by rfl) T.isi (by decide +kernel) (pa_cons (pv 0) (pa_cons (pe_bltn rfl T.tuple (by decide +kernel) (v := .ty "tuple") rfl) pa_nil)))
      (pe_one (pe_callB (cr_all rfl) (by rfl) T.all (by decide +kernel) (pa_cons (pe_lc (own := [("one", 2)]) (g := gName 2) (te := tAndV (tCB (rIsi K) (tCons (tVar 2) (tCons (tC (.ty "str")) tNil))) (tOp (rIn K false) (tVar 2) (tVar 1))) (by rfl) nd (pi_tup (pv 0)) (blkOk_by (N := ["given", "terms", "one"]) (sc := defScope sAreW) (by decide +kernel)) (fun _ _ _ _ _ => pg_name (i := 2) nd rfl (.inl rfl)) (fun _ _ _ _ _ => pts_nil)
        (fun _ _ _ _ _ => pe_and (pe_callB call_isi (by rfl) T.isi (by decide +kernel) (pa_cons (pv 2) (pa_cons (pe_bltn rfl T.str (by decide +kernel) (v := .ty "str") rfl) pa_nil))) (pe_one (pe_cmpR op_in_seq (pv 2) (pv 1) rfl)))) pa_nil))))), ?_⟩
    refine ⟨_, rfl, v, _, t, _, _, rfl, .ty "tuple", ht, k4, _, rfl, ?_⟩
    have hF : partsW ws d = false → Q (.bl false) H := fun e => by
      have := fin H (Same.refl _)
      rw [e] at this
      exact this
    cases hv with
    | @tup a xs ds h k =>
      refine ite_pos' rfl ⟨_, rfl, a, rfl, ⟨_, SqT.of h⟩, fun L nL => lc_tup (K := K) (a := a) (xs := xs) (fun i H2 => Same H H2 ∧ H2 L = some (.lst (((ds.take i).map (inWs ws)).map V.bl))) ?_ (fun i H2 hi pv => SqT.of (pv.1 _ _ h)) (fun i x H2 hx pv => ?_) (fun H2 pv => ?_)⟩
      · exact ⟨same_new nL, upd_same⟩
      · obtain ⟨sm, hL⟩ := pv
        obtain ⟨e, he, hve⟩ := k.at hx
        have hve2 := hve.up sm
        obtain ⟨t2, ht2, j1, _⟩ := hve2.ty (K := K)
        have step : ∀ c : Bool, inWs ws e = c → ∃ acc, H2 L = some (.lst acc) ∧ acc.length < sizeLine ∧ (Same H (upd H2 L (.lst (acc ++ [.bl c]))) ∧ (upd H2 L (.lst (acc ++ [.bl c]))) L = some (.lst (((ds.take (i + 1)).map (inWs ws)).map V.bl))) := by
          intro c hc
          refine ⟨_, hL, ?_, fun c o q => ?_, ?_⟩
          · rw [List.length_map, List.length_map, List.length_take, sizeLine_eq]
            have := hlen ds rfl
            omega
          · rw [upd_ne (ne_of_none q nL)]
            exact sm _ _ q
          · rw [upd_same, List.take_add_one, he]
            simp [hc]
        refine ⟨rfl, _, rfl, x, _, t2, _, _, rfl, .ty "str", ht2, j1, _, rfl, ?_⟩
        cases hve2 with
        | str z hz =>
          refine ite_pos' rfl ⟨_, rfl, _, rfl, tw, ws.map V.str, rfl, .inl (SqL.of (sm _ _ hw)), rfl, flat_strs ws, ?_⟩
          rw [if_neg (by decide), in_strs]
          exact step _ rfl
        | _ => exact ite_neg' (show ¬ ((false : Bool) = true) from by decide) (step _ rfl)
      · obtain ⟨sm, hL⟩ := pv
        rw [k.len, List.take_length] at hL
        refine ⟨L, _, rfl, SqL.of hL, ?_⟩
        have h1 := fin H2 sm
        have e1 : partsW ws (.tuple ds) = (ds.map (inWs ws)).all _root_.id := by
          rw [List.all_map]
          rfl
        rw [e1] at h1
        exact h1
    | _ => exact ite_neg' (show ¬ ((false : Bool) = true) from by decide) (hF rfl)
end
end My
namespace Sx
open PySem PySem.W PySem.Calls PyProof.Rows PySem.HandSPX
/-- what the written part says of an own exception class at C whose __init__ (at fI) says super().__init__(..) -/
structure SxC (prog : Program) (K : Frag) (C fI cc cda : Addr) (qual : Str) (params : Arguments) (body : List Stmt) (scope : Scope) : Prop where
  cls : ∃ nm q N bs bm sn sub ab col dd k0 k1 k2 k3 k5, K.lookup C = some (excClassObj nm q C N bs bm true sn sub ab col dd k0 k1 k2 k3 k5 "ValueError.__new__") ∧ refsVE bm = true
  sa : findIn K (.ref C) "__setattr__" = some (some (.builtin "object.__setattr__"))
  iC : findIn K (.ref C) "__init__" = some (some (.ref fI))
  tC : typeIn K (.ref fI) = some (.type "function")
  kC : keepIn K (.ref C) = true
  exC : subIn K (.ref C) (.type "BaseException") = some true
  tyC : typeIn K (.ref C) = some (.type "type")
  sup : ks_superIn K C C "__init__" = some (some (.builtin "ValueError.__init__"))
  sV : subIn K (.ref C) (.type "ValueError") = some true
  own : mroIn K C (.ref C) = some true
  cell : ∃ cl cld csl, K.lookup cc = some ⟨cl, cld, .cell (some (.ref C)), csl⟩
  code : ∃ ccl cdd vs ccs file tf, K.lookup cda = some ⟨ccl, cdd, .fields vs, ccs⟩ ∧ vs[2]? = some (.str file tf) ∧ ((prog.main.file : Str) == file) = true
  fn : ∃ oc od osl kV doc pm an ct, K.lookup fI = some ⟨oc, od, .func (ksFn "__init__" qual params body scope .none kV doc pm an (.ref cda) ct cc), osl⟩ ∧ codeIn K (.ref cda) qual = true
  sup0 : nsIn K mainGlobals "super" = some none
  third : nsIn K cStatics "thirdparty.any" = some none
  top : (prog.main.scope.names.lookup ("super" : Str)).isSome = false
/-- the state's own modules -/
structure Gb (mg : Str → Option Value) (h : Heap) : Prop where
  g : h.Ns mainGlobals mg
  b : ∃ mb, h.Ns builtinsNs mb ∧ ∀ x : Str, x ≠ "__name__" → mb x = bootBuiltins x
theorem Gb.keeps {mg : Str → Option Value} {h h' : Heap} (G : Gb mg h) (k : ∀ b o, h.get? b = some o → h'.get? b = some o) : Gb mg h' := by
  obtain ⟨g, mb, b, e⟩ := G
  exact ⟨g.keeps k, mb, b.keeps k, e⟩
section
variable {prog : Program} {w : World} {A : Around} {E : Value → Shared → Prop} {h : Heap} {g : Array GenState} {d : Drawn} {t : Nat} {os : OsState} {K : Frag} {C fI cc cda : Addr} {qual : Str} {params : Arguments} {body : List Stmt} {scope : Scope}
theorem cls_of (T : SxC prog K C fI cc cda qual params body scope) : ∃ cd, clsIn K C = some cd ∧ refsVE cd.mro = true ∧ cd.hasDict = true := by
  obtain ⟨nm, q, N, bs, bm, sn, sub, ab, col, dd, k0, k1, k2, k3, k5, hC, hbm⟩ := T.cls
  refine ⟨_, (by unfold clsIn; rw [hC] <;> rfl : clsIn K C = some { name := nm, bases := bs, mro := .ref C :: bm, ns := N, qualname := q, hasDict := true, slotNames := sn, subclasses := sub, abstract := ab, collection := col, hasDel := false }), ?_, rfl⟩
  exact hbm
/-- super().__init__(..) of an exception, called by its method-wrapper -/
theorem call_mw {nm q : Str} {N : Addr} {bs bm : List Value} {hdct : Bool} {sn : List Str} {sub : List Value} {ab : Bool} {col : Option Bool} {dd : Option Addr} {k0 k1 k2 k3 k5 : Option Value} {u e t0 : Addr} {rest : List Value} {Q : Value → Shared → Prop}
    (hC : h.get? C = some (excClassObj nm q C N bs bm hdct sn sub ab col dd k0 k1 k2 k3 k5 "ValueError.__new__")) (he : h.get? e = some (excO C t0)) (hu : h.get? u = some (kxs_mw "ValueError.__init__" e)) (hrest : rest.length ≤ sizeLine)
    (hq : ∀ h' t1, (∀ b o, b ≠ e → h.get? b = some o → h'.get? b = some o) → h'.get? e = some (excO C t1) → Q .none ⟨h', g, d, t, os⟩) :
    wpAny (model prog w) A (call (.ref u) rest) Q E ⟨h, g, d, t, os⟩ := by
  refine wpAny_call (codeAny_of_tree ?_)
  show wpAny _ A.in1 (callAny (.ref u) ⟨rest, []⟩) _ _ _
  simp only [callAny]
  refine wpAny_bind (wpAny_load hu ?_)
  simp only [kxs_mw, show (Value.type "method-wrapper" == Value.type "method" || Value.type "method-wrapper" == Value.type "builtin_function_or_method" || Value.type "method-wrapper" == Value.type "method-wrapper") = true by decide, if_true]
  refine PySem.W.KFB.if_so (by decide) ?_
  refine wpAny_bind (PySem.ESX.check_bound F.excBase_ValueError hC he rfl ?_)
  refine wpAny_bind (wpAny_pure (wpAny_pure ?_))
  refine ⟨Code.quiet_builtin _ (by decide +kernel), codeAny_builtin F.excBase_ValueError.initEntry ?_⟩
  rw [Around.under_plainId F.excBase_ValueError.init.plain _]
  wp_walk
  refine hq _ h.objs.size (fun b o hb ho => ?_) ?_
  · rw [Heap.get?_update_other _ _ (Ne.symm hb)]
    exact Heap.get?_push_of_some _ ho
  · rw [Heap.get?_update_self _ (Heap.get?_push_of_some _ he) rfl]
    rfl
end
end Sx
namespace Sx
open PySem PySem.W PySem.Calls PyProof.Rows PySem.HandSPX
section
variable {prog : Program} {w : World} {A : Around} {E : Value → Shared → Prop} {s : Shared} {K : Frag} {C fI cc cda : Addr} {qual : Str} {params : Arguments} {body : List Stmt} {scope : Scope} {mg : Str → Option Value}
theorem sx_super (T : SxC prog K C fI cc cda qual params body scope) {body0 : List Stmt} {L x t0 : Addr} {m : Str → Option Value} {msg : Expr} {p0 p1 p2 p3 p4 : Pos} {Q : Flow → Shared → Prop} {ar : Arg}
    (X : K.In s.heap) (G : Gb mg s.heap) (hn : s.heap.Ns L m) (hv : m ar.arg = some (.ref x)) (hx : s.heap.get? x = some (excO C t0)) (hp : (params.posonlyargs ++ params.args).head? = some ar)
    (hks : scope.names.lookup ("super" : Str) = some .globalImplicit) (hkc : scope.names.lookup ("__class__" : Str) = some .free) (hka : scope.names.lookup ar.arg = some .local) (hk : scope.kind = .function)
    (hmsg : ∀ (s' : Shared) (Q' : Value → Shared → Prop), (∀ b o, s.heap.get? b = some o → s'.heap.get? b = some o) → (∀ u tk, Q' u { s' with toks := tk }) → wpAny (model prog w) A (eval msg (ksEnv qual scope L fI (.ref cda) cc)) Q' E s')
    (hq : ∀ h' tk t1, (∀ b o, b ≠ x → s.heap.get? b = some o → h'.get? b = some o) → h'.get? x = some (excO C t1) → Q .next { s with heap := h', toks := tk })
    (hin : interactive (ksEnv qual scope L fI (.ref cda) cc) = false)
    (he : starEach [msg] (ksEnv qual scope L fI (.ref cda) cc) = [(false, eval msg (ksEnv qual scope L fI (.ref cda) cc))] := by rfl)
    (hsw : swapsWith (.Call (.Attribute (.Call (.Name "super" p0) [] [] p1) "__init__" p2) [msg] [] p3) none p4.line (ksEnv qual scope L fI (.ref cda) cc) = pure false := by rfl)
    (hev : eval (.Call (.Attribute (.Call (.Name "super" p0) [] [] p1) "__init__" p2) [msg] [] p3) (ksEnv qual scope L fI (.ref cda) cc) = (do
      let ov ← attributeBase (.Call (.Name "super" p0) [] [] p1) "__init__" (ksEnv qual scope L fI (.ref cda) cc) (eval (.Call (.Name "super" p0) [] [] p1) (ksEnv qual scope L fI (.ref cda) cc))
      standAt p2.atName
      let (f, first) ← holding [ov] (getMethod ov "__init__" (pure false))
      callWith p3 f first (backTo p3 (starEach [msg] (ksEnv qual scope L fI (.ref cda) cc))) []) := by rfl) :
    _root_.PySem.wpAt (model prog w) A (.func body0 (ksEnv qual scope L fI (.ref cda) cc)) (exec (.Expr (.Call (.Attribute (.Call (.Name "super" p0) [] [] p1) "__init__" p2) [msg] [] p3) p4) (ksEnv qual scope L fI (.ref cda) cc)) Q E s := by
  obtain ⟨nm, q, N, bs, bm, sn, sub, ab, col, dd, k0, k1, k2, k3, k5, hC, hbm⟩ := T.cls
  obtain ⟨cl, cld, csl, hcell⟩ := T.cell
  obtain ⟨ccl, cdd, vs, ccs, file, tf, hcode, hvs, hfile⟩ := T.code
  obtain ⟨oc, od, osl, kV, doc, pm, an, ct, hfn, _⟩ := T.fn
  obtain ⟨cd, hcd, _, _⟩ := cls_of T
  obtain ⟨hg, mb, hb, hbv⟩ := G
  obtain ⟨hh, g, d, t, os⟩ := s
  refine ks_wpAt_Expr_any (ks_wpAt_MethodCall (pl := pure false) ?_ hev) hin hsw
  refine ks_wpAt_super_base (env := ksEnv qual scope L fI (.ref cda) cc) hks hkc (by decide) rfl (X _ _ hfn) rfl hp rfl (X _ _ hcode) rfl hvs hfile T.top ?_
  refine ks_loadName_global hk hks (loadGlobal_builtin (env := ksEnv qual scope L fI (.ref cda) cc) hg (mg_none_of X hg T.sup0) hb ((hbv _ (by decide +kernel)).trans (by first | rfl | decide +kernel | kernel_rfl)) ⟨rfl, ?_⟩)
  refine wpAny_loadName_free hk hkc rfl ⟨_, X _ _ hcell, rfl⟩ ?_
  refine wpAny_loadName_local hk hka hn hv ?_
  refine ks_wpAny_isType_cls (X _ _ hC) rfl ⟨rfl, ?_⟩
  refine ks_wpAny_call_super (X _ _ hC) rfl hx rfl (fun c e => nomatch e) (looks_mroIn X T.own) (fun h1 e1 k1' => ?_)
  -- getMethod
  have X1 : K.In h1 := X.keeps k1'
  have I : InstAt hh x (excO C t0) C none := ⟨hx, rfl, rfl, trivial⟩
  have hxC : x ≠ C := ks_ne X I hcd
  have hm : alongIn K "__init__" ((cd.mro.dropWhile (· != .ref C)).drop 1) = some (some (.builtin "ValueError.__init__")) := by
    have z := T.sup
    unfold ks_superIn at z
    rw [hcd] at z
    exact z
  have hI : Looks (model prog w) h1 (isInstance (.ref x) (.type "ValueError")) true := (⟨k1' _ _ hx, rfl, rfl, trivial⟩ : InstAt h1 x (excO C t0) C none).type.andThen (looks_subIn X1 T.sV)
  refine kxs_getMethod kxs_ValueError e1 (looks_opaque X1 T.third) (l₀ := cd.mro) (fun A Q E s k q => wpAny_bind ((looks_clsIn X1 hcd) A _ E s k (wpAny_pure q))) rfl X1 hm hI hxC (by decide) ?_
  -- the call
  rw [he]
  refine kxs_callWith (i := "ValueError.__init__") (x := x) rfl (evalArgs_plain ?_)
  refine spliced_cons ?_
  have k2' : ∀ b o, hh.get? b = some o → (h1.push (kxs_mw "ValueError.__init__" x)).get? b = some o := fun b o e => Heap.get?_push_of_some _ (k1' b o e)
  refine hmsg _ _ k2' fun u tk => spliced_nil ?_
  refine ⟨Heap.get?_push_at rfl rfl, ?_⟩
  refine call_mw (rest := [u]) (k2' _ _ (X _ _ hC)) (k2' _ _ hx) (Heap.get?_push_at rfl rfl) (by rw [sizeLine_eq]; exact (by decide : 1 ≤ 16777216)) (fun h' t1 k3' e3 => ?_)
  exact hq h' _ t1 (fun b o hb e => k3' b o hb (k2' b o e)) e3
end
end Sx
namespace Sx
open PySem PySem.W PySem.Calls PyProof.Rows PySem.HandSPX
/-- the message of an __init__ can be made, whatever it is -/
def MsgOk (prog : Program) (w : World) (env : Addr → Env) (msg : Expr) (m : Str → Option Value) (h0 : Heap) : Prop :=
  ∀ (A : Around) (L : Addr) (s' : Shared) (Q' E' : Value → Shared → Prop), A.units + 40 < cLine → s'.heap.Ns L m → (∀ b o, h0.get? b = some o → s'.heap.get? b = some o) → (∀ u tk, Q' u { s' with toks := tk }) → wpAny (model prog w) A (eval msg (env L)) Q' E' s'
theorem kept_but {K : Frag} {h h' : Heap} {x : Addr} (X : K.In h) (hx : K.lookup x = none) (k : ∀ b o, b ≠ x → h.get? b = some o → h'.get? b = some o) : K.In h' := fun a o e =>
  k a o (fun z => by rw [z, hx] at e; cases e) (X a o e)
/-- what __init__ leaves of a fresh exception at x -/
structure InitEnd (h h' : Heap) (x C dx t1 : Addr) (m : Str → Option Value) : Prop where
  keep : ∀ b o, b ≠ x → h.get? b = some o → h'.get? b = some o
  obj : h'.get? x = some { cls := .ref C, dict := some dx, data := .fields #[.ref t1, .none, .none, .none, .bool false, .none] }
  dbig : h.objs.size ≤ dx
  dne : dx ≠ x
  ns : h'.Ns1 dx m
section
variable {prog : Program} {w : World} {A : Around} {R : Result → Shared → Prop} {s : Shared} {K : Frag} {C fI cc cda : Addr} {qual : Str} {params : Arguments} {body : List Stmt} {scope : Scope} {mg : Str → Option Value}
/-- __init__(self, f): super().__init__(msg); self.f = f -/
theorem sx_init1 (T : SxC prog K C fI cc cda qual params body scope) {x t0 : Addr} {v : Value} {msg : Expr} {f : Str} {p0 p1 p2 p3 p4 q1 q2 q3 q4 : Pos} {ar : Arg}
    (X : K.In s.heap) (G : Gb mg s.heap) (hlim : s.heap.NoLimit) (hx : s.heap.get? x = some (excO C t0)) (hnx : K.lookup x = none) (hroom : A.depth < recursionLimit) (hun : A.units + 60 < cLine)
    (hbody : body = [.Expr (.Call (.Attribute (.Call (.Name "super" p0) [] [] p1) "__init__" p2) [msg] [] p3) p4, .Assign [.Attribute (.Name "self" q1) f q2] (.Name f q3) q4])
    (hbind : ∀ (kV doc pm : Value) (an : Option Addr) (ct : Value), bindArgs (ksFn "__init__" qual params body scope .none kV doc pm an (.ref cda) ct cc) ⟨[.ref x, v], []⟩ = pure [(("self" : Str), .ref x), (f, v)])
    (hp : (params.posonlyargs ++ params.args).head? = some ar) (har : ar.arg = "self") (hf : f ≠ "self") (hfd : (f == ("__debug__" : Str)) = false)
    (hks : scope.names.lookup ("super" : Str) = some .globalImplicit) (hkc : scope.names.lookup ("__class__" : Str) = some .free) (hka : scope.names.lookup ("self" : Str) = some .local) (hkf : scope.names.lookup f = some .local) (hk : scope.kind = .function)
    (hcell : ∀ x ∈ scope.names, x.2 ≠ .cell) (hco : scope.isCoroutine = false) (hgen : scope.isGenerator = false)
    (hno : findIn K (.ref C) f = some none)
    (hmsg : MsgOk prog w (fun L => ksEnv qual scope L fI (.ref cda) cc) msg (fun y => ([(("self" : Str), Value.ref x), (f, v)] : List (Str × Value)).reverse.lookup y) s.heap)
    (hin : ∀ L, interactive (ksEnv qual scope L fI (.ref cda) cc) = false)
    (he : ∀ L, starEach [msg] (ksEnv qual scope L fI (.ref cda) cc) = [(false, eval msg (ksEnv qual scope L fI (.ref cda) cc))])
    (hsw : ∀ L, swapsWith (.Call (.Attribute (.Call (.Name "super" p0) [] [] p1) "__init__" p2) [msg] [] p3) none p4.line (ksEnv qual scope L fI (.ref cda) cc) = pure false)
    (hsw2 : ∀ L, swapsWith (.Name f q3) (some (.Attribute (.Name "self" q1) f q2)) q4.line (ksEnv qual scope L fI (.ref cda) cc) = pure false)
    (hev : ∀ L, eval (.Call (.Attribute (.Call (.Name "super" p0) [] [] p1) "__init__" p2) [msg] [] p3) (ksEnv qual scope L fI (.ref cda) cc) = (do
      let ov ← attributeBase (.Call (.Name "super" p0) [] [] p1) "__init__" (ksEnv qual scope L fI (.ref cda) cc) (eval (.Call (.Name "super" p0) [] [] p1) (ksEnv qual scope L fI (.ref cda) cc))
      standAt p2.atName
      let (f, first) ← holding [ov] (getMethod ov "__init__" (pure false))
      callWith p3 f first (backTo p3 (starEach [msg] (ksEnv qual scope L fI (.ref cda) cc))) []))
    (hq : ∀ h' tk dx t1, InitEnd s.heap h' x C dx t1 (fun y => if y = f then some v else none) → R (.ok (.ret .none)) { s with heap := h', toks := tk }) :
    codeAny (model prog w) A (.call (.ref fI) ⟨[.ref x, v], []⟩) R s := by
  obtain ⟨oc, od, osl, kV, doc, pm, an, ct, hfn, hcd⟩ := T.fn
  obtain ⟨cd, hcd1, hcd2, hcd3⟩ := cls_of T
  subst hbody
  refine ks_codeAny_call_defAt (fd := ksFn "__init__" qual params _ scope .none kV doc pm an (.ref cda) ct cc) (binds := [(("self" : Str), .ref x), (f, v)]) hroom (X _ _ hfn) rfl hlim (codeRec_of X hcd) rfl (BindsTo.of_eq (hbind kV doc pm an ct)) hcell ?_ (fun h0 hns hk0 => ?_) hco hgen hk
  · intro y hy
    rcases List.mem_cons.mp hy with rfl | hy
    · exact hka
    · rcases List.mem_cons.mp hy with rfl | hy
      · exact hkf
      · cases hy
  have mself : (([(("self" : Str), Value.ref x), (f, v)] : List (Str × Value)).reverse.lookup ("self" : Str)) = some (.ref x) := by
    have e : (("self" : Str) == f) = false := by simpa using (Ne.symm hf)
    show ([(f, v), (("self" : Str), Value.ref x)] : List (Str × Value)).lookup ("self" : Str) = _
    simp [List.lookup, e]
  have mf : (([(("self" : Str), Value.ref x), (f, v)] : List (Str × Value)).reverse.lookup f) = some v := by
    show ([(f, v), (("self" : Str), Value.ref x)] : List (Str × Value)).lookup f = _
    simp [List.lookup]
  have hL : s.heap.objs.size ≠ x := Nat.ne_of_gt (Heap.lt_size hx)
  have X0 : K.In h0 := X.keeps hk0
  refine ks_wpAt_execs_cons (sx_super (s := { s with heap := h0, toks := s.toks + _ }) T (mg := mg) (ar := ar) X0 (G.keeps hk0) hns (by rw [har]; exact mself) (hk0 _ _ hx) hp hks hkc (by rw [har]; exact hka) hk ?_ (fun h1 tk1 t1 k1 e1 => ?_) (hin _) (he _) (hsw _) (hev _))
  · intro s' Q' k' q'
    refine hmsg _ _ _ _ _ ?_ (hns.keeps k') (fun b o e => k' _ _ (hk0 _ _ e)) q'
    show A.units + 3 + 40 < cLine
    omega
  · refine wpAt_of_wpAny ?_
    have hn1 : h1.Ns s.heap.objs.size (fun y => ([(("self" : Str), Value.ref x), (f, v)] : List (Str × Value)).reverse.lookup y) := hns.at fun o e => k1 _ _ hL e
    refine wpAny_execs_cons (plainObj_wpAny_Assign_Attribute ?_ (hsw2 _))
    refine ESX.ldL (v := v) hn1 mf (ESX.ldL (v := .ref x) hn1 mself ?_ hk hka (by decide)) hk hkf hfd
    have X1 : K.In h1 := kept_but X0 hnx k1
    refine set_plain X1 (ox := excO C t1) (od := none) ⟨e1, rfl, rfl, trivial⟩ T.sa ?_
    refine exc_osa X1 e1 hcd1 hcd2 hcd3 hno (fun h3 tk3 dx k3 dn dne hx3 hn3 => ?_)
    show wpAny _ _ (execs _ _) _ _ _
    have z0 : s.heap.objs.size < h0.objs.size := hns.lt
    have z1 : s.heap.objs.size < h1.objs.size := hn1.lt
    exact wpAny_execs_nil (hq h3 tk3 dx t1 ⟨fun b o hb e => k3 b o hb (k1 b o hb (hk0 b o e)), hx3, Nat.le_of_lt (Nat.lt_of_lt_of_le z1 dn), dne, hn3⟩)
end
end Sx
namespace Sx
open PySem PySem.W PySem.Calls PyProof.Rows PySem.HandSPX
/-- __init__ of a fresh exception, called with these arguments: it leaves the fields m -/
def InitOk (prog : Program) (w : World) (K : Frag) (mg : Str → Option Value) (C fI : Addr) (rest : List Value) (m : Str → Option Value) (h0 : Heap) : Prop :=
  ∀ (A : Around) (R : Result → Shared → Prop) (s : Shared) (x t0 : Addr), K.In s.heap → Gb mg s.heap → s.heap.NoLimit → s.heap.get? x = some (excO C t0) → K.lookup x = none → A.depth < recursionLimit → A.units + 60 < cLine →
    (∀ b o, h0.get? b = some o → s.heap.get? b = some o) → (∀ h' tk dx t1, InitEnd s.heap h' x C dx t1 m → R (.ok (.ret .none)) { s with heap := h', toks := tk }) → codeAny (model prog w) A (.call (.ref fI) ⟨.ref x :: rest, []⟩) R s
/-- a made exception -/
structure OwnMade (h h' : Heap) (e C d : Addr) (m : Str → Option Value) : Prop where
  keep : ∀ b o, h.get? b = some o → h'.get? b = some o
  new : h.objs.size ≤ e
  obj : ∃ oe vs, h'.get? e = some oe ∧ oe.cls = .ref C ∧ oe.dict = some d ∧ oe.data = .fields vs ∧ vs[1]? = some .none ∧ vs[2]? = some .none
  dbig : h.objs.size ≤ d
  dne : d ≠ e
  ns : h'.Ns1 d m
section
variable {prog : Program} {w : World} {A : Around} {R : Result → Shared → Prop} {s : Shared} {K : Frag} {C fI cc cda : Addr} {qual : Str} {params : Arguments} {body : List Stmt} {scope : Scope} {mg : Str → Option Value}
theorem sx_made (T : SxC prog K C fI cc cda qual params body scope) {rest : List Value} {m : Str → Option Value} (I : InitOk prog w K mg C fI rest m s.heap) (X : K.In s.heap) (G : Gb mg s.heap) (hlim : s.heap.NoLimit) (hl : rest.length ≤ sizeLine)
    (hr1 : (A.under (.builtin "type.__call__" ⟨.ref C :: rest, []⟩)).depth < recursionLimit) (hr2 : (A.under (.builtin "type.__call__" ⟨.ref C :: rest, []⟩)).units + 60 < cLine)
    (hq : ∀ h' tk e d, OwnMade s.heap h' e C d m → R (.ok (.ret (.ref e))) { s with heap := h', toks := tk }) :
    codeAny (model prog w) A (.call (.ref C) ⟨rest, []⟩) R s := by
  obtain ⟨nm, q, N, bs, bm, sn, sub, ab, col, dd, k0, k1, k2, k3, k5, hC, hbm⟩ := T.cls
  obtain ⟨hp, g, dr, tk, os⟩ := s
  have k : ∀ b o, hp.get? b = some o → ((hp.push (kdv_tup rest)).push (excO C hp.objs.size)).get? b = some o := fun b o e => Heap.get?_push_of_some _ (Heap.get?_push_of_some _ e)
  have hget : ((hp.push (kdv_tup rest)).push (excO C hp.objs.size)).get? (hp.objs.size + 1) = some (excO C hp.objs.size) := by heap_get
  have hnx : K.lookup (hp.objs.size + 1) = none := by
    cases e : K.lookup (hp.objs.size + 1) with
    | none => rfl
    | some o =>
      have z : hp.get? (hp.objs.size + 1) = some o := X _ _ e
      exact absurd (Nat.lt_of_succ_lt (Heap.lt_size z)) (Nat.lt_irrefl _)
  refine call_own F.excBase_ValueError (fun X => refsVE_contains X bm hbm) (X _ _ hC) (looks_findIn X T.iC) (fun self => bind_fn X self T.tC) hl ?_
  refine I _ _ ⟨(hp.push (kdv_tup rest)).push (excO C hp.objs.size), g, dr, tk, os⟩ _ _ (X.keeps k) (G.keeps k) (hlim.keeps k) hget hnx hr1 hr2 k fun h' tk' dx t1 ⟨k', hx, dn, dne, hns⟩ => ?_
  have old : ∀ b o, hp.get? b = some o → h'.get? b = some o := fun b o e => k' b o (Nat.ne_of_lt (Nat.lt_succ_of_lt (Heap.lt_size e))) (k b o e)
  have z : hp.objs.size + 1 + 1 ≤ dx := by
    first
      | (simpa only [Heap.size_push] using dn)
      | exact dn
      | (have q := dn; rw [Heap.size_push, Heap.size_push] at q; exact q)
  exact ⟨rfl, hq h' tk' (hp.objs.size + 1) dx ⟨old, Nat.le_succ _, ⟨_, _, hx, rfl, rfl, rfl, rfl, rfl⟩, Nat.le_trans (Nat.le_trans (Nat.le_succ _) (Nat.le_succ _)) z, dne, hns⟩⟩
end
end Sx
namespace L2
open PySem PySem.Spec PyProof.Rows Sx
theorem Inv.gb {X : Cx} {pins : List (Addr × Obj)} {σ : St} {H : Hp} {s : Shared} (I : Inv X pins σ H s) : Gb X.mg s.heap := by
  obtain ⟨mb, hb, e⟩ := I.ok.mod.blt
  exact ⟨I.ok.mod.glob.keeps I.bk, mb, hb.keeps I.bk, e⟩
/-- C(..) may be made of such arguments, and then has these fields -/
def MkOk (X : Cx) (C fI : Addr) (P : List V → Hp → Prop) (flds : List V → List (Str × V)) : Prop :=
  ∀ (pins : List (Addr × Obj)) (σ : St) (H : Hp) (s : Shared) (vs : List V) (us : List Value), Inv X pins σ H s → Vals vs us → P vs H → ∃ m, InitOk X.prog X.w X.K X.mg C fI us m s.heap ∧ ∀ f, RelO ((flds vs).lookup f) (m f)
def tMkSx (C : Addr) (P : List V → Hp → Prop) (flds : List V → List (Str × V)) (ta : TA) : St → Hp → XK → Prop := fun σ H Q => ta σ H fun vs H1 => P vs H1 ∧ vs.length ≤ 1000 ∧ ∀ d, H1 d = none → Q (.ref C) (some d) (upd H1 d (.xd (flds vs)))
section
variable {X : Cx} {C fI cc cda : Addr} {qual : Str} {params : Arguments} {body : List Stmt} {scope : Scope}
theorem pmk_sx {x : Str} {P : List V → Hp → Prop} {flds : List V → List (Str × V)} {e : Expr} {es : List Expr} {ta : TA} {p pos : Pos} {k : Nat} (T : SxC X.prog X.K C fI cc cda qual params body scope) (M : MkOk X C fI P flds) (hr : Room (k + 1) X.A) (ha : PA X (e :: es) ta)
    (hm : X.mg x = some (.ref C)) (hg : Gl X x := by rfl) (hdb : (x == ("__debug__" : Str)) = false := by decide)
    (he : starEach (e :: es) X.env = (false, eval e X.env) :: starEach es X.env := by rfl) (hpl : (backTo pos (starEach es X.env)).any (·.1) = false := by rfl) :
    L2N.PMk X (.Call (.Name x p) (e :: es) [] pos) (tMkSx C P flds ta) := by
  intro pins s σ H Q I h
  refine wpAny_Call_Name_kw (ld_glob I hg hm ?_ hdb)
  refine PySem.W.callWith_K (h₀ := X.base) I.ok.mod.kin T.kC (thn (ha.run pos pins s σ H _ I h) fun us s1 hh => ?_) he hpl
  obtain ⟨vs, H1, I1, r1, hP, hlen, q1⟩ := hh
  refine ⟨I1.kIn, ?_⟩
  show wpAny _ _ (call (.ref C) us) _ _ _
  have hlim := I1.nolimit
  obtain ⟨m, hI, hrel⟩ := M pins σ H1 s1 vs us I1 r1 hP
  have hus : us.length ≤ sizeLine := by
    rw [← Paired.length r1, sizeLine_eq]
    omega
  obtain ⟨hp, g, dr, tk, os⟩ := s1
  have hm := hr.make C us []
  refine wpAny_call (sx_made T hI I1.kIn I1.gb hlim hus hm.depth (by have := hm.units; omega) fun h' tk' e d M => ?_)
  show L2N.MkP X pins σ Q (.ref e) ⟨h', g, dr, tk', os⟩
  obtain ⟨oe, fv, hoe, hc, hd, hdat, h1, h2⟩ := M.obj
  have hns := M.ns
  obtain ⟨G', g1, g2⟩ := restrict h' fun b => decide (b ≠ e)
  have gk : ∀ b, b ≠ e → G'.get? b = h'.get? b := fun b hb => g1 b (decide_eq_true hb)
  have ge : G'.get? e = none := g2 e (by simp)
  have old : ∀ b o, hp.get? b = some o → G'.get? b = some o := fun b o q => (gk b (Nat.ne_of_lt (Nat.lt_of_lt_of_le (Heap.lt_size q) M.new))).trans (M.keep b o q)
  have ob : ObjOk X.prog X.w (upd H1 d (.xd (flds vs))) G' d (.xd (flds vs)) := ⟨_, hns.at (fun o q => (gk d M.dne).trans q), hrel⟩
  have J : Inv X pins σ (upd H1 d (.xd (flds vs))) ⟨G', g, dr, tk', os⟩ := I1.laid (t' := tk') old M.dbig ob
  refine ⟨e, oe, fv, ⟨G', g, dr, tk', os⟩, _, .ref C, some d, rfl, J, fun b o q => ?_, ge, hoe, ⟨hc, hd, fun vs' e' => by rw [hdat] at e'; cases e'; exact h2⟩, hdat, h1, ?_, rfl, I1.bare, raises_own T.exC T.tyC, q1 d (I1.hok.fresh M.dbig)⟩
  · by_cases hb : b = e
    · have q' : G'.get? b = some o := q
      rw [hb, ge] at q'; cases q'
    · exact (gk b hb).symm.trans q
  · rw [upd_ne (Ne.symm M.dne)]
    exact I1.hok.fresh M.new
end
end L2
namespace Sx
open PySem PySem.W PySem.Calls PyProof.Rows PySem.HandSPX
/-- a value that can stand in an f-string -/
def FmtOk (prog : Program) (w : World) (v : Value) (h0 : Heap) : Prop := ∀ (A : Around) (s' : Shared) (Q' E' : Value → Shared → Prop), A.units + 40 < cLine → (∀ b o, h0.get? b = some o → s'.heap.get? b = some o) →
  (∀ y u tk, y.length ≤ 3000 → Q' (.str y u) { s' with toks := tk }) → wpAny (model prog w) A (formatField v Str.empty) Q' E' s'
/-- a part of an f-string -/
def PartOk (prog : Program) (w : World) (env : Addr → Env) (m : Str → Option Value) (h0 : Heap) (e : Expr) : Prop :=
  ∀ (A : Around) (L : Addr) (s' : Shared) (Q' E' : Value → Shared → Prop), A.units + 40 < cLine → s'.heap.Ns L m → (∀ b o, h0.get? b = some o → s'.heap.get? b = some o) → (∀ y u tk, y.length ≤ 3000 → Q' (.str y u) { s' with toks := tk }) → wpAny (model prog w) A (eval e (env L)) Q' E' s'
section
variable {prog : Program} {w : World} {env : Addr → Env} {m : Str → Option Value} {h0 : Heap}
theorem part_const {z : Str} {j : Nat} {pos : Pos} (hz : z.length ≤ 3000) : PartOk prog w env m h0 (.Constant (.str z) j pos) := by
  intro A L s' Q' E' _ _ _ q
  exact wpAny_Constant_str (q z _ _ hz)
theorem part_fv {x : Str} {v : Value} {pos p2 : Pos} (hv : m x = some v) (hF : FmtOk prog w v h0) (hk : ∀ L, (env L).scope.kind = .function) (hl : ∀ L, (env L).kindOf x = some .local) (hloc : ∀ L, (env L).locals = L) (hd : (x == ("__debug__" : Str)) = false) :
    PartOk prog w env m h0 (.FormattedValue (.Name x p2) (-1) none pos) := by
  intro A L s' Q' E' hu hn hk0 q
  refine wpAny_FormattedValue_plain (ESX.ldL (m := m) (v := v) (by rw [hloc]; exact hn) hv ?_ (hk L) (hl L) hd)
  exact hF A s' Q' E' hu hk0 q
theorem joins_ok {A : Around} {L : Addr} {E' : Value → Shared → Prop} : ∀ (es : List Expr) (acc : Str) (s' : Shared) (R : Str → Shared → Prop), (∀ e ∈ es, PartOk prog w env m h0 e) → A.units + 40 < cLine → s'.heap.Ns L m → (∀ b o, h0.get? b = some o → s'.heap.get? b = some o) →
    acc.length + 3000 * es.length ≤ sizeLine → (∀ out tk, out.length ≤ sizeLine → R out { s' with toks := tk }) → Joins (model prog w) A E' (evalEach es (env L)) acc R s'
  | [], acc, s', R, _, _, _, _, hz, q => by
    have e0 : evalEach [] (env L) = [] := by first | rfl | simp [evalEach]
    rw [e0]
    exact q acc s'.toks (by omega)
  | e :: es, acc, s', R, hp, hu, hn, hk, hz, q => by
    have e0 : evalEach (e :: es) (env L) = eval e (env L) :: evalEach es (env L) := by first | rfl | simp [evalEach]
    rw [e0]
    rw [List.length_cons] at hz
    refine hp e List.mem_cons_self A L s' _ _ hu hn hk fun y u tk hy => ?_
    have hl : (acc ++ y).length = acc.length + y.length := strLen_append _ _
    exact ⟨y, u, rfl, by omega, joins_ok es (acc ++ y) { s' with toks := tk } R (fun e' h' => hp e' (List.mem_cons_of_mem _ h')) hu hn hk (by omega) fun out tk' ho => q out tk' ho⟩
theorem msg_joined {e1 e2 : Expr} {es : List Expr} {pos : Pos} (hp : ∀ e ∈ e1 :: e2 :: es, PartOk prog w env m h0 e) (hz : es.length ≤ 20) : MsgOk prog w env (.JoinedStr (e1 :: e2 :: es) pos) m h0 := by
  intro A L s' Q' E' hu hn hk q
  refine wpAny_JoinedStr (joins_ok (e1 :: e2 :: es) Str.empty s' _ hp hu hn hk ?_ fun out tk ho => ⟨ho, q _ _⟩)
  rw [sizeLine_eq, List.length_cons, List.length_cons]
  show 0 + _ ≤ _
  omega
theorem msg_const {z : Str} {j : Nat} {pos : Pos} : MsgOk prog w env (.Constant (.str z) j pos) m h0 := by
  intro A L s' Q' E' _ _ _ q
  exact wpAny_Constant_str (q _ _)
theorem fmt_none : FmtOk prog w .none h0 := fun A s' Q' E' _ _ q => wpAny_formatField_none (q _ _ _ (by decide +kernel))
theorem fmt_bool {b : Bool} : FmtOk prog w (.bool b) h0 := fun A s' Q' E' _ _ q => wpAny_formatField_bool (q _ _ _ (by cases b <;> decide +kernel))
theorem fmt_int {i : Int} {t : Tok} (hi : i.natAbs.log2 < 1920) : FmtOk prog w (.int i t) h0 := fun A s' Q' E' _ _ q => wpAny_formatField_int hi (q _ _ _ (by
  have e := int_text_length_le (k := 1920) (by decide) hi
  rw [PySem.ofString_length]; omega))
theorem fmt_str {z : Str} {t : Tok} (hz : z.length ≤ 3000) : FmtOk prog w (.str z t) h0 := fun A s' Q' E' _ _ q => wpAny_formatField_str (q _ _ _ hz) (q _ _ _ hz) (by rw [sizeLine_eq]; omega)
theorem fmt_tup {a : Addr} {o : Obj} {items : Array Value} {n : Nat} {ts : List Str} (ha : h0.get? a = some o) (hc : o.cls = .type "tuple") (hd : o.data = .seq items n) (hT : ReprAll prog w items.toList ts) (hsz : (tupleText ts).length ≤ 2000) : FmtOk prog w (.ref a) h0 := fun A s' Q' E' hu hk q =>
  fmt_tuple (by omega) (hk _ _ ha) hc hd hT (by rw [sizeLine_eq]; omega) fun m u tk hm => q _ _ _ (by omega)
end
end Sx
namespace Sx
open PySem PySem.W PySem.Calls PyProof.Rows PySem.HandSPX
section
variable {prog : Program} {w : World} {A : Around} {R : Result → Shared → Prop} {s : Shared} {K : Frag} {C fI cc cda : Addr} {qual : Str} {params : Arguments} {body : List Stmt} {scope : Scope} {mg : Str → Option Value}
/-- __init__(self): super().__init__(msg) -/
theorem sx_init0 (T : SxC prog K C fI cc cda qual params body scope) {x t0 : Addr} {msg : Expr} {p0 p1 p2 p3 p4 : Pos} {ar : Arg}
    (X : K.In s.heap) (G : Gb mg s.heap) (hlim : s.heap.NoLimit) (hx : s.heap.get? x = some (excO C t0)) (hnx : K.lookup x = none) (hroom : A.depth < recursionLimit) (hun : A.units + 60 < cLine)
    (hbody : body = [.Expr (.Call (.Attribute (.Call (.Name "super" p0) [] [] p1) "__init__" p2) [msg] [] p3) p4])
    (hbind : ∀ (kV doc pm : Value) (an : Option Addr) (ct : Value), bindArgs (ksFn "__init__" qual params body scope .none kV doc pm an (.ref cda) ct cc) ⟨[.ref x], []⟩ = pure [(("self" : Str), .ref x)])
    (hp : (params.posonlyargs ++ params.args).head? = some ar) (har : ar.arg = "self")
    (hks : scope.names.lookup ("super" : Str) = some .globalImplicit) (hkc : scope.names.lookup ("__class__" : Str) = some .free) (hka : scope.names.lookup ("self" : Str) = some .local) (hk : scope.kind = .function)
    (hcell : ∀ x ∈ scope.names, x.2 ≠ .cell) (hco : scope.isCoroutine = false) (hgen : scope.isGenerator = false)
    (hmsg : MsgOk prog w (fun L => ksEnv qual scope L fI (.ref cda) cc) msg (fun y => ([(("self" : Str), Value.ref x)] : List (Str × Value)).reverse.lookup y) s.heap)
    (hin : ∀ L, interactive (ksEnv qual scope L fI (.ref cda) cc) = false)
    (he : ∀ L, starEach [msg] (ksEnv qual scope L fI (.ref cda) cc) = [(false, eval msg (ksEnv qual scope L fI (.ref cda) cc))])
    (hsw : ∀ L, swapsWith (.Call (.Attribute (.Call (.Name "super" p0) [] [] p1) "__init__" p2) [msg] [] p3) none p4.line (ksEnv qual scope L fI (.ref cda) cc) = pure false)
    (hev : ∀ L, eval (.Call (.Attribute (.Call (.Name "super" p0) [] [] p1) "__init__" p2) [msg] [] p3) (ksEnv qual scope L fI (.ref cda) cc) = (do
      let ov ← attributeBase (.Call (.Name "super" p0) [] [] p1) "__init__" (ksEnv qual scope L fI (.ref cda) cc) (eval (.Call (.Name "super" p0) [] [] p1) (ksEnv qual scope L fI (.ref cda) cc))
      standAt p2.atName
      let (f, first) ← holding [ov] (getMethod ov "__init__" (pure false))
      callWith p3 f first (backTo p3 (starEach [msg] (ksEnv qual scope L fI (.ref cda) cc))) []))
    (hq : ∀ h' tk t1, (∀ b o, b ≠ x → s.heap.get? b = some o → h'.get? b = some o) → h'.get? x = some (excO C t1) → R (.ok (.ret .none)) { s with heap := h', toks := tk }) :
    codeAny (model prog w) A (.call (.ref fI) ⟨[.ref x], []⟩) R s := by
  obtain ⟨oc, od, osl, kV, doc, pm, an, ct, hfn, hcd⟩ := T.fn
  obtain ⟨cd, hcd1, hcd2, hcd3⟩ := cls_of T
  subst hbody
  refine ks_codeAny_call_defAt (fd := ksFn "__init__" qual params _ scope .none kV doc pm an (.ref cda) ct cc) (binds := [(("self" : Str), .ref x)]) hroom (X _ _ hfn) rfl hlim (codeRec_of X hcd) rfl (BindsTo.of_eq (hbind kV doc pm an ct)) hcell ?_ (fun h0 hns hk0 => ?_) hco hgen hk
  · intro y hy
    rcases List.mem_cons.mp hy with rfl | hy
    · exact hka
    · cases hy
  have mself : (([(("self" : Str), Value.ref x)] : List (Str × Value)).reverse.lookup ("self" : Str)) = some (.ref x) := by
    show ([(("self" : Str), Value.ref x)] : List (Str × Value)).lookup ("self" : Str) = _
    simp [List.lookup]
  have hL : s.heap.objs.size ≠ x := Nat.ne_of_gt (Heap.lt_size hx)
  have X0 : K.In h0 := X.keeps hk0
  refine ks_wpAt_execs_cons (sx_super (s := { s with heap := h0, toks := s.toks + _ }) T (mg := mg) (ar := ar) X0 (G.keeps hk0) hns (by rw [har]; exact mself) (hk0 _ _ hx) hp hks hkc (by rw [har]; exact hka) hk ?_ (fun h1 tk1 t1 k1 e1 => ?_) (hin _) (he _) (hsw _) (hev _))
  · intro s' Q' k' q'
    refine hmsg _ _ _ _ _ ?_ (hns.keeps k') (fun b o e => k' _ _ (hk0 _ _ e)) q'
    show A.units + 3 + 40 < cLine
    omega
  · refine wpAt_of_wpAny ?_
    exact wpAny_execs_nil (hq h1 tk1 t1 (fun b o hb e => k1 b o hb (hk0 b o e)) e1)
/-- __init__(self, f, g): super().__init__(msg); self.f = f; self.g = g -/
theorem sx_init2 (T : SxC prog K C fI cc cda qual params body scope) {x t0 : Addr} {v v2 : Value} {msg : Expr} {f f2 : Str} {p0 p1 p2 p3 p4 q1 q2 q3 q4 u1 u2 u3 u4 : Pos} {ar : Arg}
    (X : K.In s.heap) (G : Gb mg s.heap) (hlim : s.heap.NoLimit) (hx : s.heap.get? x = some (excO C t0)) (hnx : K.lookup x = none) (hroom : A.depth < recursionLimit) (hun : A.units + 60 < cLine)
    (hbody : body = [.Expr (.Call (.Attribute (.Call (.Name "super" p0) [] [] p1) "__init__" p2) [msg] [] p3) p4, .Assign [.Attribute (.Name "self" q1) f q2] (.Name f q3) q4, .Assign [.Attribute (.Name "self" u1) f2 u2] (.Name f2 u3) u4])
    (hbind : ∀ (kV doc pm : Value) (an : Option Addr) (ct : Value), bindArgs (ksFn "__init__" qual params body scope .none kV doc pm an (.ref cda) ct cc) ⟨[.ref x, v, v2], []⟩ = pure [(("self" : Str), .ref x), (f, v), (f2, v2)])
    (hp : (params.posonlyargs ++ params.args).head? = some ar) (har : ar.arg = "self") (hf : f ≠ "self") (hf2 : f2 ≠ "self") (hff : f ≠ f2) (hfd : (f == ("__debug__" : Str)) = false) (hfd2 : (f2 == ("__debug__" : Str)) = false)
    (hks : scope.names.lookup ("super" : Str) = some .globalImplicit) (hkc : scope.names.lookup ("__class__" : Str) = some .free) (hka : scope.names.lookup ("self" : Str) = some .local) (hkf : scope.names.lookup f = some .local) (hkf2 : scope.names.lookup f2 = some .local) (hk : scope.kind = .function)
    (hcell : ∀ x ∈ scope.names, x.2 ≠ .cell) (hco : scope.isCoroutine = false) (hgen : scope.isGenerator = false)
    (hno : findIn K (.ref C) f = some none) (hno2 : findIn K (.ref C) f2 = some none)
    (hmsg : MsgOk prog w (fun L => ksEnv qual scope L fI (.ref cda) cc) msg (fun y => ([(("self" : Str), Value.ref x), (f, v), (f2, v2)] : List (Str × Value)).reverse.lookup y) s.heap)
    (hin : ∀ L, interactive (ksEnv qual scope L fI (.ref cda) cc) = false)
    (he : ∀ L, starEach [msg] (ksEnv qual scope L fI (.ref cda) cc) = [(false, eval msg (ksEnv qual scope L fI (.ref cda) cc))])
    (hsw : ∀ L, swapsWith (.Call (.Attribute (.Call (.Name "super" p0) [] [] p1) "__init__" p2) [msg] [] p3) none p4.line (ksEnv qual scope L fI (.ref cda) cc) = pure false)
    (hsw2 : ∀ L, swapsWith (.Name f q3) (some (.Attribute (.Name "self" q1) f q2)) q4.line (ksEnv qual scope L fI (.ref cda) cc) = pure false)
    (hsw3 : ∀ L, swapsWith (.Name f2 u3) (some (.Attribute (.Name "self" u1) f2 u2)) u4.line (ksEnv qual scope L fI (.ref cda) cc) = pure false)
    (hev : ∀ L, eval (.Call (.Attribute (.Call (.Name "super" p0) [] [] p1) "__init__" p2) [msg] [] p3) (ksEnv qual scope L fI (.ref cda) cc) = (do
      let ov ← attributeBase (.Call (.Name "super" p0) [] [] p1) "__init__" (ksEnv qual scope L fI (.ref cda) cc) (eval (.Call (.Name "super" p0) [] [] p1) (ksEnv qual scope L fI (.ref cda) cc))
      standAt p2.atName
      let (f, first) ← holding [ov] (getMethod ov "__init__" (pure false))
      callWith p3 f first (backTo p3 (starEach [msg] (ksEnv qual scope L fI (.ref cda) cc))) []))
    (hq : ∀ h' tk dx t1, InitEnd s.heap h' x C dx t1 (fun y => if y = f2 then some v2 else if y = f then some v else none) → R (.ok (.ret .none)) { s with heap := h', toks := tk }) :
    codeAny (model prog w) A (.call (.ref fI) ⟨[.ref x, v, v2], []⟩) R s := by
  obtain ⟨oc, od, osl, kV, doc, pm, an, ct, hfn, hcd⟩ := T.fn
  obtain ⟨cd, hcd1, hcd2, hcd3⟩ := cls_of T
  subst hbody
  refine ks_codeAny_call_defAt (fd := ksFn "__init__" qual params _ scope .none kV doc pm an (.ref cda) ct cc) (binds := [(("self" : Str), .ref x), (f, v), (f2, v2)]) hroom (X _ _ hfn) rfl hlim (codeRec_of X hcd) rfl (BindsTo.of_eq (hbind kV doc pm an ct)) hcell ?_ (fun h0 hns hk0 => ?_) hco hgen hk
  · intro y hy
    rcases List.mem_cons.mp hy with rfl | hy
    · exact hka
    · rcases List.mem_cons.mp hy with rfl | hy
      · exact hkf
      · rcases List.mem_cons.mp hy with rfl | hy
        · exact hkf2
        · cases hy
  have mself : (([(("self" : Str), Value.ref x), (f, v), (f2, v2)] : List (Str × Value)).reverse.lookup ("self" : Str)) = some (.ref x) := by
    have e : (("self" : Str) == f) = false := by simpa using (Ne.symm hf)
    have e2 : (("self" : Str) == f2) = false := by simpa using (Ne.symm hf2)
    show ([(f2, v2), (f, v), (("self" : Str), Value.ref x)] : List (Str × Value)).lookup ("self" : Str) = _
    simp [List.lookup, e, e2]
  have mf : (([(("self" : Str), Value.ref x), (f, v), (f2, v2)] : List (Str × Value)).reverse.lookup f) = some v := by
    show ([(f2, v2), (f, v), (("self" : Str), Value.ref x)] : List (Str × Value)).lookup f = _
    have e3 : (f == f2) = false := by simpa using hff
    simp [List.lookup, e3]
  have mf2 : (([(("self" : Str), Value.ref x), (f, v), (f2, v2)] : List (Str × Value)).reverse.lookup f2) = some v2 := by
    show ([(f2, v2), (f, v), (("self" : Str), Value.ref x)] : List (Str × Value)).lookup f2 = _
    simp [List.lookup]
  have hL : s.heap.objs.size ≠ x := Nat.ne_of_gt (Heap.lt_size hx)
  have X0 : K.In h0 := X.keeps hk0
  refine ks_wpAt_execs_cons (sx_super (s := { s with heap := h0, toks := s.toks + _ }) T (mg := mg) (ar := ar) X0 (G.keeps hk0) hns (by rw [har]; exact mself) (hk0 _ _ hx) hp hks hkc (by rw [har]; exact hka) hk ?_ (fun h1 tk1 t1 k1 e1 => ?_) (hin _) (he _) (hsw _) (hev _))
  · intro s' Q' k' q'
    refine hmsg _ _ _ _ _ ?_ (hns.keeps k') (fun b o e => k' _ _ (hk0 _ _ e)) q'
    show A.units + 3 + 40 < cLine
    omega
  · refine wpAt_of_wpAny ?_
    have hn1 : h1.Ns s.heap.objs.size (fun y => ([(("self" : Str), Value.ref x), (f, v), (f2, v2)] : List (Str × Value)).reverse.lookup y) := hns.at fun o e => k1 _ _ hL e
    refine wpAny_execs_cons (plainObj_wpAny_Assign_Attribute ?_ (hsw2 _))
    refine ESX.ldL (v := v) hn1 mf (ESX.ldL (v := .ref x) hn1 mself ?_ hk hka (by decide)) hk hkf hfd
    have X1 : K.In h1 := kept_but X0 hnx k1
    refine set_plain X1 (ox := excO C t1) (od := none) ⟨e1, rfl, rfl, trivial⟩ T.sa ?_
    refine exc_osa X1 e1 hcd1 hcd2 hcd3 hno (fun h3 tk3 dx k3 dn dne hx3 hn3 => ?_)
    show wpAny _ _ (execs _ _) _ _ _
    have z0 : s.heap.objs.size < h0.objs.size := hns.lt
    have z1 : s.heap.objs.size < h1.objs.size := hn1.lt
    have hn3' : h3.Ns s.heap.objs.size (fun y => ([(("self" : Str), Value.ref x), (f, v), (f2, v2)] : List (Str × Value)).reverse.lookup y) := hn1.at fun o e => k3 _ _ hL e
    have X3 : K.In h3 := kept_but X1 hnx k3
    refine wpAny_execs_cons (plainObj_wpAny_Assign_Attribute ?_ (hsw3 _))
    refine ESX.ldL (v := v2) hn3' mf2 (ESX.ldL (v := .ref x) hn3' mself ?_ hk hka (by decide)) hk hkf2 hfd2
    obtain ⟨oD, _, _, hoD, _, _⟩ := hn3.count (Within.cons f v Within.nil)
    refine set_plain X3 (ox := { cls := .ref C, dict := some dx, data := .fields #[.ref t1, .none, .none, .none, .bool false, .none] }) (od := some oD) ⟨hx3, rfl, rfl, hoD⟩ T.sa ?_
    refine OEX.osa_old X3 hx3 hn3 (Within.cons f v Within.nil) (by show 1 ≤ 1000; decide) hcd1 hcd2 hcd3 hno2 (fun h4 tk4 k4 hn4 => ?_)
    show wpAny _ _ (execs _ _) _ _ _
    have hdx : ∀ {b : Addr} {o : Obj}, s.heap.get? b = some o → b ≠ dx := fun {b o} e z => by
      have y := Heap.lt_size e
      rw [z] at y
      exact absurd (Nat.lt_trans (Nat.lt_of_lt_of_le z1 dn) y) (Nat.lt_irrefl _)
    exact wpAny_execs_nil (hq h4 tk4 dx t1 ⟨fun b o hb e => k4 b o (hdx e) (k3 b o hb (k1 b o hb (hk0 b o e))), k4 _ _ (Ne.symm dne) hx3, Nat.le_of_lt (Nat.lt_of_lt_of_le z1 dn), dne, hn4⟩)
end
end Sx
namespace Sx
open PySem PySem.W PySem.Calls PyProof.Rows PySem.HandSPX
/-- __init__ of a fresh exception without fields -/
def InitOk0 (prog : Program) (w : World) (K : Frag) (mg : Str → Option Value) (C fI : Addr) : Prop :=
  ∀ (A : Around) (R : Result → Shared → Prop) (s : Shared) (x t0 : Addr), K.In s.heap → Gb mg s.heap → s.heap.NoLimit → s.heap.get? x = some (excO C t0) → K.lookup x = none → A.depth < recursionLimit → A.units + 60 < cLine →
    (∀ h' tk t1, (∀ b o, b ≠ x → s.heap.get? b = some o → h'.get? b = some o) → h'.get? x = some (excO C t1) → R (.ok (.ret .none)) { s with heap := h', toks := tk }) → codeAny (model prog w) A (.call (.ref fI) ⟨[.ref x], []⟩) R s
/-- a made exception without a dict -/
structure OwnMade0 (h h' : Heap) (e C : Addr) : Prop where
  keep : ∀ b o, h.get? b = some o → h'.get? b = some o
  new : h.objs.size ≤ e
  obj : ∃ oe vs, h'.get? e = some oe ∧ oe.cls = .ref C ∧ oe.dict = none ∧ oe.data = .fields vs ∧ vs[1]? = some .none ∧ vs[2]? = some .none
section
variable {prog : Program} {w : World} {A : Around} {R : Result → Shared → Prop} {s : Shared} {K : Frag} {C fI cc cda : Addr} {qual : Str} {params : Arguments} {body : List Stmt} {scope : Scope} {mg : Str → Option Value}
theorem sx_made0 (T : SxC prog K C fI cc cda qual params body scope) (I : InitOk0 prog w K mg C fI) (X : K.In s.heap) (G : Gb mg s.heap) (hlim : s.heap.NoLimit)
    (hr1 : (A.under (.builtin "type.__call__" ⟨[.ref C], []⟩)).depth < recursionLimit) (hr2 : (A.under (.builtin "type.__call__" ⟨[.ref C], []⟩)).units + 60 < cLine)
    (hq : ∀ h' tk e, OwnMade0 s.heap h' e C → R (.ok (.ret (.ref e))) { s with heap := h', toks := tk }) :
    codeAny (model prog w) A (.call (.ref C) ⟨[], []⟩) R s := by
  obtain ⟨nm, q, N, bs, bm, sn, sub, ab, col, dd, k0, k1, k2, k3, k5, hC, hbm⟩ := T.cls
  obtain ⟨hp, g, dr, tk, os⟩ := s
  have k : ∀ b o, hp.get? b = some o → ((hp.push (kdv_tup [])).push (excO C hp.objs.size)).get? b = some o := fun b o e => Heap.get?_push_of_some _ (Heap.get?_push_of_some _ e)
  have hget : ((hp.push (kdv_tup [])).push (excO C hp.objs.size)).get? (hp.objs.size + 1) = some (excO C hp.objs.size) := by heap_get
  have hnx : K.lookup (hp.objs.size + 1) = none := by
    cases e : K.lookup (hp.objs.size + 1) with
    | none => rfl
    | some o =>
      have z : hp.get? (hp.objs.size + 1) = some o := X _ _ e
      exact absurd (Nat.lt_of_succ_lt (Heap.lt_size z)) (Nat.lt_irrefl _)
  refine call_own F.excBase_ValueError (fun X => refsVE_contains X bm hbm) (X _ _ hC) (looks_findIn X T.iC) (fun self => bind_fn X self T.tC) (Nat.zero_le _) ?_
  refine I _ _ ⟨(hp.push (kdv_tup [])).push (excO C hp.objs.size), g, dr, tk, os⟩ _ _ (X.keeps k) (G.keeps k) (hlim.keeps k) hget hnx hr1 hr2 fun h' tk' t1 k' hx => ?_
  have old : ∀ b o, hp.get? b = some o → h'.get? b = some o := fun b o e => k' b o (Nat.ne_of_lt (Nat.lt_succ_of_lt (Heap.lt_size e))) (k b o e)
  exact ⟨rfl, hq h' tk' (hp.objs.size + 1) ⟨old, Nat.le_succ _, ⟨_, _, hx, rfl, rfl, rfl, rfl, rfl⟩⟩⟩
end
end Sx
namespace L2
open PySem PySem.Spec PyProof.Rows Sx
section
variable {X : Cx} {C fI cc cda : Addr} {qual : Str} {params : Arguments} {body : List Stmt} {scope : Scope}
theorem pmk_sx0 {x : Str} {p pos : Pos} {k : Nat} (T : SxC X.prog X.K C fI cc cda qual params body scope) (M : InitOk0 X.prog X.w X.K X.mg C fI) (hr : Room (k + 1) X.A)
    (hm : X.mg x = some (.ref C)) (hg : Gl X x := by rfl) (hdb : (x == ("__debug__" : Str)) = false := by decide) :
    L2N.PMk X (.Call (.Name x p) [] [] pos) (fun _ H Q => Q (.ref C) none H) := by
  intro pins s σ H Q I h
  refine wpAny_Call_Name_kw (ld_glob I hg hm ?_ hdb)
  refine PySem.W.callWith_K0 I.kIn T.kC ?_
  have hlim := I.nolimit
  obtain ⟨hp, g, dr, tk, os⟩ := s
  have hm := hr.make C [] []
  refine wpAny_call (sx_made0 T M I.kIn I.gb hlim hm.depth (by have := hm.units; omega) fun h' tk' e M => ?_)
  show L2N.MkP X pins σ Q (.ref e) ⟨h', g, dr, tk', os⟩
  obtain ⟨oe, fv, hoe, hc, hd, hdat, h1, h2⟩ := M.obj
  refine ⟨e, oe, fv, ⟨hp, g, dr, tk, os⟩, _, .ref C, none, rfl, I, M.keep, ?_, hoe, ⟨hc, hd, fun vs' e' => by rw [hdat] at e'; cases e'; exact h2⟩, hdat, h1, I.hok.fresh M.new, rfl, I.bare, raises_own T.exC T.tyC, h⟩
  cases q : (⟨hp, g, dr, tk, os⟩ : Shared).heap.get? e with
  | none => rfl
  | some o => exact absurd (Heap.lt_size q) (Nat.not_lt.mpr M.new)
end
end L2
namespace L2
open PySem PySem.Spec PyProof.Rows Sx
/-- a small value that may stand in a tuple in an f-string -/
def SmV : V → Prop
  | .non => True
  | .bl _ => True
  | .int i => i.natAbs.log2 < 300
  | .str z => (reprText z).length ≤ 300
  | _ => False
/-- a value that may stand in an f-string -/
def FmV (K : PySem.W.Frag) (H : Hp) : V → Prop
  | .non => True
  | .bl _ => True
  | .int i => i.natAbs.log2 < 1920
  | .str z => z.length ≤ 3000
  | .ref a => ∃ xs, SqT K H a xs ∧ xs.length ≤ 4 ∧ ∀ x ∈ xs, SmV x
  | _ => False
theorem repr_sm {prog : Program} {w : World} : ∀ {xs : List V} {us : List Value}, Vals xs us → (∀ x ∈ xs, SmV x) → ∃ ts, ReprAll prog w us ts ∧ piled ts ≤ 304 * xs.length
  | [], _, r, _ => by
    cases r
    exact ⟨[], .nil, Nat.zero_le _⟩
  | x :: xs, _, r, h => by
    cases r with
    | @cons _ u _ us r1 r2 =>
      obtain ⟨ts, h1, h2⟩ := repr_sm (prog := prog) (w := w) r2 fun y hy => h y (List.mem_cons_of_mem _ hy)
      have hx := h x List.mem_cons_self
      have one : ∃ t : Str, ReprIs prog w u t ∧ t.length ≤ 302 := by
        cases x with
        | non =>
          cases r1
          exact ⟨_, .none, by decide +kernel⟩
        | bl b =>
          cases r1
          exact ⟨_, .bool b, by cases b <;> decide +kernel⟩
        | int i =>
          obtain ⟨t, rfl⟩ := r1
          have hi : i.natAbs.log2 < 300 := hx
          have e := int_text_length_le (k := 300) (by decide) hi
          exact ⟨_, .int t (by omega), by rw [PySem.ofString_length]; omega⟩
        | str z =>
          obtain ⟨t, rfl⟩ := r1
          have hz : (reprText z).length ≤ 300 := hx
          exact ⟨_, .str z t (by rw [sizeLine_eq]; omega), by omega⟩
        | _ => exact False.elim hx
      obtain ⟨t, e1, e2⟩ := one
      refine ⟨t :: ts, .cons e1 h1, ?_⟩
      rw [piled_cons, List.length_cons]
      omega
theorem fmt_of {X : Cx} {pins : List (Addr × Obj)} {σ : St} {H : Hp} {s : Shared} {v : V} {u : Value} (I : Inv X pins σ H s) (r : RelV v u) (h : FmV X.K H v) : FmtOk X.prog X.w u s.heap := by
  cases v with
  | non =>
    cases r
    exact fmt_none
  | bl b =>
    cases r
    exact fmt_bool
  | int i =>
    obtain ⟨t, rfl⟩ := r
    exact fmt_int h
  | str z =>
    obtain ⟨t, rfl⟩ := r
    exact fmt_str h
  | ref a =>
    obtain rfl : u = Value.ref a := r
    obtain ⟨xs, hS, hl, hx⟩ := h
    obtain ⟨its, rv, ⟨o, ho, hcl, n, hd⟩, _⟩ := I.tuple hS
    obtain ⟨ts, h1, h2⟩ := repr_sm (prog := X.prog) (w := X.w) rv hx
    have h3 := fmt_text ts
    exact fmt_tup ho hcl hd h1 (by omega)
  | _ => exact False.elim h
/-- the fields by their names -/
def fldsN (ns : List Str) : List V → List (Str × V) := fun vs => ns.zip vs
def PFm (K : PySem.W.Frag) (n : Nat) : List V → Hp → Prop := fun vs H => vs.length = n ∧ ∀ v ∈ vs, FmV K H v
section
variable {X : Cx} {C fI cc cda : Addr} {qual : Str} {st : Stmt}
/-- the text's own conditions, all by rfl or decide -/
structure TxtC (st : Stmt) (qual : Str) (fI cc cda : Addr) (names : List Str) : Prop where
  hp : ∃ ar, ((defArgs st).posonlyargs ++ (defArgs st).args).head? = some ar ∧ ar.arg = "self"
  hks : (defScope st).names.lookup ("super" : Str) = some .globalImplicit
  hkc : (defScope st).names.lookup ("__class__" : Str) = some .free
  hka : (defScope st).names.lookup ("self" : Str) = some .local
  hkf : ∀ f ∈ names, (defScope st).names.lookup f = some .local ∧ f ≠ "self" ∧ (f == ("__debug__" : Str)) = false
  hk : (defScope st).kind = .function
  hcell : ∀ x ∈ (defScope st).names, x.2 ≠ .cell
  hco : (defScope st).isCoroutine = false
  hgen : (defScope st).isGenerator = false
theorem mkOk1 {f : Str} {msg : Expr} {p0 p1 p2 p3 p4 q1 q2 q3 q4 : Pos} (T : SxC X.prog X.K C fI cc cda qual (defArgs st) (defBody st) (defScope st)) (Y : TxtC st qual fI cc cda [f]) (hno : PySem.W.findIn X.K (.ref C) f = some none)
    (hbody : defBody st = [.Expr (.Call (.Attribute (.Call (.Name "super" p0) [] [] p1) "__init__" p2) [msg] [] p3) p4, .Assign [.Attribute (.Name "self" q1) f q2] (.Name f q3) q4])
    (hbind : ∀ (kV doc pm : Value) (an : Option Addr) (ct : Value) (x v : Value), bindArgs (PySem.W.ksFn "__init__" qual (defArgs st) (defBody st) (defScope st) .none kV doc pm an (.ref cda) ct cc) ⟨[x, v], []⟩ = pure [(("self" : Str), x), (f, v)])
    (hmsg : ∀ (m : Str → Option Value) (v : Value) (h0 : Heap), m f = some v → FmtOk X.prog X.w v h0 → MsgOk X.prog X.w (fun L => PySem.W.ksEnv qual (defScope st) L fI (.ref cda) cc) msg m h0)
    (he : ∀ L, starEach [msg] (PySem.W.ksEnv qual (defScope st) L fI (.ref cda) cc) = [(false, eval msg (PySem.W.ksEnv qual (defScope st) L fI (.ref cda) cc))])
    (hsw : ∀ L, swapsWith (.Call (.Attribute (.Call (.Name "super" p0) [] [] p1) "__init__" p2) [msg] [] p3) none p4.line (PySem.W.ksEnv qual (defScope st) L fI (.ref cda) cc) = pure false := by intro _; rfl)
    (hsw2 : ∀ L, swapsWith (.Name f q3) (some (.Attribute (.Name "self" q1) f q2)) q4.line (PySem.W.ksEnv qual (defScope st) L fI (.ref cda) cc) = pure false := by intro _; rfl)
    (hev : ∀ L, eval (.Call (.Attribute (.Call (.Name "super" p0) [] [] p1) "__init__" p2) [msg] [] p3) (PySem.W.ksEnv qual (defScope st) L fI (.ref cda) cc) = (do
      let ov ← attributeBase (.Call (.Name "super" p0) [] [] p1) "__init__" (PySem.W.ksEnv qual (defScope st) L fI (.ref cda) cc) (eval (.Call (.Name "super" p0) [] [] p1) (PySem.W.ksEnv qual (defScope st) L fI (.ref cda) cc))
      standAt p2.atName
      let (f, first) ← holding [ov] (getMethod ov "__init__" (pure false))
      callWith p3 f first (backTo p3 (starEach [msg] (PySem.W.ksEnv qual (defScope st) L fI (.ref cda) cc))) []) := by intro _; rfl) :
    MkOk X C fI (PFm X.K 1) (fldsN [f]) := by
  intro pins σ H s vs us I r hP
  obtain ⟨h1, h2⟩ := hP
  obtain ⟨v, rfl⟩ : ∃ v, vs = [v] := by
    match vs, h1 with
    | [v], _ => exact ⟨v, rfl⟩
  cases r with
  | @cons _ u _ us r1 r2 =>
    cases r2
    have hF : FmtOk X.prog X.w u s.heap := fmt_of I r1 (h2 v List.mem_cons_self)
    obtain ⟨ar, hp, har⟩ := Y.hp
    obtain ⟨hkf, hfs, hfd⟩ := Y.hkf f List.mem_cons_self
    refine ⟨fun y => if y = f then some u else none, ?_, fun g => ?_⟩
    · intro A R s' x t0 XK G hlim hx hnx hdp hun hk0 hq
      have hms : (([(("self" : Str), Value.ref x), (f, u)] : List (Str × Value)).reverse.lookup f) = some u := by
        show ([(f, u), (("self" : Str), Value.ref x)] : List (Str × Value)).lookup f = _
        simp [List.lookup]
      refine sx_init1 T XK G hlim hx hnx hdp hun hbody (fun kV doc pm an ct => hbind kV doc pm an ct _ _) hp har hfs hfd Y.hks Y.hkc Y.hka hkf Y.hk Y.hcell Y.hco Y.hgen hno ?_ (fun L => by simp [interactive, Y.hk]) he hsw hsw2 hev hq
      exact hmsg _ u s'.heap hms fun A s2 Q' E' hu hk2 q => hF A s2 Q' E' hu (fun b o e => hk2 b o (hk0 b o e)) q
    · by_cases hg : g = f
      · subst hg
        simp only [if_true]
        have q : List.lookup g (fldsN [g] [v]) = some v := by simp [fldsN, List.lookup]
        rw [q]
        exact r1
      · simp only [if_neg hg]
        have e : (g == f) = false := by simpa using hg
        have q : List.lookup g (fldsN [f] [v]) = none := by simp [fldsN, List.lookup, e]
        rw [q]
        trivial
end
end L2
namespace L2
open PySem PySem.Spec PyProof.Rows Sx
section
variable {X : Cx} {C fI cc cda : Addr} {qual : Str} {st : Stmt}
theorem mkOk0 {msg : Expr} {p0 p1 p2 p3 p4 : Pos} (T : SxC X.prog X.K C fI cc cda qual (defArgs st) (defBody st) (defScope st)) (Y : TxtC st qual fI cc cda [])
    (hbody : defBody st = [.Expr (.Call (.Attribute (.Call (.Name "super" p0) [] [] p1) "__init__" p2) [msg] [] p3) p4])
    (hbind : ∀ (kV doc pm : Value) (an : Option Addr) (ct : Value) (x : Value), bindArgs (PySem.W.ksFn "__init__" qual (defArgs st) (defBody st) (defScope st) .none kV doc pm an (.ref cda) ct cc) ⟨[x], []⟩ = pure [(("self" : Str), x)])
    (hmsg : ∀ (m : Str → Option Value) (h0 : Heap), MsgOk X.prog X.w (fun L => PySem.W.ksEnv qual (defScope st) L fI (.ref cda) cc) msg m h0)
    (he : ∀ L, starEach [msg] (PySem.W.ksEnv qual (defScope st) L fI (.ref cda) cc) = [(false, eval msg (PySem.W.ksEnv qual (defScope st) L fI (.ref cda) cc))])
    (hsw : ∀ L, swapsWith (.Call (.Attribute (.Call (.Name "super" p0) [] [] p1) "__init__" p2) [msg] [] p3) none p4.line (PySem.W.ksEnv qual (defScope st) L fI (.ref cda) cc) = pure false := by intro _; rfl)
    (hev : ∀ L, eval (.Call (.Attribute (.Call (.Name "super" p0) [] [] p1) "__init__" p2) [msg] [] p3) (PySem.W.ksEnv qual (defScope st) L fI (.ref cda) cc) = (do
      let ov ← attributeBase (.Call (.Name "super" p0) [] [] p1) "__init__" (PySem.W.ksEnv qual (defScope st) L fI (.ref cda) cc) (eval (.Call (.Name "super" p0) [] [] p1) (PySem.W.ksEnv qual (defScope st) L fI (.ref cda) cc))
      standAt p2.atName
      let (f, first) ← holding [ov] (getMethod ov "__init__" (pure false))
      callWith p3 f first (backTo p3 (starEach [msg] (PySem.W.ksEnv qual (defScope st) L fI (.ref cda) cc))) []) := by intro _; rfl) :
    InitOk0 X.prog X.w X.K X.mg C fI := by
  intro A R s' x t0 XK G hlim hx hnx hdp hun hq
  obtain ⟨ar, hp, har⟩ := Y.hp
  exact sx_init0 T XK G hlim hx hnx hdp hun hbody (fun kV doc pm an ct => hbind kV doc pm an ct _) hp har Y.hks Y.hkc Y.hka Y.hk Y.hcell Y.hco Y.hgen (hmsg _ _) (fun L => by simp [interactive, Y.hk]) he hsw hev hq
theorem mkOk2 {f f2 : Str} {msg : Expr} {p0 p1 p2 p3 p4 q1 q2 q3 q4 u1 u2 u3 u4 : Pos} (T : SxC X.prog X.K C fI cc cda qual (defArgs st) (defBody st) (defScope st)) (Y : TxtC st qual fI cc cda [f, f2]) (hno : PySem.W.findIn X.K (.ref C) f = some none) (hno2 : PySem.W.findIn X.K (.ref C) f2 = some none) (hff : f ≠ f2)
    (hbody : defBody st = [.Expr (.Call (.Attribute (.Call (.Name "super" p0) [] [] p1) "__init__" p2) [msg] [] p3) p4, .Assign [.Attribute (.Name "self" q1) f q2] (.Name f q3) q4, .Assign [.Attribute (.Name "self" u1) f2 u2] (.Name f2 u3) u4])
    (hbind : ∀ (kV doc pm : Value) (an : Option Addr) (ct : Value) (x v v2 : Value), bindArgs (PySem.W.ksFn "__init__" qual (defArgs st) (defBody st) (defScope st) .none kV doc pm an (.ref cda) ct cc) ⟨[x, v, v2], []⟩ = pure [(("self" : Str), x), (f, v), (f2, v2)])
    (hmsg : ∀ (m : Str → Option Value) (v v2 : Value) (h0 : Heap), m f = some v → m f2 = some v2 → FmtOk X.prog X.w v h0 → FmtOk X.prog X.w v2 h0 → MsgOk X.prog X.w (fun L => PySem.W.ksEnv qual (defScope st) L fI (.ref cda) cc) msg m h0)
    (he : ∀ L, starEach [msg] (PySem.W.ksEnv qual (defScope st) L fI (.ref cda) cc) = [(false, eval msg (PySem.W.ksEnv qual (defScope st) L fI (.ref cda) cc))])
    (hsw : ∀ L, swapsWith (.Call (.Attribute (.Call (.Name "super" p0) [] [] p1) "__init__" p2) [msg] [] p3) none p4.line (PySem.W.ksEnv qual (defScope st) L fI (.ref cda) cc) = pure false := by intro _; rfl)
    (hsw2 : ∀ L, swapsWith (.Name f q3) (some (.Attribute (.Name "self" q1) f q2)) q4.line (PySem.W.ksEnv qual (defScope st) L fI (.ref cda) cc) = pure false := by intro _; rfl)
    (hsw3 : ∀ L, swapsWith (.Name f2 u3) (some (.Attribute (.Name "self" u1) f2 u2)) u4.line (PySem.W.ksEnv qual (defScope st) L fI (.ref cda) cc) = pure false := by intro _; rfl)
    (hev : ∀ L, eval (.Call (.Attribute (.Call (.Name "super" p0) [] [] p1) "__init__" p2) [msg] [] p3) (PySem.W.ksEnv qual (defScope st) L fI (.ref cda) cc) = (do
      let ov ← attributeBase (.Call (.Name "super" p0) [] [] p1) "__init__" (PySem.W.ksEnv qual (defScope st) L fI (.ref cda) cc) (eval (.Call (.Name "super" p0) [] [] p1) (PySem.W.ksEnv qual (defScope st) L fI (.ref cda) cc))
      standAt p2.atName
      let (f, first) ← holding [ov] (getMethod ov "__init__" (pure false))
      callWith p3 f first (backTo p3 (starEach [msg] (PySem.W.ksEnv qual (defScope st) L fI (.ref cda) cc))) []) := by intro _; rfl) :
    MkOk X C fI (PFm X.K 2) (fldsN [f, f2]) := by
  intro pins σ H s vs us I r hP
  obtain ⟨h1, h2⟩ := hP
  obtain ⟨v, v2, rfl⟩ : ∃ v v2, vs = [v, v2] := by
    match vs, h1 with
    | [v, v2], _ => exact ⟨v, v2, rfl⟩
  cases r with
  | @cons _ u _ us r1 r2 =>
    cases r2 with
    | @cons _ u2 _ us r2 r3 =>
      cases r3
      have hF : FmtOk X.prog X.w u s.heap := fmt_of I r1 (h2 v List.mem_cons_self)
      have hF2 : FmtOk X.prog X.w u2 s.heap := fmt_of I r2 (h2 v2 (List.mem_cons_of_mem _ List.mem_cons_self))
      obtain ⟨ar, hp, har⟩ := Y.hp
      obtain ⟨hkf, hfs, hfd⟩ := Y.hkf f List.mem_cons_self
      obtain ⟨hkf2, hfs2, hfd2⟩ := Y.hkf f2 (List.mem_cons_of_mem _ List.mem_cons_self)
      refine ⟨fun y => if y = f2 then some u2 else if y = f then some u else none, ?_, fun g => ?_⟩
      · intro A R s' x t0 XK G hlim hx hnx hdp hun hk0 hq
        have e3 : (f == f2) = false := by simpa using hff
        have hms : (([(("self" : Str), Value.ref x), (f, u), (f2, u2)] : List (Str × Value)).reverse.lookup f) = some u := by
          show ([(f2, u2), (f, u), (("self" : Str), Value.ref x)] : List (Str × Value)).lookup f = _
          simp [List.lookup, e3]
        have hms2 : (([(("self" : Str), Value.ref x), (f, u), (f2, u2)] : List (Str × Value)).reverse.lookup f2) = some u2 := by
          show ([(f2, u2), (f, u), (("self" : Str), Value.ref x)] : List (Str × Value)).lookup f2 = _
          simp [List.lookup]
        refine sx_init2 T XK G hlim hx hnx hdp hun hbody (fun kV doc pm an ct => hbind kV doc pm an ct _ _ _) hp har hfs hfs2 hff hfd hfd2 Y.hks Y.hkc Y.hka hkf hkf2 Y.hk Y.hcell Y.hco Y.hgen hno hno2 ?_ (fun L => by simp [interactive, Y.hk]) he hsw hsw2 hsw3 hev hq
        exact hmsg _ u u2 s'.heap hms hms2 (fun A s2 Q' E' hu hk2 q => hF A s2 Q' E' hu (fun b o e => hk2 b o (hk0 b o e)) q) fun A s2 Q' E' hu hk2 q => hF2 A s2 Q' E' hu (fun b o e => hk2 b o (hk0 b o e)) q
      · by_cases hg2 : g = f2
        · subst hg2
          have e3 : (g == f) = false := by simpa using (Ne.symm hff)
          simp only [if_true]
          have q : List.lookup g (fldsN [f, g] [v, v2]) = some v2 := by simp [fldsN, List.lookup, e3]
          rw [q]
          exact r2
        · simp only [if_neg hg2]
          have e2 : (g == f2) = false := by simpa using hg2
          by_cases hg : g = f
          · subst hg
            simp only [if_true]
            have q : List.lookup g (fldsN [g, f2] [v, v2]) = some v := by simp [fldsN, List.lookup]
            rw [q]
            exact r1
          · simp only [if_neg hg]
            have e : (g == f) = false := by simpa using hg
            have q : List.lookup g (fldsN [f, f2] [v, v2]) = none := by simp [fldsN, List.lookup, e, e2]
            rw [q]
            trivial
end
end L2
namespace My
open PySem PySem.Spec PyProof.Rows Sx L2
structure OneC (P : Program) (K : PySem.W.Frag) (mg : Str → Option Value) (x qual : Str) (st : Stmt) (names : List Str) (C : Addr) : Prop where
  ex : ∃ fI cc cda, SxC P K C fI cc cda qual (defArgs st) (defBody st) (defScope st)
  g : mg x = some (.ref C)
  nf : ∀ f ∈ names, PySem.W.findIn K (.ref C) f = some none
theorem all2 {P : Expr → Prop} {a b : Expr} (h1 : P a) (h2 : P b) : ∀ e ∈ [a, b], P e := fun e he => by
  rcases List.mem_cons.mp he with rfl | he
  · exact h1
  · exact (List.mem_singleton.mp he) ▸ h2
theorem fa1 {P : Str → Prop} {a : Str} (h1 : P a) : ∀ f ∈ [a], P f := fun f hf => (List.mem_singleton.mp hf) ▸ h1
section
variable {X : Cx} {C fI cc cda : Addr}
theorem mk_Bad (T : SxC X.prog X.K C fI cc cda "BadCallers.__init__" (defArgs (inClass (top 2) 0)) (defBody (inClass (top 2) 0)) (defScope (inClass (top 2) 0))) (hno : PySem.W.findIn X.K (.ref C) "part" = some none) : MkOk X C fI (PFm X.K 1) (fldsN ["part"]) :=
  mkOk1 (st := (inClass (top 2) 0)) T ⟨⟨_, rfl, rfl⟩, rfl, rfl, rfl, fa1 ⟨rfl, by decide, by decide⟩, rfl, by decide, rfl, rfl⟩ hno rfl (fun _ _ _ _ _ _ _ => rfl) (fun m v h0 h1 f1 => msg_joined (all2 (part_const (by decide +kernel)) (part_fv h1 f1 (fun _ => rfl) (fun _ => rfl) (fun _ => rfl) (by decide))) (by decide)) (fun _ => rfl)
end
section
variable {X : Cx} {C : Addr} {e : Expr} {es : List Expr} {ta : TA} {p pos : Pos} {k : Nat}
theorem pm_Bad (O : OneC X.prog X.K X.mg "BadCallers" "BadCallers.__init__" (inClass (top 2) 0) ["part"] C) (hr : Room (k + 1) X.A) (ha : PA X (e :: es) ta) (hg : Gl X "BadCallers" := by rfl) (he : starEach (e :: es) X.env = (false, eval e X.env) :: starEach es X.env := by rfl) (hpl : (backTo pos (starEach es X.env)).any (·.1) = false := by rfl) :
    L2N.PMk X (.Call (.Name "BadCallers" p) (e :: es) [] pos) (tMkSx C (PFm X.K 1) (fldsN ["part"]) ta) := by
  obtain ⟨_, _, _, T⟩ := O.ex
  exact pmk_sx T (mk_Bad T (O.nf _ List.mem_cons_self)) hr ha O.g hg (by decide) he hpl
end
theorem pf1 {K : PySem.W.Frag} {one : V} {H : Hp} (h : FmV K H one) : PFm K 1 [one] H := ⟨rfl, fun v hv => (List.mem_singleton.mp hv) ▸ h⟩
section
variable {X : Cx}
def rNotInT (K : PySem.W.Frag) : R2 := fun x y H Q => ∃ d ds, Dp K H x d ∧ Dp K H y (.tuple ds) ∧ SeqAt.shaped d = true ∧ SeqAt.shaped (.tuple ds) = true ∧ Q (.bl (!ds.any fun z => PyData.eqv z d)) H
theorem op_notInT (hu : X.A.units + 65 < cLine) : OpR X (compareOp .NotIn) (rNotInT X.K) := by
  intro pins s σ H x y v u Q I rx ry h
  obtain ⟨d, ds, hd, he, sd, se, q⟩ := h
  obtain ⟨as, r1⟩ := Dp.reads I d x v hd rx
  obtain ⟨bs, r2⟩ := Dp.reads I (.tuple ds) y u he ry
  exact SeqAt.notIn_tuple_reads r2 r1 (SeqAt.canLay_of_shaped se) (SeqAt.canLay_of_shaped sd) (room_in_shaped sd hu) ⟨.bl _, H, I, rfl, q⟩
end
abbrev sInit : Stmt := inClass (top 12) 0
abbrev NI : List Str := ["self", "times", "look", "methods", "fresh"]
def badT : PyData → Bool
  | .none => false
  | .int i => decide (i < 0)
  | _ => true
def lookD : PyData → Bool
  | .str z => decide (z = "equal") || decide (z = "same")
  | _ => false
def isNoD : PyData → Bool
  | .none => true
  | _ => false
/-- which part is wrong first -/
def dueD (dt dl dm df : PyData) : Option Str := if badT dt = true then some ("times" : Str) else if lookD dl = false then some ("look" : Str) else if (!isNoD dm && !partsD dm) = true then some ("methods" : Str) else if isBlD df = false then some ("fresh" : Str) else none
def flds (t l m f : V) : List (Str × V) := [("times", t), ("look", l), ("methods", m), ("fresh", f)]
/-- what is passed -/
structure Given (H : Hp) (t l m f : V) (dt dl dm df : PyData) : Prop where
  t : Vd H t dt
  l : Vd H l dl
  m : Vd H m dm
  f : Vd H f df
  st : SeqAt.shaped dt = true
  sl : SeqAt.shaped dl = true
  sm : SeqAt.shaped dm = true
  sf : SeqAt.shaped df = true
  lm : ∀ ds, dm = .tuple ds → ds.length ≤ 1000
  d4 : SeqAt.shaped (.tuple [dt, dl, dm, df]) = true
theorem Given.up {H H' : Hp} {t l m f : V} {dt dl dm df : PyData} (s : Same H H') (G : Given H t l m f dt dl dm df) : Given H' t l m f dt dl dm df := ⟨G.t.up s, G.l.up s, G.m.up s, G.f.up s, G.st, G.sl, G.sm, G.sf, G.lm, G.d4⟩
def spInit (C R : Addr) : Sp := fun vs H Q E => ∃ (x dx : Addr) (t l m f : V) (dt dl dm df : PyData), vs = [.ref x, t, l, m, f] ∧ H x = some (.ins C dx []) ∧ Given H t l m f dt dl dm df ∧
  (∀ part, dueD dt dl dm df = some part → ∀ H' d, Same H H' → H' d = none → E (.ref R) (some d) (upd H' d (.xd [("part", .str part)]))) ∧
  (dueD dt dl dm df = none → ∀ H', But x H H' → H' x = some (.ins C dx (flds t l m f)) → Q .non H')
/-- what the class says -/
structure TM (K : PySem.W.Frag) (mg : Str → Option Value) (C : Addr) : Prop extends Tw K mg where
  looks : ∃ a, mg "LOOKS" = some (.ref a) ∧ ∀ H, SqT K H a [.str "equal", .str "same"]
  gC : mg "Callers" = some (.ref C)
  cls : Cls K C
  n1 : NoAttr K C "times"
  n2 : NoAttr K C "look"
  n3 : NoAttr K C "methods"
  n4 : NoAttr K C "fresh"
theorem look_eq (d : PyData) : ([PyData.str "equal", .str "same"].any fun z => PyData.eqv z d) = lookD d := by
  cases d with
  | str z =>
    show (((("equal" : Str) == z) || ((("same" : Str) == z) || false))) = (decide (z = "equal") || decide (z = "same"))
    by_cases h1 : z = "equal"
    · subst h1
      decide
    · by_cases h2 : z = "same"
      · subst h2
        decide
      · have e1 : (("equal" : Str) == z) = false := beq_eq_false_iff_ne.mpr fun e => h1 e.symm
        have e2 : (("same" : Str) == z) = false := beq_eq_false_iff_ne.mpr fun e => h2 e.symm
        rw [e1, e2]
        simp [h1, h2]
  | _ => rfl
abbrev kwsC : List (Str × V) := [("times", .non), ("look", .str "equal"), ("methods", .non), ("fresh", .bl false)]
section
variable {P : Program} {w : World} {K : PySem.W.Frag} {mg : Str → Option Value} {base : Heap} {C R : Addr}
theorem scInit : FnScope NI NI (defScope sInit) := ⟨rfl, rfl, rfl, by decide +kernel, rfl, by decide +kernel, by decide +kernel⟩
theorem ok_init {f : Addr} {fd : FuncData} (F : FunD K "__init__" "Callers.__init__" (defArgs sInit) (defBody sInit) (defScope sInit) [] kwsC f fd) (T : TM K mg C) (O : OneC P K mg "BadCallers" "BadCallers.__init__" (inClass (top 2) 0) ["part"] R)
    (cI : Cl P w K mg base CX0 1 "is_integer" spIsInt) (cA : Cl P w K mg base CX0 3 "are_words" spAreWords) : FnOk P w K mg base (L2N.CX P w) 4 f fd NI (spInit C R) := by
  refine F.ok scInit (fun vs H Q E h => ?_) (fun cdv A outer s H vs Q E hr h => ?_)
  · obtain ⟨x, dx, t, l, m, f, dt, dl, dm, df, rfl, _⟩ := h
    rfl
  · obtain ⟨x, dx, t, l, m, f, dt, dl, dm, df, rfl, hx, G, bad, fin⟩ := h
    have nd := scInit.nd
    obtain ⟨la, gl, hl⟩ := T.looks
    obtain ⟨tf, htf, _, _, kf, _⟩ := G.f.ty (K := K)
    refine ⟨_, C8.pss_cut (ps_if (PW.pt (pw_and (pt_cmpR op_notN (pv 1) pe_non (nomark _)) (pw_and1 (pt_not (PW.pt (pw_and (pt_val (pe_cl cI hr pass0 (pa_cons (pv 1) pa_nil))) (pw_and1 (pt_cmpR op_ge (pv 1) pe_int (nomark _))))))))) (pss_one (L2N.ps_raise rfl (L2N.takes_of rfl rfl rfl rfl) (pm_Bad O hr (pa_cons pe_str pa_nil)))) pss_nil)
      (C8.pss_cut (ps_if (pt_cmpR (op_notInT ?hu) (pv 2) (pe_glob rfl gl (v := .ref la) rfl) rfl) (pss_one (L2N.ps_raise rfl (L2N.takes_of rfl rfl rfl rfl) (pm_Bad O hr (pa_cons pe_str pa_nil)))) pss_nil)
      (C8.pss_cut (ps_if (PW.pt (pw_and (pt_cmpR op_notN (pv 3) pe_non (nomark _)) (pw_and1 (pt_not (pt_val (pe_cl cA hr pass0 (pa_cons (pv 3) pa_nil))))))) (pss_one (L2N.ps_raise rfl (L2N.takes_of rfl rfl rfl rfl) (pm_Bad O hr (pa_cons pe_str pa_nil)))) pss_nil)
      (pss_cons (ps_if (pt_not (pt_val (pe_callB call_isi (by rfl) T.isi (by decide +kernel) (pa_cons (pv 4) (pa_cons (pe_bltn rfl T.bool (by decide +kernel) (v := .ty "bool") rfl) pa_nil))))) (pss_one (L2N.ps_raise rfl (L2N.takes_of rfl rfl rfl rfl) (pm_Bad O hr (pa_cons pe_str pa_nil)))) pss_nil)
      (pss_cons (ps_fld (pv 0) (pv 1) rfl) (pss_cons (ps_fld (pv 0) (pv 2) rfl) (pss_cons (ps_fld (pv 0) (pv 3) rfl) (pss_one (ps_fld (pv 0) (pv 4) rfl)))))))), ?_⟩
    case hu =>
      have := hr.un
      show (A.deeper (envOfC "Callers.__init__" (defScope sInit) s.heap.objs.size _ cdv)).units + 65 < cLine
      omega
    have raise_ : ∀ (part : Str) (H1 : Hp), part.length ≤ 3000 → dueD dt dl dm df = some part → Same H H1 → ∀ d, H1 d = none → E (.ref R) (some d) (upd H1 d (.xd [("part", .str part)])) := fun part H1 _ hd s1 d nd' => bad part hd H1 d s1 nd'
    have stores : dueD dt dl dm df = none → ∀ H4, Same H H4 → H4 x = some (.ins C dx []) → ∀ H', (H' = upd (upd (upd (upd H4 x (.ins C dx [("times", t)])) x (.ins C dx [("times", t), ("look", l)])) x (.ins C dx [("times", t), ("look", l), ("methods", m)])) x (.ins C dx (flds t l m f))) → Q .non H' := by
      rintro hd H4 s4 hx4 _ rfl
      refine fin hd _ (fun c o nc e => ?_) upd_same
      rw [upd_ne nc, upd_ne nc, upd_ne nc, upd_ne nc]
      exact s4 _ _ e
    refine ⟨fun σ' H' => badT dt = false ∧ σ' = [some (.ref x), some t, some l, some m, some f] ∧ Same H H', ?_, ?_⟩
    · refine ⟨_, rfl, rfl, _, rfl, ?_⟩
      have hb : badT dt = true → dueD dt dl dm df = some ("times" : Str) := fun e => by unfold dueD; rw [if_pos e]
      have gt := G.t
      cases gt with
      | non => exact ite_neg' (by decide) (ite_neg' (by decide) ⟨rfl, rfl, Same.refl _⟩)
      | int i =>
        refine ite_pos' (by simp) ⟨_, rfl, .int i, .int i, rfl, .int i, _, rfl, ite_pos' rfl ⟨_, rfl, _, _, rfl, rfl, _, rfl, ?_⟩⟩
        by_cases hi : 0 ≤ i
        · refine ite_neg' (by simp [hi]) ⟨?_, rfl, Same.refl _⟩
          unfold badT
          exact decide_eq_false (by omega)
        · refine ite_pos' (by simp [hi]) ?_
          exact ⟨pf1 (by show Str.length _ ≤ 3000; decide), (by show 1 ≤ 1000; decide), fun d nd' => raise_ "times" H (by decide) (hb (by unfold badT; exact decide_eq_true (by omega))) (Same.refl _) d nd'⟩
      | bl b =>
        refine ite_pos' (by simp) ⟨_, rfl, .bl b, .bool b, rfl, .bl b, _, rfl, ite_neg' (show ¬ ((false : Bool) = true) from by decide) (ite_pos' rfl ?_)⟩
        exact ⟨pf1 (by show Str.length _ ≤ 3000; decide), (by show 1 ≤ 1000; decide), fun d nd' => raise_ "times" H (by decide) (hb rfl) (Same.refl _) d nd'⟩
      | str z hz =>
        refine ite_pos' (by simp) ⟨_, rfl, .str z, .str z, rfl, .str z hz, _, rfl, ite_neg' (show ¬ ((false : Bool) = true) from by decide) (ite_pos' rfl ?_)⟩
        exact ⟨pf1 (by show Str.length _ ≤ 3000; decide), (by show 1 ≤ 1000; decide), fun d nd' => raise_ "times" H (by decide) (hb rfl) (Same.refl _) d nd'⟩
      | @lst a xs ds h k =>
        refine ite_pos' (by simp) ⟨_, rfl, .ref a, .list ds, rfl, .lst h k, _, rfl, ite_neg' (show ¬ ((false : Bool) = true) from by decide) (ite_pos' rfl ?_)⟩
        exact ⟨pf1 (by show Str.length _ ≤ 3000; decide), (by show 1 ≤ 1000; decide), fun d nd' => raise_ "times" H (by decide) (hb rfl) (Same.refl _) d nd'⟩
      | @tup a xs ds h k =>
        refine ite_pos' (by simp) ⟨_, rfl, .ref a, .tuple ds, rfl, .tup h k, _, rfl, ite_neg' (show ¬ ((false : Bool) = true) from by decide) (ite_pos' rfl ?_)⟩
        exact ⟨pf1 (by show Str.length _ ≤ 3000; decide), (by show 1 ≤ 1000; decide), fun d nd' => raise_ "times" H (by decide) (hb rfl) (Same.refl _) d nd'⟩
    · rintro _ H1 ⟨ht0, rfl, s1⟩
      refine ⟨fun σ' H' => lookD dl = true ∧ σ' = [some (.ref x), some t, some l, some m, some f] ∧ H1 = H', ?_, ?_⟩
      · refine ⟨_, rfl, dl, [.str "equal", .str "same"], (G.up s1).l.dp, .tup (hl H1) (.cons (.str _) (.cons (.str _) .nil)), G.sl, by decide +kernel, ?_⟩
        rw [look_eq]
        cases hk : lookD dl with
        | true => exact ⟨_, rfl, ite_neg' (by decide) ⟨rfl, rfl, rfl⟩⟩
        | false =>
          refine ⟨_, rfl, ite_pos' rfl ?_⟩
          exact ⟨pf1 (by show Str.length _ ≤ 3000; decide), (by show 1 ≤ 1000; decide), fun d nd' => raise_ "look" H1 (by decide) (by unfold dueD; rw [ht0, hk]; rfl) s1 d nd'⟩
      · rintro _ _ ⟨hk, rfl, rfl⟩
        refine ⟨fun σ' H' => (!isNoD dm && !partsD dm) = false ∧ σ' = [some (.ref x), some t, some l, some m, some f] ∧ Same H H', ?_, ?_⟩
        · refine ⟨_, rfl, rfl, _, rfl, ?_⟩
          have hbm : (!isNoD dm && !partsD dm) = true → dueD dt dl dm df = some ("methods" : Str) := fun e => by unfold dueD; rw [ht0, hk, e]; rfl
          have go : m ≠ .non → isNoD dm = false → ∃ v d, [m] = [v] ∧ Vd H1 v d ∧ (∀ ds, d = .tuple ds → ds.length ≤ 1000) ∧ ∀ H', Same H1 H' → partsD d = partsD dm := fun _ _ => ⟨m, dm, rfl, (G.up s1).m, G.lm, fun _ _ => rfl⟩
          by_cases hm : m = .non
          · have hn : isNoD dm = true := by
              have gm := G.m
              subst hm
              cases gm
              rfl
            refine ite_neg' (by simp [hm]) (ite_neg' (by decide) ⟨by rw [hn]; rfl, rfl, s1⟩)
          · have hn : isNoD dm = false := by
              have gm := G.m
              cases gm with
              | non => exact absurd rfl hm
              | _ => rfl
            refine ite_pos' (by simp [hm]) ⟨_, rfl, m, dm, rfl, (G.up s1).m, G.lm, fun H2 s2 => ⟨_, rfl, ?_⟩⟩
            cases hp : partsD dm with
            | true => exact ite_neg' (by decide) ⟨by rw [hn]; rfl, rfl, s1.trans s2⟩
            | false =>
              refine ite_pos' rfl ?_
              exact ⟨pf1 (by show Str.length _ ≤ 3000; decide), (by show 1 ≤ 1000; decide), fun d nd' => raise_ "methods" H2 (by decide) (hbm (by rw [hn, hp]; rfl)) (s1.trans s2) d nd'⟩
        · rintro _ H2 ⟨hbm, rfl, s2⟩
          obtain ⟨tf2, htf2, _, _, kf2, _⟩ := (G.up s2).f.ty (K := K)
          refine ⟨_, rfl, f, _, tf2, _, _, rfl, .ty "bool", htf2, kf2, _, rfl, ?_⟩
          cases hfb : isBlD df with
          | false =>
            refine ite_pos' rfl ?_
            exact ⟨pf1 (by show Str.length _ ≤ 3000; decide), (by show 1 ≤ 1000; decide), fun d nd' => raise_ "fresh" H2 (by decide) (by unfold dueD; rw [ht0, hk, hbm, hfb]; rfl) s2 d nd'⟩
          | true =>
            refine ite_neg' (by decide) ?_
            have hx2 := s2 _ _ hx
            refine ⟨_, rfl, _, rfl, x, C, dx, _, rfl, hx2, T.cls, T.n1, (by show 0 < 1000; decide), ?_⟩
            refine ⟨_, rfl, _, rfl, x, C, dx, _, rfl, upd_same, T.cls, T.n2, (by show 1 < 1000; decide), ?_⟩
            refine ⟨_, rfl, _, rfl, x, C, dx, _, rfl, upd_same, T.cls, T.n3, (by show 2 < 1000; decide), ?_⟩
            refine ⟨_, rfl, _, rfl, x, C, dx, _, rfl, upd_same, T.cls, T.n4, (by show 3 < 1000; decide), ?_⟩
            exact stores (by unfold dueD; rw [ht0, hk, hbm, hfb]; rfl) H2 s2 hx2 _ rfl
end
end My
namespace My
open PySem PySem.Spec PyProof.Rows Sx L2
section
variable {X : Cx} {CX : CXT} {n : Nat} {C f : Addr} {fd : FuncData} {ps : List Str} {sp : Sp}
/-- == by the class's own __eq__: the other one a text, a tuple or an instance of the same class -/
def rEqO (K : PySem.W.Frag) (C : Addr) (sp : Sp) : R2 := fun x y H Q => ∃ a dx fs, x = .ref a ∧ H a = some (.ins C dx fs) ∧
  ((∃ z, y = .str z) ∨ (∃ b xs, y = .ref b ∧ H b = some (.tup xs)) ∨ (∃ b dy gs, y = .ref b ∧ H b = some (.ins C dy gs))) ∧ sp [x, y] H (fun v H' => ∃ c, v = .bl c ∧ Q v H') (fun _ _ _ => False)
theorem op_eqO (F : FnOk X.prog X.w X.K X.mg X.base CX0 n f fd ps sp) (hs : PySem.W.findIn X.K (.ref C) "__eq__" = some (some (.ref f))) (hf : PySem.W.isFn X.K (.ref f) = true) (hb : Binds X.K fd ps [])
    (n1 : PySem.W.notFirst X.K C (.type "str") = true) (n2 : PySem.W.notFirst X.K C (.type "tuple") = true) (hr : Room n X.A) : OpR X (compareOp .Eq) (rEqO X.K C sp) := by
  intro pins s σ H x y v u Q I rx ry hq
  obtain ⟨a, dx, fs, rfl, ha, hy, hsp⟩ := hq
  cases rx
  obtain ⟨mA, J, _⟩ := ins_get I.hok ha
  obtain ⟨od, J, _⟩ := J.look
  obtain ⟨m, hF⟩ := I.fr
  have e0 : Env0 X.prog X.w X.K X.mg X.base X.A X.stack s H := I.env0
  have hl := F.len _ _ _ _ hsp
  have go : wpAny (model X.prog X.w) X.A (call (.ref f) [.ref a, u]) (PySem.W.CmpBack (EP X pins σ Q)) X.xe s := by
    have r2 : Vals [V.ref a, y] [Value.ref a, u] := .cons rfl (.cons ry .nil)
    refine wpAny_call (codeAny_mono (F.run X.A X.stack s H ⟨[.ref a, u], []⟩ [.ref a, u] [.ref a, y] _ _ hr e0 (by
      have := hb s [.ref a, u] I.kIn (by simpa using hl)
      simpa using this) r2 hsp) fun r s' hq => ?_)
    cases r with
    | error e => exact False.elim hq
    | ok fl =>
      cases fl with
      | ret w =>
        obtain ⟨z, H', I', rz, c, rfl, ex⟩ := I.after hq
        cases rz
        exact ⟨.bl c, H', I', rfl, ex⟩
      | next => exact False.elim hq
      | brk => exact False.elim hq
      | cont => exact False.elim hq
  show wpAny (model X.prog X.w) X.A (richCompare .Eq (.ref a) u) (EP X pins σ Q) X.xe s
  rcases hy with ⟨z, rfl⟩ | ⟨b, xs, rfl, hb'⟩ | ⟨b, dy, gs, rfl, hb'⟩
  · obtain ⟨t, rfl⟩ := ry
    exact PySem.W.cmp_K (op := .Eq) (tb := .type "str") hr.units0 hF I.ok.mod.kin J (PySem.W.Looks.of_pure rfl) n1 hs hf go
  · cases ry
    obtain ⟨_, _, _, o, h1, h2, _⟩ := (show ObjOk X.prog X.w H s.heap b (.tup xs) from I.hok b _ hb')
    exact PySem.W.cmp_K (op := .Eq) (tb := .type "tuple") hr.units0 hF I.ok.mod.kin J (fun A Q E s k q => wpAny_typeOf_ref (k _ _ h1) (by rw [h2]; exact q)) n2 hs hf go
  · cases ry
    obtain ⟨mB, J', _⟩ := ins_get I.hok hb'
    obtain ⟨od', J', _⟩ := J'.look
    exact PySem.W.cmp_K (op := .Eq) (tb := .ref C) hr.units0 hF I.ok.mod.kin J J'.type (by simp [PySem.W.notFirst]) hs hf go
/-- x is True, x is False -/
def rIsBv : R2 := fun x y H Q => ∃ b : Bool, y = .bl b ∧ Q (.bl (decide (x = .bl b))) H
theorem op_isBv : OpR X (compareOp .Is) (fun x y H Q => (∀ a, x ≠ .ref a) ∧ (∀ a, x ≠ .ty a) ∧ rIsBv x y H Q) := by
  intro pins s σ H x y v u Q I rx ry h
  obtain ⟨hr, ht, b, rfl, q⟩ := h
  cases (show u = Value.bool b from ry)
  cases x with
  | bl a =>
    cases (show v = Value.bool a from rx)
    by_cases e : a = b
    · subst e
      exact wpAny_is_self rfl ⟨.bl true, H, I, rfl, by simpa using q⟩
    · exact wpAny_is_other rfl (fun z => e (Value.bool.inj z)) ⟨.bl false, H, I, rfl, by simpa [e] using q⟩
  | non =>
    cases (show v = Value.none from rx)
    exact wpAny_is_other rfl (fun z => nomatch z) ⟨.bl false, H, I, rfl, by simpa using q⟩
  | int i =>
    obtain ⟨t, rfl⟩ := rx
    exact wpAny_is_other rfl (fun z => nomatch z) ⟨.bl false, H, I, rfl, by simpa using q⟩
  | str z =>
    obtain ⟨t, rfl⟩ := rx
    exact wpAny_is_other rfl (fun z => nomatch z) ⟨.bl false, H, I, rfl, by simpa using q⟩
  | byt z =>
    obtain ⟨t, rfl⟩ := rx
    exact wpAny_is_other rfl (fun z => nomatch z) ⟨.bl false, H, I, rfl, by simpa using q⟩
  | flt z =>
    obtain ⟨t, rfl⟩ := rx
    exact wpAny_is_other rfl (fun z => nomatch z) ⟨.bl false, H, I, rfl, by simpa using q⟩
  | ref a => exact absurd rfl (hr a)
  | ty a => exact absurd rfl (ht a)
end
abbrev sEq : Stmt := inClass (top 12) 1
/-- the type of the class's instances -/
structure TC (K : PySem.W.Frag) (mg : Str → Option Value) (C : Addr) : Prop extends TM K mg C where
  ha : PySem.W.findIn K (.ref C) "__class__" = some (some (.builtin "object.__class__"))
  hn : PySem.W.specialIn K (.builtin "object.__class__") "__get__" = some (some (.builtin "getset_descriptor.__get__"))
  htk : PySem.W.takesIn K (.builtin "object.__class__") = some true
  hm : PySem.W.mroIn K C (.type "object") = some true
  cc : PySem.W.kitOne K (.ref C) (.ref C) = some true
  cs : PySem.W.kitOne K (.ref C) (.type "str") = some false
  ts : PySem.W.kitOne K (.type "str") (.ref C) = some false
  tt : PySem.W.kitOne K (.type "tuple") (.ref C) = some false
/-- an instance -/
structure InC (H : Hp) (C a : Addr) (t l m f : V) (dt dl dm df : PyData) : Prop where
  at' : ∃ dx, H a = some (.ins C dx (flds t l m f))
  G : Given H t l m f dt dl dm df
theorem InC.up {H H' : Hp} {C a : Addr} {t l m f : V} {dt dl dm df : PyData} (s : Same H H') (h : InC H C a t l m f dt dl dm df) : InC H' C a t l m f dt dl dm df := ⟨h.at'.imp fun _ e => s _ _ e, h.G.up s⟩
def eq4 (dt dl dm df et el em ef : PyData) : Bool := PyData.eqv dt et && (PyData.eqv dl el && (PyData.eqv dm em && PyData.eqv df ef))
def spEqC (C : Addr) : Sp := fun vs H Q _ => ∃ a t l m f dt dl dm df, InC H C a t l m f dt dl dm df ∧
  ((∃ z, vs = [.ref a, .str z] ∧ Q (.bl false) H) ∨ (∃ b xs, vs = [.ref a, .ref b] ∧ H b = some (.tup xs) ∧ Q (.bl false) H) ∨
   (∃ b t' l' m' f' et el em ef, vs = [.ref a, .ref b] ∧ InC H C b t' l' m' f' et el em ef ∧ Q (.bl (eq4 dt dl dm df et el em ef)) H))
section
variable {P : Program} {w : World} {K : PySem.W.Frag} {mg : Str → Option Value} {base : Heap} {C : Addr}
theorem scEq : FnScope ["self", "other"] ["self", "other"] (defScope sEq) := ⟨rfl, rfl, rfl, by decide +kernel, rfl, by decide +kernel, by decide +kernel⟩
theorem TC.ty (T : TC K mg C) {H : Hp} {a dx : Addr} {fs : List (Str × V)} (h : H a = some (.ins C dx fs)) : TyX K H (.ref a) (.ref C) := .base (.ins h T.cls T.ha T.hn T.htk T.hm)
theorem ok_eq {f : Addr} {fd : FuncData} (F : Fun K "__eq__" "Callers.__eq__" sEq f fd) (T : TC K mg C) : FnOk P w K mg base CX0 1 f fd ["self", "other"] (spEqC C) := by
  refine F.ok scEq (fun vs H Q E h => ?_) (fun cdv A outer s H vs Q E hr h => ?_)
  · obtain ⟨a, t, l, m, f, dt, dl, dm, df, _, ⟨z, rfl, _⟩ | ⟨b, xs, rfl, _⟩ | ⟨b, t', l', m', f', et, el, em, ef, rfl, _⟩⟩ := h <;> rfl
  · obtain ⟨a, t, l, m, f, dt, dl, dm, df, hA, h⟩ := h
    refine ⟨_, pss_one (ps_ret (pe_and (pe_callB call_isi (by rfl) T.isi (by decide +kernel) (pa_cons (pv 1) (pa_cons (pe_glob rfl T.gC (v := .ref C) rfl) pa_nil)))
      (pe_and (pe_cmpR (op_eqD ?hu) (pe_fld (pv 0) rfl) (pe_fld (pv 1) rfl) (nomark _)) (pe_and (pe_cmpR (op_eqD ?hu) (pe_fld (pv 0) rfl) (pe_fld (pv 1) rfl) (nomark _)) (pe_and (pe_cmpR (op_eqD ?hu) (pe_fld (pv 0) rfl) (pe_fld (pv 1) rfl) (nomark _)) (pe_one (pe_cmpR (op_eqD ?hu) (pe_fld (pv 0) rfl) (pe_fld (pv 1) rfl) (nomark _)))))))), ?_⟩
    case hu =>
      have := hr.un
      show (A.deeper (envOfC "Callers.__eq__" (defScope sEq) s.heap.objs.size _ cdv)).units + 64 < cLine
      omega
    rcases h with ⟨z, rfl, q⟩ | ⟨b, xs, rfl, hb, q⟩ | ⟨b, t', l', m', f', et, el, em, ef, rfl, hB, q⟩
    · exact ⟨_, rfl, .str z, _, _, _, _, rfl, .own C, .base (.str z), T.ts, _, rfl, ite_neg' (by decide) q⟩
    · exact ⟨_, rfl, .ref b, _, _, _, _, rfl, .own C, .base (.tup hb), T.tt, _, rfl, ite_neg' (by decide) q⟩
    · obtain ⟨dx, ha⟩ := hA.at'
      obtain ⟨dy, hb⟩ := hB.at'
      have GA := hA.G
      have GB := hB.G
      refine ⟨_, rfl, .ref b, _, _, _, _, rfl, .own C, T.ty hb, T.cc, _, rfl, ite_pos' rfl ?_⟩
      refine ⟨_, rfl, a, C, dx, _, t, rfl, ha, T.cls, T.n1, rfl, _, rfl, b, C, dy, _, t', rfl, hb, T.cls, T.n1, rfl, dt, et, GA.t.dp, GB.t.dp, GA.st, GB.st, _, rfl, ?_⟩
      unfold eq4 at q
      cases h1 : PyData.eqv dt et with
      | false =>
        rw [h1] at q
        exact ite_neg' (by decide) q
      | true =>
        rw [h1, Bool.true_and] at q
        refine ite_pos' rfl ⟨_, rfl, a, C, dx, _, l, rfl, ha, T.cls, T.n2, rfl, _, rfl, b, C, dy, _, l', rfl, hb, T.cls, T.n2, rfl, dl, el, GA.l.dp, GB.l.dp, GA.sl, GB.sl, _, rfl, ?_⟩
        cases h2 : PyData.eqv dl el with
        | false =>
          rw [h2] at q
          exact ite_neg' (by decide) q
        | true =>
          rw [h2, Bool.true_and] at q
          refine ite_pos' rfl ⟨_, rfl, a, C, dx, _, m, rfl, ha, T.cls, T.n3, rfl, _, rfl, b, C, dy, _, m', rfl, hb, T.cls, T.n3, rfl, dm, em, GA.m.dp, GB.m.dp, GA.sm, GB.sm, _, rfl, ?_⟩
          cases h3 : PyData.eqv dm em with
          | false =>
            rw [h3] at q
            exact ite_neg' (by decide) q
          | true =>
            rw [h3, Bool.true_and] at q
            exact ite_pos' rfl ⟨_, rfl, a, C, dx, _, f, rfl, ha, T.cls, T.n4, rfl, _, rfl, b, C, dy, _, f', rfl, hb, T.cls, T.n4, rfl, df, ef, GA.f.dp, GB.f.dp, GA.sf, GB.sf, q⟩
end
end My
namespace L2N
open PySem PySem.Spec PyProof.Rows L2
/-- several handlers that bind one name -/
def wManyAs (K : PySem.W.Frag) (i : Nat) (Wout : WX) (D : Ends) : List (Value × (Addr → Value → Option Addr → TS)) → WX
  | [] => Wout
  | (c, ts) :: r => fun cls d σ H => ∃ b, PySem.W.exmOne K cls c = some b ∧ (b = true → ∀ a, H a = none → ts a cls d { nx := fun σ' H' => D.nx (σ'.set i none) H', rt := D.rt, bk := fun σ' H' => D.bk (σ'.set i none) H', ct := fun σ' H' => D.ct (σ'.set i none) H' } (σ.set i (some (.ref a))) H) ∧
    (b = false → wManyAs K i Wout D r cls d σ H)
inductive HdsAs (X : Cx) (i : Nat) (n : Str) (Wo : WX) : List ExceptHandler → List (Value × (Addr → Value → Option Addr → TS)) → Prop
  | nil : HdsAs X i n Wo [] []
  | dead {hds : List ExceptHandler} (h : ∀ cls d σ H, ¬ Wo cls d σ H) : HdsAs X i n Wo hds []
  | cons {x : Str} {c : Value} {ts : Addr → Value → Option Addr → TS} {b₀ : Stmt} {suite : List Stmt} {np pos' : Pos} {hds : List ExceptHandler} {l : List (Value × (Addr → Value → Option Addr → TS))} (hc : Names X x c)
      (hsu : ∀ (a : Addr) (oe : Obj) (cls : Value) (d : Option Addr) (pn : List (Addr × Obj)), Zn cls d oe → (∃ vs, oe.data = .fields vs) → PSs (X.suite a ((a, oe) :: pn)) (b₀ :: suite) (ts a cls d)) (r : HdsAs X i n Wo hds l) :
      HdsAs X i n Wo (.ExceptHandler (some (.Name x np)) (some n) (b₀ :: suite) pos' :: hds) ((c, ts) :: l)
section
variable {X : Cx} {n : Str} {i : Nat} {body : List Stmt} {h₀ : ExceptHandler} {hds : List ExceptHandler} {l : List (Value × (Addr → Value → Option Addr → TS))} {pos : Pos} {tb : WX → TS} {Wout : WX}
theorem ps_try_manyAs (hs : X.stack = X.env :: X.outer) (hf : X.env.frame = some X.env.locals) (hN : X.N.Nodup) (hi : X.N[i]? = some n) (hln : X.env.kindOf n = some .local) (tk : Takes X Wout)
    (hb : ∀ (W : WX) (pn : List (Addr × Obj)) (xe : Value → Shared → Prop), Takes (X.tr pn xe) W → PassesOwn (model X.prog X.w) X.A X.env xe → PSs (X.tr pn xe) body (tb W))
    (hh : HdsAs X i n Wout (h₀ :: hds) l) : PS X (.Try body (h₀ :: hds) [] [] pos) (fun D σ H => tb (wManyAs X.K i Wout D l) D σ H) := by
  refine ⟨fun pins s σ H D I h => ?_⟩
  have ok := I.ok
  have hfr : X.A.frames = some (X.env :: X.outer) := by rw [ok.frames, hs]
  have hloc : Loc X.env.scope n := .inl hln
  refine wpAny_Try_except ?_
  refine wpAny_mono ((hb (wManyAs X.K i Wout D l) (X.pn ++ pins) (fun e s₁ => wpAny (model X.prog X.w) X.A (noteFrame e X.env) (fun _ s₂ => wpAny (model X.prog X.w) X.A (setFlight e none) (fun _ s₃ =>
    wpAny (model X.prog X.w) X.A (handleBy e X.env (h₀ :: hds)) (SP X pins D) X.xe s₃) X.xe s₂) X.xe s₁) (fun u s' xx => ?_) PassesOwn.looking).run [] s σ H D (I.toTry _) h) (fun f s1 hsp => ?_) (fun e s1 he => he)
  · -- the catch
    obtain ⟨a, B, sI, pins', σ', H', cls, d, rfl, J', nb, up, sky, na, os, ag, w⟩ := xx
    have J : Inv X pins σ' H' sI := J'.ofTry ok
    have sky' : Sky B (X.env :: X.outer) a (Zn cls d) X.env.locals s'.heap := by rw [← hs]; exact sky
    show wpAny (model X.prog X.w) X.A (noteFrame (.ref a) X.env) _ _ _
    refine Sky.land Zn.steady hfr hf sky' fun h3 fl3 up3 => ?_
    have J3 : Inv X pins σ' H' { s' with heap := h3 } := J.landed nb fl3.1 (up.trans up3) os ag
    obtain ⟨oe3, vs3, he3, hz3, hd3⟩ := fl3.there
    have notFr : ∀ {h : Heap} {o : Obj} {vs : Array Value}, h.FunFrames B (X.env :: X.outer) → h.get? a = some o → o.data = .fields vs → a ∉ frs (X.env :: X.outer) := fun {h o vs} ff e dd hm => by
      obtain ⟨_, o', e', hnf⟩ := ff.mem hm
      rw [e] at e'; cases e'
      exact hnf _ dd
    have nfr := notFr fl3.2.2.1 he3 hd3
    have nL : a ≠ X.env.locals := fun z => nfr (List.mem_filterMap.mpr ⟨X.env, List.mem_cons_self, by rw [hf, z]⟩)
    have nF : a ∉ X.fs := fun hm => by
      obtain ⟨e, he, q⟩ := List.mem_filterMap.mp hm
      exact nfr (List.mem_filterMap.mpr ⟨e, List.mem_cons_of_mem _ he, q⟩)
    have S3 := J3.suite he3 hd3 na nL nF
    have go : ∀ {hds' : List ExceptHandler} {l' : List (Value × (Addr → Value → Option Addr → TS))}, HdsAs X i n Wout hds' l' → wManyAs X.K i Wout D l' cls d σ' H' →
        wpAny (model X.prog X.w) X.A (handleBy (.ref a) X.env hds') (SP X pins D) X.xe { s' with heap := h3 } := by
      intro hds' l' hk
      induction hk with
      | dead hd =>
        intro w
        exact (hd _ _ _ _ w).elim
      | nil =>
        intro w
        refine wpAny_handleBy_nil ?_
        obtain ⟨k1, k2, k3, oe, vs, T, oT, ts', he, hz, hd, h1, hr⟩ := id fl3
        unfold PySem.passOn
        refine wpAny_bind (wpAny_field he hd h1 ?_)
        rw [if_neg (show ¬ ((Value.ref T == Value.none) = true) from by simp)]
        have fin : wpAny (model X.prog X.w) X.A (setFlight (.ref a) X.env.frame) (fun _ s4 => wpAny (model X.prog X.w) X.A (throw (.ref a) : Sem Flow) (SP X pins D) X.xe s4) X.xe { s' with heap := h3 } := by
          rw [hf]
          refine HandSPX.setFlight_upZ fl3 fun h4 hh4 up4 => wpAny_throw (tk _ _ ?_)
          exact ⟨a, B, sI, pins, σ', H', cls, d, rfl, J, nb, (up.trans up3).trans up4, .inr (.inr (by rw [hs]; exact hh4)), na, os, ag, w⟩
        first
          | exact wpAny_bind (wpAny_pure (wpAny_bind fin))
          | exact wpAny_bind fin
      | @cons x c ts b₀ suite np pos' hds2 l2 hc hsu r ih =>
        intro w
        obtain ⟨b, hb1, hyes, hno⟩ := w
        refine wpAny_handleBy_cons (codeAny_handlers_test ?_) (by intro q; cases q)
        have LT : PySem.W.Looks (model X.prog X.w) h3 (typeOf (.ref a)) cls := fun A Q E s k q => wpAny_typeOf_ref (k _ _ he3) (by rw [hz3.1]; exact q)
        have LM := PySem.W.exm_one (M := model X.prog X.w) (J3.kIn) LT hb1
        have test : ∀ {Q : Value → Shared → Prop} {E : Value → Shared → Prop}, Q c { s' with heap := h3 } → wpAny (model X.prog X.w) (X.A.mark (some (.ref a))) (eval (.Name x np) X.env) Q E { s' with heap := h3 } := fun {Q E} q => by
          obtain ⟨hg, hdbg, hm | ⟨hm, hv, hnn⟩⟩ := hc
          · exact ld_glob (X := X.suite a ((a, oe3) :: (X.pn ++ pins))) S3 hg hm q hdbg
          · exact ld_blt (X := X.suite a ((a, oe3) :: (X.pn ++ pins))) S3 hg hm hv q hnn hdbg
        refine test (LM.here ?_)
        cases b with
        | true =>
          refine codeAny_handlers_suite_as ?_
          refine HandSPX.lands_againZ fl3 fun h4 fl4 up4 => ?_
          have J4 : Inv X pins σ' H' { s' with heap := h4 } := J.landed nb fl4.1 ((up.trans up3).trans up4) os ag
          obtain ⟨oe4, vs4, he4, hz4, hd4⟩ := fl4.there
          have S4 := J4.suite he4 hd4 na nL nF
          refine store_ok (X := X.suite a ((a, oe4) :: (X.pn ++ pins))) (v := .ref a) S4 hN hi hloc rfl (fun s5 S5 => ?_) (.inr hln)
          refine wpAny_mono ((hsu a oe4 cls d (X.pn ++ pins) hz4 ⟨_, hd4⟩).run [] s5 _ H' _ S5 (hyes rfl a na)) (fun f s6 hsp => ?_) (fun _ _ z => False.elim z)
          have end_ : ∀ {σ6 : L2.St} {H6 : Hp} {Q : Shared → Prop}, Inv (X.suite a ((a, oe4) :: (X.pn ++ pins))) [] σ6 H6 s6 → (∀ s7, Inv X pins (σ6.set i none) H6 s7 → Q s7) →
              wpAny (model X.prog X.w) X.A (do bindName X.env n .none; unbindBehindTheSuite X.env n pos') (fun _ s7 => Q s7) X.xe s6 := fun {σ6 H6 Q} S6 hq => gone_ok (S6.unsuite ok) hN hi hln hq
          cases f with
          | next =>
            obtain ⟨σ6, H6, S6, q6⟩ := hsp
            exact end_ S6 fun s7 J7 => ⟨_, _, J7, q6⟩
          | brk =>
            obtain ⟨σ6, H6, S6, q6⟩ := hsp
            exact end_ S6 fun s7 J7 => ⟨_, _, J7, q6⟩
          | cont =>
            obtain ⟨σ6, H6, S6, q6⟩ := hsp
            exact end_ S6 fun s7 J7 => ⟨_, _, J7, q6⟩
          | ret u =>
            obtain ⟨v6, σ6, H6, S6, r6, q6⟩ := hsp
            exact end_ S6 fun s7 J7 => ⟨_, _, _, J7, r6, q6⟩
        | false =>
          show wpAny _ X.A (handleBy (.ref a) X.env hds2) _ _ _
          exact ih (hno rfl)
    exact go hh w
  · cases f with
    | next =>
      obtain ⟨σ', H', J', q⟩ := hsp
      exact wpAny_execs_nil ⟨σ', H', J'.ofTry ok, q⟩
    | brk =>
      obtain ⟨σ', H', J', q⟩ := hsp
      exact ⟨σ', H', J'.ofTry ok, q⟩
    | cont =>
      obtain ⟨σ', H', J', q⟩ := hsp
      exact ⟨σ', H', J'.ofTry ok, q⟩
    | ret u =>
      obtain ⟨v, σ', H', J', r, q⟩ := hsp
      exact ⟨v, σ', H', J'.ofTry ok, r, q⟩
end
end L2N
namespace My
open PySem PySem.Spec PyProof.Rows Sx L2
section
variable {X : Cx} {p : Addr × Obj} {k j : Nat} {x : Str} {sp : Addr × Obj → Sp} {q pos : Pos} {e : Expr} {es : List Expr} {t : TA}
/-- what the class D must say, so that its exceptions may be asked -/
structure AskC (K : PySem.W.Frag) (D : Addr) : Prop where
  cl : (PySem.W.clsIn K D).isSome = true
  hd : PySem.W.hasDictIn K D = true
  ga : PySem.W.findIn K (.ref D) "__getattribute__" = some (some (.builtin "BaseException.__getattribute__"))
  gg : PySem.W.findIn K (.ref D) "__getattr__" = some none
  sB : PySem.W.subIn K (.ref D) (.type "BaseException") = some true
  ac : PySem.W.findIn K (.ref D) "__class__" = some (some (.builtin "object.__class__"))
  sn : PySem.W.specialIn K (.builtin "object.__class__") "__get__" = some (some (.builtin "getset_descriptor.__get__"))
  tk : PySem.W.takesIn K (.builtin "object.__class__") = some true
  mo : PySem.W.mroIn K D (.type "object") = some true
/-- the exception p is of the class D, its dict (if any) holds fs -/
def PinE (H : Hp) (p : Addr × Obj) (D : Addr) (fs : Option (List (Str × V))) : Prop := (∃ vs, p.2.data = .fields vs) ∧ p.2.cls = .ref D ∧ match fs with
  | none => p.2.dict = none
  | some l => ∃ d, p.2.dict = some d ∧ H d = some (.xd l)
theorem PinE.same {H H' : Hp} {D : Addr} {fs : Option (List (Str × V))} (h : PinE H p D fs) (sm : Same H H') : PinE H' p D fs := by
  obtain ⟨h1, h2, h3⟩ := h
  refine ⟨h1, h2, ?_⟩
  cases fs with
  | none => exact h3
  | some l =>
    obtain ⟨d, e, z⟩ := h3
    exact ⟨d, e, sm _ _ z⟩
theorem pinE_inst {H : Hp} {D : Addr} {fs : Option (List (Str × V))} {pins : List (Addr × Obj)} {σ : L2.St} {s : Shared} (h : PinE H p D fs) (I : Inv X pins σ H s) (hp : p ∈ X.pn) : ∃ od, PySem.W.InstAt s.heap p.1 p.2 D od := by
  obtain ⟨⟨vs, h1⟩, h2, h3⟩ := h
  have g := (I.pin p (List.mem_append_left _ hp)).1
  have nc : PySem.W.notCls p.2 = true := by unfold PySem.W.notCls; rw [h1] <;> rfl
  cases fs with
  | none =>
    have h3' : p.2.dict = none := h3
    exact ⟨none, g, h2, nc, by rw [h3']; trivial⟩
  | some l =>
    obtain ⟨d, e, z⟩ := h3
    obtain ⟨mA, hns, _⟩ : ObjOk X.prog X.w H s.heap d (.xd l) := I.hok d _ z
    obtain ⟨od, ho, _⟩ := lookIn_ns hns
    exact ⟨some od, g, h2, nc, by rw [e]; exact ho⟩
theorem call_isP {D : Addr} (C : AskC X.K D) (hp : p ∈ X.pn) : CallR X (.builtin "isinstance") (fun xs H Q => ∃ (c : V) (cv : Value) (b : Bool) (fs : Option (List (Str × V))), xs = [.ref p.1, c] ∧ (∀ u, RelV c u → u = cv) ∧ PySem.W.kitOne X.K (.ref D) cv = some b ∧ PinE H p D fs ∧ Q (.bl b) H) := by
  intro pins s σ H xs us Q I r h
  obtain ⟨c, cv, b, fs, rfl, hcv, hk, hP, q⟩ := h
  obtain ⟨od, J⟩ := pinE_inst hP I hp
  match r with
  | .cons rx (.cons rt .nil) =>
    cases rx
    have ec := hcv _ rt
    subst ec
    exact PySem.W.kia_one (PySem.W.kitx_exc C.cl C.ga C.gg C.sB C.ac C.sn C.tk C.mo) I.kIn J hk (fun z => nomatch z) fun tk => ⟨.bl b, H, I.kept (t' := tk) fun _ _ z => z, rfl, q⟩
end
theorem takes0N {X : Cx} : L2N.Takes X (fun _ _ _ _ => False) := fun _ _ x => by
  obtain ⟨_, _, _, _, _, _, _, _, _, _, _, _, _, _, _, _, z⟩ := x
  exact z.elim
/-- as PinE, by the class and the dict alone -/
def PinX (H : Hp) (cls : Value) (dct : Option Addr) (D : Addr) (fs : Option (List (Str × V))) : Prop := cls = .ref D ∧ match fs with
  | none => dct = none
  | some l => ∃ d, dct = some d ∧ H d = some (.xd l)
theorem PinX.same {H H' : Hp} {cls : Value} {dct : Option Addr} {D : Addr} {fs : Option (List (Str × V))} (h : PinX H cls dct D fs) (sm : Same H H') : PinX H' cls dct D fs := by
  obtain ⟨h1, h2⟩ := h
  refine ⟨h1, ?_⟩
  cases fs with
  | none => exact h2
  | some l =>
    obtain ⟨d, e, z⟩ := h2
    exact ⟨d, e, sm _ _ z⟩
section
variable {X : Cx} {a : Addr} {oe : Obj}
theorem PinX.of {H : Hp} {D : Addr} {fs : Option (List (Str × V))} (h : PinX H oe.cls oe.dict D fs) (hf : ∃ vs, oe.data = .fields vs) : PinE H (a, oe) D fs := ⟨hf, h.1, by
  have h2 := h.2
  cases fs with
  | none => exact h2
  | some l => exact h2⟩
theorem call_isX {D : Addr} (C : AskC X.K D) (hp : (a, oe) ∈ X.pn) (hf : ∃ vs, oe.data = .fields vs) : CallR X (.builtin "isinstance") (fun xs H Q => ∃ (c : V) (cv : Value) (b : Bool) (fs : Option (List (Str × V))), xs = [.ref a, c] ∧ ClsV c cv ∧ PySem.W.kitOne X.K (.ref D) cv = some b ∧ PinX H oe.cls oe.dict D fs ∧ Q (.bl b) H) := by
  intro pins s σ H xs us Q I r h
  obtain ⟨c, cv, b, fs, rfl, hc, hk, hP, q⟩ := h
  exact call_isP C hp pins s σ H _ us Q I r ⟨c, cv, b, fs, rfl, fun u hu => hc.eq hu, hk, hP.of hf, q⟩
theorem call_isXT {D : Addr} (C : AskC X.K D) (hp : (a, oe) ∈ X.pn) (hf : ∃ vs, oe.data = .fields vs) : CallR X (.builtin "isinstance") (fun xs H Q => ∃ (tp : Addr) (cs : List V) (us : List Value) (b : Bool) (fs : Option (List (Str × V))), xs = [.ref a, .ref tp] ∧ H tp = some (.tup cs) ∧ Paired ClsV cs us ∧ PySem.W.kitAny X.K (.ref D) us = some b ∧ PinX H oe.cls oe.dict D fs ∧ Q (.bl b) H) := by
  intro pins s σ H xs us Q I r h
  obtain ⟨tp, cs, ws, b, fs, rfl, hT, kk, hk, hP, q⟩ := h
  obtain ⟨od, J⟩ := pinE_inst (hP.of (a := a) hf) I hp
  obtain ⟨u1, u2, rfl, r1, r2⟩ := vals2 r
  cases (show u1 = Value.ref a from r1)
  cases (show u2 = Value.ref tp from r2)
  obtain ⟨_, its, rv, o, h1, h2, n, h3⟩ := (show ObjOk X.prog X.w H s.heap tp (.tup cs) from I.hok tp _ hT)
  have e3 := ClsV.all kk rv
  subst e3
  obtain ⟨oc, od2, dt, sl⟩ := o
  simp only at h2 h3
  subst h2 h3
  exact PySem.W.kia_tup (PySem.W.kitx_exc C.cl C.ga C.gg C.sB C.ac C.sn C.tk C.mo) I.kIn J h1 hk (fun z => nomatch z) fun tk => ⟨.bl b, H, I.kept (t' := tk) fun _ _ z => z, rfl, q⟩
theorem pe_xfX {D : Addr} {e : Expr} {te : TE} {pos : Pos} {n : Str} (C : AskC X.K D) (hp : (a, oe) ∈ X.pn) (hf : ∃ vs, oe.data = .fields vs) (hno : PySem.W.findIn X.K (.ref D) n = some none) (he : PE X e te) (hb : attributeBase e n X.env (eval e X.env) = eval e X.env := by rfl) :
    PE X (.Attribute e n pos) (fun σ H Q => te σ H fun x H1 => x = .ref a ∧ ∃ l v, PinX H1 oe.cls oe.dict D (some l) ∧ l.lookup n = some v ∧ Q v H1) := by
  refine ⟨fun pins s σ H Q I h => ?_⟩
  refine attr_of hb (thn (he.run pins s σ H _ I h) fun u s1 ⟨x, H1, I1, rx, ex, l, v, hP, hl, q⟩ => ?_)
  subst ex
  obtain rfl : u = Value.ref a := rx
  obtain ⟨h2, d, e, z⟩ := hP
  obtain ⟨vs, h1⟩ := hf
  have g := (I1.pin (a, oe) (List.mem_append_left _ hp)).1
  have nc : PySem.W.notCls oe = true := by unfold PySem.W.notCls; rw [h1] <;> rfl
  obtain ⟨mA, hns, hrel⟩ : ObjOk X.prog X.w H1 s1.heap d (.xd l) := I1.hok d _ z
  obtain ⟨od, ho, hlo⟩ := lookIn_ns hns
  obtain ⟨u, hu, ru⟩ := RelO.some_of (v := v) (o := mA n) (by rw [← hl]; exact hrel n)
  have J : PySem.W.InstAt s1.heap a oe D (some od) := ⟨g, h2, nc, by rw [e]; exact ho⟩
  exact HandSPX.exc_get I1.kIn J C.ga C.gg C.sB (PySem.W.findObj_own C.hd hno rfl (by rw [hlo, hu])) (handed_of ru) ⟨v, H1, I1.tok _, ru, q⟩
end
end My
namespace My
open PySem PySem.Spec PyProof.Rows Sx L2
section
variable {K : PySem.W.Frag} {f : Addr} {fd : FuncData}
abbrev FunI (K : PySem.W.Frag) (f : Addr) (fd : FuncData) : Prop := FunD K "__init__" "Callers.__init__" (defArgs sInit) (defBody sInit) (defScope sInit) [] kwsC f fd
theorem kb1 (F : FunI K f fd) : ∃ mv : List Value, KBn K fd NI 1 ["fresh", "times"] (fun us ws => us ++ (ws.drop 1 ++ (mv ++ ws.take 1))) (fun vs zs => vs ++ (zs.drop 1 ++ ([.str "equal", .non] ++ zs.take 1))) := by
  refine F.kbinds0 1 ["fresh", "times"] [("look", .str "equal"), ("methods", .non)] (fun us mv ws => us ++ (ws.drop 1 ++ (mv ++ ws.take 1))) (by simp) (by simp) (fun h1 h2 h3 => h1.append ((h3.drop 1).append (h2.append (h3.take 1)))) ?_
  intro D doc pm an cdv ct us mv ws l1 l2 l3
  match us, mv, ws, l1, l2, l3 with
  | [x], [a, b], [c, d], _, _, _ => exact ⟨_, _, _, _, _, _, rfl, rfl, _, _, _, _, _, _, rfl, rfl, rfl⟩
theorem kb2 (F : FunI K f fd) : ∃ mv : List Value, KBn K fd NI 1 ["methods", "look"] (fun us ws => us ++ (mv.take 1 ++ (ws.drop 1 ++ (ws.take 1 ++ mv.drop 1)))) (fun vs zs => vs ++ (([.non, .bl false] : List V).take 1 ++ (zs.drop 1 ++ (zs.take 1 ++ ([.non, .bl false] : List V).drop 1)))) := by
  refine F.kbinds0 1 ["methods", "look"] [("times", .non), ("fresh", .bl false)] (fun us mv ws => us ++ (mv.take 1 ++ (ws.drop 1 ++ (ws.take 1 ++ mv.drop 1)))) (by simp) (by simp) (fun h1 h2 h3 => h1.append ((h2.take 1).append ((h3.drop 1).append ((h3.take 1).append (h2.drop 1))))) ?_
  intro D doc pm an cdv ct us mv ws l1 l2 l3
  match us, mv, ws, l1, l2, l3 with
  | [x], [a, b], [c, d], _, _, _ => exact ⟨_, _, _, _, _, _, rfl, rfl, _, _, _, _, _, _, rfl, rfl, rfl⟩
theorem kb3 (F : FunI K f fd) : ∃ mv : List Value, KBn K fd NI 1 ["times", "look", "methods", "fresh"] (fun us ws => us ++ ws) (fun vs zs => vs ++ zs) := by
  refine F.kbinds0 1 ["times", "look", "methods", "fresh"] [] (fun us mv ws => us ++ ws) (by simp) (by simp) (fun h1 h2 h3 => h1.append h3) ?_
  intro D doc pm an cdv ct us mv ws l1 l2 l3
  match us, mv, ws, l1, l2, l3 with
  | [x], [], [a, b, c, d], _, _, _ => rfl
theorem kb0 (F : FunI K f fd) : ∃ ds, Vals [.non, .str "equal", .non, .bl false] ds ∧ Binds K fd NI ds := by
  refine F.binds0 1 (by simp) rfl ?_
  intro D doc pm an cdv ct us ks l1 l2
  match us, ks, l1, l2 with
  | [x], [a, b, c, d], _, _ => exact ⟨_, _, _, _, _, _, rfl, rfl, _, _, _, _, _, _, rfl, rfl, _, _, _, _, _, _, rfl, rfl, _, _, _, _, _, _, rfl, rfl, rfl⟩
end
end My
namespace My
open PySem PySem.Spec PyProof.Rows Sx L2
def tMakeKS (C : Addr) (n m : Nat) (sp : Sp) (gV : List V → List V → List V) (E : L2.St → XK) (t tk : TA) : TE := fun σ H Q => t σ H fun vs H1 => tk σ H1 fun zs H2 => vs.length = n ∧ zs.length = m ∧ ∀ x dx, H2 x = none → H2 dx = none → dx ≠ x →
  sp (gV (.ref x :: vs) zs) (upd (upd H2 dx (.own x)) x (.ins C dx [])) (fun v H3 => v = .non ∧ Q (.ref x) H3) (E σ)
section
variable {X : Cx} {CX : CXT} {k n : Nat} {f C : Addr} {fd : FuncData} {ps ks : List Str} {sp : Sp} {E : L2.St → XK} {x : Str} {p pos : Pos} {e : Expr} {es : List Expr} {kws : List Keyword} {t tk : TA} {g : List Value → List Value → List Value} {gV : List V → List V → List V}
theorem run_makeKS {pins : List (Addr × Obj)} {σ : L2.St} {H : Hp} {s : Shared} {Q : VK} {us ws : List Value} {vs zs : List V} {E : XK} (M : Mk X.K C f) (F : FnOk X.prog X.w X.K X.mg X.base CX k f fd ps sp) (hr : Room (k + 1) X.A) (hb : KBn X.K fd ps (n + 1) ks g gV) (hx : PassesAt CX X σ E)
    (I : Inv X pins σ H s) (r : Vals vs us) (rz : Vals zs ws) (l1 : vs.length = n) (l2 : zs.length = ks.length)
    (h : ∀ x dx, H x = none → H dx = none → dx ≠ x → sp (gV (.ref x :: vs) zs) (upd (upd H dx (.own x)) x (.ins C dx [])) (fun v H2 => v = .non ∧ Q (.ref x) H2) E) :
    wpAny (model X.prog X.w) X.A (call (.ref C) us (ks.zip ws)) (EP X pins σ Q) X.xe s := by
  have hq := h (s.heap.objs.size + 1) s.heap.objs.size (I.hok.fresh (Nat.le_succ _)) (I.hok.fresh (Nat.le_refl _)) (Nat.ne_of_lt (Nat.lt_succ_self _))
  have I2 := Inv.made (C := C) I
  have r1 : Vals (V.ref (s.heap.objs.size + 1) :: vs) (Value.ref (s.heap.objs.size + 1) :: us) := .cons rfl r
  have r2 := hb.rel r1 rz
  have n1 : (Value.ref (s.heap.objs.size + 1) :: us).length = n + 1 := by
    rw [List.length_cons, ← r.length, l1]
  refine wpAny_call (make_map (f := f) I.kIn M.makes M.init (beq_iff_eq.mp M.fn) (codeAny_mono (F.run _ X.stack _ _ ⟨Value.ref (s.heap.objs.size + 1) :: us, ks.zip ws⟩ (g (Value.ref (s.heap.objs.size + 1) :: us) ws) _ _ E (hr.make C us (ks.zip ws))
    (I2.env0.make C us (ks.zip ws)) (hb.to _ (Value.ref (s.heap.objs.size + 1) :: us) ws I2.kIn n1 (rz.length.symm.trans l2)) r2 hq) fun r s' hq' => ?_))
  cases r with
  | error e => exact hx pins _ _ e s' I2 hq'
  | ok fl =>
    cases fl with
    | ret u =>
      obtain ⟨v, H', I3, rv, ev, q3⟩ := I2.after hq'
      subst ev
      exact ⟨rv, ⟨V.ref (s.heap.objs.size + 1), H', I3, rfl, q3⟩⟩
    | next => exact False.elim hq'
    | brk => exact False.elim hq'
    | cont => exact False.elim hq'
theorem pe_makeK0S (M : Mk X.K C f) (F : FnOk X.prog X.w X.K X.mg X.base CX k f fd ps sp) (hr : Room (k + 1) X.A) (hg : Gl X x) (hm : X.mg x = some (.ref C)) (hb : KBn X.K fd ps 1 ks g gV) (hx : ∀ σ, PassesAt CX X σ (E σ)) (hkw : PK X kws tk)
    (hall : (backToKw pos (keywordEach kws X.env)).all (·.1.isSome) = true := by rfl) (hks : (backToKw pos (keywordEach kws X.env)).filterMap (·.1) = ks := by rfl) (hdb : (x == ("__debug__" : Str)) = false := by decide)
    (hpl : ((backTo pos (starEach [] X.env)).any (·.1) || (backToKw pos (keywordEach kws X.env)).any (·.1.isNone)) = false := by rfl) :
    PE X (.Call (.Name x p) [] kws pos) (tMakeKS C 0 ks.length sp gV E tNil tk) := by
  refine ⟨fun pins s σ H Q I h => ?_⟩
  refine wpAny_Call_Name_kw (ld_glob I hg hm ?_ hdb)
  refine PySem.W.callWith_KW0 (h₀ := X.base) I.ok.mod.kin M.kp hall ?_ hpl
  refine thn (hkw.run pos pins s σ H _ I h) fun ws s2 ⟨zs, H2, I2, rz, l1, l2, q2⟩ => ⟨I2.kIn, ?_⟩
  rw [hks]
  exact run_makeKS (us := []) (vs := []) M F hr hb (hx σ) I2 .nil rz rfl l2 q2
end
abbrev sMade : Stmt := top 21
abbrev NM : List Str := ["passes", "gaze", "some_parts", "is_new", "e"]
/-- no object -/
def isScV : V → Bool
  | .ref _ => false
  | .ty _ => false
  | _ => true
def spMade (C : Addr) : Sp := fun vs H Q _ => ∃ t l m f dt dl dm df, vs = [t, l, m, f] ∧ Given H t l m f dt dl dm df ∧ isScV f = true ∧ (∀ part, dueD dt dl dm df = some part → ∀ H', Same H H' → Q (.str part) H') ∧
  (dueD dt dl dm df = none → ∀ a dx H', H a = none → Same H H' → H' a = some (.ins C dx (flds t l m f)) → Q (.ref a) H')
/-- the classes of errors -/
structure KT (K : PySem.W.Frag) (mg : Str → Option Value) (R : Addr) : Prop where
  nn : PySem.W.exmOne K (.ref R) (.ref R) = some true
  aR : AskC K R
/-- what is made, or which error -/
theorem make_read {C R : Addr} {H : Hp} {t l m f : V} {dt dl dm df : PyData} {Q : VK} {E : XK} (G : Given H t l m f dt dl dm df)
    (bad : ∀ part, dueD dt dl dm df = some part → ∀ H' d, Same H H' → H' d = none → E (.ref R) (some d) (upd H' d (.xd [("part", .str part)])))
    (fin : dueD dt dl dm df = none → ∀ a dx H', H a = none → Same H H' → H' a = some (.ins C dx (flds t l m f)) → Q (.ref a) H') :
    ∀ x dx, H x = none → H dx = none → dx ≠ x → spInit C R [.ref x, t, l, m, f] (upd (upd H dx (.own x)) x (.ins C dx [])) (fun v H3 => v = .non ∧ Q (.ref x) H3) E := by
  intro x dx nx ndx hne
  have s1 : Same H (upd (upd H dx (.own x)) x (.ins C dx [])) := (same_new ndx).trans (same_new (by rw [upd_ne hne.symm]; exact nx))
  refine ⟨x, dx, t, l, m, f, dt, dl, dm, df, rfl, upd_same, G.up s1, fun part hp H' d sm nd' => bad part hp H' d (s1.trans sm) nd', fun hd H' bt hx' => ⟨rfl, ?_⟩⟩
  exact fin hd x dx H' nx (fun c o e => bt c o (ne_of_none e nx) (s1 _ _ e)) hx'
def tXf (D : Addr) (n : Str) (a : Addr) (cls : Value) (d : Option Addr) (te : TE) : TE := fun σ H Q => te σ H fun x H1 => x = .ref a ∧ ∃ l v, PinX H1 cls d D (some l) ∧ l.lookup n = some v ∧ Q v H1
def tsPart (R : Addr) : Addr → Value → Option Addr → TS := fun a cls d => tRet (tXf R "part" a cls d (tVar 4))
abbrev gv1 : List V → List V → List V := fun vs zs => vs ++ (zs.drop 1 ++ ([.str "equal", .non] ++ zs.take 1))
abbrev gv2 : List V → List V → List V := fun vs zs => vs ++ (([.non, .bl false] : List V).take 1 ++ (zs.drop 1 ++ (zs.take 1 ++ ([.non, .bl false] : List V).drop 1)))
abbrev gv3 : List V → List V → List V := fun vs zs => vs ++ zs
def rIsNo : R2 := fun x y H Q => y = .non ∧ Q (.bl (decide (x = .non))) H
def rIsBw : R2 := fun x y H Q => (∀ a, x ≠ .ref a) ∧ (∀ a, x ≠ .ty a) ∧ rIsBv x y H Q
def tBody (K : PySem.W.Frag) (C R : Addr) (W : WX) : TS :=
  tSeq (tIfS (tAnd (tTest (tOp rIsNo (tVar 2) (tC .non))) (tTest (tOp (rEqD K) (tVar 1) (tC (.str "equal"))))) (tRet (tMakeKS C 0 2 (spInit C R) gv1 (WE W) tNil (tCons (tVar 3) (tCons (tVar 0) tNil)))) tNext)
  (tSeq (tIfS (tAnd (tTest (tOp rIsNo (tVar 0) (tC .non))) (tTest (tOp rIsBw (tVar 3) (tC (.bl false))))) (tRet (tMakeKS C 0 2 (spInit C R) gv2 (WE W) tNil (tCons (tVar 2) (tCons (tVar 1) tNil)))) tNext)
  (tRet (tMakeKS C 0 4 (spInit C R) gv3 (WE W) tNil (tCons (tVar 0) (tCons (tVar 1) (tCons (tVar 2) (tCons (tVar 3) tNil)))))))
section
variable {P : Program} {w : World} {K : PySem.W.Frag} {mg : Str → Option Value} {base : Heap} {C R f0 : Addr} {fd0 : FuncData}
theorem scMade : FnScope NM ["passes", "gaze", "some_parts", "is_new"] (defScope sMade) := ⟨rfl, rfl, rfl, by decide +kernel, rfl, by decide +kernel, by decide +kernel⟩
theorem cl_made (D : DefAt K mg "_law_made" sMade ["passes", "gaze", "some_parts", "is_new"]) (T : TC K mg C) (Z : KT K mg R) (O : OneC P K mg "BadCallers" "BadCallers.__init__" (inClass (top 2) 0) ["part"] R) (M : Mk K C f0) (FI : FunI K f0 fd0) (F0 : FnOk P w K mg base (L2N.CX P w) 4 f0 fd0 NI (spInit C R)) : Cl P w K mg base CX0 6 "_law_made" (spMade C) := by
  obtain ⟨f, fd, F, g, bd⟩ := D.ex
  obtain ⟨_, kb1⟩ := kb1 FI
  obtain ⟨_, kb2⟩ := kb2 FI
  obtain ⟨_, kb3⟩ := kb3 FI
  refine ⟨f, fd, _, F.ok scMade (fun vs H Q E h => ?_) (fun cdv A outer s H vs Q E hr h => ?_), g, F.kp, bd⟩
  · obtain ⟨t, l, m, f, dt, dl, dm, df, rfl, _⟩ := h
    rfl
  · obtain ⟨t, l, m, fr, dt, dl, dm, df, rfl, G, hsc, bad, fin⟩ := h
    have nd := scMade.nd
    refine ⟨_, pss_one (L2N.ps_try_manyAs (i := 4) (n := "e") (l := [(.ref R, tsPart R)]) (tb := tBody K C R) (Wout := fun _ _ _ _ => False) rfl rfl nd rfl rfl takes0N
        (fun W pn xe tk _ => ?body)
        (.cons ⟨rfl, by decide, .inl O.g⟩ (fun a oe cls d pn hz hf => ?h1) (.dead fun _ _ _ _ z => z))), ?_⟩
    case body =>
      refine pss_cons (ps_if (PW.pt (pw_and (pt_cmpR (r := rIsNo) op_isN (pv 2) pe_non (nomark _)) (pw_and1 (pt_cmpR (op_eqD ?hu) (pv 1) pe_str (nomark _))))) (pss_one (ps_ret (pe_makeK0S (ks := ["fresh", "times"]) M F0 hr rfl T.gC kb1 (fun σ => L2N.passAt tk σ) (pk_cons (pv 3) (pk_cons (pv 0) pk_nil))))) pss_nil)
        (pss_cons (ps_if (PW.pt (pw_and (pt_cmpR (r := rIsNo) op_isN (pv 0) pe_non (nomark _)) (pw_and1 (pt_cmpR (r := rIsBw) op_isBv (pv 3) pe_bl (nomark _))))) (pss_one (ps_ret (pe_makeK0S (ks := ["methods", "look"]) M F0 hr rfl T.gC kb2 (fun σ => L2N.passAt tk σ) (pk_cons (pv 2) (pk_cons (pv 1) pk_nil))))) pss_nil)
        (pss_one (ps_ret (pe_makeK0S (ks := ["times", "look", "methods", "fresh"]) M F0 hr rfl T.gC kb3 (fun σ => L2N.passAt tk σ) (pk_cons (pv 0) (pk_cons (pv 1) (pk_cons (pv 2) (pk_cons (pv 3) pk_nil))))))))
      have := hr.un
      show (A.deeper (envOfC "_law_made" (defScope sMade) s.heap.objs.size f cdv)).units + 64 < cLine
      omega
    case h1 =>
      have hin : (a, oe) ∈ ((cxOf CX0 P w K mg base NM "_law_made" (defScope sMade) f cdv A outer s H E).nox.suite a ((a, oe) :: pn)).pn := List.mem_cons_self
      have q1 := hz.1
      have q2 := hz.2.1
      subst q1 q2
      exact pss_one (ps_ret (pe_xfX Z.aR hin hf (O.nf _ List.mem_cons_self) (pv 4)))
    have bad' : ∀ part, dueD dt dl dm df = some part → ∀ H' d, Same H H' → H' d = none → ∀ D' : Ends, D'.rt = Q → L2N.wManyAs K 4 (fun _ _ _ _ => False) D' [(.ref R, tsPart R)] (.ref R) (some d) [some t, some l, some m, some fr, none] (upd H' d (.xd [("part", .str part)])) := by
      intro part hp H' d sm nd' D' eD
      refine ⟨true, Z.nn, fun _ a na => ⟨_, rfl, rfl, [("part", .str part)], .str part, ⟨rfl, d, rfl, upd_same⟩, rfl, ?_⟩, fun z => Bool.noConfusion z⟩
      rw [eD]
      exact bad part hp _ (sm.trans (same_new nd'))
    have two : ∀ D' : Ends, D'.rt = Q → (tSeq (tIfS (tAnd (tTest (tOp rIsNo (tVar 0) (tC .non))) (tTest (tOp rIsBw (tVar 3) (tC (.bl false))))) (tRet (tMakeKS C 0 2 (spInit C R) gv2 (WE (L2N.wManyAs K 4 (fun _ _ _ _ => False) D' [(.ref R, tsPart R)])) tNil (tCons (tVar 2) (tCons (tVar 1) tNil)))) tNext)
        (tRet (tMakeKS C 0 4 (spInit C R) gv3 (WE (L2N.wManyAs K 4 (fun _ _ _ _ => False) D' [(.ref R, tsPart R)])) tNil (tCons (tVar 0) (tCons (tVar 1) (tCons (tVar 2) (tCons (tVar 3) tNil))))))) D' [some t, some l, some m, some fr, none] H := by
      intro D' eD
      have three : tRet (tMakeKS C 0 4 (spInit C R) gv3 (WE (L2N.wManyAs K 4 (fun _ _ _ _ => False) D' [(.ref R, tsPart R)])) tNil (tCons (tVar 0) (tCons (tVar 1) (tCons (tVar 2) (tCons (tVar 3) tNil))))) D' [some t, some l, some m, some fr, none] H := by
        refine ⟨_, rfl, _, rfl, _, rfl, _, rfl, rfl, rfl, ?_⟩
        rw [eD]
        exact make_read G (fun part hp H' d sm nd' => bad' part hp H' d sm nd' D' eD) fin
      refine ⟨_, rfl, rfl, _, rfl, ?_⟩
      by_cases ht : t = .non
      · refine ite_pos' (by simp [ht]) ⟨_, rfl, ?_, ?_, false, rfl, _, rfl, ?_⟩
        · rintro a rfl
          cases hsc
        · rintro a rfl
          cases hsc
        · by_cases hf : fr = .bl false
          · refine ite_pos' (by simp [hf]) ?_
            subst ht hf
            refine ⟨_, rfl, _, rfl, rfl, rfl, ?_⟩
            rw [eD]
            exact make_read G (fun part hp H' d sm nd' => bad' part hp H' d sm nd' D' eD) fin
          · exact ite_neg' (by simp [hf]) three
      · exact ite_neg' (by simp [ht]) (ite_neg' (by decide) three)
    refine ⟨_, rfl, rfl, _, rfl, ?_⟩
    by_cases hm : m = .non
    · refine ite_pos' (by simp [hm]) ⟨_, rfl, dl, .str "equal", G.l.dp, .str _, G.sl, by decide +kernel, _, rfl, ?_⟩
      cases he : PyData.eqv dl (.str "equal") with
      | false => exact ite_neg' (by decide) (two _ rfl)
      | true =>
        refine ite_pos' rfl ?_
        have hdl : dl = .str "equal" := by
          cases dl with
          | str z => exact congrArg PyData.str (eq_of_beq (show (z == ("equal" : Str)) = true from he))
          | _ => cases he
        subst hm hdl
        have hl : l = .str "equal" := by
          have gl := G.l
          cases gl
          rfl
        subst hl
        refine ⟨_, rfl, _, rfl, rfl, rfl, ?_⟩
        exact make_read G (fun part hp H' d sm nd' => bad' part hp H' d sm nd' _ rfl) fin
    · exact ite_neg' (by simp [hm]) (two _ rfl)
end
end My
namespace My
open PySem PySem.Spec PyProof.Rows Sx L2
section
variable {X : Cx}
/-- what no way reaches -/
theorem pss_dead {ss : List Stmt} : PSs X ss (fun _ _ _ => False) := ⟨fun _ _ _ _ _ _ h => h.elim⟩
end
/-- values without lists, tuples at most so deep -/
def flatD : Nat → PyData → Bool
  | _, .none => true
  | _, .bool _ => true
  | _, .int _ => true
  | _, .str _ => true
  | n + 1, .tuple ds => ds.all (flatD n) && decide (ds.length ≤ 1000)
  | _, _ => false
def spStrict (n : Nat) : Sp := fun vs H Q _ => ∃ v v' d, vs = [v, v'] ∧ Vd H v d ∧ Vd H v' d ∧ flatD n d = true ∧ ∀ H', Same H H' → Q (.bl true) H'
abbrev NS : List Str := ["one", "other", "at"]
section
variable {P : Program} {w : World} {K : PySem.W.Frag} {mg : Str → Option Value} {base : Heap}
theorem scStrict : FnScope NS ["one", "other"] (defScope sStrict) := ⟨rfl, rfl, rfl, by decide +kernel, rfl, by decide +kernel, by decide +kernel⟩
theorem Vd.fn {H : Hp} {v v' : V} {d : PyData} (h : Vd H v d) (h' : Vd H v' d) (hf : isTupD d = false) {n : Nat} (hn : flatD n d = true) : v = v' ∧ scal v v' = true := by
  cases h with
  | non => cases h'; exact ⟨rfl, rfl⟩
  | bl b => cases h'; exact ⟨rfl, rfl⟩
  | int i => cases h'; exact ⟨rfl, rfl⟩
  | str z hz => cases h'; exact ⟨rfl, rfl⟩
  | lst e k => cases n <;> cases hn
  | tup e k => cases hf
theorem cl_strict (D : DefAt K mg "_law_strict" sStrict ["one", "other"]) (T : Tw K mg) : ∀ n : Nat, Cl P w K mg base CX0 (n + 1) "_law_strict" (spStrict n) := by
  obtain ⟨f, fd, F, g, bd⟩ := D.ex
  have nd := scStrict.nd
  have body : ∀ (n k : Nat) (cS : n = 0 ∨ ∃ m, n = m + 1 ∧ Cl P w K mg base CX0 k "_law_strict" (spStrict m)), FnOk P w K mg base CX0 (k + 1) f fd ["one", "other"] (spStrict n) := by
    intro n k cS
    refine F.ok scStrict (fun vs H Q E h => ?_) (fun cdv A outer s H vs Q E hr h => ?_)
    · obtain ⟨v, v', d, rfl, _⟩ := h
      rfl
    · obtain ⟨v, v', d, rfl, hv, hv', hd, fin⟩ := h
      obtain ⟨t1, h1, a1, a2, a3, a4⟩ := hv.ty (K := K)
      obtain ⟨t2, h2, b1, b2, b3, b4⟩ := hv'.ty (K := K)
      rcases cS with rfl | ⟨m, rfl, cS⟩
      · refine ⟨_, pss_cons (ps_if (pt_val (pe_callB call_isi (by rfl) T.isi (by decide +kernel) (pa_cons (pv 1) (pa_cons (pe_bltn rfl T.tuple (by decide +kernel) (v := .ty "tuple") rfl) pa_nil)))) pss_dead pss_nil)
          (pss_cons (ps_if (PW.pt (pw_or (pt_cmpR op_ne (pe_callB call_isi (by rfl) T.isi (by decide +kernel) (pa_cons (pv 0) (pa_cons (pe_bltn rfl T.bool (by decide +kernel) (v := .ty "bool") rfl) pa_nil))) (pe_callB call_isi (by rfl) T.isi (by decide +kernel) (pa_cons (pv 1) (pa_cons (pe_bltn rfl T.bool (by decide +kernel) (v := .ty "bool") rfl) pa_nil))) (nomark _)) (pw_or1 (pt_cmpR op_ne (pe_callB call_isi (by rfl) T.isi (by decide +kernel) (pa_cons (pv 0) (pa_cons (pe_bltn rfl T.int (by decide +kernel) (v := .ty "int") rfl) pa_nil))) (pe_callB call_isi (by rfl) T.isi (by decide +kernel) (pa_cons (pv 1) (pa_cons (pe_bltn rfl T.int (by decide +kernel) (v := .ty "int") rfl) pa_nil))) (nomark _))))) (pss_one (ps_ret pe_bl)) pss_nil)
          (pss_one (ps_ret (pe_and (pe_cmpR op_eq (pv 0) (pv 1) (nomark _)) (pe_one (pe_cmpR op_eq (pe_callB call_isi (by rfl) T.isi (by decide +kernel) (pa_cons (pv 0) (pa_cons (pe_bltn rfl T.str (by decide +kernel) (v := .ty "str") rfl) pa_nil))) (pe_callB call_isi (by rfl) T.isi (by decide +kernel) (pa_cons (pv 1) (pa_cons (pe_bltn rfl T.str (by decide +kernel) (v := .ty "str") rfl) pa_nil))) (nomark _))))))), ?_⟩
        refine ⟨_, rfl, v', _, t2, _, _, rfl, .ty "tuple", h2, b4, _, rfl, ?_⟩
        have ht : isTupD d = false := by
          cases d with
          | tuple ds => cases hd
          | _ => rfl
        · refine ite_neg' (by rw [ht]; decide) ?_
          refine ⟨_, rfl, v, _, t1, _, _, rfl, .ty "bool", h1, a3, _, rfl, v', _, t2, _, _, rfl, .ty "bool", h2, b3, rfl, _, rfl, ite_neg' (by simp) ?_⟩
          refine ⟨_, rfl, v, _, t1, _, _, rfl, .ty "int", h1, a2, _, rfl, v', _, t2, _, _, rfl, .ty "int", h2, b2, rfl, _, rfl, ite_neg' (by simp) ?_⟩
          refine ⟨_, rfl, _, rfl, (hv.fn hv' ht hd).2, _, rfl, ite_pos' (by simp [(hv.fn hv' ht hd).1]) ?_⟩
          refine ⟨_, rfl, v, _, t1, _, _, rfl, .ty "str", h1, a1, _, rfl, v', _, t2, _, _, rfl, .ty "str", h2, b1, rfl, ?_⟩
          rw [show decide (V.bl (isStrD d) = V.bl (isStrD d)) = true from by simp]
          exact fin H (Same.refl _)
      · refine ⟨_, pss_cons (ps_if (pt_val (pe_callB call_isi (by rfl) T.isi (by decide +kernel) (pa_cons (pv 1) (pa_cons (pe_bltn rfl T.tuple (by decide +kernel) (v := .ty "tuple") rfl) pa_nil))))
            (pss_cons (ps_if (PW.pt (pw_or (pt_not (pt_val (pe_callB call_isi (by rfl) T.isi (by decide +kernel) (pa_cons (pv 0) (pa_cons (pe_bltn rfl T.tuple (by decide +kernel) (v := .ty "tuple") rfl) pa_nil))))) (pw_or1 (pt_cmpR op_ne (pe_callB call_len_seq (by rfl) T.len PySem.boot_len (pa_cons (pv 0) pa_nil)) (pe_callB call_len_seq (by rfl) T.len PySem.boot_len (pa_cons (pv 1) pa_nil)) (nomark _))))) (pss_one (ps_ret pe_bl)) pss_nil)
            (pss_one (ps_ret (pe_callB (cr_all rfl) (by rfl) T.all (by decide +kernel) (pa_cons (pe_lc (own := [("at", 2)]) (g := gName 2) (te := tCall (spStrict m) [] E0 (tCons (tOp (rIxT K) (tVar 0) (tVar 2)) (tCons (tOp (rIxT K) (tVar 1) (tVar 2)) tNil))) (by rfl) nd (pi_range1 rfl T.range (pa_cons (pe_callB call_len_seq (by rfl) T.len PySem.boot_len (pa_cons (pv 1) pa_nil)) pa_nil)) (blkOk_by (N := NS) (sc := defScope sStrict) (by decide +kernel)) (fun _ _ _ _ _ => pg_name (i := 2) nd rfl (.inl rfl)) (fun _ _ _ _ _ => pts_nil)
              (fun _ _ _ _ _ => pe_cl cS hr pass0 (pa_cons (pe_ix ix_tup (pv 0) (pv 2) (fun _ _ => rfl)) (pa_cons (pe_ix ix_tup (pv 1) (pv 2) (fun _ _ => rfl)) pa_nil)) (by omega))) pa_nil)))))
            pss_nil)
          (pss_cons (ps_if (PW.pt (pw_or (pt_cmpR op_ne (pe_callB call_isi (by rfl) T.isi (by decide +kernel) (pa_cons (pv 0) (pa_cons (pe_bltn rfl T.bool (by decide +kernel) (v := .ty "bool") rfl) pa_nil))) (pe_callB call_isi (by rfl) T.isi (by decide +kernel) (pa_cons (pv 1) (pa_cons (pe_bltn rfl T.bool (by decide +kernel) (v := .ty "bool") rfl) pa_nil))) (nomark _)) (pw_or1 (pt_cmpR op_ne (pe_callB call_isi (by rfl) T.isi (by decide +kernel) (pa_cons (pv 0) (pa_cons (pe_bltn rfl T.int (by decide +kernel) (v := .ty "int") rfl) pa_nil))) (pe_callB call_isi (by rfl) T.isi (by decide +kernel) (pa_cons (pv 1) (pa_cons (pe_bltn rfl T.int (by decide +kernel) (v := .ty "int") rfl) pa_nil))) (nomark _))))) (pss_one (ps_ret pe_bl)) pss_nil)
          (pss_one (ps_ret (pe_and (pe_cmpR op_eq (pv 0) (pv 1) (nomark _)) (pe_one (pe_cmpR op_eq (pe_callB call_isi (by rfl) T.isi (by decide +kernel) (pa_cons (pv 0) (pa_cons (pe_bltn rfl T.str (by decide +kernel) (v := .ty "str") rfl) pa_nil))) (pe_callB call_isi (by rfl) T.isi (by decide +kernel) (pa_cons (pv 1) (pa_cons (pe_bltn rfl T.str (by decide +kernel) (v := .ty "str") rfl) pa_nil))) (nomark _))))))), ?_⟩
        refine ⟨_, rfl, v', _, t2, _, _, rfl, .ty "tuple", h2, b4, _, rfl, ?_⟩
        cases ht : isTupD d with
        | false =>
          refine ite_neg' (by decide) ?_
          refine ⟨_, rfl, v, _, t1, _, _, rfl, .ty "bool", h1, a3, _, rfl, v', _, t2, _, _, rfl, .ty "bool", h2, b3, rfl, _, rfl, ite_neg' (by simp) ?_⟩
          refine ⟨_, rfl, v, _, t1, _, _, rfl, .ty "int", h1, a2, _, rfl, v', _, t2, _, _, rfl, .ty "int", h2, b2, rfl, _, rfl, ite_neg' (by simp) ?_⟩
          refine ⟨_, rfl, _, rfl, (hv.fn hv' ht hd).2, _, rfl, ite_pos' (by simp [(hv.fn hv' ht hd).1]) ?_⟩
          refine ⟨_, rfl, v, _, t1, _, _, rfl, .ty "str", h1, a1, _, rfl, v', _, t2, _, _, rfl, .ty "str", h2, b1, rfl, ?_⟩
          rw [show decide (V.bl (isStrD d) = V.bl (isStrD d)) = true from by simp]
          exact fin H (Same.refl _)
        | true =>
          refine ite_pos' rfl ?_
          cases hv with
          | @tup a xs ds e k =>
            cases hv' with
            | @tup a' ys _ e' k' =>
              have hd2 : (ds.all (flatD m) && decide (ds.length ≤ 1000)) = true := hd
              simp only [Bool.and_eq_true, decide_eq_true_eq] at hd2
              refine ⟨_, rfl, _, _, t1, _, _, rfl, .ty "tuple", h1, a4, _, rfl, ite_neg' (show ¬ ((!true) = true) from by decide) ?_⟩
              refine ⟨_, rfl, a, _, rfl, .inr (SqT.of e), _, rfl, a', _, rfl, .inr (SqT.of e'), rfl, _, rfl, ite_neg' (by rw [k.len, k'.len]; simp) ?_⟩
              refine ⟨_, rfl, a', _, rfl, .inr (SqT.of e'), _, rfl, by omega, by rw [k'.len]; omega, fun L nL => lc_range (lo := 0) (n := ys.length) (fun i H2 => Same H H2 ∧ H2 L = some (.lst (List.replicate i (.bl true)))) ?_ (fun i H2 hi pv => ?_) (fun H2 pv => ?_)⟩
              · exact ⟨same_new nL, upd_same⟩
              · obtain ⟨sm, hL⟩ := pv
                have hx : xs[i]? = some (xs[i]'(by rw [k.len, ← k'.len]; exact hi)) := List.getElem?_eq_getElem _
                have hy : ys[i]? = some (ys[i]'(by exact hi)) := List.getElem?_eq_getElem _
                obtain ⟨dx, q1, q2⟩ := k.at hx
                obtain ⟨dy, q3, q4⟩ := k'.at hy
                have q5 : dx = dy := Option.some.inj (q1.symm.trans q3)
                subst q5
                have ei : (0 + ((i : Nat) : Int)) = ((i : Nat) : Int) := by omega
                refine ⟨rfl, _, rfl, _, rfl, a, xs, ((i : Nat) : Int), _, rfl, (by rw [ei]), SqT.of (sm _ _ e), atI_nat hx, _, rfl, _, rfl, a', ys, ((i : Nat) : Int), _, rfl, (by rw [ei]), SqT.of (sm _ _ e'), atI_nat hy, _, _, dx, rfl, q2.up sm, q4.up sm, ?_, fun H3 s3 => ⟨_, s3 _ _ hL, ?_, fun c o q => ?_, ?_⟩⟩
                · exact List.all_eq_true.mp hd2.1 dx (List.mem_of_getElem? q1)
                · have := k'.len
                  rw [List.length_replicate, sizeLine_eq]
                  omega
                · rw [upd_ne (ne_of_none q nL)]
                  exact s3 _ _ (sm _ _ q)
                · rw [upd_same, List.replicate_succ']
              · obtain ⟨sm, hL⟩ := pv
                have hL2 : H2 L = some (.lst ((List.replicate ys.length true).map V.bl)) := by
                  rw [hL, List.map_replicate]
                refine ⟨L, _, rfl, SqL.of hL2, ?_⟩
                have e9 : (List.replicate ys.length true).all _root_.id = true := List.all_eq_true.mpr fun b hb => by
                  rw [List.eq_of_mem_replicate hb]
                  rfl
                rw [e9]
                exact fin H2 sm
          | _ => cases ht
  intro n
  induction n with
  | zero => exact ⟨f, fd, _, body 0 0 (.inl rfl), g, F.kp, bd⟩
  | succ m ih => exact ⟨f, fd, _, body (m + 1) (m + 1) (.inr ⟨m, rfl, ih⟩), g, F.kp, bd⟩
end
end My
namespace L2
open PySem PySem.Spec PyProof.Rows
theorem tuple_mulE (l : Addr) (items : Array Value) (n : Nat) (dd : Option Addr) (sl : Array (Option Value)) (u : Tok) (hi : items.isEmpty = true) :
    Meets (Builtin.«tuple.__mul__» ⟨[.ref l, .int 2 u], []⟩) (fun _ R s => s.heap.get? l = some { cls := .type "tuple", dict := dd, data := .seq items n, slots := sl } ∧ R (.ok (.ret (Value.ref l))) s) :=
  .of_wp fun prog w A R s h => by
    obtain ⟨hp, g, d, tk, os⟩ := s
    obtain ⟨hl, h⟩ := h
    have f1 := AutoSeq1.idx_int
    have c1 : (items.isEmpty || (2 : Int) == 1) = true := by rw [hi]; rfl
    wp_walk using wpAny_loadPart' hl
    repeat (first
      | (refine wpAny_ite_true (by rw [c1]) ?_; wp_walk using wpAny_loadPart' hl)
      | (refine wpAny_ite_false (by decide) ?_; wp_walk using wpAny_loadPart' hl))
    exact ⟨_, rfl, h⟩
def rRepE (K : PySem.W.Frag) : R2 := fun x y H Q => ∃ l, x = .ref l ∧ y = .int 2 ∧ SqT K H l [] ∧ Q (.ref l) H
section
variable {X : Cx}
theorem op_repE : OpR X (binaryOp .Mult) (rRepE X.K) := by
  intro pins s σ H x y v u Q I rx ry h
  obtain ⟨l, rfl, rfl, hT, q⟩ := h
  cases rx
  obtain ⟨t, rfl⟩ := ry
  obtain ⟨its, r, ⟨⟨cls, dd, data, sl⟩, ho, hc, n, hd⟩, hs⟩ := I.tuple hT
  simp only at hc hd
  subst hc hd
  cases r
  refine wpAny_binaryOp_repeat_ref (T := "tuple") (U := "int") (by decide) ⟨_, ho, rfl⟩ (fun s' => typeIs_int s' 2 t) noFill_tuple_mul F.fills_int_mul F.slot_int_rmul repeat_tuple F.slot_int_index.lookup
    (call_meets F.slot_int_rmul (typeIs_int s 2 t) F.entry_int_rmul (F.args_int_rmul_2 _ _) (int_rmul_tuple 2 t l _ n dd sl)
      ⟨ho, rfl, ⟨_, ho, rfl⟩, call_meets F.slot_tuple_mul ⟨_, ho, rfl⟩ F.entry_tuple_mul (F.args_tuple_mul_2 _ _) (tuple_mulE l _ n dd sl t rfl) ⟨ho, ?_⟩⟩)
  exact ⟨.ref l, H, I, rfl, q⟩
/-- a tracked tuple twice: itself if it is empty, else a new one -/
def rRepB : R2 := fun x y H Q => ∃ l xs, x = .ref l ∧ y = .int 2 ∧ H l = some (.tup xs) ∧ xs.length ≤ 1000 ∧ ∀ q H', Same H H' → H' q = some (.tup (xs ++ xs)) → (q = l ∨ H q = none) → Q (.ref q) H'
theorem op_repB : OpR X (binaryOp .Mult) rRepB := by
  intro pins s σ H x y v u Q I rx ry h
  obtain ⟨l, xs, rfl, rfl, hl, hn, q1⟩ := h
  by_cases hx : xs = []
  · subst hx
    exact op_repE pins s σ H _ _ v u Q I rx ry ⟨l, rfl, rfl, SqT.of hl, q1 l H (Same.refl _) hl (.inl rfl)⟩
  · refine op_repT pins s σ H _ _ v u Q I rx ry ⟨l, 2, xs, rfl, rfl, SqT.of hl, hx, by decide, by decide, hn, fun p hp => ?_⟩
    have e : (List.replicate (Int.toNat 2) xs).flatten = xs ++ xs := by
      show (List.replicate 2 xs).flatten = xs ++ xs
      simp [List.replicate]
    rw [e]
    exact q1 p _ (fun b u e => by rw [upd_ne (ne_of_none e hp)]; exact e) upd_same (.inr hp)
end
end L2
namespace My
open PySem PySem.Spec PyProof.Rows Sx L2
/-- what was not there before -/
def news (H H' : Hp) : Hp := fun c => if (H c).isNone = true then H' c else none
theorem news_at {H H' : Hp} {c : Addr} (h : H c = none) : news H H' c = H' c := by
  unfold news
  rw [h]
  rfl
theorem news_same {H H' : Hp} : Same (news H H') H' := fun c o e => by
  unfold news at e
  by_cases h : (H c).isNone = true
  · rw [if_pos h] at e
    exact e
  · rw [if_neg h] at e
    cases e
theorem news_none {H H' : Hp} {c : Addr} {o : HO} (h : H c = some o) : news H H' c = none := by
  unfold news
  rw [h]
  rfl
theorem news_up {H H' H'' : Hp} {b : Addr} {o : HO} (hb : H b = some o) (bt : But b H' H'') : Same (news H H') (news H H'') := fun c u e => by
  unfold news at e ⊢
  by_cases h : (H c).isNone = true
  · rw [if_pos h] at e ⊢
    refine bt c u (fun z => ?_) e
    rw [z, hb] at h
    cases h
  · rw [if_neg h] at e
    cases e
theorem news_sm {H H' H'' : Hp} (sm : Same H' H'') : Same (news H H') (news H H'') := fun c u e => by
  unfold news at e ⊢
  by_cases h : (H c).isNone = true
  · rw [if_pos h] at e ⊢
    exact sm c u e
  · rw [if_neg h] at e
    cases e
theorem layAll_of : ∀ {ds : List PyData} {n : Nat}, (∀ d ∈ ds, d.canLay0 = true ∧ d.depth ≤ n) → PyData.canLayAll0 ds = true ∧ PyData.depthAll ds ≤ n
  | [], _, _ => ⟨rfl, Nat.zero_le _⟩
  | d :: ds, n, h => by
    have h1 := h d List.mem_cons_self
    have h2 := layAll_of (ds := ds) (n := n) fun e he => h e (List.mem_cons_of_mem _ he)
    refine ⟨?_, ?_⟩
    · unfold PyData.canLayAll0
      rw [h1.1, h2.1]
      rfl
    · unfold PyData.depthAll
      exact Nat.max_le.mpr ⟨h1.2, h2.2⟩
def LayN (n : Nat) (d : PyData) : Prop := d.canLay0 = true ∧ d.depth ≤ n
theorem LayN.mono {n m : Nat} {d : PyData} (h : LayN n d) (k : n ≤ m) : LayN m d := ⟨h.1, Nat.le_trans h.2 k⟩
theorem LayN.tup {n : Nat} {ds : List PyData} (h : ∀ d ∈ ds, LayN n d) : LayN (n + 1) (.tuple ds) := by
  have z := layAll_of h
  refine ⟨?_, ?_⟩
  · unfold PyData.canLay0
    exact z.1
  · unfold PyData.depth
    have := z.2
    omega
theorem LayN.lst {n : Nat} {ds : List PyData} (h : ∀ d ∈ ds, LayN n d) : LayN (n + 1) (.list ds) := by
  have z := layAll_of h
  refine ⟨?_, ?_⟩
  · unfold PyData.canLay0
    exact z.1
  · unfold PyData.depth
    have := z.2
    omega
theorem LayN.shaped {n : Nat} {d : PyData} (h : LayN n d) (k : n ≤ 64) : SeqAt.shaped d = true := by
  unfold SeqAt.shaped
  rw [h.1, Bool.true_and]
  exact decide_eq_true (Nat.le_trans h.2 k)
theorem shaped4 {dt dl dm df : PyData} (h1 : LayN 3 dt) (h2 : LayN 3 dl) (h3 : LayN 3 dm) (h4 : LayN 3 df) : SeqAt.shaped (.tuple [dt, dl, dm, df]) = true := by
  refine (LayN.tup (n := 3) fun d hd => ?_).shaped (by omega)
  simp only [List.mem_cons, List.not_mem_nil, or_false] at hd
  rcases hd with rfl | rfl | rfl | rfl <;> assumption
theorem lay_str {y : Str} (h : (y.cps.toList.all fun c => decide (c < 0x110000)) = true) : LayN 0 (.str y) := ⟨by
  show y.cps.all (· < 0x110000) = true
  rw [← Array.all_toList]
  exact h, Nat.le_refl _⟩
theorem lay_word {z : Str} (hb : wordB z = true) : LayN 0 (.str z) := by
  refine lay_str (List.all_eq_true.mpr fun c hc => ?_)
  unfold wordB lowB at hb
  simp only [Bool.and_eq_true, decide_eq_true_eq, List.all_eq_true] at hb
  have := hb.1.2 c hc
  simp only [decide_eq_true_eq]
  omega
theorem VdAll.strs {H : Hp} : ∀ {fs : List Str}, (∀ z ∈ fs, z.length ≤ 1000) → VdAll H (fs.map V.str) (fs.map PyData.str)
  | [], _ => .nil
  | z :: fs, h => .cons (.str z (h z List.mem_cons_self)) (VdAll.strs fun y hy => h y (List.mem_cons_of_mem _ hy))
theorem VdAll.append {H : Hp} : ∀ {vs ws : List V} {ds es : List PyData}, VdAll H vs ds → VdAll H ws es → VdAll H (vs ++ ws) (ds ++ es)
  | _, _, [], _, h, k => by
    cases h
    exact k
  | _, _, _ :: _, _, h, k => by
    cases h with
    | cons h1 h2 => exact .cons h1 (VdAll.append h2 k)
theorem word_len {z : Str} (h : wordB z = true) : z.length ≤ 8 := by
  unfold wordB at h
  simp only [Bool.and_eq_true, decide_eq_true_eq] at h
  exact h.1.1.2
/-- sum of two tracked tuples -/
def rCatM : R2 := fun x y H Q => ∃ a b xs ys, x = .ref a ∧ y = .ref b ∧ H a = some (.tup xs) ∧ H b = some (.tup ys) ∧ xs.length + ys.length ≤ 1000 ∧ ∀ q H', Same H H' → H' q = some (.tup (xs ++ ys)) → (q = a ∨ q = b ∨ H q = none) → Q (.ref q) H'
theorem op_catM {X : Cx} : OpR X (binaryOp .Add) rCatM := by
  intro pins s σ H x y v u Q I rx ry h
  obtain ⟨a, b, xs, ys, rfl, rfl, ha, hb, hl, q1⟩ := h
  refine op_catA pins s σ H _ _ v u Q I rx ry ⟨a, b, xs, ys, rfl, rfl, SqT.of ha, SqT.of hb, by rw [sizeLine_eq]; omega, fun e => ?_, fun _ e => ?_, fun _ _ p hp => ?_⟩
  · exact q1 b H (Same.refl _) (by rw [e]; exact hb) (.inr (.inl rfl))
  · exact q1 a H (Same.refl _) (by rw [e, List.append_nil]; exact ha) (.inl rfl)
  · exact q1 p _ (same_new hp) upd_same (.inr (.inr hp))
end My
namespace My
open PySem PySem.Spec PyProof.Rows Sx L2
abbrev sCallers : Stmt := top 23
abbrev NC : List Str := ["pot", "terms", "great", "passes", "gaze", "some", "some_parts", "is_new", "due"]
def dueV : Option Str → V
  | none => .non
  | some z => .str z
/-- data that is drawn -/
def PD (G : Hp) (v : V) : Prop := ∃ d, Vd G v d ∧ LayN 3 d
/-- .. as the names of methods -/
def PO (G : Hp) (ws : List Str) (v : V) : Prop := ∃ d, Vd G v d ∧ LayN 3 d ∧ ∀ ds, d = .tuple ds → ds.length ≤ 1000 ∧ ∀ e ∈ ds, inWs ws e = wordD e
theorem PD.up {G G' : Hp} {v : V} (h : PD G v) (s : Same G G') : PD G' v := h.imp fun _ k => ⟨k.1.up s, k.2⟩
theorem PO.up {G G' : Hp} {ws : List Str} {v : V} (h : PO G ws v) (s : Same G G') : PO G' ws v := h.imp fun _ k => ⟨k.1.up s, k.2⟩
def spCallers : Sp := fun vs H Q _ => ∃ (b tw : Addr) (n : Nat) (xs : List V) (ws : List Str), vs = [.ref b, .ref tw] ∧ H b = some (.lst xs) ∧ BagL n xs ∧ n < 800000 ∧ H tw = some (.lst (ws.map V.str)) ∧ tw ≠ b ∧ ws.length = 20 ∧ (∀ z ∈ ws, wordB z = true) ∧
  ∀ p g t l m f dt dl dm df H' zs, But b H H' → H' b = some (.lst zs) → BagL (n + 20) zs → news H H' p = some (.tup [.ref g, dueV (dueD dt dl dm df)]) → news H H' g = some (.tup [t, l, m, f]) → Given (news H H') t l m f dt dl dm df → isScV f = true → Q (.ref p) H'
/-- new for the one who called -/
theorem free_of {b c : Addr} {H H1 : Hp} {o : HO} (bt : But b H H1) (hb : H1 b = some o) (e : H1 c = none) : H c = none := by
  cases hx : H c with
  | none => rfl
  | some u =>
    by_cases hc : c = b
    · rw [hc, hb] at e
      cases e
    · rw [bt c u hc hx] at e
      cases e
section
variable {P : Program} {w : World} {K : PySem.W.Frag} {mg : Str → Option Value} {base : Heap}
theorem scCallers : FnScope NC ["pot", "terms"] (defScope sCallers) := ⟨rfl, rfl, rfl, by decide +kernel, rfl, by decide +kernel, by decide +kernel⟩
/-- from a list of data one of them -/
theorem seqB_of {K : PySem.W.Frag} {H : Hp} {b l : Addr} {ys : List V} (h : H l = some (.lst ys)) (hne : l ≠ b) : SeqB K H b l ys := ⟨.inl (SqL.of h), fun zs => .inl (SqL.of (by rw [upd_ne hne]; exact h))⟩
theorem ne_b {b L : Addr} {H2 : Hp} {o : HO} (hb : H2 b = some o) (nL : H2 L = none) : L ≠ b := fun z => by
  rw [z, hb] at nL
  cases nL
theorem of_read {K : PySem.W.Frag} {H H2 : Hp} {b L : Addr} {k : Nat} {z1 ys : List V} {ob : HO} {Q : VK} {E : XK} (R : Hp → V → Prop) (Rup : ∀ {G G' : Hp} {v : V}, R G v → Same G G' → R G' v) (hb : H b = some ob) (bt : But b H H2) (hb2 : H2 b = some (.lst z1)) (hB : BagL k z1) (hk : k < 1000000)
    (hL : H2 L = some (.lst ys)) (ne : L ≠ b) (h0 : 0 < ys.length) (h1 : ys.length < 1000000) (hR : ∀ v ∈ ys, R (news H H2) v)
    (fin : ∀ v zs, R (news H (upd H2 b (.lst zs))) v → But b H2 (upd H2 b (.lst zs)) → But b H (upd H2 b (.lst zs)) → (upd H2 b (.lst zs)) b = some (.lst zs) → BagL (k + 1) zs → Q v (upd H2 b (.lst zs))) : spOf K [.ref b, .ref L] H2 Q E :=
  ⟨b, L, k, z1, ys, rfl, hb2, hB, hk, seqB_of hL ne, h0, h1, fun i v zs hv hZ => fin v zs (Rup (hR v (List.mem_of_getElem? hv)) (news_up hb But.up)) But.up (bt.trans But.up) upd_same hZ⟩
theorem pd_non {G : Hp} : PD G .non := ⟨_, .non, rfl, Nat.zero_le _⟩
theorem pd_int {G : Hp} {i : Int} : PD G (.int i) := ⟨_, .int i, rfl, Nat.zero_le _⟩
theorem pd_bl {G : Hp} {i : Bool} : PD G (.bl i) := ⟨_, .bl i, rfl, Nat.zero_le _⟩
theorem pd_str {G : Hp} {y : Str} (hl : y.length ≤ 1000) (h : (y.cps.toList.all fun c => decide (c < 0x110000)) = true) : PD G (.str y) := ⟨_, .str y hl, (lay_str h).mono (Nat.zero_le _)⟩
/-- a flag or its like -/
def PF (_ : Hp) (v : V) : Prop := isScV v = true ∧ ∃ d, (∀ G, Vd G v d) ∧ LayN 3 d
theorem great_pos : (0 : Int) < 10 ^ Int.toNat 49 * 10 ^ Int.toNat 50 := by decide +kernel
theorem great_lt : (10 : Int) ^ Int.toNat 49 * 10 ^ Int.toNat 50 < 2 ^ 4000 := by decide +kernel
theorem great_w : CMulW (10 ^ Int.toNat 49) (10 ^ Int.toNat 50) := wide_mul (a := 200) (b := 200) (by decide +kernel) (by decide +kernel) (by decide) (by decide) (by decide)
theorem cl_callers (D : DefAt K mg "_law_callers" sCallers ["pot", "terms"]) (T : Tw K mg) (hlist : mg "list" = none) (cT : Cl P w K mg base CX0 1 "_law_take" spTake) (cO : Cl P w K mg base CX0 2 "_law_of" (spOf K)) (cP : Cl P w K mg base CX0 2 "_law_picked" (spPicked K)) (cA : Cl P w K mg base CX0 1 "_law_are_words" spAreW) :
    Cl P w K mg base CX0 3 "_law_callers" spCallers := by
  obtain ⟨f, fd, F, g, bd⟩ := D.ex
  refine ⟨f, fd, _, F.ok scCallers (fun vs H Q E h => ?_) (fun cdv A outer s H vs Q E hr h => ?_), g, F.kp, bd⟩
  · obtain ⟨b, tw, n, xs, ws, rfl, _⟩ := h
    rfl
  · obtain ⟨b, tw, n, xs, ws, rfl, hb, hB, hn, htw, ntb, hwl, hw, fin⟩ := h
    have nd := scCallers.nd
    have szs : sizeLine = 16777216 := sizeLine_eq
    refine ⟨_, C8.pss_cut (ps_set (i := 2) nd rfl (.inl rfl) (pe_cl cT hr pass0 (pa_cons (pv 0) (pa_cons (pe_op op_mulW (pe_op op_pow pe_int pe_int) (pe_op op_pow pe_int pe_int)) pa_nil))))
      (C8.pss_cut (ps_set (i := 3) nd rfl (.inl rfl) (pe_cl cO hr pass0 (pa_cons (pv 0) (pa_cons (pe_lst (pa_cons pe_non (pa_cons pe_int (pa_cons pe_int (pa_cons (pv 2) (pa_cons (pv 2) (pa_cons (pe_op op_sub (pe_un un_neg pe_int) (pv 2)) (pa_cons pe_bl (pa_cons pe_bl (pa_cons pe_str (pa_cons (pe_tup pa_nil) pa_nil))))))))))) pa_nil))))
      (C8.pss_cut (ps_set (i := 4) nd rfl (.inl rfl) (pe_cl cO hr pass0 (pa_cons (pv 0) (pa_cons (pe_lst (pa_cons pe_str (pa_cons pe_str (pa_cons pe_str (pa_cons pe_str (pa_cons pe_str (pa_cons pe_non (pa_cons pe_bl (pa_cons (pe_lst (pa_cons pe_str pa_nil)) (pa_cons pe_str pa_nil)))))))))) pa_nil))))
      (C8.pss_cut (ps_set (i := 5) nd rfl (.inl rfl) (pe_callTy call_tuple_of (by rfl) T.tuple (by decide +kernel) (pa_cons (pe_cl cP hr pass0 (pa_cons (pv 0) (pa_cons (pv 1) (pa_cons (pe_cl cT hr pass0 (pa_cons (pv 0) (pa_cons pe_int pa_nil))) pa_nil)))) pa_nil)))
      (C8.pss_cut (ps_set (i := 6) nd rfl (.inl rfl) (pe_lst (pa_cons pe_non (pa_cons (pv 5) (pa_cons (pe_op op_repB (pv 5) pe_int) (pa_cons (pe_tup pa_nil) (pa_cons (pv 5) (pa_cons (pe_callTy call_list_of (by rfl) hlist (by decide +kernel) (pa_cons (pv 5) pa_nil)) (pa_cons (pe_tup (pa_cons pe_str pa_nil)) (pa_cons (pe_tup (pa_cons pe_non pa_nil)) (pa_cons (pe_ix ix_list (pv 1) pe_int (fun _ _ => rfl)) (pa_cons (pe_tup (pa_cons pe_str pa_nil)) (pa_cons (pe_tup (pa_cons (pv 5) pa_nil)) (pa_cons pe_int pa_nil))))))))))))))
      (C8.pss_cut (ps_set (i := 6) nd rfl (.inl rfl) (pe_op op_cat (pv 6) (pe_lst (pa_cons (pe_op op_catM (pv 5) (pe_tup (pa_cons pe_str pa_nil))) (pa_cons (pe_op op_catM (pv 5) (pe_tup (pa_cons (pe_lst pa_nil) pa_nil))) (pa_cons (pe_op op_catM (pe_op op_catM (pv 5) (pe_tup (pa_cons pe_non pa_nil))) (pv 5)) pa_nil))))))
      (C8.pss_cut (ps_set (i := 6) nd rfl (.inl rfl) (pe_cl cO hr pass0 (pa_cons (pv 0) (pa_cons (pv 6) pa_nil))))
      (C8.pss_cut (ps_set (i := 7) nd rfl (.inl rfl) (pe_cl cO hr pass0 (pa_cons (pv 0) (pa_cons (pe_lst (pa_cons pe_bl (pa_cons pe_bl (pa_cons pe_bl (pa_cons pe_bl (pa_cons pe_non (pa_cons pe_int (pa_cons pe_int (pa_cons pe_str pa_nil))))))))) pa_nil))))
      (pss_cons (ps_set (i := 8) nd rfl (.inl rfl) pe_non)
      (C8.pss_cut (ps_if (PW.pt (pw_and (pt_cmpR op_notN (pv 3) pe_non (nomark _)) (pw_and1 (PW.pt (pw_or (pt_val (pe_callB call_isi (by rfl) T.isi (by decide +kernel) (pa_cons (pv 3) (pa_cons (pe_bltn rfl T.bool (by decide +kernel) (v := .ty "bool") rfl) pa_nil)))) (pw_or (pt_not (pt_val (pe_callB call_isi (by rfl) T.isi (by decide +kernel) (pa_cons (pv 3) (pa_cons (pe_bltn rfl T.int (by decide +kernel) (v := .ty "int") rfl) pa_nil))))) (pw_or1 (pt_cmpR op_lt (pv 3) pe_int (nomark _)))))))))
          (pss_one (ps_set (i := 8) nd rfl (.inl rfl) pe_str))
          (pss_one (ps_if (PW.pt (pw_or (pt_not (pt_val (pe_callB call_isi (by rfl) T.isi (by decide +kernel) (pa_cons (pv 4) (pa_cons (pe_bltn rfl T.str (by decide +kernel) (v := .ty "str") rfl) pa_nil))))) (pw_or1 (pt_cmpR op_notIn_seq (pv 4) (pe_tup (pa_cons pe_str (pa_cons pe_str pa_nil))) rfl))))
            (pss_one (ps_set (i := 8) nd rfl (.inl rfl) pe_str))
            (pss_one (ps_if (PW.pt (pw_and (pt_cmpR op_notN (pv 6) pe_non (nomark _)) (pw_and1 (pt_not (pt_val (pe_cl cA hr pass0 (pa_cons (pv 6) (pa_cons (pv 1) pa_nil))))))))
              (pss_one (ps_set (i := 8) nd rfl (.inl rfl) pe_str))
              (pss_one (ps_if (pt_not (pt_val (pe_callB call_isi (by rfl) T.isi (by decide +kernel) (pa_cons (pv 7) (pa_cons (pe_bltn rfl T.bool (by decide +kernel) (v := .ty "bool") rfl) pa_nil)))))
                (pss_one (ps_set (i := 8) nd rfl (.inl rfl) pe_str)) pss_nil)))))))
      (pss_one (ps_ret (pe_tup (pa_cons (pe_tup (pa_cons (pv 3) (pa_cons (pv 4) (pa_cons (pv 6) (pa_cons (pv 7) pa_nil))))) (pa_cons (pv 8) pa_nil)))))))))))))), ?_⟩
    refine ⟨fun σ' H' => ∃ (gr : Int) (zs : List V), σ' = [some (.ref b), some (.ref tw), some (.int gr), none, none, none, none, none, none] ∧ But b H H' ∧ H' b = some (.lst zs) ∧ BagL (n + 1) zs, ?_, ?_⟩
    · refine ⟨_, rfl, _, _, rfl, rfl, ⟨by decide, by decide, by decide⟩, _, _, rfl, rfl, ⟨by decide, by decide, by decide⟩, _, _, rfl, rfl, great_w, b, _, n, xs, rfl, hb, hB, by omega, great_pos, great_lt, fun r zs h0 h1 hZ => ?_⟩
      exact ⟨r, zs, rfl, But.up, upd_same, hZ⟩
    · rintro _ H1 ⟨gr, z1, rfl, bt1, hb1, hB1⟩
      refine ⟨fun σ' H' => ∃ (t : V) (zs : List V), σ' = [some (.ref b), some (.ref tw), some (.int gr), some t, none, none, none, none, none] ∧ PD (news H H') t ∧ But b H H' ∧ H' b = some (.lst zs) ∧ BagL (n + 2) zs, ?_, ?_⟩
      · refine ⟨_, rfl, _, rfl, _, rfl, _, rfl, _, rfl, _, _, rfl, rfl, (by show 0 ≤ sizeLine; decide), fun Em nE => ⟨(by show 10 ≤ sizeLine; decide), fun L nL => ?_⟩⟩
        have s1 := same_new (o := .tup []) nE
        have s2 := same_new (o := .lst [.non, .int 0, .int 1, .int gr, .int gr, .int (-1 - gr), .bl true, .bl false, .str "0", .ref Em]) nL
        refine of_read (E := fun _ _ _ => False) PD PD.up hb (bt1.trans (But.of (s1.trans s2))) (s2 _ _ (s1 _ _ hb1)) hB1 (by omega) upd_same (ne_b (s1 _ _ hb1) nL) (by show 0 < 10; decide) (by show 10 < 1000000; decide) (fun v hv => ?_) (fun v zs hv _ bt hb' hZ => ⟨v, zs, rfl, hv, bt, hb', hZ⟩)
        simp only [List.mem_cons, List.not_mem_nil, or_false] at hv
        rcases hv with rfl | rfl | rfl | rfl | rfl | rfl | rfl | rfl | rfl | rfl
        · exact pd_non
        · exact pd_int
        · exact pd_int
        · exact pd_int
        · exact pd_int
        · exact pd_int
        · exact pd_bl
        · exact pd_bl
        · exact pd_str (by decide +kernel) (by decide +kernel)
        · exact ⟨.tuple [], .tup (by rw [news_at (free_of bt1 hb1 nE)]; exact s2 _ _ upd_same) .nil, (LayN.tup (n := 0) (ds := []) fun d hd => nomatch hd).mono (by omega)⟩
      · rintro _ H2 ⟨t, z2, rfl, pt, bt2, hb2, hB2⟩
        refine ⟨fun σ' H' => ∃ (l : V) (zs : List V), σ' = [some (.ref b), some (.ref tw), some (.int gr), some t, some l, none, none, none, none] ∧ PD (news H H') t ∧ PD (news H H') l ∧ But b H H' ∧ H' b = some (.lst zs) ∧ BagL (n + 3) zs, ?_, ?_⟩
        · refine ⟨_, rfl, (by show 1 ≤ sizeLine; decide), fun Em nE => ⟨(by show 9 ≤ sizeLine; decide), fun L nL => ?_⟩⟩
          have s1 := same_new (o := .lst [.str "same"]) nE
          have s2 := same_new (o := .lst [.str "equal", .str "same", .str "equal", .str "same", .str "", .non, .bl true, .ref Em, .str "Equal"]) nL
          refine of_read (E := fun _ _ _ => False) PD PD.up hb (bt2.trans (But.of (s1.trans s2))) (s2 _ _ (s1 _ _ hb2)) hB2 (by omega) upd_same (ne_b (s1 _ _ hb2) nL) (by show 0 < 9; decide) (by show 9 < 1000000; decide) (fun v hv => ?_) (fun v zs hv bt' bt hb' hZ => ⟨v, zs, rfl, pt.up (news_up hb ((But.of (s1.trans s2)).trans bt')), hv, bt, hb', hZ⟩)
          simp only [List.mem_cons, List.not_mem_nil, or_false] at hv
          rcases hv with rfl | rfl | rfl | rfl | rfl | rfl | rfl | rfl | rfl
          · exact pd_str (by decide +kernel) (by decide +kernel)
          · exact pd_str (by decide +kernel) (by decide +kernel)
          · exact pd_str (by decide +kernel) (by decide +kernel)
          · exact pd_str (by decide +kernel) (by decide +kernel)
          · exact pd_str (by decide +kernel) (by decide +kernel)
          · exact pd_non
          · exact pd_bl
          · refine ⟨.list [.str "same"], .lst (by rw [news_at (free_of bt2 hb2 nE)]; exact s2 _ _ upd_same) (.cons (.str _ (by decide +kernel)) .nil), (LayN.lst (n := 0) fun d hd => ?_).mono (by omega)⟩
            rw [List.mem_singleton.mp hd]
            exact lay_str (by decide +kernel)
          · exact pd_str (by decide +kernel) (by decide +kernel)
        · rintro _ H3 ⟨l, z3, rfl, pt3, pl3, bt3, hb3, hB3⟩
          refine ⟨fun σ' H' => ∃ (S : Addr) (fs : List Str) (zs : List V), σ' = [some (.ref b), some (.ref tw), some (.int gr), some t, some l, some (.ref S), none, none, none] ∧ PD (news H H') t ∧ PD (news H H') l ∧ news H H' S = some (.tup (fs.map V.str)) ∧ fs.length ≤ 20 ∧ (∀ z ∈ fs, z ∈ ws) ∧ But b H H' ∧ H' b = some (.lst zs) ∧ BagL (n + 8) zs, ?_, ?_⟩
          · refine ⟨_, rfl, _, rfl, _, rfl, b, _, n + 3, z3, rfl, hb3, hB3, by omega, by decide, by decide +kernel, fun r zs h0 h1 hZ => ?_⟩
            obtain ⟨k, rfl⟩ := Int.eq_ofNat_of_zero_le h0
            refine ⟨b, tw, k, n + 4, zs, ws, rfl, by omega, upd_same, hZ, by omega, ?_, by omega, fun F H' fs zs' nF bt' hb' hB' hF hfl hfs => ⟨F, _, rfl, .inl ⟨SqL.of hF, fun S nS => ?_⟩⟩⟩
            · rw [upd_ne ntb]
              exact bt3 _ _ ntb htw
            · have s1 := same_new (o := .tup (fs.map V.str)) nS
              have bt4 : But b H H' := bt3.trans (But.up.trans bt')
              have up := news_up hb ((But.up (b := b) (H := H3) (o := .lst zs)).trans (bt'.trans (But.of s1)))
              exact ⟨S, fs, zs', rfl, pt3.up up, pl3.up up, by rw [news_at (free_of bt4 hb' nS)]; exact upd_same, by omega, hfs, bt4.trans (But.of s1), s1 _ _ hb', hB'.mono (by omega)⟩
          · rintro _ H4 ⟨S, fs, z4, rfl, pt4, pl4, hS4, hfl, hfs, bt4, hb4, hB4⟩
            have hS4' : H4 S = some (.tup (fs.map V.str)) := news_same _ _ hS4
            have hw4 : H4 tw = some (.lst (ws.map V.str)) := bt4 _ _ ntb htw
            have hfw : ∀ z ∈ fs, wordB z = true := fun z hz => hw z (hfs z hz)
            have dfs : ∀ {G : Hp}, VdAll G (fs.map V.str) (fs.map PyData.str) := fun {G} => VdAll.strs fun z hz => by have := word_len (hfw z hz); omega
            have lfs : ∀ d ∈ fs.map PyData.str, LayN 0 d := fun d hd => by
              obtain ⟨z, hz, rfl⟩ := List.mem_map.mp hd
              exact lay_word (hfw z hz)
            have efs : ∀ e ∈ fs.map PyData.str, inWs ws e = wordD e := fun e he => by
              obtain ⟨z, hz, rfl⟩ := List.mem_map.mp he
              show decide (z ∈ ws) = wordB z
              rw [hfw z hz]
              exact decide_eq_true (hfs z hz)
            have noA : inWs ws (.str "A") = wordD (.str "A") := by
              have e : wordB "A" = false := by decide +kernel
              show decide (("A" : Str) ∈ ws) = wordB "A"
              rw [e]
              refine decide_eq_false fun hm => ?_
              rw [hw _ hm] at e
              cases e
            have noIf : inWs ws (.str "if") = wordD (.str "if") := by
              have e : wordB "if" = false := by decide +kernel
              show decide (("if" : Str) ∈ ws) = wordB "if"
              rw [e]
              refine decide_eq_false fun hm => ?_
              rw [hw _ hm] at e
              cases e
            obtain ⟨w0, hw0⟩ : ∃ w0, ws[0]? = some w0 := ⟨ws[0]'(by omega), List.getElem?_eq_getElem (by omega)⟩
            have mkT : ∀ {G : Hp} {q : Addr} {vs : List V} {ds : List PyData}, G q = some (.tup vs) → VdAll G vs ds → (∀ d ∈ ds, LayN 2 d) → ds.length ≤ 1000 → (∀ e ∈ ds, inWs ws e = wordD e) → PO G ws (.ref q) := fun {G q vs ds} a1 a2 a3 a4 a5 =>
              ⟨.tuple ds, .tup a1 a2, LayN.tup a3, fun ds' e => by cases e; exact ⟨a4, a5⟩⟩
            have po : ∀ {G : Hp} {v : V} {d : PyData}, Vd G v d → LayN 3 d → isTupD d = false → PO G ws v := fun {G v d} a1 a2 a3 => ⟨d, a1, a2, fun ds e => by rw [e] at a3; cases a3⟩
            refine ⟨fun σ' H' => ∃ (L : Addr) (ys : List V), σ' = [some (.ref b), some (.ref tw), some (.int gr), some t, some l, some (.ref S), some (.ref L), none, none] ∧ PD (news H H') t ∧ PD (news H H') l ∧ news H H' S = some (.tup (fs.map V.str)) ∧ H' L = some (.lst ys) ∧ ys.length = 12 ∧ (∀ v ∈ ys, PO (news H H') ws v) ∧ Same H4 H', ?_, ?_⟩
            · refine ⟨_, rfl, _, rfl, S, _, rfl, rfl, hS4', by rw [List.length_map]; omega, fun S2 H5 s5 hS2 fS2 => ⟨(by show 0 ≤ sizeLine; decide), fun Em nE => ⟨_, rfl, _, rfl, S, _, rfl, .inr (SqT.of (same_new nE _ _ (s5 _ _ hS4'))), fun LS nLS => ?_⟩⟩⟩
              have s6 := same_new (o := .tup []) nE
              have s7 := same_new (o := .lst (fs.map V.str)) nLS
              refine ⟨(by show 1 ≤ sizeLine; decide), fun A1 nA1 => ⟨(by show 1 ≤ sizeLine; decide), fun N1 nN1 => ⟨_, rfl, tw, ws.map V.str, 0, .str w0, rfl, rfl, ?_, ?_, (by show 1 ≤ sizeLine; decide), fun I1 nI1 => ⟨_, rfl, (by show 1 ≤ sizeLine; decide), fun SS nSS => ⟨(by show 12 ≤ sizeLine; decide), fun L nL => ?_⟩⟩⟩⟩⟩
              · exact SqL.of (same_new nN1 _ _ (same_new nA1 _ _ (s7 _ _ (s6 _ _ (s5 _ _ hw4)))))
              · exact atI_nat (j := 0) (by rw [List.getElem?_map, hw0]; rfl)
              · have s8 := same_new (o := .tup [.str "A"]) nA1
                have s9 := same_new (o := .tup [.non]) nN1
                have s10 := same_new (o := .tup [.str "if"]) nI1
                have s11 := same_new (o := .tup [.ref S]) nSS
                have s12 := same_new (o := .lst [.non, .ref S, .ref S2, .ref Em, .ref S, .ref LS, .ref A1, .ref N1, .str w0, .ref I1, .ref SS, .int 0]) nL
                have q12 := s12
                have q11 := s11.trans q12
                have q10 := s10.trans q11
                have q9 := s9.trans q10
                have q8 := s8.trans q9
                have q7 := s7.trans q8
                have q6 := s6.trans q7
                have q5 := s5.trans q6
                have up := news_sm (H := H) q5
                have b5 : But b H H5 := bt4.trans (But.of s5)
                have hb5 := s5 _ _ hb4
                have b6 := b5.trans (But.of s6)
                have hb6 := s6 _ _ hb5
                have b7 := b6.trans (But.of s7)
                have hb7 := s7 _ _ hb6
                have b8 := b7.trans (But.of s8)
                have hb8 := s8 _ _ hb7
                have b9 := b8.trans (But.of s9)
                have hb9 := s9 _ _ hb8
                have b10 := b9.trans (But.of s10)
                have hb10 := s10 _ _ hb9
                have nS : H S = none := by
                  cases hx : H S with
                  | none => rfl
                  | some o =>
                    rw [news_none hx] at hS4
                    cases hS4
                have nS2 : H S2 = none := by
                  rcases fS2 with e | e
                  · rw [e]
                    exact nS
                  · exact free_of bt4 hb4 e
                have fS := up _ _ hS4
                refine ⟨L, _, rfl, pt4.up up, pl4.up up, fS, upd_same, rfl, fun v hv => ?_, q5⟩
                simp only [List.mem_cons, List.not_mem_nil, or_false] at hv
                have pS : PO (news H (upd (upd (upd (upd (upd (upd (upd H5 Em (.tup [])) LS (.lst (fs.map V.str))) A1 (.tup [.str "A"])) N1 (.tup [.non])) I1 (.tup [.str "if"])) SS (.tup [.ref S])) L (.lst [.non, .ref S, .ref S2, .ref Em, .ref S, .ref LS, .ref A1, .ref N1, .str w0, .ref I1, .ref SS, .int 0]))) ws (.ref S) :=
                  mkT fS dfs (fun d hd => (lfs d hd).mono (by omega)) (by rw [List.length_map]; omega) efs
                rcases hv with rfl | rfl | rfl | rfl | rfl | rfl | rfl | rfl | rfl | rfl | rfl | rfl
                · exact po .non ⟨rfl, Nat.zero_le _⟩ rfl
                · exact pS
                · refine mkT (vs := fs.map V.str ++ fs.map V.str) (ds := fs.map PyData.str ++ fs.map PyData.str) (by rw [news_at nS2]; exact q6 _ _ hS2) (dfs.append dfs) (fun d hd => ?_) (by rw [List.length_append, List.length_map]; omega) (fun e he => ?_)
                  · rcases List.mem_append.mp hd with h | h <;> exact (lfs d h).mono (by omega)
                  · rcases List.mem_append.mp he with h | h <;> exact efs e h
                · exact mkT (ds := []) (by rw [news_at (free_of b5 hb5 nE)]; exact q7 _ _ upd_same) .nil (fun d hd => nomatch hd) (by decide) (fun d hd => nomatch hd)
                · exact pS
                · exact po (.lst (by rw [news_at (free_of b6 hb6 nLS)]; exact q8 _ _ upd_same) dfs) ((LayN.lst lfs).mono (by omega)) rfl
                · refine mkT (ds := [.str "A"]) (by rw [news_at (free_of b7 hb7 nA1)]; exact q9 _ _ upd_same) (.cons (.str _ (by decide +kernel)) .nil) (fun d hd => ?_) (by decide) (fun e he => ?_)
                  · rw [List.mem_singleton.mp hd]
                    exact (lay_str (by decide +kernel)).mono (by omega)
                  · rw [List.mem_singleton.mp he]
                    exact noA
                · refine mkT (ds := [.none]) (by rw [news_at (free_of b8 hb8 nN1)]; exact q10 _ _ upd_same) (.cons .non .nil) (fun d hd => ?_) (by decide) (fun e he => ?_)
                  · rw [List.mem_singleton.mp hd]
                    exact ⟨rfl, Nat.zero_le _⟩
                  · rw [List.mem_singleton.mp he]
                    rfl
                · have := word_len (hw w0 (List.mem_of_getElem? hw0))
                  exact po (.str _ (by omega)) ((lay_word (hw w0 (List.mem_of_getElem? hw0))).mono (by omega)) rfl
                · refine mkT (ds := [.str "if"]) (by rw [news_at (free_of b9 hb9 nI1)]; exact q11 _ _ upd_same) (.cons (.str _ (by decide +kernel)) .nil) (fun d hd => ?_) (by decide) (fun e he => ?_)
                  · rw [List.mem_singleton.mp hd]
                    exact (lay_str (by decide +kernel)).mono (by omega)
                  · rw [List.mem_singleton.mp he]
                    exact noIf
                · refine mkT (ds := [.tuple (fs.map PyData.str)]) (by rw [news_at (free_of b10 hb10 nSS)]; exact q12 _ _ upd_same) (.cons (.tup fS dfs) .nil) (fun d hd => ?_) (show 1 ≤ 1000 by decide) (fun e he => ?_)
                  · rw [List.mem_singleton.mp hd]
                    exact (LayN.tup lfs).mono (by omega)
                  · rw [List.mem_singleton.mp he]
                    rfl
                · exact po (.int 0) ⟨rfl, Nat.zero_le _⟩ rfl
            · rintro _ H5 ⟨L, ys, rfl, pt5, pl5, hS5, hL5, hyl, hys, s5⟩
              have hw5 : H5 tw = some (.lst (ws.map V.str)) := s5 _ _ hw4
              have bt5 : But b H H5 := bt4.trans (But.of s5)
              have hb5 := s5 _ _ hb4
              have nLb : L ≠ b := fun z => by
                rw [z, hb5] at hL5
                have e := hL5
                obtain ⟨d1, d2, d3, rfl, _⟩ := hB4
                cases e
                cases hyl
              have nS : H S = none := by
                cases hx : H S with
                | none => rfl
                | some o =>
                  rw [news_none hx] at hS5
                  cases hS5
              refine ⟨fun σ' H' => ∃ (M : Addr) (ms : List V), σ' = [some (.ref b), some (.ref tw), some (.int gr), some t, some l, some (.ref S), some (.ref M), none, none] ∧ PD (news H H') t ∧ PD (news H H') l ∧ H' M = some (.lst ms) ∧ ms.length = 15 ∧ M ≠ b ∧ (∀ v ∈ ms, PO (news H H') ws v) ∧ Same H5 H', ?_, ?_⟩
              · have hSH := news_same _ _ hS5
                refine ⟨_, rfl, _, rfl, (by show 1 ≤ sizeLine; decide), fun A1 nA1 => ?_⟩
                have s6 := same_new (o := .tup [.str "A"]) nA1
                refine ⟨S, A1, _, _, rfl, rfl, s6 _ _ hSH, upd_same, by rw [List.length_map]; show fs.length + 1 ≤ 1000; omega, fun U1 H6 s7 hU1 fU1 => ?_⟩
                have b6 := bt5.trans (But.of s6)
                have hb6 := s6 _ _ hb5
                have nU1 : H U1 = none := by
                  rcases fU1 with e | e | e
                  · rw [e]
                    exact nS
                  · rw [e]
                    exact free_of bt5 hb5 nA1
                  · exact free_of b6 hb6 e
                have b7 := b6.trans (But.of s7)
                have hb7 := s7 _ _ hb6
                refine ⟨_, rfl, (by show 0 ≤ sizeLine; decide), fun EL nEL => ⟨(by show 1 ≤ sizeLine; decide), fun T2 nT2 => ?_⟩⟩
                have s8 := same_new (o := .lst []) nEL
                have s9 := same_new (o := .tup [.ref EL]) nT2
                have b8 := b7.trans (But.of s8)
                have hb8 := s8 _ _ hb7
                have b9 := b8.trans (But.of s9)
                have hb9 := s9 _ _ hb8
                refine ⟨S, T2, _, _, rfl, rfl, s9 _ _ (s8 _ _ (s7 _ _ (s6 _ _ hSH))), upd_same, by rw [List.length_map]; show fs.length + 1 ≤ 1000; omega, fun U2 H7 s10 hU2 fU2 => ?_⟩
                have nU2 : H U2 = none := by
                  rcases fU2 with e | e | e
                  · rw [e]
                    exact nS
                  · rw [e]
                    exact free_of b8 hb8 nT2
                  · exact free_of b9 hb9 e
                have b10 := b9.trans (But.of s10)
                have hb10 := s10 _ _ hb9
                refine ⟨_, rfl, (by show 1 ≤ sizeLine; decide), fun T3 nT3 => ?_⟩
                have s11 := same_new (o := .tup [.non]) nT3
                have b11 := b10.trans (But.of s11)
                have hb11 := s11 _ _ hb10
                have hS11 := s11 _ _ (s10 _ _ (s9 _ _ (s8 _ _ (s7 _ _ (s6 _ _ hSH)))))
                refine ⟨S, T3, _, _, rfl, rfl, hS11, upd_same, by rw [List.length_map]; show fs.length + 1 ≤ 1000; omega, fun U3 H8 s12 hU3 fU3 => ?_⟩
                have nU3 : H U3 = none := by
                  rcases fU3 with e | e | e
                  · rw [e]
                    exact nS
                  · rw [e]
                    exact free_of b10 hb10 nT3
                  · exact free_of b11 hb11 e
                have b12 := b11.trans (But.of s12)
                have hb12 := s12 _ _ hb11
                refine ⟨_, rfl, U3, S, _, _, rfl, rfl, hU3, s12 _ _ hS11, by rw [List.length_append, List.length_map]; show fs.length + 1 + fs.length ≤ 1000; omega, fun U4 H9 s13 hU4 fU4 => ?_⟩
                have nU4 : H U4 = none := by
                  rcases fU4 with e | e | e
                  · rw [e]
                    exact nU3
                  · rw [e]
                    exact nS
                  · exact free_of b12 hb12 e
                have b13 := b12.trans (But.of s13)
                have hb13 := s13 _ _ hb12
                refine ⟨(by show 3 ≤ sizeLine; decide), fun L3 nL3 => ?_⟩
                have s14 := same_new (o := .lst [.ref U1, .ref U2, .ref U4]) nL3
                have b14 := b13.trans (But.of s14)
                have hb14 := s14 _ _ hb13
                have hL14 := s14 _ _ (s13 _ _ (s12 _ _ (s11 _ _ (s10 _ _ (s9 _ _ (s8 _ _ (s7 _ _ (s6 _ _ hL5))))))))
                refine ⟨L, L3, ys, _, rfl, rfl, hL14, upd_same, by rw [hyl]; show 12 + 3 ≤ sizeLine; decide, fun M nM => ?_⟩
                have s15 := same_new (o := .lst (ys ++ [.ref U1, .ref U2, .ref U4])) nM
                have q15 := s15
                have q14 := s14.trans q15
                have q13 := s13.trans q14
                have q12 := s12.trans q13
                have q11 := s11.trans q12
                have q10 := s10.trans q11
                have q9 := s9.trans q10
                have q8 := s8.trans q9
                have q7 := s7.trans q8
                have q6 := s6.trans q7
                have up := news_sm (H := H) q6
                refine ⟨M, _, rfl, pt5.up up, pl5.up up, upd_same, by rw [List.length_append, hyl]; rfl, ne_b hb14 nM, fun v hv => ?_, q6⟩
                rcases List.mem_append.mp hv with hv | hv
                · exact (hys v hv).up up
                · simp only [List.mem_cons, List.not_mem_nil, or_false] at hv
                  rcases hv with rfl | rfl | rfl
                  · refine mkT (vs := fs.map V.str ++ [.str "A"]) (ds := fs.map PyData.str ++ [.str "A"]) (by rw [news_at nU1]; exact q8 _ _ hU1) (dfs.append (.cons (.str _ (by decide +kernel)) .nil)) (fun d hd => ?_) (by rw [List.length_append, List.length_map]; show fs.length + 1 ≤ 1000; omega) (fun e he => ?_)
                    · rcases List.mem_append.mp hd with h | h
                      · exact (lfs d h).mono (by omega)
                      · rw [List.mem_singleton.mp h]
                        exact (lay_str (by decide +kernel)).mono (by omega)
                    · rcases List.mem_append.mp he with h | h
                      · exact efs e h
                      · rw [List.mem_singleton.mp h]
                        exact noA
                  · refine mkT (vs := fs.map V.str ++ [.ref EL]) (ds := fs.map PyData.str ++ [.list []]) (by rw [news_at nU2]; exact q11 _ _ hU2) (dfs.append (.cons (.lst (by rw [news_at (free_of b7 hb7 nEL)]; exact q9 _ _ upd_same) .nil) .nil)) (fun d hd => ?_) (by rw [List.length_append, List.length_map]; show fs.length + 1 ≤ 1000; omega) (fun e he => ?_)
                    · rcases List.mem_append.mp hd with h | h
                      · exact (lfs d h).mono (by omega)
                      · rw [List.mem_singleton.mp h]
                        exact (LayN.lst (n := 0) (ds := []) fun d hd => nomatch hd).mono (by omega)
                    · rcases List.mem_append.mp he with h | h
                      · exact efs e h
                      · rw [List.mem_singleton.mp h]
                        rfl
                  · refine mkT (vs := (fs.map V.str ++ [.non]) ++ fs.map V.str) (ds := (fs.map PyData.str ++ [.none]) ++ fs.map PyData.str) (by rw [news_at nU4]; exact q14 _ _ hU4) ((dfs.append (.cons .non .nil)).append dfs) (fun d hd => ?_) (by rw [List.length_append, List.length_append, List.length_map]; show fs.length + 1 + fs.length ≤ 1000; omega) (fun e he => ?_)
                    · rcases List.mem_append.mp hd with h | h
                      · rcases List.mem_append.mp h with h | h
                        · exact (lfs d h).mono (by omega)
                        · rw [List.mem_singleton.mp h]
                          exact ⟨rfl, Nat.zero_le _⟩
                      · exact (lfs d h).mono (by omega)
                    · rcases List.mem_append.mp he with h | h
                      · rcases List.mem_append.mp h with h | h
                        · exact efs e h
                        · rw [List.mem_singleton.mp h]
                          rfl
                      · exact efs e h
              · rintro _ H6 ⟨M, ms, rfl, pt6, pl6, hM6, hml, nMb, hms, s6⟩
                have bt6 : But b H H6 := bt5.trans (But.of s6)
                have hb6 := s6 _ _ hb5
                refine ⟨fun σ' H' => ∃ (m : V) (zs : List V), σ' = [some (.ref b), some (.ref tw), some (.int gr), some t, some l, some (.ref S), some m, none, none] ∧ PD (news H H') t ∧ PD (news H H') l ∧ PO (news H H') ws m ∧ But b H H' ∧ H' b = some (.lst zs) ∧ BagL (n + 9) zs, ?_, ?_⟩
                · refine ⟨_, rfl, _, rfl, ?_⟩
                  exact of_read (E := fun _ _ _ => False) (fun G v => PO G ws v) PO.up hb bt6 hb6 hB4 (by omega) hM6 nMb (by omega) (by omega) hms (fun v zs hv bt' bt hb' hZ => ⟨v, zs, rfl, pt6.up (news_up hb bt'), pl6.up (news_up hb bt'), hv, bt, hb', hZ⟩)
                · rintro _ H7 ⟨m, z7, rfl, pt7, pl7, pm7, bt7, hb7, hB7⟩
                  refine ⟨fun σ' H' => ∃ (fl : V) (zs : List V), σ' = [some (.ref b), some (.ref tw), some (.int gr), some t, some l, some (.ref S), some m, some fl, none] ∧ PD (news H H') t ∧ PD (news H H') l ∧ PO (news H H') ws m ∧ PF H' fl ∧ But b H H' ∧ H' b = some (.lst zs) ∧ BagL (n + 10) zs, ?_, ?_⟩
                  · refine ⟨_, rfl, (by show 8 ≤ sizeLine; decide), fun L nL => ?_⟩
                    have s1 := same_new (o := .lst [.bl true, .bl false, .bl true, .bl false, .non, .int 0, .int 1, .str "True"]) nL
                    refine of_read (E := fun _ _ _ => False) PF (fun h _ => h) hb (bt7.trans (But.of s1)) (s1 _ _ hb7) hB7 (by omega) upd_same (ne_b hb7 nL) (by show 0 < 8; decide) (by show 8 < 1000000; decide) (fun v hv => ?_) (fun v zs hv bt' bt hb' hZ => ⟨v, zs, rfl, pt7.up (news_up hb ((But.of s1).trans bt')), pl7.up (news_up hb ((But.of s1).trans bt')), pm7.up (news_up hb ((But.of s1).trans bt')), hv, bt, hb', hZ⟩)
                    simp only [List.mem_cons, List.not_mem_nil, or_false] at hv
                    rcases hv with rfl | rfl | rfl | rfl | rfl | rfl | rfl | rfl
                    · exact ⟨rfl, .bool true, fun G => .bl true, rfl, Nat.zero_le _⟩
                    · exact ⟨rfl, .bool false, fun G => .bl false, rfl, Nat.zero_le _⟩
                    · exact ⟨rfl, .bool true, fun G => .bl true, rfl, Nat.zero_le _⟩
                    · exact ⟨rfl, .bool false, fun G => .bl false, rfl, Nat.zero_le _⟩
                    · exact ⟨rfl, .none, fun G => .non, rfl, Nat.zero_le _⟩
                    · exact ⟨rfl, .int 0, fun G => .int 0, rfl, Nat.zero_le _⟩
                    · exact ⟨rfl, .int 1, fun G => .int 1, rfl, Nat.zero_le _⟩
                    · exact ⟨rfl, .str "True", fun G => .str _ (by decide +kernel), (lay_str (by decide +kernel)).mono (by omega)⟩
                  · rintro _ H8 ⟨fl, z8, rfl, ⟨dt, vt, lt⟩, ⟨dl, vl, ll⟩, ⟨dm, vm, lm, cm⟩, ⟨hsc, df, vf, lf⟩, bt8, hb8, hB8⟩
                    have G8 : Given (news H H8) t l m fl dt dl dm df := ⟨vt, vl, vm, vf _, lt.shaped (by omega), ll.shaped (by omega), lm.shaped (by omega), lf.shaped (by omega), (fun ds e => (cm ds e).1), shaped4 lt ll lm lf⟩
                    have G8' := G8.up news_same
                    have hw8 : H8 tw = some (.lst (ws.map V.str)) := bt8 _ _ ntb htw
                    refine ⟨fun σ' H' => σ' = [some (.ref b), some (.ref tw), some (.int gr), some t, some l, some (.ref S), some m, some fl, some (dueV (dueD dt dl dm df))] ∧ Same H8 H', ?_, ?_⟩
                    · -- methods and fresh
                      have c4 : ∀ H', Same H8 H' → badT dt = false → lookD dl = true → (!isNoD dm && !partsD dm) = false → ∀ D : Ends, D.nx = (fun σ' H' => σ' = [some (.ref b), some (.ref tw), some (.int gr), some t, some l, some (.ref S), some m, some fl, some (dueV (dueD dt dl dm df))] ∧ Same H8 H') →
                          (tIfS (tNot (tB (tCB (rIsi K) (tCons (tVar 7) (tCons (tC (.ty "bool")) tNil))))) (tAsg (tC (.str "fresh")) (gName 8)) tNext) D [some (.ref b), some (.ref tw), some (.int gr), some t, some l, some (.ref S), some m, some fl, some .non] H' := by
                        intro H' sm e1 e2 e3 D eD
                        obtain ⟨tf, htf, _, _, kf, _⟩ := (G8'.up sm).f.ty (K := K)
                        refine ⟨_, rfl, fl, _, tf, _, _, rfl, .ty "bool", htf, kf, _, rfl, ?_⟩
                        cases hf : isBlD df with
                        | true =>
                          refine ite_neg' (by decide) ?_
                          show D.nx _ _
                          rw [eD]
                          exact ⟨by unfold dueD; rw [e1, e2, e3, hf]; rfl, sm⟩
                        | false =>
                          refine ite_pos' rfl ?_
                          show D.nx _ _
                          rw [eD]
                          exact ⟨by unfold dueD; rw [e1, e2, e3, hf]; rfl, sm⟩
                      have c3 : ∀ H', Same H8 H' → badT dt = false → lookD dl = true → ∀ D : Ends, D.nx = (fun σ' H' => σ' = [some (.ref b), some (.ref tw), some (.int gr), some t, some l, some (.ref S), some m, some fl, some (dueV (dueD dt dl dm df))] ∧ Same H8 H') →
                          (tIfS (tAnd (tTest (tOp (fun x y H Q => y = .non ∧ Q (.bl (!decide (x = .non))) H) (tVar 6) (tC .non))) (tNot (tB (tCall spAreW [] E0 (tCons (tVar 6) (tCons (tVar 1) tNil)))))) (tAsg (tC (.str "methods")) (gName 8))
                            (tIfS (tNot (tB (tCB (rIsi K) (tCons (tVar 7) (tCons (tC (.ty "bool")) tNil))))) (tAsg (tC (.str "fresh")) (gName 8)) tNext)) D [some (.ref b), some (.ref tw), some (.int gr), some t, some l, some (.ref S), some m, some fl, some .non] H' := by
                        intro H' sm e1 e2 D eD
                        have eW : partsW ws dm = partsD dm := by
                          cases dm with
                          | tuple ds =>
                            have c := (cm ds rfl).2
                            show ds.all (inWs ws) = ds.all wordD
                            rw [Bool.eq_iff_iff, List.all_eq_true, List.all_eq_true]
                            exact ⟨fun h x hx => (c x hx) ▸ h x hx, fun h x hx => (c x hx).symm ▸ h x hx⟩
                          | _ => rfl
                        refine ⟨_, rfl, rfl, _, rfl, ?_⟩
                        have gm := (G8'.up sm).m
                        by_cases hm : m = .non
                        · have hn : isNoD dm = true := by
                            subst hm
                            cases gm
                            rfl
                          exact ite_neg' (by simp [hm]) (ite_neg' (by decide) (c4 H' sm e1 e2 (by rw [hn]; rfl) _ eD))
                        · have hn : isNoD dm = false := by
                            cases gm with
                            | non => exact absurd rfl hm
                            | _ => rfl
                          refine ite_pos' (by simp [hm]) ⟨_, rfl, _, rfl, m, dm, tw, ws, rfl, gm, fun ds e => (cm ds e).1, sm _ _ hw8, fun H2 s2 => ⟨_, rfl, ?_⟩⟩
                          rw [eW]
                          cases hp : partsD dm with
                          | true => exact ite_neg' (by decide) (c4 H2 (sm.trans s2) e1 e2 (by rw [hn, hp]; rfl) _ eD)
                          | false =>
                            refine ite_pos' rfl ?_
                            show D.nx _ _
                            rw [eD]
                            exact ⟨by unfold dueD; rw [e1, e2, hn, hp]; rfl, sm.trans s2⟩
                      have c2 : badT dt = false → ∀ D : Ends, D.nx = (fun σ' H' => σ' = [some (.ref b), some (.ref tw), some (.int gr), some t, some l, some (.ref S), some m, some fl, some (dueV (dueD dt dl dm df))] ∧ Same H8 H') →
                          (tIfS (tOr (tNot (tB (tCB (rIsi K) (tCons (tVar 4) (tCons (tC (.ty "str")) tNil))))) (tTest (tOp (rIn K true) (tVar 4) (tTup (tCons (tC (.str "equal")) (tCons (tC (.str "same")) tNil)))))) (tAsg (tC (.str "look")) (gName 8))
                          (tIfS (tAnd (tTest (tOp (fun x y H Q => y = .non ∧ Q (.bl (!decide (x = .non))) H) (tVar 6) (tC .non))) (tNot (tB (tCall spAreW [] E0 (tCons (tVar 6) (tCons (tVar 1) tNil)))))) (tAsg (tC (.str "methods")) (gName 8))
                            (tIfS (tNot (tB (tCB (rIsi K) (tCons (tVar 7) (tCons (tC (.ty "bool")) tNil))))) (tAsg (tC (.str "fresh")) (gName 8)) tNext))) D [some (.ref b), some (.ref tw), some (.int gr), some t, some l, some (.ref S), some m, some fl, some .non] H8 := by
                        intro e1 D eD
                        obtain ⟨tl, htl, k1, _⟩ := G8'.l.ty (K := K)
                        refine ⟨_, rfl, l, _, tl, _, _, rfl, .ty "str", htl, k1, _, rfl, ?_⟩
                        have gl := G8'.l
                        cases hs : isStrD dl with
                        | false =>
                          refine ite_pos' rfl (ite_pos' rfl ?_)
                          show D.nx _ _
                          rw [eD]
                          have e2 : lookD dl = false := by
                            cases dl with
                            | str z => cases hs
                            | _ => rfl
                          exact ⟨by unfold dueD; rw [e1, e2]; rfl, Same.refl _⟩
                        | true =>
                          refine ite_neg' (by decide) ?_
                          cases gl with
                          | str z hz =>
                            refine ⟨_, rfl, (by show 2 ≤ sizeLine; decide), fun q nq => ⟨q, _, rfl, .inr (SqT.of upd_same), rfl, rfl, _, rfl, ?_⟩⟩
                            have s9 := same_new (o := .tup [.str "equal", .str "same"]) nq
                            have e3 : inV (.str z) [.str "equal", .str "same"] = lookD (.str z) := by
                              have e4 := in_strs z ["equal", "same"]
                              rw [show ([("equal" : Str), "same"].map V.str) = [.str "equal", .str "same"] from rfl] at e4
                              rw [e4]
                              show decide (z ∈ [("equal" : Str), "same"]) = (decide (z = "equal") || decide (z = "same"))
                              by_cases h1 : z = "equal" <;> by_cases h2 : z = "same" <;> simp [h1, h2]
                            rw [if_pos rfl, e3]
                            cases hk : lookD (.str z) with
                            | true => exact ite_neg' (by decide) (c3 _ s9 e1 hk _ eD)
                            | false =>
                              refine ite_pos' rfl ?_
                              show D.nx _ _
                              rw [eD]
                              exact ⟨by unfold dueD; rw [e1, hk]; rfl, s9⟩
                          | _ => cases hs
                      have tm : badT dt = true → ∀ D : Ends, D.nx = (fun σ' H' => σ' = [some (.ref b), some (.ref tw), some (.int gr), some t, some l, some (.ref S), some m, some fl, some (dueV (dueD dt dl dm df))] ∧ Same H8 H') →
                          (tAsg (tC (.str "times")) (gName 8)) D [some (.ref b), some (.ref tw), some (.int gr), some t, some l, some (.ref S), some m, some fl, some .non] H8 := by
                        intro e1 D eD
                        show D.nx _ _
                        rw [eD]
                        exact ⟨by unfold dueD; rw [e1]; rfl, Same.refl _⟩
                      refine ⟨_, rfl, rfl, _, rfl, ?_⟩
                      obtain ⟨tt, htt, a1, a2, a3, a4⟩ := G8'.t.ty (K := K)
                      have gt := G8'.t
                      by_cases ht : t = .non
                      · have e1 : badT dt = false := by
                          subst ht
                          cases gt
                          rfl
                        exact ite_neg' (by simp [ht]) (ite_neg' (by decide) (c2 e1 _ rfl))
                      · refine ite_pos' (by simp [ht]) ⟨_, rfl, t, _, tt, _, _, rfl, .ty "bool", htt, a3, _, rfl, ?_⟩
                        cases hbl : isBlD dt with
                        | true =>
                          refine ite_pos' rfl (ite_pos' rfl (tm ?_ _ rfl))
                          cases dt with
                          | bool _ => rfl
                          | _ => cases hbl
                        | false =>
                          refine ite_neg' (by decide) ⟨_, rfl, t, _, tt, _, _, rfl, .ty "int", htt, a2, _, rfl, ?_⟩
                          cases hi : isIntD dt with
                          | false =>
                            refine ite_pos' rfl (ite_pos' rfl (tm ?_ _ rfl))
                            cases gt with
                            | non => exact absurd rfl ht
                            | bl _ => cases hbl
                            | int _ => cases hi
                            | _ => rfl
                          | true =>
                            refine ite_neg' (by decide) ?_
                            cases gt with
                            | int i =>
                              refine ⟨_, rfl, _, _, rfl, rfl, _, rfl, ?_⟩
                              by_cases h0 : i < 0
                              · exact ite_pos' (by simp [h0]) (tm (by unfold badT; exact decide_eq_true h0) _ rfl)
                              · exact ite_neg' (by simp [h0]) (c2 (by unfold badT; exact decide_eq_false h0) _ rfl)
                            | bl _ => cases hbl
                            | _ => cases hi
                    · rintro _ H9 ⟨rfl, s9⟩
                      refine ⟨_, rfl, _, rfl, _, rfl, _, rfl, (by show 4 ≤ sizeLine; decide), fun g1 ng1 => ⟨_, rfl, (by show 2 ≤ sizeLine; decide), fun p np => ?_⟩⟩
                      have s10 := same_new (o := .tup [t, l, m, fl]) ng1
                      have s11 := same_new (o := .tup [.ref g1, dueV (dueD dt dl dm df)]) np
                      have b9 := bt8.trans (But.of s9)
                      have hb9 := s9 _ _ hb8
                      have b10 := b9.trans (But.of s10)
                      have hb10 := s10 _ _ hb9
                      refine fin p g1 t l m fl dt dl dm df _ z8 (b10.trans (But.of s11)) (s11 _ _ hb10) (hB8.mono (by omega)) ?_ ?_ (G8.up (news_sm (s9.trans (s10.trans s11)))) hsc
                      · rw [news_at (free_of b10 hb10 np)]
                        exact upd_same
                      · rw [news_at (free_of b9 hb9 ng1)]
                        exact s11 _ _ upd_same
end
end My
namespace My
open PySem PySem.Spec PyProof.Rows Sx L2
abbrev sRight : Stmt := top 24
abbrev NR : List Str := ["pot", "terms", "kept", "turn", "given", "due", "made", "one", "parts", "other", "rest"]
def spRight : Sp := fun vs H Q _ => ∃ (b : Addr) (n : Nat) (xs : List V), vs = [.ref b] ∧ H b = some (.lst xs) ∧ BagL n xs ∧ n < 700000 ∧ ∀ H' zs, But b H H' → H' b = some (.lst zs) → BagL (n + 130) zs → Q (.bl true) H'
/-- callers that were made, with what they were made of -/
def EntF (C : Addr) (G : Hp) (e : V) : Prop := ∃ te a g t l m f dt dl dm df, e = .ref te ∧ G te = some (.tup [.ref a, .ref g]) ∧ InC G C a t l m f dt dl dm df ∧ G g = some (.tup [t, l, m, f]) ∧ dueD dt dl dm df = none
def Ent (C : Addr) (b k : Addr) (H : Hp) (e : V) : Prop := ∃ G, Same G H ∧ G b = none ∧ G k = none ∧ EntF C G e
theorem EntF.up {C : Addr} {G G' : Hp} {e : V} (s : Same G G') (h : EntF C G e) : EntF C G' e := by
  obtain ⟨te, a, g, t, l, m, f, dt, dl, dm, df, h1, h2, h3, h4, h5⟩ := h
  exact ⟨te, a, g, t, l, m, f, dt, dl, dm, df, h1, s _ _ h2, h3.up s, s _ _ h4, h5⟩
theorem Ent.up {C b k : Addr} {H H' : Hp} {e : V} (h : Ent C b k H e) (s : ∀ c o, c ≠ b → c ≠ k → H c = some o → H' c = some o) : Ent C b k H' e := by
  obtain ⟨G, h1, h2, h3, h4⟩ := h
  refine ⟨G, fun c o e => s c o (fun z => ?_) (fun z => ?_) (h1 c o e), h2, h3, h4⟩
  · rw [z, h2] at e
    cases e
  · rw [z, h3] at e
    cases e
/-- what is due when nothing is wrong -/
theorem due_flat {dt dl dm df : PyData} (lm : ∀ ds, dm = .tuple ds → ds.length ≤ 1000) (h : dueD dt dl dm df = none) : flatD 2 (.tuple [dt, dl, dm, df]) = true := by
  unfold dueD at h
  cases h1 : badT dt with
  | true => rw [h1] at h; cases h
  | false =>
    cases h2 : lookD dl with
    | false => rw [h1, h2] at h; cases h
    | true =>
      cases h3 : (!isNoD dm && !partsD dm) with
      | true => rw [h1, h2, h3] at h; cases h
      | false =>
        cases h4 : isBlD df with
        | false => rw [h1, h2, h3, h4] at h; cases h
        | true =>
          have f1 : flatD 1 dt = true := by
            cases dt with
            | none => rfl
            | int i => rfl
            | _ => cases h1
          have f2 : flatD 1 dl = true := by
            cases dl with
            | str z => rfl
            | _ => cases h2
          have f4 : flatD 1 df = true := by
            cases df with
            | bool b => rfl
            | _ => cases h4
          have f3 : flatD 1 dm = true := by
            cases dm with
            | none => rfl
            | tuple ds =>
              have h5 : ds.all wordD = true := by simpa [isNoD, partsD] using h3
              have h6 := lm ds rfl
              show (ds.all (flatD 0) && decide (ds.length ≤ 1000)) = true
              rw [Bool.and_eq_true]
              refine ⟨List.all_eq_true.mpr fun d hd => ?_, decide_eq_true h6⟩
              have := List.all_eq_true.mp h5 d hd
              cases d with
              | str z => rfl
              | _ => cases this
            | _ => simp [isNoD, partsD] at h3
          show ((flatD 1 dt && (flatD 1 dl && (flatD 1 dm && (flatD 1 df && true)))) && decide (4 ≤ 1000)) = true
          rw [f1, f2, f3, f4]
          rfl
theorem eq4_tup (dt dl dm df et el em ef : PyData) : PyData.eqv (.tuple [dt, dl, dm, df]) (.tuple [et, el, em, ef]) = eq4 dt dl dm df et el em ef := by
  simp only [PyData.eqv, PyData.eqvAll, eq4, Bool.and_true]
theorem make_read2 {C Rr : Addr} {H : Hp} {t l m f : V} {dt dl dm df : PyData} {R : Hp → Prop} {E : XK} {x dx : Addr} (nx : H x = none) (ndx : H dx = none) (hne : dx ≠ x) (G : Given H t l m f dt dl dm df) (hd : dueD dt dl dm df = none)
    (fin : ∀ H', Same H H' → H' x = some (.ins C dx (flds t l m f)) → R H') :
    spInit C Rr [.ref x, t, l, m, f] (upd (upd H dx (.own x)) x (.ins C dx [])) (fun v H3 => v = .non ∧ R H3) E := by
  have s1 : Same H (upd (upd H dx (.own x)) x (.ins C dx [])) := (same_new ndx).trans (same_new (by rw [upd_ne hne.symm]; exact nx))
  refine ⟨x, dx, t, l, m, f, dt, dl, dm, df, rfl, upd_same, G.up s1, fun part hp => ?_, fun _ H' bt hx' => ⟨rfl, ?_⟩⟩
  · rw [hd] at hp
    cases hp
  · exact fin H' (fun c o e => bt c o (ne_of_none e nx) (s1 _ _ e)) hx'
section
variable {P : Program} {w : World} {K : PySem.W.Frag} {mg : Str → Option Value} {base : Heap} {C R f0 f1 : Addr} {fd0 fd1 : FuncData}
theorem scRight : FnScope NR ["pot"] (defScope sRight) := ⟨rfl, rfl, rfl, by decide +kernel, rfl, by decide +kernel, by decide +kernel⟩
theorem cl_right (D : DefAt K mg "_law_right" sRight ["pot"]) (T : TC K mg C) (cW : Cl P w K mg base CX0 3 "_law_words" (spWords K)) (cC : Cl P w K mg base CX0 3 "_law_callers" spCallers) (cM : Cl P w K mg base CX0 6 "_law_made" (spMade C)) (cS : Cl P w K mg base CX0 3 "_law_strict" (spStrict 2))
    (M : Mk K C f0) (FI : FunI K f0 fd0) (F0 : FnOk P w K mg base (L2N.CX P w) 4 f0 fd0 NI (spInit C R)) (F1 : FnOk P w K mg base CX0 1 f1 fd1 ["self", "other"] (spEqC C)) (hs : PySem.W.findIn K (.ref C) "__eq__" = some (some (.ref f1))) (hf : PySem.W.isFn K (.ref f1) = true) (hb1 : Binds K fd1 ["self", "other"] [])
    (n1 : PySem.W.notFirst K C (.type "str") = true) (n2 : PySem.W.notFirst K C (.type "tuple") = true) : Cl P w K mg base CX0 7 "_law_right" spRight := by
  obtain ⟨f, fd, F, g, bd⟩ := D.ex
  obtain ⟨ds0, hd0, hbd0⟩ := kb0 FI
  refine ⟨f, fd, _, F.ok scRight (fun vs H Q E h => ?_) (fun cdv A outer s H vs Q E hr h => ?_), g, F.kp, bd⟩
  · obtain ⟨b, n, xs, rfl, _⟩ := h
    rfl
  · obtain ⟨b, n, xs, rfl, hb, hB, hn, fin⟩ := h
    have nd := scRight.nd
    have szs : sizeLine = 16777216 := sizeLine_eq
    refine ⟨_, C8.pss_cut (ps_par (i := 1) (j := 2) (by rfl) nd rfl rfl (by decide) rfl rfl (pa_cons (pe_cl cW hr pass0 (pa_cons (pv 0) (pa_cons pe_int pa_nil))) (pa_cons (pe_lst pa_nil) pa_nil)) (by rfl))
      (pss_cons (ps_for PassesOwn.never rfl (pi_range1 rfl T.range (pa_cons pe_int pa_nil)) (pg_name (i := 3) nd rfl (.inl rfl))
        (C8.pss_cut (ps_asg (pe_cl cC hr pass0 (pa_cons (pv 0) (pa_cons (pv 1) pa_nil))) (pg_tup rfl (pgs_cons (pg_name (i := 4) nd rfl (.inl rfl)) (pgs_cons (pg_name (i := 5) nd rfl (.inl rfl)) pgs_nil))))
        (C8.pss_cut (ps_set (i := 6) nd rfl (.inl rfl) (pe_cl cM hr pass0 (pa_cons (pe_ix ix_tup (pv 4) pe_int (fun _ _ => rfl)) (pa_cons (pe_ix ix_tup (pv 4) pe_int (fun _ _ => rfl)) (pa_cons (pe_ix ix_tup (pv 4) pe_int (fun _ _ => rfl)) (pa_cons (pe_ix ix_tup (pv 4) pe_int (fun _ _ => rfl)) pa_nil))))))
        (C8.pss_cut (ps_if (PW.pt (pw_or (pt_cmpR op_notN (pv 5) pe_non (nomark _)) (pw_or1 (pt_val (pe_callB call_isi (by rfl) T.isi (by decide +kernel) (pa_cons (pv 6) (pa_cons (pe_bltn rfl T.str (by decide +kernel) (v := .ty "str") rfl) pa_nil)))))))
            (pss_one (ps_if (PW.pt (pw_or (pt_not (pt_val (pe_callB call_isi (by rfl) T.isi (by decide +kernel) (pa_cons (pv 6) (pa_cons (pe_bltn rfl T.str (by decide +kernel) (v := .ty "str") rfl) pa_nil))))) (pw_or1 (pt_cmpR op_ne (pv 6) (pv 5) (nomark _))))) (pss_one (ps_ret pe_bl)) pss_nil))
            (pss_one (ps_expr (pe_bm PySem.F.plainAttrs_list PySem.F.slot_list_append PySem.F.type_list_append mt_append (pv 2) (pa_cons (pe_tup (pa_cons (pv 6) (pa_cons (pv 4) pa_nil))) pa_nil)))))
        (pss_one (ps_for PassesOwn.never rfl (pi_list (pv 2)) (pg_tup rfl (pgs_cons (pg_name (i := 7) nd rfl (.inl rfl)) (pgs_cons (pg_name (i := 8) nd rfl (.inl rfl)) pgs_nil)))
          (pss_cons (ps_if (pt_not (pt_val (pe_cl cS hr pass0 (pa_cons (pe_tup (pa_cons (pe_fld (pv 7) rfl) (pa_cons (pe_fld (pv 7) rfl) (pa_cons (pe_fld (pv 7) rfl) (pa_cons (pe_fld (pv 7) rfl) pa_nil))))) (pa_cons (pv 8) pa_nil))))) (pss_one (ps_ret pe_bl)) pss_nil)
          (pss_cons (ps_if (PW.pt (pw_or (pt_cmpR (op_eqO F1 hs hf hb1 n1 n2 (hr.mono (by decide))) (pv 7) (pv 8) (nomark _)) (pw_or (pt_cmpR op_isN (pv 7) pe_non (nomark _)) (pw_or1 (pt_cmpR (op_eqO F1 hs hf hb1 n1 n2 (hr.mono (by decide))) (pv 7) (pe_fld (pv 7) rfl) (nomark _)))))) (pss_one (ps_ret pe_bl)) pss_nil)
          (pss_one (ps_for PassesOwn.never rfl (pi_list (pv 2)) (pg_tup rfl (pgs_cons (pg_name (i := 9) nd rfl (.inl rfl)) (pgs_cons (pg_name (i := 10) nd rfl (.inl rfl)) pgs_nil)))
            (pss_one (ps_if (PW.pt (pw_or (pt_cmpR op_ne (pe_cmpR (op_eqO F1 hs hf hb1 n1 n2 (hr.mono (by decide))) (pv 7) (pv 9) (nomark _)) (pe_cmpR (op_eqD ?hu) (pv 8) (pv 10) (nomark _)) (nomark _))
              (pw_or1 (pt_cmpR op_ne (pe_cmpR (op_eqO F1 hs hf hb1 n1 n2 (hr.mono (by decide))) (pv 7) (pe_make0 M F0 (hr.mono (by decide)) rfl T.gC hbd0 hd0 (L2N.passes_call takes0N fun _ _ _ _ h => h)) (nomark _)) (pe_cmpR (op_eqD ?hu) (pv 8) (pe_tup (pa_cons pe_non (pa_cons pe_str (pa_cons pe_non (pa_cons pe_bl pa_nil))))) (nomark _)) (nomark _)))))
              (pss_one (ps_ret pe_bl)) pss_nil))))))))))))
      (pss_one (ps_ret pe_bl))), ?_⟩
    case hu =>
      have := hr.un
      show (A.deeper (envOfC "_law_right" (defScope sRight) s.heap.objs.size _ cdv)).units + 64 < cLine
      omega
    refine ⟨fun σ' H' => ∃ (tw kp : Addr) (ws : List Str) (zs : List V), σ' = [some (.ref b), some (.ref tw), some (.ref kp), none, none, none, none, none, none, none, none] ∧ But b H H' ∧ H' b = some (.lst zs) ∧ BagL (n + 10) zs ∧ H' tw = some (.lst (ws.map V.str)) ∧ tw ≠ b ∧ ws.length = 20 ∧ (∀ z ∈ ws, wordB z = true) ∧ H' kp = some (.lst []) ∧ kp ≠ b ∧ tw ≠ kp ∧ H kp = none, ?_, ?_⟩
    · refine ⟨_, rfl, b, 20, n, xs, rfl, by omega, hb, hB, by omega, fun F H' ws zs nF bt hb' hB' hF hl hw => ⟨(by show 0 ≤ sizeLine; decide), fun kp nk => ⟨_, _, rfl, ?_⟩⟩⟩
      have s1 := same_new (o := .lst []) nk
      refine ⟨F, kp, ws, zs, rfl, bt.trans (But.of s1), s1 _ _ hb', hB', s1 _ _ hF, fun z => ?_, hl, hw, upd_same, ne_b hb' nk, ne_of_none hF nk, free_of bt hb' nk⟩
      rw [z, hb] at nF
      cases nF
    · rintro _ H1 ⟨tw, kp, ws, z1, rfl, bt1, hb1', hB1, htw, ntb, hwl, hw, hk1, nkb, ntk, nkH⟩
      refine ⟨6, rfl, by decide, by decide, for_range (lo := 0) (n := 6) (fun i σ H2 => ∃ (v3 v4 v5 v6 v7 v8 v9 v10 : Option V) (zs ents : List V), σ = [some (.ref b), some (.ref tw), some (.ref kp), v3, v4, v5, v6, v7, v8, v9, v10] ∧ But b H H2 ∧ H2 b = some (.lst zs) ∧ BagL (n + 10 + 20 * i) zs ∧ H2 tw = some (.lst (ws.map V.str)) ∧ H2 kp = some (.lst ents) ∧ ents.length ≤ i ∧ ∀ e ∈ ents, Ent C b kp H2 e) ?_ ?_ ?_⟩
      · exact ⟨none, none, none, none, none, none, none, none, z1, [], rfl, bt1, hb1', hB1, htw, hk1, Nat.le_refl _, fun e he => nomatch he⟩
      · rintro i σ H2 hi ⟨v3, v4, v5, v6, v7, v8, v9, v10, z2, ents, rfl, bt2, hb2, hB2, hw2, hk2, hel, hents⟩
        refine ⟨fun σ' H' => ∃ (g : Addr) (t l m fl : V) (dt dl dm df : PyData) (zs : List V), σ' = [some (.ref b), some (.ref tw), some (.ref kp), some (.int (0 + ((i : Nat) : Int))), some (.ref g), some (dueV (dueD dt dl dm df)), v6, v7, v8, v9, v10] ∧ But b H2 H' ∧ H' b = some (.lst zs) ∧ BagL (n + 10 + 20 * i + 20) zs ∧ news H2 H' g = some (.tup [t, l, m, fl]) ∧ Given (news H2 H') t l m fl dt dl dm df ∧ isScV fl = true, ?_, ?_⟩
        · refine ⟨_, rfl, _, rfl, b, tw, n + 10 + 20 * i, z2, ws, rfl, hb2, hB2, by omega, hw2, ntb, hwl, hw, fun p g t l m fl dt dl dm df H' zs' bt hb' hB' hp hg G hsc => ⟨p, _, rfl, SqT.of (news_same _ _ hp), rfl, ?_⟩⟩
          refine ⟨_, _, rfl, _, _, rfl, rfl, ?_⟩
          exact ⟨g, t, l, m, fl, dt, dl, dm, df, zs', rfl, bt, hb', hB', hg, G, hsc⟩
        · rintro _ H3 ⟨g, t, l, m, fl, dt, dl, dm, df, z3, rfl, bt3, hb3, hB3, hg3, G3, hsc⟩
          have hg3' := news_same _ _ hg3
          refine ⟨fun σ' H' => ∃ md : V, σ' = [some (.ref b), some (.ref tw), some (.ref kp), some (.int (0 + ((i : Nat) : Int))), some (.ref g), some (dueV (dueD dt dl dm df)), some md, v7, v8, v9, v10] ∧ Same H3 H' ∧ ((∃ part, dueD dt dl dm df = some part ∧ md = .str part) ∨ (dueD dt dl dm df = none ∧ ∃ a dx, md = .ref a ∧ H2 a = none ∧ H' a = some (.ins C dx (flds t l m fl)))), ?_, ?_⟩
          · refine ⟨_, rfl, g, [t, l, m, fl], 0, t, rfl, rfl, SqT.of hg3', (by exact atI_nat (j := 0) (by rfl)), _, rfl, g, [t, l, m, fl], 1, l, rfl, rfl, SqT.of hg3', (by exact atI_nat (j := 1) (by rfl)), _, rfl, g, [t, l, m, fl], 2, m, rfl, rfl, SqT.of hg3', (by exact atI_nat (j := 2) (by rfl)), _, rfl, g, [t, l, m, fl], 3, fl, rfl, rfl, SqT.of hg3', (by exact atI_nat (j := 3) (by rfl)), ?_⟩
            refine ⟨t, l, m, fl, dt, dl, dm, df, rfl, G3.up news_same, hsc, fun part hp H' sm => ⟨.str part, rfl, sm, .inl ⟨part, hp, rfl⟩⟩, fun hd a dx H' na sm ha => ⟨.ref a, rfl, sm, .inr ⟨hd, a, dx, rfl, free_of bt3 hb3 na, ha⟩⟩⟩
          · rintro _ H4 ⟨md, rfl, s4, hmd⟩
            have hk4 : H4 kp = some (.lst ents) := s4 _ _ (bt3 _ _ nkb hk2)
            have ngb : news H2 H3 g ≠ none := by rw [hg3]; simp
            refine ⟨fun σ' H' => ∃ ents' : List V, σ' = [some (.ref b), some (.ref tw), some (.ref kp), some (.int (0 + ((i : Nat) : Int))), some (.ref g), some (dueV (dueD dt dl dm df)), some md, v7, v8, v9, v10] ∧ But b H H' ∧ H' b = some (.lst z3) ∧ H' tw = some (.lst (ws.map V.str)) ∧ H' kp = some (.lst ents') ∧ ents'.length ≤ i + 1 ∧ ∀ e ∈ ents', Ent C b kp H' e, ?_, ?_⟩
            · have bt4 : But b H H4 := bt2.trans (bt3.trans (But.of s4))
              have hb4 := s4 _ _ hb3
              have hw4 := s4 _ _ (bt3 _ _ ntb hw2)
              have old : ∀ e ∈ ents, Ent C b kp H4 e := fun e he => (hents e he).up fun c o n1 _ q => s4 _ _ (bt3 _ _ n1 q)
              rcases hmd with ⟨part, hp, rfl⟩ | ⟨hd, a, dx, rfl, na, ha⟩
              · refine ⟨_, rfl, rfl, _, rfl, ?_⟩
                rw [hp]
                refine ite_pos' (by simp [dueV]) (ite_pos' rfl ?_)
                refine ⟨_, rfl, .str part, _, _, _, _, rfl, .ty "str", .base (.str part), kit_ty (r := true) (by show kitB _ _ = some true; decide +kernel), _, rfl, ite_neg' (by decide) ⟨_, rfl, _, rfl, rfl, _, rfl, ite_neg' (by simp [dueV]) ?_⟩⟩
                exact ⟨ents, rfl, bt4, hb4, hw4, hk4, by omega, old⟩
              · refine ⟨_, rfl, rfl, _, rfl, ?_⟩
                rw [hd]
                refine ite_neg' (by simp [dueV]) ⟨_, rfl, .ref a, _, _, _, _, rfl, .ty "str", T.ty ha, T.cs, _, rfl, ite_neg' (by decide) ?_⟩
                refine ⟨_, rfl, .inl ⟨rfl, _, SqL.of hk4⟩, _, rfl, _, rfl, (by show 2 ≤ sizeLine; decide), fun te nte => ⟨kp, ents, .ref te, rfl, rfl, same_new nte _ _ hk4, by omega, ?_⟩⟩
                have s5 := same_new (o := .tup [.ref a, .ref g]) nte
                have b5 : But b H2 (upd H4 te (.tup [.ref a, .ref g])) := bt3.trans (But.of (s4.trans s5))
                have b4' : But b H2 H4 := bt3.trans (But.of s4)
                have toK : ∀ c o, c ≠ kp → (upd H4 te (.tup [.ref a, .ref g])) c = some o → (upd (upd H4 te (.tup [.ref a, .ref g])) kp (.lst (ents ++ [.ref te]))) c = some o := fun c o nc e => by
                  rw [upd_ne nc]
                  exact e
                refine ⟨ents ++ [.ref te], rfl, fun c o nc e => ?_, ?_, ?_, upd_same, ?_, fun e he => ?_⟩
                · refine toK c o (fun z => ?_) (s5 _ _ (bt4 c o nc e))
                  rw [z, nkH] at e
                  cases e
                · exact toK b _ nkb.symm (s5 _ _ hb4)
                · exact toK tw _ ntk (s5 _ _ hw4)
                · rw [List.length_append]
                  show ents.length + 1 ≤ i + 1
                  omega
                · rcases List.mem_append.mp he with h | h
                  · exact (old e h).up fun c o _ n2 q => toK c o n2 (s5 _ _ q)
                  · rw [List.mem_singleton.mp h]
                    refine ⟨news H2 (upd H4 te (.tup [.ref a, .ref g])), fun c o q => ?_, news_none hb2, news_none hk2, te, a, g, t, l, m, fl, dt, dl, dm, df, rfl, ?_, ⟨⟨dx, ?_⟩, G3.up (news_sm (s4.trans s5))⟩, ?_, hd⟩
                    · refine toK c o (fun z => ?_) (news_same _ _ q)
                      rw [z, news_none hk2] at q
                      cases q
                    · rw [news_at (free_of b4' hb4 nte)]
                      exact upd_same
                    · rw [news_at na]
                      exact s5 _ _ ha
                    · exact news_sm (s4.trans s5) _ _ hg3
            · rintro _ H5 ⟨ents', rfl, bt5, hb5, hw5, hk5, hel5, hents5⟩
              refine ⟨_, rfl, kp, rfl, ⟨_, SqL.of hk5⟩, for_list (K := K) (a := kp) (xs := ents') (fun j σ H6 => ∃ w7 w8 w9 w10 : Option V, σ = [some (.ref b), some (.ref tw), some (.ref kp), some (.int (0 + ((i : Nat) : Int))), some (.ref g), some (dueV (dueD dt dl dm df)), some md, w7, w8, w9, w10] ∧ Same H5 H6) ?_ ?_ ?_ ?_⟩
              · exact ⟨v7, v8, v9, v10, rfl, Same.refl _⟩
              · rintro j σ H6 hj ⟨w7, w8, w9, w10, _, s6⟩
                exact SqL.of (s6 _ _ hk5)
              · rintro j e σ H6 he ⟨w7, w8, w9, w10, rfl, s6⟩
                obtain ⟨G, sG, _, _, te, a, g', t', l', m', f', et, el, em, ef, rfl, hte, hA, hg', hdue⟩ := hents5 e (List.mem_of_getElem? he)
                have sG6 := sG.trans s6
                have hte6 := sG6 _ _ hte
                have hA6 := hA.up sG6
                have hg6 := sG6 _ _ hg'
                refine ⟨te, _, rfl, SqT.of hte6, rfl, ?_⟩
                refine ⟨_, _, rfl, _, _, rfl, rfl, ?_⟩
                obtain ⟨dx, ha6⟩ := hA6.at'
                have GA := hA6.G
                have vg : Vd H6 (.ref g') (.tuple [et, el, em, ef]) := .tup hg6 (.cons GA.t (.cons GA.l (.cons GA.m (.cons GA.f .nil))))
                refine ⟨_, rfl, a, C, dx, _, t', rfl, ha6, T.cls, T.n1, rfl, _, rfl, a, C, dx, _, l', rfl, ha6, T.cls, T.n2, rfl, _, rfl, a, C, dx, _, m', rfl, ha6, T.cls, T.n3, rfl, _, rfl, a, C, dx, _, f', rfl, ha6, T.cls, T.n4, rfl, (by show 4 ≤ sizeLine; decide), fun p np => ⟨_, rfl, ?_⟩⟩
                have s7 := same_new (o := .tup [t', l', m', f']) np
                have GB := GA.up s7
                refine ⟨.ref p, .ref g', .tuple [et, el, em, ef], rfl, .tup upd_same (.cons GB.t (.cons GB.l (.cons GB.m (.cons GB.f .nil)))), vg.up s7, due_flat GA.lm hdue, fun H8 s8 => ⟨_, rfl, ite_neg' (by decide) ?_⟩⟩
                have s68 := s7.trans s8
                have hA8 := hA6.up s68
                have ha8 := s68 _ _ ha6
                refine ⟨_, rfl, _, rfl, a, dx, _, rfl, ha8, .inr (.inl ⟨g', _, rfl, s68 _ _ hg6⟩), a, t', l', m', f', et, el, em, ef, hA8, .inr (.inl ⟨g', _, rfl, s68 _ _ hg6, false, rfl, _, rfl, ite_neg' (by decide) ?_⟩)⟩
                refine ⟨_, rfl, rfl, _, rfl, ite_neg' (by simp) ?_⟩
                have hl' : ∃ z, l' = .str z := by
                  have gl := GA.l
                  have h2 : lookD el = true := by
                    unfold dueD at hdue
                    cases h1 : badT et with
                    | true => rw [h1] at hdue; cases hdue
                    | false =>
                      cases h2 : lookD el with
                      | true => rfl
                      | false => rw [h1, h2] at hdue; cases hdue
                  cases gl with
                  | str z hz => exact ⟨z, rfl⟩
                  | _ => cases h2
                obtain ⟨zl, rfl⟩ := hl'
                refine ⟨_, rfl, _, rfl, a, C, dx, _, .str zl, rfl, ha8, T.cls, T.n2, rfl, a, dx, _, rfl, ha8, .inl ⟨zl, rfl⟩, a, t', .str zl, m', f', et, el, em, ef, hA8, .inl ⟨zl, rfl, false, rfl, _, rfl, ite_neg' (by decide) ?_⟩⟩
                have s58 := s6.trans s68
                refine ⟨_, rfl, kp, rfl, ⟨_, SqL.of (s58 _ _ hk5)⟩, for_list (K := K) (a := kp) (xs := ents') (fun q σ H9 => ∃ u9 u10 : Option V, σ = [some (.ref b), some (.ref tw), some (.ref kp), some (.int (0 + ((i : Nat) : Int))), some (.ref g), some (dueV (dueD dt dl dm df)), some md, some (.ref a), some (.ref g'), u9, u10] ∧ Same H8 H9) ?_ ?_ ?_ ?_⟩
                · exact ⟨w9, w10, rfl, Same.refl _⟩
                · rintro q σ H9 hq ⟨u9, u10, _, s9⟩
                  exact SqL.of (s9 _ _ (s58 _ _ hk5))
                · rintro q e2 σ H9 he2 ⟨u9, u10, rfl, s9⟩
                  obtain ⟨G2, sG2, _, _, te2, a2, g2, t2, l2, m2, f2, ct, cl', cm, cf, rfl, hte2, hB2', hg2, hdue2⟩ := hents5 e2 (List.mem_of_getElem? he2)
                  have sG29 := sG2.trans (s58.trans s9)
                  have hB9 := hB2'.up sG29
                  have hg29 := sG29 _ _ hg2
                  have hA9 := hA8.up s9
                  have ha9 := s9 _ _ ha8
                  obtain ⟨dx2, hb9⟩ := hB9.at'
                  have GB9 := hB9.G
                  have GA9 := hA9.G
                  have vg9 : Vd H9 (.ref g') (.tuple [et, el, em, ef]) := vg.up (s68.trans s9)
                  have vg29 : Vd H9 (.ref g2) (.tuple [ct, cl', cm, cf]) := .tup hg29 (.cons GB9.t (.cons GB9.l (.cons GB9.m (.cons GB9.f .nil))))
                  have shA : SeqAt.shaped (.tuple [et, el, em, ef]) = true := GA9.d4
                  have shB : SeqAt.shaped (.tuple [ct, cl', cm, cf]) = true := GB9.d4
                  refine ⟨te2, _, rfl, SqT.of (sG29 _ _ hte2), rfl, ?_⟩
                  refine ⟨_, _, rfl, _, _, rfl, rfl, ?_⟩
                  refine ⟨_, rfl, _, rfl, a, dx, _, rfl, ha9, .inr (.inr ⟨a2, dx2, _, rfl, hb9⟩), a, t', .str zl, m', f', et, el, em, ef, hA9, .inr (.inr ⟨a2, t2, l2, m2, f2, ct, cl', cm, cf, rfl, hB9, _, rfl, _, rfl, _, rfl, _, _, vg9.dp, vg29.dp, shA, shB, ?_⟩)⟩
                  rw [eq4_tup]
                  refine ⟨rfl, _, rfl, ite_neg' (by simp) ?_⟩
                  refine ⟨_, rfl, fun x0 dx0 nx0 ndx0 hne0 => ?_⟩
                  refine make_read2 (t := .non) (l := .str "equal") (m := .non) (f := .bl false) (dt := .none) (dl := .str "equal") (dm := .none) (df := .bool false) nx0 ndx0 hne0 ⟨.non, .str _ (by decide +kernel), .non, .bl _, rfl, by decide +kernel, rfl, rfl, (fun ds e => by cases e), by decide +kernel⟩ (by decide +kernel) (fun H10 s10 ha3 => ?_)
                  have hA10 := hA9.up s10
                  refine ⟨a, dx, _, rfl, s10 _ _ ha9, .inr (.inr ⟨x0, dx0, _, rfl, ha3⟩), a, t', .str zl, m', f', et, el, em, ef, hA10, .inr (.inr ⟨x0, .non, .str "equal", .non, .bl false, .none, .str "equal", .none, .bool false, rfl, ⟨⟨dx0, ha3⟩, ⟨.non, .str _ (by decide +kernel), .non, .bl _, rfl, by decide +kernel, rfl, rfl, (fun ds e => by cases e), by decide +kernel⟩⟩, _, rfl, _, rfl, (by show 4 ≤ sizeLine; decide), fun q4 nq4 => ⟨_, _, (vg9.up (s10.trans (same_new nq4))).dp, .tup (SqT.of upd_same) (.cons .non (.cons (.str _) (.cons .non (.cons (.bl _) .nil)))), shA, by decide +kernel, ?_⟩⟩)⟩
                  rw [eq4_tup]
                  refine ⟨rfl, _, rfl, ite_neg' (by simp) ?_⟩
                  exact ⟨_, _, rfl, s9.trans (s10.trans (same_new nq4))⟩
                · rintro σ H9 ⟨u9, u10, rfl, s9⟩
                  exact ⟨_, _, u9, u10, rfl, s58.trans s9⟩
              · rintro σ H6 ⟨w7, w8, w9, w10, rfl, s6⟩
                exact ⟨_, _, _, _, w7, w8, w9, w10, z3, ents', rfl, bt5.trans (But.of s6), s6 _ _ hb5, hB3.mono (by omega), s6 _ _ hw5, s6 _ _ hk5, hel5, fun e he => (hents5 e he).up fun c o _ _ q => s6 _ _ q⟩
      · rintro σ H2 ⟨v3, v4, v5, v6, v7, v8, v9, v10, z2, ents, rfl, bt2, hb2, hB2, hw2, hk2, hel, hents⟩
        exact fin H2 z2 bt2 hb2 (hB2.mono (by omega))
end
end My
namespace My
open PySem PySem.Spec PyProof.Rows Sx L2 PySem.HandSPX
abbrev sLaw : Stmt := top 25
def spBag (K : PySem.W.Frag) : Sp := fun vs H Q _ => ∃ (a : Addr) (ns : List Int) (at' : Int), vs = [.ref a, .int at'] ∧ SqL K H a (ns.map V.int) ∧ 0 ≤ at' ∧ at' < 63 ∧ ∀ p xs, H p = none → BagL 0 xs → Q (.ref p) (upd H p (.lst xs))
def spLaw (K : PySem.W.Frag) : Sp := fun vs H Q _ => ∃ (a : Addr) (ns : List Int), vs = [.ref a] ∧ SqL K H a (ns.map V.int) ∧ ns.length ≤ 63 ∧ ∀ H', Q (.bl true) H'
structure TL (mg : Str → Option Value) : Prop extends TB mg where
  range : mg "range" = none
  max : mg "max" = none
  min : mg "min" = none
section
variable {P : Program} {w : World} {K : PySem.W.Frag} {mg : Str → Option Value} {base : Heap}
theorem scBag : FnScope ["script", "at", "cell", "digits", "seed"] ["script", "at"] (defScope sBag) := ⟨rfl, rfl, rfl, by decide +kernel, rfl, by decide +kernel, by decide +kernel⟩
theorem cl_bag (D : DefAt K mg "_law_bag" sBag ["script", "at"]) (T : TB mg) : Cl P w K mg base CX0 1 "_law_bag" (spBag K) := by
  obtain ⟨f, fd, F, g, b⟩ := D.ex
  refine ⟨f, fd, _, F.ok scBag (fun vs H Q E h => ?_) (fun cdv A outer s H vs Q E hr h => ?_), g, F.kp, b⟩
  · obtain ⟨a, ns, at', rfl, _⟩ := h
    rfl
  · obtain ⟨a, ns, at', rfl, hS, h0, h1, k⟩ := h
    have nd := scBag.nd
    refine ⟨_, C8.pss_cut (ps_set (i := 2) nd rfl (.inl rfl) (pe_ifExp (pt_cmpR op_lt (pv 1) (pe_callB call_len_seq (by rfl) T.len PySem.boot_len (pa_cons (pv 0) pa_nil)) (nomark _)) (pe_ix ix_list (pv 0) (pv 1) (fun _ _ => rfl)) pe_int))
      (C8.pss_cut (ps_set (i := 3) nd rfl (.inl rfl) (pe_ifExp (pt_cmpR op_ge (pe_callB call_abs (by rfl) T.abs (by decide +kernel) (pa_cons (pv 2) pa_nil)) (pe_op op_pow pe_int pe_int) (nomark _)) (pe_callB call_abs (by rfl) T.abs (by decide +kernel) (pa_cons (pv 2) pa_nil)) pe_int))
      (C8.pss_cut (ps_set (i := 4) nd rfl (.inl rfl) (pe_op op_add (pe_op op_add (pe_op op_add (pe_op op_mul pe_int (pe_callB call_abs (by rfl) T.abs (by decide +kernel) (pa_cons (pv 2) pa_nil))) (pe_op op_mul pe_int (pe_callTy call_int1 (by rfl) T.int (by decide +kernel) (pa_cons (pe_cmpR op_lt (pv 2) pe_int (nomark _)) pa_nil)))) (pe_op op_mul pe_int (pv 1))) pe_int))
      (pss_one (ps_ret (pe_lst (pa_cons (pv 3) (pa_cons (pe_op op_mod (pe_callTy call_int1 (by rfl) T.int (by decide +kernel) (pa_cons (pv 4) pa_nil)) pe_int) (pa_cons pe_int pa_nil)))))))), ?_⟩
    refine ⟨fun σ' H' => ∃ z : Int, σ' = [some (.ref a), some (.int at'), some (.int z), none, none] ∧ H = H', ?_, ?_⟩
    · refine ⟨_, rfl, _, rfl, a, _, rfl, .inl hS, _, _, rfl, rfl, _, rfl, ite2 (fun h => ?_) (fun h => ?_)⟩
      · have hl : at' < (ns.map V.int).length := by simpa using h
        obtain ⟨v, e1, e2⟩ := at_nat h0 hl
        rw [List.getElem?_map] at e2
        obtain ⟨z, _, rfl⟩ := Option.map_eq_some_iff.mp e2
        exact ⟨_, rfl, _, rfl, a, _, at', _, rfl, rfl, hS, e1, z, rfl, rfl⟩
      · exact ⟨0, rfl, rfl⟩
    · rintro σ' H' ⟨z, rfl, rfl⟩
      refine ⟨fun σ' H' => ∃ y : Int, 0 ≤ y ∧ σ' = [some (.ref a), some (.int at'), some (.int z), some (.int y), none] ∧ H = H', ?_, ?_⟩
      · refine ⟨_, rfl, _, rfl, _, _, rfl, rfl, ⟨by decide, by decide, by decide⟩, _, _, rfl, rfl, _, rfl, ite2 (fun h => ?_) (fun h => ?_)⟩
        · refine ⟨_, rfl, _, rfl, _, ?_, rfl, rfl⟩
          split <;> omega
        · exact ⟨0, Int.le_refl _, rfl, rfl⟩
      · rintro σ' H' ⟨y, hy, rfl, rfl⟩
        refine ⟨fun σ' H' => ∃ q : Int, σ' = [some (.ref a), some (.int at'), some (.int z), some (.int y), some (.int q)] ∧ H = H', ?_, ?_⟩
        · refine ⟨_, rfl, _, rfl, _, _, rfl, rfl, .inl (by decide), _, rfl, _, _, rfl, rfl, .inr ⟨_, rfl, _, _, rfl, rfl, .inl (by decide), _, _, rfl, rfl, _, rfl, _, _, rfl, rfl, .inl (by decide), _, _, rfl, rfl, _, _, rfl, rfl, ?_⟩⟩
          exact ⟨_, rfl, rfl⟩
        · rintro σ' H' ⟨q, rfl, rfl⟩
          have m0 : 0 ≤ q % 2305843009213693951 := Int.emod_nonneg _ (by decide)
          have m1 : q % 2305843009213693951 < 2305843009213693951 := Int.emod_lt_of_pos _ (by decide)
          refine ⟨_, rfl, _, rfl, .inl ⟨_, rfl, _, _, rfl, rfl, (by show (0 : Int) < 2305843009213693951; decide), (by show 3 ≤ sizeLine; decide), fun p hp => ?_⟩⟩
          exact k _ _ hp ⟨_, _, _, rfl, hy, m0, m1, Int.le_refl _, Int.le_refl _⟩
theorem scLaw : FnScope ["script", "at"] ["script"] (defScope sLaw) := ⟨rfl, rfl, rfl, by decide +kernel, rfl, by decide +kernel, by decide +kernel⟩
theorem ok_law {f : Addr} {fd : FuncData} {k : Nat} (F : Fun K "law" "law" sLaw f fd) (T : TL mg) (cB : Cl P w K mg base CX0 1 "_law_bag" (spBag K)) (cR : Cl P w K mg base CX0 (k + 1) "_law_right" spRight) : FnOk P w K mg base CX0 (k + 2) f fd ["script"] (spLaw K) := by
  refine F.ok scLaw (fun vs H Q E h => ?_) (fun cdv A outer s H vs Q E hr h => ?_)
  · obtain ⟨a, ns, rfl, _⟩ := h
    rfl
  · obtain ⟨a, ns, rfl, hS, hlen, kk⟩ := h
    refine ⟨_, pss_cons (ps_for PassesOwn.never rfl (pi_range1 rfl T.range (pa_cons (pe_callB (call_max2 rfl) (by rfl) T.max (by decide +kernel) (pa_cons pe_int (pa_cons (pe_callB (call_min2 rfl) (by rfl) T.min (by decide +kernel) (pa_cons pe_int (pa_cons (pe_callB call_len_seq (by rfl) T.len PySem.boot_len (pa_cons (pv 0) pa_nil)) pa_nil))) pa_nil))) pa_nil))
        (pg_name (i := 1) scLaw.nd rfl (.inl rfl))
        (pss_one (ps_if (pt_not (pt_val (pe_cl cR hr pass0 (pa_cons (pe_cl cB hr pass0 (pa_cons (pv 0) (pa_cons (pv 1) pa_nil)) (by omega)) pa_nil) (by omega)))) (pss_one (ps_ret pe_bl)) pss_nil)))
      (pss_one (ps_ret pe_bl)), ?_⟩
    refine ⟨_, rfl, a, _, rfl, .inl hS, _, _, rfl, _, _, rfl, _, rfl, ?_⟩
    generalize hj : (if (if ((List.map V.int ns).length : Int) < 8 then ((List.map V.int ns).length : Int) else 8) > 1 then if ((List.map V.int ns).length : Int) < 8 then ((List.map V.int ns).length : Int) else 8 else 1) = j
    have j1 : 1 ≤ j := by rw [← hj]; split <;> omega
    have j6 : j ≤ 8 := by rw [← hj]; split <;> split <;> omega
    refine ⟨by omega, by omega, for_range (lo := 0) (n := j.toNat) (fun i σ H2 => ∃ v : Option V, σ = [some (.ref a), v] ∧ SqL K H2 a (ns.map V.int)) ⟨none, rfl, hS⟩ ?_ ?_⟩
    · rintro i σ H2 hi ⟨v, rfl, hS2⟩
      refine ⟨_, rfl, _, rfl, a, ns, _, rfl, hS2, by omega, by omega, fun p xs hp hB => ⟨p, 0, xs, rfl, upd_same, hB, by omega, fun H5 zs5 bt hp5 hB5 => ⟨true, rfl, ?_⟩⟩⟩
      have hS3 := (same_new (o := .lst xs) hp).seq hS2
      refine iteF ⟨_, rfl, ?_⟩
      have hne : a ≠ p ∨ ∀ H, SqL K H a (ns.map V.int) := by
        rcases hS2 with (q | ⟨o, q⟩) | q
        · exact .inl (ne_of_none q hp)
        · exact .inl (ne_of_none q hp)
        · exact .inr fun _ => .inr q
      rcases hne with hne | hne
      · rcases hS3 with (q | ⟨o, q⟩) | q
        · exact .inl (.inl (bt _ _ hne q))
        · exact .inl (.inr ⟨o, bt _ _ hne q⟩)
        · exact .inr q
      · exact hne _
    · rintro σ H2 ⟨v, rfl, hS2⟩
      exact kk _
end
end My
namespace My
open PySem PySem.Spec PyProof.Rows Sx L2 PySem.HandSPX
theorem def_mk {K : PySem.W.Frag} {h : Heap} {mg : Str → Option Value} (X : K.In h) (G : h.Ns mainGlobals mg) {x : Str} {st : Stmt} {ps : List Str} {f : Addr} {oc : Value} {od an : Option Addr} {osl : Array (Option Value)} {kV doc pm cdv ct : Value}
    (a : PySem.W.nsIn K mainGlobals x = some (some (.ref f))) (l : K.lookup f = some ⟨oc, od, .func (PySem.W.fnOf x x (defArgs st) (defBody st) (defScope st) .none kV doc pm an cdv ct), osl⟩) (c : PySem.W.codeIn K cdv x = true) (k : PySem.W.keepIn K (.ref f) = true)
    (b : ∀ F : Fun K x x st f (PySem.W.fnOf x x (defArgs st) (defBody st) (defScope st) .none kV doc pm an cdv ct), Binds K (PySem.W.fnOf x x (defArgs st) (defBody st) (defScope st) .none kV doc pm an cdv ct) ps []) : DefAt K mg x st ps :=
  ⟨f, _, fun_mk l c k, PySem.W.mg_of X G a, b (fun_mk l c k)⟩
theorem one_mk {P : Program} {K : PySem.W.Frag} {h : Heap} {mg : Str → Option Value} (X : K.In h) (G : h.Ns mainGlobals mg) {x qual : Str} {st : Stmt} {names : List Str} {C fI cc cda : Addr}
    {nm q : Str} {N : Addr} {bs bm : List Value} {sn : List Str} {sub : List Value} {ab : Bool} {col : Option Bool} {dd : Option Addr} {m0 m1 m2 m3 m5 : Option Value}
    {oc : Value} {od an : Option Addr} {osl : Array (Option Value)} {kV doc pm ct : Value} {cl : Value} {cld : Option Addr} {csl : Array (Option Value)} {ccl : Value} {cdd : Option Addr} {vs : Array Value} {ccs : Array (Option Value)} {file : Str} {tf : Tok}
    (aC : PySem.W.nsIn K mainGlobals x = some (some (.ref C)))
    (xL : K.lookup C = some (excClassObj nm q C N bs bm true sn sub ab col dd m0 m1 m2 m3 m5 "ValueError.__new__"))
    (ia : PySem.W.findIn K (.ref C) "__init__" = some (some (.ref fI)))
    (l1 : K.lookup fI = some ⟨oc, od, .func (PySem.W.ksFn "__init__" qual (defArgs st) (defBody st) (defScope st) .none kV doc pm an (.ref cda) ct cc), osl⟩)
    (lk : K.lookup cc = some ⟨cl, cld, .cell (some (.ref C)), csl⟩)
    (lc : K.lookup cda = some ⟨ccl, cdd, .fields vs, ccs⟩) (v2 : vs[2]? = some (.str file tf)) (fl : ((P.main.file : Str) == file) = true)
    (rb : refsVE bm = true)
    (sa : PySem.W.findIn K (.ref C) "__setattr__" = some (some (.builtin "object.__setattr__")))
    (tc : PySem.W.typeIn K (.ref fI) = some (.type "function")) (c1 : PySem.W.codeIn K (.ref cda) qual = true)
    (kC : PySem.W.keepIn K (.ref C) = true) (eC : PySem.W.subIn K (.ref C) (.type "BaseException") = some true) (tC : PySem.W.typeIn K (.ref C) = some (.type "type"))
    (su : PySem.W.ks_superIn K C C "__init__" = some (some (.builtin "ValueError.__init__"))) (sV : PySem.W.subIn K (.ref C) (.type "ValueError") = some true) (ow : PySem.W.mroIn K C (.ref C) = some true)
    (s0 : PySem.W.nsIn K mainGlobals "super" = some none) (th : PySem.W.nsIn K cStatics "thirdparty.any" = some none) (tp : (P.main.scope.names.lookup ("super" : Str)).isSome = false)
    (nf : ∀ f ∈ names, PySem.W.findIn K (.ref C) f = some none) : OneC P K mg x qual st names C :=
  ⟨⟨fI, cc, cda, { cls := ⟨nm, q, N, bs, bm, sn, sub, ab, col, dd, m0, m1, m2, m3, m5, xL, rb⟩, sa := sa, iC := ia, tC := tc, kC := kC, exC := eC, tyC := tC, sup := su, sV := sV, own := ow, cell := ⟨_, _, _, lk⟩, code := ⟨_, _, _, _, _, _, lc, v2, fl⟩, fn := ⟨_, _, _, _, _, _, _, _, l1, c1⟩, sup0 := s0, third := th, top := tp }⟩, PySem.W.mg_of X G aC, nf⟩
theorem ask_of {P : Program} {K : PySem.W.Frag} {mg : Str → Option Value} {x qual : Str} {st : Stmt} {names : List Str} {C : Addr} (_ : OneC P K mg x qual st names C) (h1 : (PySem.W.clsIn K C).isSome = true) (h2 : PySem.W.hasDictIn K C = true)
    (h3 : PySem.W.findIn K (.ref C) "__getattribute__" = some (some (.builtin "BaseException.__getattribute__"))) (h4 : PySem.W.findIn K (.ref C) "__getattr__" = some none) (h5 : PySem.W.subIn K (.ref C) (.type "BaseException") = some true)
    (h6 : PySem.W.findIn K (.ref C) "__class__" = some (some (.builtin "object.__class__"))) (h7 : PySem.W.specialIn K (.builtin "object.__class__") "__get__" = some (some (.builtin "getset_descriptor.__get__"))) (h8 : PySem.W.takesIn K (.builtin "object.__class__") = some true) (h9 : PySem.W.mroIn K C (.type "object") = some true) : AskC K C :=
  ⟨h1, h2, h3, h4, h5, h6, h7, h8, h9⟩
theorem sq_mk {K : PySem.W.Frag} {a : Addr} {dd : Option Addr} {its : Array Value} {n : Nat} {sl : Array (Option Value)} {xs : List V} (l : K.lookup a = some ⟨.type "tuple", dd, .seq its n, sl⟩) (hv : Vals xs its.toList) (hz : its.size ≤ sizeLine) : ∀ H, SqT K H a xs := fun H => .inr ⟨_, its, n, l, rfl, rfl, hz, hv⟩
theorem funI_mk {K : PySem.W.Frag} {f Dk : Addr} {oc : Value} {od an : Option Addr} {osl : Array (Option Value)} {doc pm cdv ct : Value} {tk : Tok}
    (l : K.lookup f = some ⟨oc, od, .func (PySem.W.fnOf "__init__" "Callers.__init__" (defArgs sInit) (defBody sInit) (defScope sInit) .none (.ref Dk) doc pm an cdv ct), osl⟩) (c : PySem.W.codeIn K cdv "Callers.__init__" = true) (k : PySem.W.keepIn K (.ref f) = true)
    (a1 : PySem.W.nsIn K Dk "times" = some (some .none)) (a2 : PySem.W.nsIn K Dk "look" = some (some (.str "equal" tk))) (a3 : PySem.W.nsIn K Dk "methods" = some (some .none)) (a4 : PySem.W.nsIn K Dk "fresh" = some (some (.bool false))) :
    FunI K f (PySem.W.fnOf "__init__" "Callers.__init__" (defArgs sInit) (defBody sInit) (defScope sInit) .none (.ref Dk) doc pm an cdv ct) := by
  refine ⟨⟨oc, od, .none, .ref Dk, doc, pm, an, cdv, ct, osl, rfl, l, c, .inl ⟨rfl, rfl⟩, .inr ⟨Dk, rfl, fun q hq => ?_⟩⟩, k⟩
  simp only [kwsC, List.mem_cons, List.not_mem_nil, or_false] at hq
  rcases hq with rfl | rfl | rfl | rfl
  · exact ⟨_, a1, rfl⟩
  · exact ⟨_, a2, _, rfl⟩
  · exact ⟨_, a3, rfl⟩
  · exact ⟨_, a4, rfl⟩
theorem end_mk {P : Program} {w : World} {K : PySem.W.Frag} {h : Heap} {mg : Str → Option Value} {fa : Addr} (X : K.In h) (G : h.Ns mainGlobals mg) (hfa : mg "law" = some (.ref fa)) {C f0 f1 aR : Addr} {fd0 fd1 : FuncData}
    (O : OneC P K mg "BadCallers" "BadCallers.__init__" (inClass (top 2) 0) ["part"] aR) (T : TC K mg C) (Z : KT K mg aR) (hmax : mg "max" = none) (hmin : mg "min" = none) (habs : mg "abs" = none) (hlist : mg "list" = none)
    (M : Mk K C f0) (FI : FunI K f0 fd0) (FE : Fun K "__eq__" "Callers.__eq__" sEq f1 fd1) (hs : PySem.W.findIn K (.ref C) "__eq__" = some (some (.ref f1))) (hf : PySem.W.isFn K (.ref f1) = true) (hb1 : Fun K "__eq__" "Callers.__eq__" sEq f1 fd1 → Binds K fd1 ["self", "other"] [])
    (n1 : PySem.W.notFirst K C (.type "str") = true) (n2 : PySem.W.notFirst K C (.type "tuple") = true)
    (dI : DefAt K mg "is_integer" sIsInt ["value"]) (dS : DefAt K mg "is_spelled" sIsSpelled ["value", "letters"]) (dW : DefAt K mg "is_word" sIsWord ["value"]) (dA : DefAt K mg "are_words" sAreWords ["value"])
    (l1 : DefAt K mg "_law_bag" sBag ["script", "at"]) (l2 : DefAt K mg "_law_take" sTake ["pot", "many"]) (l3 : DefAt K mg "_law_of" sOf ["pot", "some"]) (l4 : DefAt K mg "_law_words" sWords ["pot", "many"]) (l5 : DefAt K mg "_law_picked" sPicked ["pot", "some", "many"]) (l6 : DefAt K mg "_law_strict" sStrict ["one", "other"])
    (l7 : DefAt K mg "_law_made" sMade ["passes", "gaze", "some_parts", "is_new"]) (l8 : DefAt K mg "_law_are_words" sAreW ["given", "terms"]) (l9 : DefAt K mg "_law_callers" sCallers ["pot", "terms"]) (la : DefAt K mg "_law_right" sRight ["pot"])
    {f4 : Addr} {oc4 : Value} {od4 an4 : Option Addr} {sl4 : Array (Option Value)} {kV4 dc4 pm4 cd4 ct4 : Value}
    (a4 : PySem.W.nsIn K mainGlobals "law" = some (some (.ref f4))) (m4 : K.lookup f4 = some ⟨oc4, od4, .func (PySem.W.fnOf "law" "law" (defArgs sLaw) (defBody sLaw) (defScope sLaw) .none kV4 dc4 pm4 an4 cd4 ct4), sl4⟩) (c4 : PySem.W.codeIn K cd4 "law" = true) (k4 : PySem.W.keepIn K (.ref f4) = true) :
    ∃ fd : FuncData, (∀ (s : Shared) (u : Value), BindsTo s fd ⟨[u], []⟩ [("script", u)]) ∧ ∀ base : Heap, K.In base → base.Ns mainGlobals mg → FnOk P w K mg base CX0 8 fa fd ["script"] (spLaw K) := by
  have e := hfa.symm.trans (PySem.W.mg_of X G a4)
  cases e
  have tb : TB mg := ⟨T.int, T.len, habs⟩
  have tl : TL mg := { toTB := tb, range := T.range, max := hmax, min := hmin }
  refine ⟨PySem.W.fnOf "law" "law" (defArgs sLaw) (defBody sLaw) (defScope sLaw) .none kV4 dc4 pm4 an4 cd4 ct4, fun s u => .of_eq rfl, fun base _ _ => ?_⟩
  have cT := cl_take (P := P) (w := w) (base := base) l2 tb
  have cO := cl_of l3 tb cT
  have cOS := cl_ofS l3 tb cT
  have cW := cl_words l4 T.range tb cT cOS
  have cP := cl_picked l5 T.range hmin hlist tb cT
  have cS := cl_isSpelled (P := P) (w := w) (base := base) dS T.toTw
  have cWd := cl_isWord dW T.toTw cS
  have cA := cl_areWords dA T.toTw cWd
  have cI := cl_isInt (P := P) (w := w) (base := base) dI T.toTw
  have F0 : FnOk P w K mg base (L2N.CX P w) 4 f0 fd0 NI (spInit C aR) := ok_init FI T.toTM O cI cA
  have cM := cl_made l7 T Z O M FI F0
  have cSt := cl_strict (P := P) (w := w) (base := base) l6 T.toTw 2
  have cAW := cl_areW (P := P) (w := w) (base := base) l8 T.toTw
  have cC := cl_callers l9 T.toTw hlist cT cO cP cAW
  have F1 : FnOk P w K mg base CX0 1 f1 fd1 ["self", "other"] (spEqC C) := ok_eq FE T
  exact ok_law (k := 6) (fun_mk (st := sLaw) m4 c4 k4) tl (cl_bag l1 tb) (cl_right la T cW cC cM cSt M FI F0 F1 hs hf (hb1 FE) n1 n2)
theorem tw_mk {K : PySem.W.Frag} {h : Heap} {mg : Str → Option Value} (_ : K.In h) (T : Tw K mg) : Tw K mg := T
theorem na {K : PySem.W.Frag} {C : Addr} {f : Str} (h : PySem.W.findIn K (.ref C) f = some none) : NoAttr K C f := h
end My
namespace My
open PySem PySem.Spec PyProof.Rows L2
theorem walk {l : PySem.W.OpenLaw} {q : Program} {loose : List Str} {XP : (Str → Option Value) → Heap → Prop} {YP : World → Heap → Prop} {d : DefRec} {K : Params → PySem.W.Frag} (hn : l.most = some 63) (hdf : d.params.defaults = [])
    (hY : ∀ (w : World) (h : Heap), YP w h → (K w.params).In h)
    (F : ∀ (w : World) (mg : Str → Option Value) (fa : Addr) (h : Heap), (K w.params).In h → h.Ns mainGlobals mg → mg d.name = some (.ref fa) →
      ∃ fd : FuncData, (∀ (s : Shared) (u : Value), BindsTo s fd ⟨[u], []⟩ [("script", u)]) ∧ ∀ base : Heap, (K w.params).In base → base.Ns mainGlobals mg → FnOk l.prog w (K w.params) mg base CX0 8 fa fd ["script"] (spLaw (K w.params))) :
    PySem.W.WalkO q loose XP YP l.row.toRowW d [] (fun f vs => PySem.call f vs) :=
  L2.walk_of (n := 63) (k := 8) (x := "script") (CX := fun _ => CX0) (sp := fun w => spLaw (K w.params)) hn (by decide) hdf ⟨rfl, by decide, by decide⟩ hY F (fun _ _ a ns hl _ hS => ⟨a, ns, rfl, hS, hl, fun _ => rfl⟩) fun _ _ _ _ _ z => z
end My
open PySem PySem.W PyProof.Rows
set_option maxRecDepth 100000 in
set_option maxHeartbeats 0 in
theorem PySem.Challenge.cw_carriedfields_k93_callers_made_holds : PySem.Challenge.rw_carriedfields_k93_callers_made.Holds := by
  w_on; o_law; k_head; (case hw => w_witness2)
  k_fill
  refine My.walk (l := PySem.Challenge.rw_carriedfields_k93_callers_made) rfl rfl (fun w h Y => PySem.W.kIn_of Y) ?F
  case F =>
    intro w mg fa h KX G hmg
    have OB := My.one_mk (P := PySem.Challenge.pw_carriedfields_k93_callers_made) KX G (x := "BadCallers") (qual := "BadCallers.__init__") (st := L2.inClass (My.top 2) 0) (names := ["part"]) (by k_is) (by k_is) (by k_is) (by k_is) (by k_is) (by k_is) (by rfl) (by decide +kernel) (by decide +kernel) (by k_is) (by k_is) (by k_is) (by k_is) (by k_is) (by k_is) (by kernel_rfl) (by k_is) (by k_is) (by k_is) (by k_is) (by decide +kernel) (My.fa1 (by k_is))
    have AOB := My.ask_of OB (by kernel_rfl) (by k_is) (by k_is) (by k_is) (by k_is) (by k_is) (by k_is) (by k_is) (by k_is)
    have dI := My.def_mk KX G (x := "is_integer") (st := My.top 7) (ps := ["value"]) (by k_is) (by k_is) (by k_is) (by k_is) (fun F => F.binds fun _ _ _ _ _ _ us hl => match us, hl with | [_], _ => rfl)
    have dS := My.def_mk KX G (x := "is_spelled") (st := My.top 8) (ps := ["value", "letters"]) (by k_is) (by k_is) (by k_is) (by k_is) (fun F => F.binds fun _ _ _ _ _ _ us hl => match us, hl with | [_, _], _ => rfl)
    have dW := My.def_mk KX G (x := "is_word") (st := My.top 9) (ps := ["value"]) (by k_is) (by k_is) (by k_is) (by k_is) (fun F => F.binds fun _ _ _ _ _ _ us hl => match us, hl with | [_], _ => rfl)
    have dA := My.def_mk KX G (x := "are_words") (st := My.top 13) (ps := ["value"]) (by k_is) (by k_is) (by k_is) (by k_is) (fun F => F.binds fun _ _ _ _ _ _ us hl => match us, hl with | [_], _ => rfl)
    have l1 := My.def_mk KX G (x := "_law_bag") (st := My.top 15) (ps := ["script", "at"]) (by k_is) (by k_is) (by k_is) (by k_is) (fun F => F.binds fun _ _ _ _ _ _ us hl => match us, hl with | [_, _], _ => rfl)
    have l2 := My.def_mk KX G (x := "_law_take") (st := My.top 16) (ps := ["pot", "many"]) (by k_is) (by k_is) (by k_is) (by k_is) (fun F => F.binds fun _ _ _ _ _ _ us hl => match us, hl with | [_, _], _ => rfl)
    have l3 := My.def_mk KX G (x := "_law_of") (st := My.top 17) (ps := ["pot", "some"]) (by k_is) (by k_is) (by k_is) (by k_is) (fun F => F.binds fun _ _ _ _ _ _ us hl => match us, hl with | [_, _], _ => rfl)
    have l4 := My.def_mk KX G (x := "_law_words") (st := My.top 18) (ps := ["pot", "many"]) (by k_is) (by k_is) (by k_is) (by k_is) (fun F => F.binds fun _ _ _ _ _ _ us hl => match us, hl with | [_, _], _ => rfl)
    have l5 := My.def_mk KX G (x := "_law_picked") (st := My.top 19) (ps := ["pot", "some", "many"]) (by k_is) (by k_is) (by k_is) (by k_is) (fun F => F.binds fun _ _ _ _ _ _ us hl => match us, hl with | [_, _, _], _ => rfl)
    have l6 := My.def_mk KX G (x := "_law_strict") (st := My.top 20) (ps := ["one", "other"]) (by k_is) (by k_is) (by k_is) (by k_is) (fun F => F.binds fun _ _ _ _ _ _ us hl => match us, hl with | [_, _], _ => rfl)
    have l7 := My.def_mk KX G (x := "_law_made") (st := My.top 21) (ps := ["passes", "gaze", "some_parts", "is_new"]) (by k_is) (by k_is) (by k_is) (by k_is) (fun F => F.binds fun _ _ _ _ _ _ us hl => match us, hl with | [_, _, _, _], _ => rfl)
    have l8 := My.def_mk KX G (x := "_law_are_words") (st := My.top 22) (ps := ["given", "terms"]) (by k_is) (by k_is) (by k_is) (by k_is) (fun F => F.binds fun _ _ _ _ _ _ us hl => match us, hl with | [_, _], _ => rfl)
    have l9 := My.def_mk KX G (x := "_law_callers") (st := My.top 23) (ps := ["pot", "terms"]) (by k_is) (by k_is) (by k_is) (by k_is) (fun F => F.binds fun _ _ _ _ _ _ us hl => match us, hl with | [_, _], _ => rfl)
    have la := My.def_mk KX G (x := "_law_right") (st := My.top 24) (ps := ["pot"]) (by k_is) (by k_is) (by k_is) (by k_is) (fun F => F.binds fun _ _ _ _ _ _ us hl => match us, hl with | [_], _ => rfl)
    have TW := My.tw_mk (mg := mg) KX ⟨(PySem.W.mg_none_of (n := "isinstance") KX G (by k_is)), (PySem.W.mg_none_of (n := "int") KX G (by k_is)), (PySem.W.mg_none_of (n := "str") KX G (by k_is)), (PySem.W.mg_none_of (n := "bool") KX G (by k_is)), (PySem.W.mg_none_of (n := "len") KX G (by k_is)), (PySem.W.mg_none_of (n := "all") KX G (by k_is)), (PySem.W.mg_none_of (n := "tuple") KX G (by k_is)), (PySem.W.mg_none_of (n := "range") KX G (by k_is)), ⟨_, PySem.W.mg_of (n := "SMALL") KX G (by k_is)⟩, ⟨_, PySem.W.mg_of (n := "LONGEST") KX G (by k_is)⟩, ⟨_, PySem.W.mg_of (n := "RESERVED") KX G (by k_is), My.sq_mk (by k_is) (by repeat (first | exact .nil | refine .cons ⟨_, rfl⟩ ?_)) (by decide)⟩⟩
    refine' My.end_mk KX G hmg OB ?zzT ?zzZ (PySem.W.mg_none_of (n := "max") KX G (by k_is)) (PySem.W.mg_none_of (n := "min") KX G (by k_is)) (PySem.W.mg_none_of (n := "abs") KX G (by k_is)) (PySem.W.mg_none_of (n := "list") KX G (by k_is)) ?zzM ?zzFI ?zzFE ?zzhs ?zzhf ?zzhb ?zzn1 ?zzn2 dI dS dW dA l1 l2 l3 l4 l5 l6 l7 l8 l9 la ?zza4 ?zzm4 ?zzc4 ?zzk4
    (case zzT => exact { toTw := TW, looks := ⟨_, PySem.W.mg_of (n := "LOOKS") KX G (by k_is), My.sq_mk (by k_is) (by repeat (first | exact .nil | refine .cons ⟨_, rfl⟩ ?_)) (by decide)⟩, gC := PySem.W.mg_of (n := "Callers") KX G (by k_is), cls := ⟨by k_is, by k_is, by k_is, by k_is⟩, n1 := My.na (by k_is), n2 := My.na (by k_is), n3 := My.na (by k_is), n4 := My.na (by k_is), ha := by k_is, hn := by k_is, htk := by k_is, hm := by k_is, cc := by kernel_rfl, cs := by kernel_rfl, ts := by kernel_rfl, tt := by kernel_rfl })
    (case zzZ => exact ⟨by kernel_rfl, AOB⟩)
    (case zzM => exact ⟨by k_is, by k_is, by k_is, by k_is⟩)
    (case zzFI => exact My.funI_mk (by k_is) (by k_is) (by k_is) (by k_is) (by k_is) (by k_is) (by k_is))
    (case zzhs => k_is)
    (case zzhf => k_is)
    (case zzFE => exact L2.fun_mk (by k_is) (by k_is) (by k_is))
    (case zzhb => exact fun F => F.binds fun _ _ _ _ _ _ us hl => match us, hl with | [_, _], _ => rfl)
    (case zzn1 => kernel_rfl)
    (case zzn2 => kernel_rfl)
    (case zza4 => k_is); (case zzm4 => k_is); (case zzc4 => k_is); (case zzk4 => k_is)
