/- The contracts of Compare, of the library's functions that it calls, and of the document's own Compare. Conditions: those of each theorem. -/
import Derived.Test.YthklkhdcmoonkaaE
import Derived.Test.YthklkhdcmoonkaaL
import Derived.Test.YthklkhdcmoonkaaK
namespace Go.Proofs.Ythklkhdcmoonkaa
open Go.RowKit

def orr (x y : Int) : Int := if x = 0 then y else x
/-- Which of two labels is ahead. -/
def cm1 (x y : Lb) : Int := orr (ci (nums x.1) (nums y.1)) (ci (nums x.2) (nums y.2))
/-- Which of two rows of labels is ahead. -/
def cml : List Lb → List Lb → Int
  | [], [] => 0
  | [], _ :: _ => -1
  | _ :: _, [] => 1
  | x :: a, y :: b => if x = y then cml a b else cm1 x y
theorem cm1_cases (x y : Lb) : cm1 x y = -1 ∨ cm1 x y = 0 ∨ cm1 x y = 1 := by
  unfold cm1 orr; split <;> exact ci_cases _ _
theorem cm1_turn (x y : Lb) : cm1 y x = - cm1 x y := by
  unfold cm1 orr
  rw [ci_turn (nums x.1) (nums y.1), ci_turn (nums x.2) (nums y.2)]
  by_cases h : ci (nums x.1) (nums y.1) = 0
  · rw [if_pos h, if_pos (by omega)]
  · rw [if_neg h, if_neg (by omega)]
theorem cml_cases : ∀ a b : List Lb, cml a b = -1 ∨ cml a b = 0 ∨ cml a b = 1
  | [], [] => .inr (.inl rfl)
  | [], _ :: _ => .inl rfl
  | _ :: _, [] => .inr (.inr rfl)
  | x :: a, y :: b => by
    unfold cml; split
    · exact cml_cases a b
    · exact cm1_cases x y
theorem cml_turn : ∀ a b : List Lb, cml b a = - cml a b
  | [], [] => rfl
  | [], _ :: _ => rfl
  | _ :: _, [] => rfl
  | x :: a, y :: b => by
    unfold cml
    by_cases h : x = y
    · rw [if_pos h, if_pos h.symm]; exact cml_turn a b
    · rw [if_neg h, if_neg (fun e => h e.symm)]; exact cm1_turn x y
theorem cml_self : ∀ a : List Lb, cml a a = 0
  | [] => rfl
  | x :: a => by unfold cml; rw [if_pos rfl]; exact cml_self a
def cI (m n : Nat) : Int := if m < n then -1 else if n < m then 1 else 0
theorem cml_end {a b : List Lb} {k : Nat} (h : k = min a.length b.length) : cml (a.drop k) (b.drop k) = cI a.length b.length := by
  unfold cI
  rcases Nat.lt_trichotomy a.length b.length with h1 | h1 | h1
  · rw [List.drop_eq_nil_of_le (show a.length ≤ k by omega), drop_consL b k (by omega), if_pos h1]; rfl
  · rw [List.drop_eq_nil_of_le (show a.length ≤ k by omega), List.drop_eq_nil_of_le (show b.length ≤ k by omega), if_neg (by omega), if_neg (by omega)]; rfl
  · rw [drop_consL a k (by omega), List.drop_eq_nil_of_le (show b.length ≤ k by omega), if_neg (by omega), if_pos h1]; rfl
theorem ret_int {a b : Int} (h : a = b) : Ending.returned (.int .i64 a) = .returned (.int .i64 b) := by rw [h]

theorem strc_any (a b : ByteArray) (w : World) : Calls Try.prog 40 #[.string a, .string b] w fun e w' => e = .returned (.int .i64 (ci (nums a) (nums b))) ∧ w' = w := by
  have h := Any.strings_Compare Try.sc106 a b w
  rw [cmp_eq] at h
  exact h
theorem sl_two (w : World) (x y : Int) : Sl .i64 [x, y] (.slice (some ⟨w.heap.size, 0, none⟩) 2 2) (w.alloc (.cells #[.int .i64 x, .int .i64 y] 3)) := by
  refine ⟨w.heap.size, 0, 2, rfl, by simp, by simp, by decide, ?_⟩
  intro i hi
  match i, hi with
  | 0, _ => simp
  | 1, _ => simp

set_option maxHeartbeats 800000 in
theorem or_any (g o c : Nat) (x y : Int) (w : World) (h0 : w.cell? ⟨g, o + 0, none⟩ = some (.int .i64 x)) (h1 : w.cell? ⟨g, o + 1, none⟩ = some (.int .i64 y)) :
    Calls Try.prog 39 #[.slice (some ⟨g, o, none⟩) 2 c] w fun e w' => e = .returned (.int .i64 (orr x y)) ∧ w' = w := by
  rw [Nat.add_zero] at h0
  obtain ⟨r, hr⟩ : ∃ r, Hid (r = orr x y) := ⟨_, rfl⟩
  rw [← hr.out]
  by_cases hx : x = 0
  · subst hx
    by_cases hy : y = 0
    · subst hy
      go_enter Try.func39, Try.ntmps39
      go_wp2
      refine wp_loop_rounds 3 ?_
      rw [rounds_succ]
      go_wp2
      rw [rounds_succ]
      go_wp2
      rw [rounds_succ]
      go_wp2
      go_ret
      exact ⟨ret_int (by rw [hr.out]; rfl), rfl⟩
    · have hy' : (y == 0) = false := by simpa using hy
      have HY : Hid (¬ y = 0) := hy
      clear hy
      go_enter Try.func39, Try.ntmps39
      go_wp2
      refine wp_loop_rounds 2 ?_
      rw [rounds_succ]
      go_wp2
      rw [rounds_succ]
      go_wp2
      go_ret
      exact ⟨ret_int (by rw [hr.out]; simp [orr]), rfl⟩
  · have hx' : (x == 0) = false := by simpa using hx
    have HX : Hid (¬ x = 0) := hx
    clear hx
    go_enter Try.func39, Try.ntmps39
    go_wp2
    refine wp_loop_rounds 1 ?_
    rw [rounds_succ]
    go_wp2
    go_ret
    exact ⟨ret_int (by rw [hr.out]; simp [orr, HX.out]), rfl⟩

theorem nan_any (x : Int) (w : World) : Calls Try.prog 49 #[.int .i64 x] w fun e w' => e = .returned (.bool false) ∧ w' = w := by
  go_enter Try.func49, Try.ntmps49
  go_wp2
  go_ret
  exact ⟨by simp, rfl⟩
theorem cmpi_any (x y : Nat) (w : World) : Calls Try.prog 41 #[.int .i64 (x : Int), .int .i64 (y : Int)] w fun e w' => e = .returned (.int .i64 (cI x y)) ∧ w' = w := by
  rcases Nat.lt_trichotomy x y with h | h | h
  · have e : cI x y = -1 := by unfold cI; rw [if_pos h]
    rw [e]
    have h' : (x : Int) < (y : Int) := by omega
    go_enter Try.func41, Try.ntmps41
    go_wp2_with (go_at_call 49; refine (nan_any _ _).mono ?_; rintro e w' ⟨rfl, rfl⟩)
    go_ret
    exact ⟨rfl, rfl⟩
  · have e : cI x y = 0 := by unfold cI; rw [if_neg (by omega), if_neg (by omega)]
    rw [e]
    subst h
    go_enter Try.func41, Try.ntmps41
    go_wp2_with (go_at_call 49; refine (nan_any _ _).mono ?_; rintro e w' ⟨rfl, rfl⟩)
    go_ret
    exact ⟨rfl, rfl⟩
  · have e : cI x y = 1 := by unfold cI; rw [if_neg (by omega), if_pos h]
    rw [e]
    have h' : ¬ (x : Int) < (y : Int) := by omega
    have h'' : (y : Int) < (x : Int) := by omega
    go_enter Try.func41, Try.ntmps41
    go_wp2_with (go_at_call 49; refine (nan_any _ _).mono ?_; rintro e w' ⟨rfl, rfl⟩)
    go_ret
    exact ⟨rfl, rfl⟩

set_option linter.unusedVariables false in
set_option linter.unusedSimpArgs false in
set_option maxRecDepth 20000 in
set_option maxHeartbeats 4000000 in
theorem compare_any (a1 a2 : Option Addr) (n1 n2 c1 c2 : Nat) (l1 l2 : List Lb) (w : World) (hn1 : n1 ≤ 100000) (hn2 : n2 ≤ 100000) (h1 : IsL w a1 n1 c1 l1) (h2 : IsL w a2 n2 c2 l2) :
    Calls Try.prog 26 #[.slice a1 n1 c1, .slice a2 n2 c2] w fun e w' => e = .returned (.int .i64 (cml l1 l2)) ∧ Below w.heap.size w w' := by
  obtain ⟨b, hb⟩ : ∃ b, Hid (b = cml l1 l2) := ⟨_, rfl⟩
  rw [← hb.out]
  have HI : Hid (IsL w a1 n1 c1 l1 ∧ IsL w a2 n2 c2 l2) := ⟨h1, h2⟩
  clear h1 h2
  obtain ⟨M, hmin, hM⟩ : ∃ M : Nat, (∀ ts t w', Sem.run Try.prog (Builtin.min_ ts t #[.int .i64 (n1 : Int), .int .i64 (n2 : Int)]) w' = .ok (.int .i64 (M : Int)) w') ∧ M = min n1 n2 := by
    by_cases h : (n2 : Int) < (n1 : Int)
    · exact ⟨n2, fun ts t w' => by simp [go_sem]; omega, by omega⟩
    · exact ⟨n1, fun ts t w' => by simp [go_sem]; omega, by omega⟩
  have hM1 : M ≤ n1 := by omega
  have hM2 : M ≤ n2 := by omega
  have HM : Hid (M = min n1 n2) := hM
  clear hM
  go_enter Try.func26, Try.ntmps26
  go_wp2
  go_loopw [5, 11] (fun _ i wr => ∃ k q : Nat, i = .int .i64 (k : Int) ∧ k ≤ M ∧ Hid (cml l1 l2 = cml (l1.drop k) (l2.drop k)) ∧ wr = w.drewN q) (fun _ i _ => M - (intOf i).toNat)
  case atStart => exact ⟨0, 0, rfl, Nat.zero_le _, rfl, rfl⟩
  case round =>
    obtain ⟨k, q, rfl, hk, HT, rfl⟩ := hrel
    by_cases hlt : k < M
    · have hlt' : (k : Int) < (M : Int) := by omega
      have hlt1 : (k : Int) < (n1 : Int) := by omega
      have hlt2 : (k : Int) < (n2 : Int) := by omega
      have hk0 : (0 : Int) ≤ (k : Int) := by omega
      have hk1 : k < l1.length := by rw [HI.out.1.hl]; omega
      have hk2 : k < l2.length := by rw [HI.out.2.hl]; omega
      obtain ⟨g1, o1, rfl, hg1, p0, p1⟩ := HI.out.1.rd.at hk1
      obtain ⟨g2, o2, rfl, hg2, q0, q1⟩ := HI.out.2.rd.at hk2
      by_cases he : l1.getD k l0 = l2.getD k l0
      · have HT2 : Hid (cml l1 l2 = cml (l1.drop (k + 1)) (l2.drop (k + 1))) := by
          show _ = _
          rw [HT.out, drop_consL l1 k hk1, drop_consL l2 k hk2, cml, if_pos he]
        rw [← he] at q0 q1
        clear he hk1 hk2
        generalize (l1.getD k l0).1 = M1 at *
        generalize (l1.getD k l0).2 = V1 at *
        go_wp2
        go_quiet (fail)
        go_wp2
        go_roundw
        case rel => exact ⟨k + 1, _, by go_num, by omega, HT2, rfl⟩
        case measure => simp [intOf]; omega
      · have HN : Hid (cml l1 l2 = cm1 (l1.getD k l0) (l2.getD k l0)) := by
          show _ = _
          rw [HT.out, drop_consL l1 k hk1, drop_consL l2 k hk2, cml, if_neg he]
        obtain ⟨x, hx⟩ : ∃ x, Hid (x = l1.getD k l0) := ⟨_, rfl⟩
        obtain ⟨y, hy⟩ : ∃ y, Hid (y = l2.getD k l0) := ⟨_, rfl⟩
        rw [← hx.out] at he p0 p1 HN
        rw [← hy.out] at he q0 q1 HN
        clear hk1 hk2
        obtain ⟨n, v⟩ := x
        obtain ⟨n', v'⟩ := y
        simp only at p0 p1 q0 q1
        obtain ⟨x1, hx1⟩ : ∃ x, Hid (x = ci (nums n) (nums n')) := ⟨_, rfl⟩
        obtain ⟨x2, hx2⟩ : ∃ x, Hid (x = ci (nums v) (nums v')) := ⟨_, rfl⟩
        have HS1 : Hid (∀ W, Calls Try.prog 40 #[.string n, .string n'] W fun e w' => e = .returned (.int .i64 x1) ∧ w' = W) := fun W => by rw [hx1.out]; exact strc_any n n' W
        have HS2 : Hid (∀ W, Calls Try.prog 40 #[.string v, .string v'] W fun e w' => e = .returned (.int .i64 x2) ∧ w' = W) := fun W => by rw [hx2.out]; exact strc_any v v' W
        have HO : Hid (cml l1 l2 = orr x1 x2) := by show _ = _; rw [HN.out, hx1.out, hx2.out]; rfl
        have hne : (n.toList == n'.toList && v.toList == v'.toList) = false := by
          rw [beq_eq, beq_eq, Bool.eq_false_iff]
          intro h
          simp only [Bool.and_eq_true, decide_eq_true_eq] at h
          exact he (by rw [h.1, h.2])
        clear he
        by_cases e1 : (n.toList == n'.toList) = true
        · have e2 : (v.toList == v'.toList) = false := by rw [e1] at hne; simpa using hne
          clear hne
          go_wp2
          go_quiet (fail)
          go_wp2_with fail
          refine wp_region_K (by kernel_rfl) (by kernel_rfl) [.eq (.slice (some ⟨g1, o1, none⟩) n1 c1), .eq (.int .i64 (k : Int)), .eq (.pointer (some ⟨g1, o1 + k * 2, none⟩)), .eq (.pointer (some ⟨g1, o1 + k * 2, none⟩)), .eq (.string n), .eq (.slice (some ⟨g2, o2, none⟩) n2 c2), .eq (.int .i64 (k : Int)), .eq (.pointer (some ⟨g2, o2 + k * 2, none⟩)), .eq (.pointer (some ⟨g2, o2 + k * 2, none⟩)), .eq (.string n'), .eq (.int .i64 x1), .eq (.slice (some ⟨g1, o1, none⟩) n1 c1), .eq (.int .i64 (k : Int)), .eq (.pointer (some ⟨g1, o1 + k * 2, none⟩)), .eq (.pointer (some ⟨g1, o1 + k * 2 + 1, none⟩)), .eq (.string v), .eq (.slice (some ⟨g2, o2, none⟩) n2 c2), .eq (.int .i64 (k : Int)), .eq (.pointer (some ⟨g2, o2 + k * 2, none⟩)), .eq (.pointer (some ⟨g2, o2 + k * 2 + 1, none⟩)), .eq (.string v'), .eq (.int .i64 x2), .rd .i64 ([x1, x2]), .eq (.int .i64 (orr x1 x2)), .eq (.int .i64 (orr x1 x2))] _ (Below.refl _ _) (allOps_cons ?_ (allOps_cons ?_ (allOps_cons ?_ (allOps_cons ?_ (allOps_cons ?_ (allOps_cons ?_ (allOps_cons ?_ (allOps_cons ?_ (allOps_cons ?_ (allOps_cons ?_ (allOps_cons ?_ (allOps_cons ?_ (allOps_cons ?_ (allOps_cons ?_ (allOps_cons ?_ (allOps_cons ?_ (allOps_cons ?_ (allOps_cons ?_ (allOps_cons ?_ (allOps_cons ?_ (allOps_cons ?_ (allOps_cons ?_ (allOps_cons ?_ (allOps_cons ?_ (allOps_cons ?_ allOps_nil))))))))))))))))))))))))) ?_
          · intro a wx hS hb hf
            have s0 : a.eval (.tmp 0) = .slice (some ⟨g1, o1, none⟩) n1 c1 := (hf 0 (by kernel_rfl)).trans rfl
            rw [if_pos (wanted_none rfl)]
            refine does_val (v := .slice (some ⟨g1, o1, none⟩) n1 c1) (w' := wx) ?_ ⟨rfl, Below.refl _ _⟩
            have t0 := (ev_tmp a 0).symm.trans s0
            simp [execOp, go_sem, t0]
          · intro a wx hS hb hf
            have s5 : a.eval (.tmp 5) = .int .i64 (k : Int) := (hf 5 (by kernel_rfl)).trans rfl
            rw [if_pos (wanted_none rfl)]
            refine does_val (v := .int .i64 (k : Int)) (w' := wx) ?_ ⟨rfl, Below.refl _ _⟩
            have t5 := (ev_tmp a 5).symm.trans s5
            simp [execOp, go_sem, t5]
          · intro a wx hS hb hf
            have s23 : a.eval (.tmp 23) = .slice (some ⟨g1, o1, none⟩) n1 c1 := slot hb 0 0 23 rfl rfl
            have s24 : a.eval (.tmp 24) = .int .i64 (k : Int) := slot hb 1 1 24 rfl rfl
            rw [if_pos (wanted_none rfl)]
            refine does_val (v := .pointer (some ⟨g1, o1 + k * 2, none⟩)) (w' := wx) ?_ ⟨rfl, Below.refl _ _⟩
            have t23 := (ev_tmp a 23).symm.trans s23
            have t24 := (ev_tmp a 24).symm.trans s24
            simp [execOp, go_sem, t23, t24, hlt1]
            first | done | (intro h; omega)
          · intro a wx hS hb hf
            have s25 : a.eval (.tmp 25) = .pointer (some ⟨g1, o1 + k * 2, none⟩) := slot hb 0 2 25 rfl rfl
            rw [if_pos (wanted_none rfl)]
            refine does_val (v := .pointer (some ⟨g1, o1 + k * 2, none⟩)) (w' := wx) ?_ ⟨rfl, Below.refl _ _⟩
            have t25 := (ev_tmp a 25).symm.trans s25
            simp [execOp, go_sem, t25]
          · intro a wx hS hb hf
            have s26 : a.eval (.tmp 26) = .pointer (some ⟨g1, o1 + k * 2, none⟩) := slot hb 0 3 26 rfl rfl
            rw [if_pos (wanted_none rfl)]
            have d0 := (hS.cell (p := ⟨g1, o1 + k * 2, none⟩) hg1).trans p0
            refine does_val (v := .string n) (w' := wx) ?_ ⟨rfl, Below.refl _ _⟩
            have t26 := (ev_tmp a 26).symm.trans s26
            simp [execOp, go_sem, t26, d0]
          · intro a wx hS hb hf
            have s1 : a.eval (.tmp 1) = .slice (some ⟨g2, o2, none⟩) n2 c2 := (hf 1 (by kernel_rfl)).trans rfl
            rw [if_pos (wanted_none rfl)]
            refine does_val (v := .slice (some ⟨g2, o2, none⟩) n2 c2) (w' := wx) ?_ ⟨rfl, Below.refl _ _⟩
            have t1 := (ev_tmp a 1).symm.trans s1
            simp [execOp, go_sem, t1]
          · intro a wx hS hb hf
            have s5 : a.eval (.tmp 5) = .int .i64 (k : Int) := (hf 5 (by kernel_rfl)).trans rfl
            rw [if_pos (wanted_none rfl)]
            refine does_val (v := .int .i64 (k : Int)) (w' := wx) ?_ ⟨rfl, Below.refl _ _⟩
            have t5 := (ev_tmp a 5).symm.trans s5
            simp [execOp, go_sem, t5]
          · intro a wx hS hb hf
            have s28 : a.eval (.tmp 28) = .slice (some ⟨g2, o2, none⟩) n2 c2 := slot hb 0 5 28 rfl rfl
            have s29 : a.eval (.tmp 29) = .int .i64 (k : Int) := slot hb 1 6 29 rfl rfl
            rw [if_pos (wanted_none rfl)]
            refine does_val (v := .pointer (some ⟨g2, o2 + k * 2, none⟩)) (w' := wx) ?_ ⟨rfl, Below.refl _ _⟩
            have t28 := (ev_tmp a 28).symm.trans s28
            have t29 := (ev_tmp a 29).symm.trans s29
            simp [execOp, go_sem, t28, t29, hlt2]
            first | done | (intro h; omega)
          · intro a wx hS hb hf
            have s30 : a.eval (.tmp 30) = .pointer (some ⟨g2, o2 + k * 2, none⟩) := slot hb 0 7 30 rfl rfl
            rw [if_pos (wanted_none rfl)]
            refine does_val (v := .pointer (some ⟨g2, o2 + k * 2, none⟩)) (w' := wx) ?_ ⟨rfl, Below.refl _ _⟩
            have t30 := (ev_tmp a 30).symm.trans s30
            simp [execOp, go_sem, t30]
          · intro a wx hS hb hf
            have s31 : a.eval (.tmp 31) = .pointer (some ⟨g2, o2 + k * 2, none⟩) := slot hb 0 8 31 rfl rfl
            rw [if_pos (wanted_none rfl)]
            have d0 := (hS.cell (p := ⟨g2, o2 + k * 2, none⟩) hg2).trans q0
            refine does_val (v := .string n') (w' := wx) ?_ ⟨rfl, Below.refl _ _⟩
            have t31 := (ev_tmp a 31).symm.trans s31
            simp [execOp, go_sem, t31, d0]
          · intro a wx hS hb hf
            have s27 : a.eval (.tmp 27) = .string n := slot hb 0 4 27 rfl rfl
            have s32 : a.eval (.tmp 32) = .string n' := slot hb 1 9 32 rfl rfl
            rw [if_pos (wanted_none rfl)]
            have t27 := (ev_tmp a 27).symm.trans s27
            have t32 := (ev_tmp a 32).symm.trans s32
            refine does_call (f := 40) (args := #[.string n, .string n']) (w' := wx) (by simp [execOp, resolve, invoke, go_sem, t27, t32]) ?_
            refine (HS1.out wx).mono ?_
            rintro r w' ⟨rfl, rfl⟩
            exact ⟨_, rfl, rfl, Below.refl _ _⟩
          · intro a wx hS hb hf
            have s0 : a.eval (.tmp 0) = .slice (some ⟨g1, o1, none⟩) n1 c1 := (hf 0 (by kernel_rfl)).trans rfl
            rw [if_pos (wanted_none rfl)]
            refine does_val (v := .slice (some ⟨g1, o1, none⟩) n1 c1) (w' := wx) ?_ ⟨rfl, Below.refl _ _⟩
            have t0 := (ev_tmp a 0).symm.trans s0
            simp [execOp, go_sem, t0]
          · intro a wx hS hb hf
            have s5 : a.eval (.tmp 5) = .int .i64 (k : Int) := (hf 5 (by kernel_rfl)).trans rfl
            rw [if_pos (wanted_none rfl)]
            refine does_val (v := .int .i64 (k : Int)) (w' := wx) ?_ ⟨rfl, Below.refl _ _⟩
            have t5 := (ev_tmp a 5).symm.trans s5
            simp [execOp, go_sem, t5]
          · intro a wx hS hb hf
            have s34 : a.eval (.tmp 34) = .slice (some ⟨g1, o1, none⟩) n1 c1 := slot hb 0 11 34 rfl rfl
            have s35 : a.eval (.tmp 35) = .int .i64 (k : Int) := slot hb 1 12 35 rfl rfl
            rw [if_pos (wanted_none rfl)]
            refine does_val (v := .pointer (some ⟨g1, o1 + k * 2, none⟩)) (w' := wx) ?_ ⟨rfl, Below.refl _ _⟩
            have t34 := (ev_tmp a 34).symm.trans s34
            have t35 := (ev_tmp a 35).symm.trans s35
            simp [execOp, go_sem, t34, t35, hlt1]
            first | done | (intro h; omega)
          · intro a wx hS hb hf
            have s36 : a.eval (.tmp 36) = .pointer (some ⟨g1, o1 + k * 2, none⟩) := slot hb 0 13 36 rfl rfl
            rw [if_pos (wanted_none rfl)]
            refine does_val (v := .pointer (some ⟨g1, o1 + k * 2 + 1, none⟩)) (w' := wx) ?_ ⟨rfl, Below.refl _ _⟩
            have t36 := (ev_tmp a 36).symm.trans s36
            simp [execOp, go_sem, t36]
          · intro a wx hS hb hf
            have s37 : a.eval (.tmp 37) = .pointer (some ⟨g1, o1 + k * 2 + 1, none⟩) := slot hb 0 14 37 rfl rfl
            rw [if_pos (wanted_none rfl)]
            have d0 := (hS.cell (p := ⟨g1, o1 + k * 2 + 1, none⟩) hg1).trans p1
            refine does_val (v := .string v) (w' := wx) ?_ ⟨rfl, Below.refl _ _⟩
            have t37 := (ev_tmp a 37).symm.trans s37
            simp [execOp, go_sem, t37, d0]
          · intro a wx hS hb hf
            have s1 : a.eval (.tmp 1) = .slice (some ⟨g2, o2, none⟩) n2 c2 := (hf 1 (by kernel_rfl)).trans rfl
            rw [if_pos (wanted_none rfl)]
            refine does_val (v := .slice (some ⟨g2, o2, none⟩) n2 c2) (w' := wx) ?_ ⟨rfl, Below.refl _ _⟩
            have t1 := (ev_tmp a 1).symm.trans s1
            simp [execOp, go_sem, t1]
          · intro a wx hS hb hf
            have s5 : a.eval (.tmp 5) = .int .i64 (k : Int) := (hf 5 (by kernel_rfl)).trans rfl
            rw [if_pos (wanted_none rfl)]
            refine does_val (v := .int .i64 (k : Int)) (w' := wx) ?_ ⟨rfl, Below.refl _ _⟩
            have t5 := (ev_tmp a 5).symm.trans s5
            simp [execOp, go_sem, t5]
          · intro a wx hS hb hf
            have s39 : a.eval (.tmp 39) = .slice (some ⟨g2, o2, none⟩) n2 c2 := slot hb 0 16 39 rfl rfl
            have s40 : a.eval (.tmp 40) = .int .i64 (k : Int) := slot hb 1 17 40 rfl rfl
            rw [if_pos (wanted_none rfl)]
            refine does_val (v := .pointer (some ⟨g2, o2 + k * 2, none⟩)) (w' := wx) ?_ ⟨rfl, Below.refl _ _⟩
            have t39 := (ev_tmp a 39).symm.trans s39
            have t40 := (ev_tmp a 40).symm.trans s40
            simp [execOp, go_sem, t39, t40, hlt2]
            first | done | (intro h; omega)
          · intro a wx hS hb hf
            have s41 : a.eval (.tmp 41) = .pointer (some ⟨g2, o2 + k * 2, none⟩) := slot hb 0 18 41 rfl rfl
            rw [if_pos (wanted_none rfl)]
            refine does_val (v := .pointer (some ⟨g2, o2 + k * 2 + 1, none⟩)) (w' := wx) ?_ ⟨rfl, Below.refl _ _⟩
            have t41 := (ev_tmp a 41).symm.trans s41
            simp [execOp, go_sem, t41]
          · intro a wx hS hb hf
            have s42 : a.eval (.tmp 42) = .pointer (some ⟨g2, o2 + k * 2 + 1, none⟩) := slot hb 0 19 42 rfl rfl
            rw [if_pos (wanted_none rfl)]
            have d0 := (hS.cell (p := ⟨g2, o2 + k * 2 + 1, none⟩) hg2).trans q1
            refine does_val (v := .string v') (w' := wx) ?_ ⟨rfl, Below.refl _ _⟩
            have t42 := (ev_tmp a 42).symm.trans s42
            simp [execOp, go_sem, t42, d0]
          · intro a wx hS hb hf
            have s38 : a.eval (.tmp 38) = .string v := slot hb 0 15 38 rfl rfl
            have s43 : a.eval (.tmp 43) = .string v' := slot hb 1 20 43 rfl rfl
            rw [if_pos (wanted_none rfl)]
            have t38 := (ev_tmp a 38).symm.trans s38
            have t43 := (ev_tmp a 43).symm.trans s43
            refine does_call (f := 40) (args := #[.string v, .string v']) (w' := wx) (by simp [execOp, resolve, invoke, go_sem, t38, t43]) ?_
            refine (HS2.out wx).mono ?_
            rintro r w' ⟨rfl, rfl⟩
            exact ⟨_, rfl, rfl, Below.refl _ _⟩
          · intro a wx hS hb hf
            have s33 : a.eval (.tmp 33) = .int .i64 x1 := slot hb 0 10 33 rfl rfl
            have s44 : a.eval (.tmp 44) = .int .i64 x2 := slot hb 1 21 44 rfl rfl
            rw [if_pos (wanted_none rfl)]
            have t33 := (ev_tmp a 33).symm.trans s33
            have t44 := (ev_tmp a 44).symm.trans s44
            refine does_val (v := .slice (some ⟨wx.heap.size, 0, none⟩) 2 2) (w' := wx.alloc (.cells #[.int .i64 x1, .int .i64 x2] 3)) (by simp [execOp, go_sem, t33, t44]) ⟨?_, (Below.refl _ _).alloc (Nat.le_refl _) _⟩
            exact sl_two wx x1 x2
          · intro a wx hS hb hf
            have s45 : Sl .i64 ([x1, x2]) (a.eval (.tmp 45)) wx := slot hb 0 22 45 rfl rfl
            rw [if_pos (wanted_none rfl)]
            obtain ⟨g3, o3, c3, e3, _, _, _, hcc⟩ := s45
            have t45 := (ev_tmp a 45).symm.trans e3
            refine does_call (f := 39) (args := #[.slice (some ⟨g3, o3, none⟩) 2 c3]) (w' := wx) (by simp [execOp, resolve, invoke, go_sem, t45]) ?_
            refine (or_any g3 o3 c3 x1 x2 wx (hcc 0 (by simp)) (hcc 1 (by simp))).mono ?_
            rintro r w' ⟨rfl, rfl⟩
            exact ⟨_, rfl, rfl, Below.refl _ _⟩
          · intro a wx hS hb hf
            have s46 : a.eval (.tmp 46) = .int .i64 (orr x1 x2) := slot hb 0 23 46 rfl rfl
            rw [if_pos (wanted_none rfl)]
            refine does_val (v := .int .i64 (orr x1 x2)) (w' := wx) ?_ ⟨rfl, Below.refl _ _⟩
            have t46 := (ev_tmp a 46).symm.trans s46
            simp [execOp, go_sem, t46]
          intro a u hbu hts hd hdone hfree
          have e4 : a.eval (.tmp 4) = .int .i64 (orr x1 x2) := done_slot hdone 24 4 rfl
          obtain ⟨x23, ex23⟩ : ∃ x, a.eval (.tmp 23) = x := ⟨_, rfl⟩
          obtain ⟨x24, ex24⟩ : ∃ x, a.eval (.tmp 24) = x := ⟨_, rfl⟩
          obtain ⟨x25, ex25⟩ : ∃ x, a.eval (.tmp 25) = x := ⟨_, rfl⟩
          obtain ⟨x26, ex26⟩ : ∃ x, a.eval (.tmp 26) = x := ⟨_, rfl⟩
          obtain ⟨x27, ex27⟩ : ∃ x, a.eval (.tmp 27) = x := ⟨_, rfl⟩
          obtain ⟨x28, ex28⟩ : ∃ x, a.eval (.tmp 28) = x := ⟨_, rfl⟩
          obtain ⟨x29, ex29⟩ : ∃ x, a.eval (.tmp 29) = x := ⟨_, rfl⟩
          obtain ⟨x30, ex30⟩ : ∃ x, a.eval (.tmp 30) = x := ⟨_, rfl⟩
          obtain ⟨x31, ex31⟩ : ∃ x, a.eval (.tmp 31) = x := ⟨_, rfl⟩
          obtain ⟨x32, ex32⟩ : ∃ x, a.eval (.tmp 32) = x := ⟨_, rfl⟩
          obtain ⟨x33, ex33⟩ : ∃ x, a.eval (.tmp 33) = x := ⟨_, rfl⟩
          obtain ⟨x34, ex34⟩ : ∃ x, a.eval (.tmp 34) = x := ⟨_, rfl⟩
          obtain ⟨x35, ex35⟩ : ∃ x, a.eval (.tmp 35) = x := ⟨_, rfl⟩
          obtain ⟨x36, ex36⟩ : ∃ x, a.eval (.tmp 36) = x := ⟨_, rfl⟩
          obtain ⟨x37, ex37⟩ : ∃ x, a.eval (.tmp 37) = x := ⟨_, rfl⟩
          obtain ⟨x38, ex38⟩ : ∃ x, a.eval (.tmp 38) = x := ⟨_, rfl⟩
          obtain ⟨x39, ex39⟩ : ∃ x, a.eval (.tmp 39) = x := ⟨_, rfl⟩
          obtain ⟨x40, ex40⟩ : ∃ x, a.eval (.tmp 40) = x := ⟨_, rfl⟩
          obtain ⟨x41, ex41⟩ : ∃ x, a.eval (.tmp 41) = x := ⟨_, rfl⟩
          obtain ⟨x42, ex42⟩ : ∃ x, a.eval (.tmp 42) = x := ⟨_, rfl⟩
          obtain ⟨x43, ex43⟩ : ∃ x, a.eval (.tmp 43) = x := ⟨_, rfl⟩
          obtain ⟨x44, ex44⟩ : ∃ x, a.eval (.tmp 44) = x := ⟨_, rfl⟩
          obtain ⟨x45, ex45⟩ : ∃ x, a.eval (.tmp 45) = x := ⟨_, rfl⟩
          obtain ⟨x46, ex46⟩ : ∃ x, a.eval (.tmp 46) = x := ⟨_, rfl⟩
          have hact := act_puts hts hd hfree
          simp only [putAll, List.foldl_cons, List.foldl_nil, ex23, ex24, ex25, ex26, ex27, ex28, ex29, ex30, ex31, ex32, ex33, ex34, ex35, ex36, ex37, ex38, ex39, ex40, ex41, ex42, ex43, ex44, ex45, ex46, e4, Act.put] at hact
          simp at hact
          clear ex23 ex24 ex25 ex26 ex27 ex28 ex29 ex30 ex31 ex32 ex33 ex34 ex35 ex36 ex37 ex38 ex39 ex40 ex41 ex42 ex43 ex44 ex45 ex46 e4 hts hd hdone hfree
          subst hact
          have hbw : Below w.heap.size w u := (⟨hbu.os, hbu.tape, hbu.output, hbu.size, hbu.block⟩ : Below w.heap.size w u)
          clear hbu
          go_wp2_with fail
          go_ret
          exact ⟨ret_int (by rw [hb.out, HO.out]), hbw⟩
        · have e2 : (n.toList == n'.toList) = false := by simpa using e1
          clear hne e1
          go_wp2
          go_quiet (fail)
          go_wp2_with fail
          refine wp_region_K (by kernel_rfl) (by kernel_rfl) [.eq (.slice (some ⟨g1, o1, none⟩) n1 c1), .eq (.int .i64 (k : Int)), .eq (.pointer (some ⟨g1, o1 + k * 2, none⟩)), .eq (.pointer (some ⟨g1, o1 + k * 2, none⟩)), .eq (.string n), .eq (.slice (some ⟨g2, o2, none⟩) n2 c2), .eq (.int .i64 (k : Int)), .eq (.pointer (some ⟨g2, o2 + k * 2, none⟩)), .eq (.pointer (some ⟨g2, o2 + k * 2, none⟩)), .eq (.string n'), .eq (.int .i64 x1), .eq (.slice (some ⟨g1, o1, none⟩) n1 c1), .eq (.int .i64 (k : Int)), .eq (.pointer (some ⟨g1, o1 + k * 2, none⟩)), .eq (.pointer (some ⟨g1, o1 + k * 2 + 1, none⟩)), .eq (.string v), .eq (.slice (some ⟨g2, o2, none⟩) n2 c2), .eq (.int .i64 (k : Int)), .eq (.pointer (some ⟨g2, o2 + k * 2, none⟩)), .eq (.pointer (some ⟨g2, o2 + k * 2 + 1, none⟩)), .eq (.string v'), .eq (.int .i64 x2), .rd .i64 ([x1, x2]), .eq (.int .i64 (orr x1 x2)), .eq (.int .i64 (orr x1 x2))] _ (Below.refl _ _) (allOps_cons ?_ (allOps_cons ?_ (allOps_cons ?_ (allOps_cons ?_ (allOps_cons ?_ (allOps_cons ?_ (allOps_cons ?_ (allOps_cons ?_ (allOps_cons ?_ (allOps_cons ?_ (allOps_cons ?_ (allOps_cons ?_ (allOps_cons ?_ (allOps_cons ?_ (allOps_cons ?_ (allOps_cons ?_ (allOps_cons ?_ (allOps_cons ?_ (allOps_cons ?_ (allOps_cons ?_ (allOps_cons ?_ (allOps_cons ?_ (allOps_cons ?_ (allOps_cons ?_ (allOps_cons ?_ allOps_nil))))))))))))))))))))))))) ?_
          · intro a wx hS hb hf
            have s0 : a.eval (.tmp 0) = .slice (some ⟨g1, o1, none⟩) n1 c1 := (hf 0 (by kernel_rfl)).trans rfl
            rw [if_pos (wanted_none rfl)]
            refine does_val (v := .slice (some ⟨g1, o1, none⟩) n1 c1) (w' := wx) ?_ ⟨rfl, Below.refl _ _⟩
            have t0 := (ev_tmp a 0).symm.trans s0
            simp [execOp, go_sem, t0]
          · intro a wx hS hb hf
            have s5 : a.eval (.tmp 5) = .int .i64 (k : Int) := (hf 5 (by kernel_rfl)).trans rfl
            rw [if_pos (wanted_none rfl)]
            refine does_val (v := .int .i64 (k : Int)) (w' := wx) ?_ ⟨rfl, Below.refl _ _⟩
            have t5 := (ev_tmp a 5).symm.trans s5
            simp [execOp, go_sem, t5]
          · intro a wx hS hb hf
            have s23 : a.eval (.tmp 23) = .slice (some ⟨g1, o1, none⟩) n1 c1 := slot hb 0 0 23 rfl rfl
            have s24 : a.eval (.tmp 24) = .int .i64 (k : Int) := slot hb 1 1 24 rfl rfl
            rw [if_pos (wanted_none rfl)]
            refine does_val (v := .pointer (some ⟨g1, o1 + k * 2, none⟩)) (w' := wx) ?_ ⟨rfl, Below.refl _ _⟩
            have t23 := (ev_tmp a 23).symm.trans s23
            have t24 := (ev_tmp a 24).symm.trans s24
            simp [execOp, go_sem, t23, t24, hlt1]
            first | done | (intro h; omega)
          · intro a wx hS hb hf
            have s25 : a.eval (.tmp 25) = .pointer (some ⟨g1, o1 + k * 2, none⟩) := slot hb 0 2 25 rfl rfl
            rw [if_pos (wanted_none rfl)]
            refine does_val (v := .pointer (some ⟨g1, o1 + k * 2, none⟩)) (w' := wx) ?_ ⟨rfl, Below.refl _ _⟩
            have t25 := (ev_tmp a 25).symm.trans s25
            simp [execOp, go_sem, t25]
          · intro a wx hS hb hf
            have s26 : a.eval (.tmp 26) = .pointer (some ⟨g1, o1 + k * 2, none⟩) := slot hb 0 3 26 rfl rfl
            rw [if_pos (wanted_none rfl)]
            have d0 := (hS.cell (p := ⟨g1, o1 + k * 2, none⟩) hg1).trans p0
            refine does_val (v := .string n) (w' := wx) ?_ ⟨rfl, Below.refl _ _⟩
            have t26 := (ev_tmp a 26).symm.trans s26
            simp [execOp, go_sem, t26, d0]
          · intro a wx hS hb hf
            have s1 : a.eval (.tmp 1) = .slice (some ⟨g2, o2, none⟩) n2 c2 := (hf 1 (by kernel_rfl)).trans rfl
            rw [if_pos (wanted_none rfl)]
            refine does_val (v := .slice (some ⟨g2, o2, none⟩) n2 c2) (w' := wx) ?_ ⟨rfl, Below.refl _ _⟩
            have t1 := (ev_tmp a 1).symm.trans s1
            simp [execOp, go_sem, t1]
          · intro a wx hS hb hf
            have s5 : a.eval (.tmp 5) = .int .i64 (k : Int) := (hf 5 (by kernel_rfl)).trans rfl
            rw [if_pos (wanted_none rfl)]
            refine does_val (v := .int .i64 (k : Int)) (w' := wx) ?_ ⟨rfl, Below.refl _ _⟩
            have t5 := (ev_tmp a 5).symm.trans s5
            simp [execOp, go_sem, t5]
          · intro a wx hS hb hf
            have s28 : a.eval (.tmp 28) = .slice (some ⟨g2, o2, none⟩) n2 c2 := slot hb 0 5 28 rfl rfl
            have s29 : a.eval (.tmp 29) = .int .i64 (k : Int) := slot hb 1 6 29 rfl rfl
            rw [if_pos (wanted_none rfl)]
            refine does_val (v := .pointer (some ⟨g2, o2 + k * 2, none⟩)) (w' := wx) ?_ ⟨rfl, Below.refl _ _⟩
            have t28 := (ev_tmp a 28).symm.trans s28
            have t29 := (ev_tmp a 29).symm.trans s29
            simp [execOp, go_sem, t28, t29, hlt2]
            first | done | (intro h; omega)
          · intro a wx hS hb hf
            have s30 : a.eval (.tmp 30) = .pointer (some ⟨g2, o2 + k * 2, none⟩) := slot hb 0 7 30 rfl rfl
            rw [if_pos (wanted_none rfl)]
            refine does_val (v := .pointer (some ⟨g2, o2 + k * 2, none⟩)) (w' := wx) ?_ ⟨rfl, Below.refl _ _⟩
            have t30 := (ev_tmp a 30).symm.trans s30
            simp [execOp, go_sem, t30]
          · intro a wx hS hb hf
            have s31 : a.eval (.tmp 31) = .pointer (some ⟨g2, o2 + k * 2, none⟩) := slot hb 0 8 31 rfl rfl
            rw [if_pos (wanted_none rfl)]
            have d0 := (hS.cell (p := ⟨g2, o2 + k * 2, none⟩) hg2).trans q0
            refine does_val (v := .string n') (w' := wx) ?_ ⟨rfl, Below.refl _ _⟩
            have t31 := (ev_tmp a 31).symm.trans s31
            simp [execOp, go_sem, t31, d0]
          · intro a wx hS hb hf
            have s27 : a.eval (.tmp 27) = .string n := slot hb 0 4 27 rfl rfl
            have s32 : a.eval (.tmp 32) = .string n' := slot hb 1 9 32 rfl rfl
            rw [if_pos (wanted_none rfl)]
            have t27 := (ev_tmp a 27).symm.trans s27
            have t32 := (ev_tmp a 32).symm.trans s32
            refine does_call (f := 40) (args := #[.string n, .string n']) (w' := wx) (by simp [execOp, resolve, invoke, go_sem, t27, t32]) ?_
            refine (HS1.out wx).mono ?_
            rintro r w' ⟨rfl, rfl⟩
            exact ⟨_, rfl, rfl, Below.refl _ _⟩
          · intro a wx hS hb hf
            have s0 : a.eval (.tmp 0) = .slice (some ⟨g1, o1, none⟩) n1 c1 := (hf 0 (by kernel_rfl)).trans rfl
            rw [if_pos (wanted_none rfl)]
            refine does_val (v := .slice (some ⟨g1, o1, none⟩) n1 c1) (w' := wx) ?_ ⟨rfl, Below.refl _ _⟩
            have t0 := (ev_tmp a 0).symm.trans s0
            simp [execOp, go_sem, t0]
          · intro a wx hS hb hf
            have s5 : a.eval (.tmp 5) = .int .i64 (k : Int) := (hf 5 (by kernel_rfl)).trans rfl
            rw [if_pos (wanted_none rfl)]
            refine does_val (v := .int .i64 (k : Int)) (w' := wx) ?_ ⟨rfl, Below.refl _ _⟩
            have t5 := (ev_tmp a 5).symm.trans s5
            simp [execOp, go_sem, t5]
          · intro a wx hS hb hf
            have s34 : a.eval (.tmp 34) = .slice (some ⟨g1, o1, none⟩) n1 c1 := slot hb 0 11 34 rfl rfl
            have s35 : a.eval (.tmp 35) = .int .i64 (k : Int) := slot hb 1 12 35 rfl rfl
            rw [if_pos (wanted_none rfl)]
            refine does_val (v := .pointer (some ⟨g1, o1 + k * 2, none⟩)) (w' := wx) ?_ ⟨rfl, Below.refl _ _⟩
            have t34 := (ev_tmp a 34).symm.trans s34
            have t35 := (ev_tmp a 35).symm.trans s35
            simp [execOp, go_sem, t34, t35, hlt1]
            first | done | (intro h; omega)
          · intro a wx hS hb hf
            have s36 : a.eval (.tmp 36) = .pointer (some ⟨g1, o1 + k * 2, none⟩) := slot hb 0 13 36 rfl rfl
            rw [if_pos (wanted_none rfl)]
            refine does_val (v := .pointer (some ⟨g1, o1 + k * 2 + 1, none⟩)) (w' := wx) ?_ ⟨rfl, Below.refl _ _⟩
            have t36 := (ev_tmp a 36).symm.trans s36
            simp [execOp, go_sem, t36]
          · intro a wx hS hb hf
            have s37 : a.eval (.tmp 37) = .pointer (some ⟨g1, o1 + k * 2 + 1, none⟩) := slot hb 0 14 37 rfl rfl
            rw [if_pos (wanted_none rfl)]
            have d0 := (hS.cell (p := ⟨g1, o1 + k * 2 + 1, none⟩) hg1).trans p1
            refine does_val (v := .string v) (w' := wx) ?_ ⟨rfl, Below.refl _ _⟩
            have t37 := (ev_tmp a 37).symm.trans s37
            simp [execOp, go_sem, t37, d0]
          · intro a wx hS hb hf
            have s1 : a.eval (.tmp 1) = .slice (some ⟨g2, o2, none⟩) n2 c2 := (hf 1 (by kernel_rfl)).trans rfl
            rw [if_pos (wanted_none rfl)]
            refine does_val (v := .slice (some ⟨g2, o2, none⟩) n2 c2) (w' := wx) ?_ ⟨rfl, Below.refl _ _⟩
            have t1 := (ev_tmp a 1).symm.trans s1
            simp [execOp, go_sem, t1]
          · intro a wx hS hb hf
            have s5 : a.eval (.tmp 5) = .int .i64 (k : Int) := (hf 5 (by kernel_rfl)).trans rfl
            rw [if_pos (wanted_none rfl)]
            refine does_val (v := .int .i64 (k : Int)) (w' := wx) ?_ ⟨rfl, Below.refl _ _⟩
            have t5 := (ev_tmp a 5).symm.trans s5
            simp [execOp, go_sem, t5]
          · intro a wx hS hb hf
            have s39 : a.eval (.tmp 39) = .slice (some ⟨g2, o2, none⟩) n2 c2 := slot hb 0 16 39 rfl rfl
            have s40 : a.eval (.tmp 40) = .int .i64 (k : Int) := slot hb 1 17 40 rfl rfl
            rw [if_pos (wanted_none rfl)]
            refine does_val (v := .pointer (some ⟨g2, o2 + k * 2, none⟩)) (w' := wx) ?_ ⟨rfl, Below.refl _ _⟩
            have t39 := (ev_tmp a 39).symm.trans s39
            have t40 := (ev_tmp a 40).symm.trans s40
            simp [execOp, go_sem, t39, t40, hlt2]
            first | done | (intro h; omega)
          · intro a wx hS hb hf
            have s41 : a.eval (.tmp 41) = .pointer (some ⟨g2, o2 + k * 2, none⟩) := slot hb 0 18 41 rfl rfl
            rw [if_pos (wanted_none rfl)]
            refine does_val (v := .pointer (some ⟨g2, o2 + k * 2 + 1, none⟩)) (w' := wx) ?_ ⟨rfl, Below.refl _ _⟩
            have t41 := (ev_tmp a 41).symm.trans s41
            simp [execOp, go_sem, t41]
          · intro a wx hS hb hf
            have s42 : a.eval (.tmp 42) = .pointer (some ⟨g2, o2 + k * 2 + 1, none⟩) := slot hb 0 19 42 rfl rfl
            rw [if_pos (wanted_none rfl)]
            have d0 := (hS.cell (p := ⟨g2, o2 + k * 2 + 1, none⟩) hg2).trans q1
            refine does_val (v := .string v') (w' := wx) ?_ ⟨rfl, Below.refl _ _⟩
            have t42 := (ev_tmp a 42).symm.trans s42
            simp [execOp, go_sem, t42, d0]
          · intro a wx hS hb hf
            have s38 : a.eval (.tmp 38) = .string v := slot hb 0 15 38 rfl rfl
            have s43 : a.eval (.tmp 43) = .string v' := slot hb 1 20 43 rfl rfl
            rw [if_pos (wanted_none rfl)]
            have t38 := (ev_tmp a 38).symm.trans s38
            have t43 := (ev_tmp a 43).symm.trans s43
            refine does_call (f := 40) (args := #[.string v, .string v']) (w' := wx) (by simp [execOp, resolve, invoke, go_sem, t38, t43]) ?_
            refine (HS2.out wx).mono ?_
            rintro r w' ⟨rfl, rfl⟩
            exact ⟨_, rfl, rfl, Below.refl _ _⟩
          · intro a wx hS hb hf
            have s33 : a.eval (.tmp 33) = .int .i64 x1 := slot hb 0 10 33 rfl rfl
            have s44 : a.eval (.tmp 44) = .int .i64 x2 := slot hb 1 21 44 rfl rfl
            rw [if_pos (wanted_none rfl)]
            have t33 := (ev_tmp a 33).symm.trans s33
            have t44 := (ev_tmp a 44).symm.trans s44
            refine does_val (v := .slice (some ⟨wx.heap.size, 0, none⟩) 2 2) (w' := wx.alloc (.cells #[.int .i64 x1, .int .i64 x2] 3)) (by simp [execOp, go_sem, t33, t44]) ⟨?_, (Below.refl _ _).alloc (Nat.le_refl _) _⟩
            exact sl_two wx x1 x2
          · intro a wx hS hb hf
            have s45 : Sl .i64 ([x1, x2]) (a.eval (.tmp 45)) wx := slot hb 0 22 45 rfl rfl
            rw [if_pos (wanted_none rfl)]
            obtain ⟨g3, o3, c3, e3, _, _, _, hcc⟩ := s45
            have t45 := (ev_tmp a 45).symm.trans e3
            refine does_call (f := 39) (args := #[.slice (some ⟨g3, o3, none⟩) 2 c3]) (w' := wx) (by simp [execOp, resolve, invoke, go_sem, t45]) ?_
            refine (or_any g3 o3 c3 x1 x2 wx (hcc 0 (by simp)) (hcc 1 (by simp))).mono ?_
            rintro r w' ⟨rfl, rfl⟩
            exact ⟨_, rfl, rfl, Below.refl _ _⟩
          · intro a wx hS hb hf
            have s46 : a.eval (.tmp 46) = .int .i64 (orr x1 x2) := slot hb 0 23 46 rfl rfl
            rw [if_pos (wanted_none rfl)]
            refine does_val (v := .int .i64 (orr x1 x2)) (w' := wx) ?_ ⟨rfl, Below.refl _ _⟩
            have t46 := (ev_tmp a 46).symm.trans s46
            simp [execOp, go_sem, t46]
          intro a u hbu hts hd hdone hfree
          have e4 : a.eval (.tmp 4) = .int .i64 (orr x1 x2) := done_slot hdone 24 4 rfl
          obtain ⟨x23, ex23⟩ : ∃ x, a.eval (.tmp 23) = x := ⟨_, rfl⟩
          obtain ⟨x24, ex24⟩ : ∃ x, a.eval (.tmp 24) = x := ⟨_, rfl⟩
          obtain ⟨x25, ex25⟩ : ∃ x, a.eval (.tmp 25) = x := ⟨_, rfl⟩
          obtain ⟨x26, ex26⟩ : ∃ x, a.eval (.tmp 26) = x := ⟨_, rfl⟩
          obtain ⟨x27, ex27⟩ : ∃ x, a.eval (.tmp 27) = x := ⟨_, rfl⟩
          obtain ⟨x28, ex28⟩ : ∃ x, a.eval (.tmp 28) = x := ⟨_, rfl⟩
          obtain ⟨x29, ex29⟩ : ∃ x, a.eval (.tmp 29) = x := ⟨_, rfl⟩
          obtain ⟨x30, ex30⟩ : ∃ x, a.eval (.tmp 30) = x := ⟨_, rfl⟩
          obtain ⟨x31, ex31⟩ : ∃ x, a.eval (.tmp 31) = x := ⟨_, rfl⟩
          obtain ⟨x32, ex32⟩ : ∃ x, a.eval (.tmp 32) = x := ⟨_, rfl⟩
          obtain ⟨x33, ex33⟩ : ∃ x, a.eval (.tmp 33) = x := ⟨_, rfl⟩
          obtain ⟨x34, ex34⟩ : ∃ x, a.eval (.tmp 34) = x := ⟨_, rfl⟩
          obtain ⟨x35, ex35⟩ : ∃ x, a.eval (.tmp 35) = x := ⟨_, rfl⟩
          obtain ⟨x36, ex36⟩ : ∃ x, a.eval (.tmp 36) = x := ⟨_, rfl⟩
          obtain ⟨x37, ex37⟩ : ∃ x, a.eval (.tmp 37) = x := ⟨_, rfl⟩
          obtain ⟨x38, ex38⟩ : ∃ x, a.eval (.tmp 38) = x := ⟨_, rfl⟩
          obtain ⟨x39, ex39⟩ : ∃ x, a.eval (.tmp 39) = x := ⟨_, rfl⟩
          obtain ⟨x40, ex40⟩ : ∃ x, a.eval (.tmp 40) = x := ⟨_, rfl⟩
          obtain ⟨x41, ex41⟩ : ∃ x, a.eval (.tmp 41) = x := ⟨_, rfl⟩
          obtain ⟨x42, ex42⟩ : ∃ x, a.eval (.tmp 42) = x := ⟨_, rfl⟩
          obtain ⟨x43, ex43⟩ : ∃ x, a.eval (.tmp 43) = x := ⟨_, rfl⟩
          obtain ⟨x44, ex44⟩ : ∃ x, a.eval (.tmp 44) = x := ⟨_, rfl⟩
          obtain ⟨x45, ex45⟩ : ∃ x, a.eval (.tmp 45) = x := ⟨_, rfl⟩
          obtain ⟨x46, ex46⟩ : ∃ x, a.eval (.tmp 46) = x := ⟨_, rfl⟩
          have hact := act_puts hts hd hfree
          simp only [putAll, List.foldl_cons, List.foldl_nil, ex23, ex24, ex25, ex26, ex27, ex28, ex29, ex30, ex31, ex32, ex33, ex34, ex35, ex36, ex37, ex38, ex39, ex40, ex41, ex42, ex43, ex44, ex45, ex46, e4, Act.put] at hact
          simp at hact
          clear ex23 ex24 ex25 ex26 ex27 ex28 ex29 ex30 ex31 ex32 ex33 ex34 ex35 ex36 ex37 ex38 ex39 ex40 ex41 ex42 ex43 ex44 ex45 ex46 e4 hts hd hdone hfree
          subst hact
          have hbw : Below w.heap.size w u := (⟨hbu.os, hbu.tape, hbu.output, hbu.size, hbu.block⟩ : Below w.heap.size w u)
          clear hbu
          go_wp2_with fail
          go_ret
          exact ⟨ret_int (by rw [hb.out, HO.out]), hbw⟩
    · have hlt' : ¬ (k : Int) < (M : Int) := by omega
      have HE : Hid (cml l1 l2 = cI n1 n2) := by
        show _ = _
        have h3 := HM.out
        rw [HT.out, cml_end (by rw [HI.out.1.hl, HI.out.2.hl]; omega), HI.out.1.hl, HI.out.2.hl]
      go_wp2_with (go_at_call 41; refine (cmpi_any n1 n2 _).mono ?_; rintro e w' ⟨rfl, rfl⟩)
      go_ret
      exact ⟨ret_int (by rw [hb.out, HE.out]), below_dr _ _⟩
end Go.Proofs.Ythklkhdcmoonkaa
