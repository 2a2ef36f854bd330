/- The contracts of Clean, of the program and of the document. Conditions: the numbers fit. -/
import Derived.Test.YtmeimofnmpmaoaaGreatDoorG
namespace Go.Proofs.YtmeimofnmpmaoaaGreatDoor
open Go.RowKit Go.Shelf

theorem clean_far (m e : Int) (he : e < -1000 ∨ 1000 < e) (w : World) :
    Calls Tryz.prog 15 #[.int .i64 m, .int .i64 e] w fun e w' => e = .returned (.tuple #[val 0 0 0, .bool false]) ∧ Below w.heap.size w w' := by
  rcases he with he | he
  · go_enter Tryz.func15, Tryz.ntmps15
    go_wp2
    go_returns
    exact ⟨rfl, (Below.refl _ _).alloc (Nat.le_refl _) _⟩
  · have h : ¬ e < -1000 := by omega
    go_enter Tryz.func15, Tryz.ntmps15
    go_wp2
    go_returns
    exact ⟨rfl, (Below.refl _ _).alloc (Nat.le_refl _) _⟩

theorem clean_zero (e : Int) (h0 : -1000 ≤ e) (h1 : e ≤ 1000) (w : World) :
    Calls Tryz.prog 15 #[.int .i64 0, .int .i64 e] w fun e w' => e = .returned (.tuple #[val 0 0 0, .bool true]) ∧ Below w.heap.size w w' := by
  have h : ¬ e < -1000 := by omega
  have h' : ¬ e > 1000 := by omega
  go_enter Tryz.func15, Tryz.ntmps15
  go_wp2
  go_returns
  exact ⟨rfl, (Below.refl _ _).alloc (Nat.le_refl _) _⟩

theorem tmod_far {a : Int} (k : Nat) (hk : 1 ≤ k) : (a * 10 ^ k).tmod 10 = 0 := by
  obtain ⟨j, rfl⟩ : ∃ j, k = j + 1 := ⟨k - 1, by omega⟩
  rw [Int.pow_succ, ← Int.mul_assoc]
  exact Int.mul_tmod_left _ _

theorem clean_any (m e a : Int) (k : Nat) (b : Bool) (hm : m = a * 10 ^ k) (ha : ¬ a.tmod 10 = 0) (m0 : -9223372036854775808 ≤ m) (m1 : m ≤ 9223372036854775807) (hk : k ≤ 18) (h0 : -1000 ≤ e) (h1 : e ≤ 1000) (hb : Hid (b = mayBe a (e + k) 0)) (w : World) :
    Calls Tryz.prog 15 #[.int .i64 m, .int .i64 e] w fun r w' => r = .returned (.tuple #[if b then val a (e + k) 0 else val 0 0 0, .bool b]) ∧ Below w.heap.size w w' := by
  have h : ¬ e < -1000 := by omega
  have h' : ¬ e > 1000 := by omega
  have a0 : ¬ a = 0 := fun h => ha (by rw [h]; rfl)
  have hz : ∀ j : Nat, ¬ a * 10 ^ j = 0 := fun j => Int.mul_ne_zero a0 (Int.pow_ne_zero (by decide))
  have hz0 : ¬ m = 0 := by rw [hm]; exact hz k
  go_enter Tryz.func15, Tryz.ntmps15
  go_wp2
  go_loop [0, 1] (fun x y => ∃ j : Nat, j ≤ k ∧ x = .int .i64 (a * 10 ^ (k - j)) ∧ y = .int .i64 (e + j)) (fun _ y => 2000 + k - (intOf y + 1000).toNat)
  case atStart => exact ⟨0, by omega, by first | rfl | (rw [hm]; rfl), by simp⟩
  case round =>
    obtain ⟨j, hj, rfl, rfl⟩ := hrel
    obtain ⟨x, hx⟩ : ∃ x, Hid (x = a * 10 ^ (k - j)) := ⟨_, rfl⟩
    rw [← hx.out]
    by_cases hjk : j < k
    · have t : x.tmod 10 = 0 := by rw [hx.out]; exact tmod_far _ (by omega)
      have q : x.tdiv 10 = a * 10 ^ (k - (j + 1)) := by
        rw [hx.out, show k - j = k - (j + 1) + 1 by omega, Int.pow_succ, ← Int.mul_assoc]
        exact Int.mul_tdiv_cancel _ (by decide)
      have xb : -9223372036854775808 ≤ x ∧ x ≤ 9223372036854775807 := by
        have hp : x * 10 ^ j = m := by rw [hx.out, hm, Int.mul_assoc, ← Int.pow_add, show k - j + j = k by omega]
        have h10 : (1 : Int) ≤ 10 ^ j := by have := Nat.one_le_pow j 10 (by decide); exact_mod_cast this
        generalize (10 : Int) ^ j = t at hp h10
        rcases Int.le_total 0 x with h | h
        · have := Int.mul_le_mul_of_nonneg_left h10 h
          omega
        · have := Int.mul_le_mul_of_nonneg_left h10 (show 0 ≤ -x by omega)
          simp only [Int.neg_mul, Int.mul_one] at this
          omega
      have hy : x = a * 10 ^ (k - (j + 1)) * 10 := by rw [hx.out, show k - j = k - (j + 1) + 1 by omega, Int.pow_succ, ← Int.mul_assoc]
      have qw : RowKit.wrap64 (x.tdiv 10) = a * 10 ^ (k - (j + 1)) := by
        rw [q]; unfold RowKit.wrap64; generalize a * 10 ^ (k - (j + 1)) = y at hy; omega
      have qw : IntKind.i64.wrap (x.tdiv 10) = a * 10 ^ (k - (j + 1)) := by
        rw [q, IntKind.wrap_i64]; generalize a * 10 ^ (k - (j + 1)) = y at hy; omega
      clear hy
      clear q xb
      go_wp2
      refine ⟨⟨j + 1, hjk, rfl, by congr 1; omega⟩, ?_⟩
      simp [intOf]; omega
    · obtain rfl : j = k := by omega
      have t : ¬ x.tmod 10 = 0 := by rw [hx.out]; simpa using ha
      have hx' : x = a := by rw [hx.out]; simp
      subst hx'
      go_wp2_with fail
      refine (right_any _ _ _ b hb _).mono ?_
      rintro r w' ⟨rfl, hw'⟩; rw [hw']; clear hw' w'
      cases b
      · go_wp2_with fail
        go_returns
        exact ⟨rfl, (((Below.refl _ _).alloc (Nat.le_refl _) _).alloc (by simp) _).alloc (by simp; omega) _⟩
      · go_wp2_with fail
        go_returns
        exact ⟨rfl, (((Below.refl _ _).alloc (Nat.le_refl _) _).alloc (by simp) _).alloc (by simp; omega) _⟩
theorem refclean_far (m e : Int) (he : e < -1000 ∨ 1000 < e) (w : World) :
    Calls Tryz.prog 16 #[.int .i64 m, .int .i64 e] w fun e w' => e = .returned (.tuple #[val 0 0 0, .bool false]) ∧ Below w.heap.size w w' := by
  rcases he with he | he
  · go_enter Tryz.func16, Tryz.ntmps16
    go_wp2
    go_returns
    exact ⟨rfl, (Below.refl _ _).alloc (Nat.le_refl _) _⟩
  · have h : ¬ e < -1000 := by omega
    go_enter Tryz.func16, Tryz.ntmps16
    go_wp2
    go_returns
    exact ⟨rfl, (Below.refl _ _).alloc (Nat.le_refl _) _⟩

theorem refclean_zero (e : Int) (h0 : -1000 ≤ e) (h1 : e ≤ 1000) (w : World) :
    Calls Tryz.prog 16 #[.int .i64 0, .int .i64 e] w fun e w' => e = .returned (.tuple #[val 0 0 0, .bool true]) ∧ Below w.heap.size w w' := by
  have h : ¬ e < -1000 := by omega
  have h' : ¬ e > 1000 := by omega
  go_enter Tryz.func16, Tryz.ntmps16
  go_wp2
  go_returns
  exact ⟨rfl, (Below.refl _ _).alloc (Nat.le_refl _) _⟩

theorem refclean_any (m e a : Int) (k : Nat) (b : Bool) (hm : m = a * 10 ^ k) (ha : ¬ a.tmod 10 = 0) (m0 : -9223372036854775808 ≤ m) (m1 : m ≤ 9223372036854775807) (hk : k ≤ 18) (h0 : -1000 ≤ e) (h1 : e ≤ 1000) (hb : Hid (b = mayBe a (e + k) 0)) (w : World) :
    Calls Tryz.prog 16 #[.int .i64 m, .int .i64 e] w fun r w' => r = .returned (.tuple #[if b then val a (e + k) 0 else val 0 0 0, .bool b]) ∧ Below w.heap.size w w' := by
  have h : ¬ e < -1000 := by omega
  have h' : ¬ e > 1000 := by omega
  have a0 : ¬ a = 0 := fun h => ha (by rw [h]; rfl)
  have hz : ∀ j : Nat, ¬ a * 10 ^ j = 0 := fun j => Int.mul_ne_zero a0 (Int.pow_ne_zero (by decide))
  have hz0 : ¬ m = 0 := by rw [hm]; exact hz k
  go_enter Tryz.func16, Tryz.ntmps16
  go_wp2
  go_loop [0, 1] (fun x y => ∃ j : Nat, j ≤ k ∧ x = .int .i64 (a * 10 ^ (k - j)) ∧ y = .int .i64 (e + j)) (fun _ y => 2000 + k - (intOf y + 1000).toNat)
  case atStart => exact ⟨0, by omega, by first | rfl | (rw [hm]; rfl), by simp⟩
  case round =>
    obtain ⟨j, hj, rfl, rfl⟩ := hrel
    obtain ⟨x, hx⟩ : ∃ x, Hid (x = a * 10 ^ (k - j)) := ⟨_, rfl⟩
    rw [← hx.out]
    by_cases hjk : j < k
    · have t : x.tmod 10 = 0 := by rw [hx.out]; exact tmod_far _ (by omega)
      have q : x.tdiv 10 = a * 10 ^ (k - (j + 1)) := by
        rw [hx.out, show k - j = k - (j + 1) + 1 by omega, Int.pow_succ, ← Int.mul_assoc]
        exact Int.mul_tdiv_cancel _ (by decide)
      have xb : -9223372036854775808 ≤ x ∧ x ≤ 9223372036854775807 := by
        have hp : x * 10 ^ j = m := by rw [hx.out, hm, Int.mul_assoc, ← Int.pow_add, show k - j + j = k by omega]
        have h10 : (1 : Int) ≤ 10 ^ j := by have := Nat.one_le_pow j 10 (by decide); exact_mod_cast this
        generalize (10 : Int) ^ j = t at hp h10
        rcases Int.le_total 0 x with h | h
        · have := Int.mul_le_mul_of_nonneg_left h10 h
          omega
        · have := Int.mul_le_mul_of_nonneg_left h10 (show 0 ≤ -x by omega)
          simp only [Int.neg_mul, Int.mul_one] at this
          omega
      have hy : x = a * 10 ^ (k - (j + 1)) * 10 := by rw [hx.out, show k - j = k - (j + 1) + 1 by omega, Int.pow_succ, ← Int.mul_assoc]
      have qw : RowKit.wrap64 (x.tdiv 10) = a * 10 ^ (k - (j + 1)) := by
        rw [q]; unfold RowKit.wrap64; generalize a * 10 ^ (k - (j + 1)) = y at hy; omega
      have qw : IntKind.i64.wrap (x.tdiv 10) = a * 10 ^ (k - (j + 1)) := by
        rw [q, IntKind.wrap_i64]; generalize a * 10 ^ (k - (j + 1)) = y at hy; omega
      clear hy
      clear q xb
      go_wp2
      refine ⟨⟨j + 1, hjk, rfl, by congr 1; omega⟩, ?_⟩
      simp [intOf]; omega
    · obtain rfl : j = k := by omega
      have t : ¬ x.tmod 10 = 0 := by rw [hx.out]; simpa using ha
      have hx' : x = a := by rw [hx.out]; simp
      subst hx'
      go_wp2_with fail
      refine (refright_any _ _ _ b hb _).mono ?_
      rintro r w' ⟨rfl, hw'⟩; rw [hw']; clear hw' w'
      cases b
      · go_wp2_with fail
        go_returns
        exact ⟨rfl, (((Below.refl _ _).alloc (Nat.le_refl _) _).alloc (by simp) _).alloc (by simp; omega) _⟩
      · go_wp2_with fail
        go_returns
        exact ⟨rfl, (((Below.refl _ _).alloc (Nat.le_refl _) _).alloc (by simp) _).alloc (by simp; omega) _⟩
end Go.Proofs.YtmeimofnmpmaoaaGreatDoor
