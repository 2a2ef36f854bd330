/- The contracts of Right and of Clean, of the program and of the document. Conditions: the numbers fit. -/
import Derived.Test.YtpjimckbpabakaaDoorRows
import Derived.Test.YtpjimckbpabakaaDoorA
import Derived.WalkKit
import Derived.ProofKit
import Derived.WalkSpells
import Derived.Handy
namespace Go.Proofs.YtpjimckbpabakaaDoor
open Go.RowKit


abbrev val (M E S : Int) : Value := .agg #[.int .i64 M, .int .i64 E, .int .i64 S]

theorem right_any (M E S : Int) (b : Bool) (hb : Hid (b = mayBe M E S)) (w : World) :
    Calls Tryd.prog 23 #[val M E S] w fun e w' => e = .returned (.bool b) ∧ w' = w.alloc (.cells #[.int .i64 M, .int .i64 E, .int .i64 S] 36) := by
  have hb' := hb.out
  go_enter Tryd.func23, Tryd.ntmps23
  by_cases hS : S = 0
  · by_cases hM : M = 0
    · subst hS; subst hM
      obtain rfl : b = decide (E = 0) := by rw [hb']; simp [mayBe]
      clear hb hb'
      go_wp2
      go_ret
      exact ⟨by first | rfl | (simp_all; done), by first | rfl | (simp_all; done)⟩
    · have g : b = decide (-1000000000000000 < M ∧ M < 1000000000000000 ∧ ¬ M.tmod 10 = 0 ∧ -300 ≤ E ∧ E ≤ 290) := by rw [hb']; simp [mayBe, hS, hM]
      subst hS
      clear hb hb'
      by_cases h1 : -1000000000000000 < M
      · by_cases h2 : M < 1000000000000000
        · by_cases h3 : M.tmod 10 = 0
          · obtain rfl : b = false := by rw [g]; simp [h3]
            clear g
            go_wp2
            go_ret
            exact ⟨by first | rfl | (simp_all; done), by first | rfl | (simp_all; done)⟩
          · by_cases h4 : -300 ≤ E
            · by_cases h5 : E ≤ 290
              · obtain rfl : b = true := by rw [g]; simp [h1, h2, h3, h4, h5]
                clear g
                go_wp2
                go_ret
                exact ⟨by first | rfl | (simp_all; done), by first | rfl | (simp_all; done)⟩
              · obtain rfl : b = false := by rw [g]; simp [h5]
                clear g
                go_wp2
                go_ret
                exact ⟨by first | rfl | (simp_all; done), by first | rfl | (simp_all; done)⟩
            · obtain rfl : b = false := by rw [g]; simp [h4]
              clear g
              go_wp2
              go_ret
              exact ⟨by first | rfl | (simp_all; done), by first | rfl | (simp_all; done)⟩
        · obtain rfl : b = false := by rw [g]; simp [h2]
          clear g
          go_wp2
          go_ret
          exact ⟨by first | rfl | (simp_all; done), by first | rfl | (simp_all; done)⟩
      · obtain rfl : b = false := by rw [g]; simp [h1]
        clear g
        go_wp2
        go_ret
        exact ⟨by first | rfl | (simp_all; done), by first | rfl | (simp_all; done)⟩
  · have g : b = decide (1 ≤ S ∧ S ≤ 4 ∧ M = 0 ∧ E = 0) := by rw [hb']; simp [mayBe, hS]
    clear hb hb'
    by_cases h1 : 1 ≤ S
    · by_cases h2 : S ≤ 4
      · by_cases h3 : M = 0
        · by_cases h4 : E = 0
          · obtain rfl : b = true := by rw [g]; simp [h1, h2, h3, h4]
            clear g
            go_wp2
            go_ret
            exact ⟨by first | rfl | (simp_all; done), by first | rfl | (simp_all; done)⟩
          · obtain rfl : b = false := by rw [g]; simp [h4]
            clear g
            go_wp2
            go_ret
            exact ⟨by first | rfl | (simp_all; done), by first | rfl | (simp_all; done)⟩
        · obtain rfl : b = false := by rw [g]; simp [h3]
          clear g
          go_wp2
          go_ret
          exact ⟨by first | rfl | (simp_all; done), by first | rfl | (simp_all; done)⟩
      · obtain rfl : b = false := by rw [g]; simp [h2]
        clear g
        go_wp2
        go_ret
        exact ⟨by first | rfl | (simp_all; done), by first | rfl | (simp_all; done)⟩
    · obtain rfl : b = false := by rw [g]; simp [h1]
      clear g
      go_wp2
      go_ret
      exact ⟨by first | rfl | (simp_all; done), by first | rfl | (simp_all; done)⟩
theorem refright_any (M E S : Int) (b : Bool) (hb : Hid (b = mayBe M E S)) (w : World) :
    Calls Tryd.prog 16 #[val M E S] w fun e w' => e = .returned (.bool b) ∧ w' = w.alloc (.cells #[.int .i64 M, .int .i64 E, .int .i64 S] 36) := by
  have hb' := hb.out
  go_enter Tryd.func16, Tryd.ntmps16
  by_cases hS : S = 0
  · by_cases hM : M = 0
    · subst hS; subst hM
      obtain rfl : b = decide (E = 0) := by rw [hb']; simp [mayBe]
      clear hb hb'
      go_wp2
      go_ret
      exact ⟨by first | rfl | (simp_all; done), by first | rfl | (simp_all; done)⟩
    · have g : b = decide (-1000000000000000 < M ∧ M < 1000000000000000 ∧ ¬ M.tmod 10 = 0 ∧ -300 ≤ E ∧ E ≤ 290) := by rw [hb']; simp [mayBe, hS, hM]
      subst hS
      clear hb hb'
      by_cases h1 : -1000000000000000 < M
      · by_cases h2 : M < 1000000000000000
        · by_cases h3 : M.tmod 10 = 0
          · obtain rfl : b = false := by rw [g]; simp [h3]
            clear g
            go_wp2
            go_ret
            exact ⟨by first | rfl | (simp_all; done), by first | rfl | (simp_all; done)⟩
          · by_cases h4 : -300 ≤ E
            · by_cases h5 : E ≤ 290
              · obtain rfl : b = true := by rw [g]; simp [h1, h2, h3, h4, h5]
                clear g
                go_wp2
                go_ret
                exact ⟨by first | rfl | (simp_all; done), by first | rfl | (simp_all; done)⟩
              · obtain rfl : b = false := by rw [g]; simp [h5]
                clear g
                go_wp2
                go_ret
                exact ⟨by first | rfl | (simp_all; done), by first | rfl | (simp_all; done)⟩
            · obtain rfl : b = false := by rw [g]; simp [h4]
              clear g
              go_wp2
              go_ret
              exact ⟨by first | rfl | (simp_all; done), by first | rfl | (simp_all; done)⟩
        · obtain rfl : b = false := by rw [g]; simp [h2]
          clear g
          go_wp2
          go_ret
          exact ⟨by first | rfl | (simp_all; done), by first | rfl | (simp_all; done)⟩
      · obtain rfl : b = false := by rw [g]; simp [h1]
        clear g
        go_wp2
        go_ret
        exact ⟨by first | rfl | (simp_all; done), by first | rfl | (simp_all; done)⟩
  · have g : b = decide (1 ≤ S ∧ S ≤ 4 ∧ M = 0 ∧ E = 0) := by rw [hb']; simp [mayBe, hS]
    clear hb hb'
    by_cases h1 : 1 ≤ S
    · by_cases h2 : S ≤ 4
      · by_cases h3 : M = 0
        · by_cases h4 : E = 0
          · obtain rfl : b = true := by rw [g]; simp [h1, h2, h3, h4]
            clear g
            go_wp2
            go_ret
            exact ⟨by first | rfl | (simp_all; done), by first | rfl | (simp_all; done)⟩
          · obtain rfl : b = false := by rw [g]; simp [h4]
            clear g
            go_wp2
            go_ret
            exact ⟨by first | rfl | (simp_all; done), by first | rfl | (simp_all; done)⟩
        · obtain rfl : b = false := by rw [g]; simp [h3]
          clear g
          go_wp2
          go_ret
          exact ⟨by first | rfl | (simp_all; done), by first | rfl | (simp_all; done)⟩
      · obtain rfl : b = false := by rw [g]; simp [h2]
        clear g
        go_wp2
        go_ret
        exact ⟨by first | rfl | (simp_all; done), by first | rfl | (simp_all; done)⟩
    · obtain rfl : b = false := by rw [g]; simp [h1]
      clear g
      go_wp2
      go_ret
      exact ⟨by first | rfl | (simp_all; done), by first | rfl | (simp_all; done)⟩


theorem clean_far (m e : Int) (he : e < -1000 ∨ 1000 < e) (w : World) :
    Calls Tryd.prog 25 #[.int .i64 m, .int .i64 e] w fun e w' => e = .returned (.tuple #[val 0 0 0, .bool false]) ∧ Below w.heap.size w w' := by
  rcases he with he | he
  · go_enter Tryd.func25, Tryd.ntmps25
    go_wp2
    go_returns
    exact ⟨rfl, (Below.refl _ _).alloc (Nat.le_refl _) _⟩
  · have h : ¬ e < -1000 := by omega
    go_enter Tryd.func25, Tryd.ntmps25
    go_wp2
    go_returns
    exact ⟨rfl, (Below.refl _ _).alloc (Nat.le_refl _) _⟩

theorem clean_zero (e : Int) (h0 : -1000 ≤ e) (h1 : e ≤ 1000) (w : World) :
    Calls Tryd.prog 25 #[.int .i64 0, .int .i64 e] w fun e w' => e = .returned (.tuple #[val 0 0 0, .bool true]) ∧ Below w.heap.size w w' := by
  have h : ¬ e < -1000 := by omega
  have h' : ¬ e > 1000 := by omega
  go_enter Tryd.func25, Tryd.ntmps25
  go_wp2
  go_returns
  exact ⟨rfl, (Below.refl _ _).alloc (Nat.le_refl _) _⟩

theorem tmod_far {a : Int} (k : Nat) (hk : 1 ≤ k) : (a * 10 ^ k).tmod 10 = 0 := by
  obtain ⟨j, rfl⟩ : ∃ j, k = j + 1 := ⟨k - 1, by omega⟩
  rw [Int.pow_succ, ← Int.mul_assoc]
  exact Int.mul_tmod_left _ _

theorem clean_any (m e a : Int) (k : Nat) (b : Bool) (hm : m = a * 10 ^ k) (ha : ¬ a.tmod 10 = 0) (m0 : -9223372036854775808 ≤ m) (m1 : m ≤ 9223372036854775807) (hk : k ≤ 18) (h0 : -1000 ≤ e) (h1 : e ≤ 1000) (hb : Hid (b = mayBe a (e + k) 0)) (w : World) :
    Calls Tryd.prog 25 #[.int .i64 m, .int .i64 e] w fun r w' => r = .returned (.tuple #[if b then val a (e + k) 0 else val 0 0 0, .bool b]) ∧ Below w.heap.size w w' := by
  have h : ¬ e < -1000 := by omega
  have h' : ¬ e > 1000 := by omega
  have a0 : ¬ a = 0 := fun h => ha (by rw [h]; rfl)
  have hz : ∀ j : Nat, ¬ a * 10 ^ j = 0 := fun j => Int.mul_ne_zero a0 (Int.pow_ne_zero (by decide))
  have hz0 : ¬ m = 0 := by rw [hm]; exact hz k
  go_enter Tryd.func25, Tryd.ntmps25
  go_wp2
  go_loop [0, 1] (fun x y => ∃ j : Nat, j ≤ k ∧ x = .int .i64 (a * 10 ^ (k - j)) ∧ y = .int .i64 (e + j)) (fun _ y => 2000 + k - (intOf y + 1000).toNat)
  case atStart => exact ⟨0, by omega, by first | rfl | (rw [hm]; rfl), by simp⟩
  case round =>
    obtain ⟨j, hj, rfl, rfl⟩ := hrel
    obtain ⟨x, hx⟩ : ∃ x, Hid (x = a * 10 ^ (k - j)) := ⟨_, rfl⟩
    rw [← hx.out]
    by_cases hjk : j < k
    · have t : x.tmod 10 = 0 := by rw [hx.out]; exact tmod_far _ (by omega)
      have q : x.tdiv 10 = a * 10 ^ (k - (j + 1)) := by
        rw [hx.out, show k - j = k - (j + 1) + 1 by omega, Int.pow_succ, ← Int.mul_assoc]
        exact Int.mul_tdiv_cancel _ (by decide)
      have xb : -9223372036854775808 ≤ x ∧ x ≤ 9223372036854775807 := by
        have hp : x * 10 ^ j = m := by rw [hx.out, hm, Int.mul_assoc, ← Int.pow_add, show k - j + j = k by omega]
        have h10 : (1 : Int) ≤ 10 ^ j := by have := Nat.one_le_pow j 10 (by decide); exact_mod_cast this
        generalize (10 : Int) ^ j = t at hp h10
        rcases Int.le_total 0 x with h | h
        · have := Int.mul_le_mul_of_nonneg_left h10 h
          omega
        · have := Int.mul_le_mul_of_nonneg_left h10 (show 0 ≤ -x by omega)
          simp only [Int.neg_mul, Int.mul_one] at this
          omega
      have hy : x = a * 10 ^ (k - (j + 1)) * 10 := by rw [hx.out, show k - j = k - (j + 1) + 1 by omega, Int.pow_succ, ← Int.mul_assoc]
      have qw : RowKit.wrap64 (x.tdiv 10) = a * 10 ^ (k - (j + 1)) := by
        rw [q]; unfold RowKit.wrap64; generalize a * 10 ^ (k - (j + 1)) = y at hy; omega
      have qw : IntKind.i64.wrap (x.tdiv 10) = a * 10 ^ (k - (j + 1)) := by
        rw [q, IntKind.wrap_i64]; generalize a * 10 ^ (k - (j + 1)) = y at hy; omega
      clear hy
      clear q xb
      go_wp2
      refine ⟨⟨j + 1, hjk, rfl, by congr 1; omega⟩, ?_⟩
      simp [intOf]; omega
    · obtain rfl : j = k := by omega
      have t : ¬ x.tmod 10 = 0 := by rw [hx.out]; simpa using ha
      have hx' : x = a := by rw [hx.out]; simp
      subst hx'
      go_wp2_with fail
      refine (right_any _ _ _ b hb _).mono ?_
      rintro r w' ⟨rfl, hw'⟩; rw [hw']; clear hw' w'
      cases b
      · go_wp2_with fail
        go_returns
        exact ⟨rfl, (((Below.refl _ _).alloc (Nat.le_refl _) _).alloc (by simp) _).alloc (by simp; omega) _⟩
      · go_wp2_with fail
        go_returns
        exact ⟨rfl, (((Below.refl _ _).alloc (Nat.le_refl _) _).alloc (by simp) _).alloc (by simp; omega) _⟩
theorem refclean_far (m e : Int) (he : e < -1000 ∨ 1000 < e) (w : World) :
    Calls Tryd.prog 22 #[.int .i64 m, .int .i64 e] w fun e w' => e = .returned (.tuple #[val 0 0 0, .bool false]) ∧ Below w.heap.size w w' := by
  rcases he with he | he
  · go_enter Tryd.func22, Tryd.ntmps22
    go_wp2
    go_returns
    exact ⟨rfl, (Below.refl _ _).alloc (Nat.le_refl _) _⟩
  · have h : ¬ e < -1000 := by omega
    go_enter Tryd.func22, Tryd.ntmps22
    go_wp2
    go_returns
    exact ⟨rfl, (Below.refl _ _).alloc (Nat.le_refl _) _⟩

theorem refclean_zero (e : Int) (h0 : -1000 ≤ e) (h1 : e ≤ 1000) (w : World) :
    Calls Tryd.prog 22 #[.int .i64 0, .int .i64 e] w fun e w' => e = .returned (.tuple #[val 0 0 0, .bool true]) ∧ Below w.heap.size w w' := by
  have h : ¬ e < -1000 := by omega
  have h' : ¬ e > 1000 := by omega
  go_enter Tryd.func22, Tryd.ntmps22
  go_wp2
  go_returns
  exact ⟨rfl, (Below.refl _ _).alloc (Nat.le_refl _) _⟩

theorem refclean_any (m e a : Int) (k : Nat) (b : Bool) (hm : m = a * 10 ^ k) (ha : ¬ a.tmod 10 = 0) (m0 : -9223372036854775808 ≤ m) (m1 : m ≤ 9223372036854775807) (hk : k ≤ 18) (h0 : -1000 ≤ e) (h1 : e ≤ 1000) (hb : Hid (b = mayBe a (e + k) 0)) (w : World) :
    Calls Tryd.prog 22 #[.int .i64 m, .int .i64 e] w fun r w' => r = .returned (.tuple #[if b then val a (e + k) 0 else val 0 0 0, .bool b]) ∧ Below w.heap.size w w' := by
  have h : ¬ e < -1000 := by omega
  have h' : ¬ e > 1000 := by omega
  have a0 : ¬ a = 0 := fun h => ha (by rw [h]; rfl)
  have hz : ∀ j : Nat, ¬ a * 10 ^ j = 0 := fun j => Int.mul_ne_zero a0 (Int.pow_ne_zero (by decide))
  have hz0 : ¬ m = 0 := by rw [hm]; exact hz k
  go_enter Tryd.func22, Tryd.ntmps22
  go_wp2
  go_loop [0, 1] (fun x y => ∃ j : Nat, j ≤ k ∧ x = .int .i64 (a * 10 ^ (k - j)) ∧ y = .int .i64 (e + j)) (fun _ y => 2000 + k - (intOf y + 1000).toNat)
  case atStart => exact ⟨0, by omega, by first | rfl | (rw [hm]; rfl), by simp⟩
  case round =>
    obtain ⟨j, hj, rfl, rfl⟩ := hrel
    obtain ⟨x, hx⟩ : ∃ x, Hid (x = a * 10 ^ (k - j)) := ⟨_, rfl⟩
    rw [← hx.out]
    by_cases hjk : j < k
    · have t : x.tmod 10 = 0 := by rw [hx.out]; exact tmod_far _ (by omega)
      have q : x.tdiv 10 = a * 10 ^ (k - (j + 1)) := by
        rw [hx.out, show k - j = k - (j + 1) + 1 by omega, Int.pow_succ, ← Int.mul_assoc]
        exact Int.mul_tdiv_cancel _ (by decide)
      have xb : -9223372036854775808 ≤ x ∧ x ≤ 9223372036854775807 := by
        have hp : x * 10 ^ j = m := by rw [hx.out, hm, Int.mul_assoc, ← Int.pow_add, show k - j + j = k by omega]
        have h10 : (1 : Int) ≤ 10 ^ j := by have := Nat.one_le_pow j 10 (by decide); exact_mod_cast this
        generalize (10 : Int) ^ j = t at hp h10
        rcases Int.le_total 0 x with h | h
        · have := Int.mul_le_mul_of_nonneg_left h10 h
          omega
        · have := Int.mul_le_mul_of_nonneg_left h10 (show 0 ≤ -x by omega)
          simp only [Int.neg_mul, Int.mul_one] at this
          omega
      have hy : x = a * 10 ^ (k - (j + 1)) * 10 := by rw [hx.out, show k - j = k - (j + 1) + 1 by omega, Int.pow_succ, ← Int.mul_assoc]
      have qw : RowKit.wrap64 (x.tdiv 10) = a * 10 ^ (k - (j + 1)) := by
        rw [q]; unfold RowKit.wrap64; generalize a * 10 ^ (k - (j + 1)) = y at hy; omega
      have qw : IntKind.i64.wrap (x.tdiv 10) = a * 10 ^ (k - (j + 1)) := by
        rw [q, IntKind.wrap_i64]; generalize a * 10 ^ (k - (j + 1)) = y at hy; omega
      clear hy
      clear q xb
      go_wp2
      refine ⟨⟨j + 1, hjk, rfl, by congr 1; omega⟩, ?_⟩
      simp [intOf]; omega
    · obtain rfl : j = k := by omega
      have t : ¬ x.tmod 10 = 0 := by rw [hx.out]; simpa using ha
      have hx' : x = a := by rw [hx.out]; simp
      subst hx'
      go_wp2_with fail
      refine (refright_any _ _ _ b hb _).mono ?_
      rintro r w' ⟨rfl, hw'⟩; rw [hw']; clear hw' w'
      cases b
      · go_wp2_with fail
        go_returns
        exact ⟨rfl, (((Below.refl _ _).alloc (Nat.le_refl _) _).alloc (by simp) _).alloc (by simp; omega) _⟩
      · go_wp2_with fail
        go_returns
        exact ⟨rfl, (((Below.refl _ _).alloc (Nat.le_refl _) _).alloc (by simp) _).alloc (by simp; omega) _⟩

/-- Clean, as the plain function tells it. -/
theorem cl_any (m e : Int) (m0 : -9223372036854775808 ≤ m) (m1 : m ≤ 9223372036854775807) (w : World) :
    Calls Tryd.prog 25 #[.int .i64 m, .int .i64 e] w fun r w' => r = .returned (.tuple #[match cl m e with | some v => val v.M v.E v.S | none => val 0 0 0, .bool (cl m e).isSome]) ∧ Below w.heap.size w w' := by
  unfold cl
  by_cases he : e < -1000 ∨ 1000 < e
  · rw [if_pos he]; exact clean_far m e he w
  · rw [if_neg he]
    by_cases hm : m = 0
    · subst hm; rw [if_pos rfl]; exact clean_zero e (by omega) (by omega) w
    · rw [if_neg hm]
      obtain ⟨k, h1, h2, h3, h4⟩ := strip_spec 19 m e hm (by omega)
      have hk : k ≤ 18 := by
        rcases Nat.lt_or_ge 18 k with h | h
        · exfalso
          have a0 : (strip 19 m e).1.natAbs ≠ 0 := fun h => h2 (by rw [Int.natAbs_eq_zero.1 h]; rfl)
          have e1 : m.natAbs = (strip 19 m e).1.natAbs * 10 ^ k := (congrArg Int.natAbs h1).trans (by rw [Int.natAbs_mul, Int.natAbs_pow]; rfl)
          have p : 10 ^ 19 ≤ 10 ^ k := Nat.pow_le_pow_right (by decide) h
          have : 1 * 10 ^ 19 ≤ (strip 19 m e).1.natAbs * 10 ^ k := Nat.mul_le_mul (by omega) p
          omega
        · exact h
      cases hb : mayBe (strip 19 m e).1 (strip 19 m e).2 0 with
      | true =>
        have := clean_any m e (strip 19 m e).1 k true h1 h2 m0 m1 hk (by omega) (by omega) (show _ = _ by rw [← h3, hb]) w
        rw [← h3] at this
        exact this
      | false =>
        have := clean_any m e (strip 19 m e).1 k false h1 h2 m0 m1 hk (by omega) (by omega) (show _ = _ by rw [← h3, hb]) w
        exact this
theorem refcl_any (m e : Int) (m0 : -9223372036854775808 ≤ m) (m1 : m ≤ 9223372036854775807) (w : World) :
    Calls Tryd.prog 22 #[.int .i64 m, .int .i64 e] w fun r w' => r = .returned (.tuple #[match cl m e with | some v => val v.M v.E v.S | none => val 0 0 0, .bool (cl m e).isSome]) ∧ Below w.heap.size w w' := by
  unfold cl
  by_cases he : e < -1000 ∨ 1000 < e
  · rw [if_pos he]; exact refclean_far m e he w
  · rw [if_neg he]
    by_cases hm : m = 0
    · subst hm; rw [if_pos rfl]; exact refclean_zero e (by omega) (by omega) w
    · rw [if_neg hm]
      obtain ⟨k, h1, h2, h3, h4⟩ := strip_spec 19 m e hm (by omega)
      have hk : k ≤ 18 := by
        rcases Nat.lt_or_ge 18 k with h | h
        · exfalso
          have a0 : (strip 19 m e).1.natAbs ≠ 0 := fun h => h2 (by rw [Int.natAbs_eq_zero.1 h]; rfl)
          have e1 : m.natAbs = (strip 19 m e).1.natAbs * 10 ^ k := (congrArg Int.natAbs h1).trans (by rw [Int.natAbs_mul, Int.natAbs_pow]; rfl)
          have p : 10 ^ 19 ≤ 10 ^ k := Nat.pow_le_pow_right (by decide) h
          have : 1 * 10 ^ 19 ≤ (strip 19 m e).1.natAbs * 10 ^ k := Nat.mul_le_mul (by omega) p
          omega
        · exact h
      cases hb : mayBe (strip 19 m e).1 (strip 19 m e).2 0 with
      | true =>
        have := refclean_any m e (strip 19 m e).1 k true h1 h2 m0 m1 hk (by omega) (by omega) (show _ = _ by rw [← h3, hb]) w
        rw [← h3] at this
        exact this
      | false =>
        have := refclean_any m e (strip 19 m e).1 k false h1 h2 m0 m1 hk (by omega) (by omega) (show _ = _ by rw [← h3, hb]) w
        exact this
end Go.Proofs.YtpjimckbpabakaaDoor
