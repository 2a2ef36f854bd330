/- Doubles are in the order of their rungs. -/
import Derived.Test.YtmeimofnmpmaoaaGreatDoorAa
namespace Go.Proofs.YtmeimofnmpmaoaaGreatDoor
namespace Fl

theorem signed_false (m up : Nat) : Ieee.signed false m up = ((m * 2 ^ up : Nat) : Int) := by simp [Ieee.signed, Nat.shiftLeft_eq]
theorem signed_true (m up : Nat) : Ieee.signed true m up = -((m * 2 ^ up : Nat) : Int) := by simp [Ieee.signed, Nat.shiftLeft_eq]

/-- The value of a rung, in the least units of two rungs, is in the order of the rungs. -/
theorem rung_lt {K m K' m' : Nat} (h1 : 4503599627370496 ≤ m) (h2 : m < 9007199254740992) (g1 : 4503599627370496 ≤ m') (g2 : m' < 9007199254740992) :
    m * 2 ^ (K - min K K') < m' * 2 ^ (K' - min K K') ↔ K * 4503599627370496 + m < K' * 4503599627370496 + m' := by
  rcases Nat.lt_trichotomy K K' with h | h | h
  · rw [Nat.min_eq_left (Nat.le_of_lt h), Nat.sub_self, Nat.pow_zero, Nat.mul_one]
    obtain ⟨j, hj⟩ : ∃ j, K' - K = j + 1 := ⟨K' - K - 1, by omega⟩
    have : m' * 2 ≤ m' * 2 ^ (K' - K) := Nat.mul_le_mul_left _ (by rw [hj, Nat.pow_succ]; have := Nat.two_pow_pos j; omega)
    constructor
    · intro _; omega
    · intro _; omega
  · subst h; simp
  · rw [Nat.min_eq_right (Nat.le_of_lt h), Nat.sub_self, Nat.pow_zero, Nat.mul_one]
    obtain ⟨j, hj⟩ : ∃ j, K - K' = j + 1 := ⟨K - K' - 1, by omega⟩
    have : m * 2 ≤ m * 2 ^ (K - K') := Nat.mul_le_mul_left _ (by rw [hj, Nat.pow_succ]; have := Nat.two_pow_pos j; omega)
    constructor
    · intro _; omega
    · intro _; omega

theorem min_sub (K K' : Nat) : (((K : Int) - 1074) - min ((K : Int) - 1074) ((K' : Int) - 1074)).toNat = K - min K K' ∧ (((K' : Int) - 1074) - min ((K : Int) - 1074) ((K' : Int) - 1074)).toNat = K' - min K K' := by omega

theorem order_pp {K m K' m' : Nat} (h1 : 4503599627370496 ≤ m) (h2 : m < 9007199254740992) (hK : K < 2045) (g1 : 4503599627370496 ≤ m') (g2 : m' < 9007199254740992) (gK : K' < 2045) :
    (Ieee.double.order (Ieee.double.word false (K * 4503599627370496 + m)) (Ieee.double.word false (K' * 4503599627370496 + m')) == some .gt) = decide (K' * 4503599627370496 + m' < K * 4503599627370496 + m) := by
  unfold Ieee.Format.order
  rw [read_word false K m h1 h2 hK, read_word false K' m' g1 g2 gK]
  simp only [Ieee.Datum.order, signed_false, (min_sub K K').1, (min_sub K K').2]
  have r := rung_lt (K := K') (K' := K) g1 g2 h1 h2
  rw [Nat.min_comm] at r
  generalize m * 2 ^ (K - min K K') = x at *
  generalize m' * 2 ^ (K' - min K K') = y at *
  by_cases hc : K' * 4503599627370496 + m' < K * 4503599627370496 + m
  · have := r.2 hc
    have e : compare (x : Int) (y : Int) = .gt := by rw [Int.compare_eq_gt]; omega
    simp [e, hc]
  · have : ¬ y < x := fun h => hc (r.1 h)
    have e : compare (x : Int) (y : Int) ≠ .gt := by rw [Ne, Int.compare_eq_gt]; omega
    simp [e, hc]

theorem order_nn {K m K' m' : Nat} (h1 : 4503599627370496 ≤ m) (h2 : m < 9007199254740992) (hK : K < 2045) (g1 : 4503599627370496 ≤ m') (g2 : m' < 9007199254740992) (gK : K' < 2045) :
    (Ieee.double.order (Ieee.double.word true (K * 4503599627370496 + m)) (Ieee.double.word true (K' * 4503599627370496 + m')) == some .lt) = decide (K' * 4503599627370496 + m' < K * 4503599627370496 + m) := by
  unfold Ieee.Format.order
  rw [read_word true K m h1 h2 hK, read_word true K' m' g1 g2 gK]
  simp only [Ieee.Datum.order, signed_true, (min_sub K K').1, (min_sub K K').2]
  have r := rung_lt (K := K') (K' := K) g1 g2 h1 h2
  rw [Nat.min_comm] at r
  generalize m * 2 ^ (K - min K K') = x at *
  generalize m' * 2 ^ (K' - min K K') = y at *
  by_cases hc : K' * 4503599627370496 + m' < K * 4503599627370496 + m
  · have := r.2 hc
    have e : compare (-(x : Int)) (-(y : Int)) = .lt := by rw [Int.compare_eq_lt]; omega
    simp [e, hc]
  · have : ¬ y < x := fun h => hc (r.1 h)
    have e : compare (-(x : Int)) (-(y : Int)) ≠ .lt := by rw [Ne, Int.compare_eq_lt]; omega
    simp [e, hc]

theorem order_np {K m K' m' : Nat} (h1 : 4503599627370496 ≤ m) (h2 : m < 9007199254740992) (hK : K < 2045) (g1 : 4503599627370496 ≤ m') (g2 : m' < 9007199254740992) (gK : K' < 2045) :
    (Ieee.double.order (Ieee.double.word true (K * 4503599627370496 + m)) (Ieee.double.word false (K' * 4503599627370496 + m')) == some .gt) = false ∧
    (Ieee.double.order (Ieee.double.word false (K * 4503599627370496 + m)) (Ieee.double.word true (K' * 4503599627370496 + m')) == some .lt) = false := by
  unfold Ieee.Format.order
  rw [read_word true K m h1 h2 hK, read_word false K' m' g1 g2 gK, read_word false K m h1 h2 hK, read_word true K' m' g1 g2 gK]
  simp only [Ieee.Datum.order, signed_true, signed_false, (min_sub K K').1, (min_sub K K').2]
  generalize m * 2 ^ (K - min K K') = x
  generalize m' * 2 ^ (K' - min K K') = y
  have e : compare (-(x : Int)) (y : Int) ≠ .gt := by rw [Ne, Int.compare_eq_gt]; omega
  have e' : compare (x : Int) (-(y : Int)) ≠ .lt := by rw [Ne, Int.compare_eq_lt]; omega
  simp [e, e']
end Fl
end Go.Proofs.YtmeimofnmpmaoaaGreatDoor
