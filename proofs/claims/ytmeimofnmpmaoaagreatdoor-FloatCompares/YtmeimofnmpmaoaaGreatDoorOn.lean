/- Bits in plain numbers: they are those of a number, they are apart where the numbers are, and twice a number has one step more of the exponent. -/
import Derived.Test.YtmeimofnmpmaoaaGreatDoorOw
namespace Go.Proofs.YtmeimofnmpmaoaaGreatDoor
namespace Fl

theorem rq_bd {a b : Nat} (h1 : 2 ^ 52 * b ≤ a) (h2 : a < 2 ^ 53 * b) : 2 ^ 52 ≤ rq a b ∧ rq a b ≤ 2 ^ 53 := by
  have hb : 0 < b := by omega
  have r1 := rq_le a b
  have r2 := rq_ge a b hb
  constructor
  · rcases Nat.lt_or_ge (rq a b) (2 ^ 52) with h | h
    · have : b * rq a b ≤ b * (2 ^ 52 - 1) := Nat.mul_le_mul_left _ (by omega)
      omega
    · exact h
  · rcases Nat.lt_or_ge (2 ^ 53) (rq a b) with h | h
    · have : b * (2 ^ 53 + 1) ≤ b * rq a b := Nat.mul_le_mul_left _ h
      omega
    · exact h

theorem ten_two (t : Nat) : 10 ^ (3 * t) ≤ 2 ^ (10 * t) := by
  rw [Nat.pow_mul, Nat.pow_mul]
  exact Nat.pow_le_pow_left (by decide) t

/-- The rung of a number among the doubles' is neither too low nor too high. -/
theorem near_bd {a b R t : Nat} (ht : t = 102) (hb : 0 < b) (h : Near a b R) (ha : a ≤ 10 ^ (3 * t) * b) : 4503599627370496 ≤ R ∧ R < 9218868437227405312 := by
  obtain ⟨u, v, h1, h2, h3, rfl⟩ := h
  obtain ⟨q1, q2⟩ := rq_bd h1 h2
  have k1 : 2 ^ 52 * (b * 2 ^ u) ≤ 2 ^ (10 * t) * b * 2 ^ v := Nat.le_trans h1 (Nat.mul_le_mul_right _ (Nat.le_trans ha (Nat.mul_le_mul_right _ (ten_two t))))
  have k2 : b * 2 ^ (52 + u) ≤ b * 2 ^ (10 * t + v) := by
    rw [Nat.pow_add, Nat.pow_add]
    have e1 : b * (2 ^ 52 * 2 ^ u) = 2 ^ 52 * (b * 2 ^ u) := Nat.mul_left_comm _ _ _
    have e2 : b * (2 ^ (10 * t) * 2 ^ v) = 2 ^ (10 * t) * b * 2 ^ v := by rw [Nat.mul_comm (2 ^ (10 * t)) b, Nat.mul_assoc]
    rw [e1, e2]; exact k1
  have k3 := Nat.le_of_mul_le_mul_left k2 hb
  have k4 := (Nat.pow_le_pow_iff_right (by decide : 1 < 2)).1 k3
  have k5 : u + 1074 - v ≤ 2043 := by omega
  have e52 : (2 : Nat) ^ 52 = 4503599627370496 := by decide
  have e53 : (2 : Nat) ^ 53 = 9007199254740992 := by decide
  rw [e52] at q1 ⊢
  rw [e53] at q2
  generalize rq (a * 2 ^ v) (b * 2 ^ u) = x at *
  generalize u + 1074 - v = y at *
  omega

theorem near_double {a b R : Nat} (h : Near a b R) : Near (2 * a) b (R + 4503599627370496) := by
  obtain ⟨u, v, h1, h2, h3, rfl⟩ := h
  have e1 : 2 * a * 2 ^ v = a * 2 ^ v * 2 := by rw [Nat.mul_comm 2 a, Nat.mul_right_comm]
  have e2 : b * 2 ^ (u + 1) = b * 2 ^ u * 2 := by rw [Nat.pow_succ, Nat.mul_assoc]
  refine ⟨u + 1, v, ?_, ?_, by omega, ?_⟩
  · rw [e1, e2, ← Nat.mul_assoc]; exact Nat.mul_le_mul_right 2 h1
  · rw [e1, e2, ← Nat.mul_assoc]; exact Nat.mul_lt_mul_of_pos_right h2 (by decide)
  · rw [e1, e2, rq_scale _ _ _ (by decide)]
    have e52 : (2 : Nat) ^ 52 = 4503599627370496 := by decide
    rw [e52, show u + 1 + 1074 - v = u + 1074 - v + 1 by omega, Nat.add_mul]
    omega

theorem ten_inj {a b s t : Nat} (ha : ¬ a % 10 = 0) (hb : ¬ b % 10 = 0) (h : a * 10 ^ s = b * 10 ^ t) : s = t ∧ a = b := by
  rcases Nat.lt_trichotomy s t with hs | hs | hs
  · exfalso
    obtain ⟨j, rfl⟩ : ∃ j, t = s + (j + 1) := ⟨t - s - 1, by omega⟩
    rw [Nat.pow_add, ← Nat.mul_assoc, Nat.mul_right_comm] at h
    have h1 := Nat.eq_of_mul_eq_mul_right (Nat.pow_pos (by decide)) h
    apply ha
    rw [h1, Nat.pow_succ, ← Nat.mul_assoc]
    exact Nat.mul_mod_left _ _
  · subst hs
    exact ⟨rfl, Nat.eq_of_mul_eq_mul_right (Nat.pow_pos (by decide)) h⟩
  · exfalso
    obtain ⟨j, rfl⟩ : ∃ j, s = t + (j + 1) := ⟨s - t - 1, by omega⟩
    rw [Nat.pow_add, ← Nat.mul_assoc, Nat.mul_right_comm] at h
    have h1 := Nat.eq_of_mul_eq_mul_right (Nat.pow_pos (by decide)) h
    apply hb
    rw [← h1, Nat.pow_succ, ← Nat.mul_assoc]
    exact Nat.mul_mod_left _ _
end Fl
open Fl

theorem num_le {q t d : Nat} {p : Int} (ht : t = 102) (d1 : d < 1000000000000000) (p1 : p ≤ 290) : num q d p ≤ 10 ^ (3 * t) * 10 ^ q := by
  rw [num, ← Nat.pow_add]
  have h1 : d ≤ 10 ^ 15 := by have : (10 : Nat) ^ 15 = 1000000000000000 := by decide
                              omega
  refine Nat.le_trans (Nat.mul_le_mul_right _ h1) ?_
  rw [← Nat.pow_add]
  exact Nat.pow_le_pow_right (by decide) (by omega)

theorem tmod_nat {M : Int} (h : ¬ M.tmod 10 = 0) : ¬ M.natAbs % 10 = 0 := fun h' =>
  h (Int.tmod_eq_zero_of_dvd (Int.natAbs_dvd_natAbs.1 (Nat.dvd_of_mod_eq_zero h')))

/-- Numbers that may be, of the same rung, are the same but for their sign. -/
theorem rung_inj {q : Nat} (hq : 300 ≤ q) {M E M' E' : Int} {R : Nat} (h : mayBe M E 0 = true) (h0 : M ≠ 0) (h' : mayBe M' E' 0 = true) (h0' : M' ≠ 0) (hN : Near (num q M.natAbs E) (10 ^ q) R) (hN' : Near (num q M'.natAbs E') (10 ^ q) R) : M.natAbs = M'.natAbs ∧ E = E' := by
  have b1 := may_lt h h0
  have b2 := may_lt h' h0'
  have t1 : -1000000000000000 < M ∧ M < 1000000000000000 ∧ ¬ M.tmod 10 = 0 ∧ -300 ≤ E ∧ E ≤ 290 := by simpa [mayBe, h0] using h
  have t2 : -1000000000000000 < M' ∧ M' < 1000000000000000 ∧ ¬ M'.tmod 10 = 0 ∧ -300 ≤ E' ∧ E' ≤ 290 := by simpa [mayBe, h0'] using h'
  have pq : 0 < 10 ^ q := Nat.pow_pos (by decide)
  rcases Nat.lt_trichotomy (num q M.natAbs E) (num q M'.natAbs E') with hl | hl | hl
  · exact absurd (near_lt pq hN hN' (gap15 b1.1 b2.1 hl)) (Nat.lt_irrefl _)
  · obtain ⟨e1, e2⟩ := ten_inj (tmod_nat t1.2.2.1) (tmod_nat t2.2.2.1) hl
    exact ⟨e2, by omega⟩
  · exact absurd (near_lt pq hN' hN (gap15 b2.1 b1.1 hl)) (Nat.lt_irrefl _)
end Go.Proofs.YtmeimofnmpmaoaaGreatDoor
