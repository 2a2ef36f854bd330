/- Rounding an unrounded number, as the library does it, gives the nearest whole number, of two the even one. -/
import Derived.Test.YtmeimofnmpmaoaaGreatDoorM
namespace Go.Proofs.YtmeimofnmpmaoaaGreatDoor
namespace Fl

theorem rq_ratio {X Y Z Q : Nat} (hY : 0 < Y) (hQ : 0 < Q) (h : X * Q = Z * Y) : rq X Y = rq Z Q := by
  rw [← rq_scale X Y Q hQ, h, Nat.mul_comm Y Q, rq_scale Z Q Y hY]

/-- The whole part with its last bit set where anything is left over. -/
def unr (T D : Nat) : Nat := T / D ||| (if T % D = 0 then 0 else 1)

theorem or_bit (q st : Nat) (h : st < 2) : q ||| st = q + (if q % 2 = 0 then st else 0) := by
  have hst : st = 0 ∨ st = 1 := by omega
  rcases hst with rfl | rfl
  · simp
  · have e : q = 2 ^ 1 * (q / 2) + q % 2 := by omega
    have h2 : q % 2 = 0 ∨ q % 2 = 1 := by omega
    rcases h2 with h2 | h2
    · rw [if_pos h2]
      have : q = 2 ^ 1 * (q / 2) := by omega
      rw [this, ← Nat.two_pow_add_eq_or_of_lt (by decide : 1 < 2 ^ 1)]
    · rw [if_neg (by omega)]
      have e1 : q = 2 ^ 1 * (q / 2) ||| 1 := by rw [← Nat.two_pow_add_eq_or_of_lt (by decide : 1 < 2 ^ 1)]; omega
      rw [e1, Nat.or_assoc]
      simp

theorem unr_eq (T D : Nat) : unr T D = T / D + (if T / D % 2 = 0 ∧ T % D ≠ 0 then 1 else 0) := by
  unfold unr
  rw [or_bit _ _ (by split <;> omega)]
  congr 1
  by_cases h1 : T / D % 2 = 0 <;> by_cases h2 : T % D = 0 <;> simp [h1, h2]

/-- Rounding, four to the unit. -/
theorem round4 (T D : Nat) (hD : 0 < D) : (unr T D + 1 + unr T D / 4 % 2) / 4 = rq T (4 * D) := by
  rw [unr_eq]
  unfold rq
  have e1 : T / (4 * D) = T / D / 4 := by rw [Nat.mul_comm, Nat.div_div_eq_div_mul]
  have e2 : T % (4 * D) = T % D + D * (T / D % 4) := by rw [Nat.mul_comm, Nat.mod_mul]
  have hm := Nat.mod_lt T hD
  rw [e1, e2]
  generalize T % D = m at *
  generalize T / D = q at *
  have hj : q % 4 = 0 ∨ q % 4 = 1 ∨ q % 4 = 2 ∨ q % 4 = 3 := by omega
  rcases hj with hj | hj | hj | hj
  · rw [hj, if_neg (show ¬(4 * D < 2 * (m + D * 0) ∨ 2 * (m + D * 0) = 4 * D ∧ q / 4 % 2 = 1) by omega)]
    split <;> omega
  · rw [hj, if_neg (show ¬(4 * D < 2 * (m + D * 1) ∨ 2 * (m + D * 1) = 4 * D ∧ q / 4 % 2 = 1) by omega), if_neg (show ¬(q % 2 = 0 ∧ m ≠ 0) by omega)]
    omega
  · rw [hj]
    by_cases h0 : m = 0
    · subst h0
      rw [if_neg (show ¬(q % 2 = 0 ∧ 0 ≠ 0) by omega)]
      by_cases hb : q / 4 % 2 = 1
      · rw [if_pos (show (4 * D < 2 * (0 + D * 2) ∨ 2 * (0 + D * 2) = 4 * D ∧ q / 4 % 2 = 1) by omega)]; omega
      · rw [if_neg (show ¬(4 * D < 2 * (0 + D * 2) ∨ 2 * (0 + D * 2) = 4 * D ∧ q / 4 % 2 = 1) by omega)]; omega
    · rw [if_pos (show (q % 2 = 0 ∧ m ≠ 0) by omega), if_pos (show (4 * D < 2 * (m + D * 2) ∨ 2 * (m + D * 2) = 4 * D ∧ q / 4 % 2 = 1) by omega)]
      omega
  · rw [hj, if_neg (show ¬(q % 2 = 0 ∧ m ≠ 0) by omega), if_pos (show (4 * D < 2 * (m + D * 3) ∨ 2 * (m + D * 3) = 4 * D ∧ q / 4 % 2 = 1) by omega)]
    omega

/-- One more step down keeps what is left over. -/
theorem unr_half (T D : Nat) : unr T D / 2 ||| unr T D % 2 = unr T (2 * D) := by
  rw [or_bit _ _ (by omega), unr_eq T D, unr_eq T (2 * D)]
  have e1 : T / (2 * D) = T / D / 2 := by rw [Nat.mul_comm, Nat.div_div_eq_div_mul]
  have e2 : T % (2 * D) = T % D + D * (T / D % 2) := by rw [Nat.mul_comm, Nat.mod_mul]
  rw [e1, e2]
  have hz : T % D + D * (T / D % 2) ≠ 0 ↔ T % D ≠ 0 ∨ (T / D % 2 = 1 ∧ D ≠ 0) := by
    have h2 : T / D % 2 = 0 ∨ T / D % 2 = 1 := by omega
    rcases h2 with h2 | h2 <;> rw [h2] <;> omega
  simp only [hz]
  by_cases hD : D = 0
  · subst hD; simp; by_cases hT : T = 0 <;> simp [hT]
  · generalize T % D = m at *
    generalize T / D = q at *
    clear hz e1 e2
    repeat' split
    all_goals omega

theorem or_self (u : Nat) : u / 2 ^ 0 ||| u % 2 = u := by
  rw [or_bit _ _ (by omega)]
  simp only [Nat.pow_zero, Nat.div_one]
  split <;> omega

/-- The mantissa, and what it says with its shift. -/
theorem mant_ok (T D k M : Nat) (hD : 0 < D) (hq : 18014398509481984 ≤ T / D) (hu : unr T D < 72057594037927932) (hk : k = if 36028797018963966 ≤ unr T D then 1 else 0)
    (hM : M = ((unr T D / 2 ^ k ||| unr T D % 2) + 1 + (unr T D / 2 ^ k ||| unr T D % 2) / 4 % 2) / 4) :
    4503599627370496 ≤ M ∧ M < 9007199254740992 ∧ k * 4503599627370496 + M = (if T / D < 36028797018963968 then rq T (4 * D) else 4503599627370496 + rq T (8 * D)) := by
  have hue := unr_eq T D
  have r4 := round4 T D hD
  have r8 := round4 T (2 * D) (by omega)
  rw [show 4 * (2 * D) = 8 * D by omega, ← unr_half] at r8
  have ho := or_bit (unr T D / 2) (unr T D % 2) (by omega)
  rw [ho] at r8
  by_cases hc : 36028797018963966 ≤ unr T D
  · rw [if_pos hc] at hk
    subst hk
    rw [show (2 : Nat) ^ 1 = 2 from rfl, ho] at hM
    generalize unr T D = u at *
    split
    · rename_i hl
      have hu2 : u = 36028797018963966 ∨ u = 36028797018963967 := by
        have : u ≤ T / D + 1 := by rw [hue]; split <;> omega
        have : u ≠ 36028797018963968 := by
          intro h
          have h1 : T / D = 36028797018963967 := by omega
          rw [h1] at hue
          rw [if_neg (by omega)] at hue
          omega
        omega
      rcases hu2 with rfl | rfl
      · rw [← r4, hM]; decide
      · rw [← r4, hM]; decide
    · rename_i hl
      rw [← r8, ← hM]
      have hu3 : 36028797018963968 ≤ u := by have : T / D ≤ u := by rw [hue]; omega
                                             omega
      refine ⟨?_, ?_, by omega⟩
      · rw [hM]; split <;> omega
      · rw [hM]; split <;> omega
  · rw [if_neg hc] at hk
    subst hk
    rw [or_self] at hM
    generalize unr T D = u at *
    have hl : T / D < 36028797018963968 := by have : T / D ≤ u := by rw [hue]; omega
                                              omega
    have hl2 : T / D ≤ u := by rw [hue]; omega
    rw [if_pos hl, ← r4, hM]
    have hb : u / 4 % 2 < 2 := Nat.mod_lt _ (by decide)
    generalize u / 4 % 2 = b at hb ⊢
    clear hue r4 r8 ho hM hl
    refine ⟨by omega, by omega, by omega⟩

/-- A fraction, scaled and rounded so, is the nearest double's rung. -/
theorem near_of {a b T D u v K : Nat} (hb : 0 < b) (hD : 0 < D) (hq : 18014398509481984 ≤ T / D) (hq2 : T / D < 72057594037927936) (hr : a * 2 ^ v * (4 * D) = T * (b * 2 ^ u)) (hv : v ≤ u + 1074)
    (hK : K = (if T / D < 36028797018963968 then rq T (4 * D) else 4503599627370496 + rq T (8 * D))) : Near a b ((u + 1074 - v) * 2 ^ 52 + K) := by
  have bu : 0 < b * 2 ^ u := Nat.mul_pos hb (Nat.two_pow_pos _)
  have d4 : 0 < 4 * D := by omega
  have t0 : 18014398509481984 * D ≤ T := Nat.le_trans (Nat.mul_le_mul_right _ hq) (Nat.div_mul_le_self _ _)
  have lo : 2 ^ 52 * (b * 2 ^ u) * (4 * D) ≤ a * 2 ^ v * (4 * D) := by
    rw [hr]
    have := Nat.mul_le_mul_right (b * 2 ^ u) t0
    have e : 2 ^ 52 * (b * 2 ^ u) * (4 * D) = 18014398509481984 * D * (b * 2 ^ u) := by
      rw [show (2 : Nat) ^ 52 = 4503599627370496 from rfl]; generalize b * 2 ^ u = y; grind
    omega
  have lo' := Nat.le_of_mul_le_mul_right lo d4
  by_cases hc : T / D < 36028797018963968
  · rw [if_pos hc] at hK
    have t1 : T < 36028797018963968 * D := (Nat.div_lt_iff_lt_mul hD).1 hc
    have up : a * 2 ^ v * (4 * D) < 2 ^ 53 * (b * 2 ^ u) * (4 * D) := by
      rw [hr]
      have := Nat.mul_lt_mul_of_pos_right t1 bu
      have e : 2 ^ 53 * (b * 2 ^ u) * (4 * D) = 36028797018963968 * D * (b * 2 ^ u) := by
        rw [show (2 : Nat) ^ 53 = 9007199254740992 from rfl]; generalize b * 2 ^ u = y; grind
      omega
    refine ⟨u, v, lo', Nat.lt_of_mul_lt_mul_right up, hv, ?_⟩
    rw [hK, rq_ratio bu d4 hr]
  · rw [if_neg hc] at hK
    have t1 : T < 72057594037927936 * D := (Nat.div_lt_iff_lt_mul hD).1 hq2
    have t2 : 36028797018963968 * D ≤ T := Nat.le_trans (Nat.mul_le_mul_right _ (by omega)) (Nat.div_mul_le_self _ _)
    have eu : b * 2 ^ (u + 1) = b * 2 ^ u * 2 := by rw [Nat.pow_succ, Nat.mul_assoc]
    have hr8 : a * 2 ^ v * (8 * D) = T * (b * 2 ^ (u + 1)) := by
      have e8 : a * 2 ^ v * (8 * D) = a * 2 ^ v * (4 * D) * 2 := by generalize a * 2 ^ v = y; grind
      rw [e8, hr, eu, Nat.mul_assoc]
    refine ⟨u + 1, v, ?_, ?_, by omega, ?_⟩
    · refine Nat.le_of_mul_le_mul_right (c := 8 * D) ?_ (by omega)
      rw [hr8, eu]
      have := Nat.mul_le_mul_right (b * 2 ^ u * 2) t2
      have e : 2 ^ 52 * (b * 2 ^ u * 2) * (8 * D) = 36028797018963968 * D * (b * 2 ^ u * 2) := by
        rw [show (2 : Nat) ^ 52 = 4503599627370496 from rfl]; generalize b * 2 ^ u = y; grind
      omega
    · refine Nat.lt_of_mul_lt_mul_right (a := 8 * D) ?_
      rw [hr8, eu]
      have := Nat.mul_lt_mul_of_pos_right t1 (show 0 < b * 2 ^ u * 2 by omega)
      have e : 2 ^ 53 * (b * 2 ^ u * 2) * (8 * D) = 72057594037927936 * D * (b * 2 ^ u * 2) := by
        rw [show (2 : Nat) ^ 53 = 9007199254740992 from rfl]; generalize b * 2 ^ u = y; grind
      omega
    · rw [hK, rq_ratio (by rw [eu]; omega) (by omega) hr8, show u + 1 + 1074 - v = (u + 1074 - v) + 1 by omega]
      rw [show (2 : Nat) ^ 52 = 4503599627370496 from rfl]
      omega
end Fl
end Go.Proofs.YtmeimofnmpmaoaaGreatDoor
