/- uscale's answer is the product's whole part, with its last bit set where anything is left over. Conditions: the product comes near to no whole number without being one. -/
import Derived.Test.YtmeimofnmpmaoaaGreatDoorU
import Derived.Test.YtmeimofnmpmaoaaGreatDoorM
namespace Go.Proofs.YtmeimofnmpmaoaaGreatDoor
namespace Fl

/-- The product T, in units D, comes near to no whole number without being one. -/
def Gap (T D B : Nat) (exact : Prop) : Prop := ∀ N : Nat, (T = N * D ∧ exact) ∨ 2 * 18446744073709551616 * B < T - N * D ∨ 2 * 18446744073709551616 * B < N * D - T

theorem up {T D B Y k q P U : Nat} {pm A x : Nat} (hB : 0 < B) (hD : k * D = q * U * B) (hD1 : (k + 1) * D = (q + P) * U * B) (h1 : q * U < Y) (h2 : Y < (q + P) * U)
    (hT : T = x * A) (hY : Y = x * pm) (t1 : T ≤ Y * B) (t2 : Y * B < T + 18446744073709551616 * B) (hg : Gap T D B (pm * B = A)) : T / D = k ∧ T % D ≠ 0 := by
  have y1 : q * U * B < Y * B := Nat.mul_lt_mul_of_pos_right h1 hB
  have y2 : Y * B < (q + P) * U * B := Nat.mul_lt_mul_of_pos_right h2 hB
  have gt : k * D < T := by
    rcases hg k with ⟨e, ex⟩ | g | g
    · exfalso
      have : Y * B = T := by rw [hY, hT, Nat.mul_assoc, ex]
      omega
    · omega
    · exfalso; omega
  have lt : T < (k + 1) * D := by omega
  have e : T / D = k := Nat.div_eq_of_lt_le (Nat.le_of_lt gt) lt
  refine ⟨e, fun h => ?_⟩
  have := Nat.div_add_mod T D
  rw [e, h, Nat.mul_comm] at this
  omega

theorem usc_ok (x hi lo s A B pm : Nat) (hx : x < 18446744073709551616) (hlo : lo < 18446744073709551616) (hle : lo ≤ hi * 18446744073709551616) (hpm : pm = hi * 18446744073709551616 - lo)
    (p1 : A ≤ pm * B) (p2 : pm * B < A + B) (hB : 0 < B) (hx0 : 0 < x) (hH : 1 ≤ x * hi / 18446744073709551616)
    (hg : Gap (x * A) (340282366920938463463374607431768211456 * 2 ^ s * B) B (pm * B = A)) :
    usc x hi lo s = (x * A / (340282366920938463463374607431768211456 * 2 ^ s * B)) ||| (if x * A % (340282366920938463463374607431768211456 * 2 ^ s * B) = 0 then 0 else 1) := by
  obtain ⟨P, hP⟩ : ∃ P, P = 2 ^ s := ⟨_, rfl⟩
  have P0 : 0 < P := by rw [hP]; exact Nat.two_pow_pos _
  obtain ⟨Y, hY⟩ : ∃ Y, Y = x * pm := ⟨_, rfl⟩
  obtain ⟨H, hHe⟩ : ∃ H, H = x * hi / 18446744073709551616 := ⟨_, rfl⟩
  obtain ⟨M, hM⟩ : ∃ M, M = x * hi % 18446744073709551616 := ⟨_, rfl⟩
  obtain ⟨M2, hM2⟩ : ∃ M2, M2 = x * lo / 18446744073709551616 := ⟨_, rfl⟩
  obtain ⟨L2, hL2⟩ : ∃ L2, L2 = x * lo % 18446744073709551616 := ⟨_, rfl⟩
  have m1 : M < 18446744073709551616 := by rw [hM]; exact Nat.mod_lt _ (by decide)
  have m2 : L2 < 18446744073709551616 := by rw [hL2]; exact Nat.mod_lt _ (by decide)
  have xh : x * hi = H * 18446744073709551616 + M := by have := Nat.div_add_mod (x * hi) 18446744073709551616; omega
  have xl : x * lo = M2 * 18446744073709551616 + L2 := by have := Nat.div_add_mod (x * lo) 18446744073709551616; omega
  have m3 : M2 ≤ 18446744073709551614 := by
    have : x * lo ≤ 18446744073709551615 * 18446744073709551615 := Nat.mul_le_mul (by omega) (by omega)
    omega
  have yx : Y + x * lo = x * hi * 18446744073709551616 := by
    rw [hY, hpm, Nat.mul_sub, Nat.mul_assoc]
    exact Nat.sub_add_cancel (Nat.mul_le_mul_left _ hle)
  rw [xh, xl] at yx
  have t1 : x * A ≤ Y * B := by rw [hY, Nat.mul_assoc]; exact Nat.mul_le_mul_left _ p1
  have t2 : Y * B < x * A + 18446744073709551616 * B := by
    have : x * (pm * B) < x * (A + B) := Nat.mul_lt_mul_of_pos_left p2 hx0
    have e1 : x * (A + B) = x * A + x * B := Nat.mul_add _ _ _
    have e2 : x * B ≤ 18446744073709551616 * B := Nat.mul_le_mul_right _ (by omega)
    have e3 : Y * B = x * (pm * B) := by rw [hY, Nat.mul_assoc]
    omega
  rw [← hP] at hg ⊢
  have dk : ∀ k q, q = k * P → k * (340282366920938463463374607431768211456 * P * B) = q * 340282366920938463463374607431768211456 * B := fun k q h => by rw [h]; generalize (340282366920938463463374607431768211456 : Nat) = U; grind
  have fin : ∀ k q, q = k * P → q * 340282366920938463463374607431768211456 < Y → Y < (q + P) * 340282366920938463463374607431768211456 → x * A / (340282366920938463463374607431768211456 * P * B) = k ∧ x * A % (340282366920938463463374607431768211456 * P * B) ≠ 0 := fun k q hq h1 h2 =>
    up hB (dk k q hq) (dk (k + 1) (q + P) (by rw [hq]; grind)) h1 h2 rfl hY t1 t2 hg
  unfold usc
  rw [← hHe, ← hM, ← hM2, ← hP]
  obtain ⟨q, hq⟩ : ∃ q, q = H / P * P := ⟨_, rfl⟩
  have hr := Nat.div_add_mod H P
  have hr2 := Nat.mod_lt H P0
  rw [Nat.mul_comm, ← hq] at hr
  rw [← hq]
  by_cases hne : q = H
  · rw [if_neg (by simpa using hne)]
    by_cases hlt : M < M2
    · rw [if_pos hlt]
      obtain ⟨j, hj⟩ : ∃ j, H / P = j + 1 := by
        refine ⟨H / P - 1, ?_⟩
        have : 0 < H / P := by
          rcases Nat.eq_zero_or_pos (H / P) with h | h
          · rw [h] at hq; omega
          · exact h
        omega
      have hHj : H = j * P + P := by rw [← hne, hq, hj]; grind
      obtain ⟨jp, hjp⟩ : ∃ jp, jp = j * P := ⟨_, rfl⟩
      have hdiv : (H - 1) / P = j := by
        rw [hHj, ← hjp]
        exact Nat.div_eq_of_lt_le (by rw [← hjp]; omega) (by rw [Nat.add_mul, ← hjp]; omega)
      rw [← hjp] at hHj
      have f := fin j jp hjp (by omega) (by omega)
      rw [f.1, if_neg f.2, hdiv, if_pos (by simp; omega)]
    · rw [if_neg hlt]
      by_cases hv : 1 < M - M2
      · have f := fin (H / P) q hq (by omega) (by omega)
        rw [f.1, if_neg f.2, if_pos (by simpa using hv)]
      · rw [if_neg (by simpa using hv)]
        have hk := dk (H / P) q hq
        have key : x * A = H / P * (340282366920938463463374607431768211456 * P * B) := by
          have y1 : Y ≤ q * 340282366920938463463374607431768211456 + 18446744073709551616 := by omega
          have y2 : q * 340282366920938463463374607431768211456 ≤ Y + 18446744073709551616 := by omega
          have z1 : Y * B ≤ q * 340282366920938463463374607431768211456 * B + 18446744073709551616 * B := by
            have := Nat.mul_le_mul_right B y1
            rwa [Nat.add_mul] at this
          have z2 : q * 340282366920938463463374607431768211456 * B ≤ Y * B + 18446744073709551616 * B := by
            have := Nat.mul_le_mul_right B y2
            rwa [Nat.add_mul] at this
          rcases hg (H / P) with ⟨e, _⟩ | g | g
          · exact e
          · exfalso; rw [hk] at g; omega
          · exfalso; rw [hk] at g; omega
        have d0 : 0 < 340282366920938463463374607431768211456 * P * B := Nat.mul_pos (Nat.mul_pos (by decide) P0) hB
        rw [key, Nat.mul_div_cancel _ d0, Nat.mul_mod_left, if_pos rfl]
  · rw [if_pos hne]
    have f := fin (H / P) q hq (by omega) (by omega)
    rw [f.1, if_neg f.2]
end Fl
end Go.Proofs.YtmeimofnmpmaoaaGreatDoor
