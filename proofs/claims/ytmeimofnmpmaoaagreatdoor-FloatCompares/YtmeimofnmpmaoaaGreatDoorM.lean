/- Which double is nearest to a fraction, in plain numbers: it is one alone, and fractions that are apart have doubles that are. -/
import Derived.Test.YtmeimofnmpmaoaaGreatDoorD
namespace Go.Proofs.YtmeimofnmpmaoaaGreatDoor
namespace Fl

/-- A fraction as a whole number: the nearest, of two the even one. -/
def rq (a b : Nat) : Nat := a / b + (if b < 2 * (a % b) ∨ (2 * (a % b) = b ∧ a / b % 2 = 1) then 1 else 0)

theorem rq_scale (a b c : Nat) (hc : 0 < c) : rq (a * c) (b * c) = rq a b := by
  unfold rq
  rw [Nat.mul_div_mul_right _ _ hc, Nat.mul_mod_mul_right]
  have e : 2 * (a % b * c) = 2 * (a % b) * c := by rw [Nat.mul_assoc]
  have i : (b * c < 2 * (a % b * c) ∨ (2 * (a % b * c) = b * c ∧ a / b % 2 = 1)) ↔ (b < 2 * (a % b) ∨ (2 * (a % b) = b ∧ a / b % 2 = 1)) := by
    rw [e, Nat.mul_lt_mul_right hc]
    constructor
    · rintro (h | ⟨h, g⟩)
      · exact .inl h
      · exact .inr ⟨Nat.eq_of_mul_eq_mul_right hc h, g⟩
    · rintro (h | ⟨h, g⟩)
      · exact .inl h
      · exact .inr ⟨by rw [h], g⟩
  simp only [i]

theorem rq_le (a b : Nat) : 2 * (b * rq a b) ≤ 2 * a + b := by
  unfold rq
  have h := Nat.div_add_mod a b
  rw [Nat.mul_add]
  split
  · rename_i h1
    rw [Nat.mul_one]
    rcases h1 with h1 | ⟨h1, _⟩ <;> omega
  · omega

theorem rq_ge (a b : Nat) (hb : 0 < b) : 2 * a ≤ 2 * (b * rq a b) + b := by
  unfold rq
  have h := Nat.div_add_mod a b
  have hm := Nat.mod_lt a hb
  rw [Nat.mul_add]
  split
  · rw [Nat.mul_one]; omega
  · rename_i h1
    have : 2 * (a % b) ≤ b := by
      rcases Nat.lt_or_ge b (2 * (a % b)) with h2 | h2
      · exact absurd (.inl h2) h1
      · exact h2
    omega

/-- R is the rung of the double nearest to a / b, a number among the normal ones. -/
def Near (a b R : Nat) : Prop := ∃ u v : Nat, 2 ^ 52 * (b * 2 ^ u) ≤ a * 2 ^ v ∧ a * 2 ^ v < 2 ^ 53 * (b * 2 ^ u) ∧ v ≤ u + 1074 ∧ R = (u + 1074 - v) * 2 ^ 52 + rq (a * 2 ^ v) (b * 2 ^ u)

theorem pow_cross {a b u v u' v' : Nat} (h : a * 2 ^ v < 2 ^ 53 * (b * 2 ^ u)) (h' : 2 ^ 52 * (b * 2 ^ u') ≤ a * 2 ^ v') : u' + v ≤ u + v' := by
  have e1 : a * 2 ^ v * 2 ^ v' < 2 ^ 53 * (b * 2 ^ u) * 2 ^ v' := Nat.mul_lt_mul_of_pos_right h (Nat.two_pow_pos _)
  have e2 : 2 ^ 52 * (b * 2 ^ u') * 2 ^ v ≤ a * 2 ^ v' * 2 ^ v := Nat.mul_le_mul_right _ h'
  have e3 : a * 2 ^ v' * 2 ^ v = a * 2 ^ v * 2 ^ v' := by grind
  have e4 : 2 ^ 52 * (b * 2 ^ u') * 2 ^ v = (2 ^ 52 * b) * 2 ^ (u' + v) := by rw [Nat.pow_add]; grind
  have e5 : 2 ^ 53 * (b * 2 ^ u) * 2 ^ v' = (2 ^ 52 * b) * 2 ^ (u + v' + 1) := by rw [Nat.pow_succ, Nat.pow_add]; grind
  have e6 : (2 ^ 52 * b) * 2 ^ (u' + v) < (2 ^ 52 * b) * 2 ^ (u + v' + 1) := by omega
  have e7 := Nat.lt_of_mul_lt_mul_left e6
  have e8 := (Nat.pow_lt_pow_iff_right (by decide : 1 < 2)).1 e7
  omega

theorem near_unique {a b R R' : Nat} (h : Near a b R) (h' : Near a b R') : R = R' := by
  obtain ⟨u, v, h1, h2, h3, rfl⟩ := h
  obtain ⟨u', v', g1, g2, g3, rfl⟩ := h'
  have k1 := pow_cross h2 g1
  have k2 := pow_cross g2 h1
  have e : u + v' = u' + v := by omega
  have q1 : rq (a * 2 ^ v) (b * 2 ^ u) = rq (a * 2 ^ v * 2 ^ v') (b * 2 ^ u * 2 ^ v') := (rq_scale _ _ _ (Nat.two_pow_pos _)).symm
  have q2 : rq (a * 2 ^ v') (b * 2 ^ u') = rq (a * 2 ^ v' * 2 ^ v) (b * 2 ^ u' * 2 ^ v) := (rq_scale _ _ _ (Nat.two_pow_pos _)).symm
  rw [q1, q2, show a * 2 ^ v' * 2 ^ v = a * 2 ^ v * 2 ^ v' by grind]
  have q3 : b * 2 ^ u * 2 ^ v' = b * 2 ^ u' * 2 ^ v := by rw [Nat.mul_assoc, Nat.mul_assoc, ← Nat.pow_add, ← Nat.pow_add, e]
  rw [q3, show u + 1074 - v = u' + 1074 - v' by omega]

theorem near_scale {a b R : Nat} (c : Nat) (hc : 0 < c) (h : Near a b R) : Near (a * c) (b * c) R := by
  obtain ⟨u, v, h1, h2, h3, rfl⟩ := h
  refine ⟨u, v, ?_, ?_, h3, ?_⟩
  · have := Nat.mul_le_mul_right c h1
    have e1 : 2 ^ 52 * (b * c * 2 ^ u) = 2 ^ 52 * (b * 2 ^ u) * c := by grind
    have e2 : a * c * 2 ^ v = a * 2 ^ v * c := by grind
    omega
  · have := Nat.mul_lt_mul_of_pos_right h2 hc
    have e1 : 2 ^ 53 * (b * c * 2 ^ u) = 2 ^ 53 * (b * 2 ^ u) * c := by grind
    have e2 : a * c * 2 ^ v = a * 2 ^ v * c := by grind
    omega
  · rw [show a * c * 2 ^ v = a * 2 ^ v * c by grind, show b * c * 2 ^ u = b * 2 ^ u * c by grind, rq_scale _ _ _ hc]

/-- Of two fractions of one denominator that are apart by more than their 2^50th part the greater one has the greater double. -/
theorem near_lt {a a' b R R' : Nat} (hb : 0 < b) (h : Near a b R) (h' : Near a' b R') (hg : a * (2 ^ 50 + 1) ≤ a' * 2 ^ 50) : R < R' := by
  obtain ⟨u, v, h1, h2, h3, rfl⟩ := h
  obtain ⟨u', v', g1, g2, g3, rfl⟩ := h'
  have haa : a ≤ a' := by
    rcases Nat.lt_or_ge a' a with h | h
    · have : a' * (2 ^ 50 + 1) ≤ a * (2 ^ 50 + 1) := Nat.mul_le_mul_right _ (Nat.le_of_lt h)
      omega
    · exact h
  have k1 : u + v' ≤ u' + v := pow_cross g2 (Nat.le_trans h1 (Nat.mul_le_mul_right _ haa))
  obtain ⟨A, hA⟩ : ∃ A, A = a * 2 ^ v * 2 ^ v' := ⟨_, rfl⟩
  obtain ⟨A', hA'⟩ : ∃ A', A' = a' * 2 ^ v' * 2 ^ v := ⟨_, rfl⟩
  obtain ⟨B, hB⟩ : ∃ B, B = b * 2 ^ u * 2 ^ v' := ⟨_, rfl⟩
  obtain ⟨B', hB'⟩ : ∃ B', B' = b * 2 ^ u' * 2 ^ v := ⟨_, rfl⟩
  have q1 : rq (a * 2 ^ v) (b * 2 ^ u) = rq A B := by rw [hA, hB, rq_scale _ _ _ (Nat.two_pow_pos _)]
  have q2 : rq (a' * 2 ^ v') (b * 2 ^ u') = rq A' B' := by rw [hA', hB', rq_scale _ _ _ (Nat.two_pow_pos _)]
  rw [q1, q2]
  have B0 : 0 < B := by rw [hB]; exact Nat.mul_pos (Nat.mul_pos hb (Nat.two_pow_pos _)) (Nat.two_pow_pos _)
  have B0' : 0 < B' := by rw [hB']; exact Nat.mul_pos (Nat.mul_pos hb (Nat.two_pow_pos _)) (Nat.two_pow_pos _)
  have gA : A * (2 ^ 50 + 1) ≤ A' * 2 ^ 50 := by
    have := Nat.mul_le_mul_right (2 ^ v * 2 ^ v') hg
    have e1 : a * (2 ^ 50 + 1) * (2 ^ v * 2 ^ v') = A * (2 ^ 50 + 1) := by
      rw [hA]; generalize 2 ^ v = x; generalize 2 ^ v' = y; generalize (2 ^ 50 + 1 : Nat) = z; grind
    have e2 : a' * 2 ^ 50 * (2 ^ v * 2 ^ v') = A' * 2 ^ 50 := by
      rw [hA']; generalize 2 ^ v = x; generalize 2 ^ v' = y; generalize (2 ^ 50 : Nat) = z; grind
    rw [e1, e2] at this; exact this
  have l1 : 2 ^ 52 * B ≤ A := by
    have := Nat.mul_le_mul_right (2 ^ v') h1
    rw [hA, hB]; rw [Nat.mul_assoc] at this; exact this
  have l2 : A < 2 ^ 53 * B := by
    have := Nat.mul_lt_mul_of_pos_right h2 (Nat.two_pow_pos v')
    rw [hA, hB]; rw [Nat.mul_assoc (2 ^ 53)] at this; exact this
  have l3 : 2 ^ 52 * B' ≤ A' := by
    have := Nat.mul_le_mul_right (2 ^ v) g1
    rw [hA', hB']; rw [Nat.mul_assoc] at this; exact this
  have r1 := rq_le A B
  have r2 := rq_ge A' B' B0'
  rcases Nat.lt_or_ge (u + v') (u' + v) with hlt | hge
  · have hr : rq A B ≤ 2 ^ 53 := by
      rcases Nat.lt_or_ge (2 ^ 53) (rq A B) with h | h
      · have : B * (2 ^ 53 + 1) ≤ B * rq A B := Nat.mul_le_mul_left _ h
        omega
      · exact h
    have hr' : 2 ^ 52 ≤ rq A' B' := by
      rcases Nat.lt_or_ge (rq A' B') (2 ^ 52) with h | h
      · have : B' * rq A' B' ≤ B' * (2 ^ 52 - 1) := Nat.mul_le_mul_left _ (by omega)
        omega
      · exact h
    rcases Nat.lt_or_ge (u + v' + 1) (u' + v) with h4 | h4
    · have : (u + 1074 - v) + 2 ≤ u' + 1074 - v' := by omega
      have := Nat.mul_le_mul_right (2 ^ 52) this
      omega
    · have e : u' + v = u + v' + 1 := by omega
      have eK : u' + 1074 - v' = (u + 1074 - v) + 1 := by omega
      have eB : B' = 2 * B := by
        rw [hB', hB, Nat.mul_assoc, Nat.mul_assoc, ← Nat.pow_add, ← Nat.pow_add, e, Nat.pow_succ]; grind
      rw [eK]
      rcases Nat.lt_or_ge (rq A B) (2 ^ 53) with h5 | h5
      · omega
      · rcases Nat.lt_or_ge (2 ^ 52) (rq A' B') with h6 | h6
        · omega
        · exfalso
          have e1 : rq A B = 2 ^ 53 := by omega
          have e2 : rq A' B' = 2 ^ 52 := by omega
          rw [e1] at r1
          rw [e2, eB] at r2
          omega
  · have e : u' + v = u + v' := by omega
    have eK : u' + 1074 - v' = u + 1074 - v := by omega
    have eB : B' = B := by rw [hB', hB, Nat.mul_assoc, Nat.mul_assoc, ← Nat.pow_add, ← Nat.pow_add, e]
    rw [eK, eB]
    rw [eB] at r2
    have : B * rq A B < B * rq A' B := by omega
    have := Nat.lt_of_mul_lt_mul_left this
    omega

end Fl
end Go.Proofs.YtmeimofnmpmaoaaGreatDoor
