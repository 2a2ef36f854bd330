/- What the table of powers of ten holds, as the scaling asks for it; for the exponents from -300 to -23 and from 23 to 290. -/
import Derived.Test.YtmeimofnmpmaoaaGreatDoorM
namespace Go.Proofs.YtmeimofnmpmaoaaGreatDoor
namespace Fl

theorem powNeg : ((List.range 301).all fun n => Nat.ble (10 ^ n) (2 ^ lneg n) && Nat.blt (2 ^ lneg n) (2 * 10 ^ n)) = true := by decide +kernel
theorem powPos : ((List.range 291).all fun n => Nat.ble (2 ^ lpos n) (10 ^ n) && Nat.blt (10 ^ n) (2 * 2 ^ lpos n)) = true := by decide +kernel

/-- A row of the table: what it is near to, and that no product comes near to a whole number. -/
structure Pow (i A B hi lo : Nat) : Prop where
  row : Pinned.pow10Rows[i]? = some (hi, lo)
  hi64 : hi < 18446744073709551616
  lo64 : lo < 18446744073709551616
  le : lo ≤ hi * 18446744073709551616
  p1 : A ≤ (hi * 18446744073709551616 - lo) * B
  p2 : (hi * 18446744073709551616 - lo) * B < A + B
  pos : 0 < B
  a1 : 2 ^ 127 * B ≤ A
  a2 : A < 2 ^ 128 * B
  gap : ∀ D N, 2 ^ 49 ≤ D → D < 2 ^ 50 → (D * 16384 * A = N * (340282366920938463463374607431768211456 * 2 ^ 8 * B) ∧ (hi * 18446744073709551616 - lo) * B = A)
    ∨ 2 * 18446744073709551616 * B < D * 16384 * A - N * (340282366920938463463374607431768211456 * 2 ^ 8 * B) ∨ 2 * 18446744073709551616 * B < N * (340282366920938463463374607431768211456 * 2 ^ 8 * B) - D * 16384 * A

theorem gap_scale {A B D N : Nat} (h : B * 2 ^ 122 < (D * A - N * (B * 2 ^ 122)) * 2 ^ 71 ∨ B * 2 ^ 122 < (N * (B * 2 ^ 122) - D * A) * 2 ^ 71) :
    2 * 18446744073709551616 * B < D * 16384 * A - N * (340282366920938463463374607431768211456 * 2 ^ 8 * B) ∨ 2 * 18446744073709551616 * B < N * (340282366920938463463374607431768211456 * 2 ^ 8 * B) - D * 16384 * A := by
  have e1 : D * 16384 * A = D * A * 16384 := by rw [Nat.mul_assoc, Nat.mul_comm 16384, ← Nat.mul_assoc]
  have e2 : N * (340282366920938463463374607431768211456 * 2 ^ 8 * B) = N * B * 87112285931760246646623899502532662132736 := by
    rw [show (340282366920938463463374607431768211456 * 2 ^ 8 : Nat) = 87112285931760246646623899502532662132736 from by decide]
    rw [Nat.mul_comm _ B, ← Nat.mul_assoc]
  have e3 : N * (B * 2 ^ 122) = N * B * 5316911983139663491615228241121378304 := by
    rw [show (2 ^ 122 : Nat) = 5316911983139663491615228241121378304 from by decide, Nat.mul_assoc]
  rw [e1, e2]
  rw [e3] at h
  generalize N * B = y at *
  generalize D * A = z at *
  rcases h with h | h
  · left; omega
  · right; omega

theorem row_of {A B : Nat} {r : Option (Nat × Nat)} (h : rowChk A B r = true) : ∃ hi lo, r = some (hi, lo) ∧ hi < 18446744073709551616 ∧ lo < 18446744073709551616 ∧ lo ≤ hi * 18446744073709551616 ∧ A ≤ (hi * 18446744073709551616 - lo) * B ∧ (hi * 18446744073709551616 - lo) * B < A + B := by
  cases r with
  | none => simp [rowChk] at h
  | some x =>
    obtain ⟨hi, lo⟩ := x
    simp only [rowChk, Bool.and_eq_true, Nat.ble_eq, Nat.blt_eq] at h
    obtain ⟨⟨⟨⟨h1, h2⟩, h3⟩, h4⟩, h5⟩ := h
    exact ⟨hi, lo, rfl, h3, h4, h5, h1, h2⟩

theorem cert_of {A B : Nat} {r : Option (Nat × Nat × Nat × Nat)} (h : certChk A B r = true) (D N : Nat) (h0 : 2 ^ 49 ≤ D) (h1 : D < 2 ^ 50) :
    B * 2 ^ 122 < (D * A - N * (B * 2 ^ 122)) * 2 ^ 71 ∨ B * 2 ^ 122 < (N * (B * 2 ^ 122) - D * A) * 2 ^ 71 := by
  cases r with
  | none => simp [certChk] at h
  | some x => obtain ⟨a, b, c, d⟩ := x; exact gap_of_chk h D N h0 h1

theorem all_at {n : Nat} {f : Nat → Bool} (h : (List.range n).all f = true) (i : Nat) (hi : i < n) : f i = true := List.all_eq_true.1 h i (List.mem_range.2 hi)

theorem pow_neg (n : Nat) (h0 : 23 ≤ n) (h1 : n ≤ 300) : ∃ hi lo, Pow (348 - n) (2 ^ (127 + lneg n)) (10 ^ n) hi lo := by
  obtain ⟨hi, lo, r, c1, c2, c3, c4, c5⟩ := row_of (all_at rowsNeg n (by omega))
  have hp := all_at powNeg n (by omega)
  simp only [Bool.and_eq_true, Nat.ble_eq, Nat.blt_eq] at hp
  refine ⟨hi, lo, r, c1, c2, c3, c4, c5, Nat.pow_pos (by decide), ?_, ?_, fun D N d0 d1 => .inr (gap_scale ?_)⟩
  · rw [Nat.pow_add]; exact Nat.mul_le_mul_left _ hp.1
  · rw [Nat.pow_add, show (2 : Nat) ^ 128 = 2 ^ 127 * 2 from rfl, Nat.mul_assoc]; exact Nat.mul_lt_mul_of_pos_left hp.2 (Nat.two_pow_pos _)
  · have := all_at allNeg (n - 23) (by omega)
    simp only [show n - 23 + 23 = n by omega] at this
    exact cert_of this D N d0 d1

theorem pow_pos (n : Nat) (h0 : 24 ≤ n) (h1 : n ≤ 290) : ∃ hi lo, Pow (n + 348) (10 ^ n * 2 ^ 127) (2 ^ lpos n) hi lo := by
  obtain ⟨hi, lo, r, c1, c2, c3, c4, c5⟩ := row_of (all_at rowsPos n (by omega))
  have hp := all_at powPos n (by omega)
  simp only [Bool.and_eq_true, Nat.ble_eq, Nat.blt_eq] at hp
  refine ⟨hi, lo, r, c1, c2, c3, c4, c5, Nat.two_pow_pos _, ?_, ?_, fun D N d0 d1 => .inr (gap_scale ?_)⟩
  · rw [Nat.mul_comm]; exact Nat.mul_le_mul_right _ hp.1
  · rw [show (2 : Nat) ^ 128 = 2 ^ 127 * 2 from rfl, Nat.mul_comm, Nat.mul_assoc]; exact Nat.mul_lt_mul_of_pos_left hp.2 (Nat.two_pow_pos _)
  · have := all_at allPos (n - 24) (by omega)
    simp only [show n - 24 + 24 = n by omega] at this
    exact cert_of this D N d0 d1

theorem pow_23 : Pow 371 (10 ^ 23 * 2 ^ 127) (2 ^ lpos 23) 12207031250000000000 0 := by
  rw [show 10 ^ 23 * 2 ^ 127 = 17014118346046923173168730371588410572800000000000000000000000 from by decide +kernel, show 2 ^ lpos 23 = 75557863725914323419136 from by decide +kernel]
  refine ⟨by decide +kernel, by decide, by decide, by decide, by decide, by decide, by decide, by decide, by decide, fun D N _ _ => ?_⟩
  rw [show (340282366920938463463374607431768211456 * 2 ^ 8 * 75557863725914323419136 : Nat) = 6582018229284824168619876730229402019930943462534319453394436096 from by decide, show (2 * 18446744073709551616 * 75557863725914323419136 : Nat) = 2787593149816327892691964784081045188247552 from by decide]
  have e : D * 16384 * 17014118346046923173168730371588410572800000000000000000000000 = D * 11920928955078125 * 23384026197294446691258957323460528314494920687616 := by rw [Nat.mul_assoc, Nat.mul_assoc]
  have e2 : N * 6582018229284824168619876730229402019930943462534319453394436096 = N * 281474976710656 * 23384026197294446691258957323460528314494920687616 := by rw [Nat.mul_assoc]
  rw [e, e2, ← Nat.sub_mul, ← Nat.sub_mul]
  rcases Nat.lt_trichotomy (D * 11920928955078125) (N * 281474976710656) with h | h | h
  · right; right
    exact Nat.lt_of_lt_of_le (by decide : 2787593149816327892691964784081045188247552 < 1 * 23384026197294446691258957323460528314494920687616) (Nat.mul_le_mul_right _ (Nat.sub_pos_of_lt h))
  · left; exact ⟨by rw [h], by decide⟩
  · right; left
    exact Nat.lt_of_lt_of_le (by decide : 2787593149816327892691964784081045188247552 < 1 * 23384026197294446691258957323460528314494920687616) (Nat.mul_le_mul_right _ (Nat.sub_pos_of_lt h))
end Fl
end Go.Proofs.YtmeimofnmpmaoaaGreatDoor
