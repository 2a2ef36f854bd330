/- No number of at most fifty binary digits times a power of ten comes near to a whole number without being one; for the exponents from -300 to -23 and from 23 to 290. -/
import Derived.Test.YtmeimofnmpmaoaaGreatDoorC
namespace Go.Proofs.YtmeimofnmpmaoaaGreatDoor
namespace Fl

theorem farey {a b c d N D : Nat} (h : b * c = a * d + 1) (hD : D < b + d) : N * b ≤ a * D ∨ c * D ≤ N * d := by
  rcases Nat.lt_or_ge (a * D) (N * b) with h1 | h1
  · rcases Nat.lt_or_ge (N * d) (c * D) with h2 | h2
    · exfalso
      obtain ⟨x, hx⟩ := Nat.exists_eq_add_of_lt h1
      obtain ⟨y, hy⟩ := Nat.exists_eq_add_of_lt h2
      have e1 : b * (c * D) = (a * d + 1) * D := by rw [← Nat.mul_assoc, h]
      rw [hy] at e1
      have e2 : b * (N * d + y + 1) = (N * b) * d + b * y + b := by grind
      have e3 : (N * b) * d = (a * D + x + 1) * d := by rw [hx]
      have e4 : ((a * D + x + 1) * d) = a * d * D + x * d + d := by grind
      have e5 : (a * d + 1) * D = a * d * D + D := by grind
      omega
    · exact .inr h2
  · exact .inl h1

def chk (A B a b c d L M K : Nat) : Bool :=
  Nat.beq (b * c) (a * d + 1) && Nat.ble M (b + d) && Nat.blt (B * b) (L * (A * b - a * B) * 2 ^ K) && Nat.blt (B * d) (L * (c * B - A * d) * 2 ^ K)

theorem gap_of_chk {A B a b c d L M K : Nat} (h : chk A B a b c d L M K = true) (D N : Nat) (h0 : L ≤ D) (h1 : D < M) :
    B < (D * A - N * B) * 2 ^ K ∨ B < (N * B - D * A) * 2 ^ K := by
  simp only [chk, Bool.and_eq_true, Nat.beq_eq, Nat.ble_eq, Nat.blt_eq] at h
  obtain ⟨⟨⟨hu, hM⟩, hl⟩, hr⟩ := h
  generalize 2 ^ K = k at *
  rcases farey (N := N) hu (Nat.lt_of_lt_of_le h1 hM) with g | g
  · left
    refine Nat.lt_of_mul_lt_mul_right (a := b) ?_
    have e1 : D * (A * b - a * B) ≤ (D * A - N * B) * b := by
      rw [Nat.mul_sub, Nat.sub_mul]
      have q1 : D * (A * b) = D * A * b := by grind
      have q2 : N * B * b ≤ D * (a * B) := by
        have : N * b * B ≤ a * D * B := Nat.mul_le_mul_right _ g
        have r1 : N * B * b = N * b * B := by grind
        have r2 : D * (a * B) = a * D * B := by grind
        omega
      omega
    have e2 : L * (A * b - a * B) * k ≤ (D * A - N * B) * b * k := Nat.mul_le_mul_right _ (Nat.le_trans (Nat.mul_le_mul_right _ h0) e1)
    have e3 : (D * A - N * B) * b * k = (D * A - N * B) * k * b := by grind
    omega
  · right
    refine Nat.lt_of_mul_lt_mul_right (a := d) ?_
    have e1 : D * (c * B - A * d) ≤ (N * B - D * A) * d := by
      rw [Nat.mul_sub, Nat.sub_mul]
      have q1 : D * (A * d) = D * A * d := by grind
      have q2 : D * (c * B) ≤ N * B * d := by
        have : c * D * B ≤ N * d * B := Nat.mul_le_mul_right _ g
        have r1 : N * B * d = N * d * B := by grind
        have r2 : D * (c * B) = c * D * B := by grind
        omega
      omega
    have e2 : L * (c * B - A * d) * k ≤ (N * B - D * A) * d * k := Nat.mul_le_mul_right _ (Nat.le_trans (Nat.mul_le_mul_right _ h0) e1)
    have e3 : (N * B - D * A) * d * k = (N * B - D * A) * k * d := by grind
    omega

/-- lp of a power below 0: its opposite. -/
def lneg (n : Nat) : Nat := (n * 108853 + 32767) / 32768
def lpos (n : Nat) : Nat := n * 108853 / 32768

def rowChk (A B : Nat) (r : Option (Nat × Nat)) : Bool := match r with
  | some (h, l) => Nat.ble A ((h * 2 ^ 64 - l) * B) && Nat.blt ((h * 2 ^ 64 - l) * B) (A + B) && Nat.blt h (2 ^ 64) && Nat.blt l (2 ^ 64) && Nat.ble l (h * 2 ^ 64)
  | none => false
def certChk (A B : Nat) (r : Option (Nat × Nat × Nat × Nat)) : Bool := match r with
  | some (a, b, c, d) => chk A (B * 2 ^ 122) a b c d (2 ^ 49) (2 ^ 50) 71
  | none => false

theorem allNeg : ((List.range 278).all fun i => certChk (2 ^ (127 + lneg (i + 23))) (10 ^ (i + 23)) certNeg[i]?) = true := by decide +kernel
theorem allPos : ((List.range 267).all fun i => certChk (10 ^ (i + 24) * 2 ^ 127) (2 ^ lpos (i + 24)) certPos[i]?) = true := by decide +kernel
theorem rowsNeg : ((List.range 349).all fun n => rowChk (2 ^ (127 + lneg n)) (10 ^ n) Pinned.pow10Rows[348 - n]?) = true := by decide +kernel
theorem rowsPos : ((List.range 348).all fun n => rowChk (10 ^ n * 2 ^ 127) (2 ^ lpos n) Pinned.pow10Rows[n + 348]?) = true := by decide +kernel

end Fl
end Go.Proofs.YtmeimofnmpmaoaaGreatDoor
