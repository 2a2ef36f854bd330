/- The contract of join, and of Take. Conditions: what the bytes are. -/
import Derived.Test.YtkojbpifcflgfaaD
namespace Go.Proofs.Ytkojbpifcflgfaa
open Go.RowKit
def vl : List Int → Nat
  | [] => 0
  | z :: r => (z % 128).toNat + 128 * vl r
theorem vl_take_succ : ∀ (zs : List Int) (k : Nat), k < zs.length → vl (zs.take (k + 1)) = vl (zs.take k) + (zs.getD k 0 % 128).toNat * 128 ^ k
  | [], k, h => by simp at h
  | z :: r, 0, _ => by simp [vl]
  | z :: r, k + 1, h => by
    have ih := vl_take_succ r k (by simpa using h)
    simp only [List.take_succ_cons, vl, List.getD_cons_succ]
    rw [ih, Nat.pow_succ, Nat.mul_add]
    have e : 128 * ((r.getD k 0 % 128).toNat * 128 ^ k) = (r.getD k 0 % 128).toNat * (128 ^ k * 128) := by
      rw [Nat.mul_comm 128, Nat.mul_assoc]
    omega
theorem vl_take_lt : ∀ (zs : List Int) (k : Nat), vl (zs.take k) < 128 ^ k
  | zs, 0 => by simp [vl]
  | [], k + 1 => by simp [vl]; exact Nat.pow_pos (by decide)
  | z :: r, k + 1 => by
    have ih := vl_take_lt r k
    simp only [List.take_succ_cons, vl]
    rw [Nat.pow_succ]
    omega
theorem vl_take_le : ∀ (zs : List Int) (k : Nat), vl (zs.take k) ≤ vl zs
  | zs, 0 => by simp [vl]
  | [], k + 1 => by simp
  | z :: r, k + 1 => by
    have ih := vl_take_le r k
    simp only [List.take_succ_cons, vl]
    omega
theorem pow128 (k : Nat) : 128 ^ k = 2 ^ (7 * k) := by rw [Nat.pow_mul]
theorem join_step (zs : List Int) (k : Nat) (hk : k < zs.length) (hv : vl zs < 18446744073709551616) :
    bits BinOp.or IntKind.u64 (vl (List.take k zs) : Int) (IntKind.u64.wrap (zs.getD k 0 % 128 * 2 ^ (7 * k))) = (vl (List.take (k + 1) zs) : Int) := by
  have h1 := vl_take_succ zs k hk
  have h2 := vl_take_lt zs k
  have h3 := vl_take_le zs (k + 1)
  obtain ⟨x, hx⟩ : ∃ x : Nat, zs.getD k 0 % 128 = (x : Int) := ⟨(zs.getD k 0 % 128).toNat, by omega⟩
  rw [hx] at h1
  simp only [Int.toNat_natCast] at h1
  rw [pow128] at h1 h2
  have e0 : (x : Int) * 2 ^ (7 * k) = ((x * 2 ^ (7 * k) : Nat) : Int) := by
    rw [Int.natCast_mul, Int.natCast_pow]; rfl
  have e1 : IntKind.u64.wrap (zs.getD k 0 % 128 * 2 ^ (7 * k)) = ((x * 2 ^ (7 * k) : Nat) : Int) := by
    rw [hx, e0, IntKind.wrap_u64]
    have : x * 2 ^ (7 * k) < 18446744073709551616 := by omega
    omega
  rw [e1, bits_or_u64_nat _ _ (by omega) (by omega), h1]
  have e2 : vl (List.take k zs) ||| x * 2 ^ (7 * k) = vl (List.take k zs) + x * 2 ^ (7 * k) := by
    have := Nat.shiftLeft_add_eq_or_of_lt h2 x
    rw [Nat.shiftLeft_eq] at this
    rw [Nat.or_comm, ← this, Nat.add_comm]
  rw [e2]
theorem vl_bs : ∀ (k u : Nat), u < 128 ^ (k + 1) → vl (bs u) = u
  | 0, u, h => by
    have h' : u < 128 := by simpa using h
    rw [bs_small h']; simp [vl]; omega
  | k + 1, u, h => by
    by_cases hx : u < 128
    · rw [bs_small hx]; simp [vl]; omega
    · have ih := vl_bs k (u / 128) (by rw [Nat.pow_succ] at h; exact Nat.div_lt_of_lt_mul (by rw [Nat.mul_comm]; exact h))
      rw [bs_big (by omega)]; simp only [vl]; rw [ih]; omega
theorem vl_bs64 {u : Nat} (h : u < 18446744073709551616) : vl (bs u) = u := vl_bs 9 u (Nat.lt_of_lt_of_le h (by decide))

theorem bs_cons_last (z : Int) (u : Nat) : (z :: bs u).getD ((z :: bs u).length - 1) 0 = (bs u).getD ((bs u).length - 1) 0 := by
  have := bs_pos u
  rw [List.length_cons, Nat.add_sub_cancel, show (bs u).length = ((bs u).length - 1) + 1 by omega, List.getD_cons_succ]
  simp
theorem bs_high : ∀ (k u : Nat), u < 128 ^ (k + 1) → ∀ i, i < (bs u).length - 1 → 128 ≤ (bs u).getD i 0
  | 0, u, h => by
    intro i hi
    rw [bs_small (by simpa using h)] at hi; simp at hi
  | k + 1, u, h => by
    intro i hi
    by_cases hx : u < 128
    · rw [bs_small hx] at hi; simp at hi
    · rw [bs_big (by omega)] at hi ⊢
      rw [List.length_cons] at hi
      cases i with
      | zero => simp; omega
      | succ i =>
        rw [List.getD_cons_succ]
        exact bs_high k (u / 128) (by rw [Nat.pow_succ] at h; exact Nat.div_lt_of_lt_mul (by rw [Nat.mul_comm]; exact h)) i (by omega)
theorem bs_last : ∀ (k u : Nat), u < 128 ^ (k + 1) → (bs u).getD ((bs u).length - 1) 0 = ((u / 128 ^ ((bs u).length - 1) : Nat) : Int) ∧ u < 128 ^ (bs u).length
  | 0, u, h => by
    have h' : u < 128 := by simpa using h
    rw [bs_small h']; simp [h']
  | k + 1, u, h => by
    by_cases hx : u < 128
    · rw [bs_small hx]; simp [hx]
    · have ih := bs_last k (u / 128) (by rw [Nat.pow_succ] at h; exact Nat.div_lt_of_lt_mul (by rw [Nat.mul_comm]; exact h))
      have hp := bs_pos (u / 128)
      have e := bs_big (u := u) (by omega)
      rw [e, bs_cons_last, ih.1, List.length_cons, Nat.add_sub_cancel, Nat.div_div_eq_div_mul]
      refine ⟨?_, ?_⟩
      · have e2 : 128 * 128 ^ ((bs (u / 128)).length - 1) = 128 ^ (bs (u / 128)).length := by
          rw [Nat.mul_comm, ← Nat.pow_succ]; congr 1; omega
        rw [e2]
      · rw [Nat.pow_succ]
        have := ih.2
        omega
theorem bs_last_ne : ∀ (k u : Nat), u < 128 ^ (k + 1) → 1 ≤ u → (bs u).getD ((bs u).length - 1) 0 ≠ 0
  | 0, u, h => by
    intro h1
    have h' : u < 128 := by simpa using h
    rw [bs_small h']; simp; omega
  | k + 1, u, h => by
    intro h1
    by_cases hx : u < 128
    · rw [bs_small hx]; simp; omega
    · rw [bs_big (u := u) (by omega), bs_cons_last]
      exact bs_last_ne k (u / 128) (by rw [Nat.pow_succ] at h; exact Nat.div_lt_of_lt_mul (by rw [Nat.mul_comm]; exact h)) (by omega)
/-- All that span asks of the bytes of a number. -/
theorem bs_facts {u : Nat} (h : u < 18446744073709551616) : (∀ i, i < (bs u).length - 1 → 128 ≤ (bs u).getD i 0) ∧ 0 ≤ (bs u).getD ((bs u).length - 1) 0 ∧ (bs u).getD ((bs u).length - 1) 0 < 128 ∧
    ((bs u).length - 1 = 9 → (bs u).getD ((bs u).length - 1) 0 ≤ 1) ∧ (0 < (bs u).length - 1 → (bs u).getD ((bs u).length - 1) 0 ≠ 0) := by
  have h' : u < 128 ^ (9 + 1) := Nat.lt_of_lt_of_le h (by decide)
  obtain ⟨h1, h2⟩ := bs_last 9 u h'
  have hp := bs_pos u
  refine ⟨bs_high 9 u h', by rw [h1]; exact Int.natCast_nonneg _, ?_, ?_, ?_⟩
  · rw [h1]
    have : u / 128 ^ ((bs u).length - 1) < 128 := Nat.div_lt_of_lt_mul (by rw [← Nat.pow_succ, Nat.succ_eq_add_one, show (bs u).length - 1 + 1 = (bs u).length by omega]; exact h2)
    omega
  · intro e
    rw [h1, e]
    have : u / 128 ^ 9 ≤ 1 := by
      have : u / 9223372036854775808 ≤ 1 := by omega
      exact this
    omega
  · intro e
    refine bs_last_ne 9 u h' ?_
    by_cases hu : u < 128
    · rw [bs_small hu] at e; simp at e
    · omega
/-- The same where more lies behind. -/
theorem bs_app {u : Nat} (h : u < 18446744073709551616) (rest : List Int) : (∀ i, i < (bs u).length - 1 → 128 ≤ (bs u ++ rest).getD i 0) ∧ 0 ≤ (bs u ++ rest).getD ((bs u).length - 1) 0 ∧ (bs u ++ rest).getD ((bs u).length - 1) 0 < 128 ∧
    ((bs u).length - 1 = 9 → (bs u ++ rest).getD ((bs u).length - 1) 0 ≤ 1) ∧ (0 < (bs u).length - 1 → (bs u ++ rest).getD ((bs u).length - 1) 0 ≠ 0) := by
  have hp := bs_pos u
  have e : ∀ i, i < (bs u).length → (bs u ++ rest).getD i 0 = (bs u).getD i 0 := by
    intro i hi
    simp [List.getD, List.getElem?_append_left hi]
  obtain ⟨h1, h2⟩ := bs_facts h
  rw [e _ (by omega)]
  exact ⟨fun i hi => by rw [e i (by omega)]; exact h1 i hi, h2⟩

end Go.Proofs.Ytkojbpifcflgfaa
