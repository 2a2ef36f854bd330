/- Plain facts on numbers, on how they are turned, and on their bytes: no Go text in sight. No conditions but those that each theorem names. -/
import Derived.WalkKit
import Derived.Lib.Zigzag
import Derived.Laws.BitsAllLaws
namespace Go.Proofs.Ytkojbpifcflgfaa
open Go.RowKit

/-- n turned. -/
def zz (n : Int) : Int := if 0 ≤ n then 2 * n else -2 * n - 1
/-- The number that turned is u. -/
def zg (u : Int) : Int := if u % 2 = 0 then u / 2 else -(u / 2) - 1
theorem zz_bd {n : Int} (h0 : -9223372036854775808 ≤ n) (h1 : n ≤ 9223372036854775807) : 0 ≤ zz n ∧ zz n ≤ 18446744073709551615 := by
  unfold zz; split <;> omega
theorem zg_bd {u : Int} (h0 : 0 ≤ u) (h1 : u ≤ 18446744073709551615) : -9223372036854775808 ≤ zg u ∧ zg u ≤ 9223372036854775807 := by
  unfold zg; split <;> omega
theorem zg_zz (n : Int) : zg (zz n) = n := by
  unfold zg zz; split <;> split <;> omega
theorem zz_zg {u : Int} (h0 : 0 ≤ u) : zz (zg u) = u := by
  unfold zg zz; split <;> split <;> omega

theorem ones_xor64 (b : Nat) (hb : b < 2 ^ 64) : b ^^^ (2 ^ 64 - 1) = 2 ^ 64 - 1 - b := by
  rw [Nat.xor_comm]; exact Lib.xor_ones64 b hb

/-- What Zig's one row comes to. -/
theorem zig_bits {n : Int} (h0 : -9223372036854775808 ≤ n) (h1 : n ≤ 9223372036854775807) :
    bits .xor .u64 (IntKind.u64.wrap (IntKind.u64.wrap n * 2)) (IntKind.u64.wrap (n / 9223372036854775808)) = zz n := by
  by_cases h : 0 ≤ n
  · have e1 : IntKind.u64.wrap (IntKind.u64.wrap n * 2) = (((2 * n).toNat : Nat) : Int) := by
      rw [IntKind.wrap_u64, IntKind.wrap_u64]; omega
    have e2 : IntKind.u64.wrap (n / 9223372036854775808) = ((0 : Nat) : Int) := by
      rw [IntKind.wrap_u64]; omega
    rw [e1, e2, bits_xor_u64_nat _ _ (by omega) (by decide), Nat.xor_zero]
    unfold zz; rw [if_pos h]; omega
  · have e1 : IntKind.u64.wrap (IntKind.u64.wrap n * 2) = (((2 * n + 18446744073709551616).toNat : Nat) : Int) := by
      rw [IntKind.wrap_u64, IntKind.wrap_u64]; omega
    have e2 : IntKind.u64.wrap (n / 9223372036854775808) = ((2 ^ 64 - 1 : Nat) : Int) := by
      rw [IntKind.wrap_u64]; omega
    rw [e1, e2, bits_xor_u64_nat _ _ (by omega) (by decide), ones_xor64 _ (by omega)]
    unfold zz; rw [if_neg h]; omega

theorem i64_xor_zero (x : Nat) (hx : x < 9223372036854775808) : bits .xor .i64 (x : Int) 0 = (x : Int) := by
  show IntKind.i64.wrap ((BitVec.ofInt 64 (x : Int) ^^^ BitVec.ofInt 64 0).toNat : Int) = _
  have h1 : (BitVec.ofInt 64 (0 : Int)).toNat = 0 := by decide
  have h2 : (BitVec.ofInt 64 (x : Int)).toNat = x := by
    rw [BitVec.ofInt_natCast, BitVec.toNat_ofNat]; exact Nat.mod_eq_of_lt (by omega)
  rw [BitVec.toNat_xor, h1, h2, Nat.xor_zero, IntKind.wrap_i64]
  omega
theorem i64_xor_ones (x : Nat) (hx : x < 9223372036854775808) : bits .xor .i64 (x : Int) (-1) = -(x : Int) - 1 := by
  show IntKind.i64.wrap ((BitVec.ofInt 64 (x : Int) ^^^ BitVec.ofInt 64 (-1)).toNat : Int) = _
  have h1 : (BitVec.ofInt 64 (-1)).toNat = 2 ^ 64 - 1 := by decide
  have h2 : (BitVec.ofInt 64 (x : Int)).toNat = x := by
    rw [BitVec.ofInt_natCast, BitVec.toNat_ofNat]; exact Nat.mod_eq_of_lt (by omega)
  rw [BitVec.toNat_xor, h1, h2, ones_xor64 x (by omega), IntKind.wrap_i64]
  omega

/-- What Zag's one row comes to. -/
theorem zag_bits {u : Int} (h0 : 0 ≤ u) (h1 : u ≤ 18446744073709551615) :
    bits .xor .i64 (u / 2) (wrap64 (-wrap64 (bits .and .u64 u 1))) = zg u := by
  rw [Lib.u64_and1 u h0 (by omega)]
  obtain ⟨x, hx⟩ : ∃ x : Nat, u / 2 = (x : Int) := ⟨(u / 2).toNat, by omega⟩
  have hx' : x < 9223372036854775808 := by omega
  by_cases h : u % 2 = 0
  · have e : wrap64 (-wrap64 (u % 2)) = 0 := by rw [h, ← IntWalk.i64_left, ← IntWalk.i64_left]; decide
    rw [e, hx, i64_xor_zero x hx']; unfold zg; rw [if_pos h]; omega
  · have e1 : u % 2 = 1 := by omega
    have e : wrap64 (-wrap64 (u % 2)) = -1 := by rw [e1, ← IntWalk.i64_left, ← IntWalk.i64_left]; decide
    rw [e, hx, i64_xor_ones x hx']; unfold zg; rw [if_neg h]; omega

/-- The bytes of a number. -/
def bs (u : Nat) : List Int := (Lib.uvarint u).map (fun b => (b.toNat : Int))
theorem bs_small {u : Nat} (h : u < 128) : bs u = [(u : Int)] := by
  unfold bs
  rw [Lib.uvarint_small h]
  simp
  omega
theorem bs_big {u : Nat} (h : 128 ≤ u) : bs u = ((u % 128 + 128 : Nat) : Int) :: bs (u / 128) := by
  unfold bs
  rw [Lib.uvarint_big h]
  simp
  omega
theorem bs_pos (u : Nat) : 1 ≤ (bs u).length := by
  by_cases h : u < 128
  · rw [bs_small h]; simp
  · rw [bs_big (by omega)]; simp
theorem bs_le : ∀ (k u : Nat), u < 128 ^ (k + 1) → (bs u).length ≤ k + 1
  | 0, u, h => by rw [bs_small (by simpa using h)]; simp
  | k + 1, u, h => by
    by_cases hx : u < 128
    · rw [bs_small hx]; simp
    · rw [bs_big (by omega), List.length_cons]
      have := bs_le k (u / 128) (by rw [Nat.pow_succ] at h; exact Nat.div_lt_of_lt_mul (by rw [Nat.mul_comm]; exact h))
      omega
theorem bs_le10 {u : Nat} (h : u < 18446744073709551616) : (bs u).length ≤ 10 :=
  bs_le 9 u (Nat.lt_of_lt_of_le h (by decide))
theorem bs_mem : ∀ (k u : Nat), u < 128 ^ (k + 1) → ∀ z ∈ bs u, 0 ≤ z ∧ z ≤ 255
  | 0, u, h => by
    intro z hz
    have h' : u < 128 := by simpa using h
    rw [bs_small h'] at hz; simp at hz; omega
  | k + 1, u, h => by
    intro z hz
    by_cases hx : u < 128
    · rw [bs_small hx] at hz; simp at hz; omega
    · rw [bs_big (by omega)] at hz
      rcases List.mem_cons.1 hz with rfl | hz
      · omega
      · exact bs_mem k (u / 128) (by rw [Nat.pow_succ] at h; exact Nat.div_lt_of_lt_mul (by rw [Nat.mul_comm]; exact h)) z hz
theorem bs_mem64 {u : Nat} (h : u < 18446744073709551616) : ∀ z ∈ bs u, 0 ≤ z ∧ z ≤ 255 :=
  bs_mem 9 u (Nat.lt_of_lt_of_le h (by decide))
theorem bs_mono : ∀ (k a b : Nat), a < 128 ^ (k + 1) → a ≤ b → (bs a).length ≤ (bs b).length
  | 0, a, b, h, _ => by rw [bs_small (by simpa using h)]; exact bs_pos b
  | k + 1, a, b, h, hab => by
    by_cases hx : a < 128
    · rw [bs_small hx]; exact bs_pos b
    · rw [bs_big (show 128 ≤ a by omega), bs_big (show 128 ≤ b by omega), List.length_cons, List.length_cons]
      have := bs_mono k (a / 128) (b / 128) (by rw [Nat.pow_succ] at h; exact Nat.div_lt_of_lt_mul (by rw [Nat.mul_comm]; exact h)) (Nat.div_le_div_right hab)
      omega
theorem bs_mono64 {a b : Nat} (h : a < 18446744073709551616) (hab : a ≤ b) : (bs a).length ≤ (bs b).length :=
  bs_mono 9 a b (Nat.lt_of_lt_of_le h (by decide)) hab
theorem bs_one (u : Nat) : (bs u).length = 1 ↔ u ≤ 127 := by
  constructor
  · intro h
    by_cases hx : u < 128
    · omega
    · rw [bs_big (by omega), List.length_cons] at h
      have := bs_pos (u / 128); omega
  · intro h; rw [bs_small (by omega)]; rfl
end Go.Proofs.Ytkojbpifcflgfaa
