/- The contracts of Zig, Zag and Size: each answers what the plain functions say, and turns nothing in memory. Conditions: the argument fits its kind. -/
import Derived.Test.YtbgipenonngccaaDoorRows
import Derived.Test.YtbgipenonngccaaDoorA
import Derived.WalkKit
import Derived.ProofKit
import Derived.WalkSpells
namespace Go.Proofs.YtbgipenonngccaaDoor
open Go.RowKit

theorem ret_int {k : IntKind} {a b : Int} (h : a = b) : Ending.returned (.int k a) = .returned (.int k b) := by rw [h]

theorem zig_any (n : Int) (h0 : -9223372036854775808 ≤ n) (h1 : n ≤ 9223372036854775807) (w : World) :
    Calls Tryd.prog 38 #[.int .i64 n] w fun e w' => e = .returned (.int .u64 (zz n)) ∧ w' = w := by
  have hz := zig_bits h0 h1
  go_enter Tryd.func38, Tryd.ntmps38
  go_wp2
  go_ret
  exact ⟨rfl, rfl⟩
theorem zag_any (u : Int) (h0 : 0 ≤ u) (h1 : u ≤ 18446744073709551615) (w : World) :
    Calls Tryd.prog 42 #[.int .u64 u] w fun e w' => e = .returned (.int .i64 (zg u)) ∧ w' = w := by
  have hz := zag_bits h0 h1
  go_enter Tryd.func42, Tryd.ntmps42
  go_wp2
  go_ret
  exact ⟨rfl, rfl⟩

theorem num_div (x : Nat) : Value.int .u64 ((x : Int) / 128) = .int .u64 ((x / 128 : Nat) : Int) := by congr 1

theorem size_any (u : Nat) (hu : u < 18446744073709551616) (w : World) :
    Calls Tryd.prog 37 #[.int .u64 (u : Int)] w fun e w' => e = .returned (.int .i64 ((bs u).length : Int)) ∧ w' = w := by
  have hl := bs_le10 hu
  go_enter Tryd.func37, Tryd.ntmps37
  go_wp2
  go_step3
  go_wp2
  go_step3
  go_wp2
  go_loop [0, 3] (fun a n => ∃ x k : Nat, a = .int .u64 (x : Int) ∧ n = .int .i64 (k : Int) ∧ x < 18446744073709551616 ∧ k + (bs x).length = 1 + (bs u).length) (fun a _ => (intOf a).toNat)
  case atStart => exact ⟨u, 1, rfl, rfl, hu, rfl⟩
  case round =>
    obtain ⟨x, k, rfl, rfl, hx, hk⟩ := hrel
    have hp := bs_pos x
    by_cases hlt : x < 128
    · have HB : Hid (bs x = [(x : Int)]) := bs_small hlt
      have hlt' : (x : Int) < 128 := by omega
      go_wp2
      try rw [Exit.noGoto_ret]
      go_ret
      refine ⟨ret_int ?_, rfl⟩
      rw [HB.out] at hk; simp at hk; omega
    · have HB : Hid (bs x = ((x % 128 + 128 : Nat) : Int) :: bs (x / 128)) := bs_big (by omega)
      have hlt' : ¬ (x : Int) < 128 := by omega
      go_wp2
      go_round
      case rel => 
        refine ⟨x / 128, k + 1, num_div x, by go_num, by omega, ?_⟩
        rw [HB.out] at hk; simp at hk; omega
      case measure => simp [intOf]; omega
end Go.Proofs.YtbgipenonngccaaDoor
