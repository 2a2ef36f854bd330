/- The contracts of Zig, Zag and Size: each answers what the plain functions say, and turns nothing in memory. Conditions: the argument fits its kind. -/
import Derived.Test.YtocjmbhfpofoeaaDoorRows
import Derived.Test.YtocjmbhfpofoeaaDoorA
import Derived.WalkKit
import Derived.ProofKit
import Derived.WalkSpells
namespace Go.Proofs.YtocjmbhfpofoeaaDoor
open Go.RowKit

theorem ret_int {k : IntKind} {a b : Int} (h : a = b) : Ending.returned (.int k a) = .returned (.int k b) := by rw [h]

theorem num_div (x : Nat) : Value.int .u64 ((x : Int) / 128) = .int .u64 ((x / 128 : Nat) : Int) := by congr 1

theorem size_any (u : Nat) (hu : u < 18446744073709551616) (w : World) :
    Calls Tryd.prog 72 #[.int .u64 (u : Int)] w fun e w' => e = .returned (.int .i64 ((bs u).length : Int)) ∧ w' = w := by
  have hl := bs_le10 hu
  go_enter Tryd.func72, Tryd.ntmps72
  go_wp2
  go_step3
  go_wp2
  go_step3
  go_wp2
  go_loop [0, 3] (fun a n => ∃ x k : Nat, a = .int .u64 (x : Int) ∧ n = .int .i64 (k : Int) ∧ x < 18446744073709551616 ∧ k + (bs x).length = 1 + (bs u).length) (fun a _ => (intOf a).toNat)
  case atStart => exact ⟨u, 1, rfl, rfl, hu, rfl⟩
  case round =>
    obtain ⟨x, k, rfl, rfl, hx, hk⟩ := hrel
    have hp := bs_pos x
    by_cases hlt : x < 128
    · have HB : Hid (bs x = [(x : Int)]) := bs_small hlt
      have hlt' : (x : Int) < 128 := by omega
      go_wp2
      try rw [Exit.noGoto_ret]
      go_ret
      refine ⟨ret_int ?_, rfl⟩
      rw [HB.out] at hk; simp at hk; omega
    · have HB : Hid (bs x = ((x % 128 + 128 : Nat) : Int) :: bs (x / 128)) := bs_big (by omega)
      have hlt' : ¬ (x : Int) < 128 := by omega
      go_wp2
      go_round
      case rel => 
        refine ⟨x / 128, k + 1, num_div x, by go_num, by omega, ?_⟩
        rw [HB.out] at hk; simp at hk; omega
      case measure => simp [intOf]; omega
end Go.Proofs.YtocjmbhfpofoeaaDoor
