/- The contracts of the document's own Zig, Zag and Bytes, and how a slice of bytes becomes a string. Conditions: the argument fits its kind. -/
import Derived.Test.YtocjmbhfpofoeaaDoorVa
namespace Go.Proofs.YtocjmbhfpofoeaaDoor
open Go.RowKit

set_option maxRecDepth 20000 in
set_option maxHeartbeats 800000 in
theorem refbytes_any (u : Nat) (w : World) (hu : u < 18446744073709551616) :
    Calls Tryd.prog 29 #[.int .u64 (u : Int)] w fun e w' => ∃ v', e = .returned v' ∧ w'.ownsRow w.heap.size 5 1 v' (bs u).length ((bs u).map (Value.int .u8)) ∧ Below w.heap.size w w' := by
  obtain ⟨i0, hi, hz0, hz1, hz2⟩ := info_parts Tryd.info5
  have hl := bs_le10 hu
  go_enter Tryd.func29, Tryd.ntmps29
  go_wp2
  go_loopw [0, 3] (fun a s wr => ∃ x k : Nat, ∃ ys : List Int, a = .int .u64 (x : Int) ∧ x < 18446744073709551616 ∧ wr.ownsRow w.heap.size 5 1 s k (ys.map (Value.int .u8)) ∧ ys.length = k ∧ ys ++ bs x = bs u ∧ Below w.heap.size w wr) (fun a _ _ => (intOf a).toNat)
  case atStart => exact ⟨u, 0, [], rfl, hu, World.ownsRow_nil _ _ _ _, rfl, rfl, Below.refl _ _⟩
  case round =>
    obtain ⟨x, k, ys, rfl, hx, ho, hk, hy, hbel⟩ := hrel
    have hkl : k ≤ 10 := by rw [← hy] at hl; simp at hl; omega
    have HY : Hid (ys ++ bs x = bs u ∧ ys.length = k) := ⟨hy, hk⟩
    clear hy hk
    have hbase : w.heap.size ≤ wr.heap.size := hbel.size
    by_cases hlt : x < 128
    · have hlt' : ¬ (128 : Int) ≤ (x : Int) := by omega
      go_wp2_with (at_builtin; refine wpList_append_own _ rfl (.tmp 15) (.tmp 18) 23 rfl w.heap.size 5 i0 (.int .u8 0) 1 1 Tryd.underlying23 hi hz0 hz1 hz2 rfl (by decide) _ k _ rfl (ho.alloc _) ⟨wr.heap.size, 0, none⟩ 1 1 [.int .u8 (x : Int)] rfl rfl (one_at wr _ _) (one_one _) (by unfold maxLen; omega) (by omega) (by simp; omega) ?_; intro v' w1 hown' hgrow _)
      go_ret
      refine ⟨v', rfl, ?_, ?_⟩
      · have e : bs x = [(x : Int)] := bs_small hlt
        obtain ⟨h1, h2⟩ := HY.out
        rw [e] at h1
        rw [← h1, List.length_append, h2, List.map_append]
        exact hown'
      · exact (hbel.alloc hbase _).grown hgrow (by simp; omega) (fun j hj => (ho.lt j hj).1)
    · have hlt' : (128 : Int) ≤ (x : Int) := by omega
      go_wp2_with (at_builtin; refine wpList_append_own _ rfl (.tmp 6) (.tmp 11) 23 rfl w.heap.size 5 i0 (.int .u8 0) 1 1 Tryd.underlying23 hi hz0 hz1 hz2 rfl (by decide) _ k _ rfl (ho.alloc _) ⟨wr.heap.size, 0, none⟩ 1 1 [.int .u8 ((x : Int) % 128 + 128)] rfl rfl (one_at wr _ _) (one_one _) (by unfold maxLen; omega) (by omega) (by simp; omega) ?_; intro v' w1 hown' hgrow _)
      go_roundw
      case rel =>
        obtain ⟨h1, h2⟩ := HY.out
        refine ⟨x / 128, k + 1, ys ++ [((x % 128 + 128 : Nat) : Int)], num_div x, by omega, ?_, by simp [h2], ?_, ?_⟩
        · rw [List.map_append]
          exact hown'
        · rw [← h1, bs_big (u := x) (by omega), List.append_assoc]; rfl
        · exact (hbel.alloc hbase _).grown hgrow (by simp; omega) (fun j hj => (ho.lt j hj).1)
      case measure => simp [intOf]; omega

end Go.Proofs.YtocjmbhfpofoeaaDoor
