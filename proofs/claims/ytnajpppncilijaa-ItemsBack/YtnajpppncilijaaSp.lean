/- The contract of Split, for a row of at most 8 items. Conditions: those of the theorem. -/
import Derived.Test.YtnajpppncilijaaUn
namespace Go.Proofs.Ytnajpppncilijaa
open Go.RowKit
theorem Try.info22 : (Try.prog.info? 22).map (fun i => (i.zero, i.size, i.bytes)) = some (some (.slice none 0 0), 1, 24) := by kernel_rfl

set_option maxHeartbeats 1600000 in
theorem split_few (g off len cap : Nat) (w : World) (h1 : 1 ≤ len) (h8 : len ≤ 8) (hc : len ≤ cap) :
    Calls Try.prog 18 #[.slice (some ⟨g, off, none⟩) len cap] w fun e w' => (∃ a c, e = .returned (.slice a 1 c)) ∧ Below w.heap.size w w' := by
  obtain ⟨i0, hi0, hz0, hz1, hz2⟩ := info_parts Try.info22
  have hmin : ∀ ts t w', Sem.run Try.prog (Builtin.min_ ts t #[.int .i64 8, .int .i64 (len : Int)]) w' = .ok (.int .i64 (len : Int)) w' := by
    intro ts t w'
    rw [run_min_int2]
    congr 2
    split <;> omega
  have q1 : (0 : Int) < (len : Int) := by omega
  have q2 : ¬ (8 : Int) < (len : Int) := by omega
  have HS : Hid (∀ W : World, W.ownsRow w.heap.size 22 1 (.slice none 0 0) 0 []) := fun W => World.ownsRow_nil _ _ _ _
  go_enter Try.func18, Try.ntmps18
  go_wp2_with fail
  refine wp_loop_rounds 2 ?_
  rw [rounds_succ]
  go_wp2_with (at_builtin; refine wpList_append_own _ rfl (.tmp 17) (.tmp 23) 37 rfl w.heap.size 22 i0 _ 1 24 Try.underlying37 hi0 hz0 hz1 hz2 rfl (by decide) _ 0 _ rfl (HS.out _) ⟨w.heap.size, 0, none⟩ 1 1 [_] rfl rfl (one_at _ _ _) (by intro u hu; simp at hu; subst hu; rfl) (by decide) (by decide) (by simp) ?_; intro v1 w1 ho1 hg1 _)
  have b1 : Below w.heap.size w w1 := ((Below.refl _ _).alloc (Nat.le_refl _) _).grown hg1 (by simp) (fun j hj => by cases hj)
  obtain ⟨g1, c1, rfl⟩ := ownsRow_succ ho1
  have HB : Hid (Below w.heap.size w w1) := b1
  clear b1 ho1 hg1
  rw [rounds_succ]
  go_wp2_with fail
  go_ret
  exact ⟨⟨_, _, rfl⟩, HB.out⟩
end Go.Proofs.Ytnajpppncilijaa
