/- The document's examples: awake answers true. Conditions: the package variables hold what they are laid with. -/
import Derived.Test.YtmeimofnmpmaoaaGreatDoorP
namespace Go.Proofs.YtmeimofnmpmaoaaGreatDoor
open Go.RowKit Go.Shelf

def dig (l : List Nat) (j : Nat) : Nat := l.getD j 0

theorem reads_ex : Reads ⟨#[49, 53, 101, 45, 49]⟩ 15 (-1) false := by
  intro w
  have h := read_pos ⟨#[49, 53, 101, 45, 49]⟩ false true rfl 0 1 rfl (hid rfl) 2 1 (dig [1, 5]) (dig [1]) (-1) (hid (by decide)) (by decide) (by decide) (by decide) (by decide)
    (fun h => by cases h) (fun j hj _ => by match j, hj with | 0, _ => rfl | 1, _ => rfl) (fun j hj => by match j, hj with | 0, _ => decide | 1, _ => decide) (by decide)
    (fun _ => rfl) (fun _ _ => rfl) (fun k hk _ => by match k, hk with | 0, _ => rfl) (fun k hk => by match k, hk with | 0, _ => decide) rfl w
  exact h

theorem special_ex : SpecialNo ⟨#[49, 53, 101, 45, 49]⟩ := fun w => special_digit _ (by decide) 49 rfl (by decide) (by decide) w

theorem parse_ex (w : World) (hG : Ground w) : Calls Tryz.prog 28 #[.string ⟨#[49, 53, 101, 45, 49]⟩, .int .i64 64] w fun e w' => e = .returned (.tuple #[.float .f64 4609434218613702656, .nilIface]) ∧ Below w.heap.size w w' := by
  obtain ⟨tb, to, tc, _, h15, ht⟩ := hG.c15
  refine parsefloat _ _ w ((atof_ex _ 15 (-1) false 4609434218613702656 w special_ex reads_ex (by decide) (by decide) (by decide) hG.c2
    (exact_div 15 (-1) false 4624633867356078080 4624633867356078080 1 4621819117588971520 4609434218613702656 w (by decide) tb to tc hG.c8 h15 (by decide +kernel) (by decide +kernel) rfl rfl (by decide) (by decide) (ht 1 _ rfl) (by decide +kernel))).mono ?_)
  rintro e w' ⟨rfl, rfl⟩
  exact ⟨rfl, Below.refl _ _⟩

theorem bits_ex (w : World) (hG : Ground w) : Calls Tryz.prog 10 #[val 15 (-1) 0] w fun e w' => e = .returned (.tuple #[.int .u64 4609434218613702656, .int .i64 0]) ∧ Below w.heap.size w w' := by
  have h := bits_num 15 (-1) 4609434218613702656 (by decide) w fun w' hb => nearest_any 15 (-1) 0 (by decide) (by decide) (by decide) (by decide) ⟨#[49, 53]⟩ ⟨#[45, 49]⟩ (show _ = _ by decide +kernel) (show _ = _ by decide +kernel) (by decide) (by decide) ⟨#[49, 53, 101, 45, 49]⟩ (show _ = _ by rfl) w' 4609434218613702656
    (fun w'' hb' => ((hG.below hb).below hb').tab) (fun w'' hb' => parse_ex w'' ((hG.below hb).below hb'))
  simp only [Int.cast_ofNat_Int] at h
  exact h

set_option maxRecDepth 40000 in
set_option maxHeartbeats 2000000 in
theorem awake_any (w : World) (hG : Ground w) : Calls Tryz.prog 9 #[] w fun e w' => e = .returned (.bool true) ∧ Below w.heap.size w w' := by
  go_enter Tryz.func9, Tryz.ntmps9
  go_wp2_with fail
  refine (clean_any 1500 (-1) 15 2 true (by decide) (by decide) (by decide) (by decide) (by decide) (by decide) (by decide) (show _ = _ by decide) _).mono ?_
  rintro e w1 ⟨rfl, b1⟩
  have hG1 := hG.below b1
  have a1 : Below w1.heap.size w1 (w1.alloc (.cells #[.int .i64 15, .int .i64 1, .int .i64 0] 23)) := (Below.refl _ _).alloc (Nat.le_refl _) _
  go_wp2_with fail
  refine (bits_ex _ (hG1.below a1)).mono ?_
  rintro e w2 ⟨rfl, b2⟩
  have hG2 := (hG1.below a1).below b2
  have s2 : w1.heap.size < w2.heap.size := Nat.lt_of_lt_of_le (by simp) b2.size
  go_wp2_with fail
  refine (of_half _ hG2).mono ?_
  rintro e w3 ⟨rfl, b3⟩
  have hG3 := hG2.below b3
  have a3 : Below w3.heap.size w3 (w3.alloc (.cells #[.int .i64 15, .int .i64 (-1), .int .i64 0] 23)) := (Below.refl _ _).alloc (Nat.le_refl _) _
  have s3 := b3.size
  go_wp2_with fail
  refine (of_third _ (hG3.below a3)).mono ?_
  rintro e w4 ⟨rfl, b4⟩
  have s4 : w3.heap.size < w4.heap.size := Nat.lt_of_lt_of_le (by simp) b4.size
  have c1 : Below (w1.heap.size + 1) (w1.alloc (.cells #[.int .i64 15, .int .i64 1, .int .i64 0] 23)) w4 := ((b2.mono (by simp)).trans (b3.mono (by omega))).trans ((a3.mono (by omega)).trans (b4.mono (by simp; omega)))
  have c3 : Below (w3.heap.size + 1) (w3.alloc (.cells #[.int .i64 15, .int .i64 (-1), .int .i64 0] 23)) w4 := b4.mono (by simp)
  have l1 : w1.heap.size < w4.heap.size := by omega
  have v0 : w4.cell? ⟨w1.heap.size, 0, none⟩ = some (.int .i64 15) := by rw [c1.cell (by simp)]; simp
  have v1 : w4.cell? ⟨w1.heap.size, 1, none⟩ = some (.int .i64 1) := by rw [c1.cell (by simp)]; simp
  have v2 : w4.cell? ⟨w1.heap.size, 2, none⟩ = some (.int .i64 0) := by rw [c1.cell (by simp)]; simp
  have x0 : w4.cell? ⟨w3.heap.size, 0, none⟩ = some (.int .i64 15) := by rw [c3.cell (by simp)]; simp
  have x1 : w4.cell? ⟨w3.heap.size, 1, none⟩ = some (.int .i64 (-1)) := by rw [c3.cell (by simp)]; simp
  have x2 : w4.cell? ⟨w3.heap.size, 2, none⟩ = some (.int .i64 0) := by rw [c3.cell (by simp)]; simp
  have bw : Below w.heap.size w w4 := b1.trans (((a1.mono b1.size).trans (c1.mono (by have := b1.size; omega))))
  go_wp2_with fail
  refine (right_any 15 1 0 true (show _ = _ by decide) _).mono ?_
  rintro e w' ⟨rfl, hw'⟩; rw [hw']; clear hw' w'
  go_wp2_with fail
  go_ret
  have q : w.heap.size ≤ w4.heap.size := bw.size
  exact ⟨rfl, (bw.alloc q _).alloc (by simp; omega) _⟩
end Go.Proofs.YtmeimofnmpmaoaaGreatDoor
