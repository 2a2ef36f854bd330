/- What Of tells of the bits of one and a half, and of a third. Conditions: the package variables hold what they are laid with. -/
import Derived.Test.YtmeimofnmpmaoaaGreatDoorO
import Derived.Test.YtmeimofnmpmaoaaGreatDoorN
namespace Go.Proofs.YtmeimofnmpmaoaaGreatDoor
open Go.RowKit Go.Shelf

theorem from24_run (n : Int) (w : World) : (callFunc 24 #[.int .u64 n]).run Tryz.prog w = .ok (.value (.float .f64 n.toNat)) w := by
  rw [run_callFunc_extern (e := Extern.MathFloatBits.float64frombits) Tryz.func24 (by kernel_rfl) (by kernel_rfl) (by kernel_rfl) (by kernel_rfl)]
  rfl
attribute [local go_sem] from24_run

set_option maxRecDepth 40000 in
set_option maxHeartbeats 1000000 in
theorem of_half (w : World) (hG : Ground w) :
    Calls Tryz.prog 14 #[.int .u64 4609434218613702656] w fun e w' => e = .returned (.tuple #[val 15 (-1) 0, .bool true]) ∧ Below w.heap.size w w' := by
  have b0 : Below w.heap.size w (w.alloc (.cells #[.int .i64 0, .int .i64 0, .int .i64 0] 23)) := (Below.refl _ _).alloc (Nat.le_refl _) _
  have h0 : 0 < w.heap.size := by have := hG.size; omega
  have m1 := hG.c0 1 _ rfl
  have m2 := hG.c0 2 _ rfl
  have m3 := hG.c0 3 _ rfl
  have m4 := hG.c0 4 _ rfl
  simp only [Int.cast_ofNat_Int] at m1 m2 m3 m4
  have ban : bits .andNot .u64 4609434218613702656 9223372036854775808 = 4609434218613702656 := by decide
  go_enter Tryz.func14, Tryz.ntmps14
  go_wp2_with fail
  go_loop [4] (fun k => k = .int .i64 1 ∨ k = .int .i64 2 ∨ k = .int .i64 3 ∨ k = .int .i64 4 ∨ k = .int .i64 5) (fun k => 6 - (intOf k).toNat)
  case atStart => exact .inl rfl
  case round =>
    rcases hrel with rfl | rfl | rfl | rfl | rfl
    · go_wp2_with fail
      exact ⟨.inr (.inl rfl), by simp [intOf]⟩
    · go_wp2_with fail
      exact ⟨.inr (.inr (.inl rfl)), by simp [intOf]⟩
    · go_wp2_with fail
      exact ⟨.inr (.inr (.inr (.inl rfl))), by simp [intOf]⟩
    · go_wp2_with fail
      exact ⟨.inr (.inr (.inr (.inr rfl))), by simp [intOf]⟩
    · go_wp2_with fail
      have b00 : Below w.heap.size w (w.alloc (.cells #[.int .i64 0, .int .i64 0, .int .i64 0] 23)) := b0
      refine (fmt_half _ (hG.below b0)).mono ?_
      rintro e w2 ⟨rfl, b2⟩
      have lt2 : w.heap.size < w2.heap.size := Nat.lt_of_lt_of_le (by simp) b2.size
      go_wp2_with fail
      refine (read_half _ ((hG.below b0).below b2)).mono ?_
      rintro e w3 ⟨rfl, b3⟩
      have hb : Below (w.heap.size + 1) (w.alloc (.cells #[.int .i64 0, .int .i64 0, .int .i64 0] 23)) w3 := (b2.mono (by simp)).trans (b3.mono (by omega))
      have z0 : w3.cell? ⟨w.heap.size, 0, none⟩ = some (.int .i64 0) := by rw [hb.cell (by simp)]; simp
      have z1 : w3.cell? ⟨w.heap.size, 1, none⟩ = some (.int .i64 0) := by rw [hb.cell (by simp)]; simp
      have z2 : w3.cell? ⟨w.heap.size, 2, none⟩ = some (.int .i64 0) := by rw [hb.cell (by simp)]; simp
      have f0 : w3.frozen? ⟨w.heap.size, 0, none⟩ = false := by rw [hb.frozen (by simp)]; simp
      have f1 : w3.frozen? ⟨w.heap.size, 1, none⟩ = false := by rw [hb.frozen (by simp)]; simp
      have f2 : w3.frozen? ⟨w.heap.size, 2, none⟩ = false := by rw [hb.frozen (by simp)]; simp
      have bw : Below w.heap.size w w3 := b0.trans (hb.mono (by omega))
      go_wp2_with fail
      refine bodyPost_ret (by simp [results, Tryz.results14, go_sem, World.cell?_setCell_other, z0, z1, z2]; try rfl) rfl ?_
      exact ⟨rfl, (((bw.setCell (p := ⟨w.heap.size, 0, none⟩) (Nat.le_refl _) _).setCell (p := ⟨w.heap.size, 1, none⟩) (Nat.le_refl _) _).setCell (p := ⟨w.heap.size, 2, none⟩) (Nat.le_refl _) _)⟩

set_option maxRecDepth 40000 in
set_option maxHeartbeats 1000000 in
theorem of_third (w : World) (hG : Ground w) :
    Calls Tryz.prog 14 #[.int .u64 4599676419421066581] w fun e w' => e = .returned (.tuple #[val 0 0 0, .bool false]) ∧ Below w.heap.size w w' := by
  have b0 : Below w.heap.size w (w.alloc (.cells #[.int .i64 0, .int .i64 0, .int .i64 0] 23)) := (Below.refl _ _).alloc (Nat.le_refl _) _
  have h0 : 0 < w.heap.size := by have := hG.size; omega
  have m1 := hG.c0 1 _ rfl
  have m2 := hG.c0 2 _ rfl
  have m3 := hG.c0 3 _ rfl
  have m4 := hG.c0 4 _ rfl
  simp only [Int.cast_ofNat_Int] at m1 m2 m3 m4
  have ban : bits .andNot .u64 4599676419421066581 9223372036854775808 = 4599676419421066581 := by decide
  go_enter Tryz.func14, Tryz.ntmps14
  go_wp2_with fail
  go_loop [4] (fun k => k = .int .i64 1 ∨ k = .int .i64 2 ∨ k = .int .i64 3 ∨ k = .int .i64 4 ∨ k = .int .i64 5) (fun k => 6 - (intOf k).toNat)
  case atStart => exact .inl rfl
  case round =>
    rcases hrel with rfl | rfl | rfl | rfl | rfl
    · go_wp2_with fail
      exact ⟨.inr (.inl rfl), by simp [intOf]⟩
    · go_wp2_with fail
      exact ⟨.inr (.inr (.inl rfl)), by simp [intOf]⟩
    · go_wp2_with fail
      exact ⟨.inr (.inr (.inr (.inl rfl))), by simp [intOf]⟩
    · go_wp2_with fail
      exact ⟨.inr (.inr (.inr (.inr rfl))), by simp [intOf]⟩
    · go_wp2_with fail
      have b00 : Below w.heap.size w (w.alloc (.cells #[.int .i64 0, .int .i64 0, .int .i64 0] 23)) := b0
      refine (fmt_third _ (hG.below b0)).mono ?_
      rintro e w2 ⟨rfl, b2⟩
      have lt2 : w.heap.size < w2.heap.size := Nat.lt_of_lt_of_le (by simp) b2.size
      go_wp2_with fail
      refine (read_third _ ((hG.below b0).below b2)).mono ?_
      rintro e w3 ⟨rfl, b3⟩
      have hb : Below (w.heap.size + 1) (w.alloc (.cells #[.int .i64 0, .int .i64 0, .int .i64 0] 23)) w3 := (b2.mono (by simp)).trans (b3.mono (by omega))
      have z0 : w3.cell? ⟨w.heap.size, 0, none⟩ = some (.int .i64 0) := by rw [hb.cell (by simp)]; simp
      have z1 : w3.cell? ⟨w.heap.size, 1, none⟩ = some (.int .i64 0) := by rw [hb.cell (by simp)]; simp
      have z2 : w3.cell? ⟨w.heap.size, 2, none⟩ = some (.int .i64 0) := by rw [hb.cell (by simp)]; simp
      have f0 : w3.frozen? ⟨w.heap.size, 0, none⟩ = false := by rw [hb.frozen (by simp)]; simp
      have f1 : w3.frozen? ⟨w.heap.size, 1, none⟩ = false := by rw [hb.frozen (by simp)]; simp
      have f2 : w3.frozen? ⟨w.heap.size, 2, none⟩ = false := by rw [hb.frozen (by simp)]; simp
      have bw : Below w.heap.size w w3 := b0.trans (hb.mono (by omega))
      go_wp2_with fail
      refine bodyPost_ret (by simp [results, Tryz.results14, go_sem, World.cell?_setCell_other, z0, z1, z2]; try rfl) rfl ?_
      exact ⟨rfl, (((bw.setCell (p := ⟨w.heap.size, 0, none⟩) (Nat.le_refl _) _).setCell (p := ⟨w.heap.size, 1, none⟩) (Nat.le_refl _) _).setCell (p := ⟨w.heap.size, 2, none⟩) (Nat.le_refl _) _)⟩

end Go.Proofs.YtmeimofnmpmaoaaGreatDoor
