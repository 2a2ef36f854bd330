/- What FormatFloat answers, as a text, at one and a half, and at a third. Conditions: the package variables hold what they are laid with. -/
import Derived.Test.YtmeimofnmpmaoaaGreatDoorA
import Derived.Laws.IdiomStrings
namespace Go.Proofs.YtmeimofnmpmaoaaGreatDoor
open Go.RowKit Go.Shelf

theorem own_conv {w : World} {base n : Nat} {v : Value} {l : List UInt8} {xs : List Int} (ho : w.ownsRow base 5 1 v n (u8s xs)) (hn : 0 < n) (he : xs = l.map fun b => (b.toNat : Int)) :
    ∃ g cap, v = .slice (some ⟨g, 0, none⟩) n cap ∧ ∀ j (hj : j < l.length), w.cell? ((⟨g, 0, none⟩ : Addr).add j) = some (.int .u8 (l[j].toNat : Int)) := by
  have hcs := fun g (hg : v.ownBlock = some g) => ho.cells hg
  obtain ⟨hl, h | ⟨g, cap, cur, rfl, h1, h2, h3, h4, h5, h6⟩⟩ := ho
  · omega
  · refine ⟨g, cap, rfl, fun j hj => ?_⟩
    refine hcs g rfl j _ ?_
    rw [he]; simp [u8s, hj]

set_option maxRecDepth 40000 in
set_option maxHeartbeats 1000000 in
theorem ifmt_half (w : World) (hG : Ground w) :
    Calls Tryz.prog 36 #[.float .f64 4609434218613702656, .int .u8 101, .int .i64 (-1), .int .i64 64] w fun e w' => e = .returned (.string ⟨#[49, 46, 53, 101, 43, 48, 48]⟩) ∧ Below w.heap.size w w' := by
  have hmax : max (3 : Int) 24 = 24 := by decide
  obtain ⟨i0, hi, hz0, hz1, hz2⟩ := info_parts Tryz.info5
  obtain ⟨w1, hrun, ho1, hg1⟩ := run_makeSlice_owned (P := Tryz.prog) w w.heap.size 67 5 i0 (.int .u8 0) 1 Tryz.underlying67 hi hz0 hz1 .i64 .i64 24 (by decide) (by rw [hz2]; decide) (by decide) (Nat.le_refl _)
  simp only [Int.cast_ofNat_Int] at hrun
  have b0 : Below w.heap.size w w1 := ⟨hg1.os, hg1.tape, hg1.output, hg1.size, fun k hk => hg1.block k hk (by simp)⟩
  go_enter Tryz.func36, Tryz.ntmps36
  go_wp2_with fail
  refine (ftoa_half w.heap.size _ _ (hG.below b0) ho1 b0.size).mono ?_
  rintro e w' ⟨v', rfl, ho, hb⟩
  obtain ⟨g, cap, rfl, hc⟩ := own_conv (l := [49, 46, 53, 101, 43, 48, 48]) ho (by decide) (by decide)
  have hcv := run_convert_bytes_back (P := Tryz.prog) w' 67 9 5 ⟨g, 0, none⟩ cap ([49, 46, 53, 101, 43, 48, 48] : List UInt8) Tryz.underlying67 Tryz.underlying5 Tryz.underlying9 hc
  simp only [List.length_cons, List.length_nil, Nat.reduceAdd] at hcv
  go_wp2_with fail
  go_ret
  exact ⟨rfl, b0.trans (hb.mono (Nat.le_refl _))⟩

theorem fmt_half (w : World) (hG : Ground w) :
    Calls Tryz.prog 23 #[.float .f64 4609434218613702656, .int .u8 101, .int .i64 (-1), .int .i64 64] w fun e w' => e = .returned (.string ⟨#[49, 46, 53, 101, 43, 48, 48]⟩) ∧ Below w.heap.size w w' := by
  go_enter Tryz.func23, Tryz.ntmps23
  go_wp2_with fail
  refine (ifmt_half w hG).mono ?_
  rintro e w' ⟨rfl, hb⟩
  go_wp2_with fail
  go_ret
  exact ⟨rfl, hb⟩

set_option maxRecDepth 40000 in
set_option maxHeartbeats 1000000 in
theorem ifmt_third (w : World) (hG : Ground w) :
    Calls Tryz.prog 36 #[.float .f64 4599676419421066581, .int .u8 101, .int .i64 (-1), .int .i64 64] w fun e w' => e = .returned (.string ⟨#[51, 46, 51, 51, 51, 51, 51, 51, 51, 51, 51, 51, 51, 51, 51, 51, 51, 101, 45, 48, 49]⟩) ∧ Below w.heap.size w w' := by
  have hmax : max (3 : Int) 24 = 24 := by decide
  obtain ⟨i0, hi, hz0, hz1, hz2⟩ := info_parts Tryz.info5
  obtain ⟨w1, hrun, ho1, hg1⟩ := run_makeSlice_owned (P := Tryz.prog) w w.heap.size 67 5 i0 (.int .u8 0) 1 Tryz.underlying67 hi hz0 hz1 .i64 .i64 24 (by decide) (by rw [hz2]; decide) (by decide) (Nat.le_refl _)
  simp only [Int.cast_ofNat_Int] at hrun
  have b0 : Below w.heap.size w w1 := ⟨hg1.os, hg1.tape, hg1.output, hg1.size, fun k hk => hg1.block k hk (by simp)⟩
  go_enter Tryz.func36, Tryz.ntmps36
  go_wp2_with fail
  refine (ftoa_third w.heap.size _ _ (hG.below b0) ho1 b0.size).mono ?_
  rintro e w' ⟨v', rfl, ho, hb⟩
  obtain ⟨g, cap, rfl, hc⟩ := own_conv (l := [51, 46, 51, 51, 51, 51, 51, 51, 51, 51, 51, 51, 51, 51, 51, 51, 51, 101, 45, 48, 49]) ho (by decide) (by decide)
  have hcv := run_convert_bytes_back (P := Tryz.prog) w' 67 9 5 ⟨g, 0, none⟩ cap ([51, 46, 51, 51, 51, 51, 51, 51, 51, 51, 51, 51, 51, 51, 51, 51, 51, 101, 45, 48, 49] : List UInt8) Tryz.underlying67 Tryz.underlying5 Tryz.underlying9 hc
  simp only [List.length_cons, List.length_nil, Nat.reduceAdd] at hcv
  go_wp2_with fail
  go_ret
  exact ⟨rfl, b0.trans (hb.mono (Nat.le_refl _))⟩

theorem fmt_third (w : World) (hG : Ground w) :
    Calls Tryz.prog 23 #[.float .f64 4599676419421066581, .int .u8 101, .int .i64 (-1), .int .i64 64] w fun e w' => e = .returned (.string ⟨#[51, 46, 51, 51, 51, 51, 51, 51, 51, 51, 51, 51, 51, 51, 51, 51, 51, 101, 45, 48, 49]⟩) ∧ Below w.heap.size w w' := by
  go_enter Tryz.func23, Tryz.ntmps23
  go_wp2_with fail
  refine (ifmt_third w hG).mono ?_
  rintro e w' ⟨rfl, hb⟩
  go_wp2_with fail
  go_ret
  exact ⟨rfl, hb⟩

end Go.Proofs.YtmeimofnmpmaoaaGreatDoor
