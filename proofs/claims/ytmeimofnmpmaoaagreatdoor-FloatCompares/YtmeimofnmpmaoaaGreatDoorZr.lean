/- Bits of 0: the text 0e0 is read as 0. Conditions: the package variables hold what they are laid with. -/
import Derived.Test.YtmeimofnmpmaoaaGreatDoorT
import Derived.Test.YtmeimofnmpmaoaaGreatDoorN
import Derived.Test.YtmeimofnmpmaoaaGreatDoorW
namespace Go.Proofs.YtmeimofnmpmaoaaGreatDoor
open Go.RowKit Go.Shelf
attribute [local go_sem] frombits_run

set_option maxRecDepth 400000 in
set_option maxHeartbeats 4000000 in
theorem read_zero (s : ByteArray) (hsz : s.size = 3) (h0 : ∀ h : 0 < s.size, ((s[0]'h).toNat : Int) = 48) (h1 : ∀ h : 1 < s.size, ((s[1]'h).toNat : Int) = 101) (h2 : ∀ h : 2 < s.size, ((s[2]'h).toNat : Int) = 48) : Reads s 0 0 false := by
  intro w
  have hne : ¬ s = ByteArray.empty := fun e => by rw [e] at hsz; simp at hsz
  have g0 : 0 < s.size := by omega
  have g1 : 1 < s.size := by omega
  have g2 : 2 < s.size := by omega
  have hx0 := h0 g0
  have hx1 := h1 g1
  have hx2 := h2 g2
  have hszi : (s.size : Int) = 3 := by omega
  have hl0 : (0 : Int) < (s.size : Int) := by omega
  have hl1 : (1 : Int) < (s.size : Int) := by omega
  have hl2 : (2 : Int) < (s.size : Int) := by omega
  have hl1' : ¬ (s.size : Int) ≤ 1 := by omega
  have hl2' : ¬ (s.size : Int) ≤ 2 := by omega
  have hle : Hid (bits .or .u8 101 32 = 101) := by show _ = _; decide
  have HS : Hid ((s.size : Int) = 3) := hszi
  clear h0 h1 h2 hsz hszi
  go_enter Tryz.func108, Tryz.ntmps108
  go_wp2_with fail
  go_step3
  go_wp2_with (go_at_call 88; refine (lower_any 101 _ 101 hle).mono ?_; rintro e w' ⟨rfl, rfl⟩)
  go_step3
  go_wp2_with fail
  go_loop [2, 5, 7, 9, 13, 14, 15, 16, 17] (fun m tr i un sd sg nd nm dp => m = .int .u64 0 ∧ tr = .bool false ∧ un = .bool false ∧ sd = .bool false ∧ nd = .int .i64 0 ∧ nm = .int .i64 0 ∧ ((i = .int .i64 0 ∧ sg = .bool false ∧ dp = .int .i64 0) ∨ (i = .int .i64 1 ∧ sg = .bool true ∧ dp = .int .i64 (-1)))) (fun _ _ i _ _ _ _ _ _ => 3 - (intOf i).toNat)
  case atStart => exact ⟨rfl, rfl, rfl, rfl, rfl, rfl, .inl ⟨rfl, rfl, rfl⟩⟩
  case round =>
    obtain ⟨rfl, rfl, rfl, rfl, rfl, rfl, h⟩ := hrel
    rcases h with ⟨rfl, rfl, rfl⟩ | ⟨rfl, rfl, rfl⟩
    · go_wp2_with fail
      refine ⟨⟨rfl, rfl, rfl, rfl, rfl, rfl, .inr ⟨rfl, rfl, rfl⟩⟩, ?_⟩
      simp [intOf]
    · go_wp2_with (go_at_call 88; refine (lower_any 101 _ 101 hle).mono ?_; rintro e w' ⟨rfl, rfl⟩)
      go_loop [7, 9, 20] (fun i un e => un = .bool false ∧ e = .int .i64 0 ∧ (i = .int .i64 2 ∨ i = .int .i64 3)) (fun i _ _ => 4 - (intOf i).toNat)
      case atStart => exact ⟨rfl, rfl, .inl rfl⟩
      case round =>
        obtain ⟨rfl, rfl, h⟩ := hrel
        rcases h with rfl | rfl
        · go_wp2_with fail
          refine ⟨⟨rfl, rfl, .inr rfl⟩, ?_⟩
          simp [intOf]
        · have hl3 : ¬ (3 : Int) < (s.size : Int) := by have := HS.out; omega
          go_wp2_with fail
          go_returns
          refine ⟨?_, rfl⟩
          rw [HS.out]
          rfl

set_option maxRecDepth 20000 in
theorem atof_zero (s : ByteArray) (w : World) (hS : SpecialNo s) (hR : Reads s 0 0 false) (c2 : w.cell? ⟨2, 0, none⟩ = some (.bool true)) :
    Calls Tryz.prog 78 #[.string s] w fun e w' => e = .returned (.tuple #[.float .f64 0, .int .i64 (s.size : Int), .nilIface]) ∧ w' = w := by
  have hk : Hid ((0 : Nat) = if false = true then 1 else 0) := by show _ = _; rfl
  go_enter Tryz.func78, Tryz.ntmps78
  go_wp2_with fail
  refine (hS _).mono ?_
  rintro e w' ⟨rfl, hw'⟩; rw [hw']; clear hw' w'
  go_wp2_with fail
  refine (hR _).mono ?_
  rintro e w' ⟨rfl, hw'⟩; rw [hw']; clear hw' w'
  go_wp2_with fail
  refine (bool64_v false 0 hk _).mono ?_
  rintro e w' ⟨rfl, hw'⟩; rw [hw']; clear hw' w'
  go_wp2_with fail
  go_ret3
  exact ⟨rfl, rfl⟩

def t0e0 : ByteArray := ⟨#[48, 101, 48]⟩
theorem parse_zero (w : World) (hG : Ground w) : Calls Tryz.prog 28 #[.string t0e0, .int .i64 64] w fun e w' => e = .returned (.tuple #[.float .f64 0, .nilIface]) ∧ Below w.heap.size w w' := by
  refine parsefloat _ _ w ((atof_zero t0e0 w (fun w => special_digit _ (by decide) 48 rfl (by decide) (by decide) w) (read_zero t0e0 rfl (fun _ => rfl) (fun _ => rfl) (fun _ => rfl)) hG.c2).mono ?_)
  rintro e w' ⟨rfl, rfl⟩
  exact ⟨rfl, Below.refl _ _⟩

theorem bits_zero (w : World) (hG : Ground w) : Calls Tryz.prog 10 #[val 0 0 0] w fun e w' => e = .returned (.tuple #[.int .u64 0, .int .i64 0]) ∧ Below w.heap.size w w' := by
  have h := bits_num 0 0 0 (by decide) w fun w' hb => nearest_any 0 0 0 (by decide) (by decide) (by decide) (by decide) ⟨#[48]⟩ ⟨#[48]⟩ (show _ = _ by decide +kernel) (show _ = _ by decide +kernel) (by decide) (by decide) t0e0 (show _ = _ by rfl) w' 0
    (fun w'' hb' => ((hG.below hb).below hb').tab) (fun w'' hb' => parse_zero w'' ((hG.below hb).below hb'))
  simpa using h
end Go.Proofs.YtmeimofnmpmaoaaGreatDoor
