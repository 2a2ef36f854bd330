/- The contract of setDigits. Conditions: the bytes lie in a block of the call's own. -/
import Derived.Test.YtmeimofnmpmaoaaGreatDoorE
namespace Go.Proofs.YtmeimofnmpmaoaaGreatDoor
open Go.RowKit Go.Shelf

/-- Digit i of nd0 digits, as a letter. -/
def dgi (u nd0 i : Nat) : Int := ((48 + u / 10 ^ (nd0 - 1 - i) % 10 : Nat) : Int)

theorem dg_val (u j : Nat) : ((Lib.dg u j).toNat : Int) = ((48 + u / 10 ^ j % 10 : Nat) : Int) := by
  unfold Lib.dg
  have h : 48 + u / 10 ^ j % 10 < 256 := by omega
  rw [UInt8.toNat_ofNat_of_lt' (by simpa using h)]

theorem grownBy_putRow {w : World} {g : Nat} (n : Nat) (d : Array UInt8) : w.grownBy ((Sort.putRow (fun (b : UInt8) => Value.int .u8 (b.toNat : Int)) w g 0 d).drewN n) (some g) := by
  refine ⟨rfl, rfl, rfl, by simp, fun k hk hne => ?_⟩
  have : g ≠ k := fun e => hne (by rw [e])
  simp [Sort.putRow, Sort.mapBlock, World.drewN, Array.getElem?_modify, this]

theorem base10_any (Bf u nd0 cap : Nat) (w : World) (hz : ∀ i, i < nd0 → w.cell? ⟨Bf, i, none⟩ = some (.int .u8 0) ∧ w.frozen? ⟨Bf, i, none⟩ = false) (n2 : nd0 ≤ 20) (hu : u < 10 ^ nd0) (hu64 : u < 18446744073709551616) :
    Calls Tryz.prog 50 #[.slice (some ⟨Bf, 0, none⟩) nd0 cap, .int .u64 (u : Int)] w fun e w' => e = .returned (.tuple #[]) ∧ w.grownBy w' (some Bf) ∧ ∀ i, i < nd0 → w'.cell? ⟨Bf, i, none⟩ = some (.int .u8 (dgi u nd0 i)) := by
  have hd : (Array.replicate nd0 (0 : UInt8)).size = nd0 := by simp
  have hH : Sort.Holds (fun (b : UInt8) => Value.int .u8 (b.toNat : Int)) w Bf 0 (Array.replicate nd0 (0 : UInt8)) := by
    intro j hj
    rw [hd] at hj
    have := hz j hj
    rw [Nat.zero_add]
    refine ⟨?_, this.2⟩
    rw [this.1, getElem!_pos _ j (by rw [hd]; exact hj)]
    simp
  have := Any.internal_strconv_formatBase10 Tryz.laysBase10 Bf 0 cap u (Array.replicate nd0 0) w hH (by rw [hd]; exact hu) hu64 (by rw [hd]; omega)
  rw [hd] at this
  refine this.mono ?_
  rintro e w' ⟨he, n, v', dk, hw, hinv⟩
  refine ⟨he, ?_, fun i hi => ?_⟩
  · rw [hw]; exact grownBy_putRow n dk
  · have hsz : dk.size = nd0 := hinv.size
    rw [hw]
    show (Sort.putRow _ w Bf 0 dk).cell? _ = _
    have := Sort.cell?_putRow (fun (b : UInt8) => Value.int .u8 (b.toNat : Int)) w Bf 0 _ dk hH (by rw [hsz, hd]) i (by omega)
    rw [Nat.zero_add] at this
    rw [this, hinv.done i (by omega) hi]
    simp only [dgi]
    rw [dg_val]

theorem set_any (Bf u nd0 nd : Nat) (p : Int) (w : World) (hz : ∀ i, i < nd0 → w.cell? ⟨Bf, i, none⟩ = some (.int .u8 0) ∧ w.frozen? ⟨Bf, i, none⟩ = false) (n1 : 1 ≤ nd) (n12 : nd ≤ nd0) (n2 : nd0 ≤ 20) (hu : u < 10 ^ nd0) (hu64 : u < 18446744073709551616)
    (p0 : -1000 ≤ p) (p1 : p ≤ 1000) (hnz : dgi u nd0 (nd - 1) ≠ 48) (hzz : ∀ j, nd ≤ j → j < nd0 → dgi u nd0 j = 48) :
    Calls Tryz.prog 67 #[.slice (some ⟨Bf, 0, none⟩) 32 32, .int .u64 (u : Int), .int .i64 p, .int .i64 (nd0 : Int)] w fun e w' => e = .returned (.tuple #[.int .i64 ((nd0 : Int) + p), .int .i64 (nd : Int)]) ∧ w.grownBy w' (some Bf) ∧ ∀ i, i < nd0 → w'.cell? ⟨Bf, i, none⟩ = some (.int .u8 (dgi u nd0 i)) := by
  have k1 : (nd0 : Int) ≤ 32 := by omega
  go_enter Tryz.func67, Tryz.ntmps67
  go_wp2_with fail
  refine (base10_any Bf u nd0 32 w hz n2 hu hu64).mono ?_
  rintro e w1 ⟨rfl, hg, hc⟩
  go_wp2_with fail
  go_loop [3] (fun a => ∃ j : Nat, nd ≤ j ∧ j ≤ nd0 ∧ a = .int .i64 (j : Int)) (fun a => (intOf a).toNat)
  case atStart => exact ⟨nd0, n12, Nat.le_refl _, rfl⟩
  case round =>
    obtain ⟨j, h1, h2, rfl⟩ := hrel
    have j0 : (j : Int) > 0 := by omega
    have j1 : (0 : Int) ≤ (j : Int) - 1 := by omega
    have j2 : (j : Int) - 1 < 32 := by omega
    obtain ⟨c, hcv⟩ : ∃ c : Int, Hid (c = dgi u nd0 (j - 1)) := ⟨_, rfl⟩
    have cj : w1.cell? ⟨Bf, j - 1, none⟩ = some (.int .u8 c) := by rw [hcv.out]; exact hc (j - 1) (by omega)
    by_cases hj : nd < j
    · have t : c = 48 := by rw [hcv.out]; exact hzz (j - 1) (by omega) (by omega)
      subst t
      go_wp2_with fail
      exact ⟨⟨j - 1, by omega, by omega, by congr 1; omega⟩, by simp [intOf]; omega⟩
    · obtain rfl : j = nd := by omega
      have t : ¬ c = 48 := by rw [hcv.out]; exact hnz
      go_wp2_with fail
      go_ret2
      exact ⟨rfl, hg, hc⟩
end Go.Proofs.YtmeimofnmpmaoaaGreatDoor
