/- The contracts of Put, span and join. Conditions: sizes far below what a slice may take; what the bytes are. -/
import Derived.Test.YtocjmbhfpofoeaaDoorC
namespace Go.Proofs.YtocjmbhfpofoeaaDoor
open Go.RowKit

theorem put_any (a : Option Addr) (len cap : Nat) (zs : List Int) (u : Nat) (w : World) (hu : u < 18446744073709551616) (hz : zs.length = len) (hrd : Rd .u8 w a zs) (hs : len ≤ 140737487000000) :
    Calls Tryd.prog 59 #[.slice a len cap, .int .u64 (u : Int)] w fun e w' => ∃ v', e = .returned v' ∧ w'.ownsRow w.heap.size 5 1 v' (len + (bs u).length) ((zs ++ bs u).map (Value.int .u8)) ∧ Below w.heap.size w w' := by
  have hl := bs_le10 hu
  have HR : Hid (Rd .u8 w a zs ∧ zs.length = len) := ⟨hrd, hz⟩
  clear hrd hz
  go_enter Tryd.func59, Tryd.ntmps59
  go_wp2_with (first
    | (go_at_call 72; refine (size_any u hu _).mono ?_; rintro e w' ⟨rfl, rfl⟩)
    | (go_at_call 71; refine (grown_any a len cap (bs u).length zs _ HR.out.2 HR.out.1 (by omega)).mono ?_; rintro e w1 ⟨rfl, ho1, hb1⟩)
    | (go_at_call 70; refine (add_any w'.heap.size _ len _ u _ hu ho1 hb1.size (by omega)).mono ?_; rintro e w2 ⟨v', rfl, ho2, hb2⟩))
  go_ret
  refine ⟨v', rfl, ?_, hb1.trans hb2⟩
  rw [List.map_append]; exact ho2

set_option maxHeartbeats 800000 in
/-- The bytes of a number, whatever lies behind. -/
theorem span_ok (g off cap : Nat) (zs : List Int) (k : Nat) (w : World) (hc : ∀ i, i < zs.length → w.cell? ⟨g, off + i, none⟩ = some (.int .u8 (zs.getD i 0))) (hm : zs.length ≤ 140737488355328)
    (hk : k < zs.length) (hk9 : k ≤ 9) (hlo : ∀ i, i < k → 128 ≤ zs.getD i 0) (h0 : 0 ≤ zs.getD k 0) (h1 : zs.getD k 0 < 128) (h9 : k = 9 → zs.getD k 0 ≤ 1) (hp : 0 < k → zs.getD k 0 ≠ 0) :
    Calls Tryd.prog 81 #[.slice (some ⟨g, off, none⟩) zs.length cap] w fun e w' => e = .returned (.tuple #[.int .i64 ((k : Int) + 1), .int .i64 0]) ∧ w' = w := by
  obtain ⟨len, hlen⟩ : ∃ len, len = zs.length := ⟨_, rfl⟩
  rw [← hlen] at hc hm hk
  rw [← hlen]
  obtain ⟨Z, hZ⟩ : ∃ Z : Nat → Int, Z = fun i => zs.getD i 0 := ⟨_, rfl⟩
  have hc' : ∀ i, i < len → w.cell? ⟨g, off + i, none⟩ = some (.int .u8 (Z i)) := by rw [hZ]; exact hc
  have hlo' : ∀ i, i < k → 128 ≤ Z i := by rw [hZ]; exact hlo
  replace h0 : 0 ≤ Z k := by rw [hZ]; exact h0
  replace h1 : Z k < 128 := by rw [hZ]; exact h1
  replace h9 : k = 9 → Z k ≤ 1 := by rw [hZ]; exact h9
  replace hp : 0 < k → Z k ≠ 0 := by rw [hZ]; exact hp
  clear hc hlo hZ hlen
  have HC : Hid ((∀ i, i < len → w.cell? ⟨g, off + i, none⟩ = some (.int .u8 (Z i))) ∧ (∀ i, i < k → 128 ≤ Z i)) := ⟨hc', hlo'⟩
  have H9 : Hid ((k = 9 → Z k ≤ 1) ∧ (0 < k → Z k ≠ 0)) := ⟨h9, hp⟩
  clear hc' hlo' h9 hp
  go_enter Tryd.func81, Tryd.ntmps81
  go_wp2
  go_step3
  go_wp2
  go_step3
  go_wp2
  go_loop [4] (fun i => ∃ j : Nat, i = .int .i64 (j : Int) ∧ j ≤ k) (fun i => k - (intOf i).toNat)
  case atStart => exact ⟨0, rfl, Nat.zero_le _⟩
  case round =>
    obtain ⟨j, rfl, hj⟩ := hrel
    have hcj : w.cell? ⟨g, off + j, none⟩ = some (.int .u8 (Z j)) := HC.out.1 j (by omega)
    have hj10 : ((j : Int) == 10) = false := by simp; omega
    have hjl : ((j : Int) == (len : Int)) = false := by simp; omega
    have hjl' : (j : Int) < (len : Int) := by omega
    by_cases hlt : j < k
    · have hzj := HC.out.2 j hlt
      have hn : ¬ Z j < 128 := by omega
      go_wp2
      go_round
      case rel => exact ⟨j + 1, by go_num, by omega⟩
      case measure => simp [intOf]; omega
    · obtain rfl : j = k := by omega
      by_cases e9 : j = 9
      · have hz1 := H9.out.1 e9
        have hz2 : (Z j == 0) = false := by have := H9.out.2 (by omega); simpa using this
        have hg1 : ¬ (1 : Int) < Z j := by omega
        subst e9
        clear hj10 hz1
        go_wp2
        try rw [Exit.noGoto_ret]
        go_ret2
        exact ⟨rfl, rfl⟩
      · have e9' : ((j : Int) == 9) = false := by simp; omega
        by_cases e0 : j = 0
        · subst e0
          clear hj10 e9'
          rw [Nat.add_zero] at hcj
          go_wp2
          try rw [Exit.noGoto_ret]
          go_ret2
          exact ⟨rfl, rfl⟩
        · have hpj : (0 : Int) < (j : Int) := by omega
          have hz2 : (Z j == 0) = false := by have := H9.out.2 (by omega); simpa using this
          go_wp2
          try rw [Exit.noGoto_ret]
          go_ret2
          exact ⟨rfl, rfl⟩

set_option maxHeartbeats 800000 in
/-- Bytes that end within a number. -/
theorem span_short (a : Option Addr) (cap : Nat) (zs : List Int) (w : World) (hr : Rd .u8 w a zs) (hk9 : zs.length ≤ 9) (hlo : ∀ i, i < zs.length → 128 ≤ zs.getD i 0) :
    Calls Tryd.prog 81 #[.slice a zs.length cap] w fun e w' => e = .returned (.tuple #[.int .i64 0, .int .i64 10]) ∧ w' = w := by
  obtain ⟨len, hlen⟩ : ∃ len, len = zs.length := ⟨_, rfl⟩
  obtain ⟨Z, hZ⟩ : ∃ Z : Nat → Int, Z = fun i => zs.getD i 0 := ⟨_, rfl⟩
  have HC : Hid (len = 0 ∨ ∃ g off, a = some ⟨g, off, none⟩ ∧ (∀ i, i < len → w.cell? ⟨g, off + i, none⟩ = some (.int .u8 (Z i))) ∧ (∀ i, i < len → 128 ≤ Z i)) := by
    rcases hr with h | ⟨b, off, h1, h2, h3⟩
    · exact .inl (by rw [hlen, h]; rfl)
    · exact .inr ⟨b, off, h1, by rw [hZ, hlen]; exact h3, by rw [hZ, hlen]; exact hlo⟩
  rw [← hlen]
  rw [← hlen] at hk9
  clear hlo hr hZ hlen
  rcases HC.out with h | ⟨g, off, rfl, hc, hlo⟩
  · subst h
    clear HC
    go_enter Tryd.func81, Tryd.ntmps81
    go_wp2
    go_step3
    go_wp2
    go_step3
    go_wp2
    refine wp_loop_rounds 1 ?_
    rw [rounds_succ]
    go_wp2
    try rw [Exit.noGoto_ret]
    go_ret2
    exact ⟨rfl, rfl⟩
  · clear HC
    have HC : Hid ((∀ i, i < len → w.cell? ⟨g, off + i, none⟩ = some (.int .u8 (Z i))) ∧ (∀ i, i < len → 128 ≤ Z i)) := ⟨hc, hlo⟩
    clear hc hlo
    go_enter Tryd.func81, Tryd.ntmps81
    go_wp2
    go_step3
    go_wp2
    go_step3
    go_wp2
    go_loop [4] (fun i => ∃ j : Nat, i = .int .i64 (j : Int) ∧ j ≤ len) (fun i => len - (intOf i).toNat)
    case atStart => exact ⟨0, rfl, Nat.zero_le _⟩
    case round =>
      obtain ⟨j, rfl, hj⟩ := hrel
      have hj10 : ((j : Int) == 10) = false := by simp; omega
      by_cases hlt : j < len
      · have hcj : w.cell? ⟨g, off + j, none⟩ = some (.int .u8 (Z j)) := HC.out.1 j hlt
        have hjl : ((j : Int) == (len : Int)) = false := by simp; omega
        have hjl' : (j : Int) < (len : Int) := by omega
        have hzj := HC.out.2 j hlt
        have hn : ¬ Z j < 128 := by omega
        go_wp2
        go_round
        case rel => exact ⟨j + 1, by go_num, by omega⟩
        case measure => simp [intOf]; omega
      · obtain rfl : j = len := by omega
        go_wp2
        try rw [Exit.noGoto_ret]
        go_ret2
        exact ⟨rfl, rfl⟩

set_option maxHeartbeats 800000 in
/-- A byte from 128 on, and 0 behind it. -/
theorem span_form (g cap : Nat) (w : World) (h0 : w.cell? ⟨g, 0, none⟩ = some (.int .u8 128)) (h1 : w.cell? ⟨g, 1, none⟩ = some (.int .u8 0)) :
    Calls Tryd.prog 81 #[.slice (some ⟨g, 0, none⟩) 2 cap] w fun e w' => e = .returned (.tuple #[.int .i64 0, .int .i64 11]) ∧ w' = w := by
  go_enter Tryd.func81, Tryd.ntmps81
  go_wp2
  go_step3
  go_wp2
  go_step3
  go_wp2
  refine wp_loop_rounds 2 ?_
  rw [rounds_succ]
  go_wp2
  rw [rounds_succ]
  go_wp2
  try rw [Exit.noGoto_ret]
  go_ret2
  exact ⟨rfl, rfl⟩
end Go.Proofs.YtocjmbhfpofoeaaDoor
