/- The contract of Seek, and of what it calls. Conditions: those of each theorem. -/
import Derived.Test.YtocjmbhfpofoeaaDoorVa
namespace Go.Proofs.YtocjmbhfpofoeaaDoor
open Go.RowKit

theorem ahead_any (B : Nat) (ay : Option Addr) (ny cy : Nat) (y : List Int) (ax : Option Addr) (nx cx : Nat) (x : List Int) (w : World) (hY : IsI .u8 w ay ny cy y) (hby : Bytes y) (hX : IsI .u8 w ax nx cx x) (hbx : Bytes x)
    (hB : w.cell? ⟨B, 0, none⟩ = some (.slice ax nx cx)) :
    Calls Tryd.prog 66 #[.slice ay ny cy, .pointer (some ⟨B, 0, none⟩)] w fun e w' => e = .returned (.bool (li y x)) ∧ w' = w := by
  have HC : Hid _ := compare_any ay ax ny cy nx cx y x w hby hbx hY hX
  obtain ⟨z, hz⟩ : ∃ z, Hid (z = ci y x) := ⟨_, rfl⟩
  rw [← hz.out] at HC
  obtain ⟨b, hb⟩ : ∃ b, Hid (b = li y x) := ⟨_, rfl⟩
  rw [← hb.out]
  have hd : decide (z < 0) = b := by
    rw [hz.out, hb.out]
    cases h : li y x with
    | true => simpa using ci_neg.2 h
    | false => have : ¬ ci y x < 0 := fun h' => by rw [ci_neg.1 h'] at h; cases h
               simpa using this
  clear hY hby hX hbx hz hb
  go_enter Tryd.func66, Tryd.ntmps66
  go_wp2_with fail
  refine Calls.mono HC.out ?_
  rintro e w' ⟨rfl, hw'⟩; rw [hw']; clear hw' w'
  go_wp2_with fail
  go_ret
  exact ⟨rfl, rfl⟩

/-- What a place found is: all is ahead that stands in front, one way or another. -/
def Pl (ls : List (List Int)) (x : List Int) (r : Nat) : Prop := r ≤ ls.length ∧ (r = 0 ∨ li (ls.getD (r - 1) []) x = true) ∧ (r = ls.length ∨ li (ls.getD r []) x = false)

set_option maxHeartbeats 1600000 in
theorem place_any (B : Nat) (a : Option Addr) (len cap : Nat) (ls : List (List Int)) (ax : Option Addr) (nx cx : Nat) (x : List Int) (w : World) (hI : IsR w a len cap ls) (hwf : WfR ls) (hX : IsI .u8 w ax nx cx x) (hbx : Bytes x) (hlen : len ≤ 1000000)
    (hB : w.cell? ⟨B, 0, none⟩ = some (.slice ax nx cx)) :
    Calls Tryd.prog 65 #[.slice a len cap, .func (.func 66) #[] #[.pointer (some ⟨B, 0, none⟩)]] w fun e w' => (∃ r : Nat, e = .returned (.int .i64 (r : Int)) ∧ Pl ls x r) ∧ w' = w := by
  have hm := hI.hm
  have hc := hI.hc
  unfold maxLen at hm
  have HI : Hid ((IsR w a len cap ls ∧ WfR ls) ∧ (IsI .u8 w ax nx cx x ∧ Bytes x) ∧ w.cell? ⟨B, 0, none⟩ = some (.slice ax nx cx)) := ⟨⟨hI, hwf⟩, ⟨hX, hbx⟩, hB⟩
  clear hI hwf hX hbx hB
  go_enter Tryd.func65, Tryd.ntmps65
  go_wp2
  go_loop [5, 6, 7] (fun f t _ => ∃ i j : Nat, f = .int .i64 (i : Int) ∧ t = .int .i64 (j : Int) ∧ i ≤ j ∧ j ≤ len ∧ Hid ((i = 0 ∨ li (ls.getD (i - 1) []) x = true) ∧ (j = len ∨ li (ls.getD j []) x = false))) (fun f t _ => (intOf t).toNat - (intOf f).toNat)
  case atStart => exact ⟨0, len, rfl, rfl, Nat.zero_le _, Nat.le_refl _, ⟨.inl rfl, .inl rfl⟩⟩
  case round =>
    obtain ⟨i, j, rfl, rfl, hij, hj, HA⟩ := hrel
    by_cases hlt : i < j
    · have hlt' : (i : Int) < (j : Int) := by omega
      obtain ⟨m, hm⟩ : ∃ m : Nat, Hid (m = i + (j - i) / 2) := ⟨_, rfl⟩
      have hmi : i ≤ m := by have := hm.out; omega
      have hmj : m < j := by have := hm.out; omega
      have hq : (i : Int) + ((j : Int) - (i : Int)) / 2 = (m : Int) := by have := hm.out; omega
      have hq2 : (i : Int) + Int.tdiv ((j : Int) - (i : Int)) 2 = (m : Int) := by
        rw [Int.tdiv_eq_ediv_of_nonneg (by omega)]; exact hq
      have hw1 : IntKind.i64.wrap (m : Int) = (m : Int) := by rw [IntKind.wrap_i64]; omega
      have hm0 : (0 : Int) ≤ (m : Int) := by omega
      have hml : (m : Int) < (len : Int) := by omega
      have hkl : m < ls.length := by rw [HI.out.1.1.hl]; omega
      obtain ⟨g, off, ai, ni, ci', rfl, hg, c0, hi⟩ := HI.out.1.1.rd.at hkl
      have HC : Hid _ := ahead_any B ai ni ci' _ ax nx cx x w hi (HI.out.1.2 _ (getD_memR hkl)) HI.out.2.1.1 HI.out.2.1.2 HI.out.2.2
      obtain ⟨r, hr⟩ : ∃ r, Hid (r = li (ls.getD m []) x) := ⟨_, rfl⟩
      rw [← hr.out] at HC
      clear hi hkl hm
      cases r with
      | true =>
        go_wp2_with fail
        refine Calls.mono HC.out ?_
        rintro e w' ⟨rfl, hw'⟩; rw [hw']; clear hw' w'
        go_wp2_with fail
        go_round
        case rel => exact ⟨m + 1, j, by go_num, rfl, by omega, hj, ⟨.inr (by rw [Nat.add_sub_cancel, ← hr.out]), HA.out.2⟩⟩
        case measure => simp [intOf]; omega
      | false =>
        go_wp2_with fail
        refine Calls.mono HC.out ?_
        rintro e w' ⟨rfl, hw'⟩; rw [hw']; clear hw' w'
        go_wp2_with fail
        go_round
        case rel => exact ⟨i, m, rfl, rfl, by omega, by omega, ⟨HA.out.1, .inr (by rw [← hr.out])⟩⟩
        case measure => simp [intOf]; omega
    · have hlt' : ¬ (i : Int) < (j : Int) := by omega
      obtain rfl : i = j := by omega
      go_wp2_with fail
      go_ret
      refine ⟨⟨i, rfl, ?_⟩, rfl⟩
      have hl := HI.out.1.1.hl
      exact ⟨by omega, HA.out.1, by rw [hl]; exact HA.out.2⟩

theorem seek_any (a : Option Addr) (len cap : Nat) (ls : List (List Int)) (ax : Option Addr) (nx cx : Nat) (x : List Int) (w : World) (hI : IsR w a len cap ls) (hwf : WfR ls) (hX : IsI .u8 w ax nx cx x) (hbx : Bytes x) (hlen : len ≤ 1000000) :
    Calls Tryd.prog 55 #[.slice a len cap, .slice ax nx cx] w fun e w' => ∃ r : Nat, e = .returned (.int .i64 (r : Int)) ∧ Pl ls x r ∧ Below w.heap.size w w' := by
  have hmf : ∀ (fn : Fn) (first cap : Array Value) (w : World), (Instr.makeFunc fn first cap).run Tryd.prog w = .ok (.func fn first cap) w := fun _ _ _ _ => rfl
  have hb0 : Below w.heap.size w (w.alloc (.cells #[.slice ax nx cx] 23)) := (Below.refl _ _).alloc (Nat.le_refl _) _
  have HC : Hid _ := place_any w.heap.size a len cap ls ax nx cx x (w.alloc (.cells #[.slice ax nx cx] 23)) (hI.below hb0) hwf (hX.below hb0) hbx hlen (by simp)
  have HB : Hid (Below w.heap.size w (w.alloc (.cells #[.slice ax nx cx] 23))) := hb0
  clear hI hwf hX hbx hb0
  go_enter Tryd.func55, Tryd.ntmps55
  go_wp2_with fail
  refine Calls.mono HC.out ?_
  rintro e w' ⟨⟨r, rfl, hp⟩, hw'⟩; rw [hw']; clear hw' w'
  go_wp2_with fail
  go_ret
  exact ⟨r, rfl, hp, HB.out⟩
theorem rz_le {ls : List (List Int)} (h : Rz ls) {x : List Int} : ∀ (d i : Nat), i + d < ls.length → li (ls.getD (i + d) []) x = true → li (ls.getD i []) x = true
  | 0, i, _, h2 => h2
  | d + 1, i, h1, h2 => by
    refine rz_le h d i (by omega) (li_trans _ _ _ (h (i + d) (by omega)) ?_)
    rw [Nat.add_assoc]; exact h2
theorem pl_sk {ls : List (List Int)} {x : List Int} {r : Nat} (h : Rz ls) (hp : Pl ls x r) : sk ls x = r := by
  obtain ⟨h1, h2, h3⟩ := hp
  refine sk_is h1 (fun i hi => ?_) h3
  rcases h2 with h2 | h2
  · omega
  · exact rz_le h (r - 1 - i) i (by omega) (by rw [show i + (r - 1 - i) = r - 1 by omega]; exact h2)
end Go.Proofs.YtocjmbhfpofoeaaDoor
