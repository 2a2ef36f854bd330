/- What the library's heap does downward, over any values with Less and Swap. Conditions: what Less and Swap do. -/
import Derived.Test.YtkojbpifcflgfaaUp
namespace Go.Proofs.Ytkojbpifcflgfaa
open Go.RowKit Go.Shelf
open Go.Sort (swp SWO PermIn size_swp swp_permIn permIn_refl permIn_trans permIn_mono)

set_option maxRecDepth 100000 in
set_option maxHeartbeats 4000000 in
theorem down_any {R : Type} [Inhabited R] (lt : R → R → Bool) (hO : SWO lt) (T : TypeId) (rv : Value) (gl gs : Nat) (H : Array R → World → Prop) (K : World → World → Prop) (hI : HIf lt T rv gl gs H K) (d : Array R) (n : Nat) (w : World) (hH : H d w) (hn : n ≤ d.size) (hsz : d.size ≤ 1000000) :
    Calls Try.prog 58 #[.iface T rv, .int .i64 0, .int .i64 n] w fun e w' => (∃ b, e = .returned (.bool b)) ∧ ∃ d', H d' w' ∧ K w w' ∧ PermIn 0 n d d' ∧ (HpDn lt n 0 d → Hp lt n d') := by
  have mL : ∀ w, Sem.run Try.prog (method 233 T rv "Less") w = .ok (gl, rv) w := hI.fl.finds
  have mS : ∀ w, Sem.run Try.prog (method 233 T rv "Swap") w = .ok (gs, rv) w := hI.fs.finds
  have eL := hI.fl.enters; have eS := hI.fs.enters
  have H0 : Hid (H d w) := hH
  have HI : Hid (HIf lt T rv gl gs H K) := hI
  clear hH hI
  go_enter Try.func58, Try.ntmps58
  go_wp2
  go_loopg [7, 8, 9, 10] n (fun kx s7 _ _ _ wr => ∃ (k : Nat) (dk : Array R), s7 = .int .i64 k ∧ k ≤ n ∧ n - k ≤ kx ∧ dk.size = d.size ∧ Hid (H dk wr ∧ K w wr ∧ PermIn 0 n d dk ∧ (HpDn lt n 0 d → HpDn lt n k dk)))
  case atStart => exact ⟨0, d, rfl, Nat.zero_le _, Nat.le_refl _, rfl, H0.out, HI.out.kr _, permIn_refl _ _ _, id⟩
  case round =>
    obtain ⟨k, dk, rfl, hk, hkx, hds, HD⟩ := hrel
    have hls : ∀ (w1 : World) (i j : Nat), H dk w1 → i < n → j < n → Calls Try.prog gl #[rv, .int .i64 i, .int .i64 j] w1 fun e w' => e = .returned (.bool (lt dk[i]! dk[j]!)) ∧ Hid (H dk w' ∧ K w1 w') := fun w1 i j h1 hi hj => HI.out.less dk w1 i j h1 (by omega) (by omega)
    have HLs : Hid _ := hls
    clear hls
    by_cases h0 : n ≤ 2 * k + 1
    · have h0z : (n : Int) ≤ 2 * (k : Int) + 1 := by omega
      go_wp2
      go_ret
      exact ⟨⟨_, rfl⟩, dk, HD.out.1, HD.out.2.1, HD.out.2.2.1, fun h => dn_stop (HD.out.2.2.2 h) (fun q h1 h2 h3 => by omega)⟩
    · have h0z : ¬ ((n : Int) ≤ 2 * (k : Int) + 1) := by omega
      by_cases h1 : 2 * k + 2 < n
      · have h1z : 2 * (k : Int) + 1 + 1 < (n : Int) := by omega
        have hl := HLs.out wr (2 * k + 2) (2 * k + 1) HD.out.1 (by omega) (by omega)
        rw [show ((2 * k + 2 : Nat) : Int) = 2 * (k : Int) + 1 + 1 by omega, show ((2 * k + 1 : Nat) : Int) = 2 * (k : Int) + 1 by omega] at hl
        cases hL : lt dk[2 * k + 2]! dk[2 * k + 1]! with
        | true =>
          rw [hL] at hl
          have HL : Hid (lt dk[2 * k + 2]! dk[2 * k + 1]! = true) := hL
          clear hL
          have hg : ∀ w1, H dk w1 → Calls Try.prog gl #[rv, .int .i64 (2 * (k : Int) + 1 + 1), .int .i64 k] w1 fun e w' => e = .returned (.bool (lt dk[2 * k + 2]! dk[k]!)) ∧ Hid (H dk w' ∧ K w1 w') := fun w1 h1 => by
            have h := HLs.out w1 (2 * k + 2) k h1 (by omega) (by omega)
            rw [show ((2 * k + 2 : Nat) : Int) = (2 * (k : Int) + 1 + 1) by omega] at h; exact h
          have hs : ∀ w1, H dk w1 → Calls Try.prog gs #[rv, .int .i64 k, .int .i64 (2 * (k : Int) + 1 + 1)] w1 fun e w' => e = .returned (.tuple #[]) ∧ Hid (H (swp dk k (2 * k + 2)) w' ∧ K w1 w') := fun w1 h1 => by
            have h := HI.out.swap dk w1 k (2 * k + 2) h1 (by omega) (by omega)
            rw [show ((2 * k + 2 : Nat) : Int) = (2 * (k : Int) + 1 + 1) by omega] at h; exact h
          have HS : Hid _ := hs
          clear hs
          cases hG : lt dk[2 * k + 2]! dk[k]! with
          | false =>
            rw [hG] at hg
            have HG : Hid (lt dk[2 * k + 2]! dk[k]! = false) := hG
            have Hg : Hid _ := hg
            clear hG hg
            go_wp2_with (first | (go_at_fn gl; refine hl.mono ?_; rintro e w1 ⟨rfl, H1⟩) | (go_at_fn gl; refine (Hg.out _ H1.out.1).mono ?_; rintro e w2 ⟨rfl, H2⟩))
            go_ret
            exact ⟨⟨_, rfl⟩, dk, H2.out.1, HI.out.kt (HI.out.kt HD.out.2.1 H1.out.2) H2.out.2, HD.out.2.2.1, fun h => dn_stop (HD.out.2.2.2 h) (fun q q1 q2 q3 => ((show q = 2 * k + 1 ∨ q = 2 * k + 2 from (by omega)).elim (fun e => (by rw [e]; exact hO.ntrans _ _ _ (hO.asymmA HL.out) HG.out)) (fun e => (by rw [e]; exact HG.out))))⟩
          | true =>
            rw [hG] at hg
            have HG : Hid (lt dk[2 * k + 2]! dk[k]! = true) := hG
            have Hg : Hid _ := hg
            clear hG hg
            go_wp2_with (first | (go_at_fn gl; refine hl.mono ?_; rintro e w1 ⟨rfl, H1⟩) | (go_at_fn gl; refine (Hg.out _ H1.out.1).mono ?_; rintro e w2 ⟨rfl, H2⟩) | (go_at_fn gs; refine (HS.out _ H2.out.1).mono ?_; rintro e w3 ⟨rfl, H3⟩))
            go_roundg (n - (2 * k + 2))
            case measure => omega
            case rel =>
              refine ⟨2 * k + 2, swp dk k (2 * k + 2), by rw [show ((2 * k + 2 : Nat) : Int) = (2 * (k : Int) + 1 + 1) by omega], by omega, Nat.le_refl _, by rw [size_swp]; exact hds, H3.out.1, HI.out.kt (HI.out.kt (HI.out.kt HD.out.2.1 H1.out.2) H2.out.2) H3.out.2, ?_, fun h => ?_⟩
              · exact permIn_trans _ _ _ _ _ HD.out.2.2.1 (swp_permIn dk 0 n _ _ (by omega) (by omega) (by omega) (by omega) (by omega))
              · exact dn_go hO (by omega) (by omega) (by omega) (by omega) (HD.out.2.2.2 h) HG.out (fun q q1 q2 q3 => ((show q = 2 * k + 1 ∨ q = 2 * k + 2 from (by omega)).elim (fun e => (by rw [e]; exact hO.asymmA HL.out)) (fun e => (by rw [e]; exact hO.irrefl _))))
        | false =>
          rw [hL] at hl
          have HL : Hid (lt dk[2 * k + 2]! dk[2 * k + 1]! = false) := hL
          clear hL
          have hg : ∀ w1, H dk w1 → Calls Try.prog gl #[rv, .int .i64 (2 * (k : Int) + 1), .int .i64 k] w1 fun e w' => e = .returned (.bool (lt dk[2 * k + 1]! dk[k]!)) ∧ Hid (H dk w' ∧ K w1 w') := fun w1 h1 => by
            have h := HLs.out w1 (2 * k + 1) k h1 (by omega) (by omega)
            rw [show ((2 * k + 1 : Nat) : Int) = (2 * (k : Int) + 1) by omega] at h; exact h
          have hs : ∀ w1, H dk w1 → Calls Try.prog gs #[rv, .int .i64 k, .int .i64 (2 * (k : Int) + 1)] w1 fun e w' => e = .returned (.tuple #[]) ∧ Hid (H (swp dk k (2 * k + 1)) w' ∧ K w1 w') := fun w1 h1 => by
            have h := HI.out.swap dk w1 k (2 * k + 1) h1 (by omega) (by omega)
            rw [show ((2 * k + 1 : Nat) : Int) = (2 * (k : Int) + 1) by omega] at h; exact h
          have HS : Hid _ := hs
          clear hs
          cases hG : lt dk[2 * k + 1]! dk[k]! with
          | false =>
            rw [hG] at hg
            have HG : Hid (lt dk[2 * k + 1]! dk[k]! = false) := hG
            have Hg : Hid _ := hg
            clear hG hg
            go_wp2_with (first | (go_at_fn gl; refine hl.mono ?_; rintro e w1 ⟨rfl, H1⟩) | (go_at_fn gl; refine (Hg.out _ H1.out.1).mono ?_; rintro e w2 ⟨rfl, H2⟩))
            go_ret
            exact ⟨⟨_, rfl⟩, dk, H2.out.1, HI.out.kt (HI.out.kt HD.out.2.1 H1.out.2) H2.out.2, HD.out.2.2.1, fun h => dn_stop (HD.out.2.2.2 h) (fun q q1 q2 q3 => ((show q = 2 * k + 1 ∨ q = 2 * k + 2 from (by omega)).elim (fun e => (by rw [e]; exact HG.out)) (fun e => (by rw [e]; exact hO.ntrans _ _ _ HL.out HG.out))))⟩
          | true =>
            rw [hG] at hg
            have HG : Hid (lt dk[2 * k + 1]! dk[k]! = true) := hG
            have Hg : Hid _ := hg
            clear hG hg
            go_wp2_with (first | (go_at_fn gl; refine hl.mono ?_; rintro e w1 ⟨rfl, H1⟩) | (go_at_fn gl; refine (Hg.out _ H1.out.1).mono ?_; rintro e w2 ⟨rfl, H2⟩) | (go_at_fn gs; refine (HS.out _ H2.out.1).mono ?_; rintro e w3 ⟨rfl, H3⟩))
            go_roundg (n - (2 * k + 1))
            case measure => omega
            case rel =>
              refine ⟨2 * k + 1, swp dk k (2 * k + 1), by rw [show ((2 * k + 1 : Nat) : Int) = (2 * (k : Int) + 1) by omega], by omega, Nat.le_refl _, by rw [size_swp]; exact hds, H3.out.1, HI.out.kt (HI.out.kt (HI.out.kt HD.out.2.1 H1.out.2) H2.out.2) H3.out.2, ?_, fun h => ?_⟩
              · exact permIn_trans _ _ _ _ _ HD.out.2.2.1 (swp_permIn dk 0 n _ _ (by omega) (by omega) (by omega) (by omega) (by omega))
              · exact dn_go hO (by omega) (by omega) (by omega) (by omega) (HD.out.2.2.2 h) HG.out (fun q q1 q2 q3 => ((show q = 2 * k + 1 ∨ q = 2 * k + 2 from (by omega)).elim (fun e => (by rw [e]; exact hO.irrefl _)) (fun e => (by rw [e]; exact HL.out))))
      · have h1z : ¬ (2 * (k : Int) + 1 + 1 < (n : Int)) := by omega
        have hg : ∀ w1, H dk w1 → Calls Try.prog gl #[rv, .int .i64 (2 * (k : Int) + 1), .int .i64 k] w1 fun e w' => e = .returned (.bool (lt dk[2 * k + 1]! dk[k]!)) ∧ Hid (H dk w' ∧ K w1 w') := fun w1 h1 => by
          have h := HLs.out w1 (2 * k + 1) k h1 (by omega) (by omega)
          rw [show ((2 * k + 1 : Nat) : Int) = (2 * (k : Int) + 1) by omega] at h; exact h
        have hs : ∀ w1, H dk w1 → Calls Try.prog gs #[rv, .int .i64 k, .int .i64 (2 * (k : Int) + 1)] w1 fun e w' => e = .returned (.tuple #[]) ∧ Hid (H (swp dk k (2 * k + 1)) w' ∧ K w1 w') := fun w1 h1 => by
          have h := HI.out.swap dk w1 k (2 * k + 1) h1 (by omega) (by omega)
          rw [show ((2 * k + 1 : Nat) : Int) = (2 * (k : Int) + 1) by omega] at h; exact h
        have HS : Hid _ := hs
        clear hs
        cases hG : lt dk[2 * k + 1]! dk[k]! with
        | false =>
          rw [hG] at hg
          have HG : Hid (lt dk[2 * k + 1]! dk[k]! = false) := hG
          have Hg : Hid _ := hg
          clear hG hg
          go_wp2_with (first | (go_at_fn gl; refine (Hg.out _ HD.out.1).mono ?_; rintro e w2 ⟨rfl, H2⟩))
          go_ret
          exact ⟨⟨_, rfl⟩, dk, H2.out.1, HI.out.kt HD.out.2.1 H2.out.2, HD.out.2.2.1, fun h => dn_stop (HD.out.2.2.2 h) (fun q q1 q2 q3 => (by have e : q = 2 * k + 1 := (by omega); rw [e]; exact HG.out))⟩
        | true =>
          rw [hG] at hg
          have HG : Hid (lt dk[2 * k + 1]! dk[k]! = true) := hG
          have Hg : Hid _ := hg
          clear hG hg
          go_wp2_with (first | (go_at_fn gl; refine (Hg.out _ HD.out.1).mono ?_; rintro e w2 ⟨rfl, H2⟩) | (go_at_fn gs; refine (HS.out _ H2.out.1).mono ?_; rintro e w3 ⟨rfl, H3⟩))
          go_roundg (n - (2 * k + 1))
          case measure => omega
          case rel =>
            refine ⟨2 * k + 1, swp dk k (2 * k + 1), by rw [show ((2 * k + 1 : Nat) : Int) = (2 * (k : Int) + 1) by omega], by omega, Nat.le_refl _, by rw [size_swp]; exact hds, H3.out.1, HI.out.kt (HI.out.kt HD.out.2.1 H2.out.2) H3.out.2, ?_, fun h => ?_⟩
            · exact permIn_trans _ _ _ _ _ HD.out.2.2.1 (swp_permIn dk 0 n _ _ (by omega) (by omega) (by omega) (by omega) (by omega))
            · exact dn_go hO (by omega) (by omega) (by omega) (by omega) (HD.out.2.2.2 h) HG.out (fun q q1 q2 q3 => (by have e : q = 2 * k + 1 := (by omega); rw [e]; exact hO.irrefl _))
end Go.Proofs.Ytkojbpifcflgfaa
