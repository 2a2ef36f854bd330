/- The contracts of the document's own Least and mantissa. Conditions: at most 100 values. -/
import Derived.Test.YtpjimckbpabakaaDoorK
namespace Go.Proofs.YtpjimckbpabakaaDoor
open Go.RowKit

/-- What Least has gathered: the least exponent, and whether there was no number yet; right where all values may be. -/
def LeastIs (l : List Vl) (e : Int) (fst : Bool) : Prop := (∀ v ∈ l, may v = true) → e = (st l).1 ∧ (fst = true ↔ (st l).2 ≤ (st l).1)

theorem least_step {l : List Vl} {v : Vl} {e : Int} {f : Bool} (h : LeastIs l e f) :
    (¬ v.S = 0 ∨ v.M = 0 → LeastIs (l ++ [v]) e f) ∧ (v.S = 0 → ¬ v.M = 0 → f = true → LeastIs (l ++ [v]) v.E false) ∧ (v.S = 0 → ¬ v.M = 0 → f = false → v.E < e → LeastIs (l ++ [v]) v.E false) ∧
      (v.S = 0 → ¬ v.M = 0 → f = false → ¬ v.E < e → LeastIs (l ++ [v]) e f) := by
  have hl : (∀ x ∈ l ++ [v], may x = true) → (∀ x ∈ l, may x = true) ∧ may v = true := fun h => ⟨fun x hx => h x (by simp [hx]), h v (by simp)⟩
  refine ⟨fun hn ha => ?_, fun hS hM hf ha => ?_, fun hS hM hf hlt ha => ?_, fun hS hM hf hlt ha => ?_⟩
  · obtain ⟨h1, h2⟩ := hl ha
    have hM : v.M = 0 := by
      rcases hn with hn | hn
      · exact (may_kind h2 hn).1
      · exact hn
    have e1 : st (l ++ [v]) = st l := by rw [st_snoc]; simp [stp, hM]
    rw [e1]; exact h h1
  · obtain ⟨h1, h2⟩ := hl ha
    obtain ⟨h3, h4⟩ := h h1
    have h5 := h4.1 hf
    have hp := dg_pos hM
    rw [st_snoc]
    have : ¬ (st l).1 < (st l).2 := by omega
    simp only [stp, hM, this, if_neg, not_false_iff]
    simp; omega
  · obtain ⟨h1, h2⟩ := hl ha
    obtain ⟨h3, h4⟩ := h h1
    have h5 : (st l).1 < (st l).2 := by
      rcases Int.lt_or_le (st l).1 (st l).2 with h | h
      · exact h
      · have := h4.2 h; rw [hf] at this; cases this
    have hp := dg_pos hM
    rw [st_snoc]
    simp only [stp, hM, h5, if_pos, if_false]
    simp; omega
  · obtain ⟨h1, h2⟩ := hl ha
    obtain ⟨h3, h4⟩ := h h1
    have h5 : (st l).1 < (st l).2 := by
      rcases Int.lt_or_le (st l).1 (st l).2 with h | h
      · exact h
      · have := h4.2 h; rw [hf] at this; cases this
    have hp := dg_pos hM
    rw [st_snoc, hf]
    simp only [stp, hM, h5, if_pos, if_false]
    simp; omega

set_option maxHeartbeats 1600000 in
theorem least_any (a : Option Addr) (len cap : Nat) (vs : List Vl) (w : World) (hl : vs.length = len) (hlen : len ≤ 100) (hrd : RdV w a vs) (hwf : WfV vs) :
    Calls Tryd.prog 20 #[.slice a len cap] w fun r w' => ∃ e, r = .returned (.int .i64 e) ∧ ((∀ v ∈ vs, may v = true) → e = (st vs).1) ∧ (-9223372036854775808 ≤ e ∧ e ≤ 9223372036854775807) ∧ w' = w := by
  have HR : Hid (RdV w a vs ∧ vs.length = len) := ⟨hrd, hl⟩
  have HW : Hid (WfV vs) := hwf
  clear hrd hl hwf
  go_enter Tryd.func20, Tryd.ntmps20
  go_wp2
  go_loop [3, 4, 5] (fun e f i => ∃ (k : Nat) (x : Int) (b : Bool), i = .int .i64 (k : Int) ∧ k ≤ len ∧ e = .int .i64 x ∧ f = .bool b ∧ Hid (LeastIs (vs.take k) x b ∧ -9223372036854775808 ≤ x ∧ x ≤ 9223372036854775807)) (fun _ _ i => len - (intOf i).toNat)
  case atStart => exact ⟨0, 0, true, rfl, Nat.zero_le _, rfl, rfl, ⟨fun _ => ⟨rfl, by simp [st]⟩, by decide, by decide⟩⟩
  case round =>
    obtain ⟨k, x, f, rfl, hk, rfl, rfl, hL⟩ := hrel
    by_cases hlt : k < len
    · have hlt' : (k : Int) < (len : Int) := by omega
      obtain ⟨b, off, rfl, hbb, c0, c1, c2⟩ := HR.out.1.at (k := k) (by rw [HR.out.2]; exact hlt)
      have HT : Hid (vs.take (k + 1) = vs.take k ++ [vs.getD k v0]) := take_snoc vs k (by rw [HR.out.2]; exact hlt)
      obtain ⟨v, hv⟩ : ∃ x, Hid (x = vs.getD k v0) := ⟨_, rfl⟩
      rw [← hv.out] at c0 c1 c2 HT
      have HS : Hid _ := least_step (v := v) hL.out.1
      rw [← HT.out] at HS
      have hvE : Hid (-9223372036854775808 ≤ v.E ∧ v.E ≤ 9223372036854775807) := by
        have h := mem_take_getD (l := vs) (n := len) hlt (by rw [HR.out.2]; exact Nat.le_refl _)
        rw [hv.out]
        exact (HW.out _ (List.mem_of_mem_take h)).2.1
      by_cases hS : v.S = 0
      · rw [hS] at c2
        by_cases hM : v.M = 0
        · rw [hM] at c0
          go_wp2_with fail
          go_round
          case rel => exact ⟨k + 1, x, f, by go_num, hlt, rfl, rfl, ⟨HS.out.1 (.inr hM), hL.out.2⟩⟩
          case measure => simp [intOf]; omega
        · cases f with
          | true =>
            go_wp2_with fail
            go_round
            case rel => exact ⟨k + 1, v.E, false, by go_num, hlt, rfl, rfl, ⟨HS.out.2.1 hS hM rfl, hvE.out⟩⟩
            case measure => simp [intOf]; omega
          | false =>
            by_cases hE : v.E < x
            · go_wp2_with fail
              go_round
              case rel => exact ⟨k + 1, v.E, false, by go_num, hlt, rfl, rfl, ⟨HS.out.2.2.1 hS hM rfl hE, hvE.out⟩⟩
              case measure => simp [intOf]; omega
            · go_wp2_with fail
              go_round
              case rel => exact ⟨k + 1, x, false, by go_num, hlt, rfl, rfl, ⟨HS.out.2.2.2 hS hM rfl hE, hL.out.2⟩⟩
              case measure => simp [intOf]; omega
      · go_wp2_with fail
        go_round
        case rel => exact ⟨k + 1, x, f, by go_num, hlt, rfl, rfl, ⟨HS.out.1 (.inl hS), hL.out.2⟩⟩
        case measure => simp [intOf]; omega
    · have hlt' : ¬ (k : Int) < (len : Int) := by omega
      obtain rfl : k = len := by omega
      go_wp2
      go_ret
      refine ⟨x, rfl, fun h => ?_, hL.out.2, rfl⟩
      have htk : vs.take k = vs := List.take_of_length_le (by rw [HR.out.2]; exact Nat.le_refl _)
      have := hL.out.1
      rw [htk] at this
      exact (this h).1
end Go.Proofs.YtpjimckbpabakaaDoor
