/- The contract of check: whether items may be a file. Conditions: sizes. -/
import Derived.Test.YtocjmbhfpofoeaaDoorGb
import Derived.Test.YtocjmbhfpofoeaaDoorSq
namespace Go.Proofs.YtocjmbhfpofoeaaDoor
open Go.RowKit

/-- Items rise, told one by one. -/
theorem good_iff : ∀ (ah : List Int) (ls : List (List Int)), good ah ls = true ↔ ∀ i, i < ls.length → (ls.getD i []).length ≤ 400 ∧ li ((ah :: ls).getD i []) (ls.getD i []) = true
  | _, [] => by simp [good]
  | ah, x :: r => by
    simp only [good, Bool.and_eq_true, decide_eq_true_eq]
    rw [good_iff x r]
    constructor
    · rintro ⟨h1, h2, h3⟩ i hi
      cases i with
      | zero => exact ⟨by simpa using h1, by simpa using h2⟩
      | succ i => simpa using h3 i (by simpa using hi)
    · intro h
      refine ⟨by simpa using (h 0 (by simp)).1, by simpa using (h 0 (by simp)).2, fun i hi => ?_⟩
      simpa using h (i + 1) (by simp; omega)
/-- An item with the one ahead of it. -/
def pc (ls : List (List Int)) (k : Nat) : List (List Int) := (ls.drop (k - 1)).take (k + 1 - (k - 1))
theorem pc_zero {ls : List (List Int)} (h : 0 < ls.length) : pc ls 0 = [ls.getD 0 []] := by
  cases ls with
  | nil => simp at h
  | cons x r => simp [pc]
theorem pc_succ {ls : List (List Int)} {k : Nat} (h : k + 1 < ls.length) : pc ls (k + 1) = [ls.getD k [], ls.getD (k + 1) []] := by
  unfold pc
  rw [Nat.add_sub_cancel, show k + 1 + 1 - k = 2 by omega, drop_consR ls k (by omega), drop_consR ls (k + 1) h]
  rfl
theorem pc_good {ls : List (List Int)} : good [] ls = true ↔ ∀ k, k < ls.length → chk (pc ls k) = 0 := by
  constructor
  · intro h k hk
    refine chk_of_good (by simp [pc]; omega) (fun e => ?_) (good_take _ (good_drop _ h))
    have := congrArg List.length e
    simp only [pc, List.length_take, List.length_drop, List.length_nil] at this
    omega
  · intro h
    rw [good_iff]
    intro i hi
    have h1 := (chk_zero (h i hi)).2.2
    cases i with
    | zero =>
      rw [pc_zero hi] at h1
      have := good_cons h1
      exact ⟨this.1, by simpa using this.2.1⟩
    | succ i =>
      rw [pc_succ hi] at h1
      have h2 := (good_cons h1).2.2
      have := good_cons h2
      exact ⟨this.1, by simpa using this.2.1⟩
/-- A piece of a row of items, with room behind it. -/
theorem IsR.pieceC {w : World} {g off len cap : Nat} {ls : List (List Int)} (h : IsR w (some ⟨g, off, none⟩) len cap ls) (f t c : Nat) (hf : f < t) (ht : t ≤ len) (hc : t - f ≤ c) (hcm : c ≤ maxLen) : IsR w (some ⟨g, off + f, none⟩) (t - f) c ((ls.drop f).take (t - f)) :=
  have p := h.piece f t hf ht
  ⟨p.hl, hc, hcm, p.rd, fun e => by cases e⟩

set_option maxRecDepth 20000 in
set_option maxHeartbeats 3200000 in
theorem checkF_any (a : Option Addr) (len cap : Nat) (ls : List (List Int)) (w : World) (hI : IsR w a len cap ls) (hwf : WfR ls) :
    Calls Tryd.prog 43 #[.slice a len cap] w fun e w' => e = .returned (.int .i64 (chkF ls)) ∧ w' = w := by
  have hm := hI.hm
  have hc := hI.hc
  have hl := hI.hl
  unfold maxLen at hm
  obtain ⟨b, hb⟩ : ∃ b, Hid (b = chkF ls) := ⟨_, rfl⟩
  rw [← hb.out]
  by_cases h8 : 2000 < len
  · have h' : (2000 : Int) < (len : Int) := by omega
    go_enter Tryd.func43, Tryd.ntmps43
    go_wp2
    go_ret
    refine ⟨ret_i ?_, rfl⟩
    rw [hb.out, chkF, if_pos (by rw [hl]; exact h8)]
  have h' : ¬ (2000 : Int) < (len : Int) := by omega
  by_cases h0 : len = 0
  · subst h0
    go_enter Tryd.func43, Tryd.ntmps43
    go_wp2
    go_ret
    refine ⟨ret_i ?_, rfl⟩
    obtain rfl : ls = [] := List.eq_nil_of_length_eq_zero hl
    rw [hb.out]; rfl
  have h0' : ((len : Int) == 0) = false := by simp; omega
  have HC : Hid (chkF ls = if good [] ls = true then 0 else 1) := by
    show chkF ls = _
    rw [chkF, if_neg (by rw [hl]; exact h8), if_neg (by rintro rfl; exact h0 (by simpa using hl.symm))]
  obtain ⟨g, off, rfl⟩ : ∃ g off, a = some ⟨g, off, none⟩ := by
    rcases hI.rd with e | ⟨b, o, e, _⟩
    · rw [e] at hl; simp at hl; omega
    · exact ⟨b, o, e⟩
  have HI : Hid (IsR w (some ⟨g, off, none⟩) len cap ls ∧ WfR ls ∧ ls.length = len) := ⟨hI, hwf, hl⟩
  clear hI hwf hl
  go_enter Tryd.func43, Tryd.ntmps43
  go_wp2
  go_loop [3, 12] (fun _ i => ∃ k : Nat, k ≤ len ∧ i = .int .i64 (k : Int) ∧ Hid (∀ j, j < k → chk (pc ls j) = 0)) (fun _ i => len - (intOf i).toNat)
  case atStart => exact ⟨0, Nat.zero_le _, rfl, fun j hj => by omega⟩
  case round =>
    obtain ⟨k, hk, rfl, HA⟩ := hrel
    by_cases hlt : k < len
    · have hlt' : (k : Int) < (len : Int) := by omega
      obtain ⟨f, hf⟩ : ∃ f, f = k - 1 := ⟨_, rfl⟩
      obtain ⟨t, ht⟩ : ∃ t, t = k + 1 := ⟨_, rfl⟩
      have hmx : ∀ ts ty w', Sem.run Tryd.prog (Builtin.max_ ts ty #[.int .i64 ((k : Int) - 1), .int .i64 0]) w' = .ok (.int .i64 (f : Int)) w' := by
        intro ts ty w'
        rw [run_max_int2]
        congr 2
        split <;> omega
      have hw0 : IntKind.i64.wrap ((k : Int) - 1) = (k : Int) - 1 := by rw [IntKind.wrap_i64]; omega
      have hw1 : (k : Int) + 1 = (t : Int) := by omega
      have hw2 : IntKind.i64.wrap (t : Int) = (t : Int) := by rw [IntKind.wrap_i64]; omega
      have hp1 : (f : Int) ≤ (t : Int) := by omega
      have hp2 : (t : Int) ≤ (cap : Int) := by omega
      have hft : f < t := by omega
      have htl : t ≤ len := by omega
      have hcf : ¬ cap = f := by omega
      have h1 := HI.out.1.pieceC f t (cap - f) hft htl (by omega) (by unfold maxLen; omega)
      have e1 : (ls.drop f).take (t - f) = pc ls k := by rw [pc, hf, ht]
      rw [e1] at h1
      have hwp : WfR (pc ls k) := fun x hx => HI.out.2.1 x (List.mem_of_mem_drop (List.mem_of_mem_take hx))
      have HK : Hid _ := check_any _ (t - f) (cap - f) (pc ls k) w h1 hwp
      obtain ⟨y, hy⟩ : ∃ y, Hid (y = chk (pc ls k)) := ⟨_, rfl⟩
      rw [← hy.out] at HK
      have htf : (t : Int) - (f : Int) = ((t - f : Nat) : Int) := by omega
      have HT : Hid (t = k + 1) := ht
      clear h1 e1 hwp hf ht
      by_cases hz : y = 0
      · subst hz
        go_wp2_with fail
        refine Calls.mono HK.out ?_
        rintro e w' ⟨rfl, hw'⟩; rw [hw']; clear hw' w'
        go_wp2_with fail
        go_round
        case rel =>
          refine ⟨k + 1, by omega, by rw [← HT.out], fun j hj => ?_⟩
          by_cases hjk : j = k
          · rw [hjk, ← hy.out]
          · exact HA.out j (by omega)
        case measure => simp [intOf]; omega
      · have hz' : (y == 0) = false := by simpa using hz
        have hz2 : (y != 0) = true := by simpa using hz
        have HZ : Hid (¬ y = 0) := hz
        clear hz
        go_wp2_with fail
        refine Calls.mono HK.out ?_
        rintro e w' ⟨rfl, hw'⟩; rw [hw']; clear hw' w'
        go_wp2_with fail
        go_ret
        refine ⟨ret_i ?_, rfl⟩
        rw [hb.out, HC.out, if_neg]
        intro hg
        exact HZ.out (by rw [hy.out]; exact pc_good.1 hg k (by rw [HI.out.2.2]; exact hlt))
    · have hlt' : ¬ (k : Int) < (len : Int) := by omega
      go_wp2_with fail
      go_ret
      refine ⟨ret_i ?_, rfl⟩
      rw [hb.out, HC.out, if_pos]
      exact pc_good.2 fun j hj => HA.out j (by rw [HI.out.2.2] at hj; omega)
end Go.Proofs.YtocjmbhfpofoeaaDoor
