/- The contracts of the document's own May and Canon. Conditions: each text's length fits. -/
import Derived.Test.YthklkhdcmoonkaaH
import Derived.Laws.Cover1
namespace Go.Proofs.Ythklkhdcmoonkaa
open Go.RowKit

theorem not_may_ok {ls : List Lb} {k : Nat} (hk : k < ls.length) (h : okl (ls.getD k l0) = false) : ¬ May ls := fun hm => by
  rw [hm.2.2.1 _ (getD_memL hk)] at h; cases h
theorem not_may_dup {ls : List Lb} {j k : Nat} (hjk : j < k) (hk : k < ls.length) (h : (ls.getD j l0).1 = (ls.getD k l0).1) : ¬ May ls := fun hm => by
  have := List.pairwise_iff_getElem.1 hm.2.2.2 j k (by omega) hk hjk
  rw [← getD_eqL (show j < ls.length by omega), ← getD_eqL hk] at this
  exact this h
theorem may_all {ls : List Lb} (h1 : 1 ≤ ls.length) (h6 : ls.length ≤ 6) (h : ∀ k, k < ls.length → okl (ls.getD k l0) = true ∧ ∀ j, j < k → (ls.getD j l0).1 ≠ (ls.getD k l0).1) : May ls := by
  refine ⟨h1, h6, fun x hx => ?_, ?_⟩
  · obtain ⟨j, hj, rfl⟩ := List.getElem_of_mem hx
    rw [← getD_eqL hj]; exact (h j hj).1
  · rw [List.pairwise_iff_getElem]
    intro i j hi hj hij
    have := (h j hj).2 i hij
    rwa [getD_eqL hi, getD_eqL hj] at this

set_option maxRecDepth 20000 in
set_option maxHeartbeats 4000000 in
theorem refmay_any (a : Option Addr) (len cap : Nat) (ls : List Lb) (w : World) (hI : IsL w a len cap ls) (hwf : WfL ls) : Calls Try.prog 32 #[.slice a len cap] w fun e w' => e = .returned (.bool (decide (May ls))) ∧ Below w.heap.size w w' := by
  have hm := hI.hm
  have hc := hI.hc
  unfold maxLen at hm
  obtain ⟨b, hb⟩ : ∃ b, Hid (b = decide (May ls)) := ⟨_, rfl⟩
  rw [← hb.out]
  have HI : Hid (IsL w a len cap ls ∧ WfL ls) := ⟨hI, hwf⟩
  clear hI hwf
  have HF : Hid (¬ May ls → b = false) := fun h => by rw [hb.out]; exact decide_eq_false h
  by_cases h1 : len < 1
  · have h' : (len : Int) < 1 := by omega
    have hn : Hid (b = false) := HF.out (fun h => by have := h.1; rw [HI.out.1.hl] at this; omega)
    go_enter Try.func32, Try.ntmps32
    go_wp2
    go_ret
    exact ⟨ret_bool hn.out.symm, Below.refl _ _⟩
  by_cases h6 : 6 < len
  · have h' : ¬ (len : Int) < 1 := by omega
    have h'' : (6 : Int) < (len : Int) := by omega
    have hn : Hid (b = false) := HF.out (fun h => by have := h.2.1; rw [HI.out.1.hl] at this; omega)
    go_enter Try.func32, Try.ntmps32
    go_wp2
    go_ret
    exact ⟨ret_bool hn.out.symm, Below.refl _ _⟩
  have h' : ¬ (len : Int) < 1 := by omega
  have h'' : ¬ (6 : Int) < (len : Int) := by omega
  go_enter Try.func32, Try.ntmps32
  go_wp2
  go_loopw [3, 4, 5] (fun i _ _ wr => ∃ k q : Nat, i = .int .i64 (k : Int) ∧ k ≤ len ∧ Hid (∀ t, t < k → okl (ls.getD t l0) = true ∧ ∀ j, j < t → (ls.getD j l0).1 ≠ (ls.getD t l0).1) ∧ wr = w.drewN q) (fun i _ _ _ => len - (intOf i).toNat)
  case atStart => exact ⟨0, 0, rfl, Nat.zero_le _, (fun t ht => by omega), rfl⟩
  case round =>
    obtain ⟨k, q, rfl, hk, HA, rfl⟩ := hrel
    by_cases hlt : k < len
    · have hlt' : (k : Int) < (len : Int) := by omega
      have hkl : k < ls.length := by rw [HI.out.1.hl]; exact hlt
      obtain ⟨g, off, rfl, hg, c0, c1⟩ := HI.out.1.rd.at hkl
      have hsz := HI.out.2 _ (getD_memL hkl)
      have HNO : Hid (okl (ls.getD k l0) = false → b = false) := fun h => HF.out (not_may_ok hkl h)
      have HND : Hid (∀ j, j < k → (ls.getD j l0).1 = (ls.getD k l0).1 → b = false) := fun j hj h => HF.out (not_may_dup hj hkl h)
      obtain ⟨x, hx⟩ : ∃ x, Hid (x = ls.getD k l0) := ⟨_, rfl⟩
      rw [← hx.out] at c0 c1 hsz HNO HND
      obtain ⟨n, v⟩ := x
      simp only at c0 c1 hsz
      obtain ⟨hsz1, hsz2⟩ := hsz
      have Hnm : Hid (∀ W, Calls Try.prog 17 #[.string n] W fun e w' => e = .returned (.bool (nm n)) ∧ w' = W) := fun W => refname_any n W hsz1
      unfold maxLen at hsz2
      cases hnm : nm n with
      | false =>
        have HE : Hid (b = false) := HNO.out (by simp [okl, hnm])
        rw [hnm] at Hnm
        clear hnm
        go_wp2_with fail
        refine Calls.mono (Hnm.out _) ?_
        rintro e w' ⟨rfl, hw'⟩; rw [hw']; clear hw' w'
        go_wp2_with fail
        go_ret
        exact ⟨ret_bool HE.out.symm, below_dr _ _⟩
      | true =>
        have HNM : Hid (nm n = true) := hnm
        rw [hnm] at Hnm
        clear hnm
        by_cases v1 : v.size < 1
        · have HE : Hid (b = false) := HNO.out (by simp [okl]; omega)
          have v1' : (v.size : Int) < 1 := by omega
          go_wp2_with fail
          refine Calls.mono (Hnm.out _) ?_
          rintro e w' ⟨rfl, hw'⟩; rw [hw']; clear hw' w'
          go_wp2_with fail
          go_ret
          exact ⟨ret_bool HE.out.symm, below_dr _ _⟩
        · by_cases v16 : 16 < v.size
          · have HE : Hid (b = false) := HNO.out (by simp [okl]; omega)
            have v1' : ¬ (v.size : Int) < 1 := by omega
            have v16' : (16 : Int) < (v.size : Int) := by omega
            go_wp2_with fail
            refine Calls.mono (Hnm.out _) ?_
            rintro e w' ⟨rfl, hw'⟩; rw [hw']; clear hw' w'
            go_wp2_with fail
            go_ret
            exact ⟨ret_bool HE.out.symm, below_dr _ _⟩
          · have HOK : Hid (okl (n, v) = true) := by show _ = _; simp [okl, HNM.out]; omega
            have v1' : ¬ (v.size : Int) < 1 := by omega
            have v16' : ¬ (16 : Int) < (v.size : Int) := by omega
            go_wp2_with fail
            refine Calls.mono (Hnm.out _) ?_
            rintro e w' ⟨rfl, hw'⟩; rw [hw']; clear hw' w'
            go_wp2_with fail
            go_loopw [5] (fun i wr => ∃ j q' : Nat, i = .int .i64 (j : Int) ∧ j ≤ k ∧ Hid (∀ t, t < j → (ls.getD t l0).1 ≠ n) ∧ wr = w.drewN q') (fun i _ => k - (intOf i).toNat)
            case atStart => exact ⟨0, q, rfl, Nat.zero_le _, (fun t ht => by omega), rfl⟩
            case round =>
              obtain ⟨j, q', rfl, hj, HJ, rfl⟩ := hrel
              by_cases hjk : j < k
              · have hjk' : (j : Int) < (k : Int) := by omega
                have hjl' : (j : Int) < (len : Int) := by omega
                obtain ⟨g', off', eg, hg', d0, d1⟩ := HI.out.1.rd.at (k := j) (by omega)
                cases eg
                have HND' := HND.out j hjk
                obtain ⟨y, hy⟩ : ∃ y, Hid (y = ls.getD j l0) := ⟨_, rfl⟩
                rw [← hy.out] at d0 d1 HND'
                have HD : Hid (y.1 = n → b = false) := HND'
                clear HND'
                obtain ⟨n', v'⟩ := y
                simp only at d0 d1 HD
                by_cases e : n' = n
                · have e' : (n'.toList == n.toList) = true := by rw [beq_eq]; simpa using e
                  have HE : Hid (b = false) := HD.out e
                  clear e
                  go_wp2
                  go_quiet (fail)
                  go_wp2
                  go_ret
                  exact ⟨ret_bool HE.out.symm, ⟨rfl, rfl, rfl, Nat.le_refl _, fun _ _ => rfl⟩⟩
                · have e' : (n'.toList == n.toList) = false := by rw [beq_eq]; simpa using e
                  have HE : Hid (n' ≠ n) := e
                  clear e
                  go_wp2
                  go_quiet (fail)
                  go_wp2
                  go_roundw
                  case rel =>
                    refine ⟨j + 1, _, by go_num, by omega, fun t ht => ?_, rfl⟩
                    by_cases htj : t = j
                    · subst htj; rw [← hy.out]; exact HE.out
                    · exact HJ.out t (by omega)
                  case measure => simp [intOf]; omega
              · have hjk' : ¬ (j : Int) < (k : Int) := by omega
                go_wp2
                go_roundw
                case rel =>
                  refine ⟨k + 1, q', by go_num, by omega, fun t ht => ?_, rfl⟩
                  by_cases htk : t = k
                  · subst htk
                    rw [← hx.out]
                    exact ⟨HOK.out, fun i hi => HJ.out i (by omega)⟩
                  · exact HA.out t (by omega)
                case measure => simp [intOf]; omega
    · have hlt' : ¬ (k : Int) < (len : Int) := by omega
      have HE : Hid (b = true) := by
        show _ = _
        rw [hb.out]
        exact decide_eq_true (may_all (by rw [HI.out.1.hl]; omega) (by rw [HI.out.1.hl]; omega) (fun t ht => HA.out t (by rw [HI.out.1.hl] at ht; omega)))
      go_wp2
      go_ret
      exact ⟨ret_bool HE.out.symm, below_dr _ _⟩
end Go.Proofs.Ythklkhdcmoonkaa
