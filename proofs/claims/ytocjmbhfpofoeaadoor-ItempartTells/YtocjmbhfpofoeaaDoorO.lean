/- The contracts of Same, of the document's own Seek and Common, of Common, of Check. Conditions: those of each theorem. -/
import Derived.Test.YtocjmbhfpofoeaaDoorN
namespace Go.Proofs.YtocjmbhfpofoeaaDoor
open Go.RowKit

theorem drewN_add (w : World) (q n : Nat) : w.drewN (q + n) = (w.drewN q).drewN n := by
  simp [World.drewN, Nat.add_assoc]
theorem rows_ne {us vs : List (List Int)} {k : Nat} (h : us.getD k [] ≠ vs.getD k []) : us ≠ vs := by
  rintro rfl; exact h rfl
theorem rows_eq {us vs : List (List Int)} (hl : us.length = vs.length) (h : ∀ j, j < us.length → us.getD j [] = vs.getD j []) : us = vs := by
  apply List.ext_getElem hl
  intro j h1 h2
  have := h j h1
  rwa [getD_eqR h1, getD_eqR h2] at this

set_option maxHeartbeats 1600000 in
theorem same_any (a1 : Option Addr) (n1 c1 : Nat) (us : List (List Int)) (a2 : Option Addr) (n2 c2 : Nat) (vs : List (List Int)) (w : World) (h1 : IsR w a1 n1 c1 us) (wf1 : WfR us) (h2 : IsR w a2 n2 c2 vs) (wf2 : WfR vs) :
    Calls Tryd.prog 15 #[.slice a1 n1 c1, .slice a2 n2 c2] w fun e w' => e = .returned (.bool (decide (us = vs))) ∧ Below w.heap.size w w' := by
  have hm1 := h1.hm
  have hc1 := h1.hc
  have hm2 := h2.hm
  have hc2 := h2.hc
  unfold maxLen at hm1 hm2
  obtain ⟨b, hb⟩ : ∃ b, Hid (b = decide (us = vs)) := ⟨_, rfl⟩
  rw [← hb.out]
  have HI : Hid ((IsR w a1 n1 c1 us ∧ WfR us) ∧ IsR w a2 n2 c2 vs ∧ WfR vs) := ⟨⟨h1, wf1⟩, h2, wf2⟩
  clear h1 wf1 h2 wf2
  by_cases hn : n1 = n2
  · subst hn
    go_enter Tryd.func15, Tryd.ntmps15
    go_wp2
    go_loopw [5] (fun i wr => ∃ k q : Nat, i = .int .i64 (k : Int) ∧ k ≤ n1 ∧ Hid (∀ j, j < k → us.getD j [] = vs.getD j []) ∧ wr = w.drewN q) (fun i _ => n1 - (intOf i).toNat)
    case atStart => exact ⟨0, 0, rfl, Nat.zero_le _, (fun j hj => by omega), rfl⟩
    case round =>
      obtain ⟨k, q, rfl, hk, HA, rfl⟩ := hrel
      by_cases hlt : k < n1
      · have hlt' : (k : Int) < (n1 : Int) := by omega
        have hk0 : (0 : Int) ≤ (k : Int) := by omega
        have hkl : k < us.length := by rw [HI.out.1.1.hl]; omega
        have hkl1 : k < vs.length := by rw [HI.out.2.1.hl]; omega
        obtain ⟨g, off, ai, ni, ci, rfl, hg, c0, hi⟩ := HI.out.1.1.rd.at hkl
        obtain ⟨g', off', aj, nj, cj, rfl, hg', c1', hj⟩ := HI.out.2.1.rd.at hkl1
        have v0 := conv_drew w ai ci ni _ hi
        have v1 := conv_drew w aj cj nj _ hj
        have hl := str_same (HI.out.1.2 _ (getD_memR hkl)) (HI.out.2.2 _ (getD_memR hkl1))
        obtain ⟨r, hr⟩ : ∃ r, Hid (r = decide (us.getD k [] = vs.getD k [])) := ⟨_, rfl⟩
        rw [← hr.out] at hl
        have HN : Hid (r = false → decide (us = vs) = false) := fun h => decide_eq_false (rows_ne (of_decide_eq_false (by rw [← hr.out]; exact h)))
        have HT : Hid (r = true → ∀ j, j < k + 1 → us.getD j [] = vs.getD j []) := fun h j h1 => by
          rcases Nat.lt_succ_iff_lt_or_eq.1 h1 with h3 | h3
          · exact HA.out j h3
          · subst h3; exact of_decide_eq_true (by rw [← hr.out]; exact h)
        generalize strOfNums (us.getD k []) = M at *
        generalize strOfNums (vs.getD k []) = E at *
        clear hi hj hkl hkl1 hr
        cases r with
        | false =>
          go_wp2
          go_quiet (fail)
          go_wp2
          go_ret
          exact ⟨ret_bool (by rw [hb.out, HN.out trivial]), below_dr2 _ _ _⟩
        | true =>
          go_wp2
          go_quiet (fail)
          go_wp2
          go_roundw
          case rel => exact ⟨k + 1, _, by go_num, by omega, HT.out trivial, rfl⟩
          case measure => simp [intOf]; omega
      · have hlt' : ¬ (k : Int) < (n1 : Int) := by omega
        go_wp2
        go_ret
        refine ⟨ret_bool ?_, below_dr _ _⟩
        rw [hb.out, decide_eq_true (rows_eq (by rw [HI.out.1.1.hl, HI.out.2.1.hl]) fun j hj => HA.out j (by rw [HI.out.1.1.hl] at hj; omega))]
  · have hn' : ((n1 : Int) == (n2 : Int)) = false := by simp; omega
    go_enter Tryd.func15, Tryd.ntmps15
    go_wp2
    go_ret
    refine ⟨ret_bool ?_, Below.refl _ _⟩
    rw [hb.out, decide_eq_false]
    rintro rfl
    exact hn (by rw [← HI.out.1.1.hl, ← HI.out.2.1.hl])

/-- Where the first item stands that isn't ahead. -/
def sk : List (List Int) → List Int → Nat
  | [], _ => 0
  | a :: r, x => if li a x = true then sk r x + 1 else 0
theorem sk_is : ∀ {ls : List (List Int)} {x : List Int} {n : Nat}, n ≤ ls.length → (∀ i, i < n → li (ls.getD i []) x = true) → (n = ls.length ∨ li (ls.getD n []) x = false) → sk ls x = n
  | [], x, n, h, _, _ => by simp at h; subst h; rfl
  | a :: r, x, 0, _, _, h => by
    rcases h with h | h
    · simp at h
    · simp at h; simp [sk, h]
  | a :: r, x, n + 1, hn, h, hs => by
    have h0 := h 0 (by omega)
    simp at h0
    rw [sk, if_pos h0]
    congr 1
    refine sk_is (by simpa using hn) (fun i hi => by simpa using h (i + 1) (by omega)) ?_
    rcases hs with h | h
    · left; simpa using h
    · right; simpa using h
theorem sk_le : ∀ (ls : List (List Int)) (x : List Int), sk ls x ≤ ls.length
  | [], _ => by simp [sk]
  | a :: r, x => by have := sk_le r x; rw [sk]; split <;> simp <;> omega
theorem ret_nat {a b : Nat} (h : a = b) : Ending.returned (.int .i64 (a : Int)) = .returned (.int .i64 (b : Int)) := by rw [h]

set_option maxHeartbeats 1600000 in
theorem refcommon_any (a1 : Option Addr) (n1 c1 : Nat) (x : List Int) (a2 : Option Addr) (n2 c2 : Nat) (y : List Int) (w : World) (h1 : IsI .u8 w a1 n1 c1 x) (h2 : IsI .u8 w a2 n2 c2 y) :
    Calls Tryd.prog 48 #[.slice a1 n1 c1, .slice a2 n2 c2] w fun e w' => e = .returned (.int .i64 (cm x y)) ∧ ∃ q, w' = w.drewN q := by
  have hm1 := h1.hm
  have hc1 := h1.hc
  have hm2 := h2.hm
  have hc2 := h2.hc
  unfold maxLen at hm1 hm2
  obtain ⟨b, hb⟩ : ∃ b, Hid (b = cm x y) := ⟨_, rfl⟩
  rw [← hb.out]
  have HI : Hid (IsI .u8 w a1 n1 c1 x ∧ IsI .u8 w a2 n2 c2 y) := ⟨h1, h2⟩
  clear h1 h2
  go_enter Tryd.func48, Tryd.ntmps48
  go_wp2
  go_loopw [5] (fun i wr => ∃ k q : Nat, i = .int .i64 (k : Int) ∧ k ≤ n1 ∧ k ≤ n2 ∧ Hid (∀ j, j < k → x.getD j 0 = y.getD j 0) ∧ wr = w.drewN q) (fun i _ => n1 - (intOf i).toNat)
  case atStart => exact ⟨0, 0, rfl, Nat.zero_le _, Nat.zero_le _, (fun j hj => by omega), rfl⟩
  case round =>
    obtain ⟨k, q, rfl, hk, hk2, HA, rfl⟩ := hrel
    have hk0 : (0 : Int) ≤ (k : Int) := by omega
    have hmx : (k : Int) ≤ 9223372036854775806 ∨ k = n1 := by omega
    by_cases hlt : k < n1
    · have hlt' : decide ((k : Int) < (n1 : Int)) = true := by simp; omega
      have hlt2 : (k : Int) < (n1 : Int) := by omega
      by_cases hlu : k < n2
      · have hlu' : decide ((k : Int) < (n2 : Int)) = true := by simp; omega
        have hlu2 : (k : Int) < (n2 : Int) := by omega
        obtain ⟨g, off, rfl, hg, c0⟩ := HI.out.1.lt (by omega)
        obtain ⟨g', off', rfl, hg', c0'⟩ := HI.out.2.lt (by omega)
        have d0 := c0 k hlt
        have d1 := c0' k hlu
        clear c0 c0'
        obtain ⟨p, hp⟩ : ∃ p, Hid (p = x.getD k 0) := ⟨_, rfl⟩
        obtain ⟨r, hr⟩ : ∃ r, Hid (r = y.getD k 0) := ⟨_, rfl⟩
        rw [← hp.out] at d0
        rw [← hr.out] at d1
        by_cases e : p = r
        · have e' : (p == r) = true := by simpa using e
          have HT : Hid (∀ j, j < k + 1 → x.getD j 0 = y.getD j 0) := fun j h1 => by
            rcases Nat.lt_succ_iff_lt_or_eq.1 h1 with h3 | h3
            · exact HA.out j h3
            · subst h3; rw [← hp.out, ← hr.out]; exact e
          clear e hp hr
          go_wp2
          go_quiet (fail)
          go_wp2
          go_roundw
          case rel => exact ⟨k + 1, _, by go_num, by omega, by omega, HT.out, rfl⟩
          case measure => simp [intOf]; omega
        · have e' : (p == r) = false := by simpa using e
          have HN : Hid (cm x y = k) := cm_is (by rw [HI.out.1.hl]; omega) (by rw [HI.out.2.hl]; omega) HA.out (.inr (.inr (by rw [← hp.out, ← hr.out]; exact e)))
          clear e hp hr
          go_wp2
          go_quiet (fail)
          go_wp2
          go_ret
          exact ⟨ret_nat (by rw [hb.out, HN.out]), _, (drewN_add _ _ _).symm⟩
      · have hlu' : decide ((k : Int) < (n2 : Int)) = false := by simp; omega
        have hlu2 : ¬ (k : Int) < (n2 : Int) := by omega
        go_wp2
        go_quiet (fail)
        go_wp2
        go_ret
        exact ⟨ret_nat (by rw [hb.out, cm_is (n := k) (by rw [HI.out.1.hl]; omega) (by rw [HI.out.2.hl]; omega) HA.out (.inr (.inl (by rw [HI.out.2.hl]; omega)))]), _, (drewN_add _ _ _).symm⟩
    · have hlt' : decide ((k : Int) < (n1 : Int)) = false := by simp; omega
      have hlt2 : ¬ (k : Int) < (n1 : Int) := by omega
      go_wp2
      go_quiet (fail)
      go_wp2
      go_ret
      exact ⟨ret_nat (by rw [hb.out, cm_is (n := k) (by rw [HI.out.1.hl]; omega) (by rw [HI.out.2.hl]; omega) HA.out (.inl (by rw [HI.out.1.hl]; omega))]), _, (drewN_add _ _ _).symm⟩
end Go.Proofs.YtocjmbhfpofoeaaDoor
