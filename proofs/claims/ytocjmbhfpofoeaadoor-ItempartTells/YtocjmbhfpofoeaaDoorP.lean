/- The contracts of Common, Check and Seek. Conditions: those of each theorem. -/
import Derived.Test.YtocjmbhfpofoeaaDoorO
namespace Go.Proofs.YtocjmbhfpofoeaaDoor
open Go.RowKit

set_option maxHeartbeats 1600000 in
theorem common_any (a1 : Option Addr) (n1 c1 : Nat) (x : List Int) (a2 : Option Addr) (n2 c2 : Nat) (y : List Int) (w : World) (h1 : IsI .u8 w a1 n1 c1 x) (h2 : IsI .u8 w a2 n2 c2 y) :
    Calls Tryd.prog 60 #[.slice a1 n1 c1, .slice a2 n2 c2] w fun e w' => e = .returned (.int .i64 (cm x y)) ∧ ∃ q, w' = w.drewN q := by
  have hm1 := h1.hm
  have hc1 := h1.hc
  have hm2 := h2.hm
  have hc2 := h2.hc
  unfold maxLen at hm1 hm2
  obtain ⟨b, hb⟩ : ∃ b, Hid (b = cm x y) := ⟨_, rfl⟩
  rw [← hb.out]
  have HI : Hid (IsI .u8 w a1 n1 c1 x ∧ IsI .u8 w a2 n2 c2 y) := ⟨h1, h2⟩
  clear h1 h2
  obtain ⟨M, hM⟩ : ∃ M, Hid (M = min n1 n2) := ⟨_, rfl⟩
  have hmin : ∀ ts t w', Sem.run Tryd.prog (Builtin.min_ ts t #[.int .i64 (n1 : Int), .int .i64 (n2 : Int)]) w' = .ok (.int .i64 (M : Int)) w' := by
    intro ts t w'
    have := hM.out
    rw [run_min_int2]
    congr 2
    split <;> omega
  have hM1 : M ≤ n1 := by have := hM.out; omega
  have hM2 : M ≤ n2 := by have := hM.out; omega
  go_enter Tryd.func60, Tryd.ntmps60
  go_wp2
  go_loopw [5] (fun i wr => ∃ k q : Nat, i = .int .i64 (k : Int) ∧ k ≤ M ∧ Hid (∀ j, j < k → x.getD j 0 = y.getD j 0) ∧ wr = w.drewN q) (fun i _ => n1 - (intOf i).toNat)
  case atStart => exact ⟨0, 0, rfl, Nat.zero_le _, (fun j hj => by omega), rfl⟩
  case round =>
    obtain ⟨k, q, rfl, hk, HA, rfl⟩ := hrel
    have hk0 : (0 : Int) ≤ (k : Int) := by omega
    by_cases hlt : k < M
    · have hlt' : decide ((k : Int) < (M : Int)) = true := by simp; omega
      have hlt2 : (k : Int) < (M : Int) := by omega
      have hlt3 : (k : Int) < (n1 : Int) := by omega
      have hlt4 : (k : Int) < (n2 : Int) := by omega
      obtain ⟨g, off, rfl, hg, c0⟩ := HI.out.1.lt (by omega)
      obtain ⟨g', off', rfl, hg', c0'⟩ := HI.out.2.lt (by omega)
      have d0 := c0 k (by omega)
      have d1 := c0' k (by omega)
      clear c0 c0'
      obtain ⟨p, hp⟩ : ∃ p, Hid (p = x.getD k 0) := ⟨_, rfl⟩
      obtain ⟨r, hr⟩ : ∃ r, Hid (r = y.getD k 0) := ⟨_, rfl⟩
      rw [← hp.out] at d0
      rw [← hr.out] at d1
      by_cases e : p = r
      · have e' : (p == r) = true := by simpa using e
        have HT : Hid (∀ j, j < k + 1 → x.getD j 0 = y.getD j 0) := fun j h1 => by
          rcases Nat.lt_succ_iff_lt_or_eq.1 h1 with h3 | h3
          · exact HA.out j h3
          · subst h3; rw [← hp.out, ← hr.out]; exact e
        clear e hp hr
        go_wp2
        go_quiet (fail)
        go_wp2
        go_roundw
        case rel => exact ⟨k + 1, _, by go_num, by omega, HT.out, rfl⟩
        case measure => simp [intOf]; omega
      · have e' : (p == r) = false := by simpa using e
        have HN : Hid (cm x y = k) := cm_is (by rw [HI.out.1.hl]; omega) (by rw [HI.out.2.hl]; omega) HA.out (.inr (.inr (by rw [← hp.out, ← hr.out]; exact e)))
        clear e hp hr
        go_wp2
        go_quiet (fail)
        go_wp2
        go_ret
        exact ⟨ret_nat (by rw [hb.out, HN.out]), _, (drewN_add _ _ _).symm⟩
    · have hlt' : decide ((k : Int) < (M : Int)) = false := by simp; omega
      have hlt2 : ¬ (k : Int) < (M : Int) := by omega
      have HN : Hid (cm x y = k) := cm_is (by rw [HI.out.1.hl]; omega) (by rw [HI.out.2.hl]; omega) HA.out (by rw [HI.out.1.hl, HI.out.2.hl]; have := hM.out; omega)
      go_wp2
      go_quiet (fail)
      go_wp2
      go_ret
      exact ⟨ret_nat (by rw [hb.out, HN.out]), _, (drewN_add _ _ _).symm⟩

/-- Behind what is ahead, all are short enough and rise. -/
def good : List Int → List (List Int) → Bool
  | _, [] => true
  | ah, x :: r => decide (x.length ≤ 400) && (li ah x && good x r)
/-- Check's answer. -/
def chk (ls : List (List Int)) : Int := if 8 < ls.length then 2 else if ls = [] then 1 else if good [] ls = true then 0 else 1
theorem good_step {ah : List Int} {ls : List (List Int)} {k : Nat} (hk : k < ls.length) : good ah (ls.drop k) = (decide ((ls.getD k []).length ≤ 400) && (li ah (ls.getD k []) && good (ls.getD k []) (ls.drop (k + 1)))) := by
  rw [drop_consR ls k hk, good]
theorem ret_i {a b : Int} (h : a = b) : Ending.returned (.int .i64 a) = .returned (.int .i64 b) := by rw [h]
theorem ci_le {a b : List Int} : ci a b ≤ 0 ↔ li b a = false := by
  have h := ci_neg (a := b) (b := a)
  have h2 := ci_turn b a
  constructor
  · intro h1; rw [Bool.eq_false_iff]; intro h3; have := h.2 h3; omega
  · intro h1; have : ¬ ci b a < 0 := fun h3 => by rw [h.1 h3] at h1; cases h1
    omega

set_option maxHeartbeats 1600000 in
theorem check_any (a : Option Addr) (len cap : Nat) (ls : List (List Int)) (w : World) (hI : IsR w a len cap ls) (hwf : WfR ls) :
    Calls Tryd.prog 58 #[.slice a len cap] w fun e w' => e = .returned (.int .i64 (chk ls)) ∧ w' = w := by
  have hm := hI.hm
  have hc := hI.hc
  unfold maxLen at hm
  obtain ⟨b, hb⟩ : ∃ b, Hid (b = chk ls) := ⟨_, rfl⟩
  rw [← hb.out]
  have HI : Hid (IsR w a len cap ls ∧ WfR ls) := ⟨hI, hwf⟩
  clear hI hwf
  by_cases h8 : 8 < len
  · have h' : (8 : Int) < (len : Int) := by omega
    go_enter Tryd.func58, Tryd.ntmps58
    go_wp2
    go_ret
    refine ⟨ret_i ?_, rfl⟩
    rw [hb.out, chk, if_pos (by rw [HI.out.1.hl]; exact h8)]
  have h' : ¬ (8 : Int) < (len : Int) := by omega
  by_cases h0 : len = 0
  · subst h0
    go_enter Tryd.func58, Tryd.ntmps58
    go_wp2
    go_ret
    refine ⟨ret_i ?_, rfl⟩
    have hl := HI.out.1.hl
    obtain rfl : ls = [] := List.eq_nil_of_length_eq_zero hl
    rw [hb.out]; rfl
  have h0' : ((len : Int) == 0) = false := by simp; omega
  have HC : Hid (chk ls = if good [] ls = true then 0 else 1) := by
    show chk ls = _
    rw [chk, if_neg (by rw [HI.out.1.hl]; exact h8), if_neg (by rintro rfl; exact h0 (by have := HI.out.1.hl; simpa using this.symm))]
  go_enter Tryd.func58, Tryd.ntmps58
  go_wp2
  go_loop [3, 5, 14] (fun ah _ i => ∃ k : Nat, k ≤ len ∧ i = .int .i64 (k : Int) ∧ ∃ aa na ca A, ah = .slice aa na ca ∧ Hid (IsI .u8 w aa na ca A ∧ Bytes A ∧ good [] ls = good A (ls.drop k))) (fun _ _ i => len - (intOf i).toNat)
  case atStart => exact ⟨0, Nat.zero_le _, rfl, none, 0, 0, [], rfl, ⟨isI_nil _ _, bytes_nil, rfl⟩⟩
  case round =>
    obtain ⟨k, hk, rfl, aa, na, ca, A, rfl, HA⟩ := hrel
    by_cases hlt : k < len
    · have hlt' : (k : Int) < (len : Int) := by omega
      have hkl : k < ls.length := by rw [HI.out.1.hl]; exact hlt
      obtain ⟨g, off, ai, ni, ci', rfl, hg, c0, hi⟩ := HI.out.1.rd.at hkl
      have hby := HI.out.2 _ (getD_memR hkl)
      have hst := HA.out.2.2
      rw [good_step hkl] at hst
      obtain ⟨X, hX⟩ : ∃ X, Hid (X = ls.getD k []) := ⟨_, rfl⟩
      rw [← hX.out] at hi hby hst
      have him := hi.hm
      have hic := hi.hc
      unfold maxLen at him
      have HX : Hid (IsI .u8 w ai ni ci' X ∧ Bytes X ∧ good [] ls = (decide (X.length ≤ 400) && (li A X && good X (ls.drop (k + 1))))) := ⟨hi, hby, hst⟩
      clear hi hby hst hkl hX
      by_cases a1 : 400 < ni
      · have a1' : (400 : Int) < (ni : Int) := by omega
        go_wp2_with fail
        go_ret
        refine ⟨ret_i ?_, rfl⟩
        rw [hb.out, HC.out, HX.out.2.2, decide_eq_false (by rw [HX.out.1.hl]; omega)]; rfl
      · have a1' : ¬ (400 : Int) < (ni : Int) := by omega
        obtain ⟨z, hz⟩ : ∃ z, Hid (z = ci X A) := ⟨_, rfl⟩
        have HCm := compare_any ai aa ni ci' na ca X A w HX.out.2.1 HA.out.2.1 HX.out.1 HA.out.1
        rw [← hz.out] at HCm
        have HCm' : Hid _ := HCm
        clear HCm
        by_cases e : z ≤ 0
        · go_wp2_with fail
          refine Calls.mono HCm'.out ?_
          rintro e w' ⟨rfl, hw'⟩; rw [hw']; clear hw' w'
          go_wp2_with fail
          go_ret
          refine ⟨ret_i ?_, rfl⟩
          have e2 : li A X = false := ci_le.1 (by rw [← hz.out]; exact e)
          rw [hb.out, HC.out, HX.out.2.2, e2]; simp
        · go_wp2_with fail
          refine Calls.mono HCm'.out ?_
          rintro e w' ⟨rfl, hw'⟩; rw [hw']; clear hw' w'
          go_wp2_with fail
          go_round
          case rel =>
            refine ⟨k + 1, by omega, by go_num, ai, ni, ci', X, rfl, HX.out.1, HX.out.2.1, ?_⟩
            have e2 : li A X = true := by
              cases h : li A X with
              | true => rfl
              | false => exact absurd (ci_le.2 h) (by rw [← hz.out]; omega)
            rw [HX.out.2.2, e2, decide_eq_true (by rw [HX.out.1.hl]; omega)]; simp
          case measure => simp [intOf]; omega
    · have hlt' : ¬ (k : Int) < (len : Int) := by omega
      go_wp2_with fail
      go_ret
      refine ⟨ret_i ?_, rfl⟩
      have := HA.out.2.2
      rw [List.drop_of_length_le (by rw [HI.out.1.hl]; omega), good] at this
      rw [hb.out, HC.out, this]; rfl
end Go.Proofs.YtocjmbhfpofoeaaDoor
