/- The contract of the document's own Compare. Conditions: sizes. -/
import Derived.Test.YthklkhdcmoonkaaP
import Derived.Laws.Cover1
namespace Go.Proofs.Ythklkhdcmoonkaa
open Go.RowKit

set_option maxHeartbeats 800000 in
theorem texts_any (a b : ByteArray) (w : World) : Calls Try.prog 42 #[.string a, .string b] w fun e w' => e = .returned (.int .i64 (ci (nums a) (nums b))) ∧ w' = w := by
  have hl := bl_eq a b
  have he := beq_eq a b
  obtain ⟨r, hr⟩ : ∃ r, Hid (r = ci (nums a) (nums b)) := ⟨_, rfl⟩
  rw [← hr.out]
  cases h1 : li (nums a) (nums b) with
  | true =>
    have HH : Hid (ci (nums a) (nums b) = -1) := if_pos h1
    rw [h1] at hl
    clear h1 he
    go_enter Try.func42, Try.ntmps42
    go_wp2
    go_ret
    exact ⟨ret_int (by rw [hr.out, HH.out]), rfl⟩
  | false =>
    rw [h1] at hl
    by_cases h2 : a = b
    · have HH : Hid (ci (nums a) (nums b) = 0) := ci_zero.2 (by rw [h2])
      rw [decide_eq_true h2] at he
      clear h1 h2
      go_enter Try.func42, Try.ntmps42
      go_wp2
      go_ret
      exact ⟨ret_int (by rw [hr.out, HH.out]), rfl⟩
    · have HH : Hid (ci (nums a) (nums b) = 1) := by
        show _ = _
        unfold ci; rw [if_neg (by rw [h1]; simp), if_neg (fun e => h2 (nums_inj e))]
      rw [decide_eq_false h2] at he
      clear h1 h2
      go_enter Try.func42, Try.ntmps42
      go_wp2
      go_ret
      exact ⟨ret_int (by rw [hr.out, HH.out]), rfl⟩
theorem cm1_zero {x y : Lb} : cm1 x y = 0 ↔ x = y := by
  unfold cm1 orr
  constructor
  · intro h
    by_cases h1 : ci (nums x.1) (nums y.1) = 0
    · rw [if_pos h1] at h
      exact Prod.ext (nums_inj (ci_zero.1 h1)) (nums_inj (ci_zero.1 h))
    · rw [if_neg h1] at h; exact absurd h h1
  · rintro rfl
    rw [if_pos (ci_zero.2 rfl)]; exact ci_zero.2 rfl
theorem cml_cons (x y : Lb) (a b : List Lb) : cml (x :: a) (y :: b) = orr (cm1 x y) (cml a b) := by
  rw [cml]
  by_cases h : x = y
  · rw [if_pos h, cm1_zero.2 h]; rfl
  · rw [if_neg h, orr, if_neg (fun e => h (cm1_zero.1 e))]

set_option maxRecDepth 20000 in
set_option maxHeartbeats 4000000 in
theorem refcompare_any (a1 a2 : Option Addr) (n1 n2 c1 c2 : Nat) (l1 l2 : List Lb) (w : World) (hn1 : n1 ≤ 100000) (hn2 : n2 ≤ 100000) (h1 : IsL w a1 n1 c1 l1) (h2 : IsL w a2 n2 c2 l2) :
    Calls Try.prog 27 #[.slice a1 n1 c1, .slice a2 n2 c2] w fun e w' => e = .returned (.int .i64 (cml l1 l2)) ∧ Below w.heap.size w w' := by
  obtain ⟨b, hb⟩ : ∃ b, Hid (b = cml l1 l2) := ⟨_, rfl⟩
  rw [← hb.out]
  have HI : Hid (IsL w a1 n1 c1 l1 ∧ IsL w a2 n2 c2 l2) := ⟨h1, h2⟩
  clear h1 h2
  go_enter Try.func27, Try.ntmps27
  go_wp2
  go_loopw [5, 6] (fun i _ wr => ∃ k q : Nat, i = .int .i64 (k : Int) ∧ k ≤ n1 ∧ k ≤ n2 ∧ Hid (cml l1 l2 = cml (l1.drop k) (l2.drop k)) ∧ wr = w.drewN q) (fun i _ _ => n1 - (intOf i).toNat)
  case atStart => exact ⟨0, 0, rfl, Nat.zero_le _, Nat.zero_le _, rfl, rfl⟩
  case round =>
    obtain ⟨k, q, rfl, hk, hk', HT, rfl⟩ := hrel
    by_cases hlt : k < n1 ∧ k < n2
    · obtain ⟨ha, hb'⟩ := hlt
      have hlt1 : (k : Int) < (n1 : Int) := by omega
      have hlt2 : (k : Int) < (n2 : Int) := by omega
      have hk0 : (0 : Int) ≤ (k : Int) := by omega
      have hk1 : k < l1.length := by rw [HI.out.1.hl]; omega
      have hk2 : k < l2.length := by rw [HI.out.2.hl]; omega
      obtain ⟨g1, o1, rfl, hg1, p0, p1⟩ := HI.out.1.rd.at hk1
      obtain ⟨g2, o2, rfl, hg2, q0, q1⟩ := HI.out.2.rd.at hk2
      have HN : Hid (cml l1 l2 = orr (cm1 (l1.getD k l0) (l2.getD k l0)) (cml (l1.drop (k + 1)) (l2.drop (k + 1)))) := by
        show _ = _
        rw [HT.out, drop_consL l1 k hk1, drop_consL l2 k hk2, cml_cons]
      obtain ⟨x, hx⟩ : ∃ x, Hid (x = l1.getD k l0) := ⟨_, rfl⟩
      obtain ⟨y, hy⟩ : ∃ y, Hid (y = l2.getD k l0) := ⟨_, rfl⟩
      rw [← hx.out] at p0 p1 HN
      rw [← hy.out] at q0 q1 HN
      clear hk1 hk2
      obtain ⟨n, v⟩ := x
      obtain ⟨n', v'⟩ := y
      simp only at p0 p1 q0 q1
      have HC : Hid (cm1 (n, v) (n', v') = orr (ci (nums n) (nums n')) (ci (nums v) (nums v'))) := rfl
      obtain ⟨x1, hx1⟩ : ∃ x, Hid (x = ci (nums n) (nums n')) := ⟨_, rfl⟩
      obtain ⟨x2, hx2⟩ : ∃ x, Hid (x = ci (nums v) (nums v')) := ⟨_, rfl⟩
      rw [← hx1.out, ← hx2.out] at HC
      have HS1 : Hid (∀ W, Calls Try.prog 42 #[.string n, .string n'] W fun e w' => e = .returned (.int .i64 x1) ∧ w' = W) := fun W => by rw [hx1.out]; exact texts_any n n' W
      have HS2 : Hid (∀ W, Calls Try.prog 42 #[.string v, .string v'] W fun e w' => e = .returned (.int .i64 x2) ∧ w' = W) := fun W => by rw [hx2.out]; exact texts_any v v' W
      by_cases e1 : x1 = 0
      · subst e1
        by_cases e2 : x2 = 0
        · subst e2
          go_wp2
          go_quiet ((go_at_call 42; exact Calls.mono (HS1.out _) (fun _ _ h => ⟨h.1, _, h.2⟩)))
          go_wp2
          go_quiet ((go_at_call 42; exact Calls.mono (HS2.out _) (fun _ _ h => ⟨h.1, _, h.2⟩)))
          go_wp2
          go_roundw
          case rel => exact ⟨k + 1, _, by go_num, by omega, by omega, (by rw [HN.out, HC.out]; rfl : cml l1 l2 = cml (l1.drop (k + 1)) (l2.drop (k + 1))), rfl⟩
          case measure => simp [intOf]; omega
        · have n2' : (x2 == 0) = false := by simpa using e2
          have HE : Hid (cml l1 l2 = x2) := by show _ = _; rw [HN.out, HC.out]; simp [orr, e2]
          clear e2
          go_wp2
          go_quiet ((go_at_call 42; exact Calls.mono (HS1.out _) (fun _ _ h => ⟨h.1, _, h.2⟩)))
          go_wp2
          go_quiet ((go_at_call 42; exact Calls.mono (HS2.out _) (fun _ _ h => ⟨h.1, _, h.2⟩)))
          go_wp2
          go_ret
          exact ⟨ret_int (by rw [hb.out, HE.out]), ⟨rfl, rfl, rfl, Nat.le_refl _, fun _ _ => rfl⟩⟩
      · have n1' : (x1 == 0) = false := by simpa using e1
        have HE : Hid (cml l1 l2 = x1) := by show _ = _; rw [HN.out, HC.out]; simp [orr, e1]
        clear e1
        go_wp2
        go_quiet ((go_at_call 42; exact Calls.mono (HS1.out _) (fun _ _ h => ⟨h.1, _, h.2⟩)))
        go_wp2
        go_ret
        exact ⟨ret_int (by rw [hb.out, HE.out]), ⟨rfl, rfl, rfl, Nat.le_refl _, fun _ _ => rfl⟩⟩
    · have HE : Hid (cml l1 l2 = cI n1 n2) := by
        show _ = _
        rw [HT.out, cml_end (by rw [HI.out.1.hl, HI.out.2.hl]; omega), HI.out.1.hl, HI.out.2.hl]
      rcases Nat.lt_trichotomy n1 n2 with h | h | h
      · have e : cI n1 n2 = -1 := by unfold cI; rw [if_pos h]
        have g1 : ¬ (k : Int) < (n1 : Int) := by omega
        have g2 : (n1 : Int) < (n2 : Int) := by omega
        rw [e] at HE
        go_wp2
        go_ret
        exact ⟨ret_int (by rw [hb.out, HE.out]), below_dr _ _⟩
      · subst h
        have e : cI n1 n1 = 0 := by unfold cI; rw [if_neg (by omega), if_neg (by omega)]
        have g1 : ¬ (k : Int) < (n1 : Int) := by omega
        rw [e] at HE
        go_wp2
        go_ret
        exact ⟨ret_int (by rw [hb.out, HE.out]), below_dr _ _⟩
      · have e : cI n1 n2 = 1 := by unfold cI; rw [if_neg (by omega), if_pos h]
        have g1 : ¬ (k : Int) < (n2 : Int) := by omega
        have g2 : ¬ (n1 : Int) < (n2 : Int) := by omega
        have g3 : (n2 : Int) < (n1 : Int) := by omega
        have g4 : (k : Int) < (n1 : Int) := by omega
        rw [e] at HE
        go_wp2
        go_ret
        exact ⟨ret_int (by rw [hb.out, HE.out]), below_dr _ _⟩
end Go.Proofs.Ythklkhdcmoonkaa
