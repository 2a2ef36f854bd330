/- The contract of the document's own nearest: it tells the nearest double's rung. Conditions: a mantissa of at most fifteen digits, an exponent from -300 to 290. -/
import Derived.Test.YtmeimofnmpmaoaaGreatDoorBc
import Derived.Test.YtmeimofnmpmaoaaGreatDoorM
namespace Go.Proofs.YtmeimofnmpmaoaaGreatDoor
open Go.RowKit Fl
namespace Bn

theorem times10 (L : Nat) (hL : L ≤ 90) (v : Value) (N : Nat) (w : World) (hv : Big L w v N) (hlt : N * 10 < 65536 ^ L) :
    Calls Tryz.prog 30 #[v, .int .i64 10, .int .i64 0] w fun r w' => ∃ v', r = .returned v' ∧ Big L w' v' (N * 10) ∧ Below w.heap.size w w' := by
  have h := times_any L hL v N 10 w hv (by decide) (by decide) hlt
  simp only [Int.cast_ofNat_Int] at h
  exact h
theorem times2 (L : Nat) (hL : L ≤ 90) (v : Value) (N : Nat) (w : World) (hv : Big L w v N) (hlt : N * 2 < 65536 ^ L) :
    Calls Tryz.prog 30 #[v, .int .i64 2, .int .i64 0] w fun r w' => ∃ v', r = .returned v' ∧ Big L w' v' (N * 2) ∧ Below w.heap.size w w' := by
  have h := times_any L hL v N 2 w hv (by decide) (by decide) hlt
  simp only [Int.cast_ofNat_Int] at h
  exact h

theorem ten_two' (t : Nat) : 10 ^ (3 * t) ≤ 2 ^ (10 * t) := by
  rw [Nat.pow_mul, Nat.pow_mul]
  exact Nat.pow_le_pow_left (by decide) t

/-- What holds of the numbers that nearest meets: they are far below the bound. -/
structure Bd (L m D N : Nat) (e : Int) : Prop where
  d : D * 2 ^ 54 < 65536 ^ L
  n : N * 2 < 65536 ^ L
  nj : ∀ j, j < e.toNat → m * 10 ^ j * 10 < 65536 ^ L
  dj : ∀ j, j < (-e).toNat → 10 ^ j * 10 < 65536 ^ L
  v : ∀ v, N * 2 ^ v < D * 2 ^ 53 → v ≤ 1072
  u : ∀ u, D * 2 ^ u * 2 ^ 53 ≤ N → u ≤ 970
theorem bd_of {L m : Nat} {e : Int} (hL : L = 90) (m1 : 1 ≤ m) (m2 : m < 1000000000000000) (e0 : -300 ≤ e) (e1 : e ≤ 290) : Bd L m (10 ^ (-e).toNat) (m * 10 ^ e.toNat) e := by
  obtain ⟨t, ht⟩ : ∃ t : Nat, t = 102 := ⟨_, rfl⟩
  have hB : 65536 ^ L = 2 ^ (16 * L) := by rw [show (65536 : Nat) = 2 ^ 16 by decide, ← Nat.pow_mul]
  have hD : 10 ^ (-e).toNat ≤ 2 ^ (10 * t) := Nat.le_trans (Nat.pow_le_pow_right (by decide) (by omega)) (ten_two' t)
  have hN : m * 10 ^ e.toNat ≤ 2 ^ (10 * t) := by
    have h1 : m ≤ 10 ^ 15 := by have : (10 : Nat) ^ 15 = 1000000000000000 := by decide
                                omega
    refine Nat.le_trans (Nat.mul_le_mul_right _ h1) ?_
    rw [← Nat.pow_add]
    exact Nat.le_trans (Nat.pow_le_pow_right (by decide) (by omega)) (ten_two' t)
  have hN1 : 1 ≤ m * 10 ^ e.toNat := Nat.le_trans m1 (Nat.le_mul_of_pos_right _ (Nat.pow_pos (by decide)))
  have hD1 : 1 ≤ 10 ^ (-e).toNat := Nat.pow_pos (by decide)
  have lt2 : ∀ {a b : Nat}, a < b → 2 ^ a < 2 ^ b := fun h => Nat.pow_lt_pow_right (by decide) h
  refine ⟨?_, ?_, fun j hj => ?_, fun j hj => ?_, fun v hv => ?_, fun u hu => ?_⟩
  · rw [hB]
    refine Nat.lt_of_le_of_lt (Nat.mul_le_mul_right _ hD) ?_
    rw [← Nat.pow_add]; exact lt2 (by omega)
  · rw [hB]
    refine Nat.lt_of_le_of_lt (Nat.mul_le_mul_right _ hN) ?_
    rw [← Nat.pow_succ]; exact lt2 (by omega)
  · rw [hB, Nat.mul_assoc, ← Nat.pow_succ]
    refine Nat.lt_of_le_of_lt (Nat.mul_le_mul_left _ (Nat.pow_le_pow_right (by decide) (show j + 1 ≤ e.toNat by omega))) ?_
    exact Nat.lt_of_le_of_lt hN (lt2 (by omega))
  · rw [hB, ← Nat.pow_succ]
    refine Nat.lt_of_le_of_lt (Nat.pow_le_pow_right (by decide) (show j + 1 ≤ (-e).toNat by omega)) ?_
    exact Nat.lt_of_le_of_lt hD (lt2 (by omega))
  · have h1 : 1 * 2 ^ v ≤ m * 10 ^ e.toNat * 2 ^ v := Nat.mul_le_mul_right _ hN1
    have h2 : 10 ^ (-e).toNat * 2 ^ 53 ≤ 2 ^ (10 * t) * 2 ^ 53 := Nat.mul_le_mul_right _ hD
    rw [← Nat.pow_add] at h2
    have h3 : 2 ^ v < 2 ^ (10 * t + 53) := by omega
    have := (Nat.pow_lt_pow_iff_right (by decide : 1 < 2)).1 h3
    omega
  · have h1 : 1 * 2 ^ u * 2 ^ 53 ≤ 10 ^ (-e).toNat * 2 ^ u * 2 ^ 53 := Nat.mul_le_mul_right _ (Nat.mul_le_mul_right _ hD1)
    have h3 : 2 ^ (u + 53) ≤ 2 ^ (10 * t) := by
      rw [Nat.pow_add]
      rw [Nat.one_mul] at h1
      exact Nat.le_trans h1 (Nat.le_trans hu hN)
    have := (Nat.pow_le_pow_iff_right (by decide : 1 < 2)).1 h3
    omega

theorem Big.form {L : Nat} {w : World} {v : Value} {N : Nat} (h : Big L w v N) : ∃ a n c, v = .slice a n c := by
  obtain ⟨⟨a, n, c, ds, h, _⟩, _⟩ := h
  exact ⟨a, n, c, h⟩
theorem Big.one {L : Nat} {w : World} {v : Value} {N : Nat} (h : Big L w v N) : ∀ u ∈ [v], u.oneCell' = true := by
  obtain ⟨⟨a, n, c, ds, rfl, _⟩, _⟩ := h
  intro u hu; simp at hu; subst hu; rfl
set_option maxRecDepth 20000 in
theorem Tryz.info53 : (Tryz.prog.info? 53).map (fun i => (i.zero, i.size, i.bytes)) = some (some (.slice none 0 0), 1, 24) := by kernel_rfl
theorem info53_parts : ∃ i, Tryz.prog.info? 53 = some i ∧ i.zero = some (.slice none 0 0) ∧ i.size = 1 ∧ i.bytes = 24 := by
  obtain ⟨i, hi, hzz⟩ := Option.map_eq_some_iff.1 Tryz.info53
  simp only [Prod.mk.injEq] at hzz
  exact ⟨i, hi, hzz.1, hzz.2.1, hzz.2.2⟩
theorem own_cell {w : World} {base n size : Nat} {v : Value} {e : TypeId} {xs : List Value} (h : w.ownsRow base e size v n xs) (hn : 0 < n) : ∃ g cap, v = .slice (some ⟨g, 0, none⟩) n cap ∧ g < w.heap.size ∧ n ≤ cap ∧ cap ≤ maxLen ∧ ∀ j x, xs[j]? = some x → w.cell? ⟨g, j, none⟩ = some x := by
  rcases h.2 with ⟨_, h2⟩ | ⟨g, cap, cur, h1, h2, h3, h4, h5, h6, h7⟩
  · omega
  · refine ⟨g, cap, h1, (Array.getElem?_eq_some_iff.1 h3).1, h4, h5, fun j x hx => ?_⟩
    rw [← h7] at hx
    have hj : j < n * size := by
      rcases Nat.lt_or_ge j (n * size) with h | h
      · exact h
      · rw [List.getElem?_take, if_neg (by omega)] at hx; cases hx
    rw [List.getElem?_take, if_pos hj] at hx
    simp [World.cell?, h3]
    simpa using hx
theorem getV_snoc (l : List Value) (x : Value) (j : Nat) : (l ++ [x]).getD j undef = if j = l.length then x else l.getD j undef := by
  by_cases h : j = l.length
  · subst h; simp [List.getD]
  · rw [if_neg h]
    rcases Nat.lt_or_gt_of_ne h with h' | h'
    · simp [List.getD, List.getElem?_append_left h']
    · simp [List.getD, List.getElem?_eq_none (show (l ++ [x]).length ≤ j by simp; omega), List.getElem?_eq_none (show l.length ≤ j by omega)]

theorem ret_int {k : IntKind} {a b : Int} (h : a = b) : Ending.returned (.int k a) = .returned (.int k b) := by rw [h]
theorem quo_lt {D P Q N : Nat} (h : D * P * Q ≤ N) (hP : 1 ≤ P) (hN : N < D * 2 ^ 53) : Q < 9007199254740992 := by
  have h1 : D * Q ≤ D * P * Q := Nat.mul_le_mul_right _ (Nat.le_mul_of_pos_right _ hP)
  have h2 : D * Q < D * 2 ^ 53 := by omega
  have h3 := Nat.lt_of_mul_lt_mul_left h2
  have : (2 : Nat) ^ 53 = 9007199254740992 := by decide
  omega
theorem near_fin {N D u v Q rem : Nat} (h1 : D * 2 ^ u * 2 ^ 52 ≤ N * 2 ^ v) (h2 : N * 2 ^ v < D * 2 ^ u * 2 ^ 53) (h3 : v ≤ u + 1074) (hq : N * 2 ^ v = D * 2 ^ u * 1 * Q + rem) (hr : rem < D * 2 ^ u * 1) :
    ∃ Q1, 4503599627370496 ≤ Q1 ∧ Q1 ≤ 9007199254740992 ∧ Near N D ((u + 1074 - v) * 4503599627370496 + Q1) ∧
      (D * 2 ^ u < rem * 2 → Q1 = Q + 1) ∧ (rem * 2 < D * 2 ^ u → Q1 = Q) ∧ (¬ D * 2 ^ u < rem * 2 → ¬ rem * 2 < D * 2 ^ u → Q % 2 = 1 → Q1 = Q + 1) ∧ (¬ D * 2 ^ u < rem * 2 → ¬ rem * 2 < D * 2 ^ u → ¬ Q % 2 = 1 → Q1 = Q) := by
  have e52 : (2 : Nat) ^ 52 = 4503599627370496 := by decide
  have e53 : (2 : Nat) ^ 53 = 9007199254740992 := by decide
  rw [Nat.mul_one] at hq hr
  have g1 : 2 ^ 52 * (D * 2 ^ u) ≤ N * 2 ^ v := by rw [Nat.mul_comm (2 ^ 52)]; exact h1
  have g2 : N * 2 ^ v < 2 ^ 53 * (D * 2 ^ u) := by rw [Nat.mul_comm (2 ^ 53)]; exact h2
  have hN : Near N D ((u + 1074 - v) * 4503599627370496 + rq (N * 2 ^ v) (D * 2 ^ u)) := by
    rw [← e52]; exact ⟨u, v, g1, g2, h3, rfl⟩
  have hd : N * 2 ^ v / (D * 2 ^ u) = Q := by
    rw [hq, Nat.mul_add_div (by omega), Nat.div_eq_of_lt hr, Nat.add_zero]
  have hm : N * 2 ^ v % (D * 2 ^ u) = rem := by
    rw [hq, Nat.mul_add_mod, Nat.mod_eq_of_lt hr]
  have r1 := rq_le (N * 2 ^ v) (D * 2 ^ u)
  have r2 := rq_ge (N * 2 ^ v) (D * 2 ^ u) (by omega)
  have hrq : rq (N * 2 ^ v) (D * 2 ^ u) = Q + (if D * 2 ^ u < 2 * rem ∨ (2 * rem = D * 2 ^ u ∧ Q % 2 = 1) then 1 else 0) := by unfold rq; rw [hd, hm]
  refine ⟨_, ?_, ?_, hN, fun h => ?_, fun h => ?_, fun h h' h'' => ?_, fun h h' h'' => ?_⟩
  · rcases Nat.lt_or_ge (rq (N * 2 ^ v) (D * 2 ^ u)) 4503599627370496 with h | h
    · exfalso
      have : D * 2 ^ u * rq (N * 2 ^ v) (D * 2 ^ u) ≤ D * 2 ^ u * (4503599627370496 - 1) := Nat.mul_le_mul_left _ (by omega)
      rw [e52] at g1
      omega
    · exact h
  · rcases Nat.lt_or_ge 9007199254740992 (rq (N * 2 ^ v) (D * 2 ^ u)) with h | h
    · exfalso
      have : D * 2 ^ u * (9007199254740992 + 1) ≤ D * 2 ^ u * rq (N * 2 ^ v) (D * 2 ^ u) := Nat.mul_le_mul_left _ h
      rw [e53] at g2
      omega
    · exact h
  · rw [hrq, if_pos (.inl (by omega))]
  · rw [hrq, if_neg (by omega), Nat.add_zero]
  · rw [hrq, if_pos (.inr ⟨by omega, h''⟩)]
  · rw [hrq, if_neg (by omega), Nat.add_zero]

theorem big_one (L : Nat) (hL : 1 ≤ L) (w : World) : Big L (w.alloc (.cells #[.int .i64 1] 3)) (.slice (some ⟨w.heap.size, 0, none⟩) 1 1) 1 := by
  refine ⟨⟨_, 1, 1, [1], rfl, Nat.le_refl _, by decide, rfl, fun i => ?_, fun n hn => ?_, rfl, .inr ⟨w.heap.size, 0, rfl, ⟨_, _, heap_alloc_new w _⟩, fun i hi => ?_⟩⟩, ?_⟩
  · match i with
    | 0 => decide
    | i + 1 => simp
  · simp at hn; subst hn; decide
  · match i, hi with
    | 0, _ => simp
  · exact Nat.one_lt_pow (by omega) (by decide)

set_option maxRecDepth 40000 in
set_option maxHeartbeats 4000000 in
theorem refnear_any (m : Nat) (e : Int) (m1 : 1 ≤ m) (m2 : m < 1000000000000000) (e0 : -300 ≤ e) (e1 : e ≤ 290) (w : World) :
    Calls Tryz.prog 21 #[.int .i64 (m : Int), .int .i64 e] w fun r w' => ∃ R : Nat, r = .returned (.int .u64 (R : Int)) ∧ Near (m * 10 ^ e.toNat) (10 ^ (-e).toNat) R ∧ Below w.heap.size w w' := by
  obtain ⟨L, hLL⟩ : ∃ L : Nat, Hid (L = 90) := ⟨_, rfl⟩
  have hL : L ≤ 90 := by have := hLL.out; omega
  have hL4 : 4 ≤ L := by have := hLL.out; omega
  have HB : Hid _ := bd_of hLL.out m1 m2 e0 e1
  have HP : Hid (∃ D N : Nat, D = 10 ^ (-e).toNat ∧ N = m * 10 ^ e.toNat ∧ 0 < D) := ⟨_, _, rfl, rfl, Nat.pow_pos (by decide)⟩
  obtain ⟨D, N, hD, hN, hDp⟩ := HP.out
  have HDN : Hid (D = 10 ^ (-e).toNat ∧ N = m * 10 ^ e.toNat) := ⟨hD, hN⟩
  rw [← hD, ← hN] at HB ⊢
  clear hD hN HP
  go_enter Tryz.func21, Tryz.ntmps21
  go_wp2_with fail
  refine (natural_any L hL4 m m2 _).mono ?_
  rintro r w1 ⟨nu0, rfl, hnu0, b1⟩
  have one1 := big_one L (by omega) w1
  have nu1 := hnu0.below ((Below.refl _ _).alloc (Nat.le_refl _) (.cells #[.int .i64 1] 3))
  have bw1 : Below w.heap.size w (w1.alloc (.cells #[.int .i64 1] 3)) := b1.alloc b1.size _
  have H1 : Hid _ := And.intro one1 (And.intro nu1 bw1)
  clear one1 nu1 bw1 hnu0
  go_wp2_with fail
  go_loopw [5, 7] (fun nu i wr => ∃ j : Nat, i = .int .i64 (j : Int) ∧ j ≤ e.toNat ∧ Hid (Big L wr nu (m * 10 ^ j) ∧ Big L wr (.slice (some ⟨w1.heap.size, 0, none⟩) 1 1) 1) ∧ Below w.heap.size w wr) (fun _ i _ => e.toNat - (intOf i).toNat)
  case atStart => exact ⟨0, rfl, Nat.zero_le _, ⟨by simpa using H1.out.2.1, H1.out.1⟩, H1.out.2.2⟩
  case round =>
    obtain ⟨j, rfl, hj, hn, hb⟩ := hrel
    by_cases hje : j < e.toNat
    · have hje' : (j : Int) < e := by omega
      go_wp2_with fail
      refine (times10 L hL _ _ _ hn.out.1 (HB.out.nj j hje)).mono ?_
      rintro r w2 ⟨nu, rfl, hnu, b2⟩
      go_wp2_with fail
      go_roundw
      case rel => exact ⟨j + 1, by go_num, hje, ⟨by rw [Nat.pow_succ, ← Nat.mul_assoc]; exact hnu, hn.out.2.below b2⟩, hb.trans (b2.mono hb.size)⟩
      case measure => simp [intOf]; omega
    · have hje' : ¬ (j : Int) < e := by omega
      obtain rfl : j = e.toNat := by omega
      have hnN := hn.out
      rw [← HDN.out.2] at hnN
      have HN1 : Hid _ := hnN
      clear hn hnN
      go_wp2_with fail
      go_loopw [6, 8] (fun de i wr => ∃ j : Nat, i = .int .i64 (-(j : Int)) ∧ j ≤ (-e).toNat ∧ Hid (Big L wr u5 N ∧ Big L wr de (10 ^ j)) ∧ Below w.heap.size w wr) (fun _ i _ => (-e).toNat - (-(intOf i)).toNat)
      case atStart => exact ⟨0, rfl, Nat.zero_le _, ⟨HN1.out.1, by simpa using HN1.out.2⟩, hb⟩
      case round =>
        obtain ⟨j, rfl, hj, hn, hb⟩ := hrel
        by_cases hje : j < (-e).toNat
        · have hje' : e < -(j : Int) := by omega
          go_wp2_with fail
          refine (times10 L hL _ _ _ hn.out.2 (HB.out.dj j hje)).mono ?_
          rintro r w2 ⟨de, rfl, hde, b2⟩
          go_wp2_with fail
          go_roundw
          case rel => exact ⟨j + 1, by congr 1; omega, hje, ⟨hn.out.1.below b2, by rw [Nat.pow_succ]; exact hde⟩, hb.trans (b2.mono hb.size)⟩
          case measure => simp [intOf]; omega
        · have hje' : ¬ e < -(j : Int) := by omega
          obtain rfl : j = (-e).toNat := by omega
          have hnN := hn.out
          rw [← HDN.out.1] at hnN
          have HN2 : Hid _ := hnN
          clear hn hnN HN1
          go_wp2_with fail
          go_loopw [10, 11] (fun lo i wr => ∃ j : Nat, i = .int .i64 (j : Int) ∧ j ≤ 52 ∧ Hid (Big L wr u5 N ∧ Big L wr u6 D ∧ Big L wr lo (D * 2 ^ j)) ∧ Below w.heap.size w wr) (fun _ i _ => 52 - (intOf i).toNat)
          case atStart => exact ⟨0, rfl, Nat.zero_le _, ⟨HN2.out.1, HN2.out.2, by simpa using HN2.out.2⟩, hb⟩
          case round =>
            obtain ⟨j, rfl, hj, hn, hb⟩ := hrel
            by_cases hj52 : j < 52
            · have hj52' : (j : Int) < 52 := by omega
              have hlt : D * 2 ^ j * 2 < 65536 ^ L := by
                rw [Nat.mul_assoc, ← Nat.pow_succ]
                exact Nat.lt_of_le_of_lt (Nat.mul_le_mul_left _ (Nat.pow_le_pow_right (by decide) (by omega))) HB.out.d
              have HLT : Hid _ := hlt
              clear hlt
              go_wp2_with fail
              refine (times2 L hL _ _ _ hn.out.2.2 HLT.out).mono ?_
              rintro r w2 ⟨lo, rfl, hlo, b2⟩
              go_wp2_with fail
              go_roundw
              case rel => exact ⟨j + 1, by go_num, by omega, ⟨hn.out.1.below b2, hn.out.2.1.below b2, by rw [Nat.pow_succ, ← Nat.mul_assoc]; exact hlo⟩, hb.trans (b2.mono hb.size)⟩
              case measure => simp [intOf]; omega
            · have hj52' : ¬ (j : Int) < 52 := by omega
              obtain rfl : j = 52 := by omega
              have HN3 : Hid _ := hn.out
              clear hn HN2
              go_wp2_with fail
              go_loopw [5, 9] (fun nu k wr => ∃ v : Nat, k = .int .i64 (-(v : Int)) ∧ v ≤ 1072 ∧ Hid ((v = 0 ∨ N * 2 ^ v < D * 2 ^ 53) ∧ Big L wr nu (N * 2 ^ v) ∧ Big L wr u6 D ∧ Big L wr u10 (D * 2 ^ 52)) ∧ Below w.heap.size w wr) (fun _ k _ => (2000 + intOf k).toNat)
              case atStart => exact ⟨0, rfl, by omega, ⟨.inl rfl, by simpa using HN3.out.1, HN3.out.2.1, HN3.out.2.2⟩, hb⟩
              case round =>
                obtain ⟨v, rfl, hv, hn, hb⟩ := hrel
                go_wp2_with fail
                refine (less_any L hL _ _ _ _ _ hn.out.2.1 hn.out.2.2.2).mono ?_
                rintro r w2 ⟨rfl, b2⟩
                have hb2 : Below w.heap.size w w2 := hb.trans (b2.mono hb.size)
                by_cases hlt : N * 2 ^ v < D * 2 ^ 52
                · have hdec : decide (N * 2 ^ v < D * 2 ^ 52) = true := decide_eq_true hlt
                  have hlt2 : Hid (N * 2 ^ (v + 1) < D * 2 ^ 53) := by
                    show _ < _
                    rw [Nat.pow_succ, Nat.pow_succ 2 52, ← Nat.mul_assoc, ← Nat.mul_assoc]
                    exact Nat.mul_lt_mul_of_pos_right hlt (by decide)
                  have HLT : Hid (N * 2 ^ v * 2 < 65536 ^ L) := by
                    show _ < _
                    rw [Nat.mul_assoc, ← Nat.pow_succ]
                    exact Nat.lt_of_lt_of_le hlt2.out (Nat.le_trans (Nat.mul_le_mul_left _ (Nat.pow_le_pow_right (by decide) (by decide))) (Nat.le_of_lt HB.out.d))
                  have hv' : v + 1 ≤ 1072 := HB.out.v _ hlt2.out
                  rw [hdec]
                  clear hdec hlt
                  go_wp2_with fail
                  refine (times2 L hL _ _ _ (hn.out.2.1.below b2) HLT.out).mono ?_
                  rintro r w3 ⟨nu, rfl, hnu, b3⟩
                  go_wp2_with fail
                  go_roundw
                  case rel => exact ⟨v + 1, by congr 1; omega, hv', ⟨.inr hlt2.out, by rw [Nat.pow_succ, ← Nat.mul_assoc]; exact hnu, (hn.out.2.2.1.below b2).below b3, (hn.out.2.2.2.below b2).below b3⟩, hb2.trans (b3.mono hb2.size)⟩
                  case measure => simp [intOf]; omega
                · have hdec : decide (N * 2 ^ v < D * 2 ^ 52) = false := decide_eq_false hlt
                  have HGE : Hid (D * 2 ^ 52 ≤ N * 2 ^ v) := by show _ ≤ _; omega
                  rw [hdec]
                  clear hdec hlt
                  have HLT : Hid (D * 2 ^ 52 * 2 < 65536 ^ L) := by
                    show _ < _
                    rw [Nat.mul_assoc, ← Nat.pow_succ]
                    exact Nat.lt_of_le_of_lt (Nat.mul_le_mul_left _ (Nat.pow_le_pow_right (by decide) (by decide))) HB.out.d
                  have HN4 : Hid _ := And.intro (hn.out.2.1.below b2) (And.intro (hn.out.2.2.1.below b2) (hn.out.2.2.2.below b2))
                  have HV : Hid (v = 0 ∨ N * 2 ^ v < D * 2 ^ 53) := hn.out.1
                  clear hn HN3 b2 hb
                  go_wp2_with fail
                  refine (times2 L hL _ _ _ HN4.out.2.2 HLT.out).mono ?_
                  rintro r w3 ⟨hi, rfl, hhi, b3⟩
                  have HN5 : Hid _ := And.intro (HN4.out.1.below b3) (And.intro (HN4.out.2.1.below b3) hhi)
                  have hb3 : Below w.heap.size w w3 := hb2.trans (b3.mono hb2.size)
                  clear hhi HN4 b3 hb2
                  go_wp2_with fail
                  go_loopw [6, 9, 10, 12] (fun de k lo hi wr => ∃ u : Nat, k = .int .i64 ((u : Int) - (v : Int)) ∧ u ≤ 971 ∧ Hid (D * 2 ^ u * 2 ^ 52 ≤ N * 2 ^ v ∧ Big L wr u5 (N * 2 ^ v) ∧ Big L wr de (D * 2 ^ u) ∧ Big L wr hi (D * 2 ^ u * 2 ^ 53)) ∧ Below w.heap.size w wr) (fun _ k _ _ _ => (3000 - intOf k).toNat)
                  case atStart => exact ⟨0, by congr 1; omega, by omega, ⟨by simpa using HGE.out, HN5.out.1, by simpa using HN5.out.2.1, by have h := HN5.out.2.2; rw [Nat.mul_assoc, ← Nat.pow_succ] at h; simpa using h⟩, hb3⟩
                  case round =>
                    obtain ⟨u, rfl, hu, hn, hb⟩ := hrel
                    go_wp2_with fail
                    refine (less_any L hL _ _ _ _ _ hn.out.2.1 hn.out.2.2.2).mono ?_
                    rintro r w4 ⟨rfl, b4⟩
                    have hb4 : Below w.heap.size w w4 := hb.trans (b4.mono hb.size)
                    by_cases hlt : N * 2 ^ v < D * 2 ^ u * 2 ^ 53
                    · have hdec : decide (N * 2 ^ v < D * 2 ^ u * 2 ^ 53) = true := decide_eq_true hlt
                      have HLT2 : Hid (N * 2 ^ v < D * 2 ^ u * 2 ^ 53) := hlt
                      rw [hdec]
                      clear hdec hlt
                      have HN6 : Hid _ := And.intro (hn.out.2.1.below b4) (And.intro (hn.out.2.2.1.below b4) (hn.out.2.2.2.below b4))
                      have HGE2 : Hid (D * 2 ^ u * 2 ^ 52 ≤ N * 2 ^ v) := hn.out.1
                      clear hn HN5 b4 hb hb3 HGE
                      obtain ⟨Dn, hDn⟩ : ∃ x, Hid (x = D * 2 ^ u) := ⟨_, rfl⟩
                      obtain ⟨Nn, hNn⟩ : ∃ x, Hid (x = N * 2 ^ v) := ⟨_, rfl⟩
                      rw [← hDn.out, ← hNn.out] at HN6 HLT2 HGE2
                      obtain ⟨i0, hi0, hz0, hz1, hz2⟩ := info53_parts
                      go_wp2_with fail
                      go_loopw [14, 15, 16] (fun pw p i wr => ∃ (j : Nat) (vs : List Value), i = .int .i64 (j : Int) ∧ j ≤ 53 ∧ Hid (vs.length = j ∧ (∀ i, i < j → Big L wr (vs.getD i undef) (Dn * 2 ^ i)) ∧ wr.ownsRow w.heap.size 53 1 pw j vs ∧ Big L wr p (Dn * 2 ^ j) ∧ Big L wr u5 Nn ∧ Big L wr u6 Dn) ∧ Below w.heap.size w wr) (fun _ _ i _ => 53 - (intOf i).toNat)
                      case atStart => exact ⟨0, [], rfl, by omega, ⟨rfl, fun i hi => by omega, World.ownsRow_nil _ _ _ _, by simpa using HN6.out.2.1, HN6.out.1, HN6.out.2.1⟩, hb4⟩
                      case round =>
                        obtain ⟨j, vs, rfl, hj, hn, hb⟩ := hrel
                        have hsz := hb.size
                        by_cases hj53 : j < 53
                        · have hj53' : (j : Int) ≤ 52 := by omega
                          have HLT3 : Hid (Dn * 2 ^ j * 2 < 65536 ^ L) := by
                            show _ < _
                            rw [Nat.mul_assoc, ← Nat.pow_succ]
                            exact Nat.lt_of_le_of_lt (Nat.mul_le_mul_left _ (Nat.pow_le_pow_right (by decide) (by omega))) HN6.out.2.2.lt
                          have HO := hn.out.2.2.1
                          obtain ⟨pa, pn, pc, rfl⟩ := hn.out.2.2.2.1.form
                          go_wp2_with (at_builtin; refine wpList_append_own _ rfl (.tmp 68) (.tmp 70) 57 rfl w.heap.size 53 i0 (.slice none 0 0) 1 24 Tryz.underlying57 hi0 hz0 hz1 hz2 rfl (by decide) _ j _ rfl (HO.alloc _) ⟨wr.heap.size, 0, none⟩ 1 1 [.slice pa pn pc] rfl rfl (one_at wr _ _) hn.out.2.2.2.1.one (by unfold maxLen; omega) (by omega) (by simp; omega) ?_; intro v' w5 hown' hgrow _)
                          have al : Below wr.heap.size wr (wr.alloc (.cells #[.slice pa pn pc] 53)) := (Below.refl _ _).alloc (Nat.le_refl _) _
                          have bg : ∀ x M, Big L wr x M → Big L w5 x M := fun x M h => (h.below al).grown hgrow (show (53 : Nat) ≠ 3 by decide) (own_tag (HO.alloc _))
                          have hb5 : Below w.heap.size w w5 := (hb.alloc hsz _).grown hgrow (by simp; omega) (fun j hj => (HO.lt j hj).1)
                          have HB5 : Hid _ := And.intro (fun i (hi : i < j) => bg _ _ (hn.out.2.1 i hi)) (And.intro (bg _ _ hn.out.2.2.2.1) (And.intro (bg _ _ hn.out.2.2.2.2.1) (bg _ _ hn.out.2.2.2.2.2)))
                          have HL : Hid (vs.length = j) := hn.out.1
                          clear bg al hn
                          refine (times2 L hL _ _ _ HB5.out.2.1 HLT3.out).mono ?_
                          rintro r w6 ⟨p2, rfl, hp2, b6⟩
                          go_wp2_with fail
                          go_roundw
                          case rel =>
                            refine ⟨j + 1, vs ++ [.slice pa pn pc], by go_num, by omega, ⟨by simp [HL.out], fun i hi => ?_, own_below hown' b6, by rw [Nat.pow_succ, ← Nat.mul_assoc]; exact hp2, HB5.out.2.2.1.below b6, HB5.out.2.2.2.below b6⟩, hb5.trans (b6.mono hb5.size)⟩
                            rw [getV_snoc, HL.out]
                            by_cases hij : i = j
                            · subst hij; rw [if_pos rfl]; exact HB5.out.2.1.below b6
                            · rw [if_neg hij]; exact (HB5.out.1 i (by omega)).below b6
                          case measure => simp [intOf]; omega
                        · have hj53' : ¬ (j : Int) ≤ 52 := by omega
                          obtain rfl : j = 53 := by omega
                          obtain ⟨g, cap, rfl, hg, hgc, hgm, hcell⟩ := own_cell hn.out.2.2.1 (by decide)
                          have HN7 : Hid _ := And.intro hn.out.2.1 (And.intro hn.out.2.2.2.2.1 hn.out.2.2.2.2.2)
                          have HC : Hid (∀ i, i < 53 → wr.cell? ⟨g, i, none⟩ = some (vs.getD i undef)) := fun i hi => hcell i _ (by simp [List.getD, show i < vs.length by rw [hn.out.1]; exact hi])
                          clear hn HN6 hcell hgm
                          have hvv : v ≤ 1072 := hv
                          go_wp2_with fail
                          go_loopw [5, 13, 17] (fun nu q i wr => ∃ (j Q rem : Nat), i = .int .i64 ((j : Int) - 1) ∧ j ≤ 53 ∧ q = .int .u64 (Q : Int) ∧ Q < 9007199254740992 ∧ g < wr.heap.size ∧ Hid (Nn = Dn * 2 ^ j * Q + rem ∧ rem < Dn * 2 ^ j ∧ Big L wr nu rem ∧ Big L wr u6 Dn ∧ (∀ i, i < 53 → Big L wr (vs.getD i undef) (Dn * 2 ^ i)) ∧ (∀ i, i < 53 → wr.cell? ⟨g, i, none⟩ = some (vs.getD i undef))) ∧ Below w.heap.size w wr) (fun _ _ i _ => (intOf i + 1).toNat)
                          case atStart => exact ⟨53, 0, Nn, rfl, by omega, rfl, by decide, hg, ⟨by simp, HLT2.out, HN7.out.2.1, HN7.out.2.2, HN7.out.1, HC.out⟩, hb⟩
                          case round =>
                            obtain ⟨j, Q, rem, rfl, hj, rfl, hQ, hg', hn, hb⟩ := hrel
                            have hsz := hb.size
                            by_cases hj0 : 0 < j
                            · obtain ⟨k, rfl⟩ : ∃ k, j = k + 1 := ⟨j - 1, by omega⟩
                              have e1 : ((k + 1 : Nat) : Int) - 1 = (k : Int) := by omega
                              rw [e1]
                              have hk0 : (0 : Int) ≤ (k : Int) := by omega
                              have hk53 : (k : Int) < 53 := by omega
                              have hbk := hn.out.2.2.2.2.1 k (by omega)
                              obtain ⟨pa, pn, pc, hpe⟩ := hbk.form
                              have hcell := hn.out.2.2.2.2.2 k (by omega)
                              rw [hpe] at hcell hbk
                              have HBK : Hid _ := hbk
                              clear hbk hpe
                              go_wp2_with fail
                              refine (less_any L hL _ _ _ _ _ hn.out.2.2.1 HBK.out).mono ?_
                              rintro r w7 ⟨rfl, b7⟩
                              have hb7 : Below w.heap.size w w7 := hb.trans (b7.mono hsz)
                              have hg7 : g < w7.heap.size := Nat.lt_of_lt_of_le hg' b7.size
                              have hcell7 := (b7.cell (p := ⟨g, k, none⟩) hg').trans hcell
                              clear hcell
                              have hpow : Hid (Dn * 2 ^ (k + 1) = Dn * 2 ^ k * 2) := by show _ = _; rw [Nat.pow_succ, ← Nat.mul_assoc]
                              by_cases hlt : rem < Dn * 2 ^ k
                              · have hdec : decide (rem < Dn * 2 ^ k) = true := decide_eq_true hlt
                                have HLT5 : Hid _ := hlt
                                have hQ2 : Hid (2 * Q < 9007199254740992) := by
                                  refine quo_lt (D := Dn) (P := 2 ^ k) (N := Nn) ?_ (Nat.two_pow_pos k) HLT2.out
                                  have := hn.out.1
                                  rw [hpow.out] at this
                                  rw [this, Nat.mul_comm 2 Q, ← Nat.mul_assoc, Nat.mul_right_comm]
                                  exact Nat.le_add_right _ _
                                rw [hdec]
                                clear hdec hlt
                                go_wp2_with fail
                                go_roundw
                                case rel =>
                                  refine ⟨k, 2 * Q, rem, rfl, by omega, by congr 1; omega, hQ2.out, hg7, ⟨?_, HLT5.out, hn.out.2.2.1.below b7, hn.out.2.2.2.1.below b7, fun i hi => (hn.out.2.2.2.2.1 i hi).below b7, fun i hi => (b7.cell (p := ⟨g, i, none⟩) hg').trans (hn.out.2.2.2.2.2 i hi)⟩, hb7⟩
                                  have := hn.out.1
                                  rw [hpow.out] at this
                                  rw [this, Nat.mul_comm 2 Q, ← Nat.mul_assoc, Nat.mul_right_comm]
                                case measure => simp [intOf]
                              · have hdec : decide (rem < Dn * 2 ^ k) = false := decide_eq_false hlt
                                have HLT5 : Hid (Dn * 2 ^ k ≤ rem) := by show _ ≤ _; omega
                                have hsum : Hid (Nn = Dn * 2 ^ k * (2 * Q + 1) + (rem - Dn * 2 ^ k)) := by
                                  show _ = _
                                  have h1 := hn.out.1
                                  rw [hpow.out] at h1
                                  have h2 := HLT5.out
                                  rw [Nat.mul_add, Nat.mul_one, Nat.mul_comm 2 Q, ← Nat.mul_assoc]
                                  rw [h1, Nat.mul_right_comm]
                                  omega
                                have hQ2 : Hid (2 * Q + 1 < 9007199254740992) := quo_lt (D := Dn) (P := 2 ^ k) (N := Nn) (by rw [hsum.out]; exact Nat.le_add_right _ _) (Nat.two_pow_pos k) HLT2.out
                                rw [hdec]
                                clear hdec hlt
                                go_wp2_with fail
                                refine (minus_any L hL _ _ _ _ _ (hn.out.2.2.1.below b7) (HBK.out.below b7) HLT5.out).mono ?_
                                rintro r w8 ⟨nu2, rfl, hnu2, b8⟩
                                go_wp2_with fail
                                go_roundw
                                case rel =>
                                  refine ⟨k, 2 * Q + 1, rem - Dn * 2 ^ k, rfl, by omega, by congr 1; omega, hQ2.out, Nat.lt_of_lt_of_le hg7 b8.size, ⟨hsum.out, ?_, hnu2, (hn.out.2.2.2.1.below b7).below b8, fun i hi => ((hn.out.2.2.2.2.1 i hi).below b7).below b8, fun i hi => (b8.cell (p := ⟨g, i, none⟩) hg7).trans ((b7.cell (p := ⟨g, i, none⟩) hg').trans (hn.out.2.2.2.2.2 i hi))⟩, hb7.trans (b8.mono hb7.size)⟩
                                  have h1 := hn.out.2.1
                                  rw [hpow.out] at h1
                                  have h2 := HLT5.out
                                  omega
                                case measure => simp [intOf]
                            · obtain rfl : j = 0 := by omega
                              have hnf := near_fin (N := N) (D := D) (u := u) (v := v) (Q := Q) (rem := rem) (by rw [← hDn.out, ← hNn.out]; exact HGE2.out) (by rw [← hDn.out, ← hNn.out]; exact HLT2.out) (by omega) (by rw [← hDn.out, ← hNn.out]; exact hn.out.1) (by rw [← hDn.out]; exact hn.out.2.1)
                              rw [← hDn.out] at hnf
                              obtain ⟨Q1, q1, q2, hNear', hF⟩ := hnf
                              have HF : Hid _ := hF
                              have hNear : Hid _ := hNear'
                              clear hF hNear'
                              have hk0 : (0 : Int) ≤ (u : Int) - (v : Int) + 1075 := by omega
                              have hk1 : (u : Int) - (v : Int) + 1075 ≤ 2100 := by omega
                              have HLT6 : Hid (rem * 2 < 65536 ^ L) := by
                                have h1 := (hn.out.2.2.2.2.1 52 (by decide)).lt
                                have h2 := hn.out.2.1
                                rw [Nat.pow_zero, Nat.mul_one] at h2
                                have h3 : Dn * 2 ≤ Dn * 2 ^ 52 := Nat.mul_le_mul_left _ (by decide)
                                exact Nat.lt_of_lt_of_le (Nat.mul_lt_mul_of_pos_right h2 (by decide)) (Nat.le_trans h3 (Nat.le_of_lt h1))
                              go_wp2_with fail
                              refine (times2 L hL _ _ _ hn.out.2.2.1 HLT6.out).mono ?_
                              rintro r w7 ⟨tw, rfl, htw, b7⟩
                              have hb7 : Below w.heap.size w w7 := hb.trans (b7.mono hsz)
                              have HD7 : Hid (Big L w7 u6 Dn ∧ Big L w7 tw (rem * 2)) := ⟨hn.out.2.2.2.1.below b7, htw⟩
                              clear htw
                              go_wp2_with fail
                              refine (less_any L hL _ _ _ _ _ HD7.out.1 HD7.out.2).mono ?_
                              rintro r w8 ⟨rfl, b8⟩
                              have hb8 : Below w.heap.size w w8 := hb7.trans (b8.mono hb7.size)
                              by_cases hA : Dn < rem * 2
                              · have hdec : decide (Dn < rem * 2) = true := decide_eq_true hA
                                have hQ1 : Hid (Q1 = Q + 1) := HF.out.1 hA
                                have hbf := hb8
                                rw [hdec]
                                clear hdec hA
                                by_cases h53 : (Q : Int) + 1 = 9007199254740992
                                · go_wp2_with fail
                                  go_ret
                                  refine ⟨_, ret_int ?_, hNear.out, hbf⟩
                                  have := hQ1.out
                                  first | omega | (simp only [IntKind.wrap_u64]; omega)
                                · go_wp2_with fail
                                  go_ret
                                  refine ⟨_, ret_int ?_, hNear.out, hbf⟩
                                  have := hQ1.out
                                  first | omega | (simp only [IntKind.wrap_u64]; omega)
                              · have hdec : decide (Dn < rem * 2) = false := decide_eq_false hA
                                rw [hdec]
                                have HA : Hid (¬ Dn < rem * 2) := hA
                                clear hdec hA
                                go_wp2_with fail
                                refine (less_any L hL _ _ _ _ _ (HD7.out.2.below b8) (HD7.out.1.below b8)).mono ?_
                                rintro r w9 ⟨rfl, b9⟩
                                have hbf : Below w.heap.size w w9 := hb8.trans (b9.mono hb8.size)
                                by_cases hB : rem * 2 < Dn
                                · have hdec : decide (rem * 2 < Dn) = true := decide_eq_true hB
                                  have hQ1 : Hid (Q1 = Q) := HF.out.2.1 hB
                                  rw [hdec]
                                  clear hdec hB
                                  have h53 : ¬ (Q : Int) = 9007199254740992 := by omega
                                  go_wp2_with fail
                                  go_ret
                                  refine ⟨_, ret_int ?_, hNear.out, hbf⟩
                                  have := hQ1.out
                                  first | omega | (simp only [IntKind.wrap_u64]; omega)
                                · have hdec : decide (rem * 2 < Dn) = false := decide_eq_false hB
                                  rw [hdec]
                                  by_cases hodd : Q % 2 = 1
                                  · have hQ1 : Hid (Q1 = Q + 1) := HF.out.2.2.1 HA.out hB hodd
                                    have hodd' : (Q : Int) % 2 = 1 := by omega
                                    clear hdec hB
                                    by_cases h53 : (Q : Int) + 1 = 9007199254740992
                                    · go_wp2_with fail
                                      go_ret
                                      refine ⟨_, ret_int ?_, hNear.out, hbf⟩
                                      have := hQ1.out
                                      first | omega | (simp only [IntKind.wrap_u64]; omega)
                                    · go_wp2_with fail
                                      go_ret
                                      refine ⟨_, ret_int ?_, hNear.out, hbf⟩
                                      have := hQ1.out
                                      first | omega | (simp only [IntKind.wrap_u64]; omega)
                                  · have hQ1 : Hid (Q1 = Q) := HF.out.2.2.2 HA.out hB hodd
                                    have hodd' : ¬ (Q : Int) % 2 = 1 := by omega
                                    clear hdec hB
                                    have h53 : ¬ (Q : Int) = 9007199254740992 := by omega
                                    go_wp2_with fail
                                    go_ret
                                    refine ⟨_, ret_int ?_, hNear.out, hbf⟩
                                    have := hQ1.out
                                    first | omega | (simp only [IntKind.wrap_u64]; omega)
                    · have hdec : decide (N * 2 ^ v < D * 2 ^ u * 2 ^ 53) = false := decide_eq_false hlt
                      have hge : D * 2 ^ u * 2 ^ 53 ≤ N * 2 ^ v := by omega
                      have hv0 : v = 0 := by
                        rcases HV.out with h | h
                        · exact h
                        · exfalso
                          have h1 : D * 1 * 2 ^ 53 ≤ D * 2 ^ u * 2 ^ 53 := Nat.mul_le_mul_right _ (Nat.mul_le_mul_left _ (Nat.two_pow_pos u))
                          rw [Nat.mul_one] at h1
                          exact absurd (Nat.lt_of_lt_of_le h (Nat.le_trans h1 hge)) (Nat.lt_irrefl _)
                      have hge0 : D * 2 ^ u * 2 ^ 53 ≤ N := by rw [hv0] at hge; simpa using hge
                      have hu' : u ≤ 970 := HB.out.u u hge0
                      have HL1 : Hid (D * 2 ^ u * 2 < 65536 ^ L ∧ D * 2 ^ u * 2 ^ 53 * 2 < 65536 ^ L) := by
                        have h2 : D * 2 ^ u * 2 ^ 53 * 2 < 65536 ^ L := Nat.lt_of_le_of_lt (Nat.mul_le_mul_right 2 hge0) HB.out.n
                        refine ⟨Nat.lt_of_le_of_lt (Nat.mul_le_mul_right 2 (Nat.le_mul_of_pos_right _ (Nat.two_pow_pos 53))) h2, h2⟩
                      have HGE3 : Hid (D * 2 ^ (u + 1) * 2 ^ 52 ≤ N * 2 ^ v) := by
                        show _ ≤ _
                        rw [Nat.pow_succ, Nat.mul_assoc, Nat.mul_assoc, ← Nat.pow_succ', ← Nat.mul_assoc]; exact hge
                      rw [hdec]
                      clear hdec hlt hge hge0 hv0
                      go_wp2_with fail
                      refine (times2 L hL _ _ _ (hn.out.2.2.1.below b4) HL1.out.1).mono ?_
                      rintro r w5 ⟨de, rfl, hde, b5⟩
                      have hb5 : Below w.heap.size w w5 := hb4.trans (b5.mono hb4.size)
                      go_wp2_with fail
                      refine (times2 L hL _ _ _ ((hn.out.2.2.2.below b4).below b5) HL1.out.2).mono ?_
                      rintro r w6 ⟨hi2, rfl, hhi2, b6⟩
                      go_wp2_with fail
                      go_roundw
                      case rel =>
                        refine ⟨u + 1, by congr 1; omega, by omega, ⟨HGE3.out, ((hn.out.2.1.below b4).below b5).below b6, ?_, ?_⟩, hb5.trans (b6.mono hb5.size)⟩
                        · rw [Nat.pow_succ, ← Nat.mul_assoc]; exact hde.below b6
                        · rw [Nat.pow_succ, ← Nat.mul_assoc, Nat.mul_right_comm]; exact hhi2
                      case measure => simp [intOf]; omega
end Bn
end Go.Proofs.YtmeimofnmpmaoaaGreatDoor
