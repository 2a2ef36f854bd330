/- The contracts of the document's own minus and natural on long numbers. Conditions: numbers below 2^16 to the power of L, at most 90. -/
import Derived.Test.YtmeimofnmpmaoaaGreatDoorBb
namespace Go.Proofs.YtmeimofnmpmaoaaGreatDoor
open Go.RowKit
namespace Bn

theorem minus_step {P o x y b d d' r b' : Nat} (h : x + P * b = o + y) (hr : d + 65536 * b' = r + d' + b) : x + P * d + P * 65536 * b' = o + P * r + (y + P * d') := by
  have e : P * d + P * 65536 * b' = P * r + P * d' + P * b := by
    rw [Nat.mul_assoc, ← Nat.mul_add, hr, Nat.mul_add, Nat.mul_add]
  omega
theorem vl_take_all (l : List Nat) (k : Nat) : vl (l.take (k + 1)) = vl (l.take k) + 65536 ^ k * l.getD k 0 := by
  rcases Nat.lt_or_ge k l.length with h | h
  · exact vl_take_succ l k h
  · rw [List.take_of_length_le (by omega), List.take_of_length_le h]
    simp [List.getD, List.getElem?_eq_none h]

set_option maxRecDepth 40000 in
set_option maxHeartbeats 3200000 in
theorem minus_any (L : Nat) (hL : L ≤ 90) (v v' : Value) (N N' : Nat) (w : World) (hv : Big L w v N) (hv' : Big L w v' N') (hle : N' ≤ N) :
    Calls Tryz.prog 32 #[v, v'] w fun r w' => ∃ u, r = .returned u ∧ Big L w' u (N - N') ∧ Below w.heap.size w w' := by
  obtain ⟨⟨a, n, c, ds, rfl, hnc, hcm, hl, hD, hN, hV, hR⟩, hNL⟩ := hv
  obtain ⟨⟨a', n', c', ds', rfl, hnc', hcm', hl', hD', hN', hV', hR'⟩, hNL'⟩ := hv'
  obtain ⟨i0, hi, hz0, hz1, hz2⟩ := info3_parts
  have hn : n ≤ 90 := by have := len_le hN (by rw [hV]; exact hNL); omega
  have hn' : n' ≤ 90 := by have := len_le hN' (by rw [hV']; exact hNL'); omega
  have hnn : n' ≤ n := by
    rcases Nat.lt_or_ge n n' with h | h
    · have := lt_of_len hD hN' (by omega); omega
    · exact h
  have HR : Hid (RdN w a ds ∧ ds.length = n ∧ AllD ds ∧ vl ds = N) := ⟨hR, hl, hD, hV⟩
  have HR' : Hid (RdN w a' ds' ∧ ds'.length = n' ∧ AllD ds' ∧ vl ds' = N') := ⟨hR', hl', hD', hV'⟩
  have HL : Hid (N < 65536 ^ L ∧ N' ≤ N) := ⟨hNL, hle⟩
  clear hR hl hD hV hN hNL hcm hR' hl' hD' hV' hN' hNL' hcm' hle
  go_enter Tryz.func32, Tryz.ntmps32
  go_wp2
  go_loopw [5, 6, 7] (fun s bo i wr => ∃ (j q : Nat) (os : List Nat), i = .int .i64 (j : Int) ∧ j ≤ n ∧ bo = .int .i64 (q : Int) ∧ q ≤ 1 ∧ Hid (os.length = j ∧ AllD os ∧ vl (ds.take j) + 65536 ^ j * q = vl os + vl (ds'.take j) ∧ wr.ownsRow w.heap.size 3 1 s j (cs os)) ∧ Below w.heap.size w wr) (fun _ _ i _ => n - (intOf i).toNat)
  case atStart => exact ⟨0, 0, [], rfl, Nat.zero_le _, rfl, by omega, ⟨rfl, allD_nil, by simp [vl], World.ownsRow_nil _ _ _ _⟩, Below.refl _ _⟩
  case round =>
    obtain ⟨j, q, os, rfl, hj, rfl, hq, HO, hb⟩ := hrel
    have hsz := hb.size
    by_cases hjn : j < n
    · have hjn' : (j : Int) < (n : Int) := by omega
      obtain ⟨b, off, rfl, hbb, c0⟩ := HR.out.1.at (k := j) (by rw [HR.out.2.1]; exact hjn)
      have d0 := (hb.cell (p := ⟨b, off + j, none⟩) hbb).trans c0
      clear c0
      have hd := HR.out.2.2.1 j
      have hd' := HR'.out.2.2.1 j
      obtain ⟨d, hdd⟩ : ∃ d, Hid (d = ds.getD j 0) := ⟨_, rfl⟩
      obtain ⟨d', hdd'⟩ : ∃ d, Hid (d = ds'.getD j 0) := ⟨_, rfl⟩
      rw [← hdd.out] at d0 hd
      rw [← hdd'.out] at hd'
      have HT : Hid (vl (ds.take (j + 1)) = vl (ds.take j) + 65536 ^ j * d) := by show _ = _; rw [hdd.out]; exact vl_take_all ds j
      have HT' : Hid (vl (ds'.take (j + 1)) = vl (ds'.take j) + 65536 ^ j * d') := by show _ = _; rw [hdd'.out]; exact vl_take_all ds' j
      -- what is written, and what is borrowed
      obtain ⟨r, q', hr, hr1, hq'⟩ : ∃ r q' : Nat, Hid (d + 65536 * q' = r + d' + q) ∧ r < 65536 ∧ ((q' = 0 ∧ (r : Int) = (d : Int) - q - d') ∨ (q' = 1 ∧ (r : Int) = (d : Int) - q - d' + 65536 ∧ (d : Int) - q - d' < 0)) := by
        by_cases h : d' + q ≤ d
        · exact ⟨d - (d' + q), 0, (show _ = _ by omega), by omega, .inl ⟨rfl, by omega⟩⟩
        · exact ⟨d + 65536 - (d' + q), 1, (show _ = _ by omega), by omega, .inr ⟨rfl, by omega, by omega⟩⟩
      have HC : Hid (vl (ds.take (j + 1)) + 65536 ^ (j + 1) * q' = vl os + 65536 ^ j * r + vl (ds'.take (j + 1))) := by
        show _ = _
        rw [HT.out, HT'.out, Nat.pow_succ]
        exact minus_step HO.out.2.2.1 hr.out
      have fin : ∀ w1 u, w1.ownsRow w.heap.size 3 1 u (j + 1) (cs os ++ [.int .i64 (r : Int)]) → Below w.heap.size w w1 → ∃ (j' q'' : Nat) (os' : List Nat), Value.int .i64 ((j : Int) + 1) = .int .i64 (j' : Int) ∧ j' ≤ n ∧ Value.int .i64 (q' : Int) = .int .i64 (q'' : Int) ∧ q'' ≤ 1 ∧ Hid (os'.length = j' ∧ AllD os' ∧ vl (ds.take j') + 65536 ^ j' * q'' = vl os' + vl (ds'.take j') ∧ w1.ownsRow w.heap.size 3 1 u j' (cs os')) ∧ Below w.heap.size w w1 := by
        intro w1 u ho hbw
        refine ⟨j + 1, q', os ++ [r], rfl, hjn, rfl, by omega, ⟨by simp [HO.out.1], allD_snoc HO.out.2.1 hr1, ?_, by rw [cs_snoc]; exact ho⟩, hbw⟩
        rw [vl_snoc, HO.out.1]; exact HC.out
      have FIN : Hid _ := fin
      clear fin
      by_cases hjn2 : j < n'
      · have hjn2' : (j : Int) < (n' : Int) := by omega
        obtain ⟨b', off', rfl, hbb', c0'⟩ := HR'.out.1.at (k := j) (by rw [HR'.out.2.1]; exact hjn2)
        have d0' := (hb.cell (p := ⟨b', off' + j, none⟩) hbb').trans c0'
        clear c0'
        rw [← hdd'.out] at d0'
        rcases hq' with ⟨rfl, hrv⟩ | ⟨rfl, hrv, hneg⟩
        · have h0 : ¬ (d : Int) - (q : Int) - (d' : Int) < 0 := by omega
          have hrv' : (d : Int) - (q : Int) - (d' : Int) = (r : Int) := hrv.symm
          clear hrv
          go_wp2_with (at_builtin; refine wpList_append_own _ rfl (.tmp 35) (.tmp 37) 53 rfl w.heap.size 3 i0 (.int .i64 0) 1 8 Tryz.underlying53 hi hz0 hz1 hz2 rfl (by decide) _ j _ rfl (HO.out.2.2.2.alloc _) ⟨wr.heap.size, 0, none⟩ 1 1 [.int .i64 (r : Int)] rfl rfl (one_at wr _ _) (one_one _) (by unfold maxLen; omega) (by omega) (by simp; omega) ?_; intro v' w1 hown' hgrow _)
          go_roundw
          case rel => exact FIN.out _ _ hown' ((hb.alloc hsz _).grown hgrow (by simp; omega) (fun j hj => (HO.out.2.2.2.lt j hj).1))
          case measure => simp [intOf]; omega
        · have hrv' : (d : Int) - (q : Int) - (d' : Int) + 65536 = (r : Int) := hrv.symm
          clear hrv
          go_wp2_with (at_builtin; refine wpList_append_own _ rfl (.tmp 35) (.tmp 37) 53 rfl w.heap.size 3 i0 (.int .i64 0) 1 8 Tryz.underlying53 hi hz0 hz1 hz2 rfl (by decide) _ j _ rfl (HO.out.2.2.2.alloc _) ⟨wr.heap.size, 0, none⟩ 1 1 [.int .i64 (r : Int)] rfl rfl (one_at wr _ _) (one_one _) (by unfold maxLen; omega) (by omega) (by simp; omega) ?_; intro v' w1 hown' hgrow _)
          go_roundw
          case rel => exact FIN.out _ _ hown' ((hb.alloc hsz _).grown hgrow (by simp; omega) (fun j hj => (HO.out.2.2.2.lt j hj).1))
          case measure => simp [intOf]; omega
      · have hjn2' : ¬ (j : Int) < (n' : Int) := by omega
        have hd0 : d' = 0 := by rw [hdd'.out]; simp [List.getD, List.getElem?_eq_none (show ds'.length ≤ j by rw [HR'.out.2.1]; omega)]
        rcases hq' with ⟨rfl, hrv⟩ | ⟨rfl, hrv, hneg⟩
        · have h0 : ¬ (d : Int) - (q : Int) < 0 := by omega
          have hrv' : (d : Int) - (q : Int) = (r : Int) := by omega
          clear hrv hd0
          go_wp2_with (at_builtin; refine wpList_append_own _ rfl (.tmp 35) (.tmp 37) 53 rfl w.heap.size 3 i0 (.int .i64 0) 1 8 Tryz.underlying53 hi hz0 hz1 hz2 rfl (by decide) _ j _ rfl (HO.out.2.2.2.alloc _) ⟨wr.heap.size, 0, none⟩ 1 1 [.int .i64 (r : Int)] rfl rfl (one_at wr _ _) (one_one _) (by unfold maxLen; omega) (by omega) (by simp; omega) ?_; intro v' w1 hown' hgrow _)
          go_roundw
          case rel => exact FIN.out _ _ hown' ((hb.alloc hsz _).grown hgrow (by simp; omega) (fun j hj => (HO.out.2.2.2.lt j hj).1))
          case measure => simp [intOf]; omega
        · have hneg' : (d : Int) - (q : Int) < 0 := by omega
          have hrv' : (d : Int) - (q : Int) + 65536 = (r : Int) := by omega
          clear hrv hd0 hneg
          go_wp2_with (at_builtin; refine wpList_append_own _ rfl (.tmp 35) (.tmp 37) 53 rfl w.heap.size 3 i0 (.int .i64 0) 1 8 Tryz.underlying53 hi hz0 hz1 hz2 rfl (by decide) _ j _ rfl (HO.out.2.2.2.alloc _) ⟨wr.heap.size, 0, none⟩ 1 1 [.int .i64 (r : Int)] rfl rfl (one_at wr _ _) (one_one _) (by unfold maxLen; omega) (by omega) (by simp; omega) ?_; intro v' w1 hown' hgrow _)
          go_roundw
          case rel => exact FIN.out _ _ hown' ((hb.alloc hsz _).grown hgrow (by simp; omega) (fun j hj => (HO.out.2.2.2.lt j hj).1))
          case measure => simp [intOf]; omega
    · have hjn' : ¬ (j : Int) < (n : Int) := by omega
      obtain rfl : j = n := by omega
      obtain ⟨a5, c5, rfl, hc5, hm5, rd5⟩ := own_rdN HO.out.2.2.2
      have hv5 : Hid (vl os = N - N') := by
        show _ = _
        have h1 := HO.out.2.2.1
        rw [List.take_of_length_le (by rw [HR.out.2.1]; exact Nat.le_refl _), List.take_of_length_le (by rw [HR'.out.2.1]; exact hnn), HR.out.2.2.2, HR'.out.2.2.2] at h1
        have h2 := vl_lt os HO.out.2.1
        rw [HO.out.1] at h2
        have h3 := HL.out.2
        rcases Nat.lt_or_ge 0 q with h | h
        · obtain rfl : q = 1 := by omega
          omega
        · obtain rfl : q = 0 := by omega
          omega
      have htr : Hid _ := trim_any a5 j c5 os wr HO.out.1 hc5 hm5 rd5
      go_wp2_with fail
      refine Calls.mono htr.out ?_
      rintro r w' ⟨m, hmn, rfl, hnm, hvm, hw'⟩; rw [hw']; clear hw' w'
      have HF : Hid (Norm (os.take m) ∧ vl (os.take m) = vl os) := ⟨hnm, hvm⟩
      clear hnm hvm
      go_wp2_with fail
      go_ret
      refine ⟨_, rfl, ⟨⟨a5, m, c5, os.take m, rfl, by omega, hm5, by simp; have := HO.out.1; omega, allD_take m HO.out.2.1, HF.out.1, HF.out.2.trans hv5.out, rd5.take m⟩, ?_⟩, hb⟩
      have := HL.out.1
      omega

set_option maxHeartbeats 1600000 in
theorem natural_any (L : Nat) (hL : 4 ≤ L) (m : Nat) (hm : m < 1000000000000000) (w : World) :
    Calls Tryz.prog 29 #[.int .i64 (m : Int)] w fun r w' => ∃ u, r = .returned u ∧ Big L w' u m ∧ Below w.heap.size w w' := by
  obtain ⟨i0, hi, hz0, hz1, hz2⟩ := info3_parts
  go_enter Tryz.func29, Tryz.ntmps29
  go_wp2
  go_loopw [0, 3] (fun x s wr => ∃ (y : Nat) (os : List Nat), x = .int .i64 (y : Int) ∧ y < 1000000000000000 ∧ Hid (AllD os ∧ vl os + 65536 ^ os.length * y = m ∧ (y = 0 → Norm os) ∧ wr.ownsRow w.heap.size 3 1 s os.length (cs os)) ∧ os.length ≤ 4 ∧ (y = 0 ∨ os.length ≤ 3) ∧ Below w.heap.size w wr) (fun x _ _ => (intOf x).toNat)
  case atStart => exact ⟨m, [], rfl, hm, ⟨allD_nil, by simp [vl], fun _ => norm_nil, World.ownsRow_nil _ _ _ _⟩, by simp, .inr (by simp), Below.refl _ _⟩
  case round =>
    obtain ⟨y, os, rfl, hy, HO, ho4, ho3, hb⟩ := hrel
    have hsz := hb.size
    by_cases h0 : 0 < y
    · have h0' : (0 : Int) < (y : Int) := by omega
      obtain ⟨k, hk⟩ : ∃ k, Hid (k = os.length) := ⟨_, rfl⟩
      have hk3 : k ≤ 3 := by have := hk.out; omega
      have HO2 := HO.out.2.2.2
      rw [← hk.out] at HO2
      go_wp2_with (at_builtin; refine wpList_append_own _ rfl (.tmp 6) (.tmp 9) 53 rfl w.heap.size 3 i0 (.int .i64 0) 1 8 Tryz.underlying53 hi hz0 hz1 hz2 rfl (by decide) _ k _ rfl (HO2.alloc _) ⟨wr.heap.size, 0, none⟩ 1 1 [.int .i64 ((y : Int) % 65536)] rfl rfl (one_at wr _ _) (one_one _) (by unfold maxLen; omega) (by omega) (by simp; omega) ?_; intro v' w1 hown' hgrow _)
      go_roundw
      case rel =>
        have hsum := HO.out.2.1
        refine ⟨y / 65536, os ++ [y % 65536], by congr 1, by omega, ⟨allD_snoc HO.out.1 (Nat.mod_lt _ (by decide)), ?_, fun h => ?_, ?_⟩, ?_, ?_, ?_⟩
        · rw [vl_snoc, List.length_append, ← hsum]
          have e := Nat.mod_add_div y 65536
          show _ + 65536 ^ (os.length + 1) * (y / 65536) = _
          rw [Nat.pow_succ, Nat.add_assoc, Nat.mul_assoc, ← Nat.mul_add, e]
        · intro n hn
          rw [List.length_append] at hn
          rw [getD_snoc, if_pos (by simp at hn; omega)]
          omega
        · rw [cs_snoc, List.length_append, ← hk.out]; exact hown'
        · simp; have := hk.out; omega
        · rcases Nat.lt_or_ge k 3 with h | h
          · exact .inr (by simp; have := hk.out; omega)
          · refine .inl ?_
            have h3 : os.length = 3 := by have := hk.out; omega
            rw [h3] at hsum
            have e3 : (65536 : Nat) ^ 3 = 281474976710656 := by decide
            rw [e3] at hsum
            omega
        · exact (hb.alloc hsz _).grown hgrow (by simp; omega) (fun j hj => (HO2.lt j hj).1)
      case measure => simp [intOf]; omega
    · have h0' : ¬ (0 : Int) < (y : Int) := by omega
      obtain rfl : y = 0 := by omega
      obtain ⟨a5, c5, rfl, hc5, hm5, rd5⟩ := own_rdN HO.out.2.2.2
      go_wp2_with fail
      go_ret
      have hv := HO.out.2.1
      rw [Nat.mul_zero, Nat.add_zero] at hv
      refine ⟨_, rfl, ⟨⟨a5, os.length, c5, os, rfl, hc5, hm5, rfl, HO.out.1, HO.out.2.2.1 trivial, hv, rd5⟩, ?_⟩, hb⟩
      have e4 : (1000000000000000 : Nat) ≤ 65536 ^ 4 := by decide
      have := Nat.pow_le_pow_right (show 0 < 65536 by decide) hL
      omega
end Bn
end Go.Proofs.YtmeimofnmpmaoaaGreatDoor
