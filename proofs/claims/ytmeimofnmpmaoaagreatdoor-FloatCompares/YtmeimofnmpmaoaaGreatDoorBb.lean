/- The contracts of the document's own times and less on long numbers. Conditions: numbers below 2^16 to the power of L, at most 90. -/
import Derived.Test.YtmeimofnmpmaoaaGreatDoorBa
namespace Go.Proofs.YtmeimofnmpmaoaaGreatDoor
open Go.RowKit
namespace Bn

theorem times_step (d k c : Nat) (hd : d < 65536) (hc : c < k) : (d * k + c) / 65536 < k ∧ (d * k + c) % 65536 < 65536 := by
  refine ⟨?_, Nat.mod_lt _ (by decide)⟩
  rw [Nat.div_lt_iff_lt_mul (by decide)]
  have : d * k + k ≤ 65536 * k := by
    have := Nat.mul_le_mul_right k (show d + 1 ≤ 65536 by omega)
    rw [Nat.add_mul] at this; omega
  rw [Nat.mul_comm k]; omega
theorem carry_step {P o x k c d : Nat} (h : o + P * c = x * k) : o + P * ((d * k + c) % 65536) + P * 65536 * ((d * k + c) / 65536) = (x + P * d) * k := by
  have e := Nat.mod_add_div (d * k + c) 65536
  have e2 : P * ((d * k + c) % 65536) + P * 65536 * ((d * k + c) / 65536) = P * (d * k + c) := by
    rw [Nat.mul_assoc, ← Nat.mul_add, e]
  rw [Nat.add_assoc, e2, Nat.mul_add, Nat.add_mul, Nat.mul_assoc, ← h]
  omega

set_option maxHeartbeats 3200000 in
theorem times_any (L : Nat) (hL : L ≤ 90) (v : Value) (N k : Nat) (w : World) (hv : Big L w v N) (k1 : 1 ≤ k) (k2 : k ≤ 10) (hlt : N * k < 65536 ^ L) :
    Calls Tryz.prog 30 #[v, .int .i64 (k : Int), .int .i64 0] w fun r w' => ∃ v', r = .returned v' ∧ Big L w' v' (N * k) ∧ Below w.heap.size w w' := by
  obtain ⟨⟨a, n, c, ds, rfl, hnc, hcm, hl, hD, hN, hV, hR⟩, hNL⟩ := hv
  obtain ⟨i0, hi, hz0, hz1, hz2⟩ := info3_parts
  have hn : n ≤ 90 := by have := len_le hN (by rw [hV]; exact hNL); omega
  have HR : Hid (RdN w a ds ∧ ds.length = n ∧ AllD ds ∧ vl ds = N ∧ N * k < 65536 ^ L) := ⟨hR, hl, hD, hV, hlt⟩
  have hcm' : c ≤ 9223372036854775807 := by unfold maxLen at hcm; omega
  clear hR hl hD hV hlt hN hNL hcm
  go_enter Tryz.func30, Tryz.ntmps30
  go_wp2
  go_loopw [7, 8, 9] (fun s ca i wr => ∃ (j q : Nat) (os : List Nat), i = .int .i64 (j : Int) ∧ j ≤ n ∧ ca = .int .i64 (q : Int) ∧ q < k ∧ Hid (os.length = j ∧ AllD os ∧ vl os + 65536 ^ j * q = vl (ds.take j) * k ∧ wr.ownsRow w.heap.size 3 1 s j (cs os)) ∧ Below w.heap.size w wr) (fun _ _ i _ => n - (intOf i).toNat)
  case atStart => exact ⟨0, 0, [], rfl, Nat.zero_le _, rfl, by omega, ⟨rfl, allD_nil, by simp [vl], World.ownsRow_nil _ _ _ _⟩, Below.refl _ _⟩
  case round =>
    obtain ⟨j, q, os, rfl, hj, rfl, hq, HO, hb⟩ := hrel
    have hsz := hb.size
    by_cases hjn : j < n
    · have hjn' : (j : Int) < (n : Int) := by omega
      obtain ⟨b, off, rfl, hbb, c0⟩ := HR.out.1.at (k := j) (by rw [HR.out.2.1]; exact hjn)
      have d0 := (hb.cell (p := ⟨b, off + j, none⟩) hbb).trans c0
      clear c0
      have hd := HR.out.2.2.1 j
      obtain ⟨d, hdd⟩ : ∃ d, Hid (d = ds.getD j 0) := ⟨_, rfl⟩
      rw [← hdd.out] at d0 hd
      obtain ⟨x, hx⟩ : ∃ x, Hid (x = d * k + q) := ⟨_, rfl⟩
      have hdk : d * k ≤ 655350 := by have := Nat.mul_le_mul (show d ≤ 65535 by omega) k2; omega
      have hxi : (d : Int) * (k : Int) + (q : Int) = (x : Int) := by rw [hx.out]; push_cast; rfl
      have hdk0 : (0 : Int) ≤ (d : Int) * (k : Int) := by have : ((d * k : Nat) : Int) = (d : Int) * (k : Int) := by push_cast; rfl
                                                          omega
      have hdk1 : (d : Int) * (k : Int) ≤ 655350 := by have : ((d * k : Nat) : Int) = (d : Int) * (k : Int) := by push_cast; rfl
                                                       omega
      have hxb : x ≤ 700000 := by rw [hx.out]; omega
      have HS : Hid (x / 65536 < k ∧ x % 65536 < 65536) := by rw [hx.out]; exact times_step d k q hd hq
      have HC : Hid (vl os + 65536 ^ j * (x % 65536) + 65536 ^ j * 65536 * (x / 65536) = (vl (ds.take j) + 65536 ^ j * d) * k) := by rw [hx.out]; exact carry_step HO.out.2.2.1
      have HT : Hid (vl (ds.take (j + 1)) = vl (ds.take j) + 65536 ^ j * d) := by show _ = _; rw [hdd.out]; exact vl_take_succ ds j (by rw [HR.out.2.1]; exact hjn)
      go_wp2_with (at_builtin; refine wpList_append_own _ rfl (.tmp 26) (.tmp 29) 53 rfl w.heap.size 3 i0 (.int .i64 0) 1 8 Tryz.underlying53 hi hz0 hz1 hz2 rfl (by decide) _ j _ rfl (HO.out.2.2.2.alloc _) ⟨wr.heap.size, 0, none⟩ 1 1 [.int .i64 ((x : Int) % 65536)] rfl rfl (one_at wr _ _) (one_one _) (by unfold maxLen; omega) (by omega) (by simp; omega) ?_; intro v' w1 hown' hgrow _)
      go_roundw
      case rel =>
        refine ⟨j + 1, x / 65536, os ++ [x % 65536], by go_num, hjn, ?_, HS.out.1, ⟨by simp [HO.out.1], allD_snoc HO.out.2.1 HS.out.2, ?_, ?_⟩, ?_⟩
        · congr 1
        · rw [vl_snoc, HO.out.1, Nat.pow_succ, HT.out]; exact HC.out
        · rw [cs_snoc]; exact hown'
        · exact (hb.alloc hsz _).grown hgrow (by simp; omega) (fun j hj => (HO.out.2.2.2.lt j hj).1)
      case measure => simp [intOf]; omega
    · have hjn' : ¬ (j : Int) < (n : Int) := by omega
      obtain rfl : j = n := by omega
      go_wp2_with fail
      go_loopw [7, 8] (fun s ca wr => ∃ (q' : Nat) (os' : List Nat), ca = .int .i64 (q' : Int) ∧ q' < 11 ∧ Hid (AllD os' ∧ vl os' + 65536 ^ os'.length * q' = vl ds * k ∧ wr.ownsRow w.heap.size 3 1 s os'.length (cs os')) ∧ os'.length ≤ 91 ∧ (q' = 0 ∨ os'.length ≤ 90) ∧ Below w.heap.size w wr) (fun _ ca _ => (intOf ca).toNat)
      case atStart =>
        have htk : ds.take j = ds := List.take_of_length_le (by rw [HR.out.2.1]; exact Nat.le_refl _)
        have h1 := HO.out.1
        have h2 := HO.out.2.2.1
        rw [htk] at h2
        refine ⟨q, os, rfl, by omega, ⟨HO.out.2.1, by rw [h1]; exact h2, by rw [h1]; exact HO.out.2.2.2⟩, by omega, .inr (by omega), hb⟩
      case round =>
        obtain ⟨q', os', rfl, hq', HO', ho91, ho90, hb'⟩ := hrel
        have hsz' := hb'.size
        by_cases h0 : 0 < q'
        · have h0' : (0 : Int) < (q' : Int) := by omega
          obtain ⟨m, hm⟩ : ∃ m, Hid (m = os'.length) := ⟨_, rfl⟩
          have hm90 : m ≤ 90 := by have := hm.out; omega
          have e1 : (q' : Int) % 65536 = (q' : Int) := by omega
          have e2 : (q' : Int) / 65536 = 0 := by omega
          have HO2 := HO'.out.2.2
          rw [← hm.out] at HO2
          go_wp2_with (at_builtin; refine wpList_append_own _ rfl (.tmp 35) (.tmp 38) 53 rfl w.heap.size 3 i0 (.int .i64 0) 1 8 Tryz.underlying53 hi hz0 hz1 hz2 rfl (by decide) _ m _ rfl (HO2.alloc _) ⟨wr.heap.size, 0, none⟩ 1 1 [.int .i64 (q' : Int)] rfl rfl (one_at wr _ _) (one_one _) (by unfold maxLen; omega) (by omega) (by simp; omega) ?_; intro v' w1 hown' hgrow _)
          go_roundw
          case rel =>
            refine ⟨0, os' ++ [q'], rfl, by omega, ⟨allD_snoc HO'.out.1 (by omega), ?_, ?_⟩, ?_, .inl rfl, ?_⟩
            · rw [vl_snoc, Nat.mul_zero, Nat.add_zero]; exact HO'.out.2.1
            · rw [cs_snoc, List.length_append, ← hm.out]; exact hown'
            · simp; have := hm.out; omega
            · exact (hb'.alloc hsz' _).grown hgrow (by simp; omega) (fun j hj => (HO2.lt j hj).1)
          case measure => simp [intOf]; omega
        · have h0' : ¬ (0 : Int) < (q' : Int) := by omega
          obtain rfl : q' = 0 := by omega
          obtain ⟨a5, c5, rfl, hc5, hm5, rd5⟩ := own_rdN HO'.out.2.2
          have hv5 : Hid (vl os' = N * k) := by
            have := HO'.out.2.1
            rw [Nat.mul_zero, Nat.add_zero, HR.out.2.2.2.1] at this
            exact this
          have htr : Hid _ := trim_any a5 os'.length c5 os' wr rfl hc5 hm5 rd5
          go_wp2_with fail
          refine Calls.mono htr.out ?_
          rintro r w' ⟨m, hmn, rfl, hnm, hvm, hw'⟩; rw [hw']; clear hw' w'
          have HF : Hid (Norm (os'.take m) ∧ vl (os'.take m) = vl os') := ⟨hnm, hvm⟩
          clear hnm hvm
          go_wp2_with fail
          go_ret
          refine ⟨_, rfl, ⟨⟨a5, m, c5, os'.take m, rfl, by omega, hm5, by simp; omega, allD_take m HO'.out.1, HF.out.1, HF.out.2.trans hv5.out, rd5.take m⟩, HR.out.2.2.2.2⟩, hb'⟩

set_option maxHeartbeats 1600000 in
theorem less_any (L : Nat) (hL : L ≤ 90) (v v' : Value) (N N' : Nat) (w : World) (hv : Big L w v N) (hv' : Big L w v' N') :
    Calls Tryz.prog 31 #[v, v'] w fun r w' => r = .returned (.bool (decide (N < N'))) ∧ Below w.heap.size w w' := by
  obtain ⟨⟨a, n, c, ds, rfl, hnc, hcm, hl, hD, hN, hV, hR⟩, hNL⟩ := hv
  obtain ⟨⟨a', n', c', ds', rfl, hnc', hcm', hl', hD', hN', hV', hR'⟩, hNL'⟩ := hv'
  have hn : n ≤ 90 := by have := len_le hN (by rw [hV]; exact hNL); omega
  have hn' : n' ≤ 90 := by have := len_le hN' (by rw [hV']; exact hNL'); omega
  have HR : Hid (RdN w a ds ∧ ds.length = n ∧ AllD ds ∧ vl ds = N ∧ Norm ds) := ⟨hR, hl, hD, hV, hN⟩
  have HR' : Hid (RdN w a' ds' ∧ ds'.length = n' ∧ AllD ds' ∧ vl ds' = N' ∧ Norm ds') := ⟨hR', hl', hD', hV', hN'⟩
  clear hR hl hD hV hN hNL hcm hR' hl' hD' hV' hN' hNL' hcm'
  by_cases hnn : n = n'
  · subst hnn
    go_enter Tryz.func31, Tryz.ntmps31
    go_wp2
    go_loopw [5] (fun i wr => ∃ (j : Nat) (q : Nat), i = .int .i64 ((j : Int) - 1) ∧ j ≤ n ∧ Hid (ds.drop j = ds'.drop j) ∧ wr = w.drewN q) (fun i _ => (intOf i + 1).toNat)
    case atStart => exact ⟨n, 0, rfl, Nat.le_refl _, by show _ = _; rw [List.drop_of_length_le (by rw [HR.out.2.1]; exact Nat.le_refl _), List.drop_of_length_le (by rw [HR'.out.2.1]; exact Nat.le_refl _)], rfl⟩
    case round =>
      obtain ⟨j, q, rfl, hj, hdr, rfl⟩ := hrel
      by_cases h0 : 0 < j
      · obtain ⟨k, rfl⟩ : ∃ k, j = k + 1 := ⟨j - 1, by omega⟩
        have e1 : ((k + 1 : Nat) : Int) - 1 = (k : Int) := by omega
        rw [e1]
        obtain ⟨b, off, rfl, _, c0⟩ := HR.out.1.at (k := k) (by rw [HR.out.2.1]; omega)
        obtain ⟨b', off', rfl, _, c0'⟩ := HR'.out.1.at (k := k) (by rw [HR'.out.2.1]; omega)
        obtain ⟨x, hx⟩ : ∃ x, Hid (x = ds.getD k 0) := ⟨_, rfl⟩
        obtain ⟨y, hy⟩ : ∃ x, Hid (x = ds'.getD k 0) := ⟨_, rfl⟩
        rw [← hx.out] at c0
        rw [← hy.out] at c0'
        have hk0 : (0 : Int) ≤ (k : Int) := by omega
        have hkn : (k : Int) < (n : Int) := by omega
        by_cases hxy : x = y
        · subst hxy
          go_wp2
          go_quiet (fail)
          go_wp2
          go_roundw
          case rel =>
            refine ⟨k, _, rfl, by omega, ?_, rfl⟩
            show _ = _
            have g1 : ds.getD k 0 = ds'.getD k 0 := by rw [← hx.out, ← hy.out]
            have h1 : k < ds.length := by rw [HR.out.2.1]; omega
            have h2 : k < ds'.length := by rw [HR'.out.2.1]; omega
            simp [List.getD, h1, h2] at g1
            rw [List.drop_eq_getElem_cons h1, List.drop_eq_getElem_cons h2, hdr.out, g1]
          case measure => simp [intOf]
        · have hxy' : ¬ (x : Int) = (y : Int) := by omega
          have HD : Hid (decide (N < N') = decide (x < y)) := by
            show _ = _
            have h1 : k < ds.length := by rw [HR.out.2.1]; omega
            have h2 : k < ds'.length := by rw [HR'.out.2.1]; omega
            rcases Nat.lt_or_gt_of_ne hxy with h | h
            · have := cmp_at HR.out.2.2.1 h1 h2 hdr.out (by rw [← hx.out, ← hy.out]; exact h)
              rw [HR.out.2.2.2.1, HR'.out.2.2.2.1] at this
              rw [decide_eq_true this, decide_eq_true (by omega)]
            · have := cmp_at HR'.out.2.2.1 h2 h1 hdr.out.symm (by rw [← hx.out, ← hy.out]; exact h)
              rw [HR.out.2.2.2.1, HR'.out.2.2.2.1] at this
              rw [decide_eq_false (by omega), decide_eq_false (by omega)]
          go_wp2
          go_quiet (fail)
          go_wp2
          go_quiet (fail)
          go_wp2
          go_ret
          refine ⟨?_, ?_⟩
          · rw [HD.out]; rfl
          · exact below_more (below_more (below_drewN _ _) _) _
      · obtain rfl : j = 0 := by omega
        go_wp2
        go_ret
        refine ⟨?_, below_drewN _ _⟩
        have e : ds = ds' := by simpa using hdr.out
        have : N = N' := by rw [← HR.out.2.2.2.1, ← HR'.out.2.2.2.1, e]
        rw [decide_eq_false (by omega)]
        rfl
  · have hnn' : ¬ (n : Int) = (n' : Int) := by omega
    have HD : Hid (decide (N < N') = decide ((n : Int) < (n' : Int))) := by
      show _ = _
      rcases Nat.lt_or_gt_of_ne hnn with h | h
      · have := lt_of_len HR.out.2.2.1 HR'.out.2.2.2.2 (by rw [HR.out.2.1, HR'.out.2.1]; exact h)
        rw [HR.out.2.2.2.1, HR'.out.2.2.2.1] at this
        rw [decide_eq_true this, decide_eq_true (by omega)]
      · have := lt_of_len HR'.out.2.2.1 HR.out.2.2.2.2 (by rw [HR.out.2.1, HR'.out.2.1]; exact h)
        rw [HR.out.2.2.2.1, HR'.out.2.2.2.1] at this
        rw [decide_eq_false (by omega), decide_eq_false (by omega)]
    go_enter Tryz.func31, Tryz.ntmps31
    go_wp2
    go_ret
    exact ⟨by rw [HD.out]; first | rfl | (simp; done), Below.refl _ _⟩
end Bn
end Go.Proofs.YtmeimofnmpmaoaaGreatDoor
