/- The contracts of slices.Grow (of nil) and slices.Concat, at bytes. Conditions: sizes far below what a slice may take. -/
import Derived.Test.YtocjmbhfpofoeaaDoorQ
import Derived.Lib.AppendZeros
namespace Go.Proofs.YtocjmbhfpofoeaaDoor
open Go.RowKit

theorem info_parts {P : Program} {t : TypeId} {z : Value} {s b : Nat} (h : (P.info? t).map (fun i => (i.zero, i.size, i.bytes)) = some (some z, s, b)) : ∃ i, P.info? t = some i ∧ i.zero = some z ∧ i.size = s ∧ i.bytes = b := by
  obtain ⟨i, hi, hzz⟩ := Option.map_eq_some_iff.1 h
  simp only [Prod.mk.injEq] at hzz
  exact ⟨i, hi, hzz.1, hzz.2.1, hzz.2.2⟩
theorem Tryd.info23 : (Tryd.prog.info? 23).map (fun i => (i.zero, i.size, i.bytes)) = some (some (.slice none 0 0), 1, 24) := by kernel_rfl

set_option maxHeartbeats 1600000 in
theorem grow_any (n : Nat) (w : World) (hn : n ≤ 1000000) :
    Calls Tryd.prog 83 #[.slice none 0 0, .int .i64 (n : Int)] w fun e w' => ∃ v', e = .returned v' ∧ w'.ownsRow w.heap.size 5 1 v' 0 [] ∧ Below w.heap.size w w' := by
  obtain ⟨i0, hi, hz0, hz1, hz2⟩ := info_parts Tryd.info5
  rcases Nat.eq_zero_or_pos n with h0 | h0
  · subst h0
    go_enter Tryd.func83, Tryd.ntmps83
    go_wp2
    go_ret
    exact ⟨_, rfl, World.ownsRow_nil _ _ _ _, Below.refl _ _⟩
  · have h1 : (0 : Int) < (n : Int) := by omega
    have h2 : ¬ (n : Int) < 0 := by omega
    have hrz := fun ty => Lib.run_append_nil_zeros w 23 3 ty 5 i0 (.int .u8 0) .i64 .i64 Tryd.underlying23 Tryd.underlying3 hi hz0 n h0 (by omega) (by omega) (by rw [hz2]; omega)
    have hG : n ≤ grownCap w n 0 5 := grownCap_ge w _ _ _
    have hG2 := grownCap_le_maxLen w n 0 5 (by unfold maxLen; omega)
    obtain ⟨G, hGe⟩ : ∃ G, G = grownCap w n 0 5 := ⟨_, rfl⟩
    rw [← hGe] at hrz hG hG2
    have hG63 : G ≤ 9223372036854775807 := by unfold maxLen at hG2; omega
    have HG : Hid (G ≤ maxLen) := hG2
    clear hGe hG2
    go_enter Tryd.func83, Tryd.ntmps83
    go_wp2_with (at_builtin; refine Lib.wpList_append_run _ rfl _ _ _ _ rfl _ _ rfl rfl _ _ (hrz _) ?_)
    go_ret
    refine ⟨_, rfl, World.ownsRow_made w.drew _ G (Nat.le_refl _) HG.out ?_, ((Below.refl _ _).drew).alloc (Nat.le_refl _) _⟩
    have e := zeros_made G
    simp [Builtin.zeroCells]
    omega

set_option maxHeartbeats 1600000 in
theorem concat_any (a : Option Addr) (len cap : Nat) (ls : List (List Int)) (w : World) (hI : IsR w a len cap ls) (hlen : ls.flatten.length ≤ 1000000) :
    Calls Tryd.prog 79 #[.slice a len cap] w fun e w' => ∃ v', e = .returned v' ∧ w'.ownsRow w.heap.size 5 1 v' ls.flatten.length (ls.flatten.map (Value.int .u8)) ∧ Below w.heap.size w w' := by
  obtain ⟨i0, hi, hz0, hz1, hz2⟩ := info_parts Tryd.info5
  have hm := hI.hm
  have hc := hI.hc
  unfold maxLen at hm
  have HI : Hid (IsR w a len cap ls) := hI
  clear hI
  have HF : Hid (∀ k, k < len → ((ls.take (k + 1)).flatten = (ls.take k).flatten ++ ls.getD k []) ∧ (ls.take (k + 1)).flatten.length = (ls.take k).flatten.length + (ls.getD k []).length ∧ (ls.take (k + 1)).flatten.length ≤ 1000000) := fun k hk => by
    have hkl : k < ls.length := by rw [HI.out.hl]; exact hk
    have e : (ls.take (k + 1)).flatten = (ls.take k).flatten ++ ls.getD k [] := by rw [take_snocR ls k hkl]; simp
    refine ⟨e, by rw [e, List.length_append], ?_⟩
    have h2 := congrArg (fun l => (List.flatten l).length) (List.take_append_drop (k + 1) ls)
    simp only [List.flatten_append, List.length_append] at h2
    omega
  have HA : Hid ((ls.take len).flatten = ls.flatten ∧ ls.flatten.length ≤ 1000000) := ⟨by rw [List.take_of_length_le (by rw [HI.out.hl]; exact Nat.le_refl _)], hlen⟩
  clear hlen
  obtain ⟨T, hT⟩ : ∃ T, Hid (T = ls.flatten) := ⟨_, rfl⟩
  rw [← hT.out]
  go_enter Tryd.func79, Tryd.ntmps79
  go_wp2_with fail
  go_loop [3, 5, 11] (fun sz _ i => ∃ k n : Nat, k ≤ len ∧ i = .int .i64 (k : Int) ∧ sz = .int .i64 (n : Int) ∧ n ≤ 1000000 ∧ Hid (n = (ls.take k).flatten.length)) (fun _ _ i => len - (intOf i).toNat)
  case atStart => exact ⟨0, 0, Nat.zero_le _, rfl, rfl, Nat.zero_le _, (by simp : 0 = (ls.take 0).flatten.length)⟩
  case round =>
    obtain ⟨k, n, hk, rfl, rfl, hn, HN⟩ := hrel
    by_cases hlt : k < len
    · have hlt' : (k : Int) < (len : Int) := by omega
      have hkl : k < ls.length := by rw [HI.out.hl]; exact hlt
      obtain ⟨g, off, ai, ni, ci', rfl, hg, c0, hx⟩ := HI.out.rd.at hkl
      obtain ⟨f1, f2, f3⟩ := HF.out k hlt
      have hni : n + ni ≤ 1000000 := by have := HN.out; rw [hx.hl] at f2; omega
      have hneg : ¬ (n : Int) + (ni : Int) < 0 := by omega
      have HN2 : Hid (n + ni = (ls.take (k + 1)).flatten.length) := by show _ = _; rw [f2, hx.hl, HN.out]
      clear hx f1 f2 f3 hkl
      go_wp2_with fail
      go_round
      case rel => exact ⟨k + 1, n + ni, by omega, by go_num, by go_num, hni, HN2.out⟩
      case measure => simp [intOf]; omega
    · have hlt' : ¬ (k : Int) < (len : Int) := by omega
      obtain rfl : k = len := by omega
      go_wp2_with fail
      refine Calls.mono (grow_any n w hn) ?_
      rintro e w1 ⟨v1, rfl, ho, hb⟩
      have H1 : Hid (w1.ownsRow w.heap.size 5 1 v1 0 [] ∧ Below w.heap.size w w1) := ⟨ho, hb⟩
      clear ho hb HN
      go_wp2_with fail
      go_loopw [6, 8, 27] (fun v _ i wr => ∃ k' m : Nat, k' ≤ k ∧ i = .int .i64 (k' : Int) ∧ m ≤ 1000000 ∧ Hid (m = (ls.take k').flatten.length) ∧ Hid (wr.ownsRow w.heap.size 5 1 v m ((ls.take k').flatten.map (Value.int .u8))) ∧ Below w.heap.size w wr) (fun _ _ i _ => k - (intOf i).toNat)
      case atStart => exact ⟨0, 0, Nat.zero_le _, rfl, Nat.zero_le _, (by simp : 0 = (ls.take 0).flatten.length), (by simpa using H1.out.1 : World.ownsRow w1 _ 5 1 v1 0 ((ls.take 0).flatten.map _)), H1.out.2⟩
      case round =>
        obtain ⟨k', m, hk', rfl, hmm, HM, HR, hbel⟩ := hrel
        have hbase := hbel.size
        by_cases hlt : k' < k
        · have hlt' : (k' : Int) < (k : Int) := by omega
          have hkl : k' < ls.length := by rw [HI.out.hl]; exact hlt
          obtain ⟨g, off, ai, ni, ci', rfl, hg, c0, hx⟩ := (HI.out.rd.below hbel).at hkl
          obtain ⟨f1, f2, f3⟩ := HF.out k' hlt
          have hni : m + ni ≤ 1000000 := by have := HM.out; rw [hx.hl] at f2; omega
          have HX : Hid (IsI .u8 wr ai ni ci' (ls.getD k' []) ∧ (ls.take (k' + 1)).flatten = (ls.take k').flatten ++ ls.getD k' [] ∧ m + ni = (ls.take (k' + 1)).flatten.length) := ⟨hx, f1, by rw [f2, hx.hl, HM.out]⟩
          clear hx f1 f2 f3 hkl
          go_wp2_with (at_builtin; refine wpList_append_any _ rfl (.tmp 31) (.tmp 32) 23 rfl w.heap.size 5 i0 (.int .u8 0) 1 1 Tryd.underlying23 hi hz0 hz1 hz2 rfl (by decide) _ m _ rfl HR.out ai ni ci' ((ls.getD k' []).map (Value.int .u8)) rfl (by rw [List.length_map, HX.out.1.hl, Nat.mul_one]) HX.out.1.none (rd_any HX.out.1.rd) (ints_oneCell .u8 _) (by unfold maxLen; omega) (by omega) hbase ?_; intro v2 w2 ho2 hg2)
          go_roundw
          case rel =>
            refine ⟨k' + 1, m + ni, by omega, by go_num, hni, HX.out.2.2, ?_, hbel.grown hg2 hbase (fun j hj => (HR.out.lt j hj).1)⟩
            show World.ownsRow _ _ _ _ _ _ _
            rw [HX.out.2.1, List.map_append]
            exact ho2
          case measure => simp [intOf]; omega
        · have hlt' : ¬ (k' : Int) < (k : Int) := by omega
          obtain rfl : k' = k := by omega
          go_wp2_with fail
          go_ret
          refine ⟨u6, rfl, ?_, hbel⟩
          have := HR.out
          rw [HM.out, HA.out.1, ← hT.out] at this
          exact this
end Go.Proofs.YtocjmbhfpofoeaaDoor
