/- The contract of the document's own Prefix. Conditions: those of each theorem. -/
import Derived.Test.YtocjmbhfpofoeaaDoorDf
namespace Go.Proofs.YtocjmbhfpofoeaaDoor
open Go.RowKit

set_option maxRecDepth 20000 in
set_option maxHeartbeats 3200000 in
theorem prefix_doc (a : Option Addr) (n c : Nat) (ls : List (List Int)) (ax : Option Addr) (nx cx : Nat) (x : List Int) (w : World) (hR : IsR w a n c ls) (hwf : WfR ls) (hX : IsI .u8 w ax nx cx x) (hbx : Bytes x) (hn : n ≤ 2000) :
    Calls Tryd.prog 25 #[.slice a n c, .slice ax nx cx] w (Out (ls.filter (fun y => pfx y x)) w) := by
  obtain ⟨i0, hi0, hz0, hz1, hz2⟩ := info_parts Tryd.info23
  have HI : Hid (IsR w a n c ls ∧ WfR ls ∧ IsI .u8 w ax nx cx x ∧ Bytes x) := ⟨hR, hwf, hX, hbx⟩
  have HL : Hid (ls.length = n) := hR.hl
  clear hR hwf hX hbx
  go_enter Tryd.func25, Tryd.ntmps25
  go_wp2_with fail
  go_loopw [5, 6] (fun v i wr => ∃ (k q kl : Nat) (V : World) (xs : List Value), i = .int .i64 (k : Int) ∧ k ≤ n ∧ kl ≤ k ∧ Hid (V.ownsRow w.heap.size 23 1 v kl xs ∧ kl = ((ls.take k).filter (fun y => pfx y x)).length ∧ kl ≤ k ∧ RdP w xs ((ls.take k).filter (fun y => pfx y x)) ∧ Below w.heap.size w V) ∧ wr = V.drewN q) (fun _ i _ => n - (intOf i).toNat)
  case atStart => exact ⟨0, 0, 0, w, [], rfl, Nat.zero_le _, Nat.le_refl _, ⟨World.ownsRow_nil _ _ _ _, by simp, Nat.zero_le _, by simpa using rdP_nil w, Below.refl _ _⟩, (drewN_zero w).symm⟩
  case round =>
    obtain ⟨k, q, kl, V, xs, rfl, hk, hkl, HA, rfl⟩ := hrel
    obtain ⟨va, vc, rfl, _⟩ := own_isP HA.out.1 HA.out.2.2.2.1 HA.out.2.2.2.2
    by_cases hlt : k < n
    · have hlt' : (k : Int) < (n : Int) := by omega
      have hk0 : (0 : Int) ≤ (k : Int) := by omega
      have hw : IntKind.i64.wrap ((k : Int) + 1) = (k : Int) + 1 := by rw [IntKind.wrap_i64]; omega
      have hkl2 : k < ls.length := by rw [HL.out]; omega
      obtain ⟨g, off, ai, ni, ci, rfl, hg, c0, hi⟩ := (HI.out.1.below HA.out.2.2.2.2).rd.at hkl2
      obtain ⟨g', off', ai', ni', ci', e', hg', c0', hi'⟩ := HI.out.1.rd.at hkl2
      cases e'
      have hsame := (HA.out.2.2.2.2.cell (p := ⟨g, off + k, none⟩) hg').trans c0'
      rw [c0] at hsame
      cases hsame
      have HS : Hid _ := filter_snoc (fun y => pfx y x) ls hkl2
      have hnil := hi.hl
      have hnic := hi.hc
      have hnxl := HI.out.2.2.1.hl
      by_cases hge : nx ≤ ni
      · have hge' : (nx : Int) ≤ (ni : Int) := by omega
        have hgc : (nx : Int) ≤ (ci : Int) := by omega
        have hn0 : (0 : Int) ≤ (nx : Int) := by omega
        have hT : IsI .u8 V ai nx ci ((ls.getD k []).take nx) := ⟨by rw [List.length_take]; omega, by omega, hi.hm, hi.rd.take nx, hi.nil⟩
        have v0 := conv_drew V ai ci nx _ hT
        have v1 := conv_drew V ax cx nx _ (HI.out.2.2.1.below HA.out.2.2.2.2)
        have hl := str_same (bytes_take (HI.out.2.1 _ (getD_memR hkl2)) nx) HI.out.2.2.2
        obtain ⟨r, hr⟩ : ∃ r, Hid (r = pfx (ls.getD k []) x) := ⟨_, rfl⟩
        have hrr : decide ((ls.getD k []).take nx = x) = r := by
          rw [hr.out]; unfold pfx; rw [hnxl, hnil]; simp [hge]
        rw [hrr] at hl
        have HY : Hid (IsI .u8 w ai ni ci (ls.getD k [])) := hi'
        generalize strOfNums ((ls.getD k []).take nx) = M at *
        generalize strOfNums x = E at *
        clear hi hi' c0' hkl2 hT hrr hnil hnxl
        cases r with
        | false =>
          have HF : Hid ((ls.take (k + 1)).filter (fun y => pfx y x) = (ls.take k).filter (fun y => pfx y x)) := by
            show _ = _
            rw [HS.out, if_neg (by rw [← hr.out]; simp), List.append_nil]
          go_wp2
          go_quiet (fail)
          go_wp2
          go_roundw
          case rel => exact ⟨k + 1, _, kl, V, xs, by go_num, by omega, by omega, ⟨HA.out.1, by rw [HF.out]; exact HA.out.2.1, by omega, by rw [HF.out]; exact HA.out.2.2.2.1, HA.out.2.2.2.2⟩, rfl⟩
          case measure => simp [intOf]; omega
        | true =>
          have HF : Hid ((ls.take (k + 1)).filter (fun y => pfx y x) = (ls.take k).filter (fun y => pfx y x) ++ [ls.getD k []]) := by
            show _ = _
            rw [HS.out, if_pos (by rw [← hr.out])]
          go_wp2
          go_quiet (fail)
          go_wp2_with (
            at_builtin; go_loud (refine wpList_append_one _ rfl (.tmp 34) (.tmp 39) 22 rfl w.heap.size 23 i0 _ 24 Tryd.underlying22 hi0 hz0 hz1 hz2 rfl _ kl xs rfl (World.ownsRow.alloc (w := V.drewN _) HA.out.1 _) (some ⟨V.heap.size, 0, none⟩) 1 1 [.slice ai ni ci] rfl rfl (fun h => by cases h) (fun ad h => by cases h; exact at_one ((cell_blk (heap_alloc_new (V.drewN _) _) 0).trans rfl)) (by simp [Value.oneCell']) (by unfold maxLen; omega) (by omega) (by have := HA.out.2.2.2.2.size; simp; omega) ?_)
            intro v5 w5 ho5 hg5
            have HG : Hid (w5.ownsRow w.heap.size 23 1 v5 (kl + 1) (xs ++ [.slice ai ni ci]) ∧ Below w.heap.size w w5) := ⟨ho5, ((HA.out.2.2.2.2.trans ((below_dr V _).mono HA.out.2.2.2.2.size)).alloc (by have := HA.out.2.2.2.2.size; simp; omega) _).grown hg5 (by have := HA.out.2.2.2.2.size; simp; omega) (fun j hj => (HA.out.1.lt j hj).1)⟩
            clear ho5 hg5)
          go_roundw
          case rel => exact ⟨k + 1, 0, kl + 1, w5, _, by go_num, by omega, by omega, ⟨HG.out.1, by rw [HF.out, List.length_append, ← HA.out.2.1]; rfl, by omega, by rw [HF.out]; exact HA.out.2.2.2.1.snoc HY.out, HG.out.2⟩, (drewN_zero _).symm⟩
          case measure => simp [intOf]; omega
      · have hge' : ¬ (nx : Int) ≤ (ni : Int) := by omega
        have HF : Hid ((ls.take (k + 1)).filter (fun y => pfx y x) = (ls.take k).filter (fun y => pfx y x)) := by
          show _ = _
          have hp : pfx (ls.getD k []) x = false := by unfold pfx; rw [hnxl, hnil]; simp [hge]
          rw [HS.out, if_neg (by rw [hp]; simp), List.append_nil]
        clear hi hi' c0' hkl2 hnil hnxl
        go_wp2
        go_quiet (fail)
        go_wp2
        go_roundw
        case rel => exact ⟨k + 1, _, kl, V, xs, by go_num, by omega, by omega, ⟨HA.out.1, by rw [HF.out]; exact HA.out.2.1, by omega, by rw [HF.out]; exact HA.out.2.2.2.1, HA.out.2.2.2.2⟩, rfl⟩
        case measure => simp [intOf]; omega
    · have hlt' : ¬ (k : Int) < (n : Int) := by omega
      have HF : Hid (ls.filter (fun y => pfx y x) = (ls.take k).filter (fun y => pfx y x)) := by
        show _ = _
        rw [List.take_of_length_le (by rw [HL.out]; omega)]
      go_wp2
      go_ret
      have hb : Below w.heap.size w (V.drewN q) := HA.out.2.2.2.2.trans ((below_dr V q).mono HA.out.2.2.2.2.size)
      obtain ⟨a', c', e, h⟩ := own_isP (U := V.drewN q) HA.out.1 HA.out.2.2.2.1 hb
      cases e
      refine ⟨hb, _, _, _, rfl, ?_⟩
      rw [HF.out]; exact h
end Go.Proofs.YtocjmbhfpofoeaaDoor
