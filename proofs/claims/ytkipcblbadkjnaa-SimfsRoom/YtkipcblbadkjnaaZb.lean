/- The document's example holds. Conditions: none. -/
import Derived.Test.YtkipcblbadkjnaaZa
import Derived.Lib.SlBytesConst
namespace Go.Proofs.Ytkipcblbadkjnaa
open Go.RowKit

/-- Bytes that are written out. -/
theorem rd_lit (w : World) (zs : List Int) (fr : Nat × Nat) : Rd .u8 (w.alloc (.cells (zs.map (Value.int .u8)).toArray 5 fr)) (some ⟨w.heap.size, 0, none⟩) zs := by
  refine .inr ⟨_, 0, rfl, by simp, fun i hi => ?_⟩
  rw [World.cell?, heap_alloc_new]
  simp [List.getD, hi]
set_option linter.unusedSimpArgs false in
set_option maxRecDepth 100000 in
set_option maxHeartbeats 8000000 in
theorem awake_any (w : World) : Calls Try.prog 10 #[] w fun e w' => e = .returned (.bool true) ∧ Below w.heap.size w w' := by
  go_enter Try.func10, Try.ntmps10
  go_wp2_with fail
  refine Calls.mono (new_any _ _) ?_
  rintro e w1 ⟨rfl, hw1⟩
  have hF : FW w1 w.heap.size (xnew 100) := by rw [hw1]; exact new_fw _ _
  have HF : Hid (FW w1 w.heap.size (xnew 100)) := hF
  have L1 : Hid (Lo w w1 w.heap.size (xnew 100)) := by rw [hw1]; exact Lo.new _ _
  clear hF hw1
  go_wp2_with fail
  refine Calls.mono (one_create HF.out) ?_
  rintro e w2 ⟨rfl, x2, g, m2, h2⟩
  have L2 : Hid (Lo w w2 w.heap.size x2) := L1.out.mv m2
  have H2 : Hid (One w2 w.heap.size x2 g [] 0) := h2
  clear h2 m2
  have hcv : Sem.run Try.prog (convert 32 32 (.slice (some ⟨w2.heap.size, 0, none⟩) 3 3)) (w2.alloc (.cells #[.int .u8 120, .int .u8 121, .int .u8 122] 5)) = .ok (.slice (some ⟨w2.heap.size, 0, none⟩) 3 3) (w2.alloc (.cells #[.int .u8 120, .int .u8 121, .int .u8 122] 5 (3, 4))) := Lib.run_convert_bytes_const w2 32 5 _ 3 3 Try.underlying32 Try.underlying5
  go_wp2_with fail
  have hb3 : Below w2.heap.size w2 (w2.alloc (.cells #[.int .u8 120, .int .u8 121, .int .u8 122] 5 (3, 4))) := (Below.refl _ _).alloc (Nat.le_refl _) _
  refine Calls.mono (one_append (H2.out.below hb3) [120, 121, 122] 3 _ (rd_lit w2 [120, 121, 122] (3, 4)) (fun hf => Nat.lt_irrefl _ (H2.out.fw.lt hf)) (by decide) (by decide)) ?_
  rintro e w3 ⟨rfl, x3, m3, h3⟩
  have L3 : Hid (Lo w w3 w.heap.size x3) := (L2.out.below hb3).mv m3
  have H3 : Hid (One w3 w.heap.size x3 g [120, 121, 122] 0) := h3
  clear h3 hb3 hcv m3
  go_wp2_with fail
  refine Calls.mono (one_sync H3.out) ?_
  rintro e w4 ⟨rfl, x4, m4, h4⟩
  have L4 : Hid (Lo w w4 w.heap.size x4) := L3.out.mv m4
  have H4 : Hid (One w4 w.heap.size x4 g [120, 121, 122] 3) := h4
  clear h4 m4
  have hcv : Sem.run Try.prog (convert 32 32 (.slice (some ⟨w4.heap.size, 0, none⟩) 2 2)) (w4.alloc (.cells #[.int .u8 117, .int .u8 118] 5)) = .ok (.slice (some ⟨w4.heap.size, 0, none⟩) 2 2) (w4.alloc (.cells #[.int .u8 117, .int .u8 118] 5 (2, 3))) := Lib.run_convert_bytes_const w4 32 5 _ 2 2 Try.underlying32 Try.underlying5
  go_wp2_with fail
  have hb5 : Below w4.heap.size w4 (w4.alloc (.cells #[.int .u8 117, .int .u8 118] 5 (2, 3))) := (Below.refl _ _).alloc (Nat.le_refl _) _
  refine Calls.mono (one_append (H4.out.below hb5) [117, 118] 2 _ (rd_lit w4 [117, 118] (2, 3)) (fun hf => Nat.lt_irrefl _ (H4.out.fw.lt hf)) (by decide) (by decide)) ?_
  rintro e w5 ⟨rfl, x5, m5, h5⟩
  have L5 : Hid (Lo w w5 w.heap.size x5) := (L4.out.below hb5).mv m5
  have H5 : Hid (One w5 w.heap.size x5 g [120, 121, 122, 117, 118] 3) := h5
  clear h5 hb5 hcv m5
  go_wp2_with fail
  refine Calls.mono (pending_fw H5.out.fw) ?_
  rintro e w6 ⟨rfl, rfl⟩
  rw [show (x5.cs.length : Int) = 1 by rw [H5.out.cs]; rfl]
  go_wp2_with fail
  refine Calls.mono (clone_any w.heap.size x5 w6 H5.out.fw) ?_
  rintro e w7 ⟨rfl, y, d, hy, hb7, hft, hcl⟩
  have H7 : Hid (One w7 w.heap.size x5 g [120, 121, 122, 117, 118] 3) := H5.out.below hb7
  have HY : Hid (FW w7 w6.heap.size y ∧ (∀ k, foot w6.heap.size y k → w6.heap.size ≤ k) ∧ ∀ s, y.sm s = none) := ⟨hy, hft, fun s => by rw [hcl.sm]; show (x5.sm s).bind d = none; rw [H5.out.sm]; rfl⟩
  have L7 : Hid (Lo w w7 w.heap.size x5) := L5.out.below hb7
  clear hy hb7 hft hcl
  go_wp2_with fail
  refine Calls.mono (one_crash H7.out 1) ?_
  rintro e w8 ⟨rfl, x8, hM8, hA8⟩
  have hsep : ∀ k, foot w.heap.size x5 k → ¬ foot w6.heap.size y k := fun k h1 h2 => by
    have := H5.out.fw.lt h1
    have := HY.out.2.1 k h2
    omega
  have HY8 : Hid (FW w8 w6.heap.size y) := HY.out.1.kp hM8.kp (fun k h1 h2 => hsep k h2 h1)
  have HA8 : Hid (Aft w8 w.heap.size x8 g [120, 121, 122, 117]) := hA8
  have HS8 : Hid (∀ k, foot w.heap.size x8 k → ¬ foot w6.heap.size y k) := fun k h1 h2 => by
    rcases hM8.ft k h1 with h3 | h3
    · exact hsep k h3 h2
    · have := HY.out.1.lt h2
      omega
  have L8 : Hid (Lo w w8 w.heap.size x8) := L7.out.mv hM8
  clear hM8 hA8 hsep
  go_wp2_with fail
  refine Calls.mono (read_ok w.heap.size x8 A1 w8 HA8.out.fw a1_size g (by rw [HA8.out.pm, if_pos rfl])) ?_
  rw [HA8.out.bs]
  rintro e w9 ⟨rfl, ho9, hb9⟩
  have HA9 : Hid (Aft w9 w.heap.size x8 g [120, 121, 122, 117]) := ⟨HA8.out.fw.below hb9, HA8.out.pm, HA8.out.bs, HA8.out.cs⟩
  have HY9 : Hid (FW w9 w6.heap.size y) := HY8.out.below hb9
  have L9 : Hid (Lo w w9 w.heap.size x8) := L8.out.below hb9
  have HB9 : Hid (w9.ownsRow w8.heap.size 5 1 (.slice (some ⟨w8.heap.size, 0, none⟩) 4 4) 4 (([120, 121, 122, 117] : List Int).map (Value.int .u8))) := ho9
  have hy8 : ∀ k, foot w6.heap.size y k → k < w8.heap.size := fun k hk => HY8.out.lt hk
  clear ho9 hb9
  go_wp2_with fail
  refine Calls.mono (clone_gone HY9.out HY.out.2.2 9) ?_
  rintro e w10 ⟨rfl, y', hM, hn⟩
  have HY10 : Hid (FW w10 w6.heap.size y' ∧ ∀ s, y'.pm s = none) := ⟨hM.fw, hn⟩
  have HA10 : Hid (Aft w10 w.heap.size x8 g [120, 121, 122, 117]) := ⟨HA9.out.fw.kp hM.kp (fun k h1 h2 => HS8.out k h1 h2), HA9.out.pm, HA9.out.bs, HA9.out.cs⟩
  have HB10 : Hid (w10.ownsRow w8.heap.size 5 1 (.slice (some ⟨w8.heap.size, 0, none⟩) 4 4) 4 (([120, 121, 122, 117] : List Int).map (Value.int .u8))) := own_kept HB9.out (fun k e => hM.kp.block k (tg_lt (own_tg HB9.out e)) (fun hf => by
    have := hy8 k hf
    have := (HB9.out.lt k e).1
    omega))
  have B10 : Hid (Below w.heap.size w w10) := L9.out.be.trans (hM.kp.below (fun k hf => by
    have := HY.out.2.1 k hf
    have := L5.out.be.size
    omega) L9.out.be.size)
  clear hM hn hy8
  go_wp2_with fail
  refine Calls.mono (list_empty _ HY10.out.1 HY10.out.2) ?_
  rintro e w11 ⟨la, lc, rfl, hb11⟩
  have HA11 : Hid (Aft w11 w.heap.size x8 g [120, 121, 122, 117]) := ⟨HA10.out.fw.below hb11, HA10.out.pm, HA10.out.bs, HA10.out.cs⟩
  have B11 : Hid (Below w.heap.size w w11) := B10.out.trans (hb11.mono B10.out.size)
  have hcv : Sem.run Try.prog (convert 32 9 (.slice (some ⟨w8.heap.size, 0, none⟩) 4 4)) w11 = .ok (.string ⟨#[120, 121, 122, 117]⟩) w11 := by
    obtain ⟨a, c, e1, e2, hr⟩ := own_rd HB10.out
    cases e1
    exact conv_rd w11 _ 4 4 _ rfl (hr.below hb11)
  clear hb11
  go_wp2_with fail
  refine Calls.mono (aft_used HA11.out) ?_
  rintro e w12 ⟨rfl, hb12⟩
  rw [show ((([120, 121, 122, 117] : List Int).length : Nat) : Int) = 4 from rfl]
  have HF12 : Hid (FW w12 w.heap.size x8) := HA11.out.fw.below hb12
  have B12 : Hid (Below w.heap.size w w12) := B11.out.trans (hb12.mono B11.out.size)
  clear hb12 hcv
  go_wp2_with fail
  refine Calls.mono (pending_fw HF12.out) ?_
  rintro e w13 ⟨rfl, rfl⟩
  rw [show (x8.cs.length : Int) = 0 by rw [HA11.out.cs]; rfl]
  go_wp2_with fail
  go_ret
  exact ⟨rfl, B12.out⟩
end Go.Proofs.Ytkipcblbadkjnaa
