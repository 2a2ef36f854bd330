/- The contract of awake: the document's examples. Conditions: the table of the fewest holds what it is laid with. -/
import Derived.Test.YtbgipenonngccaaDoorPb
import Derived.Test.YtbgipenonngccaaDoorDa
import Derived.Test.YtbgipenonngccaaDoorH
namespace Go.Proofs.YtbgipenonngccaaDoor
open Go.RowKit

theorem zb_small {n : Int} {u : Nat} (h : (zz n).toNat = u) (hu : u < 128) : zb n = [(u : Int)] := by unfold zb; rw [h, bs_small hu]
theorem zb_5 : zb 5 = [10] := zb_small (u := 10) rfl (by decide)
theorem zb_10 : zb 10 = [20] := zb_small (u := 20) rfl (by decide)
theorem bs_3 : bs 3 = [3] := bs_small (by decide)
theorem bs_0 : bs 0 = [0] := bs_small (by decide)
theorem all_lit (l : List Int) (h : l.all (fun x => decide (-9223372036854775808 ≤ x) && decide (x ≤ 9223372036854775807)) = true) : All64 l := all64_iff.2 fun x hx => by
  have := List.all_eq_true.1 h x hx
  simpa [I64] using this
theorem sl_lit (w : World) (k : IntKind) (t : TypeId) (zs : List Int) (h : zs.length ≤ 100) : Sl k zs (.slice (some ⟨w.heap.size, 0, none⟩) zs.length zs.length) (w.alloc (.cells (zs.map (Value.int k)).toArray t)) := by
  refine ⟨w.heap.size, 0, zs.length, rfl, by simp, Nat.le_refl _, by unfold maxLen; omega, fun i hi => ?_⟩
  have hn := World.alloc_heap_new w (.cells (zs.map (Value.int k)).toArray t)
  simp only [World.cell?, hn, Nat.zero_add]
  simp [List.getD, hi]
theorem best_nil : best [] = 2 ∧ code 2 [] = some [2, 0] := by
  have hc : code 2 [] = some [2, 0] := by
    rw [code_two (by decide)]
    show some (2 :: (bs 0 ++ [])) = _
    rw [bs_0]; rfl
  refine ⟨best_is (b := 2) (by decide) hc (fun j c' hc' => ?_) (fun j c' hj hc' => ?_), hc⟩
  · rcases Nat.lt_or_ge j 4 with hj | hj
    · rcases four hj with rfl | rfl | rfl | rfl
      · rw [code_nil rfl] at hc'; cases hc'
      · rw [code_nil rfl] at hc'; cases hc'
      · rw [hc] at hc'; cases hc'; exact Nat.le_refl _
      · rw [code_nil rfl] at hc'; cases hc'
    · rw [code_four hj] at hc'; cases hc'
  · have : j = 0 ∨ j = 1 := by omega
    rcases this with rfl | rfl <;> (rw [code_nil rfl] at hc'; cases hc')

theorem enc_555 (a : Option Addr) (cap : Nat) (w : World) (hcap : 3 ≤ cap) (hmax : cap ≤ maxLen) (hrd : Rd .i64 w a [5, 5, 5]) (hF : Fw w) :
    Calls Tryd.prog 13 #[.slice a 3 cap] w fun e w' => ∃ v, e = .returned v ∧ Sl .u8 [0, 3, 10] v w' ∧ Below w.heap.size w w' := by
  refine (encode_any a 3 cap [5, 5, 5] w rfl hcap hmax hrd (all_lit _ rfl) hF).mono ?_
  obtain ⟨h1, h2⟩ := flat_alike (a := 5) (by unfold I64; decide) (n := 3) (by decide) (by decide)
  have h1' : best [5, 5, 5] = 0 := h1
  have h2' : code 0 [5, 5, 5] = some [0, 3, 10] := by
    rw [bs_3, zb_5] at h2; exact h2
  rintro e w' ⟨⟨c, g, cp, hc, rfl, ho⟩ | ⟨hc, _⟩, hb⟩
  · rw [h1'] at hc
    have e : codeI 0 [5, 5, 5] = some [0, 3, 10] := h2'
    rw [e] at hc; cases hc
    exact ⟨_, rfl, own_sl ho (by decide), hb⟩
  · rw [h1'] at hc
    have e : codeI 0 [5, 5, 5] = some [0, 3, 10] := h2'
    rw [e] at hc; cases hc
theorem enc_nil (w : World) (hF : Fw w) :
    Calls Tryd.prog 13 #[.slice none 0 0] w fun e w' => ∃ v, e = .returned v ∧ Sl .u8 [2, 0] v w' ∧ Below w.heap.size w w' := by
  refine (encode_any none 0 0 [] w rfl (Nat.le_refl _) (by decide) (.inl rfl) all64_nil hF).mono ?_
  obtain ⟨h1, h2⟩ := best_nil
  rintro e w' ⟨⟨c, g, cp, hc, rfl, ho⟩ | ⟨hc, _⟩, hb⟩
  · rw [h1] at hc
    have e : codeI 2 [] = some [2, 0] := h2
    rw [e] at hc; cases hc
    exact ⟨_, rfl, own_sl ho (by decide), hb⟩
  · rw [h1] at hc
    have e : codeI 2 [] = some [2, 0] := h2
    rw [e] at hc; cases hc
theorem cho_123 (a : Option Addr) (cap : Nat) (w : World) (hcap : 3 ≤ cap) (hmax : cap ≤ maxLen) (hrd : Rd .i64 w a [10, 20, 30]) (hF : Fw w) :
    Calls Tryd.prog 12 #[.slice a 3 cap] w fun e w' => e = .returned (.int .i64 1) ∧ Below w.heap.size w w' := by
  refine (choose_any a 3 cap [10, 20, 30] w rfl hcap hmax hrd (all_lit _ rfl) hF).mono ?_
  obtain ⟨h1, _⟩ := flat_even (a := 10) (d := 10) (by unfold I64; decide) (by unfold I64; decide) (by decide) (n := 3) (by decide) (by decide)
  have e3 : ev 10 10 3 = [10, 20, 30] := by simp [ev, wrap64]
  rw [e3] at h1
  have h1' : best [10, 20, 30] = 1 := h1
  rintro e w' ⟨rfl, hb⟩
  exact ⟨by rw [h1'], hb⟩
theorem dec_123 (g : Nat) (w : World) (hg : g < w.heap.size) (hc : ∀ i, i < 5 → w.cell? ⟨g, 0 + i, none⟩ = some (.int .u8 (([1, 3, 20, 20, 9] : List Int).getD i 0))) (hF : Fw w) :
    Calls Tryd.prog 14 #[.slice (some ⟨g, 0, none⟩) 5 5] w (DecIs [10, 20, 30] [9] w) := by
  have e : (((1 : Nat) : Int) :: (bs ([10, 20, 30] : List Int).length ++ (zbs [10, 10] ++ [9]))) = [1, 3, 20, 20, 9] := by
    show (1 : Int) :: (bs 3 ++ ((zb 10 ++ (zb 10 ++ [])) ++ [9])) = _
    rw [bs_3, zb_10]; rfl
  have hx : nms 1 [10, 20, 30] = some [10, 10] := by decide +kernel
  exact dec_ok 1 (by decide) [10, 20, 30] [10, 10] [9] (all_lit _ rfl) hx (by decide) (by decide) g 0 5 5 w hg (by rw [e]; rfl) (by rw [e]; exact hc) (by decide) (by decide) hF

set_option linter.unusedSimpArgs false in
set_option maxHeartbeats 3200000 in
theorem awake_any (w : World) (hF0 : Fw w) : Calls Tryd.prog 8 #[] w fun e w' => e = .returned (.bool true) ∧ Below w.heap.size w w' := by
  have HF0 : Hid (Fw w) := hF0
  clear hF0
  go_enter Tryd.func8, Tryd.ntmps8
  go_wp2_with fail
  have hb0 : Below w.heap.size w (w.alloc (.cells #[.int .u8 1, .int .u8 3, .int .u8 20, .int .u8 20, .int .u8 9] 5)) := (Below.refl _ _).alloc (Nat.le_refl _) _
  obtain ⟨g, off, cp, e0, hg, _, _, hcc⟩ := sl_lit w .u8 5 [1, 3, 20, 20, 9] (by decide)
  cases e0
  refine (dec_123 w.heap.size _ hg hcc (HF0.out.below hb0)).mono ?_
  rintro e w1 ⟨h1, h2, rfl, hr1, ho2, hb1⟩
  have hb2 : Below w.heap.size w w1 := hb0.trans (hb1.mono hb0.size)
  have hF := HF0.out.below hb2
  have hR1 : Rd .i64 w1 (some ⟨h1, 0, none⟩) [10, 20, 30] := .inr ⟨h1, 0, rfl, hr1.lt, fun i hi => by rw [Nat.zero_add]; exact hr1.cell hi⟩
  have HR1 : Hid (Rd .i64 w1 (some ⟨h1, 0, none⟩) [10, 20, 30]) := hR1
  have HF : Hid (Fw w1) := hF
  clear hr1 ho2 hb1 hcc hg hb0 hR1 hF
  go_wp2_with fail
  have hR1 : Rd .i64 w1 (some ⟨h1, 0, none⟩) [10, 20, 30] := HR1.out
  have hF : Fw w1 := HF.out
  refine wp_region_K (by kernel_rfl) (by kernel_rfl) [.rd .i64 ([5, 5, 5]), .rd .u8 ([0, 3, 10]), .eq (.string (strOfNums [0, 3, 10])), .rd .u8 ([0, 3, 10]), .eq (.string (strOfNums [0, 3, 10])), .eq (.bool true), .eq (.bool true), .rd .u8 ([2, 0]), .eq (.string (strOfNums [2, 0])), .rd .u8 ([2, 0]), .eq (.string (strOfNums [2, 0])), .eq (.bool true), .eq (.bool true), .eq (.bool true), .eq (.int .i64 0), .eq (.bool true), .eq (.bool true), .eq (.bool true), .eq (.slice (some ⟨h1, 0, none⟩) 3 3), .rd .i64 ([10, 20, 30]), .eq (.bool true), .eq (.bool true), .eq (.bool true), .eq (.slice (some ⟨h2, 0, none⟩) 1 1), .eq (.int .i64 1), .eq (.bool true), .eq (.bool true), .eq (.bool true), .eq (.slice (some ⟨h1, 0, none⟩) 3 3), .eq (.int .i64 1), .eq (.bool true), .eq (.bool true), .eq (.bool true)] w1 (Below.refl _ _) (allOps_cons ?_ (allOps_cons ?_ (allOps_cons ?_ (allOps_cons ?_ (allOps_cons ?_ (allOps_cons ?_ (allOps_cons ?_ (allOps_cons ?_ (allOps_cons ?_ (allOps_cons ?_ (allOps_cons ?_ (allOps_cons ?_ (allOps_cons ?_ (allOps_cons ?_ (allOps_cons ?_ (allOps_cons ?_ (allOps_cons ?_ (allOps_cons ?_ (allOps_cons ?_ (allOps_cons ?_ (allOps_cons ?_ (allOps_cons ?_ (allOps_cons ?_ (allOps_cons ?_ (allOps_cons ?_ (allOps_cons ?_ (allOps_cons ?_ (allOps_cons ?_ (allOps_cons ?_ (allOps_cons ?_ (allOps_cons ?_ (allOps_cons ?_ (allOps_cons ?_ allOps_nil))))))))))))))))))))))))))))))))) ?_
  · intro a wx hS hb hf
    rw [if_pos (wanted_none rfl)]
    refine does_val (v := .slice (some ⟨wx.heap.size, 0, none⟩) 3 3) (w' := wx.alloc (.cells #[.int .i64 5, .int .i64 5, .int .i64 5] 2)) (by simp [execOp, go_sem]) ⟨?_, (Below.refl _ _).alloc (Nat.le_refl _) _⟩
    exact sl_lit wx .i64 2 [5, 5, 5] (by decide)
  · intro a wx hS hb hf
    have s10 : Sl .i64 ([5, 5, 5]) (a.eval (.tmp 10)) wx := slot hb 0 0 10 rfl rfl
    rw [if_pos (wanted_none rfl)]
    obtain ⟨g, off, cp, e10, hg, hcp, hmx, hcc⟩ := s10
    have t10 := (ev_tmp a 10).symm.trans e10
    refine does_call (f := 13) (args := #[.slice (some ⟨g, off, none⟩) 3 cp]) (w' := wx) (by simp [execOp, resolve, invoke, go_sem, t10]) ?_
    refine (enc_555 (some ⟨g, off, none⟩) cp wx hcp hmx (.inr ⟨g, off, rfl, hg, hcc⟩) (hF.below hS)).mono ?_
    rintro e w' ⟨v, rfl, hv, hb'⟩
    exact ⟨_, rfl, hv, hb'⟩
  · intro a wx hS hb hf
    have s11 : Sl .u8 ([0, 3, 10]) (a.eval (.tmp 11)) wx := slot hb 0 1 11 rfl rfl
    rw [if_pos (wanted_none rfl)]
    exact does_conv rfl s11
  · intro a wx hS hb hf
    rw [if_pos (wanted_none rfl)]
    refine does_val (v := .slice (some ⟨wx.heap.size, 0, none⟩) 3 3) (w' := wx.alloc (.cells #[.int .u8 0, .int .u8 3, .int .u8 10] 5)) (by simp [execOp, go_sem]) ⟨?_, (Below.refl _ _).alloc (Nat.le_refl _) _⟩
    exact sl_lit wx .u8 5 [0, 3, 10] (by decide)
  · intro a wx hS hb hf
    have s13 : Sl .u8 ([0, 3, 10]) (a.eval (.tmp 13)) wx := slot hb 0 3 13 rfl rfl
    rw [if_pos (wanted_none rfl)]
    exact does_conv rfl s13
  · intro a wx hS hb hf
    have s12 : a.eval (.tmp 12) = .string (strOfNums [0, 3, 10]) := slot hb 0 2 12 rfl rfl
    have s14 : a.eval (.tmp 14) = .string (strOfNums [0, 3, 10]) := slot hb 1 4 14 rfl rfl
    rw [if_pos (wanted_none rfl)]
    refine does_val (v := .bool true) (w' := wx) ?_ ⟨rfl, Below.refl _ _⟩
    have t12 := (ev_tmp a 12).symm.trans s12
    have t14 := (ev_tmp a 14).symm.trans s14
    simp [execOp, go_sem, t12, t14]
  · intro a wx hS hb hf
    have s15 : a.eval (.tmp 15) = .bool true := slot hb 0 5 15 rfl rfl
    rw [if_pos (wanted_none rfl)]
    refine does_val (v := .bool true) (w' := wx) ?_ ⟨rfl, Below.refl _ _⟩
    have t15 := (ev_tmp a 15).symm.trans s15
    simp [execOp, go_sem, t15]
  · intro a wx hS hb hf
    have s16 : a.eval (.tmp 16) = .bool true := slot hb 0 6 16 rfl rfl
    rw [if_pos (wanted_of (g := 6) (d := 16) (b := true) rfl rfl s16)]
    refine does_call (f := 13) (args := #[.slice none 0 0]) (w' := wx) (by simp [execOp, resolve, invoke, go_sem]) ?_
    refine (enc_nil wx (hF.below hS)).mono ?_
    rintro e w' ⟨v, rfl, hv, hb'⟩
    exact ⟨_, rfl, hv, hb'⟩
  · intro a wx hS hb hf
    have s17 : Sl .u8 ([2, 0]) (a.eval (.tmp 17)) wx := slot hb 0 7 17 rfl rfl
    have s16 : a.eval (.tmp 16) = .bool true := slot hb 1 6 16 rfl rfl
    rw [if_pos (wanted_of (g := 6) (d := 16) (b := true) rfl rfl s16)]
    exact does_conv rfl s17
  · intro a wx hS hb hf
    have s16 : a.eval (.tmp 16) = .bool true := slot hb 0 6 16 rfl rfl
    rw [if_pos (wanted_of (g := 6) (d := 16) (b := true) rfl rfl s16)]
    refine does_val (v := .slice (some ⟨wx.heap.size, 0, none⟩) 2 2) (w' := wx.alloc (.cells #[.int .u8 2, .int .u8 0] 5)) (by simp [execOp, go_sem]) ⟨?_, (Below.refl _ _).alloc (Nat.le_refl _) _⟩
    exact sl_lit wx .u8 5 [2, 0] (by decide)
  · intro a wx hS hb hf
    have s19 : Sl .u8 ([2, 0]) (a.eval (.tmp 19)) wx := slot hb 0 9 19 rfl rfl
    have s16 : a.eval (.tmp 16) = .bool true := slot hb 1 6 16 rfl rfl
    rw [if_pos (wanted_of (g := 6) (d := 16) (b := true) rfl rfl s16)]
    exact does_conv rfl s19
  · intro a wx hS hb hf
    have s18 : a.eval (.tmp 18) = .string (strOfNums [2, 0]) := slot hb 0 8 18 rfl rfl
    have s20 : a.eval (.tmp 20) = .string (strOfNums [2, 0]) := slot hb 1 10 20 rfl rfl
    have s16 : a.eval (.tmp 16) = .bool true := slot hb 2 6 16 rfl rfl
    rw [if_pos (wanted_of (g := 6) (d := 16) (b := true) rfl rfl s16)]
    refine does_val (v := .bool true) (w' := wx) ?_ ⟨rfl, Below.refl _ _⟩
    have t18 := (ev_tmp a 18).symm.trans s18
    have t20 := (ev_tmp a 20).symm.trans s20
    simp [execOp, go_sem, t18, t20]
  · intro a wx hS hb hf
    have s16 : a.eval (.tmp 16) = .bool true := slot hb 0 6 16 rfl rfl
    have s21 : a.eval (.tmp 21) = .bool true := slot hb 1 11 21 rfl rfl
    rw [if_pos (wanted_none rfl)]
    refine does_val (v := .bool true) (w' := wx) ?_ ⟨rfl, Below.refl _ _⟩
    have t16 := (ev_tmp a 16).symm.trans s16
    have t21 := (ev_tmp a 21).symm.trans s21
    simp [execOp, go_sem, t16, t21]
  · intro a wx hS hb hf
    have s22 : a.eval (.tmp 22) = .bool true := slot hb 0 12 22 rfl rfl
    rw [if_pos (wanted_none rfl)]
    refine does_val (v := .bool true) (w' := wx) ?_ ⟨rfl, Below.refl _ _⟩
    have t22 := (ev_tmp a 22).symm.trans s22
    simp [execOp, go_sem, t22]
  · intro a wx hS hb hf
    have s3 : a.eval (.tmp 3) = .int .i64 0 := (hf 3 (by kernel_rfl)).trans rfl
    have s23 : a.eval (.tmp 23) = .bool true := slot hb 0 13 23 rfl rfl
    rw [if_pos (wanted_of (g := 13) (d := 23) (b := true) rfl rfl s23)]
    refine does_val (v := .int .i64 0) (w' := wx) ?_ ⟨rfl, Below.refl _ _⟩
    have t3 := (ev_tmp a 3).symm.trans s3
    simp [execOp, go_sem, t3]
  · intro a wx hS hb hf
    have s24 : a.eval (.tmp 24) = .int .i64 0 := slot hb 0 14 24 rfl rfl
    have s23 : a.eval (.tmp 23) = .bool true := slot hb 1 13 23 rfl rfl
    rw [if_pos (wanted_of (g := 13) (d := 23) (b := true) rfl rfl s23)]
    refine does_val (v := .bool true) (w' := wx) ?_ ⟨rfl, Below.refl _ _⟩
    have t24 := (ev_tmp a 24).symm.trans s24
    simp [execOp, go_sem, t24]
  · intro a wx hS hb hf
    have s23 : a.eval (.tmp 23) = .bool true := slot hb 0 13 23 rfl rfl
    have s25 : a.eval (.tmp 25) = .bool true := slot hb 1 15 25 rfl rfl
    rw [if_pos (wanted_none rfl)]
    refine does_val (v := .bool true) (w' := wx) ?_ ⟨rfl, Below.refl _ _⟩
    have t23 := (ev_tmp a 23).symm.trans s23
    have t25 := (ev_tmp a 25).symm.trans s25
    simp [execOp, go_sem, t23, t25]
  · intro a wx hS hb hf
    have s26 : a.eval (.tmp 26) = .bool true := slot hb 0 16 26 rfl rfl
    rw [if_pos (wanted_none rfl)]
    refine does_val (v := .bool true) (w' := wx) ?_ ⟨rfl, Below.refl _ _⟩
    have t26 := (ev_tmp a 26).symm.trans s26
    simp [execOp, go_sem, t26]
  · intro a wx hS hb hf
    have s1 : a.eval (.tmp 1) = .slice (some ⟨h1, 0, none⟩) 3 3 := (hf 1 (by kernel_rfl)).trans rfl
    have s27 : a.eval (.tmp 27) = .bool true := slot hb 0 17 27 rfl rfl
    rw [if_pos (wanted_of (g := 17) (d := 27) (b := true) rfl rfl s27)]
    refine does_val (v := .slice (some ⟨h1, 0, none⟩) 3 3) (w' := wx) ?_ ⟨rfl, Below.refl _ _⟩
    have t1 := (ev_tmp a 1).symm.trans s1
    simp [execOp, go_sem, t1]
  · intro a wx hS hb hf
    have s27 : a.eval (.tmp 27) = .bool true := slot hb 0 17 27 rfl rfl
    rw [if_pos (wanted_of (g := 17) (d := 27) (b := true) rfl rfl s27)]
    refine does_val (v := .slice (some ⟨wx.heap.size, 0, none⟩) 3 3) (w' := wx.alloc (.cells #[.int .i64 10, .int .i64 20, .int .i64 30] 2)) (by simp [execOp, go_sem]) ⟨?_, (Below.refl _ _).alloc (Nat.le_refl _) _⟩
    exact sl_lit wx .i64 2 [10, 20, 30] (by decide)
  · intro a wx hS hb hf
    have s28 : a.eval (.tmp 28) = .slice (some ⟨h1, 0, none⟩) 3 3 := slot hb 0 18 28 rfl rfl
    have s29 : Sl .i64 ([10, 20, 30]) (a.eval (.tmp 29)) wx := slot hb 1 19 29 rfl rfl
    have s27 : a.eval (.tmp 27) = .bool true := slot hb 2 17 27 rfl rfl
    rw [if_pos (wanted_of (g := 17) (d := 27) (b := true) rfl rfl s27)]
    obtain ⟨g, off, cp, e29, hg, hcp, hmx, hcc⟩ := s29
    have t28 := (ev_tmp a 28).symm.trans s28
    have t29 := (ev_tmp a 29).symm.trans e29
    refine does_call (f := 15) (args := #[.slice (some ⟨h1, 0, none⟩) 3 3, .slice (some ⟨g, off, none⟩) 3 cp]) (w' := wx) (by simp [execOp, resolve, invoke, go_sem, t28, t29]) ?_
    refine (same_any (some ⟨h1, 0, none⟩) (some ⟨g, off, none⟩) 3 3 cp [10, 20, 30] wx rfl (by decide) (hR1.below hS) (.inr ⟨g, off, rfl, hg, hcc⟩)).mono ?_
    rintro e w' ⟨rfl, hb'⟩
    exact ⟨_, rfl, rfl, hb'⟩
  · intro a wx hS hb hf
    have s27 : a.eval (.tmp 27) = .bool true := slot hb 0 17 27 rfl rfl
    have s30 : a.eval (.tmp 30) = .bool true := slot hb 1 20 30 rfl rfl
    rw [if_pos (wanted_none rfl)]
    refine does_val (v := .bool true) (w' := wx) ?_ ⟨rfl, Below.refl _ _⟩
    have t27 := (ev_tmp a 27).symm.trans s27
    have t30 := (ev_tmp a 30).symm.trans s30
    simp [execOp, go_sem, t27, t30]
  · intro a wx hS hb hf
    have s31 : a.eval (.tmp 31) = .bool true := slot hb 0 21 31 rfl rfl
    rw [if_pos (wanted_none rfl)]
    refine does_val (v := .bool true) (w' := wx) ?_ ⟨rfl, Below.refl _ _⟩
    have t31 := (ev_tmp a 31).symm.trans s31
    simp [execOp, go_sem, t31]
  · intro a wx hS hb hf
    have s2 : a.eval (.tmp 2) = .slice (some ⟨h2, 0, none⟩) 1 1 := (hf 2 (by kernel_rfl)).trans rfl
    have s32 : a.eval (.tmp 32) = .bool true := slot hb 0 22 32 rfl rfl
    rw [if_pos (wanted_of (g := 22) (d := 32) (b := true) rfl rfl s32)]
    refine does_val (v := .slice (some ⟨h2, 0, none⟩) 1 1) (w' := wx) ?_ ⟨rfl, Below.refl _ _⟩
    have t2 := (ev_tmp a 2).symm.trans s2
    simp [execOp, go_sem, t2]
  · intro a wx hS hb hf
    have s33 : a.eval (.tmp 33) = .slice (some ⟨h2, 0, none⟩) 1 1 := slot hb 0 23 33 rfl rfl
    have s32 : a.eval (.tmp 32) = .bool true := slot hb 1 22 32 rfl rfl
    rw [if_pos (wanted_of (g := 22) (d := 32) (b := true) rfl rfl s32)]
    refine does_val (v := .int .i64 1) (w' := wx) ?_ ⟨rfl, Below.refl _ _⟩
    have t33 := (ev_tmp a 33).symm.trans s33
    simp [execOp, go_sem, t33]
  · intro a wx hS hb hf
    have s34 : a.eval (.tmp 34) = .int .i64 1 := slot hb 0 24 34 rfl rfl
    have s32 : a.eval (.tmp 32) = .bool true := slot hb 1 22 32 rfl rfl
    rw [if_pos (wanted_of (g := 22) (d := 32) (b := true) rfl rfl s32)]
    refine does_val (v := .bool true) (w' := wx) ?_ ⟨rfl, Below.refl _ _⟩
    have t34 := (ev_tmp a 34).symm.trans s34
    simp [execOp, go_sem, t34]
  · intro a wx hS hb hf
    have s32 : a.eval (.tmp 32) = .bool true := slot hb 0 22 32 rfl rfl
    have s35 : a.eval (.tmp 35) = .bool true := slot hb 1 25 35 rfl rfl
    rw [if_pos (wanted_none rfl)]
    refine does_val (v := .bool true) (w' := wx) ?_ ⟨rfl, Below.refl _ _⟩
    have t32 := (ev_tmp a 32).symm.trans s32
    have t35 := (ev_tmp a 35).symm.trans s35
    simp [execOp, go_sem, t32, t35]
  · intro a wx hS hb hf
    have s36 : a.eval (.tmp 36) = .bool true := slot hb 0 26 36 rfl rfl
    rw [if_pos (wanted_none rfl)]
    refine does_val (v := .bool true) (w' := wx) ?_ ⟨rfl, Below.refl _ _⟩
    have t36 := (ev_tmp a 36).symm.trans s36
    simp [execOp, go_sem, t36]
  · intro a wx hS hb hf
    have s1 : a.eval (.tmp 1) = .slice (some ⟨h1, 0, none⟩) 3 3 := (hf 1 (by kernel_rfl)).trans rfl
    have s37 : a.eval (.tmp 37) = .bool true := slot hb 0 27 37 rfl rfl
    rw [if_pos (wanted_of (g := 27) (d := 37) (b := true) rfl rfl s37)]
    refine does_val (v := .slice (some ⟨h1, 0, none⟩) 3 3) (w' := wx) ?_ ⟨rfl, Below.refl _ _⟩
    have t1 := (ev_tmp a 1).symm.trans s1
    simp [execOp, go_sem, t1]
  · intro a wx hS hb hf
    have s38 : a.eval (.tmp 38) = .slice (some ⟨h1, 0, none⟩) 3 3 := slot hb 0 28 38 rfl rfl
    have s37 : a.eval (.tmp 37) = .bool true := slot hb 1 27 37 rfl rfl
    rw [if_pos (wanted_of (g := 27) (d := 37) (b := true) rfl rfl s37)]
    have t38 := (ev_tmp a 38).symm.trans s38
    refine does_call (f := 12) (args := #[.slice (some ⟨h1, 0, none⟩) 3 3]) (w' := wx) (by simp [execOp, resolve, invoke, go_sem, t38]) ?_
    refine (cho_123 (some ⟨h1, 0, none⟩) 3 wx (by decide) (by decide) (hR1.below hS) (hF.below hS)).mono ?_
    rintro e w' ⟨rfl, hb'⟩
    exact ⟨_, rfl, rfl, hb'⟩
  · intro a wx hS hb hf
    have s39 : a.eval (.tmp 39) = .int .i64 1 := slot hb 0 29 39 rfl rfl
    have s37 : a.eval (.tmp 37) = .bool true := slot hb 1 27 37 rfl rfl
    rw [if_pos (wanted_of (g := 27) (d := 37) (b := true) rfl rfl s37)]
    refine does_val (v := .bool true) (w' := wx) ?_ ⟨rfl, Below.refl _ _⟩
    have t39 := (ev_tmp a 39).symm.trans s39
    simp [execOp, go_sem, t39]
  · intro a wx hS hb hf
    have s37 : a.eval (.tmp 37) = .bool true := slot hb 0 27 37 rfl rfl
    have s40 : a.eval (.tmp 40) = .bool true := slot hb 1 30 40 rfl rfl
    rw [if_pos (wanted_none rfl)]
    refine does_val (v := .bool true) (w' := wx) ?_ ⟨rfl, Below.refl _ _⟩
    have t37 := (ev_tmp a 37).symm.trans s37
    have t40 := (ev_tmp a 40).symm.trans s40
    simp [execOp, go_sem, t37, t40]
  · intro a wx hS hb hf
    have s41 : a.eval (.tmp 41) = .bool true := slot hb 0 31 41 rfl rfl
    rw [if_pos (wanted_none rfl)]
    refine does_val (v := .bool true) (w' := wx) ?_ ⟨rfl, Below.refl _ _⟩
    have t41 := (ev_tmp a 41).symm.trans s41
    simp [execOp, go_sem, t41]
  rename_i hK
  intro a w' hb3 _ hdef hdone _
  refine hK _ _ (ret_K rfl hdef (done_slot hdone 32 0 rfl) ⟨rfl, hb2.trans (hb3.mono hb2.size)⟩)
end Go.Proofs.YtbgipenonngccaaDoor
