/- The contract of body: the index's bytes. Conditions: sizes. -/
import Derived.Test.YtocjmbhfpofoeaaDoorGc
import Derived.Deep.RegionHeld3
namespace Go.Proofs.YtocjmbhfpofoeaaDoor
open Go.RowKit

/-- Rows of the index, as they lie in memory. -/
def RdH (w : World) (a : Option Addr) (H : List (Nat × List Int)) : Prop :=
  H = [] ∨ ∃ b off, a = some ⟨b, off, none⟩ ∧ b < w.heap.size ∧ ∀ i, i < H.length → w.cell? ⟨b, off + i * 2, none⟩ = some (.int .i64 ((H.getD i (0, [])).1 : Int)) ∧ ∃ ai ni ci, w.cell? ⟨b, off + i * 2 + 1, none⟩ = some (.slice ai ni ci) ∧ IsI .u8 w ai ni ci (H.getD i (0, [])).2
theorem RdH.below {w w' : World} {a : Option Addr} {H : List (Nat × List Int)} (h : RdH w a H) (hb : Below w.heap.size w w') : RdH w' a H := by
  rcases h with h | ⟨b, off, h1, h2, h3⟩
  · exact .inl h
  · refine .inr ⟨b, off, h1, Nat.lt_of_lt_of_le h2 hb.size, fun i hi => ?_⟩
    obtain ⟨c0, ai, ni, ci, c1, hI⟩ := h3 i hi
    exact ⟨(hb.cell (p := ⟨b, off + i * 2, Option.none⟩) h2).trans c0, ai, ni, ci, (hb.cell (p := ⟨b, off + i * 2 + 1, Option.none⟩) h2).trans c1, hI.below hb⟩
structure IsH (w : World) (a : Option Addr) (len cap : Nat) (H : List (Nat × List Int)) : Prop where
  hl : H.length = len
  hc : len ≤ cap
  hm : cap ≤ maxLen
  rd : RdH w a H
  nil : a = none → cap = 0
theorem IsH.below {w w' : World} {a : Option Addr} {n c : Nat} {H : List (Nat × List Int)} (h : IsH w a n c H) (hb : Below w.heap.size w w') : IsH w' a n c H := ⟨h.hl, h.hc, h.hm, h.rd.below hb, h.nil⟩
/-- Rows of an index are within bounds. -/
def WfH (H : List (Nat × List Int)) : Prop := ∀ h ∈ H, h.1 ≤ 1000000 ∧ Bytes h.2 ∧ h.2 ≠ [] ∧ h.2.length ≤ 400
theorem getD_memH {H : List (Nat × List Int)} {k : Nat} (h : k < H.length) : H.getD k (0, []) ∈ H := by
  simp only [List.getD, List.getElem?_eq_getElem h, Option.getD_some]; exact List.getElem_mem h
theorem take_snocH (H : List (Nat × List Int)) (k : Nat) (h : k < H.length) : H.take (k + 1) = H.take k ++ [H.getD k (0, [])] := by
  rw [List.take_succ_eq_append_getElem h]; simp [List.getD, h]
theorem ib_le : ∀ {H : List (Nat × List Int)}, WfH H → (ib H).length ≤ 420 * H.length
  | [], _ => by simp [ib]
  | x :: r, h => by
    have ih := ib_le (H := r) (fun y hy => h y (List.mem_cons_of_mem _ hy))
    obtain ⟨h1, _, _, h4⟩ := h x (List.mem_cons_self ..)
    have l1 := bs_le10 (u := x.1) (by omega)
    have l2 := bs_le10 (u := x.2.length) (by omega)
    simp only [ib, List.map_cons, List.flatten_cons, List.length_append, List.length_cons, ir] at ih ⊢
    omega

theorem Tryd.info68 : (Tryd.prog.info? 68).map (fun i => (i.zero, i.size, i.bytes)) = some (some (.agg #[.int .i64 0, .slice none 0 0]), 2, 32) := by kernel_rfl
theorem size_count (Bx : Nat) (a : Option Addr) (len cap : Nat) (w : World) (hx : w.cell? ⟨Bx, 0, none⟩ = some (.slice a len cap)) :
    Calls Tryd.prog 39 #[.pointer (some ⟨Bx, 0, none⟩)] w fun e w' => e = .returned (.int .i64 (len : Int)) ∧ w' = w := by
  go_enter Tryd.func39, Tryd.ntmps39
  go_wp2
  go_ret
  exact ⟨rfl, rfl⟩

set_option maxRecDepth 20000 in
set_option maxHeartbeats 6400000 in
theorem body_any (Bx : Nat) (a : Option Addr) (len cap : Nat) (H : List (Nat × List Int)) (w : World) (hx : w.cell? ⟨Bx, 0, none⟩ = some (.slice a len cap)) (hI : IsH w a len cap H) (hwf : WfH H) (hlen : len ≤ 2000) :
    Calls Tryd.prog 46 #[.pointer (some ⟨Bx, 0, none⟩)] w fun e w' => ∃ v, e = .returned v ∧ w'.ownsRow w.heap.size 5 1 v (ix H).length ((ix H).map (Value.int .u8)) ∧ Below w.heap.size w w' := by
  obtain ⟨i0, hi0, hz0, hz1, hz2⟩ := info_parts Tryd.info5
  have hm := hI.hm
  have hc := hI.hc
  unfold maxLen at hm
  have HI : Hid (IsH w a len cap H ∧ WfH H) := ⟨hI, hwf⟩
  have HX : Hid (w.cell? ⟨Bx, 0, none⟩ = some (.slice a len cap)) := hx
  have HK : Hid _ := size_count Bx a len cap w hx
  clear hI hwf
  have hlw : IntKind.u64.wrap (len : Int) = (len : Int) := by rw [IntKind.wrap_u64]; omega
  have hxl : Bx < w.heap.size := World.block_lt_of_cell? w _ hx
  go_enter Tryd.func46, Tryd.ntmps46
  go_wp2_with fail
  refine Calls.mono HK.out ?_
  rintro e w' ⟨rfl, hw'⟩; rw [hw']; clear hw' w'
  go_wp2_with fail
  refine Calls.mono (put_any none 0 0 [] len w (by omega) rfl (.inl rfl) (by omega)) ?_
  rintro e w1 ⟨v1, rfl, ho, hb⟩
  have hx1 : w1.cell? ⟨Bx, 0, none⟩ = some (.slice a len cap) := (hb.cell (p := ⟨Bx, 0, none⟩) hxl).trans hx
  have H1 : Hid (w1.ownsRow w.heap.size 5 1 v1 (bs len).length ((bs len).map (Value.int .u8)) ∧ Below w.heap.size w w1) := ⟨by simpa using ho, hb⟩
  clear ho hb hx HX
  go_wp2_with fail
  go_loopw [3, 5, 6, 16] (fun v _ _ i wr => ∃ k n : Nat, k ≤ len ∧ i = .int .i64 (k : Int) ∧ ∃ C : List Int, Hid (C = bs len ++ ib (H.take k) ∧ n = C.length) ∧ Hid (wr.ownsRow w.heap.size 5 1 v n (C.map (Value.int .u8))) ∧ Below w.heap.size w wr) (fun _ _ _ i _ => len - (intOf i).toNat)
  case atStart => exact ⟨0, _, Nat.zero_le _, rfl, bs len, ⟨by simp [ib], rfl⟩, H1.out.1, H1.out.2⟩
  case round =>
    obtain ⟨k, n, hk, rfl, C, HC, HR, hbel⟩ := hrel
    have hbase := hbel.size
    by_cases hlt : k < len
    · have hlt' : (k : Int) < (len : Int) := by omega
      have hkl : k < H.length := by rw [HI.out.1.hl]; exact hlt
      obtain ⟨x, hx⟩ : ∃ x, x = H.getD k (0, []) := ⟨_, rfl⟩
      obtain ⟨g, off, rfl, hg, c0w, aF, nF, cF, c1w, hF⟩ : ∃ g off, a = some ⟨g, off, none⟩ ∧ g < w.heap.size ∧ w.cell? ⟨g, off + k * 2, none⟩ = some (.int .i64 (x.1 : Int)) ∧ ∃ ai ni ci, w.cell? ⟨g, off + k * 2 + 1, none⟩ = some (.slice ai ni ci) ∧ IsI .u8 w ai ni ci x.2 := by
        rcases HI.out.1.rd with e | ⟨b, o, e1, e2, e3⟩
        · rw [e] at hkl; simp at hkl
        · obtain ⟨d0, ai, ni, ci, d1, d2⟩ := e3 k hkl
          rw [← hx] at d0 d2
          exact ⟨b, o, e1, e2, d0, ai, ni, ci, d1, d2⟩
      obtain ⟨w1b, w2b, w3b, w4b⟩ := HI.out.2 _ (getD_memH hkl)
      rw [← hx] at w1b w2b w3b w4b
      have c0 := (hbel.cell (p := ⟨g, off + k * 2, none⟩) hg).trans c0w
      have c1 := (hbel.cell (p := ⟨g, off + k * 2 + 1, none⟩) hg).trans c1w
      obtain ⟨at', F⟩ := x
      simp only at c0 c0w hF w1b w2b w3b w4b
      have hFl := hF.hl
      have hFc := hF.hc
      have hFm := hF.hm
      have hF4 : nF ≤ 400 := by omega
      obtain ⟨gF, oF, rfl⟩ : ∃ gF oF, aF = some ⟨gF, oF, none⟩ := by
        have hp := List.length_pos_iff.2 w3b
        obtain ⟨gi, offi, e, _⟩ := hF.lt (by omega); exact ⟨gi, offi, e⟩
      have hw1 : IntKind.u64.wrap (at' : Int) = (at' : Int) := by rw [IntKind.wrap_u64]; omega
      have hw2 : IntKind.u64.wrap (nF : Int) = (nF : Int) := by rw [IntKind.wrap_u64]; omega
      have HF : Hid (IsI .u8 w (some ⟨gF, oF, none⟩) nF cF F ∧ Bytes F ∧ (at', F) = H.getD k (0, []) ∧ F.length = nF) := ⟨hF, w2b, hx, hFl⟩
      clear c0w c1w hF w2b w3b hx hkl hFl w4b hFm
      go_wp2_with fail
      have q0 : (wr.alloc (.cells #[.int .i64 (at' : Int), .slice (some ⟨gF, oF, none⟩) nF cF] 68)).cell? ⟨wr.heap.size, 0, none⟩ = some (.int .i64 (at' : Int)) := by simp
      have q1 : (wr.alloc (.cells #[.int .i64 (at' : Int), .slice (some ⟨gF, oF, none⟩) nF cF] 68)).cell? ⟨wr.heap.size, 1, none⟩ = some (.slice (some ⟨gF, oF, none⟩) nF cF) := by simp
      obtain ⟨W, hW⟩ : ∃ W, W = wr.alloc (.cells #[.int .i64 (at' : Int), .slice (some ⟨gF, oF, none⟩) nF cF] 68) := ⟨_, rfl⟩
      rw [← hW] at q0 q1 ⊢
      have hWb : Below wr.heap.size wr W := by rw [hW]; exact (Below.refl _ _).alloc (Nat.le_refl _) _
      have hWs : W.heap.size = wr.heap.size + 1 := by rw [hW]; simp
      have HW : Hid (W.heap[wr.heap.size]? = some (.cells #[.int .i64 (at' : Int), .slice (some ⟨gF, oF, none⟩) nF cF] 68)) := by rw [hW]; exact heap_alloc_new wr _
      have HWb : Hid (Below wr.heap.size wr W) := hWb
      clear hW hWb
      go_region_held3 (fun u => u.cell? ⟨wr.heap.size, 0, none⟩ = some (.int .i64 (at' : Int)) ∧ u.cell? ⟨wr.heap.size, 1, none⟩ = some (.slice (some ⟨gF, oF, none⟩) nF cF))
        (first
          | exact ⟨q0, q1⟩
          | exact ⟨(hb4.cell (p := ⟨wr.heap.size, 0, none⟩) hs3).trans hK3.1, (hb4.cell (p := ⟨wr.heap.size, 1, none⟩) hs3).trans hK3.2⟩
          | exact ⟨(hb3.cell (p := ⟨wr.heap.size, 0, none⟩) (by simp; omega)).trans q0, (hb3.cell (p := ⟨wr.heap.size, 1, none⟩) (by simp; omega)).trans q1⟩)
        (first
          | (go_at_call 59; refine (put_any a3 _ c3 (bs at') nF w3 (by omega) rfl HI3.out.rd (by have := bs_le10 (u := at') (by omega); omega)).mono ?_; rintro e w4 ⟨v4, rfl, ho4, hb4⟩)
          | (go_at_call 59; refine (put_any none 0 0 [] at' _ (by omega) rfl (.inl rfl) (by omega)).mono ?_; rintro e w3 ⟨v3, rfl, ho3', hb3⟩
             obtain ⟨a3, c3, rfl, hI3⟩ := own_isI ho3'
             have HI3 : Hid (IsI .u8 w3 a3 (0 + (bs at').length) c3 ([] ++ bs at')) := hI3
             have hs3 : wr.heap.size < w3.heap.size := by have := hb3.size; simp at this; omega
             have hK3 : w3.cell? ⟨wr.heap.size, 0, none⟩ = some (.int .i64 (at' : Int)) ∧ w3.cell? ⟨wr.heap.size, 1, none⟩ = some (.slice (some ⟨gF, oF, none⟩) nF cF) := ⟨(hb3.cell (p := ⟨wr.heap.size, 0, none⟩) (by simp; omega)).trans q0, (hb3.cell (p := ⟨wr.heap.size, 1, none⟩) (by simp; omega)).trans q1⟩))
      have hsz4 := hb4.size
      have p1 : w4.cell? ⟨wr.heap.size, 1, none⟩ = some (.slice (some ⟨gF, oF, none⟩) nF cF) := (hb4.cell (p := ⟨wr.heap.size, 1, none⟩) hs3).trans hK3.2
      have P1 : Hid (w4.heap[wr.heap.size]? = some (.cells #[.int .i64 (at' : Int), .slice (some ⟨gF, oF, none⟩) nF cF] 68)) := (hb4.block _ hs3).trans ((hb3.block wr.heap.size (by simp; omega)).trans HW.out)
      have b4 : Below wr.heap.size wr w4 := (HWb.out.trans (below_dr W 1 |>.mono (by omega))).trans ((hb3.mono (by simp; omega)).trans (hb4.mono (by omega)))
      obtain ⟨m4, hm4⟩ : ∃ m, m = (bs at').length + (bs nF).length := ⟨_, rfl⟩
      have hm4' : m4 ≤ 20 := by have := bs_le10 (u := at') (by omega); have := bs_le10 (u := nF) (by omega); omega
      have hm4p : 0 < m4 := by have := bs_pos at'; omega
      rw [← hm4] at ho4
      obtain ⟨a4, c4, rfl, hI4⟩ := own_isI ho4
      obtain ⟨g4, o4, rfl⟩ : ∃ g4 o4, a4 = some ⟨g4, o4, none⟩ := by
        obtain ⟨gi, offi, e, _⟩ := hI4.lt hm4p; exact ⟨gi, offi, e⟩
      have HI4 : Hid (IsI .u8 w4 (some ⟨g4, o4, none⟩) m4 c4 (bs at' ++ bs nF)) := hI4
      have HRo : Hid (w4.ownsRow w.heap.size 5 1 u3 n (C.map (Value.int .u8)) ∧ Below w.heap.size w w4 ∧ ∀ j, u3.ownBlock = some j → w.heap.size ≤ j ∧ j < wr.heap.size) :=
        ⟨own_below HR.out b4, hbel.trans (b4.mono hbase), fun j hj => HR.out.lt j hj⟩
      have hnC := HC.out
      have hnl : n ≤ 860000 := by
        have h1 := ib_le (H := H.take k) (fun y hy => HI.out.2 y (List.mem_of_mem_take hy))
        have h2 := bs_le10 (u := len) (by omega)
        rw [hnC.2, hnC.1, List.length_append]
        simp only [List.length_take] at h1
        omega
      clear ho4 hI4 hK3 hb3 hb4 b4 hm4 hnC q0 q1 HI3 ho3'
      go_wp2_with fail
      go_region_held3 (fun u => u.cell? ⟨wr.heap.size, 1, none⟩ = some (.slice (some ⟨gF, oF, none⟩) nF cF))
        (first
          | exact p1
          | exact p5
          | exact p6)
        (first
          | (refine step_append_own rfl (.tmp 31) (.tmp 33) 23 rfl w.heap.size 5 i0 _ 1 1 Tryd.underlying23 hi0 hz0 hz1 hz2 rfl (by decide) v5 (n + m4) _ (by rfl) ho5 ⟨gF, oF, none⟩ nF cF (F.map (Value.int .u8)) (by rfl) (by rw [List.length_map, HF.out.2.2.2, Nat.mul_one]) (rd_any hF5.rd _ rfl) (ints_oneCell _ _) (by unfold maxLen; omega) (by omega) (by omega) ?_; intro v6 w6 ho6 hg6
             have p6 : w6.cell? ⟨wr.heap.size, 1, none⟩ = some (.slice (some ⟨gF, oF, none⟩) nF cF) := (World.cell?_of_block (hg6.block wr.heap.size (by omega) (hr5 · ))).trans p5)
          | (refine step_append_own rfl (.tmp 29) (.tmp 30) 23 rfl w.heap.size 5 i0 _ 1 1 Tryd.underlying23 hi0 hz0 hz1 hz2 rfl (by decide) u3 n _ (by rfl) HRo.out.1 ⟨g4, o4, none⟩ m4 c4 ((bs at' ++ bs nF).map (Value.int .u8)) (by rfl) (by rw [List.length_map, HI4.out.hl, Nat.mul_one]) (rd_any HI4.out.rd _ rfl) (ints_oneCell _ _) (by unfold maxLen; omega) (by omega) (by simp; omega) ?_; intro v5 w5 ho5 hg5
             have hs5 : w4.heap.size ≤ w5.heap.size := hg5.size
             have p5 : w5.cell? ⟨wr.heap.size, 1, none⟩ = some (.slice (some ⟨gF, oF, none⟩) nF cF) := (World.cell?_of_block (hg5.block wr.heap.size (by simp; omega) (fun e => by have := HRo.out.2.2 _ e.symm; omega))).trans p1
             have b5 : Below w.heap.size w w5 := HRo.out.2.1.drew.grown hg5 HRo.out.2.1.size (fun j hj => (HRo.out.2.2 j hj).1)
             have hF5 := HF.out.1.below b5
             have P5 : w5.heap[wr.heap.size]? = some (.cells #[.int .i64 (at' : Int), .slice (some ⟨gF, oF, none⟩) nF cF] 68) := (hg5.block wr.heap.size (by simp; omega) (fun e => by have := HRo.out.2.2 _ e.symm; omega)).trans P1.out
             have hr5 : some wr.heap.size ≠ v5.ownBlock := fun e => by
               obtain ⟨cur, f, e'⟩ := own_tag ho5 _ e.symm
               rw [P5] at e'; cases e'))
      have b6 : Below w.heap.size w w6 := b5.grown hg6 (by have := b5.size; omega) (fun j hj => (ho5.lt j hj).1)
      have HF6 : Hid (w6.ownsRow w.heap.size 5 1 v6 (n + m4 + nF) (((C.map (Value.int .u8)) ++ ((bs at' ++ bs nF).map (Value.int .u8))) ++ F.map (Value.int .u8)) ∧ Below w.heap.size w w6) := ⟨ho6, b6⟩
      have HM : Hid (m4 = (bs at').length + (bs nF).length) := by have := HI4.out.hl; rw [List.length_append] at this; exact this.symm
      clear ho6 hg6 b6 ho5 hg5 hs5 p5 p6 b5 hF5 P5 hr5
      go_wp2_with fail
      go_roundw
      case rel =>
        have h1 := HC.out
        have hx := HF.out.2.2.1
        have hsn : ib (H.take (k + 1)) = ib (H.take k) ++ (bs at' ++ bs nF ++ F) := by
          rw [take_snocH _ _ (by rw [HI.out.1.hl]; exact hlt), ← hx, ib_snoc, ir, HF.out.2.2.2]
        refine ⟨k + 1, n + m4 + nF, by omega, by go_num, C ++ (bs at' ++ bs nF ++ F), ⟨?_, ?_⟩, ?_, HF6.out.2⟩
        · rw [hsn, h1.1, List.append_assoc]
        · have := HM.out
          have := HF.out.2.2.2
          simp only [List.length_append]; omega
        · have := HF6.out.1
          have e : (C ++ (bs at' ++ bs nF ++ F)).map (Value.int .u8) = ((C.map (Value.int .u8)) ++ ((bs at' ++ bs nF).map (Value.int .u8))) ++ F.map (Value.int .u8) := by simp only [List.map_append, List.append_assoc]
          rw [← e] at this
          exact this
      case measure => simp [intOf]; omega
    · have hlt' : ¬ (k : Int) < (len : Int) := by omega
      obtain rfl : k = len := by omega
      go_wp2_with fail
      go_ret
      have h1 := HC.out
      have e : ix H = C := by rw [ix, h1.1, HI.out.1.hl, List.take_of_length_le (by rw [HI.out.1.hl]; exact Nat.le_refl _)]
      refine ⟨u3, rfl, ?_, hbel⟩
      rw [e, ← h1.2]
      exact HR.out
end Go.Proofs.YtocjmbhfpofoeaaDoor
