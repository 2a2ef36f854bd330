/- The contract of rising's iterator. Conditions: those of each theorem. -/
import Derived.Test.YtkipcblbadkjnaaXa
namespace Go.Proofs.Ytkipcblbadkjnaa
open Go.RowKit Go.Shelf Go.Sort Go.Maps
attribute [local go_sem] Oper.semAt_some

def encP (x : List UInt8) : Array Value := #[encStr x]
set_option linter.unusedSimpArgs false in
set_option maxRecDepth 100000 in
set_option maxHeartbeats 4000000 in
theorem rising_in (n l Bf b Bl : Nat) (x : X) (J Jx : List (List UInt8) → World → Prop) (W : World) (hJ : AbidesFrom W.heap.size J)
    (hY : ∀ pre p W1, J pre W1 → pre.length < x.pn → YieldAt Fence.wide (n - 1) Try.prog l (encP p) W1 fun e W' =>
      (e = .returned (.bool true) ∧ J (pre ++ [p]) W' ∧ Kr Bl W1 W') ∨ (e = .returned (.bool false) ∧ Jx (pre ++ [p]) W'))
    (hBf : W.cell? ⟨Bf, 0, none⟩ = some (.pointer (some ⟨b, 0, none⟩))) (h : FW W b x) (hBl : Bl < W.heap.size) (hrow : ∀ k, rowOf W Bl = some k → k < W.heap.size) (h0 : J [] W) :
    CallsIn Fence.wide n Try.prog 65 #[.func (.yield l) #[] #[], .pointer (some ⟨Bf, 0, none⟩)] W fun e W' => (∃ v, e = .returned v) ∧
      ((∃ ys, Pths x.pm ys ∧ J ys W') ∨ (∃ pre : List (List UInt8), True ∧ Jx pre W')) := by
  have c2 := h.fc.c2
  have hS : Hid _ := sorted_paths x.pb x.pn x.pm W h.pw (by have := h.b1; have := h.b5; omega)
  have HY := (show Hid _ from hY)
  have HJ : Hid (AbidesFrom W.heap.size J) := hJ
  have H0 : Hid (J [] W) := h0
  have HR : Hid (∀ k, rowOf W Bl = some k → k < W.heap.size) := hrow
  have hfK : Fence.wide.fn 67 := trivial
  have hfS : Fence.wide.fn 66 := trivial
  clear h hY hJ h0 hrow
  refine callsIn_of_wp Try.func65 rfl trivial ?_ rfl
  simp only [Try.ntmps65, List.size_toArray, List.length_cons, List.length_nil, Nat.reduceAdd, Nat.reduceSub, Array.replicate_succ, Array.replicate_zero, List.push_toArray, List.append_toArray, List.nil_append, List.cons_append]
  gi_wp2_with (first
    | (refine ⟨(fun h => by cases h), ?_⟩; refine (callsIn_wide.2 ((callsIn_wide (n := 5)).1 (Try.maps_Keys_67 x.pb W))).mono ?_; rintro e w' ⟨rfl, rfl⟩)
    | (refine ⟨(fun h => by cases h), ?_⟩; refine (callsIn_wide.2 hS.out).mono ?_; rintro e w2 ⟨v, ys, rfl, hP, hlen, hown, hb⟩
       have hbl : Below W.heap.size W w2 := ((Below.refl W.heap.size W).alloc (Nat.le_refl _) (.cells #[.map x.pb] 64)).trans (hb.mono (Nat.le_succ _))
       have HB : Hid (Below W.heap.size W w2) := hbl
       have HP : Hid (Pths x.pm ys ∧ ys.length ≤ x.pn) := ⟨hP, hlen⟩
       have HOWN : Hid (w2.ownsRow (W.heap.size + 1) 9 1 v ys.length (ys.map encStr)) := hown
       clear hP hlen hown hb hbl
       obtain ⟨a, len, cap, rfl, hl⟩ : ∃ a len cap, v = .slice a len cap ∧ len = ys.length := (by rcases HOWN.out.2 with ⟨h1, h2⟩ | ⟨g, cp, cur, h1, _⟩; exact ⟨none, 0, 0, h1, h2.symm⟩; exact ⟨_, _, cp, h1, rfl⟩)))
  subst hl
  have HJ2 : Hid (J [] w2) := HJ.out [] W w2 none H0.out ⟨HB.out.os, HB.out.tape, HB.out.output, HB.out.size, fun k hk _ => HB.out.block k hk⟩ (fun r e => by cases e)
  have HRO : Hid (rowOf w2 Bl = rowOf W Bl) := by
    show _ = _
    unfold rowOf
    rw [HB.out.cell (p := ⟨Bl, 0, none⟩) hBl]
  have HG : Hid (∀ k, k < ys.length → ∃ g cur, a = some ⟨g, 0, none⟩ ∧ w2.heap[g]? = some (.cells cur 9 (0, 0)) ∧ W.heap.size + 1 ≤ g ∧ cur[k]? = some (encStr (ys.getD k []))) := by
    intro k hk
    rcases HOWN.out.2 with ⟨h1, h2⟩ | ⟨g, cp, cur, h1, h2, h3, h4, h5, h6, h7⟩
    · omega
    · refine ⟨g, cur, (Value.slice.inj h1).1, h3, h2, ?_⟩
      have e : (ys.map encStr)[k]? = some (encStr (ys.getD k [])) := by simp [List.getD, hk]
      rw [← h7, List.getElem?_take, if_pos (by omega)] at e
      simpa using e
  have hpn : ys.length ≤ x.pn := HP.out.2
  have hyl : (ys.length : Int) ≤ 9223372036854775807 := by
    have h1 := HOWN.out
    rcases h1.2 with ⟨_, h2⟩ | ⟨g, cp, cur, _, _, _, h4, h5, _⟩
    · omega
    · unfold maxLen at h5; omega
  gi_loopw [4, 12] (fun _ i wr => ∃ k : Nat, k ≤ ys.length ∧ i = .int .i64 (k : Int) ∧ Hid (J (ys.take k) wr) ∧ Hid (∀ g cur, a = some ⟨g, 0, none⟩ → w2.heap[g]? = some (.cells cur 9 (0, 0)) → W.heap.size + 1 ≤ g → wr.heap[g]? = some (.cells cur 9 (0, 0)) ∧ rowOf wr Bl ≠ some g)) (fun _ i _ => ys.length - (intOf i).toNat)
  case atStart =>
    refine ⟨0, Nat.zero_le _, rfl, (by simpa using HJ2.out : J (ys.take 0) w2), fun g cur _ hg hgl => ⟨hg, fun e => ?_⟩⟩
    rw [HRO.out] at e
    have := HR.out g e
    omega
  case round =>
    obtain ⟨k, hk, rfl, hJs, hI⟩ := hrel
    by_cases hlt : k < ys.length
    · have hlt' : (k : Int) < (ys.length : Int) := by omega
      have hk0 : (0 : Int) ≤ (k : Int) := by omega
      obtain ⟨g, cur, rfl, hg, hgl, hcur⟩ := HG.out k hlt
      obtain ⟨hgr, hro⟩ := hI.out g cur rfl hg hgl
      obtain ⟨z, hz⟩ : ∃ z, Hid (z = ys.getD k []) := ⟨_, rfl⟩
      rw [← hz.out] at hcur
      have c0 : wr.cell? ⟨g, k, none⟩ = some (encStr z) := by simp [World.cell?, hgr, hcur]
      have HGR : Hid (wr.heap[g]? = some (.cells cur 9 (0, 0))) := hgr
      have HGR0 : Hid (w2.heap[g]? = some (.cells cur 9 (0, 0)) ∧ W.heap.size + 1 ≤ g) := ⟨hg, hgl⟩
      have HRW : Hid (rowOf wr Bl ≠ some g) := hro
      have HT : Hid (ys.take (k + 1) = ys.take k ++ [z]) := by
        show _ = _
        rw [List.take_succ_eq_append_getElem hlt, hz.out]
        simp [List.getD, hlt]
      obtain ⟨fn, tmps, assign, body, hy, hR⟩ := HY.out (ys.take k) z wr hJs.out (by rw [List.length_take]; omega)
      have HRd : Hid _ := hR
      simp only [encP] at hy
      clear hcur hgr hg hro hR hgl
      gi_wp2
      refine ⟨(fun h => by cases h), RoundIn.mono HRd.out ?_⟩
      rintro e W3 (⟨rfl, hJ4, hk4⟩ | ⟨rfl, hJx⟩)
      · have HJ4 : Hid _ := hJ4
        have HK4 : Hid (Kr Bl wr W3) := hk4
        clear hJ4 hk4
        gi_wp2
        go_roundw
        case rel =>
          refine ⟨k + 1, by omega, by go_num, (by rw [HT.out]; exact HJ4.out : J (ys.take (k + 1)) W3), fun g' cur' e' hg' hgl' => ?_⟩
          cases e'
          obtain ⟨h1, h2⟩ := hI.out g cur' rfl hg' hgl'
          refine ⟨HK4.out.cells g _ h1 rfl (by omega) h2, fun e => ?_⟩
          rcases HK4.out.row with r1 | r1
          · exact h2 (r1 ▸ e)
          · have := r1 g e
            have := (Array.getElem?_eq_some_iff.1 h1).1
            omega
        case measure => simp [intOf]; omega
      · have HJx : Hid _ := hJx
        clear hJx
        gi_wp2
        refine bodyPost_ret (results_none rfl _ _ _) rfl ?_
        exact ⟨⟨_, rfl⟩, .inr ⟨_, trivial, HJx.out⟩⟩
    · have hlt' : ¬ (k : Int) < (ys.length : Int) := by omega
      gi_wp2
      go_end0
      have h1 := hJs.out
      rw [List.take_of_length_le (by omega)] at h1
      exact ⟨⟨_, rfl⟩, .inl ⟨ys, HP.out.1, h1⟩⟩
end Go.Proofs.Ytkipcblbadkjnaa
