/- The contract of made: the file of items and its index. Conditions: the table of half bytes; sizes. -/
import Derived.Test.YtocjmbhfpofoeaaDoorGe
namespace Go.Proofs.YtocjmbhfpofoeaaDoor
open Go.RowKit

/-- What made answers: an error; or the index, and the file in memory of its own. -/
def Made (ls : List (List Int)) (w : World) (e : Ending) (w' : World) : Prop :=
  Below w.heap.size w w' ∧
  (((bt ls).1 = 0 ∧ ∃ hv cs v, e = .returned (.tuple #[.agg #[hv], v, .int .i64 0]) ∧ w'.ownsRow w.heap.size 5 1 v (fil ls).length ((fil ls).map (Value.int .u8)) ∧
      w'.ownsRow w.heap.size 68 2 hv (ch ls).length cs ∧ (∀ U : World, Below w.heap.size w U → RdHv U cs (hs 0 (ch ls)))) ∨
   ((bt ls).1 ≠ 0 ∧ e = .returned (.tuple #[.agg #[.slice none 0 0], .slice none 0 0, .int .i64 (bt ls).1])))
/-- What lies in memory while a file is made: its bytes, the blocks, the answer's and the index's variables, the index. -/
structure Ms (w W : World) (b : Value) (n : Nat) (zs : List Int) (vB : Value) (m : Nat) (xs : List Value) (hv : Value) (k : Nat) (cs : List Value) : Prop where
  rb : W.ownsRow (w.heap.size + 2) 5 1 b n (zs.map (Value.int .u8))
  rB : W.ownsRow (w.heap.size + 2) 22 1 vB m xs
  t : Boxed W w.heap.size 49 (.slice none 0 0)
  x : Boxed W (w.heap.size + 1) 49 hv
  rh : W.ownsRow (w.heap.size + 2) 68 2 hv k cs
  bl : Below w.heap.size w W
theorem Ms.below {w W W' : World} {b vB hv : Value} {n m k : Nat} {zs : List Int} {xs cs : List Value} (h : Ms w W b n zs vB m xs hv k cs) (hb : Below W.heap.size W W') : Ms w W' b n zs vB m xs hv k cs :=
  ⟨own_below h.rb hb, own_below h.rB hb, (hb.block _ h.t.lt).trans h.t, (hb.block _ h.x.lt).trans h.x, own_below h.rh hb, h.bl.trans (hb.mono h.bl.size)⟩
theorem row_ne {W : World} {B1 B2 n1 n2 s1 s2 : Nat} {v1 v2 : Value} {e1 e2 : TypeId} {x1 x2 : List Value} (h1 : W.ownsRow B1 e1 s1 v1 n1 x1) (h2 : W.ownsRow B2 e2 s2 v2 n2 x2) (hne : e1 ≠ e2) : v1.ownBlock = none ∨ v1.ownBlock ≠ v2.ownBlock := by
  cases h : v1.ownBlock with
  | none => exact .inl rfl
  | some g =>
    refine .inr fun e => ?_
    obtain ⟨c1, f1, q1⟩ := own_tag h1 g h
    obtain ⟨c2, f2, q2⟩ := own_tag h2 g e.symm
    rw [q1] at q2; cases q2; exact hne rfl
theorem Ms.bytes {w W V : World} {b vB hv b' : Value} {n m k n' : Nat} {zs zs' : List Int} {xs cs : List Value} (h : Ms w W b n zs vB m xs hv k cs) (hg : W.grownBy V b.ownBlock) (ho : V.ownsRow (w.heap.size + 2) 5 1 b' n' (zs'.map (Value.int .u8))) : Ms w V b' n' zs' vB m xs hv k cs :=
  have hlt := fun j hj => (h.rb.lt j hj).1
  ⟨ho, h.rB.kept hg (row_ne h.rB h.rb (by decide)), h.t.kept hg (fun e => by have := hlt _ e.symm; omega), h.x.kept hg (fun e => by have := hlt _ e.symm; omega), h.rh.kept hg (row_ne h.rh h.rb (by decide)), h.bl.grown hg h.bl.size (fun j hj => by have := hlt j hj; omega)⟩
theorem Ms.heads {w W V : World} {b vB hv hv' : Value} {n m k k' : Nat} {zs : List Int} {xs cs cs' : List Value} (h : Ms w W b n zs vB m xs hv k cs) (hg : W.grownBy V hv.ownBlock) (ho : V.ownsRow (w.heap.size + 2) 68 2 hv' k' cs') : Ms w (V.setCell ⟨w.heap.size + 1, 0, none⟩ hv') b n zs vB m xs hv' k' cs' := by
  have hlt := fun j hj => (h.rh.lt j hj).1
  have hs := grownBy_setCell' V (w.heap.size + 1) hv'
  have far : ∀ {v : Value} {e : TypeId} {size c : Nat} {ys : List Value}, V.ownsRow (w.heap.size + 2) e size v c ys → (V.setCell ⟨w.heap.size + 1, 0, none⟩ hv').ownsRow (w.heap.size + 2) e size v c ys := fun ho => by
    refine ho.kept hs ?_
    rename_i v _ _ _ _
    cases h' : v.ownBlock with
    | none => exact .inl rfl
    | some g => exact .inr (fun e => by cases e; have := (ho.lt _ h').1; omega)
  have hx := h.x.kept hg (fun e => by have := hlt _ e.symm; omega)
  have ht := h.t.kept hg (fun e => by have := hlt _ e.symm; omega)
  have hb : Below w.heap.size w V := h.bl.grown hg h.bl.size (fun j hj => by have := hlt j hj; omega)
  exact ⟨far (h.rb.kept hg (row_ne h.rb h.rh (by decide))), far (h.rB.kept hg (row_ne h.rB h.rh (by decide))), ht.other (by omega) _, hx.set _, far ho, hb.setCell (p := ⟨w.heap.size + 1, 0, none⟩) (by simp) _⟩
theorem own_setlt {V : World} {B size c g : Nat} {v u : Value} {e : TypeId} {ys : List Value} (ho : V.ownsRow B e size v c ys) (hg : g < B) : (V.setCell ⟨g, 0, none⟩ u).ownsRow B e size v c ys := by
  refine ho.kept (grownBy_setCell' V g u) ?_
  cases h' : v.ownBlock with
  | none => exact .inl rfl
  | some q => exact .inr (fun e => by cases e; have := (ho.lt _ h').1; omega)
theorem tl_wrap {n : Nat} (h : n ≤ 1000000) : (tl n).map (Value.int .u8) = [.int .u8 (IntKind.u8.wrap ((n : Int) / 16777216)), .int .u8 (IntKind.u8.wrap ((n : Int) / 65536)), .int .u8 (IntKind.u8.wrap ((n : Int) / 256)), .int .u8 (IntKind.u8.wrap (n : Int))] := by
  simp only [tl, List.map_cons, List.map_nil, IntKind.wrap_u8]
  congr 2
  · omega
theorem four_new (w : World) (x y z u : Value) : ∀ j v, [x, y, z, u][j]? = some v → (w.alloc (.cells #[x, y, z, u] 5)).cell? ((⟨w.heap.size, 0, none⟩ : Addr).add j) = some v := four_at w x y z u 5

set_option maxRecDepth 20000 in
set_option maxHeartbeats 8000000 in
theorem made_any (a : Option Addr) (len cap : Nat) (ls : List (List Int)) (w : World) (hI : IsR w a len cap ls) (hwf : WfR ls) (hH : Ha w) (hlen : len ≤ 1000000) :
    Calls Tryd.prog 26 #[.slice a len cap] w (Made ls w) := by
  obtain ⟨i0, hi0, hz0, hz1, hz2⟩ := info_parts Tryd.info5
  obtain ⟨i1, hj0, hj1, hj2, hj3⟩ := info_parts Tryd.info68
  have hb0 : Below w.heap.size w (w.alloc (.cells #[.slice none 0 0] 49)) := (Below.refl _ _).alloc (Nat.le_refl _) _
  have HK : Hid _ := checkF_any a len cap ls (w.alloc (.cells #[.slice none 0 0] 49)) (hI.below hb0) hwf
  obtain ⟨x, hx⟩ : ∃ x, Hid (x = chkF ls) := ⟨_, rfl⟩
  rw [← hx.out] at HK
  by_cases hx0 : x = 0
  case neg =>
    have hx1 : (x == 0) = false := by simpa using hx0
    have hx2 : (x != 0) = true := by simpa using hx0
    have HB : Hid (bt ls = (x, [])) := by
      show bt ls = _
      unfold bt
      rw [if_pos (by rw [← hx.out]; exact hx0), ← hx.out]
    have HX : Hid (x ≠ 0) := hx0
    clear hI hwf hx hx0
    go_enter Tryd.func26, Tryd.ntmps26
    go_wp2_with fail
    refine Calls.mono HK.out ?_
    rintro e w' ⟨rfl, hw'⟩; rw [hw']; clear hw' w'
    go_wp2_with fail
    refine bodyPost_ret (v := .tuple #[.agg #[.slice none 0 0], .slice none 0 0, .int .i64 x]) (by simp [results, Tryd.results26, go_sem]) rfl ⟨hb0, .inr ⟨?_, ?_⟩⟩
    · rw [HB.out]; exact HX.out
    · rw [HB.out]
  case pos =>
    subst hx0
    obtain ⟨m, hm⟩ : ∃ m, Hid (m = (ch ls).length) := ⟨_, rfl⟩
    have hc0 : chkF ls = 0 := hx.out.symm
    have hm250 : m ≤ 250 := by have := ch_le hc0; rw [hm.out]; omega
    have HCk : Hid (chkF ls = 0) := hc0
    obtain ⟨W2, hW2⟩ : ∃ W2, W2 = (w.alloc (.cells #[.slice none 0 0] 49)).alloc (.cells #[.slice none 0 0] 49) := ⟨_, rfl⟩
    have hb2 : Below w.heap.size w W2 := by rw [hW2]; exact ((Below.refl _ _).alloc (Nat.le_refl _) _).alloc (by simp) _
    have hs2 : W2.heap.size = w.heap.size + 2 := by rw [hW2]; simp
    have hT : Boxed W2 w.heap.size 49 (.slice none 0 0) := by rw [hW2]; exact (Boxed.new w 49 _).alloc _
    have hX : Boxed W2 (w.heap.size + 1) 49 (.slice none 0 0) := by
      have := Boxed.new (w.alloc (.cells #[.slice none 0 0] 49)) 49 (.slice none 0 0)
      rw [World.size_alloc] at this; rw [hW2]; exact this
    have HS : Hid _ := split_any a len cap ls W2 (hI.below hb2) hlen
    have HI : Hid (IsR w a len cap ls ∧ WfR ls ∧ Ha w) := ⟨hI, hwf, hH⟩
    have H2 : Hid (Below w.heap.size w W2 ∧ W2.heap.size = w.heap.size + 2 ∧ Boxed W2 w.heap.size 49 (.slice none 0 0) ∧ Boxed W2 (w.heap.size + 1) 49 (.slice none 0 0)) := ⟨hb2, hs2, hT, hX⟩
    clear hI hwf hH hb2 hs2 hT hX hx hb0 hc0
    go_enter Tryd.func26, Tryd.ntmps26
    go_wp2_with fail
    refine Calls.mono HK.out ?_
    rintro e w' ⟨rfl, hw'⟩; rw [hw']; clear hw' w'
    go_wp2_with fail
    rw [← hW2]
    refine Calls.mono HS.out ?_
    rintro e w3 ⟨vB, xs, rfl, hoB, hR, hb3⟩
    rw [← hm.out] at hoB
    have hs3 := hb3.size
    have hs2 := H2.out.2.1
    have H3 : Hid (Below w.heap.size w w3 ∧ w3.ownsRow (w.heap.size + 2) 22 1 vB m xs ∧ (∀ U : World, IsR U a len cap ls → RdB U xs (ch ls)) ∧ Boxed w3 w.heap.size 49 (.slice none 0 0) ∧ Boxed w3 (w.heap.size + 1) 49 (.slice none 0 0)) :=
      ⟨H2.out.1.trans (hb3.mono (by omega)), by rw [← hs2]; exact hoB, hR, (hb3.block _ (by omega)).trans H2.out.2.2.1, (hb3.block _ (by omega)).trans H2.out.2.2.2⟩
    have hm1 : 1 ≤ m := by have := ch_le HCk.out; rw [hm.out]; omega
    obtain ⟨gB, cB, rfl, _, _, hcB1, hcB2, _, _⟩ := own_cell hoB (by omega)
    unfold maxLen at hcB2
    clear hoB hR hb3 HS H2 hW2 hs2 hs3
    go_wp2_with fail
    go_loopw [7, 9, 10, 11, 12, 13, 26] (fun b _ _ _ _ _ i wr => ∃ k n : Nat, k ≤ m ∧ i = .int .i64 (k : Int) ∧ Hid (n = (fb ((ch ls).take k)).length) ∧
        ∃ hv cs, Hid (Ms w wr b n (fb ((ch ls).take k)) (.slice (some ⟨gB, 0, none⟩) m cB) m xs hv k cs ∧ (∀ U : World, Below w.heap.size w U → RdHv U cs (hs 0 ((ch ls).take k))))) (fun _ _ _ _ _ _ i _ => m - (intOf i).toNat)
    case atStart =>
      exact ⟨0, 0, Nat.zero_le _, rfl, rfl, _, [], ⟨World.ownsRow_nil _ _ _ _, H3.out.2.1, H3.out.2.2.2.1, H3.out.2.2.2.2, World.ownsRow_nil _ _ _ _, H3.out.1⟩, fun U _ => rdHv_nil U⟩
    case round =>
      obtain ⟨k, n, hk, rfl, HN, hv, cs, HV⟩ := hrel
      by_cases hlt : k < m
      · have hlt' : (k : Int) < (m : Int) := by omega
        have hkc : k < (ch ls).length := by rw [← hm.out]; exact hlt
        have hbl := HV.out.1.bl
        have hxl := HV.out.1.x.lt
        have hIw := HI.out.1.below hbl
        obtain ⟨Bk, hBk⟩ : ∃ Bk, Hid (Bk = (ch ls).getD k []) := ⟨_, rfl⟩
        have hckB : chk Bk = 0 := by rw [hBk.out]; exact ch_chk HCk.out hkc
        have hwfB : WfR Bk := by
          rw [hBk.out]
          refine ch_wf HI.out.2.1 _ ?_
          simp only [List.getD, List.getElem?_eq_getElem hkc, Option.getD_some]; exact List.getElem_mem hkc
        obtain ⟨ak, nk, ck, ek, hIk⟩ := (H3.out.2.2.1 wr hIw).2 k hkc
        obtain ⟨ak', nk', ck', ek', hIk'⟩ := (H3.out.2.2.1 w HI.out.1).2 k hkc
        rw [ek'] at ek; cases ek
        rw [← hBk.out] at hIk hIk'
        have cB0 : wr.cell? ⟨gB, k, none⟩ = some (.slice ak nk ck) := by
          obtain ⟨g', c', e, _, _, _, _, hc, _⟩ := own_cell HV.out.1.rB (by omega)
          cases e; exact hc k _ ek'
        have hnB := (chk_zero hckB).2.1
        have hlB := hIk.hl
        have hcBk := hIk.hc
        have hmBk := hIk.hm
        have hnk : 1 ≤ nk := by have := List.length_pos_iff.2 hnB; omega
        obtain ⟨gi, oi, rfl, hgi, af, nf, cf, c00, hF⟩ : ∃ gi oi, ak = some ⟨gi, oi, none⟩ ∧ gi < w.heap.size ∧ ∃ af nf cf, w.cell? ⟨gi, oi, none⟩ = some (.slice af nf cf) ∧ IsI .u8 w af nf cf (Bk.headD []) := by
          obtain ⟨gi, oi, af, nf, cf, e1, e2, e3, e4⟩ := hIk'.rd.at (k := 0) (by omega)
          refine ⟨gi, oi, e1, e2, af, nf, cf, by simpa using e3, ?_⟩
          cases Bk with
          | nil => exact absurd rfl hnB
          | cons x r => exact e4
        unfold maxLen at hmBk
        have HKp : Hid _ := pack_ok (some ⟨gi, oi, none⟩) nk ck Bk wr hIk hwfB hckB
        have hpl := pk_le' hckB
        have HF : Hid (IsI .u8 w af nf cf (Bk.headD []) ∧ gi < w.heap.size ∧ w.cell? ⟨gi, oi, none⟩ = some (.slice af nf cf) ∧ Bytes (pk Bk) ∧ (pk Bk).length ≤ 3233) := ⟨hF, hgi, c00, pk_bytes hckB hwfB, hpl⟩
        have HHr : Hid (Ha wr) := HI.out.2.2.below hbl
        have hnl : n ≤ 810000 := by
          have h1 := fb_le (Bs := (ch ls).take k) (fun B hB => ch_chk_mem HCk.out B (List.mem_of_mem_take hB))
          rw [← HN.out] at h1
          simp only [List.length_take] at h1
          omega
        clear hIw hckB hwfB hIk hIk' ek' hnB hlB hF c00 hpl hkc hbl
        go_wp2_with fail
        refine Calls.mono HKp.out ?_
        rintro e w4 ⟨v4, rfl, ho4, hb4⟩
        obtain ⟨P, hP⟩ : ∃ P, Hid (P = (pk Bk).length) := ⟨_, rfl⟩
        rw [← hP.out] at ho4
        obtain ⟨a4, c4, rfl, hI4⟩ := own_isI ho4
        have hs4 := hb4.size
        have HMk : Hid _ := make_any 1 (by decide) a4 P c4 (pk Bk) w4 hI4 HF.out.2.2.2.1 (by rw [hP.out]; have := HF.out.2.2.2.2; omega) (HHr.out.below hb4)
        clear ho4 hI4
        go_wp2_with fail
        refine Calls.mono HMk.out ?_
        rintro e w5 ⟨v5, rfl, ho5, hb5⟩
        obtain ⟨M, hM⟩ : ∃ M, Hid (M = (frm 1 (pk Bk)).length) := ⟨_, rfl⟩
        have hMl : M ≤ 3300 := by
          have h1 := HF.out.2.2.2.2
          have h2 := bs_le2 (n := (pk Bk).length) (by omega)
          rw [hM.out, frm_length]; omega
        rw [← hM.out] at ho5
        have hs5 := hb5.size
        have b5 : Below wr.heap.size wr w5 := hb4.trans (hb5.mono hs4)
        have hMs := HV.out.1.below b5
        have q0 := hMs.x.cell
        have q1 : w5.cell? ⟨gi, oi, none⟩ = some (.slice af nf cf) := (hMs.bl.cell (p := ⟨gi, oi, none⟩) HF.out.2.1).trans HF.out.2.2.1
        have hgi := HF.out.2.1
        have hs5' : w.heap.size + 2 ≤ w5.heap.size := hMs.x.lt
        obtain ⟨ab, cb, hbv, hIb⟩ := own_isI hMs.rb
        have hu7 : u7 = .slice ab n cb := hbv
        subst hu7
        have HO5 : Hid (w5.ownsRow (w.heap.size + 2) 68 2 hv k cs) := hMs.rh
        obtain ⟨a5, c5, rfl, hI5⟩ := own_isI ho5
        have hoi : (0 : Int) < (nk : Int) := by omega
        have hoN : 0 < nk := by omega
        have hw5b : w4.heap.size ≤ w5.heap.size := hs5
        have HG : Hid (∀ (W V : World) (hv' : Value) (cs' : List Value), Below w5.heap.size w5 W → W.grownBy V hv.ownBlock → V.ownsRow (w.heap.size + 2) 68 2 hv' (k + 1) cs' →
            Ms w (V.setCell ⟨w.heap.size + 1, 0, none⟩ hv') (.slice ab n cb) n (fb ((ch ls).take k)) (.slice (some ⟨gB, 0, none⟩) m cB) m xs hv' (k + 1) cs' ∧ V.cell? ⟨w.heap.size + 1, 0, none⟩ = some hv ∧ V.frozen? ⟨w.heap.size + 1, 0, none⟩ = false ∧ V.cell? ⟨gi, oi, none⟩ = some (.slice af nf cf) ∧ IsI .u8 (V.setCell ⟨w.heap.size + 1, 0, none⟩ hv') a5 M c5 (frm 1 (pk Bk))) := fun W V hv' cs' hW hg ho => by
          have h1 := hMs.below hW
          have hlt := fun j hj => (h1.rh.lt j hj).1
          have hx := h1.x.kept hg (fun e => by have := hlt _ e.symm; omega)
          have o5 := own_below ho5 hW
          have o5' := o5.kept hg (row_ne o5 h1.rh (by decide))
          have o5'' := o5'.kept (grownBy_setCell' V (w.heap.size + 1) hv') (by
            cases h' : (Value.slice a5 M c5).ownBlock with
            | none => exact .inl rfl
            | some g => exact .inr (fun e => by cases e; have := (o5'.lt _ h').1; have := HV.out.1.x.lt; omega))
          obtain ⟨_, _, e, hI⟩ := own_isI o5''
          cases e
          exact ⟨h1.heads hg ho, hx.cell, hx.frozen, (World.cell?_of_block (hg.block gi (by have := h1.x.lt; omega) (fun e => by have := hlt _ e.symm; omega))).trans ((hW.cell (p := ⟨gi, oi, none⟩) (by show gi < w5.heap.size; omega)).trans q1), hI⟩
        have qa0 : ∀ (W : World), Below w5.heap.size w5 W → W.cell? ⟨w.heap.size + 1, 0, none⟩ = some hv := fun W hW => (hW.cell (p := ⟨w.heap.size + 1, 0, none⟩) (by show w.heap.size + 1 < w5.heap.size; omega)).trans q0
        have qa1 : ∀ (W : World), Below w5.heap.size w5 W → W.cell? ⟨gi, oi, none⟩ = some (.slice af nf cf) := fun W hW => (hW.cell (p := ⟨gi, oi, none⟩) (by show gi < w5.heap.size; omega)).trans q1
        have r0 : ∀ o, (w5.drew.alloc o).cell? ⟨w.heap.size + 1, 0, none⟩ = some hv := fun o => qa0 _ ((Below.refl _ _).drew.alloc (Nat.le_refl _) _)
        have r1 : ∀ o, (w5.drew.alloc o).cell? ⟨gi, oi, none⟩ = some (.slice af nf cf) := fun o => qa1 _ ((Below.refl _ _).drew.alloc (Nat.le_refl _) _)
        have r2 : ∀ o, (w5.alloc o).cell? ⟨w.heap.size + 1, 0, none⟩ = some hv := fun o => qa0 _ ((Below.refl _ _).alloc (Nat.le_refl _) _)
        have r3 : ∀ o, (w5.alloc o).cell? ⟨gi, oi, none⟩ = some (.slice af nf cf) := fun o => qa1 _ ((Below.refl _ _).alloc (Nat.le_refl _) _)
        clear qa0 qa1 hb4 hb5 hI5 b5 hbv hMs ho5 hIb
        go_wp2_with fail
        go_region_law (refine step_append_own rfl (.tmp 41) (.tmp 48) 47 rfl (w.heap.size + 2) 68 i1 _ 2 32 Tryd.underlying47 hj0 hj1 hj2 hj3 rfl (by decide) hv k cs (by first | (simp [Act.eval]; done) | simp [Act.eval, Act.put]) (by first | exact (World.ownsRow.alloc (w := w5.drew) HO5.out _) | exact (World.ownsRow.alloc (w := w5) HO5.out _)) ⟨w5.heap.size, 0, none⟩ 1 1 [.int .i64 (n : Int), .slice af nf cf] (by first | (simp [Act.eval]; done) | simp [Act.eval, Act.put]) rfl (by first | exact (World.news_of_block (cs := #[.int .i64 (n : Int), .slice af nf cf]) (t := 68) (fr := (0, 0)) (heap_alloc_new w5.drew _)) | exact (World.news_of_block (cs := #[.int .i64 (n : Int), .slice af nf cf]) (t := 68) (fr := (0, 0)) (heap_alloc_new w5 _))) (by simp [Value.oneCell']) (by unfold maxLen; omega) (by omega) (by simp; omega) ?_
                       intro v6 w6 ho6 hg6
                       obtain ⟨g6, c6, rfl⟩ := ownsRow_succ ho6
                       obtain ⟨HM6', p0, z6, p1, HI6'⟩ := HG.out _ _ _ _ (by first | exact (Below.refl _ _).drew.alloc (Nat.le_refl _) _ | exact (Below.refl _ _).alloc (Nat.le_refl _) _) hg6 ho6
                       have HM6 : Hid _ := HM6'
                       have HI6 : Hid _ := HI6'
                       have hg6s : w.heap.size + 2 ≤ w6.heap.size := by have := HM6'.x.lt; simp at this; omega
                       clear HM6' HI6' ho6 hg6)
        all_goals (
          go_wp2_with (at_builtin; refine wpList_append_one _ rfl (.tmp 51) (.tmp 52) 23 rfl (w.heap.size + 2) 5 i0 (.int .u8 0) 1 Tryd.underlying23 hi0 hz0 hz1 hz2 rfl _ n _ rfl HM6.out.rb a5 M c5 ((frm 1 (pk Bk)).map (Value.int .u8)) rfl (by rw [List.length_map, HI6.out.hl]) HI6.out.none (rd_any HI6.out.rd) (ints_oneCell _ _) (by unfold maxLen; omega) (by omega) (by simp; have := hg6s; omega) ?_
                       intro v7 w7 ho7 hg7)
          go_roundw
          case rel =>
            have hkc : k < (ch ls).length := by rw [← hm.out]; exact hlt
            have e7 : (fb ((ch ls).take k)).map (Value.int .u8) ++ (frm 1 (pk Bk)).map (Value.int .u8) = (fb ((ch ls).take (k + 1))).map (Value.int .u8) := by
              rw [fb_take _ hkc, ← hBk.out, List.map_append]
            rw [e7] at ho7
            refine ⟨k + 1, n + M, by omega, by go_num, ?_, _, _, ⟨HM6.out.bytes hg7 ho7, fun U hU => ?_⟩⟩
            · show n + M = _
              rw [fb_take _ hkc, ← hBk.out, List.length_append, ← HN.out, hM.out]
            · rw [hs_take _ hkc, ← hBk.out, ← HN.out]
              exact rdHv_snoc (HV.out.2 U hU) (HF.out.1.below hU)
          case measure => simp [intOf]; omega)
      · have hlt' : ¬ (k : Int) < (m : Int) := by omega
        obtain rfl : k = m := by omega
        have htk : (ch ls).take k = ch ls := List.take_of_length_le (by rw [← hm.out]; exact Nat.le_refl _)
        rw [htk] at HN HV
        obtain ⟨J, hJ⟩ : ∃ J, Hid (J = hs 0 (ch ls)) := ⟨_, rfl⟩
        rw [← hJ.out] at HV
        have hwJ : WfH J := by
          rw [hJ.out]
          exact hs_wf (ch_chk_mem HCk.out) (ch_wf HI.out.2.1) (by rw [← hm.out]; omega)
        obtain ⟨ah, cah, hhv, hIH⟩ := own_isH HV.out.1.rh (HV.out.2 wr HV.out.1.bl)
        subst hhv
        have hx0 := HV.out.1.x.cell
        have HBd : Hid _ := body_any (w.heap.size + 1) ah k cah J wr hx0 hIH hwJ (by omega)
        have HJ : Hid (WfH J ∧ J.length = k ∧ Bytes (ix J)) := ⟨hwJ, hIH.hl, ix_bytes hwJ (by rw [hIH.hl]; omega)⟩
        have hPl : (ix J).length ≤ 105010 := ix_le hwJ (by rw [hIH.hl]; omega)
        have hnl : n ≤ 810000 := by have := fbc_le HCk.out; rw [HN.out]; exact this
        have hxl := HV.out.1.x.lt
        clear hwJ hIH
        go_wp2_with fail
        refine Calls.mono HBd.out ?_
        rintro e w4 ⟨v4, rfl, ho4, hb4⟩
        obtain ⟨P, hP⟩ : ∃ P, Hid (P = (ix J).length) := ⟨_, rfl⟩
        rw [← hP.out] at ho4 hPl
        obtain ⟨a4, c4, rfl, hI4⟩ := own_isI ho4
        have hM4 := HV.out.1.below hb4
        have ht4 := hM4.t.cell
        have zt4 := hM4.t.frozen
        have H4 : Hid (Ms w w4 u7 n (fb (ch ls)) (.slice (some ⟨gB, 0, none⟩) k cB) k xs (.slice ah k cah) k cs ∧ IsI .u8 w4 a4 P c4 (ix J)) := ⟨hM4, hI4⟩
        clear ho4 hI4 hb4 hM4 hx0
        by_cases hlim : 65535 < P
        · have HL : Hid _ := make_limit 2 (by decide) (by decide) a4 P c4 hlim w4
          have HBt : Hid (bt ls = (2, [])) := by
            show bt ls = _
            unfold bt
            rw [if_neg (by rw [HCk.out]; simp), if_pos (by rw [← hJ.out, ← hP.out]; exact hlim)]
          go_wp2_with fail
          refine Calls.mono HL.out ?_
          rintro e w' ⟨rfl, hw'⟩; rw [hw']; clear hw' w'
          go_wp2_with fail
          have y0 : (w4.setCell ⟨w.heap.size, 0, none⟩ (.slice none 0 0)).cell? ⟨w.heap.size, 0, none⟩ = some (.slice none 0 0) := (H4.out.1.t.set _).cell
          refine bodyPost_ret (v := .tuple #[.agg #[.slice none 0 0], .slice none 0 0, .int .i64 2]) (by simp [results, Tryd.results26, go_sem, y0]) rfl ⟨H4.out.1.bl.setCell (p := ⟨w.heap.size, 0, none⟩) (Nat.le_refl _) _, .inr ⟨?_, ?_⟩⟩
          · rw [HBt.out]; decide
          · rw [HBt.out]
        · have HMk : Hid _ := make_any 2 (by decide) a4 P c4 (ix J) w4 H4.out.2 HJ.out.2.2 (by omega) (HI.out.2.2.below H4.out.1.bl)
          have HBt : Hid (bt ls = (0, fil ls)) := by
            show bt ls = _
            unfold bt
            rw [if_neg (by rw [HCk.out]; simp), if_neg (by rw [← hJ.out, ← hP.out]; exact hlim)]
          go_wp2_with fail
          refine Calls.mono HMk.out ?_
          rintro e w5 ⟨v5, rfl, ho5, hb5⟩
          obtain ⟨M, hM⟩ : ∃ M, Hid (M = (frm 2 (ix J)).length) := ⟨_, rfl⟩
          have hMl : M ≤ 120000 := by
            have h2 := bs_le10 (u := (ix J).length) (by rw [← hP.out]; omega)
            rw [hM.out, frm_length, ← hP.out] at *; omega
          rw [← hM.out] at ho5
          obtain ⟨a5, c5, rfl, hI5⟩ := own_isI ho5
          have hM5 := H4.out.1.below hb5
          obtain ⟨ab, cb, hbv, hIb⟩ := own_isI hM5.rb
          have hu7 : u7 = .slice ab n cb := hbv
          subst hu7
          have hs5 : w.heap.size + 2 ≤ w5.heap.size := hM5.x.lt
          have H5 : Hid (Ms w w5 (.slice ab n cb) n (fb (ch ls)) (.slice (some ⟨gB, 0, none⟩) k cB) k xs (.slice ah k cah) k cs ∧ IsI .u8 w5 a5 M c5 (frm 2 (ix J))) := ⟨hM5, hI5⟩
          clear ho5 hI5 hb5 hM5 hbv hIb ht4 zt4
          go_wp2_with (at_builtin; refine wpList_append_one _ rfl (.tmp 66) (.tmp 67) 23 rfl (w.heap.size + 2) 5 i0 (.int .u8 0) 1 Tryd.underlying23 hi0 hz0 hz1 hz2 rfl _ n _ rfl H5.out.1.rb a5 M c5 ((frm 2 (ix J)).map (Value.int .u8)) rfl (by rw [List.length_map, H5.out.2.hl]) H5.out.2.none (rd_any H5.out.2.rd) (ints_oneCell _ _) (by unfold maxLen; omega) (by omega) (by omega) ?_
                       intro v7 w7 ho7 hg7)
          rw [← List.map_append] at ho7
          have hM7 := H5.out.1.bytes hg7 ho7
          obtain ⟨nM, hnM⟩ : ∃ q, q = n + M := ⟨_, rfl⟩
          rw [← hnM] at hM7
          have HnM : Hid (nM = n + M) := hnM
          have hnMl : nM ≤ 1000000 := by omega
          have ht7 := hM7.t.cell
          have zt7 := hM7.t.frozen
          have hx7 := hM7.x.cell
          have hs7 : w.heap.size + 2 ≤ w7.heap.size := hM7.x.lt
          have H7 : Hid (Ms w w7 v7 nM (fb (ch ls) ++ frm 2 (ix J)) (.slice (some ⟨gB, 0, none⟩) k cB) k xs (.slice ah k cah) k cs) := hM7
          clear ho7 hg7 hM7 hnM
          have HG8 : Hid (∀ W V : World, Below w7.heap.size w7 W → W.grownBy V v7.ownBlock → Boxed V w.heap.size 49 (.slice none 0 0) ∧ Boxed V (w.heap.size + 1) 49 (.slice ah k cah) ∧ Below w.heap.size w V ∧ V.ownsRow (w.heap.size + 2) 68 2 (.slice ah k cah) k cs) := fun W V hW hg => by
            have h7' := H7.out.below hW
            exact ⟨h7'.t.kept hg (fun e => by have := (h7'.rb.lt _ e.symm).1; omega), h7'.x.kept hg (fun e => by have := (h7'.rb.lt _ e.symm).1; omega), h7'.bl.grown hg h7'.bl.size (fun j hj => by have := (h7'.rb.lt j hj).1; omega), h7'.rh.kept hg (row_ne h7'.rh h7'.rb (by decide))⟩
          go_region_held3 (fun u => u.cell? ⟨w.heap.size + 1, 0, none⟩ = some (.slice ah k cah))
            (first
              | exact hx7
              | exact p8
              | exact (World.cell?_of_block (Below.heap_setCell _ _ _ _ (by simp))).trans p8
              | go_keep)
            (first
              | (refine step_append_own rfl (.tmp 70) (.tmp 82) 23 rfl (w.heap.size + 2) 5 i0 _ 1 1 Tryd.underlying23 hi0 hz0 hz1 hz2 rfl (by decide) v7 nM _ (by rfl) (World.ownsRow.alloc (w := w7.drew) H7.out.rb _) ⟨w7.heap.size, 0, none⟩ 4 4 [_, _, _, _] (by rfl) rfl (four_new w7.drew _ _ _ _) (by simp [Value.oneCell']) (by unfold maxLen; omega) (by omega) (by simp; omega) ?_
                 intro v8 w8 ho8 hg8
                 obtain ⟨t8, x8, b8, r8⟩ := HG8.out _ _ (by exact (Below.refl _ _).drew.alloc (Nat.le_refl _) _) hg8
                 have p8 := x8.cell
                 have c8 := t8.cell
                 have z8 := t8.frozen))
          go_wp2_with fail
          have y0 : (w8.setCell ⟨w.heap.size, 0, none⟩ (.slice ah k cah)).cell? ⟨w.heap.size, 0, none⟩ = some (.slice ah k cah) := (t8.set _).cell
          refine bodyPost_ret (v := .tuple #[.agg #[.slice ah k cah], v8, .int .i64 0]) (by simp [results, Tryd.results26, go_sem, y0]) rfl ⟨b8.setCell (p := ⟨w.heap.size, 0, none⟩) (Nat.le_refl _) _, .inl ⟨by rw [HBt.out], .slice ah k cah, cs, v8, rfl, ?_, ?_, ?_⟩⟩
          · have e : (fil ls).map (Value.int .u8) = (fb (ch ls) ++ frm 2 (ix J)).map (Value.int .u8) ++ (tl n).map (Value.int .u8) := by
              rw [fil, ← hJ.out, ← HN.out, ← List.map_append]
            have e2 : (fil ls).length = nM + 4 := by
              rw [fil, ← hJ.out, ← HN.out, List.length_append, List.length_append, tl_length, ← HN.out, ← hM.out, HnM.out]
            rw [e, e2, tl_wrap (by omega)]
            exact own_mono (own_setlt ho8 (by omega)) (by omega)
          · rw [← hm.out]
            exact own_mono (own_setlt r8 (by omega)) (by omega)
          · intro U hU
            rw [← hJ.out]
            exact HV.out.2 U hU
end Go.Proofs.YtocjmbhfpofoeaaDoor
