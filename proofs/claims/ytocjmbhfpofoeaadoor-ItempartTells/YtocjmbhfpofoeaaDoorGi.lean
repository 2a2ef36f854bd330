/- The contract of Open. Conditions: the table of half bytes; sizes. -/
import Derived.Test.YtocjmbhfpofoeaaDoorGh
namespace Go.Proofs.YtocjmbhfpofoeaaDoor
open Go.RowKit Go.Shelf
attribute [local go_sem] Oper.semAt_some

/-- What Open answers: the part of the items whose file the bytes are, or an error where they are no file. -/
def Opn (z : List Int) (w : World) (e : Ending) (w' : World) : Prop :=
  Below w.heap.size w w' ∧ ((∃ L p, bt L = (0, z) ∧ e = .returned (.tuple #[.pointer (some ⟨p, 0, none⟩), .int .i64 0]) ∧ PtI w' p L) ∨
    ((∀ L, bt L ≠ (0, z)) ∧ e = .returned (.tuple #[.pointer none, .int .i64 170])))
theorem rdX_append {w : World} {xs ys : List Value} {ls ks : List (List Int)} (h : RdX w xs ls) (k : RdX w ys ks) : RdX w (xs ++ ys) (ls ++ ks) := by
  refine ⟨by simp [h.1, k.1], fun i hi => ?_⟩
  rcases Nat.lt_or_ge i ls.length with h1 | h1
  · obtain ⟨a, n, c, e, ht⟩ := h.2 i h1
    have hg : (ls ++ ks).getD i [] = ls.getD i [] := by simp [List.getD, List.getElem?_append_left h1]
    rw [hg]
    exact ⟨a, n, c, by rw [List.getElem?_append_left (by rw [h.1]; exact h1)]; exact e, ht⟩
  · have hi' : i - ls.length < ks.length := by simp at hi; omega
    obtain ⟨a, n, c, e, ht⟩ := k.2 _ hi'
    have hg : (ls ++ ks).getD i [] = ks.getD (i - ls.length) [] := by simp [List.getD, List.getElem?_append_right h1]
    rw [hg]
    exact ⟨a, n, c, by rw [List.getElem?_append_right (by rw [h.1]; exact h1), h.1]; exact e, ht⟩
/-- The cells of a row of items. -/
theorem rdT_cells {W : World} {a : Option Addr} {ls : List (List Int)} (h : RdT W a ls) : ∃ ys : List Value, RdX W ys ls ∧ ∀ ad, a = some ad → ∀ j u, ys[j]? = some u → W.cell? (ad.add j) = some u := by
  rcases h with rfl | ⟨b, off, rfl, hb, hr⟩
  · exact ⟨[], rdX_nil W, fun _ _ j u hu => by simp at hu⟩
  · refine ⟨(List.range ls.length).map fun i => (W.cell? ⟨b, off + i, none⟩).getD undef, ⟨by simp, fun i hi => ?_⟩, fun ad e j u hu => ?_⟩
    · obtain ⟨ai, ni, ci, e1, e2⟩ := hr i hi
      exact ⟨ai, ni, ci, by simp [hi, e1], e2⟩
    · cases e
      have hj : j < ls.length := by
        have := (List.getElem?_eq_some_iff.1 hu).1
        simpa using this
      obtain ⟨ai, ni, ci, e1, e2⟩ := hr j hj
      simp [hj, e1] at hu
      rw [Addr.add_lit, e1, hu]

set_option maxRecDepth 100000 in
set_option maxHeartbeats 8000000 in
theorem open_in (a : Option Addr) (len cap : Nat) (z : List Int) (w : World) (hI : IsI .u8 w a len cap z) (hz : Bytes z) (hH : Ha w) (hlen : len ≤ 1000000) :
    CallsIn Fence.wide 9 Tryd.prog 13 #[.slice a len cap] w (Opn z w) := by
  obtain ⟨i0, hi0, hz0, hz1, hz2⟩ := info_parts Tryd.info23
  have H : Hid (IsI .u8 w a len cap z ∧ Bytes z ∧ Ha w) := ⟨hI, hz, hH⟩
  clear hI hz hH
  refine callsIn_of_wp_marks Tryd.func13 rfl trivial ?_ rfl
  simp only [Tryd.ntmps13, List.size_toArray, List.length_cons, List.length_nil, Nat.reduceAdd, Nat.reduceSub, Array.replicate_succ, Array.replicate_zero, List.push_toArray, List.append_toArray, List.nil_append, List.cons_append]
  gi_wp2_with (refine ⟨trivial, ?_⟩; gi_at_call 30; refine (callsIn_wide.2 (told_it _ _ _ _)).mono ?_; rintro e w3 ⟨rfl, rfl⟩)
  have hal : Below w.heap.size w ((w.alloc (.cells #[.slice none 0 0] 22)).alloc (.cells #[.slice a len cap] 23)) := ((Below.refl _ _).alloc (Nat.le_refl _) _).alloc (by simp) _
  have hsz : ((w.alloc (.cells #[.slice none 0 0] 22)).alloc (.cells #[.slice a len cap] 23)).heap.size = w.heap.size + 2 := by simp
  have hl0 : Boxed ((w.alloc (.cells #[.slice none 0 0] 22)).alloc (.cells #[.slice a len cap] 23)) w.heap.size 22 (.slice none 0 0) := (Boxed.new w 22 _).alloc _
  have hbx : Boxed ((w.alloc (.cells #[.slice none 0 0] 22)).alloc (.cells #[.slice a len cap] 23)) (w.heap.size + 1) 23 (.slice a len cap) := by
    have := Boxed.new (w.alloc (.cells #[.slice none 0 0] 22)) 23 (.slice a len cap)
    rwa [World.size_alloc] at this
  obtain ⟨W0, hW0⟩ : ∃ W0, W0 = ((w.alloc (.cells #[.slice none 0 0] 22)).alloc (.cells #[.slice a len cap] 23)) := ⟨_, rfl⟩
  rw [← hW0] at hal hsz hl0 hbx ⊢
  clear hW0
  have hio : Io w W0 [] := ⟨⟨_, [], hl0, World.ownsRow_nil _ _ _ _, rdX_nil _⟩, fun l hl => by simp at hl, hal, _, hbx⟩
  refine wpIn_rangeB (n := 9) (by decide) (gf := 50) (lb := #[.pointer (some ⟨w.heap.size + 1, 0, none⟩)]) rfl (enters_of Tryd.func50 (by kernel_rfl) rfl)
    (told_in 8 w.heap.size (w.heap.size + 1) a len cap z W0 (by omega) (by omega) hbx (fun U hU => H.out.1.below (hal.trans hU)) H.out.2.1 (H.out.2.2.below hal) H.out.2.2.1 hlen)
    (fun h k => ⟨h.1.trans k.1, k.2.trans h.2⟩) (fun W l o' h h2 => ⟨below_put (by omega) (by omega), World.putObj_heap_other (by omega)⟩) (Below.refl _ _) (by omega) (fun _ => rfl)
    (fun pre W => Io w W (flatB pre) ∧ (flatB pre).length ≤ 2000) (fun c pre W => c = .exit 0 ∧ Io w W (flatB pre) ∧ 2000 < (flatB pre).length ∧ (flatB pre).length ≤ 3000)
    (fun s U U' row h hg hr => ⟨Io.ab w W0.heap.size (by omega) flatB s U U' row h.1 hg hr, h.2⟩)
    (fun c s U U' row h hg hr => ⟨h.1, Io.ab w W0.heap.size (by omega) flatB s U U' row h.2.1 hg hr, h.2.2⟩)
    (EB.ab _ _) ⟨hio, by simp [flatB]⟩
    (fun x => { tmps := #[.slice a len cap, undef, .pointer none, .int .i64 0, .pointer (some ⟨w.heap.size, 0, none⟩), .slice x.a x.n x.c, undef, undef, undef, .slice a len cap, .func (.func 50) #[] #[.pointer (some ⟨w.heap.size + 1, 0, none⟩)], .slice x.a x.n x.c, undef, undef, undef, undef, undef, undef, undef, undef, undef, undef, undef, undef, undef, undef, undef, undef, undef, undef, undef, undef, undef, undef, undef, undef, undef], defers := [] })
    ?assign ?body ?done ?stop
  case assign =>
    intro l x W K hK
    dsimp only [encB]
    gi_wp2
    exact hK
  case body =>
    intro l pre x W hIW _ hE
    obtain ⟨v, xs, r1, r2, r3⟩ := hIW.1.row
    have c1 := r1.cell
    have z1 := r1.frozen
    have hRx := hE.1.isR
    obtain ⟨ys, y1, y2⟩ := rdT_cells hE.1.rdT
    have hck := chk_zero hE.2.2
    have hxl := hRx.hl
    have hxp := List.length_pos_iff.2 hck.2.1
    obtain ⟨gx, ox, hax⟩ : ∃ gx ox, x.a = some ⟨gx, ox, none⟩ := by
      obtain ⟨b, off, _, _, _, e, _⟩ := hRx.rd.at (k := 0) (by omega)
      exact ⟨b, off, e⟩
    obtain ⟨xa, xn, xc, xL⟩ := x
    simp only at hax hRx y1 y2 hck hxl hxp
    subst hax
    obtain ⟨pl, hpl⟩ : ∃ pl, pl = (flatB pre).length := ⟨_, rfl⟩
    have hpl2 : pl ≤ 2000 := by rw [hpl]; exact hIW.2
    rw [← hpl] at r2
    have hxn : xn ≤ 8 := by omega
    have hbs := hIW.1.bl.size
    have hyl : ys.length = xn := by rw [y1.1, hxl]
    have HR : Hid (W.ownsRow (w.heap.size + 2) 23 1 v pl xs ∧ Boxed W w.heap.size 22 v) := ⟨r2, r1⟩
    have HY : Hid ((∀ j u, ys[j]? = some u → W.cell? ((⟨gx, ox, none⟩ : Addr).add j) = some u) ∧ ys.length = xn ∧ (∀ u ∈ ys, u.oneCell' = true)) := ⟨fun j u hu => y2 _ rfl j u hu, hyl, rdX_one y1⟩
    have HN : Hid (∀ (V : World) (v' : Value), W.grownBy V v.ownBlock → V.ownsRow (w.heap.size + 2) 23 1 v' (pl + xn) (xs ++ ys) →
        Io w (V.setCell ⟨w.heap.size, 0, none⟩ v') (flatB (pre ++ [⟨some ⟨gx, ox, none⟩, xn, xc, xL⟩])) ∧ (flatB (pre ++ [⟨some ⟨gx, ox, none⟩, xn, xc, xL⟩])).length = pl + xn ∧ V.cell? ⟨w.heap.size, 0, none⟩ = some v ∧ V.frozen? ⟨w.heap.size, 0, none⟩ = false ∧
        KeepsFrom (w.heap.size + 2) W (V.setCell ⟨w.heap.size, 0, none⟩ v') ∧ (Below w.heap.size W (V.setCell ⟨w.heap.size, 0, none⟩ v') ∧ (V.setCell ⟨w.heap.size, 0, none⟩ v').heap[w.heap.size + 1]? = W.heap[w.heap.size + 1]?)) := by
      intro V v' hg ho
      obtain ⟨u, hu⟩ := hIW.1.tb
      have hlt := fun j hj => (r2.lt j hj).1
      have ho' : V.ownsRow (w.heap.size + 2) 23 1 v' (flatB (pre ++ [⟨some ⟨gx, ox, none⟩, xn, xc, xL⟩])).length (xs ++ ys) := by
        rw [flatB_snoc, List.length_append, ← hpl]
        show V.ownsRow _ _ _ _ (pl + xL.length) _
        rw [hxl]; exact ho
      have r1' := r1.kept hg (fun e => by have := hlt _ e.symm; omega)
      have u' := hu.kept hg (fun e => by have := hlt _ e.symm; omega)
      have hs := grownBy_setCell' V w.heap.size v'
      have k1 : K5 W V := K5.of_grown hg fun g e => by
        obtain ⟨c, f, q⟩ := own_tag r2 g e
        exact ⟨c, 23, f, q, by decide⟩
      have k2 : K5 V (V.setCell ⟨w.heap.size, 0, none⟩ v') := K5.of_set r1' (by decide) v'
      have bV : Below w.heap.size W V := (Below.refl _ W).grown hg hbs (fun j hj => by have := hlt j hj; omega)
      refine ⟨⟨⟨v', xs ++ ys, r1'.set _, own_setlt ho' (by omega), ?_⟩, ?_, (hIW.1.bl.trans bV).setCell (p := ⟨w.heap.size, 0, none⟩) (Nat.le_refl _) _, u, u'.other (by omega) _⟩, ?_, r1'.cell, r1'.frozen, ?_, bV.setCell (p := ⟨w.heap.size, 0, none⟩) (Nat.le_refl _) _, ?_⟩
      · rw [flatB_snoc]
        exact rdX_append (r3.keep (k1.trans k2)) (y1.keep (k1.trans k2))
      · intro l hl
        rw [flatB_snoc] at hl
        rcases List.mem_append.1 hl with h | h
        · exact hIW.1.wf l h
        · exact hE.2.1 l h
      · rw [flatB_snoc, List.length_append, ← hpl]
        show pl + xL.length = pl + xn
        rw [hxl]
      · refine KeepsFrom.trans (Y := V) ⟨hg.size, fun k o hk e c => (hg.block k (blk_lt e) (fun h => ?_)).trans e⟩ (KeepsFrom.of_grownBy hs (fun j e => by cases e; omega))
        obtain ⟨cur, f, q⟩ := own_tag r2 k h.symm
        rw [e] at q; cases q; cases c
      · exact (Below.heap_setCell V ⟨w.heap.size, 0, none⟩ v' _ (by simp)).trans (u'.trans hu.symm)
    have hb2 : w.heap.size + 2 ≤ W.heap.size := by
      obtain ⟨u, hu⟩ := hIW.1.tb
      exact hu.lt
    have hpx : 0 < pl + xn := by omega
    clear r1 r2 r3 hE y1 y2 hck hxl hxp hpl hyl hRx hIW
    obtain ⟨q, hq⟩ : ∃ q, q = pl + xn := ⟨_, rfl⟩
    have HQ : Hid (q = pl + xn) := hq
    by_cases hgt : 2000 < pl + xn
    · have hgt' : (2000 : Int) < (pl : Int) + (xn : Int) := by omega
      clear hq
      gi_wp2_with (gi_at_builtin; refine wpListIn_append_own _ rfl (.tmp 12) (.tmp 13) 22 rfl (w.heap.size + 2) 23 i0 _ 1 24 Tryd.underlying22 hi0 hz0 hz1 hz2 rfl (by decide) v pl xs rfl HR.out.1 ⟨gx, ox, none⟩ xn xc ys rfl (by rw [HY.out.2.1, Nat.mul_one]) HY.out.1 HY.out.2.2 (by unfold maxLen; omega) (by omega) hb2 ?_
                   intro v' w1 hown' hgrow _
                   obtain ⟨hIo, hle, cN, zN, hKF, hKB⟩ := HN.out _ _ hgrow hown'
                   obtain ⟨gv, cv, rfl, _⟩ := own_cell hown' (by omega)
                   have HIo : Hid _ := hIo
                   have HLe : Hid _ := hle
                   have HKF : Hid _ := hKF
                   have HKB : Hid _ := hKB
                   clear hIo hle hKF hKB hown' hgrow)
      exact ⟨by rw [hsz]; exact HKF.out, rfl, HIo.out, by rw [HLe.out]; exact hgt, by rw [HLe.out]; omega⟩
    · have hgt' : ¬ (2000 : Int) < (pl : Int) + (xn : Int) := by omega
      clear hq
      gi_wp2_with (gi_at_builtin; refine wpListIn_append_own _ rfl (.tmp 12) (.tmp 13) 22 rfl (w.heap.size + 2) 23 i0 _ 1 24 Tryd.underlying22 hi0 hz0 hz1 hz2 rfl (by decide) v pl xs rfl HR.out.1 ⟨gx, ox, none⟩ xn xc ys rfl (by rw [HY.out.2.1, Nat.mul_one]) HY.out.1 HY.out.2.2 (by unfold maxLen; omega) (by omega) hb2 ?_
                   intro v' w1 hown' hgrow _
                   obtain ⟨hIo, hle, cN, zN, hKF, hKB⟩ := HN.out _ _ hgrow hown'
                   obtain ⟨gv, cv, rfl, _⟩ := own_cell hown' (by omega)
                   have HIo : Hid _ := hIo
                   have HLe : Hid _ := hle
                   have HKF : Hid _ := hKF
                   have HKB : Hid _ := hKB
                   clear hIo hle hKF hKB hown' hgrow)
      exact ⟨HKF.out, HKB.out, HIo.out, by rw [HLe.out]; omega⟩
  case done =>
    intro D ys W hD hS hI' hK
    have HU : Hid (∀ L, bt L = (0, z) → flatB ys = L) := fun L hL => by
      have : flatB ys = (tb (z.length + 1) z).flatten := by rw [flatB, hS]
      rw [this, tb_fil hL]
    have hle := hI'.2
    have hIo := hI'.1
    clear hI' hS
    obtain ⟨v, xs, r1, r2, r3⟩ := hIo.row
    obtain ⟨k, hk⟩ : ∃ k, k = (flatB ys).length := ⟨_, rfl⟩
    have hk3 : k ≤ 100000 := by omega
    rw [← hk] at r2
    obtain ⟨av, cv, rfl, hRl⟩ := own_isR r2 r3
    have c1 := r1.cell
    have hbs := hIo.bl.size
    have HM : Hid (∀ U, Below W.heap.size W U → Calls Tryd.prog 26 #[.slice av k cv] U (Made (flatB ys) U)) := fun U hU => made_any av k cv (flatB ys) U (hRl.below hU) hIo.wf ((H.out.2.2.below hIo.bl).below hU) (by omega)
    have HR : Hid (IsR W av k cv (flatB ys) ∧ WfR (flatB ys) ∧ Below w.heap.size w W ∧ W.heap[D]? = some (.deferred (some [])) ∧ W.cell? ⟨w.heap.size, 0, none⟩ = some (.slice av k cv)) := ⟨hRl, hIo.wf, hIo.bl, hK, c1⟩
    have hDl : D < W.heap.size := blk_lt hK
    obtain ⟨l, hl⟩ : ∃ l, Hid (l = flatB ys) := ⟨_, rfl⟩
    rw [← hl.out] at HM HR HU
    clear r1 r2 r3 hRl hIo hK hk
    gi_wp2_with fail
    refine ⟨trivial, (callsIn_wide.2 (HM.out _ (Below.refl _ _))).mono ?_⟩
    rintro e w5 ⟨hb5, (⟨h0, hv, cs, v, rfl, ho, hh, hu⟩ | ⟨h0, rfl⟩)⟩
    case inr =>
      obtain ⟨x, hx⟩ : ∃ x, Hid (x = (bt l).1) := ⟨_, rfl⟩
      rw [← hx.out] at h0 ⊢
      have hx2 : (x != 0) = true := by simpa using h0
      have H5 : Hid (Below W.heap.size W w5 ∧ x ≠ 0) := ⟨hb5, h0⟩
      clear hb5 h0
      gi_wp2_with fail
      refine ⟨trivial, ?_⟩
      gi_wp2_with fail
      have hD5 : (w5.alloc (.cells #[.slice none 0 0] 49)).heap[D]? = some (.deferred (some [])) := (Below.heap_alloc _ _ _ (by have := H5.out.1.size; omega)).trans ((H5.out.1.block _ hDl).trans HR.out.2.2.2.1)
      refine ⟨by simp, .inl ⟨_, _, rfl, run_takeDeferred hD5, ?_⟩⟩
      refine ⟨.tuple #[.pointer none, .int .i64 170], by simp [results, Tryd.results13, go_sem], ?_, .inr ⟨fun L hL => ?_, rfl⟩⟩
      · have b1 : Below w.heap.size w (w5.alloc (.cells #[.slice none 0 0] 49)) := (HR.out.2.2.1.trans (H5.out.1.mono hbs)).alloc (by have := H5.out.1.size; omega) _
        exact b1.grown (grownBy_putObj' _ D _) (by have := b1.size; omega) (fun k e => by cases e; omega)
      · have e := HU.out L hL
        have : x = 0 := by rw [hx.out, e, hL]
        exact H5.out.2 this
    case inl =>
      have hz3 := (bt_zero h0)
      obtain ⟨ah, ca, rfl, hIH⟩ := own_isH hh (hu w5 hb5)
      obtain ⟨a5, c5, rfl, hI5⟩ := own_isI ho
      obtain ⟨n5, hn5⟩ : ∃ n5, Hid (n5 = (fil l).length) := ⟨_, rfl⟩
      rw [← hn5.out] at hI5 ⊢
      obtain ⟨m5, hm5⟩ : ∃ m5, Hid (m5 = (ch l).length) := ⟨_, rfl⟩
      rw [← hm5.out] at hIH ⊢
      have hb6 : Below w5.heap.size w5 (w5.alloc (.cells #[.slice ah m5 ca] 49)) := (Below.refl _ _).alloc (Nat.le_refl _) _
      have b6 : Below W.heap.size W (w5.alloc (.cells #[.slice ah m5 ca] 49)) := hb5.trans (hb6.mono hb5.size)
      have HE : Hid _ := equal_any a5 a n5 c5 len cap (fil l) z (w5.alloc (.cells #[.slice ah m5 ca] 49)) (fil_bytes hz3.1 HR.out.2.1) H.out.2.1 (hI5.below hb6) (H.out.1.below (HR.out.2.2.1.trans (b6.mono hbs)))
      obtain ⟨q, hq⟩ : ∃ q, Hid (q = decide (fil l = z)) := ⟨_, rfl⟩
      rw [← hq.out] at HE
      have hcN : (w5.alloc (.cells #[.slice ah m5 ca] 49)).cell? ⟨w.heap.size, 0, none⟩ = some (.slice av k cv) := (b6.cell (p := ⟨w.heap.size, 0, none⟩) (by have := World.block_lt_of_cell? W _ HR.out.2.2.2.2; exact this)).trans HR.out.2.2.2.2
      have HQ : Hid (Below W.heap.size W (w5.alloc (.cells #[.slice ah m5 ca] 49)) ∧ IsH (w5.alloc (.cells #[.slice ah m5 ca] 49)) ah m5 ca (hs 0 (ch l)) ∧ bt l = (0, fil l) ∧ chkF l = 0) := ⟨b6, hIH.below hb6, hz3.2.2, hz3.1⟩
      have hw5 : W.heap.size ≤ w5.heap.size := hb5.size
      clear hb5 h0 ho hh hu hz3 hIH hI5 hb6 b6
      cases q with
      | false =>
        gi_wp2_with fail
        refine ⟨trivial, (callsIn_wide.2 HE.out).mono ?_⟩
        rintro e w7 ⟨rfl, hw7⟩; rw [hw7]; clear hw7 w7
        gi_wp2_with fail
        have hD5 : (w5.alloc (.cells #[.slice ah m5 ca] 49)).heap[D]? = some (.deferred (some [])) := (HQ.out.1.block _ hDl).trans HR.out.2.2.2.1
        refine ⟨by simp, .inl ⟨_, _, rfl, run_takeDeferred hD5, ?_⟩⟩
        refine ⟨.tuple #[.pointer none, .int .i64 170], by simp [results, Tryd.results13, go_sem], ?_, .inr ⟨fun L hL => ?_, rfl⟩⟩
        · have b1 := HR.out.2.2.1.trans (HQ.out.1.mono hbs)
          exact b1.grown (grownBy_putObj' _ D _) (by have := b1.size; omega) (fun k e => by cases e; omega)
        · have e := HU.out L hL
          rw [← e, HQ.out.2.2.1] at hL
          exact absurd (congrArg Prod.snd hL) (of_decide_eq_false hq.out.symm)
      | true =>
        gi_wp2_with fail
        refine ⟨trivial, (callsIn_wide.2 HE.out).mono ?_⟩
        rintro e w7 ⟨rfl, hw7⟩; rw [hw7]; clear hw7 w7
        gi_wp2_with fail
        obtain ⟨w6, hw6⟩ : ∃ w6, w6 = (w5.alloc (.cells #[.slice ah m5 ca] 49)) := ⟨_, rfl⟩
        have c6 : w6.cell? ⟨w5.heap.size, 0, none⟩ = some (.slice ah m5 ca) := by rw [hw6]; simp
        have s6 : w6.heap.size = w5.heap.size + 1 := by rw [hw6]; simp
        rw [← hw6] at hcN HQ ⊢
        have HS : Hid (∀ U, Below w6.heap.size w6 U → Calls Tryd.prog 32 #[.slice av k cv] U fun e w' => ∃ v xs, e = .returned v ∧ w'.ownsRow U.heap.size 22 1 v m5 xs ∧ RdB w' xs (ch l) ∧ Below U.heap.size U w' ∧ w'.cell? ⟨w5.heap.size, 0, none⟩ = some (.slice ah m5 ca) ∧ w'.cell? ⟨w.heap.size, 0, none⟩ = some (.slice av k cv)) := fun U hU => by
          have hR := HR.out.1.below (HQ.out.1.trans (hU.mono (by omega)))
          refine (split_any av k cv l U hR (by omega)).mono ?_
          rintro e w' ⟨v, xs, rfl, h1, h2, h3⟩
          refine ⟨v, xs, rfl, by rw [hm5.out]; exact h1, h2 _ (hR.below h3), h3, ?_, ?_⟩
          · exact (h3.cell (p := ⟨w5.heap.size, 0, none⟩) (by show w5.heap.size < U.heap.size; have := hU.size; omega)).trans ((hU.cell (p := ⟨w5.heap.size, 0, none⟩) (by show w5.heap.size < w6.heap.size; omega)).trans c6)
          · have hn : w.heap.size < w6.heap.size := World.block_lt_of_cell? w6 _ hcN
            exact (h3.cell (p := ⟨w.heap.size, 0, none⟩) (by show w.heap.size < U.heap.size; have := hU.size; omega)).trans ((hU.cell (p := ⟨w.heap.size, 0, none⟩) hn).trans hcN)
        have HFin : Hid (∀ (U w8 : World) (aB : Option Addr) (cB : Nat), Below w6.heap.size w6 U → Below U.heap.size U w8 → IsB w8 aB m5 cB (ch l) →
            (w8.alloc (.cells #[.slice ah m5 ca, .slice aB m5 cB] 62)).heap[D]? = some (.deferred (some [])) ∧ ∀ o', Opn z w (.returned (.tuple #[.pointer (some ⟨w8.heap.size, 0, none⟩), .int .i64 0])) ((w8.alloc (.cells #[.slice ah m5 ca, .slice aB m5 cB] 62)).putObj D o')) := fun U w8 aB cB hU h8 hB => by
          have b8 : Below w6.heap.size w6 w8 := hU.trans (h8.mono hU.size)
          have b9 : Below w6.heap.size w6 (w8.alloc (.cells #[.slice ah m5 ca, .slice aB m5 cB] 62)) := b8.alloc b8.size _
          have bW := HQ.out.1.trans (b9.mono (by omega))
          have hD9 : (w8.alloc (.cells #[.slice ah m5 ca, .slice aB m5 cB] 62)).heap[D]? = some (.deferred (some [])) := (bW.block _ hDl).trans HR.out.2.2.2.1
          refine ⟨hD9, fun o' => ?_⟩
          have kc : Kc (w8.alloc (.cells #[.slice ah m5 ca, .slice aB m5 cB] 62)) ((w8.alloc (.cells #[.slice ah m5 ca, .slice aB m5 cB] 62)).putObj D o') := Kc.put hD9 rfl
          have kc8 : Kc w8 (w8.alloc (.cells #[.slice ah m5 ca, .slice aB m5 cB] 62)) := Kc.of_below ((Below.refl _ _).alloc (Nat.le_refl _) _)
          have b1 := HR.out.2.2.1.trans (bW.mono hbs)
          refine ⟨b1.grown (grownBy_putObj' _ D _) (by have := b1.size; omega) (fun k e => by cases e; omega), .inl ⟨l, w8.heap.size, ?_, rfl, ⟨HQ.out.2.2.2, HR.out.2.1, ah, m5, ca, aB, m5, cB, kc.cell (by simp), kc.cell (by simp), ?_, ?_⟩⟩⟩
          · rw [HQ.out.2.2.1, of_decide_eq_true hq.out.symm]
          · exact ((HQ.out.2.1.below b8).kc kc8).kc kc
          · exact (hB.kc kc8).kc kc
        clear hw6
        have hmix : Tryd.prog.follows .mixedOrders = true := by kernel_rfl
        refine wpIn_mono (Q := NoPanic _) ?_ NoPanic.imp
        gi_region_with_o (refine ⟨trivial, (callsIn_wide.2 (HS.out _ (by first | exact (Below.refl _ _).drew | exact Below.refl _ _))).mono ?_⟩; rintro e w8 ⟨vB, xsB, rfl, hoB, hrB, hbB, d1, d2⟩; obtain ⟨aB, cB, rfl, hIB⟩ := own_isB hoB hrB)
        all_goals (
          refine NoPanic.normal ?_
          gi_wp2_with fail
          obtain ⟨hD9, hop⟩ := HFin.out _ _ aB cB (by first | exact (Below.refl _ _).drew | exact Below.refl _ _) hbB hIB
          refine ⟨by simp, .inl ⟨_, _, rfl, run_takeDeferred hD9, ?_⟩⟩
          exact ⟨.tuple #[.pointer (some ⟨w8.heap.size, 0, none⟩), .int .i64 0], by simp [results, Tryd.results13, go_sem], hop _⟩)
  case stop =>
    intro D c pre W hD hSp hI' hK
    obtain ⟨rfl, hIo, hgt, hle'⟩ := hI'
    have HU : Hid (∀ L, bt L = (0, z) → flatB pre = L) := fun L hL => by
      exfalso
      obtain ⟨t, ht⟩ := hSp
      have h1 := tb_fil hL
      rw [← ht, List.flatten_append] at h1
      have h2 := chkF_zero (bt_zero (by rw [hL])).1
      have h3 := congrArg List.length h1
      rw [List.length_append] at h3
      have : (flatB pre).length ≤ 2000 := by unfold flatB; omega
      omega
    have hle : (flatB pre).length ≤ 100000 := by omega
    clear hSp hgt hle'
    obtain ⟨v, xs, r1, r2, r3⟩ := hIo.row
    obtain ⟨k, hk⟩ : ∃ k, k = (flatB pre).length := ⟨_, rfl⟩
    have hk3 : k ≤ 100000 := by omega
    rw [← hk] at r2
    obtain ⟨av, cv, rfl, hRl⟩ := own_isR r2 r3
    have c1 := r1.cell
    have hbs := hIo.bl.size
    have HM : Hid (∀ U, Below W.heap.size W U → Calls Tryd.prog 26 #[.slice av k cv] U (Made (flatB pre) U)) := fun U hU => made_any av k cv (flatB pre) U (hRl.below hU) hIo.wf ((H.out.2.2.below hIo.bl).below hU) (by omega)
    have HR : Hid (IsR W av k cv (flatB pre) ∧ WfR (flatB pre) ∧ Below w.heap.size w W ∧ W.heap[D]? = some (.deferred (some [])) ∧ W.cell? ⟨w.heap.size, 0, none⟩ = some (.slice av k cv)) := ⟨hRl, hIo.wf, hIo.bl, hK, c1⟩
    have hDl : D < W.heap.size := blk_lt hK
    obtain ⟨l, hl⟩ : ∃ l, Hid (l = flatB pre) := ⟨_, rfl⟩
    rw [← hl.out] at HM HR HU
    clear r1 r2 r3 hRl hIo hK hk
    gi_wp2_with fail
    refine ⟨trivial, (callsIn_wide.2 (HM.out _ (Below.refl _ _))).mono ?_⟩
    rintro e w5 ⟨hb5, (⟨h0, hv, cs, v, rfl, ho, hh, hu⟩ | ⟨h0, rfl⟩)⟩
    case inr =>
      obtain ⟨x, hx⟩ : ∃ x, Hid (x = (bt l).1) := ⟨_, rfl⟩
      rw [← hx.out] at h0 ⊢
      have hx2 : (x != 0) = true := by simpa using h0
      have H5 : Hid (Below W.heap.size W w5 ∧ x ≠ 0) := ⟨hb5, h0⟩
      clear hb5 h0
      gi_wp2_with fail
      refine ⟨trivial, ?_⟩
      gi_wp2_with fail
      have hD5 : (w5.alloc (.cells #[.slice none 0 0] 49)).heap[D]? = some (.deferred (some [])) := (Below.heap_alloc _ _ _ (by have := H5.out.1.size; omega)).trans ((H5.out.1.block _ hDl).trans HR.out.2.2.2.1)
      refine ⟨by simp, .inl ⟨_, _, rfl, run_takeDeferred hD5, ?_⟩⟩
      refine ⟨.tuple #[.pointer none, .int .i64 170], by simp [results, Tryd.results13, go_sem], ?_, .inr ⟨fun L hL => ?_, rfl⟩⟩
      · have b1 : Below w.heap.size w (w5.alloc (.cells #[.slice none 0 0] 49)) := (HR.out.2.2.1.trans (H5.out.1.mono hbs)).alloc (by have := H5.out.1.size; omega) _
        exact b1.grown (grownBy_putObj' _ D _) (by have := b1.size; omega) (fun k e => by cases e; omega)
      · have e := HU.out L hL
        have : x = 0 := by rw [hx.out, e, hL]
        exact H5.out.2 this
    case inl =>
      have hz3 := (bt_zero h0)
      obtain ⟨ah, ca, rfl, hIH⟩ := own_isH hh (hu w5 hb5)
      obtain ⟨a5, c5, rfl, hI5⟩ := own_isI ho
      obtain ⟨n5, hn5⟩ : ∃ n5, Hid (n5 = (fil l).length) := ⟨_, rfl⟩
      rw [← hn5.out] at hI5 ⊢
      obtain ⟨m5, hm5⟩ : ∃ m5, Hid (m5 = (ch l).length) := ⟨_, rfl⟩
      rw [← hm5.out] at hIH ⊢
      have hb6 : Below w5.heap.size w5 (w5.alloc (.cells #[.slice ah m5 ca] 49)) := (Below.refl _ _).alloc (Nat.le_refl _) _
      have b6 : Below W.heap.size W (w5.alloc (.cells #[.slice ah m5 ca] 49)) := hb5.trans (hb6.mono hb5.size)
      have HE : Hid _ := equal_any a5 a n5 c5 len cap (fil l) z (w5.alloc (.cells #[.slice ah m5 ca] 49)) (fil_bytes hz3.1 HR.out.2.1) H.out.2.1 (hI5.below hb6) (H.out.1.below (HR.out.2.2.1.trans (b6.mono hbs)))
      obtain ⟨q, hq⟩ : ∃ q, Hid (q = decide (fil l = z)) := ⟨_, rfl⟩
      rw [← hq.out] at HE
      have hcN : (w5.alloc (.cells #[.slice ah m5 ca] 49)).cell? ⟨w.heap.size, 0, none⟩ = some (.slice av k cv) := (b6.cell (p := ⟨w.heap.size, 0, none⟩) (by have := World.block_lt_of_cell? W _ HR.out.2.2.2.2; exact this)).trans HR.out.2.2.2.2
      have HQ : Hid (Below W.heap.size W (w5.alloc (.cells #[.slice ah m5 ca] 49)) ∧ IsH (w5.alloc (.cells #[.slice ah m5 ca] 49)) ah m5 ca (hs 0 (ch l)) ∧ bt l = (0, fil l) ∧ chkF l = 0) := ⟨b6, hIH.below hb6, hz3.2.2, hz3.1⟩
      have hw5 : W.heap.size ≤ w5.heap.size := hb5.size
      clear hb5 h0 ho hh hu hz3 hIH hI5 hb6 b6
      cases q with
      | false =>
        gi_wp2_with fail
        refine ⟨trivial, (callsIn_wide.2 HE.out).mono ?_⟩
        rintro e w7 ⟨rfl, hw7⟩; rw [hw7]; clear hw7 w7
        gi_wp2_with fail
        have hD5 : (w5.alloc (.cells #[.slice ah m5 ca] 49)).heap[D]? = some (.deferred (some [])) := (HQ.out.1.block _ hDl).trans HR.out.2.2.2.1
        refine ⟨by simp, .inl ⟨_, _, rfl, run_takeDeferred hD5, ?_⟩⟩
        refine ⟨.tuple #[.pointer none, .int .i64 170], by simp [results, Tryd.results13, go_sem], ?_, .inr ⟨fun L hL => ?_, rfl⟩⟩
        · have b1 := HR.out.2.2.1.trans (HQ.out.1.mono hbs)
          exact b1.grown (grownBy_putObj' _ D _) (by have := b1.size; omega) (fun k e => by cases e; omega)
        · have e := HU.out L hL
          rw [← e, HQ.out.2.2.1] at hL
          exact absurd (congrArg Prod.snd hL) (of_decide_eq_false hq.out.symm)
      | true =>
        gi_wp2_with fail
        refine ⟨trivial, (callsIn_wide.2 HE.out).mono ?_⟩
        rintro e w7 ⟨rfl, hw7⟩; rw [hw7]; clear hw7 w7
        gi_wp2_with fail
        obtain ⟨w6, hw6⟩ : ∃ w6, w6 = (w5.alloc (.cells #[.slice ah m5 ca] 49)) := ⟨_, rfl⟩
        have c6 : w6.cell? ⟨w5.heap.size, 0, none⟩ = some (.slice ah m5 ca) := by rw [hw6]; simp
        have s6 : w6.heap.size = w5.heap.size + 1 := by rw [hw6]; simp
        rw [← hw6] at hcN HQ ⊢
        have HS : Hid (∀ U, Below w6.heap.size w6 U → Calls Tryd.prog 32 #[.slice av k cv] U fun e w' => ∃ v xs, e = .returned v ∧ w'.ownsRow U.heap.size 22 1 v m5 xs ∧ RdB w' xs (ch l) ∧ Below U.heap.size U w' ∧ w'.cell? ⟨w5.heap.size, 0, none⟩ = some (.slice ah m5 ca) ∧ w'.cell? ⟨w.heap.size, 0, none⟩ = some (.slice av k cv)) := fun U hU => by
          have hR := HR.out.1.below (HQ.out.1.trans (hU.mono (by omega)))
          refine (split_any av k cv l U hR (by omega)).mono ?_
          rintro e w' ⟨v, xs, rfl, h1, h2, h3⟩
          refine ⟨v, xs, rfl, by rw [hm5.out]; exact h1, h2 _ (hR.below h3), h3, ?_, ?_⟩
          · exact (h3.cell (p := ⟨w5.heap.size, 0, none⟩) (by show w5.heap.size < U.heap.size; have := hU.size; omega)).trans ((hU.cell (p := ⟨w5.heap.size, 0, none⟩) (by show w5.heap.size < w6.heap.size; omega)).trans c6)
          · have hn : w.heap.size < w6.heap.size := World.block_lt_of_cell? w6 _ hcN
            exact (h3.cell (p := ⟨w.heap.size, 0, none⟩) (by show w.heap.size < U.heap.size; have := hU.size; omega)).trans ((hU.cell (p := ⟨w.heap.size, 0, none⟩) hn).trans hcN)
        have HFin : Hid (∀ (U w8 : World) (aB : Option Addr) (cB : Nat), Below w6.heap.size w6 U → Below U.heap.size U w8 → IsB w8 aB m5 cB (ch l) →
            (w8.alloc (.cells #[.slice ah m5 ca, .slice aB m5 cB] 62)).heap[D]? = some (.deferred (some [])) ∧ ∀ o', Opn z w (.returned (.tuple #[.pointer (some ⟨w8.heap.size, 0, none⟩), .int .i64 0])) ((w8.alloc (.cells #[.slice ah m5 ca, .slice aB m5 cB] 62)).putObj D o')) := fun U w8 aB cB hU h8 hB => by
          have b8 : Below w6.heap.size w6 w8 := hU.trans (h8.mono hU.size)
          have b9 : Below w6.heap.size w6 (w8.alloc (.cells #[.slice ah m5 ca, .slice aB m5 cB] 62)) := b8.alloc b8.size _
          have bW := HQ.out.1.trans (b9.mono (by omega))
          have hD9 : (w8.alloc (.cells #[.slice ah m5 ca, .slice aB m5 cB] 62)).heap[D]? = some (.deferred (some [])) := (bW.block _ hDl).trans HR.out.2.2.2.1
          refine ⟨hD9, fun o' => ?_⟩
          have kc : Kc (w8.alloc (.cells #[.slice ah m5 ca, .slice aB m5 cB] 62)) ((w8.alloc (.cells #[.slice ah m5 ca, .slice aB m5 cB] 62)).putObj D o') := Kc.put hD9 rfl
          have kc8 : Kc w8 (w8.alloc (.cells #[.slice ah m5 ca, .slice aB m5 cB] 62)) := Kc.of_below ((Below.refl _ _).alloc (Nat.le_refl _) _)
          have b1 := HR.out.2.2.1.trans (bW.mono hbs)
          refine ⟨b1.grown (grownBy_putObj' _ D _) (by have := b1.size; omega) (fun k e => by cases e; omega), .inl ⟨l, w8.heap.size, ?_, rfl, ⟨HQ.out.2.2.2, HR.out.2.1, ah, m5, ca, aB, m5, cB, kc.cell (by simp), kc.cell (by simp), ?_, ?_⟩⟩⟩
          · rw [HQ.out.2.2.1, of_decide_eq_true hq.out.symm]
          · exact ((HQ.out.2.1.below b8).kc kc8).kc kc
          · exact (hB.kc kc8).kc kc
        clear hw6
        have hmix : Tryd.prog.follows .mixedOrders = true := by kernel_rfl
        refine wpIn_mono (Q := NoPanic _) ?_ NoPanic.imp
        gi_region_with_o (refine ⟨trivial, (callsIn_wide.2 (HS.out _ (by first | exact (Below.refl _ _).drew | exact Below.refl _ _))).mono ?_⟩; rintro e w8 ⟨vB, xsB, rfl, hoB, hrB, hbB, d1, d2⟩; obtain ⟨aB, cB, rfl, hIB⟩ := own_isB hoB hrB)
        all_goals (
          refine NoPanic.normal ?_
          gi_wp2_with fail
          obtain ⟨hD9, hop⟩ := HFin.out _ _ aB cB (by first | exact (Below.refl _ _).drew | exact Below.refl _ _) hbB hIB
          refine ⟨by simp, .inl ⟨_, _, rfl, run_takeDeferred hD9, ?_⟩⟩
          exact ⟨.tuple #[.pointer (some ⟨w8.heap.size, 0, none⟩), .int .i64 0], by simp [results, Tryd.results13, go_sem], hop _⟩)
theorem open_any (a : Option Addr) (len cap : Nat) (z : List Int) (w : World) (hI : IsI .u8 w a len cap z) (hz : Bytes z) (hH : Ha w) (hlen : len ≤ 1000000) :
    Calls Tryd.prog 13 #[.slice a len cap] w (Opn z w) := (callsIn_wide (n := 9)).1 (open_in a len cap z w hI hz hH hlen)
end Go.Proofs.YtocjmbhfpofoeaaDoor
