/- The contracts of Len, First, Last and Has. Conditions: sizes. -/
import Derived.Test.YtocjmbhfpofoeaaDoorGx
namespace Go.Proofs.YtocjmbhfpofoeaaDoor
open Go.RowKit Go.Shelf
attribute [local go_sem] Oper.semAt_some

theorem isI_none (w : World) : IsI .u8 w none 0 0 [] := ⟨rfl, Nat.le_refl _, Nat.zero_le _, .inl rfl, fun _ => rfl⟩
theorem first_ne {L : List (List Int)} (h : chkF L = 0) {k : Nat} (hk : k < (ch L).length) : ((hs 0 (ch L)).getD k (0, [])).2 ≠ [] := by
  rw [hs_snd]
  have hc := chk_zero (ch_chk h hk)
  obtain ⟨B, hB⟩ : ∃ B, B = (ch L).getD k [] := ⟨_, rfl⟩
  rw [← hB] at hc ⊢
  cases B with
  | nil => exact absurd rfl hc.2.1
  | cons y B =>
    have := (good_iff [] (y :: B)).1 hc.2.2 0 (by simp)
    exact li_ne_nil this.2
/-- Nothing stands ahead of all. -/
theorem plc_nil {L : List (List Int)} (h : chkF L = 0) {r : Nat} (hr : Plc (hs 0 (ch L)) [] r) : r = 0 := by
  rcases hr.2.1 with h0 | h0
  · exact h0
  · by_cases hz : r = 0
    · exact hz
    · have hl := hr.1
      rw [hs_len] at hl
      have hne := first_ne h (k := r - 1) (by omega)
      cases hy : ((hs 0 (ch L)).getD (r - 1) (0, [])).2 with
      | nil => exact absurd hy hne
      | cons a b => rw [hy] at h0; simp [li] at h0

set_option maxRecDepth 100000 in
set_option maxHeartbeats 4000000 in
theorem len_in (p : Nat) (L : List (List Int)) (w : World) (hP : PtI w p L) :
    CallsIn Fence.wide 9 Tryd.prog 18 #[.pointer (some ⟨p, 0, none⟩)] w fun e w' => e = .returned (.int .i64 (L.length : Int)) ∧ Below w.heap.size w w' := by
  have H : Hid (PtI w p L) := hP
  have hz3 : Hid _ := chkF_zero hP.ok
  clear hP
  refine callsIn_of_wp_marks Tryd.func18 rfl trivial ?_ rfl
  simp only [Tryd.ntmps18, List.size_toArray, List.length_cons, List.length_nil, Nat.reduceAdd, Nat.reduceSub, Array.replicate_succ, Array.replicate_zero, List.push_toArray, List.append_toArray, List.nil_append, List.cons_append]
  gi_wp2_with (refine ⟨trivial, ?_⟩; gi_at_call 38; refine (callsIn_wide.2 (from_it _ _ _ _ _)).mono ?_; rintro e w3 ⟨rfl, rfl⟩)
  simp only [Nat.add_assoc, Nat.reduceAdd]
  have nw : ∀ (W : World) (o : Obj) (k : Nat), k = W.heap.size → (W.alloc o).heap[k]? = some o := fun W o k h => by subst h; exact World.alloc_heap_new W o
  have q0 : Boxed (((w.alloc (.cells #[.int .i64 0] 3)).alloc (.cells #[.pointer (some ⟨p, 0, none⟩)] 29)).alloc (.cells #[.slice none 0 0] 23)) w.heap.size 3 (.int .i64 0) := ((Boxed.new w 3 _).alloc _).alloc _
  have q1 : Boxed (((w.alloc (.cells #[.int .i64 0] 3)).alloc (.cells #[.pointer (some ⟨p, 0, none⟩)] 29)).alloc (.cells #[.slice none 0 0] 23)) (w.heap.size + 1) 29 (.pointer (some ⟨p, 0, none⟩)) := by
    have := (Boxed.new (w.alloc (.cells #[.int .i64 0] 3)) 29 (.pointer (some ⟨p, 0, none⟩))).alloc (.cells #[.slice none 0 0] 23)
    rwa [World.size_alloc] at this
  have q2 : Boxed (((w.alloc (.cells #[.int .i64 0] 3)).alloc (.cells #[.pointer (some ⟨p, 0, none⟩)] 29)).alloc (.cells #[.slice none 0 0] 23)) (w.heap.size + 1 + 1) 23 (.slice none 0 0) := by
    have := Boxed.new ((w.alloc (.cells #[.int .i64 0] 3)).alloc (.cells #[.pointer (some ⟨p, 0, none⟩)] 29)) 23 (.slice none 0 0)
    rwa [World.size_alloc, World.size_alloc] at this
  have hal : Below w.heap.size w (((w.alloc (.cells #[.int .i64 0] 3)).alloc (.cells #[.pointer (some ⟨p, 0, none⟩)] 29)).alloc (.cells #[.slice none 0 0] 23)) := (((Below.refl _ _).alloc (Nat.le_refl _) _).alloc (by simp) _).alloc (by simp; omega) _
  have hsz : (((w.alloc (.cells #[.int .i64 0] 3)).alloc (.cells #[.pointer (some ⟨p, 0, none⟩)] 29)).alloc (.cells #[.slice none 0 0] 23)).heap.size = w.heap.size + 3 := by simp
  obtain ⟨W0, hW0⟩ : ∃ W0, W0 = (((w.alloc (.cells #[.int .i64 0] 3)).alloc (.cells #[.pointer (some ⟨p, 0, none⟩)] 29)).alloc (.cells #[.slice none 0 0] 23)) := ⟨_, rfl⟩
  rw [← hW0] at q0 q1 q2 hal hsz ⊢
  clear hW0 nw
  refine wpIn_rangeB (n := 9) (by decide) (gf := 56) (lb := #[.pointer (some ⟨w.heap.size + 1, 0, none⟩), .pointer (some ⟨w.heap.size + 2, 0, none⟩)]) rfl (enters_of Tryd.func56 (by kernel_rfl) rfl)
    (from_in 8 (w.heap.size + 1) p none 0 0 [] L w W0 (by omega) (by omega) hal H.out (isI_none w) (by intro z hz; cases hz) q1 q2)
    (fun h k => ⟨h.1.trans k.1, k.2.1.trans h.2.1, k.2.2.trans h.2.2⟩) (fun W l o' h h2 => ⟨below_put (by omega) (by omega), World.putObj_heap_other (by omega), World.putObj_heap_other (by omega)⟩) (Below.refl _ _) (by omega) (fun _ => rfl)
    (fun pre W => Boxed W w.heap.size 3 (.int .i64 ((pre.map (·.L)).flatten.length : Int)) ∧ Below w.heap.size w W ∧ w.heap.size + 3 ≤ W.heap.size)
    (fun _ _ _ => False)
    ?hI ?hIx ?hE ⟨q0, hal, by omega⟩
    (fun y => { tmps := #[.pointer (some ⟨p, 0, none⟩), undef, .int .i64 0, .pointer (some ⟨w.heap.size, 0, none⟩), .slice y.a y.n y.c, .pointer (some ⟨p, 0, none⟩), .func (.func 56) #[] #[.pointer (some ⟨w.heap.size + 1, 0, none⟩), .pointer (some ⟨w.heap.size + 2, 0, none⟩)], .slice y.a y.n y.c, undef, undef, undef, undef, undef], defers := [] })
    ?assign ?body ?done ?stop
  case hI =>
    intro s U U' row h hg hr
    refine ⟨h.1.kept hg (fun e => ?_), h.2.1.grown hg (by have := h.2.2; omega) (fun r e => ?_), Nat.le_trans h.2.2 hg.size⟩
    · rcases hr _ e.symm with ⟨h', _⟩ | ⟨h', _⟩ <;> omega
    · rcases hr _ e with ⟨h', _⟩ | ⟨h', _⟩ <;> omega
  case hIx => exact fun _ _ _ _ _ h _ _ => h
  case hE => exact fun _ _ _ _ h _ _ => h
  case assign =>
    intro l y W K hK
    dsimp only [encB]
    gi_wp2
    exact hK
  case body =>
    intro l pre y W hI hSp hE
    obtain ⟨q, hbw, hs⟩ := hI
    obtain ⟨hyR, hyW, hyC⟩ := hE
    obtain ⟨ya, yn, yc, yL⟩ := y
    simp only at hyR hyW hyC
    have hyl := hyR.hl
    have hAl : (pre.map (·.L)).flatten.length + yn ≤ 2000 := by
      obtain ⟨r, t, _, ht⟩ := hSp
      have h1 := congrArg (fun q : List (List (List Int)) => q.flatten.length) ht
      rw [List.map_append, List.flatten_append, List.flatten_append, List.length_append, List.length_append] at h1
      have h2 : ((ch L).drop (r - 1)).flatten.length ≤ L.length := by
        have := ch_flat L
        conv at this => lhs; rw [← List.take_append_drop (r - 1) (ch L)]
        have h3 := congrArg List.length this
        rw [List.flatten_append, List.length_append] at h3
        omega
      have h4 := hz3.out.1
      have h6 : (([(⟨ya, yn, yc, yL⟩ : Bk)]).map (·.L)).flatten.length = yL.length := by simp
      rw [h6] at h1
      omega
    have e1 : ((pre ++ [(⟨ya, yn, yc, yL⟩ : Bk)]).map (·.L)).flatten.length = (pre.map (·.L)).flatten.length + yn := by simp [hyl]
    obtain ⟨s, hs'⟩ : ∃ s, s = (pre.map (·.L)).flatten.length := ⟨_, rfl⟩
    rw [← hs'] at q hAl e1
    have c0 := q.cell
    have z0 := q.frozen
    have hw : IntKind.i64.wrap ((s : Int) + (yn : Int)) = (s : Int) + (yn : Int) := by rw [IntKind.wrap_i64]; omega
    have hF : Hid (KeepsFrom W0.heap.size W (W.setCell ⟨w.heap.size, 0, none⟩ (.int .i64 ((s : Int) + (yn : Int)))) ∧ Kf w.heap.size (w.heap.size + 1) W (W.setCell ⟨w.heap.size, 0, none⟩ (.int .i64 ((s : Int) + (yn : Int)))) ∧ Boxed (W.setCell ⟨w.heap.size, 0, none⟩ (.int .i64 ((s : Int) + (yn : Int)))) w.heap.size 3 (.int .i64 (((pre ++ [(⟨ya, yn, yc, yL⟩ : Bk)]).map (·.L)).flatten.length : Int)) ∧ Below w.heap.size w (W.setCell ⟨w.heap.size, 0, none⟩ (.int .i64 ((s : Int) + (yn : Int)))) ∧ w.heap.size + 3 ≤ (W.setCell ⟨w.heap.size, 0, none⟩ (.int .i64 ((s : Int) + (yn : Int)))).heap.size) := by
      have hg := grownBy_setCell' W w.heap.size (.int .i64 ((s : Int) + (yn : Int)))
      refine ⟨KeepsFrom.of_grownBy hg (fun j e => by cases e; omega), ⟨(Below.refl _ _).setCell (p := ⟨w.heap.size, 0, none⟩) (Nat.le_refl _) _, Below.heap_setCell _ _ _ _ (by show w.heap.size + 1 ≠ w.heap.size; omega), Below.heap_setCell _ _ _ _ (by show w.heap.size + 1 + 1 ≠ w.heap.size; omega)⟩, ?_, hbw.setCell (p := ⟨w.heap.size, 0, none⟩) (Nat.le_refl _) _, Nat.le_trans hs hg.size⟩
      rw [e1]
      exact q.set _
    clear q hbw hs hyR hyW hyC hSp e1 hs' hyl
    gi_wp2_with fail
    exact ⟨hF.out.1, hF.out.2.1, hF.out.2.2⟩
  case done =>
    intro D ys W hD hS hI hK
    obtain ⟨r, hpl, hys⟩ := hS
    obtain ⟨q, hbw, hs⟩ := hI
    obtain rfl := plc_nil H.out.ok hpl
    rw [hys, Nat.zero_sub, List.drop_zero, ch_flat] at q
    have c0 := q.cell
    obtain ⟨m, hm⟩ : ∃ m, m = L.length := ⟨_, rfl⟩
    rw [← hm] at q c0
    have HF : Hid (W.heap[D]? = some (.deferred (some [])) ∧ Below w.heap.size w W ∧ w.heap.size + 3 ≤ W.heap.size) := ⟨hK, hbw, hs⟩
    clear hys hpl q hbw hs hK
    gi_wp2_with fail
    refine ⟨by simp, .inl ⟨_, _, rfl, run_takeDeferred HF.out.1, ?_⟩⟩
    refine ⟨.int .i64 m, by simp [results, Tryd.results18, go_sem, hm], by rw [hm], ?_⟩
    exact HF.out.2.1.grown (grownBy_putObj' _ D _) (by have := HF.out.2.2; omega) (fun k e => by cases e; omega)
  case stop =>
    intro D c pre W hD hSp hI hK
    exact hI.elim
theorem len_any (p : Nat) (L : List (List Int)) (w : World) (hP : PtI w p L) :
    Calls Tryd.prog 18 #[.pointer (some ⟨p, 0, none⟩)] w fun e w' => e = .returned (.int .i64 (L.length : Int)) ∧ Below w.heap.size w w' :=
  (callsIn_wide (n := 9)).1 (len_in p L w hP)

/-- New bytes. -/
def NewI (Y : List Int) (w : World) (e : Ending) (w' : World) : Prop := Below w.heap.size w w' ∧ ∃ a n c, e = .returned (.slice a n c) ∧ IsI .u8 w' a n c Y
theorem clone_new (a : Option Addr) (len cap : Nat) (zs : List Int) (w : World) (hI : IsI .u8 w a len cap zs) (hlen : len ≤ 100000000) : Calls Tryd.prog 40 #[.slice a len cap] w (NewI zs w) :=
  (clone_any a len cap zs w hI hlen).mono fun e w' ⟨v, h1, h2, h3⟩ => by
    obtain ⟨a', c', rfl, hI'⟩ := own_isI h2
    exact ⟨h3, a', _, c', h1, hI'⟩
theorem ch_pos0 {L : List (List Int)} (h : chkF L = 0) : 0 < (ch L).length := by
  have := List.length_pos_iff.2 (chkF_zero h).2.1
  rw [ch_len]; omega

set_option maxRecDepth 20000 in
set_option maxHeartbeats 1600000 in
theorem first_part (p : Nat) (L : List (List Int)) (w : World) (hP : PtI w p L) :
    Calls Tryd.prog 20 #[.pointer (some ⟨p, 0, none⟩)] w (NewI (L.getD 0 []) w) := by
  have HK : Hid _ := blocks_any p L w hP
  obtain ⟨ah, mh, ch', ab, mb, cb, p0, p1, hIH, hIB⟩ := hP.mem
  have hl := hIH.hl
  rw [hs_len] at hl
  have hpos := ch_pos0 hP.ok
  have hwf := ch_chk hP.ok hpos
  obtain ⟨g, off, rfl, hg, af, nf, cf, c1, hF⟩ := hIH.at (k := 0) (by omega)
  have e1 : ((hs 0 (ch L)).getD 0 (0, [])).2 = L.getD 0 [] := by
    rw [hs_snd, ch_get hpos]
    have hne := (chkF_zero hP.ok).2.1
    cases L with
    | nil => exact absurd rfl hne
    | cons y L => simp
  rw [e1] at hF
  have hn4 : nf ≤ 400 := by
    have hp := List.length_pos_iff.2 (chkF_zero hP.ok).2.1
    have := ((good_iff [] L).1 (chkF_zero hP.ok).2.2 0 hp).1
    rw [← hF.hl]; exact this
  obtain ⟨m, hm⟩ : ∃ m, m = (ch L).length := ⟨_, rfl⟩
  rw [← hm] at hl hpos HK
  have hm0 : ¬ ((m : Int) = 0) := by omega
  subst hl
  have HC : Hid _ := clone_new af nf cf (L.getD 0 []) w hF (by omega)
  have hmp : (0 : Int) < (m : Int) := by omega
  rw [Nat.zero_mul, Nat.add_zero] at c1
  clear hIH hIB hP hF e1 hwf
  go_enter Tryd.func20, Tryd.ntmps20
  go_wp2_with fail
  refine Calls.mono HK.out ?_
  rintro e w' ⟨rfl, hw'⟩; rw [hw']; clear hw' w'
  go_wp2_with fail
  refine Calls.mono HC.out ?_
  rintro e w' ⟨hb, a, n, c, rfl, hI⟩
  have HF : Hid (Below w.heap.size w w' ∧ IsI .u8 w' a n c (L.getD 0 [])) := ⟨hb, hI⟩
  clear hb hI
  go_wp2_with fail
  go_ret
  exact ⟨HF.out.1, a, n, c, rfl, HF.out.2⟩

theorem getD_takeR (L : List (List Int)) {i n : Nat} (h : i < n) : (L.take n).getD i [] = L.getD i [] := by simp [List.getD, h]
theorem getD_dropR (L : List (List Int)) (i n : Nat) : (L.drop n).getD i [] = L.getD (n + i) [] := by simp [List.getD]

set_option maxRecDepth 20000 in
set_option maxHeartbeats 1600000 in
theorem last_part (p : Nat) (L : List (List Int)) (w : World) (hP : PtI w p L) :
    Calls Tryd.prog 21 #[.pointer (some ⟨p, 0, none⟩)] w (NewI (L.getD (L.length - 1) []) w) := by
  have HK : Hid _ := blocks_any p L w hP
  have hok := chkF_zero hP.ok
  have hpL := List.length_pos_iff.2 hok.2.1
  obtain ⟨ah, mh, ch', ab, mb, cb, p0, p1, hIH, hIB⟩ := hP.mem
  have hl := hIH.hl
  rw [hs_len] at hl
  have hlb := hIB.hl
  have hpos := ch_pos0 hP.ok
  obtain ⟨m, hm⟩ : ∃ m, m = (ch L).length := ⟨_, rfl⟩
  have hml : m = (L.length + 7) / 8 := by rw [hm, ch_len]
  obtain ⟨g, off, rfl, hg, hc⟩ : ∃ g off, ab = some ⟨g, off, none⟩ ∧ g < w.heap.size ∧ ∀ i, i < (ch L).length → ∃ ai ni ci, w.cell? ⟨g, off + i, none⟩ = some (.slice ai ni ci) ∧ IsR w ai ni ci ((ch L).getD i []) := by
    rcases hIB.rd with e | ⟨b, o, e1, e2, e3⟩
    · rw [e] at hpos; simp at hpos
    · exact ⟨b, o, e1, e2, e3⟩
  obtain ⟨ai, ni, ci, c1, hR⟩ := hc (m - 1) (by omega)
  rw [ch_get (by omega)] at hR
  have hRl := hR.hl
  rw [List.length_take, List.length_drop] at hRl
  have hni : 8 * (m - 1) + ni = L.length := by omega
  have hnp : 0 < ni := by omega
  have hn8 : ni ≤ 8 := by omega
  obtain ⟨g2, off2, rfl, hg2, hc2⟩ : ∃ g off, ai = some ⟨g, off, none⟩ ∧ g < w.heap.size ∧ ∀ i, i < ni → ∃ a n c, w.cell? ⟨g, off + i, none⟩ = some (.slice a n c) ∧ IsI .u8 w a n c (((L.drop (8 * (m - 1))).take 8).getD i []) := by
    have hq : ((L.drop (8 * (m - 1))).take 8).length = ni := by rw [List.length_take, List.length_drop]; exact hRl
    rcases hR.rd with e | ⟨b, o, e1, e2, e3⟩
    · rw [e] at hq; simp at hq; omega
    · exact ⟨b, o, e1, e2, fun i hi => e3 i (by omega)⟩
  obtain ⟨af, nf, cf, c2, hF⟩ := hc2 (ni - 1) (by omega)
  rw [getD_takeR _ (by omega), getD_dropR, show 8 * (m - 1) + (ni - 1) = L.length - 1 by omega] at hF
  have hn4 : nf ≤ 400 := by
    have := ((good_iff [] L).1 hok.2.2 (L.length - 1) (by omega)).1
    rw [← hF.hl]; exact this
  rw [← hm] at hl hlb hpos HK
  have hm0 : ¬ ((m : Int) = 0) := by omega
  subst hl
  subst hlb
  have HC : Hid _ := clone_new af nf cf (L.getD (L.length - 1) []) w hF (by omega)
  have HC2 : Hid (∀ U, Below w.heap.size w U → IsI .u8 U af nf cf (L.getD (L.length - 1) [])) := fun U hU => hF.below hU
  have HS : Hid (∀ W, Below w.heap.size w W → Calls Tryd.prog 39 #[.pointer (some ⟨p, 0, none⟩)] W fun e w' => e = .returned (.int .i64 (m : Int)) ∧ w' = W) := fun W hW => size_count p ah m ch' W ((hW.cell (p := ⟨p, 0, none⟩) (World.block_lt_of_cell? w _ p0)).trans p0)
  obtain ⟨k, hk⟩ : ∃ k, k = m - 1 := ⟨_, rfl⟩
  rw [← hk] at c1
  have ek : (m : Int) - 1 = (k : Int) := by omega
  have wk : IntKind.i64.wrap (k : Int) = (k : Int) := by rw [IntKind.wrap_i64]; have := hok.1; omega
  have hk0 : (0 : Int) ≤ (k : Int) := Int.natCast_nonneg _
  have hk1 : (k : Int) < (m : Int) := by omega
  obtain ⟨j, hj⟩ : ∃ j, j = ni - 1 := ⟨_, rfl⟩
  rw [← hj] at c2
  have ej : (ni : Int) - 1 = (j : Int) := by omega
  have wj : IntKind.i64.wrap (j : Int) = (j : Int) := by rw [IntKind.wrap_i64]; omega
  have hj0 : (0 : Int) ≤ (j : Int) := Int.natCast_nonneg _
  have hj1 : (j : Int) < (ni : Int) := by omega
  have HF : Hid (w.cell? ⟨g2, off2 + j, none⟩ = some (.slice af nf cf) ∧ g2 < w.heap.size) := ⟨c2, hg2⟩
  clear hIH hIB hP hF hc hc2 hR hRl hm hml hk hj hni
  go_enter Tryd.func21, Tryd.ntmps21
  go_wp2_with fail
  refine Calls.mono HK.out ?_
  rintro e w' ⟨rfl, hw'⟩; rw [hw']; clear hw' w'
  go_wp2_with fail
  go_region_held3 (fun u => u.cell? ⟨p, 1, none⟩ = some (.slice (some ⟨g, off, none⟩) m cb) ∧ u.cell? ⟨g, off + k, none⟩ = some (.slice (some ⟨g2, off2, none⟩) ni ci))
    (first
      | exact ⟨p1, c1⟩)
    (first
      | (go_at_call 39; refine (HS.out _ (by first | exact (Below.refl _ _).drew | exact Below.refl _ _)).mono ?_; rintro e w' ⟨rfl, rfl⟩))
  have c3 : w.drew.cell? ⟨g2, off2 + j, none⟩ = some (.slice af nf cf) := HF.out.1
  have HD : Hid (Below w.heap.size w w.drew) := (Below.refl _ _).drew
  have HC3 : Hid _ := clone_new af nf cf (L.getD (L.length - 1) []) w.drew (HC2.out _ HD.out) (by omega)
  go_wp2_with fail
  refine Calls.mono HC3.out ?_
  rintro e w' ⟨hb, a, n, c, rfl, hI⟩
  have HG : Hid (Below w.heap.size w w' ∧ IsI .u8 w' a n c (L.getD (L.length - 1) [])) := ⟨HD.out.trans (hb.mono HD.out.size), hI⟩
  clear hb hI
  go_wp2_with fail
  go_ret
  exact ⟨HG.out.1, a, n, c, rfl, HG.out.2⟩

/-- Is it one of them? From's first is the item. -/
def hsd (R : List (List Int)) (x : List Int) : Bool := decide (0 < R.length ∧ R.getD 0 [] = x)
set_option maxRecDepth 20000 in
set_option maxHeartbeats 1600000 in
theorem has_any (p : Nat) (ax : Option Addr) (nx cx : Nat) (x : List Int) (L : List (List Int)) (w : World) (hP : PtI w p L) (hX : IsI .u8 w ax nx cx x) (hbx : Bytes x) :
    Calls Tryd.prog 22 #[.pointer (some ⟨p, 0, none⟩), .slice ax nx cx] w fun e w' => e = .returned (.bool (hsd ((L.filter (nl x)).take 1) x)) ∧ Below w.heap.size w w' := by
  have HW : Hid _ := from_any p ax nx cx x L 1 w hP hX hbx
  have HX : Hid (IsI .u8 w ax nx cx x ∧ Bytes x) := ⟨hX, hbx⟩
  rw [show (1 : Int).toNat = 1 from rfl] at HW
  obtain ⟨R, hR'⟩ : ∃ R, Hid (R = (L.filter (nl x)).take 1) := ⟨_, rfl⟩
  rw [← hR'.out] at HW ⊢
  obtain ⟨bq, hbq⟩ : ∃ b, Hid (b = hsd R x) := ⟨_, rfl⟩
  rw [← hbq.out]
  clear hP hX hbx
  go_enter Tryd.func22, Tryd.ntmps22
  go_wp2_with fail
  refine Calls.mono HW.out ?_
  rintro e w' ⟨hb, a, n, c, rfl, hR, hwf⟩
  have hn := hR.hl
  by_cases h0 : 0 < n
  · have h0' : (0 : Int) < (n : Int) := by omega
    obtain ⟨g, off, rfl, hg, af, nf, cf, c1, hF⟩ : ∃ g off, a = some ⟨g, off, none⟩ ∧ g < w'.heap.size ∧ ∃ af nf cf, w'.cell? ⟨g, off, none⟩ = some (.slice af nf cf) ∧ IsI .u8 w' af nf cf (R.getD 0 []) := by
      rcases hR.rd with e | ⟨b, o, e1, e2, e3⟩
      · rw [e] at hn; simp at hn; omega
      · obtain ⟨af, nf, cf, d1, d2⟩ := e3 0 (by omega)
        exact ⟨b, o, e1, e2, af, nf, cf, d1, d2⟩
    have hbF : Bytes (R.getD 0 []) := by
      have hlt : 0 < R.length := by omega
      refine (hwf _ ?_)
      simp only [List.getD, List.getElem?_eq_getElem hlt, Option.getD_some]; exact List.getElem_mem hlt
    have HE : Hid _ := equal_any af ax nf cf nx cx (R.getD 0 []) x w' hbF HX.out.2 hF (HX.out.1.below hb)
    have hq : hsd R x = decide (R.getD 0 [] = x) := by
      unfold hsd
      have : 0 < R.length := by omega
      simp [this]
    have HQ : Hid (hsd R x = decide (R.getD 0 [] = x)) := hq
    obtain ⟨q, hq'⟩ : ∃ q, Hid (q = decide (R.getD 0 [] = x)) := ⟨_, rfl⟩
    rw [← hq'.out] at HE
    have HB : Hid (Below w.heap.size w w') := hb
    clear hb hR hwf hF hq hn
    go_wp2_with fail
    refine Calls.mono HE.out ?_
    rintro e w2 ⟨rfl, hw'⟩; rw [hw']; clear hw' w2
    go_wp2_with fail
    go_ret
    exact ⟨by rw [hbq.out, HQ.out, ← hq'.out]; rfl, HB.out⟩
  · have h0' : ¬ (0 : Int) < (n : Int) := by omega
    have hq : hsd R x = false := by
      unfold hsd
      have : ¬ 0 < R.length := by omega
      simp only [this, false_and, decide_false]
    have HQ : Hid (hsd R x = false) := hq
    have HB : Hid (Below w.heap.size w w') := hb
    clear hb hR hwf hq hn
    go_wp2_with fail
    go_ret
    exact ⟨by rw [hbq.out, HQ.out]; rfl, HB.out⟩
end Go.Proofs.YtocjmbhfpofoeaaDoor
