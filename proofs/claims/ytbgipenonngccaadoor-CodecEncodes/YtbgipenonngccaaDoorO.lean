/- The contract of TakeAll. Conditions: what the bytes are; at most 5000 numbers. -/
import Derived.Test.YtbgipenonngccaaDoorN
namespace Go.Proofs.YtbgipenonngccaaDoor
open Go.RowKit Go.Shelf
attribute [local go_sem] Oper.semAt_some

def vals (pre : List Told) : List Int := pre.map fun t => zg (t.u : Int)
def lastEn (pre : List Told) : Int := (pre.getLast?.map (·.en)).getD 0
theorem vals_snoc (pre : List Told) (t : Told) : vals (pre ++ [t]) = vals pre ++ [zg (t.u : Int)] := by simp [vals]
theorem lastEn_snoc (pre : List Told) (t : Told) : lastEn (pre ++ [t]) = t.en := by simp [lastEn]
theorem vals_length (pre : List Told) : (vals pre).length = pre.length := by simp [vals]

set_option linter.unusedSimpArgs false in
set_option maxRecDepth 100000 in
set_option maxHeartbeats 4000000 in
theorem takeall_in (g off cap len : Nat) (ls rest : List Int) (h64 : All64 ls) (hls : ls.length ≤ 5000) (N : Nat) (T : List Told)
    (hN : (N = ls.length ∧ T = tolds ls h64 ls.length) ∨ (N = ls.length + 1 ∧ Sh rest ∧ T = tolds ls h64 ls.length ++ [short]))
    (w : World) (hg : g < w.heap.size) (hlen : len = (zbs ls ++ rest).length) (hcap : len ≤ cap) (hlb : (zbs ls ++ rest).length ≤ 140737480000000)
    (hc : ∀ i, i < (zbs ls ++ rest).length → w.cell? ⟨g, off + i, none⟩ = some (.int .u8 ((zbs ls ++ rest).getD i 0))) :
    CallsIn Fence.wide 9 Tryd.prog 30 #[.slice (some ⟨g, off, none⟩) len cap, .int .i64 (N : Int)] w fun e W' => (N = ls.length ∧ ∃ v h, e = .returned (.tuple #[v, .slice (some ⟨h, 0, none⟩) rest.length rest.length, .int .i64 0]) ∧ W'.ownsRow w.heap.size 2 1 v ls.length (ls.map (Value.int .i64)) ∧
      W'.ownsRow w.heap.size 5 1 (.slice (some ⟨h, 0, none⟩) rest.length rest.length) rest.length (rest.map (Value.int .u8)) ∧ Below w.heap.size w W') ∨
      (N = ls.length + 1 ∧ e = .returned (.tuple #[.slice none 0 0, .slice none 0 0, .int .i64 10]) ∧ Below w.heap.size w W') := by
  obtain ⟨i0, hi, hz0, hz1, hz2⟩ := info_parts Tryd.info2
  have hNN : N ≤ 5001 := by rcases hN with h | h <;> omega
  have HN : Hid ((N = ls.length ∧ T = tolds ls h64 ls.length) ∨ (N = ls.length + 1 ∧ Sh rest ∧ T = tolds ls h64 ls.length ++ [short])) := hN
  have HC : Hid ((∀ i, i < (zbs ls ++ rest).length → w.cell? ⟨g, off + i, none⟩ = some (.int .u8 ((zbs ls ++ rest).getD i 0))) ∧ len = (zbs ls ++ rest).length) := ⟨hc, hlen⟩
  have hlb' : len ≤ 140737480000000 := by rw [hlen]; exact hlb
  clear hN hc hlen hlb
  have hTl : T.length ≤ 5001 := by
    rcases HN.out with ⟨_, e⟩ | ⟨_, _, e⟩ <;> rw [e] <;> simp [tolds] <;> omega
  have hNneg : ¬ (N : Int) < 0 := by omega
  obtain ⟨M, hmin, hM⟩ : ∃ M : Nat, (∀ ts t w', Sem.run Tryd.prog (Builtin.min_ ts t #[.int .i64 (N : Int), .int .i64 (len : Int)]) w' = .ok (.int .i64 (M : Int)) w') ∧ M ≤ 5001 := by
    by_cases h : (len : Int) < (N : Int)
    · exact ⟨len, fun ts t w' => by rw [run_min_int2, if_pos h], by omega⟩
    · exact ⟨N, fun ts t w' => by rw [run_min_int2, if_neg h], hNN⟩
  have hNbig : ¬ (1048576 : Int) < (N : Int) := by omega
  refine callsIn_of_wp_marks Tryd.func30 rfl trivial ?_ rfl
  simp only [Tryd.ntmps30, List.size_toArray, List.length_cons, List.length_nil, Nat.reduceAdd, Nat.reduceSub, Array.replicate_succ, Array.replicate_zero, List.push_toArray, List.append_toArray, List.nil_append, List.cons_append]
  gi_wp2_with (first
    | (gi_at_make; refine wpListIn_make_own _ rfl (.const (.int .i64 0)) (.tmp 19) 22 rfl w.heap.size 2 i0 (.int .i64 0) 1 Tryd.underlying22 hi hz0 hz1 .i64 .i64 _ M rfl rfl rfl (by rw [hz2]; omega) (by unfold maxLen; omega) (by simp; omega) ?_; intro w2 ho2 hg2)
    | (refine ⟨trivial, ?_⟩; gi_at_call 41; refine (callsIn_wide.2 (numbers_any _ _ _ _ _)).mono ?_; rintro e w3 ⟨rfl, rfl⟩))
  simp only [World.size_alloc] at ho2
  have ho3 := ((((ho2.alloc (Obj.cells #[Value.slice (some { block := w.heap.size + 1 + 1 + 1, off := 0 }) 0 M] 22)).alloc (Obj.cells #[Value.int IntKind.i64 0] 3)).alloc (Obj.cells #[Value.slice (some { block := g, off := off }) len cap] 24)).alloc (Obj.cells #[Value.int IntKind.i64 (N : Int)] 3))
  have hm0 : ∃ W0, W0 = ((((w2.alloc (Obj.cells #[Value.slice (some { block := w.heap.size + 1 + 1 + 1, off := 0 }) 0 M] 22)).alloc (Obj.cells #[Value.int IntKind.i64 0] 3)).alloc (Obj.cells #[Value.slice (some { block := g, off := off }) len cap] 24)).alloc (Obj.cells #[Value.int IntKind.i64 (N : Int)] 3)) := ⟨_, rfl⟩
  obtain ⟨W0, hW0⟩ := hm0
  have hsz : W0.heap.size = w2.heap.size + 4 := by rw [hW0]; simp
  have hs2 : w.heap.size + 3 < w2.heap.size := by
    have := (ho2.lt (w.heap.size + 1 + 1 + 1) rfl).2
    omega
  have hmem : Mem w.heap.size w2.heap.size (w2.heap.size + 1) (w2.heap.size + 1 + 1) (w2.heap.size + 1 + 1 + 1) (.slice (some ⟨g, off, none⟩) len cap) N w W0 (.slice (some ⟨w.heap.size + 1 + 1 + 1, 0, none⟩) 0 M) 0 := by
    have r4 : Boxed w2 w.heap.size 22 (.slice none 0 0) := (((Boxed.new w 22 _).alloc _).alloc _).kept hg2 (by simp)
    have r5 : Boxed w2 (w.heap.size + 1) 24 (.slice none 0 0) := by
      have := (Boxed.new (w.alloc (.cells #[.slice none 0 0] 22)) 24 (.slice none 0 0)).alloc (.cells #[.int .i64 0] 30)
      rw [World.size_alloc] at this
      exact this.kept hg2 (by simp)
    have r6 : Boxed w2 (w.heap.size + 1 + 1) 30 (.int .i64 0) := by
      have := Boxed.new ((w.alloc (.cells #[.slice none 0 0] 22)).alloc (.cells #[.slice none 0 0] 24)) 30 (.int .i64 0)
      rw [World.size_alloc, World.size_alloc] at this
      exact this.kept hg2 (by simp)
    have hb2 : Below w.heap.size w w2 := ((((Below.refl _ w).alloc (Nat.le_refl _) _).alloc (by simp) _).alloc (by simp; omega) _).grown hg2 (by simp; omega) (fun k e => by cases e)
    rw [hW0]
    refine ⟨(((Boxed.new w2 22 _).alloc _).alloc _).alloc _, ?_, ?_, ?_, (((r4.alloc _).alloc _).alloc _).alloc _, (((r5.alloc _).alloc _).alloc _).alloc _, (((r6.alloc _).alloc _).alloc _).alloc _, (((hb2.alloc (by omega) _).alloc (by simp; omega) _).alloc (by simp; omega) _).alloc (by simp; omega) _⟩
    · have := ((Boxed.new (w2.alloc (.cells #[.slice (some ⟨w.heap.size + 1 + 1 + 1, 0, none⟩) 0 M] 22)) 3 (.int .i64 0)).alloc (.cells #[.slice (some ⟨g, off, none⟩) len cap] 24)).alloc (.cells #[.int .i64 (N : Int)] 3)
      rwa [World.size_alloc] at this
    · have := (Boxed.new ((w2.alloc (.cells #[.slice (some ⟨w.heap.size + 1 + 1 + 1, 0, none⟩) 0 M] 22)).alloc (.cells #[.int .i64 0] 3)) 24 (.slice (some ⟨g, off, none⟩) len cap)).alloc (.cells #[.int .i64 (N : Int)] 3)
      rwa [World.size_alloc, World.size_alloc] at this
    · have := Boxed.new (((w2.alloc (.cells #[.slice (some ⟨w.heap.size + 1 + 1 + 1, 0, none⟩) 0 M] 22)).alloc (.cells #[.int .i64 0] 3)).alloc (.cells #[.slice (some ⟨g, off, none⟩) len cap] 24)) 3 (.int .i64 (N : Int))
      rwa [World.size_alloc, World.size_alloc, World.size_alloc] at this
  rw [← hW0] at ho3 ⊢
  clear hW0 ho2 hg2 hmin
  generalize hs : w2.heap.size = s2 at *
  generalize hb : w.heap.size = b0 at *
  refine wpIn_rangeFunc_ownH rfl (by decide) (gf := 45) (lb := #[.pointer (some ⟨s2 + 1 + 1 + 1, 0, none⟩), .pointer (some ⟨s2 + 1 + 1, 0, none⟩)]) rfl trivial (enters_of Tryd.func45 (by kernel_rfl) rfl)
    (nums_stops 8 (s2 + 1 + 1 + 1) (s2 + 1 + 1) b0 g off cap ls rest h64 hls N T HN.out W0 hg (by omega) (by omega) (by omega) (by rw [← HC.out.2]; exact hcap) (by rw [← HC.out.2]; exact hlb') (by rw [← HC.out.2]; exact hmem.bb.cell) hmem.bn.cell (fun i hi => (hmem.bel.cell (p := ⟨g, off + i, none⟩) hg).trans (HC.out.1 i hi)))
    Kq.trans (fun W l o o' hl _ _ _ => Kq.put (by omega) (by omega) (by omega)) (Below.refl _ _) (fun _ => rfl)
    (fun pre W => ∃ v, Mem b0 s2 (s2 + 1) (s2 + 1 + 1) (s2 + 1 + 1 + 1) (.slice (some ⟨g, off, none⟩) len cap) N w W v (lastEn pre) ∧ W.ownsRow b0 2 1 v pre.length ((vals pre).map (Value.int .i64)) ∧ ∀ t ∈ pre, t.er = 0)
    (fun c pre W => c = .ret ∧ ∃ p t, pre = p ++ [t] ∧ (∀ x ∈ p, x.er = 0) ∧ t.er ≠ 0 ∧ Boxed W b0 22 (.slice none 0 0) ∧ Boxed W (b0 + 1) 24 (.slice none 0 0) ∧ Boxed W (b0 + 1 + 1) 30 (.int .i64 t.er) ∧ Below b0 w W)
    ?hI ?hIx ?h0
    (fun x a' W => ∃ Bx, s2 + 1 + 1 + 1 < Bx ∧ Box3 W Bx x ∧ a' = { tmps := #[.slice (some ⟨g, off, none⟩) len cap, .int .i64 (N : Int), undef, undef, .pointer (some ⟨b0, 0, none⟩), .pointer (some ⟨b0 + 1, 0, none⟩), .pointer (some ⟨b0 + 1 + 1, 0, none⟩), .pointer (some ⟨s2, 0, none⟩), .pointer (some ⟨s2 + 1, 0, none⟩), .pointer (some ⟨Bx, 0, none⟩), .int .i64 (N : Int), .bool false, .bool false, .int .i64 (N : Int), .bool false, .bool false, .int .i64 (N : Int), .slice (some ⟨g, off, none⟩) len cap, .int .i64 (len : Int), .int .i64 (M : Int), .slice (some ⟨b0 + 1 + 1 + 1, 0, none⟩) 0 M, .slice (some ⟨g, off, none⟩) len cap, .int .i64 (N : Int), .func (.func 45) #[] #[.pointer (some ⟨s2 + 1 + 1 + 1, 0, none⟩), .pointer (some ⟨s2 + 1 + 1, 0, none⟩)], .agg #[.int .u64 (x.u : Int), .int .i64 x.en, .int .i64 x.er], undef, undef, undef, undef, undef, undef, undef, undef, undef, undef, undef, undef, undef, undef, undef, undef, undef, undef], defers := [] })
    ?hAx ?assign ?body ?done ?stop
  case hI =>
    rintro pre A B row ⟨v, hm, hr, he⟩ hg' hrow
    exact ⟨v, hm.other hg' (fun r e => ⟨by have := (hrow r e).1; omega, (hrow r e).2⟩), row_other hr hg' (fun r e => (hrow r e).2), he⟩
  case hIx =>
    rintro c pre A B row ⟨hcc', p, t, e1, e2, e3, e4, e5, e6, e7⟩ hg' hrow
    have hne : ∀ B0 t0 u0, Boxed A B0 t0 u0 → some B0 ≠ row := fun B0 t0 u0 hB0 e => by
      obtain ⟨o, ho, hcc⟩ := (hrow B0 e.symm).2
      rw [show A.heap[B0]? = _ from hB0] at ho; cases ho; cases hcc
    exact ⟨hcc', p, t, e1, e2, e3, e4.kept hg' (hne _ _ _ e4), e5.kept hg' (hne _ _ _ e5), e6.kept hg' (hne _ _ _ e6), e7.grown hg' (Nat.le_of_lt e4.lt) (fun r e => by have := (hrow r e).1; omega)⟩
  case h0 => exact ⟨_, hmem, ho3, by simp⟩
  case hAx =>
    rintro x a' _ A B row ⟨Bx, h1, h2, h3⟩ hg' hrow
    refine ⟨Bx, h1, h2.kept hg' fun e => ?_, h3⟩
    obtain ⟨o, ho, hcc⟩ := (hrow Bx e.symm).2
    rw [show A.heap[Bx]? = _ from h2] at ho; cases ho; cases hcc
  case assign =>
    rintro l pre x W K ⟨v, hm, hr, he⟩ hK
    dsimp only [encT]
    gi_wp2
    exact hK _ _ ((KeepsOthers.alloc _ _).from _) (Kq.alloc hm.size hm.bb.lt hm.bn.lt _) ⟨v, hm.alloc _, hr.alloc _, he⟩ ⟨W.heap.size, hm.bn.lt, World.alloc_heap_new W _, rfl⟩
  case body =>
    rintro l pre x a' W hl ⟨r, hr'⟩ ⟨v, hm, hr, he⟩ ⟨Bx, hBx, hb3, rfl⟩ hlt
    have c0 := hb3.cell0
    have c1 := hb3.cell1
    have c2 := hb3.cell2
    by_cases hx : x.er = 0
    · have hx' : (x.er == 0) = true := by simp [hx]
      gi_wp2_with fail
      rename_i hK
      refine wpIn_region_K (fun _ => trivial) rfl (fun m f args w R h => CallsIn.inRound l (callsIn_wide.2 h)) (by kernel_rfl) (by kernel_rfl) (by kernel_rfl)
        (S9 b0 s2 (s2 + 1) (s2 + 1 + 1) (s2 + 1 + 1 + 1) (.slice (some ⟨g, off, none⟩) len cap) N w W v (lastEn pre) Bx pre.length x (vals pre)) (T9 v Bx s2 b0 pre.length x (vals pre))
        ⟨KeepsOthers.drew _, fun _ _ => rfl, hb3, by rw [if_neg (by simp)]; exact ⟨hm.drew, fun _ => hr⟩⟩
        (allL_cons ?_ (allL_cons ?_ (allL_cons ?_ (allL_cons ?_ (allL_cons ?_ (allL_cons ?_ (allL_cons ?_ allL_nil))))))) ?_
      · intro L a u hS ha
        have t7 := (ev_tmp a 7).symm.trans ((ha.fix 7 (by kernel_rfl)).trans rfl)
        have cl := (hS.mem (ha.off 6 (by kernel_rfl))).bl.cell
        rw [if_pos (wanted_none rfl)]
        refine does_val (v := v) (w' := u) ?_ (stay (hS.same 0 (by decide) (by decide)) rfl)
        simp [execOp, go_sem, t7, cl]
      · intro L a u hS ha
        have t9 := (ev_tmp a 9).symm.trans ((ha.fix 9 (by kernel_rfl)).trans rfl)
        rw [if_pos (wanted_none rfl)]
        refine does_val (v := .pointer (some ⟨Bx, 0, none⟩)) (w' := u) ?_ (stay (hS.same 1 (by decide) (by decide)) rfl)
        simp [execOp, go_sem, t9]
      · intro L a u hS ha
        have t31 := (ev_tmp a 31).symm.trans (show a.eval (.tmp 31) = .pointer (some ⟨Bx, 0, none⟩) from ha.slot 0 1 31 rfl rfl)
        have cl := hS.2.2.1.cell0
        rw [if_pos (wanted_none rfl)]
        refine does_val (v := .int .u64 (x.u : Int)) (w' := u) ?_ (stay (hS.same 2 (by decide) (by decide)) rfl)
        simp [execOp, go_sem, t31, cl]
      · intro L a u hS ha
        have t32 := (ev_tmp a 32).symm.trans (show a.eval (.tmp 32) = .int .u64 (x.u : Int) from ha.slot 0 2 32 rfl rfl)
        rw [if_pos (wanted_none rfl)]
        refine does_call (f := 42) (args := #[.int .u64 (x.u : Int)]) (w' := u) (by simp [execOp, go_sem, t32]) ?_
        refine (zag_any (x.u : Int) (by omega) (by have := x.hu; omega) u).mono ?_
        rintro e u' ⟨rfl, rfl⟩
        exact ⟨_, rfl, stay (hS.same 3 (by decide) (by decide)) rfl⟩
      · intro L a u hS ha
        have t33 := (ev_tmp a 33).symm.trans (show a.eval (.tmp 33) = .int .i64 (zg (x.u : Int)) from ha.slot 0 3 33 rfl rfl)
        have h6 := ha.off 6 (by kernel_rfl)
        have h5 := ha.off 5 (by kernel_rfl)
        have hm1 := hS.mem h6
        have hr1 := hS.row h6 h5
        rw [if_pos (wanted_none rfl)]
        refine does_val (v := .slice (some ⟨u.heap.size, 0, none⟩) 1 1) (w' := u.alloc (.cells #[.int .i64 (zg (x.u : Int))] 2)) (by simp [execOp, go_sem, t33]) ⟨⟨u.heap.size, rfl, by simp, ?_, ?_⟩, hS.alloc h6 h5 _, ?_⟩
        · intro e; have := (hr1.lt _ e.symm).2; omega
        · have := hm1.bl.lt; omega
        · intro j y hL hT
          match j, hL, hT with
          | 0, _, hT => exact hT
          | 1, _, hT => exact hT
          | 2, _, hT => exact hT
          | 3, _, hT => exact hT
          | 4, hL, _ => rw [ha.un] at hL; cases hL
          | 5, hL, _ => rw [h5] at hL; cases hL
          | j + 6, _, _ => trivial
      · intro L a u hS ha
        have t30 : a.eval (.tmp 30) = v := ha.slot 0 0 30 rfl rfl
        obtain ⟨h, t34, hc34, hne, hnl⟩ : ∃ h, a.eval (.tmp 34) = .slice (some ⟨h, 0, none⟩) 1 1 ∧ u.cell? ⟨h, 0, none⟩ = some (.int .i64 (zg (x.u : Int))) ∧ some h ≠ v.ownBlock ∧ h ≠ s2 := ha.slot 1 4 34 rfl rfl
        have h6 := ha.off 6 (by kernel_rfl)
        have hm1 := hS.mem h6
        have hr1 := hS.row h6 ha.un
        obtain ⟨v', u', hrun, hown', hgrow, _⟩ := run_append_own (P := Tryd.prog) u b0 22 22 2 i0 (.int .i64 0) 1 8 Tryd.underlying22 hi hz0 hz1 hz2 rfl (by decide) v pre.length _ hr1 ⟨h, 0, none⟩ 1 1 [.int .i64 (zg (x.u : Int))] rfl
          (fun j y hj => by match j, hj with
            | 0, hj => simp at hj; subst hj; simpa [Addr.add] using hc34) (one_one _) (by unfold maxLen; omega) (by omega) hm1.size
        rw [if_pos (wanted_none rfl)]
        obtain ⟨g', c', rfl, _⟩ := own_some hown' (by omega)
        have hown2 : u'.ownsRow b0 2 1 (.slice (some ⟨g', 0, none⟩) (pre.length + 1) c') (pre.length + 1) ((vals pre ++ [zg (x.u : Int)]).map (Value.int .i64)) := by rw [List.map_append]; exact hown'
        refine does_val (v := .slice (some ⟨g', 0, none⟩) (pre.length + 1) c') (w' := u') ?_ ⟨⟨g', c', rfl, hown2⟩, hS.append h6 ha.un hgrow hown2 (by omega) (by omega), ?_⟩
        · simp only [execOp, resolve, invoke, builtin, Sem.run_bind, Sem.run_pure, Result.andThen_ok, List.map_toArray, List.map_cons, List.map_nil, t30, t34, hrun]
        · intro j y hL hT
          match j, hL, hT with
          | 0, _, hT => exact hT
          | 1, _, hT => exact hT
          | 2, _, hT => exact hT
          | 3, _, hT => exact hT
          | 4, _, ⟨h', e1, e2, e3, e4⟩ => exact ⟨h', e1, hgrow.cell e2 e3, e3, e4⟩
          | 5, hL, _ => rw [ha.un] at hL; cases hL
          | j + 6, _, _ => trivial
      · intro L a u hS ha
        have t7 := (ev_tmp a 7).symm.trans ((ha.fix 7 (by kernel_rfl)).trans rfl)
        obtain ⟨g', c', e35, hown'⟩ : ∃ g c, a.eval (.tmp 35) = .slice (some ⟨g, 0, none⟩) (pre.length + 1) c ∧ u.ownsRow b0 2 1 (.slice (some ⟨g, 0, none⟩) (pre.length + 1) c) (pre.length + 1) ((vals pre ++ [zg (x.u : Int)]).map (Value.int .i64)) := ha.slot 0 5 35 rfl rfl
        have t35 := (ev_tmp a 35).symm.trans e35
        have hm1 := hS.mem ha.un
        have cl := hm1.bl.cell
        have fl := hm1.bl.frozen
        rw [if_pos (wanted_none rfl)]
        refine does_skip (w' := u.setCell ⟨s2, 0, none⟩ (.slice (some ⟨g', 0, none⟩) (pre.length + 1) c')) ?_ ⟨trivial, hS.store ha.un hown' (by omega) (by omega) (by omega) (by omega) (by omega), ?_⟩
        · simp [execOp, go_sem, t7, t35, cl, fl]
        · intro j y hL hT
          match j, hL, hT with
          | 0, _, hT => exact hT
          | 1, _, hT => exact hT
          | 2, _, hT => exact hT
          | 3, _, hT => exact hT
          | 4, _, ⟨h', e1, e2, e3, e4⟩ => exact ⟨h', e1, (grownBy_setCell' u s2 _).cell e2 (by simp; omega), e3, e4⟩
          | 5, _, ⟨g2, c2, e1, e2⟩ => exact ⟨g2, c2, e1, row_set e2 hm1.bl (by decide) _⟩
          | j + 6, _, _ => trivial
      · intro a u L hS hL hsize hdef hdone hfree
        have e30 : a.eval (.tmp 30) = v := done_slot hdone 0 30 rfl
        have e31 : a.eval (.tmp 31) = .pointer (some ⟨Bx, 0, none⟩) := done_slot hdone 1 31 rfl
        have e32 : a.eval (.tmp 32) = .int .u64 (x.u : Int) := done_slot hdone 2 32 rfl
        have e33 : a.eval (.tmp 33) = .int .i64 (zg (x.u : Int)) := done_slot hdone 3 33 rfl
        obtain ⟨y34, e34⟩ : ∃ y, a.eval (.tmp 34) = y := ⟨_, rfl⟩
        obtain ⟨y35, e35⟩ : ∃ y, a.eval (.tmp 35) = y := ⟨_, rfl⟩
        have hact := act_puts hsize hdef hfree
        simp only [putAll, List.foldl_cons, List.foldl_nil, e30, e31, e32, e33, e34, e35, Act.put] at hact
        simp at hact
        clear e30 e31 e32 e33 e34 e35 hsize hdef hdone hfree
        subst hact
        obtain ⟨k1, k2, k3, k4⟩ := hS
        rw [if_pos (hL 6 (by decide))] at k4
        obtain ⟨v', hm', hr'⟩ := k4
        have cE := hm'.be.cell
        have fE := hm'.be.frozen
        have cx := k3.cell1
        have hend : Mem b0 s2 (s2 + 1) (s2 + 1 + 1) (s2 + 1 + 1 + 1) (.slice (some ⟨g, off, none⟩) len cap) N w (u.setCell ⟨s2 + 1, 0, none⟩ (.int .i64 x.en)) v' (lastEn (pre ++ [x])) ∧ (u.setCell ⟨s2 + 1, 0, none⟩ (.int .i64 x.en)).ownsRow b0 2 1 v' (pre ++ [x]).length ((vals (pre ++ [x])).map (Value.int .i64)) ∧ ∀ t ∈ pre ++ [x], t.er = 0 := by
          refine ⟨?_, ?_, ?_⟩
          · rw [lastEn_snoc]; exact hm'.setE (by omega) (by omega) (by omega) (by omega) _
          · rw [vals_snoc, List.length_append]; exact row_set hr' hm'.be (by decide) _
          · intro t ht
            rcases List.mem_append.1 ht with ht | ht
            · exact he t ht
            · simp at ht; rw [ht]; exact hx
        have HE := (show Hid _ from hend)
        clear hend
        refine hK _ _ ?_
        gi_wp2
        exact ⟨(k1.trans (KeepsOthers.setCell _ _ _)).from _, k2.trans (Kq.set (by omega) (by omega) (by omega) _), v', HE.out⟩
    · have hx' : (x.er == 0) = false := by simpa using hx
      gi_wp2_with fail
      have c4 := hm.r4.cell
      have f4 := hm.r4.frozen
      have c5 := hm.r5.cell
      have f5 := hm.r5.frozen
      have c6 := hm.r6.cell
      have f6 := hm.r6.frozen
      have hmix : Tryd.prog.follows .mixedOrders = true := by kernel_rfl
      gi_region_o
      all_goals gi_wp2
      all_goals
        have ke := err_end hm x.er
        exact ⟨ke.1.from _, rfl, pre, x, rfl, he, hx, ke.2.1, ke.2.2.1, ke.2.2.2.1, ke.2.2.2.2⟩
  case done =>
    rintro D xs W hD hxs ⟨v, hm, hr, he⟩ hK
    have hok : N = ls.length ∧ T = tolds ls h64 ls.length := by
      rcases HN.out with h | ⟨_, _, e⟩
      · exact h
      · exfalso
        have := he short (by rw [hxs, e]; simp)
        simp [short] at this
    obtain ⟨hN0', hT0⟩ := hok
    have HN0 : Hid (N = ls.length) := hN0'
    clear hN0'
    have hlv : vals xs = ls := by rw [hxs, hT0]; unfold vals; rw [vals_tolds ls h64 _ (Nat.le_refl _), List.take_length]
    have hle : lastEn xs = (En ls ls.length : Int) := by rw [hxs, hT0]; exact last_tolds ls h64 _
    have hxl : xs.length = ls.length := by rw [← vals_length, hlv]
    rw [hlv, hxl] at hr
    rw [hle] at hm
    obtain ⟨va, vc, rfl⟩ : ∃ a c, v = .slice a ls.length c := by
      rcases hr.2 with ⟨h1, h2⟩ | ⟨g1, c1, _, h1, _⟩
      · exact ⟨none, 0, by rw [h2]; exact h1⟩
      · exact ⟨_, _, h1⟩
    have hea := En_all ls rest
    rw [← HC.out.2] at hea
    have hrd : ∀ u, Below b0 w u → ¬ cap = En ls ls.length → Rd .u8 u (some ⟨g, off + En ls ls.length, none⟩) rest := by
      intro u hbu _
      refine .inr ⟨g, off + En ls ls.length, rfl, ?_, fun i hi => ?_⟩
      · have := hbu.size; omega
      · have hc1 := cells_drop (m := En ls ls.length) HC.out.1
        rw [rest_drop] at hc1
        exact (hbu.cell (p := ⟨g, off + En ls ls.length + i, none⟩) hg).trans (hc1 i hi)
    have hrd2 : ∀ u, cap = En ls ls.length → Rd .u8 u (some ⟨g, off, none⟩) rest := fun u h => .inl (List.eq_nil_of_length_eq_zero (by omega))
    have HR : Hid (∀ u, Below b0 w u → (¬ cap = En ls ls.length → Rd .u8 u (some ⟨g, off + En ls ls.length, none⟩) rest) ∧ (cap = En ls ls.length → Rd .u8 u (some ⟨g, off, none⟩) rest)) := fun u hbu => ⟨hrd u hbu, hrd2 u⟩
    obtain ⟨e, hee⟩ : ∃ e, En ls ls.length = e := ⟨_, rfl⟩
    obtain ⟨r, hrr⟩ : ∃ r, rest.length = r := ⟨_, rfl⟩
    rw [hee] at hea hm HR
    rw [hrr] at hea
    have hgu : ∀ u, Below b0 w u → b0 ≤ u.heap.size := fun u hbu => by have := hbu.size; omega
    clear hrd hrd2 hlv hle hxl hxs hT0 hee
    have hlr : len - e = r := by omega
    gi_wp2_with fail
    rename_i hK2
    by_cases hce : cap = e
    · refine wpIn_region_K (fun _ => trivial) rfl (fun m f args w R h => callsIn_wide.2 h) (by kernel_rfl) (by kernel_rfl) (by kernel_rfl)
        (S11 b0 s2 D r w (.slice va ls.length vc) (e : Int) ls rest) (T11 (.slice va ls.length vc) (.slice (some ⟨g, off, none⟩) len cap) (e : Int) (some ⟨g, off, none⟩) b0 r (cap - e) rest)
        ⟨hK, hm.bel.drew, hm.bl, hm.be, hr, ⟨_, hm.r4, fun h => by cases h⟩, ⟨_, hm.r5, fun h => by cases h⟩, ⟨_, hm.r6, fun h => by cases h⟩⟩
        (allL_cons ?_ (allL_cons ?_ (allL_cons ?_ (allL_cons ?_ (allL_cons ?_ (allL_cons ?_ (allL_cons ?_ (allL_cons ?_ allL_nil)))))))) ?_
      · intro L a u hS ha
        have t7 := (ev_tmp a 7).symm.trans ((ha.fix 7 (by kernel_rfl)).trans rfl)
        have cl := hS.bl.cell
        rw [if_pos (wanted_none rfl)]
        refine does_val (v := .slice va ls.length vc) (w' := u) ?_ (stay (hS.same 0 (by decide) (by decide) (by decide)) rfl)
        simp [execOp, go_sem, t7, cl]
      · intro L a u hS ha
        have t0 := (ev_tmp a 0).symm.trans ((ha.fix 0 (by kernel_rfl)).trans rfl)
        rw [if_pos (wanted_none rfl)]
        refine does_val (v := .slice (some ⟨g, off, none⟩) len cap) (w' := u) ?_ (stay (hS.same 1 (by decide) (by decide) (by decide)) rfl)
        simp [execOp, go_sem, t0]
      · intro L a u hS ha
        have t8 := (ev_tmp a 8).symm.trans ((ha.fix 8 (by kernel_rfl)).trans rfl)
        have cl := hS.be.cell
        rw [if_pos (wanted_none rfl)]
        refine does_val (v := .int .i64 (e : Int)) (w' := u) ?_ (stay (hS.same 2 (by decide) (by decide) (by decide)) rfl)
        simp [execOp, go_sem, t8, cl]
      · intro L a u hS ha
        have t39 := (ev_tmp a 39).symm.trans (show a.eval (.tmp 39) = .slice (some ⟨g, off, none⟩) len cap from ha.slot 0 1 39 rfl rfl)
        have t40 := (ev_tmp a 40).symm.trans (show a.eval (.tmp 40) = .int .i64 (e : Int) from ha.slot 1 2 40 rfl rfl)
        rw [if_pos (wanted_none rfl)]
        refine does_val (v := .slice (some ⟨g, off, none⟩) r (cap - e)) (w' := u) ?_ (stay (hS.same 3 (by decide) (by decide) (by decide)) rfl)
        simp [execOp, go_sem, t39, t40]
        rw [if_pos (show e ≤ len by omega), if_pos hce, hlr]
      · intro L a u hS ha
        have t41 := (ev_tmp a 41).symm.trans (show a.eval (.tmp 41) = .slice (some ⟨g, off, none⟩) r (cap - e) from ha.slot 0 3 41 rfl rfl)
        rw [if_pos (wanted_none rfl)]
        refine does_call (f := 36) (args := #[.slice (some ⟨g, off, none⟩) r (cap - e), .int .i64 0]) (w' := u) (by simp [execOp, go_sem, t41]) ?_
        refine (grown_any _ r (cap - e) 0 rest u hrr ((HR.out u hS.bel).2 hce) (by omega)).mono ?_
        rintro y u' ⟨rfl, ho', hb'⟩
        refine ⟨_, rfl, ⟨_, rfl, own_mono ho' (hgu u hS.bel)⟩, hS.grown hb' (hgu u hS.bel), ?_⟩
        intro j y hL hT
        match j, hL, hT with
        | 0, _, hT => exact hT
        | 1, _, hT => exact hT
        | 2, _, hT => exact hT
        | 3, _, hT => exact hT
        | 4, hL, _ => rw [ha.un] at hL; cases hL
        | j + 5, _, _ => trivial
      · intro L a u hS ha
        have t4 := (ev_tmp a 4).symm.trans ((ha.fix 4 (by kernel_rfl)).trans rfl)
        have t38 := (ev_tmp a 38).symm.trans (show a.eval (.tmp 38) = .slice va ls.length vc from ha.slot 0 0 38 rfl rfl)
        obtain ⟨x4, a4, _⟩ := hS.r4
        have cl := a4.cell
        have fl := a4.frozen
        rw [if_pos (wanted_none rfl)]
        refine does_skip (w' := u.setCell ⟨b0, 0, none⟩ (.slice va ls.length vc)) (by simp [execOp, go_sem, t4, t38, cl, fl]) ⟨trivial, hS.set4 (by omega), ?_⟩
        intro j y hL hT
        match j, hL, hT with
        | 0, _, hT => exact hT
        | 1, _, hT => exact hT
        | 2, _, hT => exact hT
        | 3, _, hT => exact hT
        | 4, _, ⟨h, e1, e2⟩ => exact ⟨h, e1, own_set e2 a4 (by decide) _⟩
        | j + 5, _, _ => trivial
      · intro L a u hS ha
        have t5 := (ev_tmp a 5).symm.trans ((ha.fix 5 (by kernel_rfl)).trans rfl)
        obtain ⟨h, e42, ho⟩ : ∃ h, a.eval (.tmp 42) = .slice (some ⟨h, 0, none⟩) r r ∧ u.ownsRow b0 5 1 (.slice (some ⟨h, 0, none⟩) r r) r (rest.map (Value.int .u8)) := ha.slot 0 4 42 rfl rfl
        have t42 := (ev_tmp a 42).symm.trans e42
        obtain ⟨x5, a5, _⟩ := hS.r5
        have cl := a5.cell
        have fl := a5.frozen
        rw [if_pos (wanted_none rfl)]
        refine does_skip (w' := u.setCell ⟨b0 + 1, 0, none⟩ (.slice (some ⟨h, 0, none⟩) r r)) (by simp [execOp, go_sem, t5, t42, cl, fl]) ⟨trivial, hS.set5 (by omega) ho, ?_⟩
        intro j y hL hT
        match j, hL, hT with
        | 0, _, hT => exact hT
        | 1, _, hT => exact hT
        | 2, _, hT => exact hT
        | 3, _, hT => exact hT
        | 4, _, ⟨h, e1, e2⟩ => exact ⟨h, e1, own_set e2 a5 (by decide) _⟩
        | j + 5, _, _ => trivial
      · intro L a u hS ha
        have t6 := (ev_tmp a 6).symm.trans ((ha.fix 6 (by kernel_rfl)).trans rfl)
        obtain ⟨x6, a6, _⟩ := hS.r6
        have cl := a6.cell
        have fl := a6.frozen
        rw [if_pos (wanted_none rfl)]
        refine does_skip (w' := u.setCell ⟨b0 + 1 + 1, 0, none⟩ (.int .i64 0)) (by simp [execOp, go_sem, t6, cl, fl]) ⟨trivial, hS.set6 (by omega), ?_⟩
        intro j y hL hT
        match j, hL, hT with
        | 0, _, hT => exact hT
        | 1, _, hT => exact hT
        | 2, _, hT => exact hT
        | 3, _, hT => exact hT
        | 4, _, ⟨h, e1, e2⟩ => exact ⟨h, e1, own_set e2 a6 (by decide) _⟩
        | j + 5, _, _ => trivial
      · intro a u L hS hL hsize hdef hdone hfree
        obtain ⟨y38, e38⟩ : ∃ y, a.eval (.tmp 38) = y := ⟨_, rfl⟩
        obtain ⟨y39, e39⟩ : ∃ y, a.eval (.tmp 39) = y := ⟨_, rfl⟩
        obtain ⟨y40, e40⟩ : ∃ y, a.eval (.tmp 40) = y := ⟨_, rfl⟩
        obtain ⟨y41, e41⟩ : ∃ y, a.eval (.tmp 41) = y := ⟨_, rfl⟩
        obtain ⟨y42, e42⟩ : ∃ y, a.eval (.tmp 42) = y := ⟨_, rfl⟩
        have hact := act_puts hsize hdef hfree
        simp only [putAll, List.foldl_cons, List.foldl_nil, e38, e39, e40, e41, e42, Act.put] at hact
        simp at hact
        clear e38 e39 e40 e41 e42 hsize hdef hdone hfree
        subst hact
        obtain ⟨x4, a4, b4⟩ := hS.r4
        obtain ⟨x5, a5, b5⟩ := hS.r5
        obtain ⟨x6, a6, b6⟩ := hS.r6
        obtain rfl := b4 (hL 5 (by decide))
        obtain ⟨h, rfl, ho⟩ := b5 (hL 6 (by decide))
        obtain rfl := b6 (hL 7 (by decide))
        have q4 := (box_put a4 hS.k (.deferred none)).cell
        have q5 := (box_put a5 hS.k (.deferred none)).cell
        have q6 := (box_put a6 hS.k (.deferred none)).cell
        refine hK2 _ _ ?_
        gi_wp2_with fail
        refine ⟨by simp, .inl ⟨_, _, rfl, run_takeDeferred hS.k, ?_⟩⟩
        refine ⟨.tuple #[.slice va ls.length vc, .slice (some ⟨h, 0, none⟩) r r, .int .i64 0], ?_, .inl ⟨HN0.out, .slice va ls.length vc, h, rfl, ?_, ?_, ?_⟩⟩
        · simp [results, Tryd.results30, go_sem, q4, q5, q6]
        · exact ownsRow_putObj hS.row _ hS.k rfl
        · exact ownsRow_putObj ho _ hS.k rfl
        · exact hS.bel.grown (grownBy_putObj' u D _) (Nat.le_of_lt a4.lt) (fun k e => by cases e; omega)
    · refine wpIn_region_K (fun _ => trivial) rfl (fun m f args w R h => callsIn_wide.2 h) (by kernel_rfl) (by kernel_rfl) (by kernel_rfl)
        (S11 b0 s2 D r w (.slice va ls.length vc) (e : Int) ls rest) (T11 (.slice va ls.length vc) (.slice (some ⟨g, off, none⟩) len cap) (e : Int) (some ⟨g, off + e, none⟩) b0 r (cap - e) rest)
        ⟨hK, hm.bel.drew, hm.bl, hm.be, hr, ⟨_, hm.r4, fun h => by cases h⟩, ⟨_, hm.r5, fun h => by cases h⟩, ⟨_, hm.r6, fun h => by cases h⟩⟩
        (allL_cons ?_ (allL_cons ?_ (allL_cons ?_ (allL_cons ?_ (allL_cons ?_ (allL_cons ?_ (allL_cons ?_ (allL_cons ?_ allL_nil)))))))) ?_
      · intro L a u hS ha
        have t7 := (ev_tmp a 7).symm.trans ((ha.fix 7 (by kernel_rfl)).trans rfl)
        have cl := hS.bl.cell
        rw [if_pos (wanted_none rfl)]
        refine does_val (v := .slice va ls.length vc) (w' := u) ?_ (stay (hS.same 0 (by decide) (by decide) (by decide)) rfl)
        simp [execOp, go_sem, t7, cl]
      · intro L a u hS ha
        have t0 := (ev_tmp a 0).symm.trans ((ha.fix 0 (by kernel_rfl)).trans rfl)
        rw [if_pos (wanted_none rfl)]
        refine does_val (v := .slice (some ⟨g, off, none⟩) len cap) (w' := u) ?_ (stay (hS.same 1 (by decide) (by decide) (by decide)) rfl)
        simp [execOp, go_sem, t0]
      · intro L a u hS ha
        have t8 := (ev_tmp a 8).symm.trans ((ha.fix 8 (by kernel_rfl)).trans rfl)
        have cl := hS.be.cell
        rw [if_pos (wanted_none rfl)]
        refine does_val (v := .int .i64 (e : Int)) (w' := u) ?_ (stay (hS.same 2 (by decide) (by decide) (by decide)) rfl)
        simp [execOp, go_sem, t8, cl]
      · intro L a u hS ha
        have t39 := (ev_tmp a 39).symm.trans (show a.eval (.tmp 39) = .slice (some ⟨g, off, none⟩) len cap from ha.slot 0 1 39 rfl rfl)
        have t40 := (ev_tmp a 40).symm.trans (show a.eval (.tmp 40) = .int .i64 (e : Int) from ha.slot 1 2 40 rfl rfl)
        rw [if_pos (wanted_none rfl)]
        refine does_val (v := .slice (some ⟨g, off + e, none⟩) r (cap - e)) (w' := u) ?_ (stay (hS.same 3 (by decide) (by decide) (by decide)) rfl)
        simp [execOp, go_sem, t39, t40]
        rw [if_pos (show e ≤ len by omega), if_neg hce, hlr]
      · intro L a u hS ha
        have t41 := (ev_tmp a 41).symm.trans (show a.eval (.tmp 41) = .slice (some ⟨g, off + e, none⟩) r (cap - e) from ha.slot 0 3 41 rfl rfl)
        rw [if_pos (wanted_none rfl)]
        refine does_call (f := 36) (args := #[.slice (some ⟨g, off + e, none⟩) r (cap - e), .int .i64 0]) (w' := u) (by simp [execOp, go_sem, t41]) ?_
        refine (grown_any _ r (cap - e) 0 rest u hrr ((HR.out u hS.bel).1 hce) (by omega)).mono ?_
        rintro y u' ⟨rfl, ho', hb'⟩
        refine ⟨_, rfl, ⟨_, rfl, own_mono ho' (hgu u hS.bel)⟩, hS.grown hb' (hgu u hS.bel), ?_⟩
        intro j y hL hT
        match j, hL, hT with
        | 0, _, hT => exact hT
        | 1, _, hT => exact hT
        | 2, _, hT => exact hT
        | 3, _, hT => exact hT
        | 4, hL, _ => rw [ha.un] at hL; cases hL
        | j + 5, _, _ => trivial
      · intro L a u hS ha
        have t4 := (ev_tmp a 4).symm.trans ((ha.fix 4 (by kernel_rfl)).trans rfl)
        have t38 := (ev_tmp a 38).symm.trans (show a.eval (.tmp 38) = .slice va ls.length vc from ha.slot 0 0 38 rfl rfl)
        obtain ⟨x4, a4, _⟩ := hS.r4
        have cl := a4.cell
        have fl := a4.frozen
        rw [if_pos (wanted_none rfl)]
        refine does_skip (w' := u.setCell ⟨b0, 0, none⟩ (.slice va ls.length vc)) (by simp [execOp, go_sem, t4, t38, cl, fl]) ⟨trivial, hS.set4 (by omega), ?_⟩
        intro j y hL hT
        match j, hL, hT with
        | 0, _, hT => exact hT
        | 1, _, hT => exact hT
        | 2, _, hT => exact hT
        | 3, _, hT => exact hT
        | 4, _, ⟨h, e1, e2⟩ => exact ⟨h, e1, own_set e2 a4 (by decide) _⟩
        | j + 5, _, _ => trivial
      · intro L a u hS ha
        have t5 := (ev_tmp a 5).symm.trans ((ha.fix 5 (by kernel_rfl)).trans rfl)
        obtain ⟨h, e42, ho⟩ : ∃ h, a.eval (.tmp 42) = .slice (some ⟨h, 0, none⟩) r r ∧ u.ownsRow b0 5 1 (.slice (some ⟨h, 0, none⟩) r r) r (rest.map (Value.int .u8)) := ha.slot 0 4 42 rfl rfl
        have t42 := (ev_tmp a 42).symm.trans e42
        obtain ⟨x5, a5, _⟩ := hS.r5
        have cl := a5.cell
        have fl := a5.frozen
        rw [if_pos (wanted_none rfl)]
        refine does_skip (w' := u.setCell ⟨b0 + 1, 0, none⟩ (.slice (some ⟨h, 0, none⟩) r r)) (by simp [execOp, go_sem, t5, t42, cl, fl]) ⟨trivial, hS.set5 (by omega) ho, ?_⟩
        intro j y hL hT
        match j, hL, hT with
        | 0, _, hT => exact hT
        | 1, _, hT => exact hT
        | 2, _, hT => exact hT
        | 3, _, hT => exact hT
        | 4, _, ⟨h, e1, e2⟩ => exact ⟨h, e1, own_set e2 a5 (by decide) _⟩
        | j + 5, _, _ => trivial
      · intro L a u hS ha
        have t6 := (ev_tmp a 6).symm.trans ((ha.fix 6 (by kernel_rfl)).trans rfl)
        obtain ⟨x6, a6, _⟩ := hS.r6
        have cl := a6.cell
        have fl := a6.frozen
        rw [if_pos (wanted_none rfl)]
        refine does_skip (w' := u.setCell ⟨b0 + 1 + 1, 0, none⟩ (.int .i64 0)) (by simp [execOp, go_sem, t6, cl, fl]) ⟨trivial, hS.set6 (by omega), ?_⟩
        intro j y hL hT
        match j, hL, hT with
        | 0, _, hT => exact hT
        | 1, _, hT => exact hT
        | 2, _, hT => exact hT
        | 3, _, hT => exact hT
        | 4, _, ⟨h, e1, e2⟩ => exact ⟨h, e1, own_set e2 a6 (by decide) _⟩
        | j + 5, _, _ => trivial
      · intro a u L hS hL hsize hdef hdone hfree
        obtain ⟨y38, e38⟩ : ∃ y, a.eval (.tmp 38) = y := ⟨_, rfl⟩
        obtain ⟨y39, e39⟩ : ∃ y, a.eval (.tmp 39) = y := ⟨_, rfl⟩
        obtain ⟨y40, e40⟩ : ∃ y, a.eval (.tmp 40) = y := ⟨_, rfl⟩
        obtain ⟨y41, e41⟩ : ∃ y, a.eval (.tmp 41) = y := ⟨_, rfl⟩
        obtain ⟨y42, e42⟩ : ∃ y, a.eval (.tmp 42) = y := ⟨_, rfl⟩
        have hact := act_puts hsize hdef hfree
        simp only [putAll, List.foldl_cons, List.foldl_nil, e38, e39, e40, e41, e42, Act.put] at hact
        simp at hact
        clear e38 e39 e40 e41 e42 hsize hdef hdone hfree
        subst hact
        obtain ⟨x4, a4, b4⟩ := hS.r4
        obtain ⟨x5, a5, b5⟩ := hS.r5
        obtain ⟨x6, a6, b6⟩ := hS.r6
        obtain rfl := b4 (hL 5 (by decide))
        obtain ⟨h, rfl, ho⟩ := b5 (hL 6 (by decide))
        obtain rfl := b6 (hL 7 (by decide))
        have q4 := (box_put a4 hS.k (.deferred none)).cell
        have q5 := (box_put a5 hS.k (.deferred none)).cell
        have q6 := (box_put a6 hS.k (.deferred none)).cell
        refine hK2 _ _ ?_
        gi_wp2_with fail
        refine ⟨by simp, .inl ⟨_, _, rfl, run_takeDeferred hS.k, ?_⟩⟩
        refine ⟨.tuple #[.slice va ls.length vc, .slice (some ⟨h, 0, none⟩) r r, .int .i64 0], ?_, .inl ⟨HN0.out, .slice va ls.length vc, h, rfl, ?_, ?_, ?_⟩⟩
        · simp [results, Tryd.results30, go_sem, q4, q5, q6]
        · exact ownsRow_putObj hS.row _ hS.k rfl
        · exact ownsRow_putObj ho _ hS.k rfl
        · exact hS.bel.grown (grownBy_putObj' u D _) (Nat.le_of_lt a4.lt) (fun k e => by cases e; omega)
  case stop =>
    rintro D c pre W hD hpre ⟨rfl, p, t, e1, e2, e3, e4, e5, e6, e7⟩ hK
    obtain ⟨hN1, hte⟩ := short_of HN.out hpre e1 e3
    rw [hte] at e6
    gi_wp2_with fail
    have q4 := (box_put e4 hK (.deferred none)).cell
    have q5 := (box_put e5 hK (.deferred none)).cell
    have q6 := (box_put e6 hK (.deferred none)).cell
    refine ⟨by simp, .inl ⟨_, _, rfl, run_takeDeferred hK, ?_⟩⟩
    refine ⟨.tuple #[.slice none 0 0, .slice none 0 0, .int .i64 10], ?_, .inr ⟨hN1, rfl, ?_⟩⟩
    · simp [results, Tryd.results30, go_sem, q4, q5, q6]
    · rw [hb]
      exact e7.grown (grownBy_putObj' W D _) (Nat.le_of_lt e4.lt) (fun k e => by cases e; omega)

theorem takeall_ok (g off cap : Nat) (ls rest : List Int) (h64 : All64 ls) (hls : ls.length ≤ 5000) (w : World) (hg : g < w.heap.size) (hcap : (zbs ls ++ rest).length ≤ cap) (hlb : (zbs ls ++ rest).length ≤ 140737480000000)
    (hc : ∀ i, i < (zbs ls ++ rest).length → w.cell? ⟨g, off + i, none⟩ = some (.int .u8 ((zbs ls ++ rest).getD i 0))) :
    Calls Tryd.prog 30 #[.slice (some ⟨g, off, none⟩) (zbs ls ++ rest).length cap, .int .i64 (ls.length : Int)] w fun e W' => ∃ v h, e = .returned (.tuple #[v, .slice (some ⟨h, 0, none⟩) rest.length rest.length, .int .i64 0]) ∧
      W'.ownsRow w.heap.size 2 1 v ls.length (ls.map (Value.int .i64)) ∧ W'.ownsRow w.heap.size 5 1 (.slice (some ⟨h, 0, none⟩) rest.length rest.length) rest.length (rest.map (Value.int .u8)) ∧ Below w.heap.size w W' := by
  refine Calls.mono ((callsIn_wide (n := 9)).1 (takeall_in g off cap _ ls rest h64 hls ls.length _ (.inl ⟨rfl, rfl⟩) w hg rfl hcap hlb hc)) ?_
  rintro e W' (⟨_, h⟩ | ⟨h, _⟩)
  · exact h
  · omega
theorem takeall_short (g off cap : Nat) (ls rest : List Int) (hsh : Sh rest) (h64 : All64 ls) (hls : ls.length ≤ 5000) (w : World) (hg : g < w.heap.size) (hcap : (zbs ls ++ rest).length ≤ cap) (hlb : (zbs ls ++ rest).length ≤ 140737480000000)
    (hc : ∀ i, i < (zbs ls ++ rest).length → w.cell? ⟨g, off + i, none⟩ = some (.int .u8 ((zbs ls ++ rest).getD i 0))) :
    Calls Tryd.prog 30 #[.slice (some ⟨g, off, none⟩) (zbs ls ++ rest).length cap, .int .i64 ((ls.length : Int) + 1)] w fun e W' => e = .returned (.tuple #[.slice none 0 0, .slice none 0 0, .int .i64 10]) ∧ Below w.heap.size w W' := by
  have h := takeall_in g off cap (zbs ls ++ rest).length ls rest h64 hls (ls.length + 1) _ (.inr ⟨rfl, hsh, rfl⟩) w hg rfl hcap hlb hc
  have e1 : ((ls.length + 1 : Nat) : Int) = (ls.length : Int) + 1 := by omega
  rw [e1] at h
  refine Calls.mono ((callsIn_wide (n := 9)).1 h) ?_
  rintro e W' (⟨h, _⟩ | ⟨_, h⟩)
  · omega
  · exact h
end Go.Proofs.YtbgipenonngccaaDoor
