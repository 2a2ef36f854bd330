/- The contract of Ints. Conditions: how the rows lie; sizes. -/
import Derived.Test.YtkojbpifcflgfaaOi
namespace Go.Proofs.Ytkojbpifcflgfaa
open Go.RowKit Go.Shelf
attribute [local go_sem] Oper.semAt_some

/-- The numbers of any rows. -/
theorem mt_ints {w : World} {rows : List (List Int)} {xs : List (Int × Nat)} (h : I.Mt (kI w) rows xs) : xs.map (·.1) = inss ltI rows.flatten := by
  refine inss_eq stoI (h.inc.imp (fun {a b} hab => by rw [kI_lt] at hab; exact hab)) (fun z => ?_)
  rw [List.mem_flatten]
  constructor
  · intro hz
    obtain ⟨p, hp, rfl⟩ := List.mem_map.1 hz
    obtain ⟨r, h1, h2⟩ := h.sub p hp
    exact ⟨r, h1, h2⟩
  · rintro ⟨r, h1, h2⟩
    obtain ⟨p, hp, hc⟩ := h.all r h1 z h2
    rw [cfI_zero.1 hc]
    exact List.mem_map.2 ⟨p, hp, rfl⟩

theorem Try.info3' : (Try.prog.info? 3).map (fun i => (i.zero, i.size, i.bytes)) = some (some (.int .i64 0), 1, 8) := by kernel_rfl

/-- What the caller keeps: its variable and its row. -/
structure Ci (w : World) (B D : Nat) (ys : List Int) (W : World) : Prop where
  row : ∃ v, Boxed W B 30 v ∧ W.ownsRow D 3 1 v ys.length (ys.map (Value.int .i64))
  bl : Below B w W
theorem Ci.kept {w U V : World} {B D r : Nat} {ys : List Int} (h : Ci w B D ys U) (hr : B < r) (hk : Kept (fun j => j < r ∨ D ≤ j) U V) : Ci w B D ys V := by
  obtain ⟨v, h1, h2⟩ := h.row
  refine ⟨⟨v, (hk.block B h1.lt (.inl hr)).trans h1, h2.1, ?_⟩, h.bl.trans ⟨hk.os, hk.tape, hk.output, hk.size, fun j hj => ?_⟩⟩
  · rcases h2.2 with h3 | ⟨g, cap, cur, e1, e2, e3, e4⟩
    · exact .inl h3
    · exact .inr ⟨g, cap, cur, e1, e2, (hk.block g (Array.getElem?_eq_some_iff.1 e3).1 (.inr e2)).trans e3, e4⟩
  · have := h1.lt
    exact hk.block j (by omega) (.inl (by omega))
theorem Ci.next {w W V : World} {B D r n0 b1 : Nat} {ys : List Int} {v : Value} {o : Obj} (h1 : Boxed W B 30 v) (h2 : W.ownsRow D 3 1 v ys.length (ys.map (Value.int .i64))) (hbl : Below B w W) (hBr : B < r) (hrD : r ≤ D) (hn0 : n0 ≤ B) (hb1 : b1 ≠ B) (hb2 : b1 < r) (hg : (W.alloc o).grownBy V v.ownBlock) :
    V.cell? ⟨B, 0, none⟩ = some v ∧ V.frozen? ⟨B, 0, none⟩ = false ∧ ∀ v' x, V.ownsRow D 3 1 v' (ys.length + 1) (ys.map (Value.int .i64) ++ [.int .i64 x]) →
      Ci w B D (ys ++ [x]) (V.setCell ⟨B, 0, none⟩ v') ∧ KeepsFrom r W (V.setCell ⟨B, 0, none⟩ v') ∧ Kept (fun j => (j < n0 ∨ j = b1) ∨ (r ≤ j ∧ j < D)) W (V.setCell ⟨B, 0, none⟩ v') := by
  have hlt := fun j hj => (h2.lt j hj).1
  have hs1 : (W.alloc o).heap.size = W.heap.size + 1 := by simp
  have h1' : Boxed (W.alloc o) B 30 v := h1.alloc _
  have hV : Boxed V B 30 v := h1'.kept hg (fun e => by have := hlt _ e.symm; omega)
  have st : ∀ j, j < W.heap.size → v.ownBlock ≠ some j → V.heap[j]? = W.heap[j]? := fun j hj he => (hg.block j (by omega) (fun e => he e.symm)).trans (Below.heap_alloc _ _ _ (by omega))
  have hVs : W.heap.size ≤ V.heap.size := by have := hg.size; omega
  have hs := grownBy_setCell' V B
  refine ⟨hV.cell, hV.frozen, fun v' x ho => ⟨⟨⟨v', hV.set _, ?_⟩, ?_⟩, ?_, ?_⟩⟩
  · rw [List.length_append, List.map_append]
    refine ho.kept (hs v') (.inr fun e => ?_)
    have := (ho.lt B e).1
    omega
  · exact hbl.trans ((Below.refl B W).trans ⟨hg.os, hg.tape, hg.output, by rw [World.size_setCell]; exact hVs, fun j hj => by
      rw [heap_setCell_other _ _ _ _ (by show j ≠ B; omega)]
      have := h1.lt
      exact st j (by omega) (fun e => by have := hlt j e; omega)⟩)
  · refine KeepsFrom.trans (Y := V) ⟨hVs, fun k o' hk e c => ?_⟩ (KeepsFrom.of_grownBy (hs v') (fun j e => by cases e; omega))
    refine (st k (Array.getElem?_eq_some_iff.1 e).1 (fun h => ?_)).trans e
    rcases h2.2 with ⟨e1, _⟩ | ⟨g, cap, cur, e1, e2, e3, _⟩
    · rw [e1] at h; simp [Value.ownBlock] at h
    · rw [e1] at h; simp [Value.ownBlock] at h; subst h; rw [e3] at e; cases e; cases c
  · refine ⟨hg.os, hg.tape, hg.output, by rw [World.size_setCell]; exact hVs, fun j hj hk => ?_⟩
    rw [heap_setCell_other _ _ _ _ (by show j ≠ B; omega)]
    exact st j hj (fun e => by have := hlt j e; omega)

def CiP (w : World) (D : Nat) (pre : List (Int × Nat)) (W : World) : Prop := Ci w w.heap.size D (pre.map (·.1)) W

set_option maxRecDepth 100000 in
set_option maxHeartbeats 8000000 in
theorem ints_in (a : Option Addr) (n c : Nat) (rows : List (List Int)) (w : World) (h : I.IsSS (kI w) w a n c rows) (hn : n ≤ 1000) (ht : I.tot rows ≤ 1000000) (hl : ∀ i, (rows.getD i []).length ≤ 1000000) :
    CallsIn Fence.wide 9 Try.prog 16 #[.slice a n c] w fun e w' => ∃ v, e = .returned v ∧ w'.ownsRow w.heap.size 3 1 v (inss ltI rows.flatten).length ((inss ltI rows.flatten).map (Value.int .i64)) ∧ Below w.heap.size w w' := by
  obtain ⟨i0, hi0, hz0, hz1, hz2⟩ := info_parts Try.info3'
  have H : Hid (I.IsSS (kI w) w a n c rows ∧ I.tot rows ≤ 1000000 ∧ ∀ i, (rows.getD i []).length ≤ 1000000) := ⟨h, ht, hl⟩
  have hm : ∀ V, Calls Try.prog 28 #[.func (.func 29) #[] #[], .slice a n c] V fun e w' => e = .returned (.func (.func 39) #[] #[.pointer (some ⟨V.heap.size, 0, none⟩), .pointer (some ⟨V.heap.size + 1, 0, none⟩)]) ∧ w' = (V.alloc (.cells #[.func (.func 29) #[] #[]] 53)).alloc (.cells #[.slice a n c] 29) := fun V => I.merged_any (kI w) a n c V
  have HM : Hid _ := hm
  clear h ht hl hm
  refine callsIn_of_wp_marks Try.func16 rfl trivial ?_ rfl
  simp only [Try.ntmps16, List.size_toArray, List.length_cons, List.length_nil, Nat.reduceAdd, Nat.reduceSub, Array.replicate_succ, Array.replicate_zero, List.push_toArray, List.append_toArray, List.nil_append, List.cons_append]
  gi_wp2_with (refine ⟨trivial, ?_⟩; gi_at_call 28; refine (callsIn_wide.2 (HM.out _)).mono ?_; rintro e w3 ⟨rfl, rfl⟩)
  simp only [Nat.add_assoc, Nat.reduceAdd]
  have q0 : Boxed (((w.alloc (.cells #[.slice none 0 0] 30)).alloc (.cells #[.func (.func 29) #[] #[]] 53)).alloc (.cells #[.slice a n c] 29)) w.heap.size 30 (.slice none 0 0) := ((Boxed.new w 30 _).alloc _).alloc _
  have q1 : Boxed (((w.alloc (.cells #[.slice none 0 0] 30)).alloc (.cells #[.func (.func 29) #[] #[]] 53)).alloc (.cells #[.slice a n c] 29)) (w.heap.size + 1) 53 (.func (.func 29) #[] #[]) := by
    have := (Boxed.new (w.alloc (.cells #[.slice none 0 0] 30)) 53 (.func (.func 29) #[] #[])).alloc (.cells #[.slice a n c] 29)
    rwa [World.size_alloc] at this
  have q2 : Boxed (((w.alloc (.cells #[.slice none 0 0] 30)).alloc (.cells #[.func (.func 29) #[] #[]] 53)).alloc (.cells #[.slice a n c] 29)) (w.heap.size + 2) 29 (.slice a n c) := by
    have := Boxed.new ((w.alloc (.cells #[.slice none 0 0] 30)).alloc (.cells #[.func (.func 29) #[] #[]] 53)) 29 (.slice a n c)
    rwa [World.size_alloc, World.size_alloc] at this
  have hal : Below w.heap.size w (((w.alloc (.cells #[.slice none 0 0] 30)).alloc (.cells #[.func (.func 29) #[] #[]] 53)).alloc (.cells #[.slice a n c] 29)) := (((Below.refl _ _).alloc (Nat.le_refl _) _).alloc (by simp) _).alloc (by simp; omega) _
  have hsz : (((w.alloc (.cells #[.slice none 0 0] 30)).alloc (.cells #[.func (.func 29) #[] #[]] 53)).alloc (.cells #[.slice a n c] 29)).heap.size = w.heap.size + 3 := by simp
  obtain ⟨W0, hW0⟩ : ∃ W0, W0 = (((w.alloc (.cells #[.slice none 0 0] 30)).alloc (.cells #[.func (.func 29) #[] #[]] 53)).alloc (.cells #[.slice a n c] 29)) := ⟨_, rfl⟩
  rw [← hW0] at q0 q1 q2 hal hsz ⊢
  clear hW0 HM
  refine wpIn_rangeW (n := 9) (by decide) (gf := 39) (lb := #[.pointer (some ⟨w.heap.size + 1, 0, none⟩), .pointer (some ⟨w.heap.size + 2, 0, none⟩)]) rfl (enters_of Try.func39 (by kernel_rfl) rfl)
    (I.merged_in (okI w) (totI w) 8 (w.heap.size + 1) (w.heap.size + 2) a n c rows W0 q1.cell q2.cell (by omega) (by omega) hal (by show w.heap.size ≤ _; omega) (fun U hU => H.out.1.below hU (Nat.le_refl _)) hn H.out.2.1 H.out.2.2)
    (fun j hj h => by show False; have h' : j < w.heap.size ∨ j = w.heap.size + 1 := h; omega) (Below.refl _ _) (fun _ => rfl)
    (CiP w)
    (fun D s U V h _ _ hk => Ci.kept (show Ci _ _ _ _ _ from h) (by omega) hk)
    ?h0
    (fun x => { tmps := #[.slice a n c, undef, .slice none 0 0, .pointer (some ⟨w.heap.size, 0, none⟩), .int .i64 x.1, .slice a n c, .func (.func 39) #[] #[.pointer (some ⟨w.heap.size + 1, 0, none⟩), .pointer (some ⟨w.heap.size + 2, 0, none⟩)], .int .i64 x.1, .int .i64 (x.2 : Int), undef, undef, undef, undef, undef], defers := [] })
    ?assign ?body ?done
  case h0 =>
    intro V hV hs
    exact ⟨⟨.slice none 0 0, (hV.block _ (by omega)).trans q0, World.ownsRow_nil _ _ _ _⟩, hal.trans (hV.mono (by omega))⟩
  case assign =>
    intro l x W K hK
    dsimp only [I.encP, kI]
    gi_wp2
    exact hK
  case body =>
    intro l D pre x W hI hD hr hsp
    have hI : Ci w w.heap.size D (pre.map (·.1)) W := hI
    obtain ⟨v, b1, b2⟩ := hI.row
    have HN : Hid _ := fun V h => Ci.next (w := w) (W := W) (V := V) (B := w.heap.size) (D := D) (r := w.heap.size + 3) (n0 := w.heap.size) (b1 := w.heap.size + 1) (ys := pre.map (·.1)) (v := v) (o := .cells #[.int .i64 x.1] 3) b1 b2 hI.bl (by omega) (by omega) (Nat.le_refl _) (by omega) (by omega) h
    have c0 := b1.cell
    have HO : Hid (W.ownsRow D 3 1 v (pre.map (·.1)).length ((pre.map (·.1)).map (Value.int .i64)) ∧ D ≤ W.heap.size) := ⟨b2, hD⟩
    have HL : Hid ((pre.map (·.1)).length + 1 ≤ 1000000) := by
      have h1 : (pre ++ [x]).length ≤ I.tot rows := hsp.1
      have h2 := H.out.2.1
      simp at h1 ⊢
      show _ ≤ _
      omega
    obtain ⟨m, hm⟩ : ∃ m, m = (pre.map (·.1)).length := ⟨_, rfl⟩
    rw [← hm] at HN HO HL
    obtain ⟨L, hL⟩ : ∃ L, L = (pre.map (·.1)).map (Value.int .i64) := ⟨_, rfl⟩
    rw [← hL] at HN HO
    have e1 : (pre ++ [x]).map (·.1) = pre.map (·.1) ++ [x.1] := by simp
    have hO1 : (W.alloc (.cells #[.int .i64 x.1] 3)).ownsRow D 3 1 v m L := HO.out.1.alloc _
    have hl1 : m + 1 ≤ maxLen := by have := HL.out; unfold maxLen; omega
    have hl2 : (m + 1) * 8 ≤ 140737488355328 := by have := HL.out; omega
    clear b1 b2 hI hsp hm hL
    gi_wp2_with (gi_at_builtin; refine wpListIn_append_own _ rfl (.tmp 9) (.tmp 11) 30 rfl D 3 i0 _ 1 8 Try.underlying30 hi0 hz0 hz1 hz2 rfl (by decide) v m L rfl hO1 ⟨W.heap.size, 0, none⟩ 1 1 [.int .i64 x.1] rfl rfl (I.at_one (by simp)) (by intro u hu; simp at hu; subst hu; rfl) hl1 hl2 (by simp; have := HO.out.2; omega) ?_
                 intro v' w1 hown' hgrow _
                 obtain ⟨cN, zN, hNx⟩ := HN.out _ hgrow
                 have HNx : Hid _ := hNx v' x.1 hown'
                 obtain ⟨a', c', rfl⟩ := I.own_slice hown'
                 clear hNx hown' hgrow)
    exact ⟨HNx.out.2.1, HNx.out.2.2, by show Ci w w.heap.size D ((pre ++ [x]).map (·.1)) _; rw [e1]; exact HNx.out.1⟩
  case done =>
    intro D xs W hS hI hD hr hK
    obtain ⟨L, hL, hM⟩ := hS
    have hmt := I.mt_of (totI w) hL hM
    have hI : Ci w w.heap.size D (xs.map (·.1)) W := hI
    obtain ⟨v, b1, b2⟩ := hI.row
    rw [mt_ints hmt] at b2
    have c0 := b1.cell
    have HF : Hid (W.heap[W0.heap.size]? = some (.deferred (some [])) ∧ W.ownsRow D 3 1 v (inss ltI rows.flatten).length ((inss ltI rows.flatten).map (Value.int .i64)) ∧ Below w.heap.size w W ∧ D ≤ W.heap.size ∧ W0.heap.size + 2 ≤ D) := ⟨hK, b2, hI.bl, hD, hr⟩
    clear b1 b2 hI hL hM hmt hK
    gi_wp2_with fail
    refine ⟨by simp, .inl ⟨_, _, rfl, run_takeDeferred HF.out.1, ?_⟩⟩
    refine ⟨v, by simp [results, Try.results16, go_sem], v, rfl, ?_, ?_⟩
    · exact own_mono (ownsRow_putObj HF.out.2.1 _ HF.out.1 rfl) (by have := HF.out.2.2.2.2; omega)
    · exact HF.out.2.2.1.grown (grownBy_putObj' _ _ _) (by have := HF.out.2.2.2; omega) (fun k e => by cases e; omega)
theorem ints_any (a : Option Addr) (n c : Nat) (rows : List (List Int)) (w : World) (h : I.IsSS (kI w) w a n c rows) (hn : n ≤ 1000) (ht : I.tot rows ≤ 1000000) (hl : ∀ i, (rows.getD i []).length ≤ 1000000) :
    Calls Try.prog 16 #[.slice a n c] w fun e w' => ∃ v, e = .returned v ∧ w'.ownsRow w.heap.size 3 1 v (inss ltI rows.flatten).length ((inss ltI rows.flatten).map (Value.int .i64)) ∧ Below w.heap.size w w' :=
  (callsIn_wide (n := 9)).1 (ints_in a n c rows w h hn ht hl)
end Go.Proofs.Ytkojbpifcflgfaa
