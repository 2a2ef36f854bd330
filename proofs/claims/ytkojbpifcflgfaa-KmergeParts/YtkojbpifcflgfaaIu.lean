/- The contract of Items. Conditions: how the rows lie; sizes. -/
import Derived.Test.YtkojbpifcflgfaaIt
namespace Go.Proofs.Ytkojbpifcflgfaa
open Go.RowKit Go.Shelf
attribute [local go_sem] Oper.semAt_some

/-- What the statement 'out = append(out, clone)' has left when these of its operations are through. -/
def Sx (W : World) (B D : Nat) (vo : Value) (m : Nat) (L0 : List Value) (zs : List Int) (L : Nat → Bool) (W' : World) : Prop :=
  Kr B vo.ownBlock W W' ∧ (L 5 = false → Boxed W' B 26 vo) ∧ (L 4 = false → W'.ownsRow D 41 1 vo m L0) ∧ (L 5 = true → ∃ v' x, Boxed W' B 26 v' ∧ W'.ownsRow D 41 1 v' (m + 1) (L0 ++ [x]) ∧ OwnB D W' x zs)
def Tx (W : World) (D : Nat) (vo item : Value) (m : Nat) (L0 : List Value) (zs : List Int) : Nat → Value → World → Prop
  | 0, v, _ => v = vo
  | 1, v, _ => v = item
  | 2, v, W' => OwnB D W' v zs
  | 3, v, W' => ∃ g x t, v = .slice (some ⟨g, 0, none⟩) 1 1 ∧ W.heap.size ≤ g ∧ W'.heap[g]? = some (.cells #[x] t (0, 0)) ∧ OwnB D W' x zs
  | 4, v, W' => ∃ x, W'.ownsRow D 41 1 v (m + 1) (L0 ++ [x]) ∧ OwnB D W' x zs
  | _, _, _ => True
theorem tx_below {W w w' : World} {D : Nat} {vo item : Value} {m : Nat} {L0 : List Value} {zs : List Int} (hb : Below w.heap.size w w') : ∀ j u, Tx W D vo item m L0 zs j u w → Tx W D vo item m L0 zs j u w'
  | 0, _, h => h
  | 1, _, h => h
  | 2, _, h => own_below h hb
  | 3, _, ⟨g, x, t, h1, h2, h3, h4⟩ => ⟨g, x, t, h1, h2, (hb.block g (Array.getElem?_eq_some_iff.1 h3).1).trans h3, own_below h4 hb⟩
  | 4, _, ⟨x, h1, h2⟩ => ⟨x, own_below h1 hb, own_below h2 hb⟩
  | _ + 5, _, _ => trivial
theorem sx_below {W w w' : World} {B D : Nat} {vo : Value} {m : Nat} {L0 : List Value} {zs : List Int} {L : Nat → Bool} (h : Sx W B D vo m L0 zs L w) (hb : Below w.heap.size w w') {i : Nat} (h4 : i ≠ 4) (h5 : i ≠ 5) : Sx W B D vo m L0 zs (updL L i) w' := by
  refine ⟨h.1.below hb, fun e => ?_, fun e => ?_, fun e => ?_⟩
  · rw [upd_ne (Ne.symm h5)] at e
    exact (hb.block B (h.2.1 e).lt).trans (h.2.1 e)
  · rw [upd_ne (Ne.symm h4)] at e
    exact own_below (h.2.2.1 e) hb
  · rw [upd_ne (Ne.symm h5)] at e
    obtain ⟨v', x, a1, a2, a3⟩ := h.2.2.2 e
    exact ⟨v', x, (hb.block B a1.lt).trans a1, own_below a2 hb, own_below a3 hb⟩

/-- What the caller keeps: its variable, its row, its clones. -/
structure Cb (w : World) (B D : Nat) (ls : List (List Int)) (W : World) : Prop where
  row : ∃ v xs, Boxed W B 26 v ∧ W.ownsRow D 41 1 v ls.length xs ∧ OwnBs D W xs ls
  bl : Below B w W
theorem Cb.kept {w U V : World} {B D r : Nat} {ls : List (List Int)} (h : Cb w B D ls U) (hr : B < r) (hk : Kept (fun j => j < r ∨ D ≤ j) U V) : Cb w B D ls V := by
  obtain ⟨v, xs, h1, h2, h3⟩ := h.row
  have ho : ∀ {e : TypeId} {v : Value} {n : Nat} {xs : List Value}, U.ownsRow D e 1 v n xs → V.ownsRow D e 1 v n xs := fun h2 => by
    refine ⟨h2.1, ?_⟩
    rcases h2.2 with h3 | ⟨g, cap, cur, e1, e2, e3, e4⟩
    · exact .inl h3
    · exact .inr ⟨g, cap, cur, e1, e2, (hk.block g (Array.getElem?_eq_some_iff.1 e3).1 (.inr e2)).trans e3, e4⟩
  refine ⟨⟨v, xs, (hk.block B h1.lt (.inl hr)).trans h1, ho h2, h3.imp (fun x l h => ho h)⟩, h.bl.trans ⟨hk.os, hk.tape, hk.output, hk.size, fun j hj => ?_⟩⟩
  have := h1.lt
  exact hk.block j (by omega) (.inl (by omega))
theorem own_tag41 {W : World} {D m : Nat} {vo : Value} {L0 : List Value} (h : W.ownsRow D 41 1 vo m L0) : ∀ j, vo.ownBlock = some j → D ≤ j ∧ j < W.heap.size ∧ ∃ cur, W.heap[j]? = some (.cells cur 41 (0, 0)) := fun j e => by
  rcases h.2 with ⟨h1, _⟩ | ⟨g, cap, cur, h1, h2, h3, _⟩
  · rw [h1] at e; simp [Value.ownBlock] at e
  · rw [h1] at e; simp [Value.ownBlock] at e; subst e; exact ⟨h2, (Array.getElem?_eq_some_iff.1 h3).1, cur, h3⟩
theorem Cb.next {w W W' : World} {B D r n0 b1 : Nat} {ls : List (List Int)} {vo : Value} {xs : List Value} {zs : List Int} {L : Nat → Bool} (h1 : Boxed W B 26 vo) (h2 : W.ownsRow D 41 1 vo ls.length xs) (h3 : OwnBs D W xs ls) (hbl : Below B w W) (hBr : B < r) (hrD : r ≤ D) (hn0 : n0 ≤ B) (hb1 : b1 ≠ B) (hb2 : b1 < r)
    (hS : Sx W B D vo ls.length xs zs L W') (hL : L 5 = true) : Cb w B D (ls ++ [zs]) W' ∧ KeepsFrom r W W' ∧ Kept (fun j => (j < n0 ∨ j = b1) ∨ (r ≤ j ∧ j < D)) W W' := by
  obtain ⟨hK, _, _, h5⟩ := hS
  obtain ⟨v', x, a1, a2, a3⟩ := h5 hL
  have ht := own_tag41 h2
  refine ⟨⟨⟨v', xs ++ [x], a1, by rw [List.length_append]; exact a2, OwnBs.snoc a3 (h3.imp (fun y l h => ownB_tag h (fun g cur hg he => ?_)))⟩, hbl.trans ⟨hK.os, hK.tape, hK.output, hK.size, fun j hj => ?_⟩⟩, ⟨hK.size, fun k o hk he hc => ?_⟩, ⟨hK.os, hK.tape, hK.output, hK.size, fun j hj hs => ?_⟩⟩
  · refine hK.block g (Array.getElem?_eq_some_iff.1 he).1 (by omega) (fun e => ?_)
    obtain ⟨_, _, c, hc⟩ := ht g e
    rw [he] at hc; simp at hc
  · exact hK.block j (by have := h1.lt; omega) (by omega) (fun e => by have := (ht j e).1; omega)
  · refine (hK.block k (Array.getElem?_eq_some_iff.1 he).1 (by omega) (fun e => ?_)).trans he
    obtain ⟨_, _, c, hc'⟩ := ht k e
    rw [he] at hc'; cases hc'; cases hc
  · exact hK.block j hj (by omega) (fun e => by have := (ht j e).1; omega)

set_option maxRecDepth 100000 in
set_option maxHeartbeats 8000000 in
/-- One item more is cloned and put behind. -/
theorem item_region (l B D : Nat) (vo : Value) (m : Nat) (L0 : List Value) (zs : List Int) (ia : Option Addr) (it ic : Nat) (W : World) (a0 : Act) (id : Nat) (Q : Exit → Act → World → Prop)
    (hz : a0.tmps.size = 15) (h3 : a0.eval (.tmp 3) = .pointer (some ⟨B, 0, none⟩)) (h4 : a0.eval (.tmp 4) = .slice ia it ic)
    (h1 : Boxed W B 26 vo) (h2 : W.ownsRow D 41 1 vo m L0) (hD : D ≤ W.heap.size) (hBD : B < D) (hm : m + 1 ≤ 1000000) (hit : it ≤ 1000000)
    (hsee : ∀ U, Kr B vo.ownBlock W U → IsI .u8 U ia it ic zs)
    (hQ : ∀ a W' L, Sx W B D vo m L0 zs L W' → L 5 = true → Q .normal a W') :
    (Code.region id (#[{ dst := some 9, op := Op.load 26 (Operand.tmp 3), type := 26, pos := "kmerge.go:22", after := #[], guard := none },
      { dst := some 10, op := Op.move (Operand.tmp 4), type := 41, pos := "kmerge.go:22", after := #[], guard := none },
      { dst := some 11, op := Op.call { callee := Callee.value (Operand.func 26), args := #[Operand.tmp 10], argTypes := #[41] }, type := 41, pos := "kmerge.go:22", after := #[{ on := 1, ground := Ground.data }], guard := none },
      { dst := some 12, op := Op.buildSlice 26 1 #[(0, Operand.tmp 11)], type := 26, pos := "kmerge.go:22", after := #[{ on := 2, ground := Ground.data }], guard := none },
      { dst := some 13, op := Op.call { callee := Callee.builtin Builtin.append, args := #[Operand.tmp 9, Operand.tmp 12], argTypes := #[26, 26] }, type := 26, pos := "kmerge.go:22", after := #[{ on := 0, ground := Ground.data }, { on := 3, ground := Ground.data }, { on := 2, ground := Ground.chain }], guard := none },
      { dst := none, op := Op.store 26 (Operand.tmp 3) (Operand.tmp 13), type := 0, pos := "kmerge.go:22", after := #[{ on := 4, ground := Ground.data }, { on := 4, ground := Ground.chain }, { on := 0, ground := Ground.phase }, { on := 1, ground := Ground.phase }, { on := 2, ground := Ground.phase }, { on := 3, ground := Ground.phase }, { on := 4, ground := Ground.phase }], guard := none }] : Array Oper) true).wpIn (Fence.wide.inRound l) (9 - 1 - 1) Try.prog Q a0 W := by
  obtain ⟨i0, hi0, hz0, hz1, hz2⟩ := info_parts Try.info41'
  have hBs := h1.lt
  have htag := own_tag41 h2
  refine wpIn_region_K (fun _ => trivial) rfl (fun m f args w R h => CallsIn.inRound l (callsIn_wide.2 h)) (by kernel_rfl) (by kernel_rfl) (by rw [hz]; kernel_rfl)
    (Sx W B D vo m L0 zs) (Tx W D vo (.slice ia it ic) m L0 zs) ⟨⟨rfl, rfl, rfl, Nat.le_refl _, fun _ _ _ _ => rfl⟩, fun _ => h1, fun _ => h2, fun e => by cases e⟩ ?_ (fun a W' L hS hL _ _ _ _ => hQ a W' L hS (hL 5 (by decide)))
  refine allL_cons ?_ (allL_cons ?_ (allL_cons ?_ (allL_cons ?_ (allL_cons ?_ (allL_cons ?_ allL_nil)))))
  · intro L a wx hS h
    have s3 : a.eval (.tmp 3) = .pointer (some ⟨B, 0, none⟩) := (h.fix 3 (by kernel_rfl)).trans h3
    have t3 := (ev_tmp a 3).symm.trans s3
    have c0 := (hS.2.1 (h.off 5 (by kernel_rfl))).cell
    rw [if_pos (wanted_none rfl)]
    refine does_val (v := vo) (w' := wx) ?_ ⟨rfl, sx_below hS (Below.refl _ _) (by decide) (by decide), fun _ _ _ h => h⟩
    simp [execOp, go_sem, t3, c0]
  · intro L a wx hS h
    have s4 : a.eval (.tmp 4) = .slice ia it ic := (h.fix 4 (by kernel_rfl)).trans h4
    have t4 := (ev_tmp a 4).symm.trans s4
    rw [if_pos (wanted_none rfl)]
    refine does_val (v := .slice ia it ic) (w' := wx) ?_ ⟨rfl, sx_below hS (Below.refl _ _) (by decide) (by decide), fun _ _ _ h => h⟩
    simp [execOp, go_sem, t4]
  · intro L a wx hS h
    have s10 : a.eval (.tmp 10) = .slice ia it ic := h.slot 0 1 10 rfl rfl
    have t10 := (ev_tmp a 10).symm.trans s10
    rw [if_pos (wanted_none rfl)]
    refine does_call (f := 26) (args := #[.slice ia it ic]) (w' := wx) (by simp [go_sem, t10]) ?_
    have hI := hsee wx hS.1
    refine (cloneB_any ia it ic zs wx hI (by omega)).mono ?_
    rintro e w' ⟨v', rfl, ho, hb⟩
    refine ⟨v', rfl, ?_, sx_below hS hb (by decide) (by decide), fun j u _ h => tx_below hb j u h⟩
    show OwnB D w' v' zs
    unfold OwnB
    rw [hI.hl]
    exact own_mono ho (Nat.le_trans hD hS.1.size)
  · intro L a wx hS h
    have s11 : OwnB D wx (a.eval (.tmp 11)) zs := h.slot 0 2 11 rfl rfl
    obtain ⟨x, hx⟩ : ∃ x, x = a.eval (.tmp 11) := ⟨_, rfl⟩
    rw [← hx] at s11
    obtain ⟨xa, xc, rfl⟩ := Ytkojbpifcflgfaa.B.own_slice s11
    have t11 := (ev_tmp a 11).symm.trans hx.symm
    have hb : Below wx.heap.size wx (wx.alloc (.cells #[.slice xa zs.length xc] 41)) := (Below.refl _ _).alloc (Nat.le_refl _) _
    rw [if_pos (wanted_none rfl)]
    refine does_val (v := .slice (some ⟨wx.heap.size, 0, none⟩) 1 1) (w' := wx.alloc (.cells #[.slice xa zs.length xc] 41)) ?_ ⟨⟨wx.heap.size, _, 41, rfl, hS.1.size, World.alloc_heap_new _ _, own_below s11 hb⟩, sx_below hS hb (by decide) (by decide), fun j u _ h => tx_below hb j u h⟩
    simp [execOp, go_sem, t11]
  · intro L a wx hS h
    have s9 : a.eval (.tmp 9) = vo := h.slot 0 0 9 rfl rfl
    have s12 : Tx W D vo (.slice ia it ic) m L0 zs 3 (a.eval (.tmp 12)) wx := h.slot 1 3 12 rfl rfl
    obtain ⟨g, x, t, e1, e2, e3, e4⟩ := s12
    have ho := hS.2.2.1 h.un
    have hx1 : x.oneCell' = true := by obtain ⟨xa, xc, rfl⟩ := Ytkojbpifcflgfaa.B.own_slice e4; rfl
    obtain ⟨v', w', hrun, r1, r2, r3⟩ := run_append_own (P := Try.prog) wx D 26 26 41 i0 (.slice none 0 0) 1 24 Try.underlying26 hi0 hz0 hz1 hz2 rfl (by decide) vo m L0 ho ⟨g, 0, none⟩ 1 1 [x] rfl (Ytkojbpifcflgfaa.B.at_one (by rw [Ytkojbpifcflgfaa.B.cell_of e3]; rfl)) (by intro u hu; simp at hu; subst hu; exact hx1) (by unfold maxLen; omega) (by omega) (Nat.le_trans hD hS.1.size)
    have hlt := fun j hj => (htag j hj)
    have st : ∀ j, j < wx.heap.size → vo.ownBlock ≠ some j → w'.heap[j]? = wx.heap[j]? := fun j hj hne => r2.block j hj (fun e => hne e.symm)
    have ob : ∀ y l, OwnB D wx y l → OwnB D w' y l := fun y l hy => ownB_tag hy (fun g' cur hg' he => st g' (Array.getElem?_eq_some_iff.1 he).1 (fun e => by
      obtain ⟨q1, q2, cur', hc'⟩ := own_tag41 ho g' e
      rw [he] at hc'; simp at hc'))
    rw [if_pos (wanted_none rfl)]
    refine does_val (exec_append rfl s9 e1 hrun) ⟨⟨x, r1, ob _ _ e4⟩, ⟨⟨r2.os.trans hS.1.os, r2.tape.trans hS.1.tape, r2.output.trans hS.1.output, Nat.le_trans hS.1.size r2.size, fun j hj j1 j2 => (st j (Nat.lt_of_lt_of_le hj hS.1.size) j2).trans (hS.1.block j hj j1 j2)⟩, fun e => ?_, fun e => ?_, fun e => ?_⟩, ?_⟩
    · rw [upd_ne (by decide)] at e
      have hb := hS.2.1 e
      exact (st B hb.lt (fun e' => by have := (htag B e').1; omega)).trans hb
    · rw [upd_same] at e; cases e
    · rw [upd_ne (by decide), h.off 5 (by kernel_rfl)] at e; cases e
    · intro j u hj hT
      match j, hj, hT with
      | 0, _, hT => exact hT
      | 1, _, hT => exact hT
      | 2, _, hT => exact ob _ _ hT
      | 3, _, ⟨g', x', t', q1, q2, q3, q4⟩ => exact ⟨g', x', t', q1, q2, (st g' (Array.getElem?_eq_some_iff.1 q3).1 (fun e => by have := (htag g' e).2.1; omega)).trans q3, ob _ _ q4⟩
      | 4, hj, _ => rw [h.un] at hj; cases hj
      | _ + 5, _, _ => trivial
  · intro L a wx hS h
    have s3 : a.eval (.tmp 3) = .pointer (some ⟨B, 0, none⟩) := (h.fix 3 (by kernel_rfl)).trans h3
    have t3 := (ev_tmp a 3).symm.trans s3
    have s13 : Tx W D vo (.slice ia it ic) m L0 zs 4 (a.eval (.tmp 13)) wx := h.slot 0 4 13 rfl rfl
    obtain ⟨x, e1, e2⟩ := s13
    obtain ⟨v, hv⟩ : ∃ v, v = a.eval (.tmp 13) := ⟨_, rfl⟩
    rw [← hv] at e1
    obtain ⟨va, vc, rfl⟩ := Ytkojbpifcflgfaa.B.own_slice e1
    have t13 := (ev_tmp a 13).symm.trans hv.symm
    have hbx := hS.2.1 h.un
    have c0 := hbx.cell
    have f0 := hbx.frozen
    have hs := grownBy_setCell' wx B (.slice va (m + 1) vc)
    have st : ∀ j, j ≠ B → (wx.setCell ⟨B, 0, none⟩ (.slice va (m + 1) vc)).heap[j]? = wx.heap[j]? := fun j hj => heap_setCell_other wx ⟨B, 0, none⟩ j _ hj
    have ob : ∀ y l, OwnB D wx y l → OwnB D (wx.setCell ⟨B, 0, none⟩ (.slice va (m + 1) vc)) y l := fun y l hy => ownB_tag hy (fun g' cur hg' _ => st g' (by omega))
    have oo : (wx.setCell ⟨B, 0, none⟩ (.slice va (m + 1) vc)).ownsRow D 41 1 (.slice va (m + 1) vc) (m + 1) (L0 ++ [x]) := e1.kept hs (.inr fun e => by have := (e1.lt B e).1; omega)
    rw [if_pos (wanted_none rfl)]
    refine does_skip (w' := wx.setCell ⟨B, 0, none⟩ (.slice va (m + 1) vc)) ?_ ⟨trivial, ⟨⟨hS.1.os, hS.1.tape, hS.1.output, by rw [World.size_setCell]; exact hS.1.size, fun j hj j1 j2 => (st j j1).trans (hS.1.block j hj j1 j2)⟩, fun e => ?_, fun e => ?_, fun _ => ⟨_, x, hbx.set _, oo, ob _ _ e2⟩⟩, ?_⟩
    · simp [execOp, go_sem, t3, t13, c0, f0]
    · rw [upd_same] at e; cases e
    · rw [upd_ne (by decide), h.on 0 4 rfl] at e; cases e
    · intro j u hj hT
      match j, hj, hT with
      | 0, _, hT => exact hT
      | 1, _, hT => exact hT
      | 2, _, hT => exact ob _ _ hT
      | 3, _, ⟨g', x', t', q1, q2, q3, q4⟩ => exact ⟨g', x', t', q1, q2, (st g' (by omega)).trans q3, ob _ _ q4⟩
      | 4, _, ⟨x', q1, q2⟩ => exact ⟨x', q1.kept hs (.inr fun e => by have := (q1.lt B e).1; omega), ob _ _ q2⟩
      | _ + 5, _, _ => trivial

/-- A row of items of the call's own, each of new bytes, handed back. -/
def NewB (w : World) (ls : List (List Int)) (e : Ending) (w' : World) : Prop := ∃ v xs, e = .returned v ∧ w'.ownsRow w.heap.size 41 1 v ls.length xs ∧ OwnBs w.heap.size w' xs ls ∧ Below w.heap.size w w'
def CbP (w : World) (D : Nat) (pre : List (Eb w × Nat)) (W : World) : Prop := Cb w w.heap.size D (pre.map (fun p => bsE p.1)) W

set_option maxRecDepth 100000 in
set_option maxHeartbeats 8000000 in
theorem items_in (a : Option Addr) (n c : Nat) (rows : List (List (List Int))) (w : World) (h : IsRR w a n c rows) (hn : n ≤ 1000) (ht : (rows.map List.length).sum ≤ 1000000) (hl : ∀ i, (rows.getD i []).length ≤ 1000000) (hb : ∀ r ∈ rows, ∀ x ∈ r, x.length ≤ 1000000) :
    CallsIn Fence.wide 9 Try.prog 12 #[.slice a n c] w (NewB w (inss li rows.flatten)) := by
  obtain ⟨R, hR, hRr⟩ := isSS_of_isRR h
  have htot : B.tot R = (rows.map List.length).sum := by
    rw [← hRr]; unfold B.tot; rw [List.map_map]; congr 2; funext r; simp
  have hlen : ∀ i, (R.getD i []).length ≤ 1000000 := fun i => by
    have := hl i
    rw [← hRr] at this
    simp only [List.getD_eq_getElem?_getD, List.getElem?_map] at this ⊢
    cases e : R[i]? with
    | none => simp
    | some r => rw [e] at this; simpa using this
  have hbE : ∀ r ∈ R, ∀ x ∈ r, (bsE x).length ≤ 1000000 := fun r hr x hx => hb (r.map bsE) (by rw [← hRr]; exact List.mem_map.2 ⟨r, hr, rfl⟩) _ (List.mem_map.2 ⟨x, hx, rfl⟩)
  have H : Hid (B.IsSS (kB w) w a n c R ∧ B.tot R ≤ 1000000 ∧ (∀ i, (R.getD i []).length ≤ 1000000) ∧ R.map (·.map bsE) = rows ∧ ∀ r ∈ R, ∀ x ∈ r, (bsE x).length ≤ 1000000) := ⟨hR, by rw [htot]; exact ht, hlen, hRr, hbE⟩
  have hm : ∀ V, Calls Try.prog 24 #[.func (.func 25) #[] #[], .slice a n c] V fun e w' => e = .returned (.func (.func 32) #[] #[.pointer (some ⟨V.heap.size, 0, none⟩), .pointer (some ⟨V.heap.size + 1, 0, none⟩)]) ∧ w' = (V.alloc (.cells #[.func (.func 25) #[] #[]] 47)).alloc (.cells #[.slice a n c] 22) := fun V => B.merged_any (kB w) a n c V
  have HM : Hid _ := hm
  clear h ht hl hm hR hRr htot hlen hb hbE
  refine callsIn_of_wp_marks Try.func12 rfl trivial ?_ rfl
  simp only [Try.ntmps12, List.size_toArray, List.length_cons, List.length_nil, Nat.reduceAdd, Nat.reduceSub, Array.replicate_succ, Array.replicate_zero, List.push_toArray, List.append_toArray, List.nil_append, List.cons_append]
  gi_wp2_with (refine ⟨trivial, ?_⟩; gi_at_call 24; refine (callsIn_wide.2 (HM.out _)).mono ?_; rintro e w3 ⟨rfl, rfl⟩)
  simp only [Nat.add_assoc, Nat.reduceAdd]
  have q0 : Boxed (((w.alloc (.cells #[.slice none 0 0] 26)).alloc (.cells #[.func (.func 25) #[] #[]] 47)).alloc (.cells #[.slice a n c] 22)) w.heap.size 26 (.slice none 0 0) := ((Boxed.new w 26 _).alloc _).alloc _
  have q1 : Boxed (((w.alloc (.cells #[.slice none 0 0] 26)).alloc (.cells #[.func (.func 25) #[] #[]] 47)).alloc (.cells #[.slice a n c] 22)) (w.heap.size + 1) 47 (.func (.func 25) #[] #[]) := by
    have := (Boxed.new (w.alloc (.cells #[.slice none 0 0] 26)) 47 (.func (.func 25) #[] #[])).alloc (.cells #[.slice a n c] 22)
    rwa [World.size_alloc] at this
  have q2 : Boxed (((w.alloc (.cells #[.slice none 0 0] 26)).alloc (.cells #[.func (.func 25) #[] #[]] 47)).alloc (.cells #[.slice a n c] 22)) (w.heap.size + 2) 22 (.slice a n c) := by
    have := Boxed.new ((w.alloc (.cells #[.slice none 0 0] 26)).alloc (.cells #[.func (.func 25) #[] #[]] 47)) 22 (.slice a n c)
    rwa [World.size_alloc, World.size_alloc] at this
  have hal : Below w.heap.size w (((w.alloc (.cells #[.slice none 0 0] 26)).alloc (.cells #[.func (.func 25) #[] #[]] 47)).alloc (.cells #[.slice a n c] 22)) := (((Below.refl _ _).alloc (Nat.le_refl _) _).alloc (by simp) _).alloc (by simp; omega) _
  have hsz : (((w.alloc (.cells #[.slice none 0 0] 26)).alloc (.cells #[.func (.func 25) #[] #[]] 47)).alloc (.cells #[.slice a n c] 22)).heap.size = w.heap.size + 3 := by simp
  obtain ⟨W0, hW0⟩ : ∃ W0, W0 = (((w.alloc (.cells #[.slice none 0 0] 26)).alloc (.cells #[.func (.func 25) #[] #[]] 47)).alloc (.cells #[.slice a n c] 22)) := ⟨_, rfl⟩
  rw [← hW0] at q0 q1 q2 hal hsz ⊢
  clear hW0 HM
  refine wpIn_rangeW (n := 9) (by decide) (gf := 32) (lb := #[.pointer (some ⟨w.heap.size + 1, 0, none⟩), .pointer (some ⟨w.heap.size + 2, 0, none⟩)]) rfl (enters_of Try.func32 (by kernel_rfl) rfl)
    (B.merged_in (okB w) (totB w) 8 (w.heap.size + 1) (w.heap.size + 2) a n c R W0 q1.cell q2.cell (by omega) (by omega) hal (by show w.heap.size ≤ _; omega) (fun U hU => H.out.1.below hU (Nat.le_refl _)) hn H.out.2.1 H.out.2.2.1)
    (fun j hj h => by show False; have h' : j < w.heap.size ∨ j = w.heap.size + 1 := h; omega) (Below.refl _ _) (fun _ => rfl)
    (CbP w)
    (fun D s U V h _ _ hk => Cb.kept (show Cb _ _ _ _ _ from h) (by omega) hk)
    ?h0
    (fun x => { tmps := #[.slice a n c, undef, .slice none 0 0, .pointer (some ⟨w.heap.size, 0, none⟩), .slice x.1.1.a x.1.1.n x.1.1.c, .slice a n c, .func (.func 32) #[] #[.pointer (some ⟨w.heap.size + 1, 0, none⟩), .pointer (some ⟨w.heap.size + 2, 0, none⟩)], .slice x.1.1.a x.1.1.n x.1.1.c, .int .i64 (x.2 : Int), undef, undef, undef, undef, undef, undef], defers := [] })
    ?assign ?body ?done
  case h0 =>
    intro V hV hs
    exact ⟨⟨.slice none 0 0, [], (hV.block _ (by omega)).trans q0, World.ownsRow_nil _ _ _ _, trivial⟩, hal.trans (hV.mono (by omega))⟩
  case assign =>
    intro l x W K hK
    dsimp only [B.encP, kB]
    gi_wp2
    exact hK
  case body =>
    intro l D pre x W hI hD hr hsp
    have hI : Cb w w.heap.size D (pre.map (fun p => bsE p.1)) W := hI
    obtain ⟨v, xs, b1, b2, b3⟩ := hI.row
    have hlen : (pre.map (fun p => bsE p.1)).length + 1 ≤ 1000000 := by
      have h1 : (pre ++ [x]).length ≤ B.tot R := hsp.1
      have h2 := H.out.2.1
      simp at h1 ⊢
      omega
    obtain ⟨r', y1, y2⟩ := hsp.2 x (by simp)
    have hxl := H.out.2.2.2.2 r' y1 x.1 y2
    have htag := own_tag41 b2
    have hsee : ∀ U, Kr w.heap.size v.ownBlock W U → IsI .u8 U x.1.1.a x.1.1.n x.1.1.c (bsE x.1) := fun U hU =>
      (x.1.2 U (hI.bl.trans ⟨hU.os, hU.tape, hU.output, hU.size, fun j hj => hU.block j (by have := b1.lt; omega) (by omega) (fun e => by have := (htag j e).1; omega)⟩)).1
    have hxn : x.1.1.n ≤ 1000000 := by
      have := (hsee W ⟨rfl, rfl, rfl, Nat.le_refl _, fun _ _ _ _ => rfl⟩).hl
      have h2 : (bsE x.1).length ≤ 1000000 := hxl
      omega
    refine wpIn_block ?_
    refine item_region l w.heap.size D v _ xs (bsE x.1) x.1.1.a x.1.1.n x.1.1.c W _ _ _ rfl rfl rfl b1 b2 hD (by omega) hlen hxn hsee ?_
    intro a W' L hS hL
    have e1 : (pre ++ [x]).map (fun p => bsE p.1) = pre.map (fun p => bsE p.1) ++ [bsE x.1] := by simp
    obtain ⟨n1, n2, n3⟩ := Cb.next (w := w) (W := W) (W' := W') (B := w.heap.size) (D := D) (r := w.heap.size + 3) (n0 := w.heap.size) (b1 := w.heap.size + 1) b1 b2 b3 hI.bl (by omega) (by omega) (Nat.le_refl _) (by omega) (by omega) hS hL
    exact ⟨by rw [hsz]; exact n2, by rw [hsz]; exact n3, by show Cb w w.heap.size D ((pre ++ [x]).map (fun p => bsE p.1)) _; rw [e1]; exact n1⟩
  case done =>
    intro D xs W hS hI hD hr hK
    obtain ⟨L, hL, hM⟩ := hS
    have hmt := B.mt_of (totB w) hL hM
    have hI : Cb w w.heap.size D (xs.map (fun p => bsE p.1)) W := hI
    obtain ⟨v, ys, b1, b2, b3⟩ := hI.row
    rw [mt_items hmt, H.out.2.2.2.1] at b2 b3
    have c0 := b1.cell
    have HF : Hid (W.heap[W0.heap.size]? = some (.deferred (some [])) ∧ W.ownsRow D 41 1 v (inss li rows.flatten).length ys ∧ Below w.heap.size w W ∧ D ≤ W.heap.size ∧ W0.heap.size + 2 ≤ D ∧ OwnBs D W ys (inss li rows.flatten)) := ⟨hK, b2, hI.bl, hD, hr, b3⟩
    clear b1 b2 b3 hI hL hM hmt hK
    gi_wp2_with fail
    refine ⟨by simp, .inl ⟨_, _, rfl, run_takeDeferred HF.out.1, ?_⟩⟩
    refine ⟨v, by simp [results, Try.results12, go_sem], v, ys, rfl, ?_, ?_, ?_⟩
    · exact own_mono (ownsRow_putObj HF.out.2.1 _ HF.out.1 rfl) (by have := HF.out.2.2.2.2.1; omega)
    · exact HF.out.2.2.2.2.2.imp (fun x l h => own_mono (ownsRow_putObj h _ HF.out.1 rfl) (by have := HF.out.2.2.2.2.1; omega))
    · exact HF.out.2.2.1.grown (grownBy_putObj' _ _ _) (by have := HF.out.2.2.2; omega) (fun k e => by cases e; omega)
theorem items_any (a : Option Addr) (n c : Nat) (rows : List (List (List Int))) (w : World) (h : IsRR w a n c rows) (hn : n ≤ 1000) (ht : (rows.map List.length).sum ≤ 1000000) (hl : ∀ i, (rows.getD i []).length ≤ 1000000) (hb : ∀ r ∈ rows, ∀ x ∈ r, x.length ≤ 1000000) :
    Calls Try.prog 12 #[.slice a n c] w (NewB w (inss li rows.flatten)) := (callsIn_wide (n := 9)).1 (items_in a n c rows w h hn ht hl hb)
end Go.Proofs.Ytkojbpifcflgfaa
