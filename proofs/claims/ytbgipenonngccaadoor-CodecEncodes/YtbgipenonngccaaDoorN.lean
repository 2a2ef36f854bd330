/- What TakeAll's own variables hold, and how each step keeps it. Conditions: those of each theorem. -/
import Derived.Test.YtbgipenonngccaaDoorM
import Derived.Test.YtbgipenonngccaaDoorK
import Derived.Maps.AppendAt
import Derived.RangeFuncBox
namespace Go.Proofs.YtbgipenonngccaaDoor
open Go.RowKit Go.Shelf
attribute [local go_sem] Oper.semAt_some

theorem nums_stops (n Bn Bb n₀ g off cap : Nat) (ls rest : List Int) (h64 : All64 ls) (hls : ls.length ≤ 5000) (N : Nat) (T : List Told)
    (hN : (N = ls.length ∧ T = tolds ls h64 ls.length) ∨ (N = ls.length + 1 ∧ Sh rest ∧ T = tolds ls h64 ls.length ++ [short]))
    (w : World) (hg : g < n₀) (hn₀ : n₀ ≤ w.heap.size) (hb : Bb < w.heap.size) (hn : Bn < w.heap.size) (hcap : (zbs ls ++ rest).length ≤ cap) (hlb : (zbs ls ++ rest).length ≤ 140737480000000)
    (hBb : w.cell? ⟨Bb, 0, none⟩ = some (.slice (some ⟨g, off, none⟩) (zbs ls ++ rest).length cap)) (hBn : w.cell? ⟨Bn, 0, none⟩ = some (.int .i64 (N : Int)))
    (hc : ∀ i, i < (zbs ls ++ rest).length → w.cell? ⟨g, off + i, none⟩ = some (.int .u8 ((zbs ls ++ rest).getD i 0))) :
    SeqStopsK Fence.wide n Tryd.prog 45 #[.pointer (some ⟨Bn, 0, none⟩), .pointer (some ⟨Bb, 0, none⟩)] encT (Kq n₀ Bb Bn) (fun ys => ys = T) (fun pre => pre <+: T) T.length w := fun l J Jx W hW _ _ hY h0 =>
  nums_in n l Bn Bb n₀ g off cap ls rest h64 hls J Jx N T hN hY W hg hcap hlb ((hW.cell (p := ⟨Bb, 0, none⟩) hb).trans hBb) ((hW.cell (p := ⟨Bn, 0, none⟩) hn).trans hBn)
    (fun i hi => (hW.cell (p := ⟨g, off + i, none⟩) (Nat.lt_of_lt_of_le hg hn₀)).trans (hc i hi)) h0

theorem Tryd.info2 : (Tryd.prog.info? 2).map (fun i => (i.zero, i.size, i.bytes)) = some (some (.int .i64 0), 1, 8) := by kernel_rfl

/-- What TakeAll's own variables hold: the row that is gathered (in box BL), the place behind it (BE), the bytes (Bb) and the count (Bn) that the iterator looks at, the three results; and nothing older has turned. -/
structure Mem (b0 BL BE Bb Bn : Nat) (vb : Value) (N : Nat) (w W : World) (v : Value) (en : Int) : Prop where
  bl : Boxed W BL 22 v
  be : Boxed W BE 3 (.int .i64 en)
  bb : Boxed W Bb 24 vb
  bn : Boxed W Bn 3 (.int .i64 (N : Int))
  r4 : Boxed W b0 22 (.slice none 0 0)
  r5 : Boxed W (b0 + 1) 24 (.slice none 0 0)
  r6 : Boxed W (b0 + 1 + 1) 30 (.int .i64 0)
  bel : Below b0 w W

section
variable {b0 BL BE Bb Bn N : Nat} {vb v : Value} {w W W' : World} {en : Int} {row : Option Nat}

theorem Mem.grow (h : Mem b0 BL BE Bb Bn vb N w W v en) (hg : W.grownBy W' row) (hb : ∀ r, row = some r → b0 ≤ r) (hne : ∀ B t u, Boxed W B t u → t ≠ 2 → some B ≠ row) (hs : b0 ≤ W.heap.size) : Mem b0 BL BE Bb Bn vb N w W' v en :=
  ⟨h.bl.kept hg (hne _ _ _ h.bl (by decide)), h.be.kept hg (hne _ _ _ h.be (by decide)), h.bb.kept hg (hne _ _ _ h.bb (by decide)), h.bn.kept hg (hne _ _ _ h.bn (by decide)),
    h.r4.kept hg (hne _ _ _ h.r4 (by decide)), h.r5.kept hg (hne _ _ _ h.r5 (by decide)), h.r6.kept hg (hne _ _ _ h.r6 (by decide)), h.bel.grown hg hs hb⟩
theorem Mem.size (h : Mem b0 BL BE Bb Bn vb N w W v en) : b0 ≤ W.heap.size := Nat.le_of_lt h.r4.lt
theorem Mem.alloc (h : Mem b0 BL BE Bb Bn vb N w W v en) (o : Obj) : Mem b0 BL BE Bb Bn vb N w (W.alloc o) v en :=
  h.grow (World.grownBy_alloc W o none) (fun _ e => by cases e) (fun _ _ _ _ _ => by simp) h.size
theorem Mem.drew (h : Mem b0 BL BE Bb Bn vb N w W v en) : Mem b0 BL BE Bb Bn vb N w W.drew v en := ⟨h.bl, h.be, h.bb, h.bn, h.r4, h.r5, h.r6, h.bel.drew⟩
theorem Mem.other (h : Mem b0 BL BE Bb Bn vb N w W v en) (hg : W.grownBy W' row) (hr : ∀ r, row = some r → b0 ≤ r ∧ ∃ o : Obj, W.heap[r]? = some o ∧ o.isCells = false) : Mem b0 BL BE Bb Bn vb N w W' v en := by
  refine h.grow hg (fun r e => (hr r e).1) (fun B t u hB _ e => ?_) h.size
  obtain ⟨o, ho, hc⟩ := (hr B e.symm).2
  rw [show W.heap[B]? = _ from hB] at ho; cases ho; cases hc
theorem row_other {n : Nat} {xs : List Value} (h : W.ownsRow b0 2 1 v n xs) (hg : W.grownBy W' row) (hr : ∀ r, row = some r → ∃ o : Obj, W.heap[r]? = some o ∧ o.isCells = false) : W'.ownsRow b0 2 1 v n xs := by
  refine h.kept hg ?_
  rcases h.2 with ⟨rfl, _⟩ | ⟨g, cap, cur, rfl, _, hgb, _⟩
  · exact .inl rfl
  · refine .inr fun e => ?_
    obtain ⟨o, ho, hc⟩ := hr g (by rw [← e]; rfl)
    rw [hgb] at ho; cases ho; cases hc
/-- A store into the box of the row. -/
theorem Mem.setL (h : Mem b0 BL BE Bb Bn vb N w W v en) (h1 : b0 + 3 < BL) (h2 : BL < BE) (h3 : BE < Bb) (h4 : Bb < Bn) (v' : Value) : Mem b0 BL BE Bb Bn vb N w (W.setCell ⟨BL, 0, none⟩ v') v' en :=
  ⟨h.bl.set v', h.be.other (by omega) _, h.bb.other (by omega) _, h.bn.other (by omega) _, h.r4.other (by omega) _, h.r5.other (by omega) _, h.r6.other (by omega) _, h.bel.setCell (p := ⟨BL, 0, none⟩) (by simp; omega) _⟩
/-- A store into the box of the place. -/
theorem Mem.setE (h : Mem b0 BL BE Bb Bn vb N w W v en) (h1 : b0 + 3 < BL) (h2 : BL < BE) (h3 : BE < Bb) (h4 : Bb < Bn) (en' : Int) : Mem b0 BL BE Bb Bn vb N w (W.setCell ⟨BE, 0, none⟩ (.int .i64 en')) v en' :=
  ⟨h.bl.other (by omega) _, h.be.set _, h.bb.other (by omega) _, h.bn.other (by omega) _, h.r4.other (by omega) _, h.r5.other (by omega) _, h.r6.other (by omega) _, h.bel.setCell (p := ⟨BE, 0, none⟩) (by simp; omega) _⟩
theorem row_set {n : Nat} {xs : List Value} {B : Nat} {t : TypeId} {u : Value} (h : W.ownsRow b0 2 1 v n xs) (hB : Boxed W B t u) (ht : t ≠ 2) (u' : Value) : (W.setCell ⟨B, 0, none⟩ u').ownsRow b0 2 1 v n xs :=
  h.kept (grownBy_setCell' W B u') (.inr (hB.not_row ht h).symm)
theorem Kq.set {n₀ B : Nat} (h1 : n₀ ≤ B) (h2 : B ≠ Bb) (h3 : B ≠ Bn) (u : Value) : Kq n₀ Bb Bn W (W.setCell ⟨B, 0, none⟩ u) := fun k hk => Below.heap_setCell W ⟨B, 0, none⟩ u k (by simp; omega)
theorem Kq.alloc {n₀ : Nat} (h1 : n₀ ≤ W.heap.size) (h2 : Bb < W.heap.size) (h3 : Bn < W.heap.size) (o : Obj) : Kq n₀ Bb Bn W (W.alloc o) := fun k hk => Below.heap_alloc W o k (by omega)
theorem Kq.put {n₀ l : Nat} {o : Obj} (h1 : n₀ ≤ l) (h2 : Bb < l) (h3 : Bn < l) : Kq n₀ Bb Bn W (W.putObj l o) := fun k hk => World.putObj_heap_other (by omega)
end

/-- The loop's variable, a struct of three, in its box. -/
def Box3 (W : World) (B : Nat) (t : Told) : Prop := W.heap[B]? = some (.cells #[.int .u64 (t.u : Int), .int .i64 t.en, .int .i64 t.er] 68 (0, 0))
theorem Box3.lt {W : World} {B : Nat} {t : Told} (h : Box3 W B t) : B < W.heap.size := (Array.getElem?_eq_some_iff.1 h).1
theorem Box3.cell0 {W : World} {B : Nat} {t : Told} (h : Box3 W B t) : W.cell? ⟨B, 0, none⟩ = some (.int .u64 (t.u : Int)) := by simp [World.cell?, show W.heap[B]? = _ from h]
theorem Box3.cell1 {W : World} {B : Nat} {t : Told} (h : Box3 W B t) : W.cell? ⟨B, 1, none⟩ = some (.int .i64 t.en) := by simp [World.cell?, show W.heap[B]? = _ from h]
theorem Box3.cell2 {W : World} {B : Nat} {t : Told} (h : Box3 W B t) : W.cell? ⟨B, 2, none⟩ = some (.int .i64 t.er) := by simp [World.cell?, show W.heap[B]? = _ from h]
theorem Box3.kept {W W' : World} {row : Option Nat} {B : Nat} {t : Told} (h : Box3 W B t) (hg : W.grownBy W' row) (hne : some B ≠ row) : Box3 W' B t := (hg.block B h.lt hne).trans h


/-- What the operations of 'l = append(l, Zag(t.u))' yield. -/
def T9 (v : Value) (Bx BL b0 k : Nat) (t : Told) (xs : List Int) : Nat → Value → World → Prop
  | 0, u, _ => u = v
  | 1, u, _ => u = .pointer (some ⟨Bx, 0, none⟩)
  | 2, u, _ => u = .int .u64 (t.u : Int)
  | 3, u, _ => u = .int .i64 (zg (t.u : Int))
  | 4, u, w => ∃ h, u = .slice (some ⟨h, 0, none⟩) 1 1 ∧ w.cell? ⟨h, 0, none⟩ = some (.int .i64 (zg (t.u : Int))) ∧ some h ≠ v.ownBlock ∧ h ≠ BL
  | 5, u, w => ∃ g c, u = .slice (some ⟨g, 0, none⟩) (k + 1) c ∧ w.ownsRow b0 2 1 (.slice (some ⟨g, 0, none⟩) (k + 1) c) (k + 1) ((xs ++ [zg (t.u : Int)]).map (Value.int .i64))
  | _, _, _ => True
/-- What lies in memory while it goes. -/
def S9 (b0 BL BE Bb Bn : Nat) (vb : Value) (N : Nat) (w Ws : World) (v : Value) (en : Int) (Bx k : Nat) (t : Told) (xs : List Int) (L : Nat → Bool) (W : World) : Prop :=
  KeepsOthers Ws W ∧ Kq b0 Bb Bn Ws W ∧ Box3 W Bx t ∧
    (if L 6 = true then ∃ v', Mem b0 BL BE Bb Bn vb N w W v' en ∧ W.ownsRow b0 2 1 v' (k + 1) ((xs ++ [zg (t.u : Int)]).map (Value.int .i64))
     else Mem b0 BL BE Bb Bn vb N w W v en ∧ (L 5 = false → W.ownsRow b0 2 1 v k (xs.map (Value.int .i64))))

section
variable {b0 BL BE Bb Bn N Bx k : Nat} {vb v : Value} {w Ws W : World} {en : Int} {t : Told} {xs : List Int} {L : Nat → Bool}

theorem S9.same (h : S9 b0 BL BE Bb Bn vb N w Ws v en Bx k t xs L W) (i : Nat) (h5 : i ≠ 5) (h6 : i ≠ 6) : S9 b0 BL BE Bb Bn vb N w Ws v en Bx k t xs (upd L i) W := by
  unfold S9 at *
  rw [upd_ne (Ne.symm h5), upd_ne (Ne.symm h6)]
  exact h
theorem S9.mem (h : S9 b0 BL BE Bb Bn vb N w Ws v en Bx k t xs L W) (h6 : L 6 = false) : Mem b0 BL BE Bb Bn vb N w W v en := by
  obtain ⟨_, _, _, h4⟩ := h
  rw [if_neg (by simp [h6])] at h4
  exact h4.1
theorem S9.row (h : S9 b0 BL BE Bb Bn vb N w Ws v en Bx k t xs L W) (h6 : L 6 = false) (h5 : L 5 = false) : W.ownsRow b0 2 1 v k (xs.map (Value.int .i64)) := by
  obtain ⟨_, _, _, h4⟩ := h
  rw [if_neg (by simp [h6])] at h4
  exact h4.2 h5
theorem S9.alloc (h : S9 b0 BL BE Bb Bn vb N w Ws v en Bx k t xs L W) (h6 : L 6 = false) (h5 : L 5 = false) (o : Obj) : S9 b0 BL BE Bb Bn vb N w Ws v en Bx k t xs (upd L 4) (W.alloc o) := by
  have hm := h.mem h6
  have hr := h.row h6 h5
  obtain ⟨h1, h2, h3, _⟩ := h
  refine ⟨h1.trans (KeepsOthers.alloc _ _), h2.trans (Kq.alloc hm.size hm.bb.lt hm.bn.lt _), h3.kept (World.grownBy_alloc W o none) (by simp), ?_⟩
  rw [if_neg (by rw [upd_ne (by decide)]; simp [h6])]
  exact ⟨hm.alloc _, fun _ => hr.alloc _⟩
theorem S9.append {W' : World} {xs' : List Value} {u : Value} {n : Nat} (h : S9 b0 BL BE Bb Bn vb N w Ws v en Bx k t xs L W) (h6 : L 6 = false) (h5 : L 5 = false) (hg : W.grownBy W' v.ownBlock) (_ : W'.ownsRow b0 2 1 u n xs') (hbx : b0 ≤ Bb) (hbn : b0 ≤ Bn) :
    S9 b0 BL BE Bb Bn vb N w Ws v en Bx k t xs (upd L 5) W' := by
  have hm := h.mem h6
  have hr := h.row h6 h5
  obtain ⟨h1, h2, h3, _⟩ := h
  have hrow : ∀ j o, v.ownBlock = some j → W.heap[j]? = some o → ∃ cur, o = .cells cur 2 (0, 0) := by
    intro j o ej hj
    rcases hr.2 with ⟨rfl, _⟩ | ⟨g, cap, cur, rfl, _, hgb, _⟩
    · simp [Value.ownBlock] at ej
    · obtain rfl : g = j := by simpa [Value.ownBlock] using ej
      rw [hgb] at hj; cases hj; exact ⟨cur, rfl⟩
  have hne : ∀ B t u, Boxed W B t u → t ≠ 2 → some B ≠ v.ownBlock := fun B t u hB ht e => by
    obtain ⟨cur, hc⟩ := hrow B _ e.symm hB
    cases hc; exact ht rfl
  have hk : Kq b0 Bb Bn W W' := by
    intro j hj
    refine hg.block j ?_ ?_
    · rcases hj with hj | rfl | rfl
      · have := hm.size; omega
      · exact hm.bb.lt
      · exact hm.bn.lt
    · rcases hj with hj | rfl | rfl
      · intro e; have := (hr.lt j e.symm).1; omega
      · exact hne _ _ _ hm.bb (by decide)
      · exact hne _ _ _ hm.bn (by decide)
  refine ⟨h1.trans (KeepsOthers.of_grownBy hg fun j o ej hj => ?_), h2.trans hk, h3.kept hg ?_, ?_⟩
  · obtain ⟨cur, rfl⟩ := hrow j o ej hj; rfl
  · intro e
    obtain ⟨cur, hc⟩ := hrow Bx _ e.symm h3
    cases hc
  · rw [if_neg (by rw [upd_ne (by decide)]; simp [h6])]
    exact ⟨hm.grow hg (fun r e => (hr.lt r e).1) hne hm.size, fun h => by rw [upd_same] at h; cases h⟩
theorem S9.store {v' : Value} (h : S9 b0 BL BE Bb Bn vb N w Ws v en Bx k t xs L W) (h6 : L 6 = false) (hr' : W.ownsRow b0 2 1 v' (k + 1) ((xs ++ [zg (t.u : Int)]).map (Value.int .i64))) (g1 : b0 + 3 < BL) (g2 : BL < BE) (g3 : BE < Bb) (g4 : Bb < Bn) (g5 : Bn < Bx) :
    S9 b0 BL BE Bb Bn vb N w Ws v en Bx k t xs (upd L 6) (W.setCell ⟨BL, 0, none⟩ v') := by
  have hm := h.mem h6
  obtain ⟨h1, h2, h3, _⟩ := h
  refine ⟨h1.trans (KeepsOthers.setCell _ _ _), h2.trans (Kq.set (by omega) (by omega) (by omega) _), h3.kept (grownBy_setCell' W BL v') (by simp; omega), ?_⟩
  rw [if_pos upd_same]
  exact ⟨v', hm.setL g1 g2 g3 g4 v', row_set hr' hm.bl (by decide) v'⟩
end

/-- The three results of an error. -/
theorem err_end {b0 BL BE Bb Bn N : Nat} {vb v : Value} {w W : World} {en : Int} (hm : Mem b0 BL BE Bb Bn vb N w W v en) (er : Int) :
    KeepsOthers W ((((W.setCell ⟨b0, 0, none⟩ (.slice none 0 0)).setCell ⟨b0 + 1, 0, none⟩ (.slice none 0 0)).setCell ⟨b0 + 1 + 1, 0, none⟩ (.int .i64 er)).drew) ∧
    Boxed ((((W.setCell ⟨b0, 0, none⟩ (.slice none 0 0)).setCell ⟨b0 + 1, 0, none⟩ (.slice none 0 0)).setCell ⟨b0 + 1 + 1, 0, none⟩ (.int .i64 er)).drew) b0 22 (.slice none 0 0) ∧
    Boxed ((((W.setCell ⟨b0, 0, none⟩ (.slice none 0 0)).setCell ⟨b0 + 1, 0, none⟩ (.slice none 0 0)).setCell ⟨b0 + 1 + 1, 0, none⟩ (.int .i64 er)).drew) (b0 + 1) 24 (.slice none 0 0) ∧
    Boxed ((((W.setCell ⟨b0, 0, none⟩ (.slice none 0 0)).setCell ⟨b0 + 1, 0, none⟩ (.slice none 0 0)).setCell ⟨b0 + 1 + 1, 0, none⟩ (.int .i64 er)).drew) (b0 + 1 + 1) 30 (.int .i64 er) ∧
    Below b0 w ((((W.setCell ⟨b0, 0, none⟩ (.slice none 0 0)).setCell ⟨b0 + 1, 0, none⟩ (.slice none 0 0)).setCell ⟨b0 + 1 + 1, 0, none⟩ (.int .i64 er)).drew) := by
  refine ⟨(((KeepsOthers.setCell _ _ _).trans (KeepsOthers.setCell _ _ _)).trans (KeepsOthers.setCell _ _ _)).trans (KeepsOthers.drew _), ?_, ?_, ?_, ?_⟩
  · exact ((hm.r4.set _).other (by omega) _).other (by omega) _
  · exact ((hm.r5.other (by omega) _).set _).other (by omega) _
  · exact ((hm.r6.other (by omega) _).other (by omega) _).set _
  · exact ((((hm.bel.setCell (p := ⟨b0, 0, none⟩) (Nat.le_refl _) _).setCell (p := ⟨b0 + 1, 0, none⟩) (by simp) _).setCell (p := ⟨b0 + 1 + 1, 0, none⟩) (by simp; omega) _)).drew

theorem tolds_er (ls : List Int) (h : All64 ls) (k : Nat) : ∀ t ∈ tolds ls h k, t.er = 0 := by
  intro t ht
  unfold tolds at ht
  obtain ⟨j, _, rfl⟩ := List.mem_map.1 ht
  rfl
theorem box_put {W : World} {D B : Nat} {t : TypeId} {u : Value} {ds : Option (List Deferred)} (h : Boxed W B t u) (hK : W.heap[D]? = some (.deferred ds)) (o : Obj) : Boxed (W.putObj D o) B t u := by
  refine h.kept (grownBy_putObj' W D o) fun e => ?_
  have e' : B = D := Option.some.inj e
  rw [← e', show W.heap[B]? = _ from h] at hK
  cases hK
theorem short_of {ls : List Int} {h64 : All64 ls} {N : Nat} {T pre p : List Told} {t : Told} {rest : List Int} (hN : (N = ls.length ∧ T = tolds ls h64 ls.length) ∨ (N = ls.length + 1 ∧ Sh rest ∧ T = tolds ls h64 ls.length ++ [short]))
    (hpre : pre <+: T) (e1 : pre = p ++ [t]) (e3 : t.er ≠ 0) : N = ls.length + 1 ∧ t.er = 10 := by
  have ht : t ∈ T := hpre.subset (by rw [e1]; simp)
  rcases hN with ⟨_, e⟩ | ⟨h1, _, e⟩
  · rw [e] at ht; exact absurd (tolds_er ls h64 _ t ht) e3
  · refine ⟨h1, ?_⟩
    rw [e] at ht
    rcases List.mem_append.1 ht with ht | ht
    · exact absurd (tolds_er ls h64 _ t ht) e3
    · simp at ht; rw [ht]; rfl

theorem own_below {u u' : World} {base : Nat} {e : TypeId} {size : Nat} {v : Value} {n : Nat} {xs : List Value} (h : u.ownsRow base e size v n xs) (hb : Below u.heap.size u u') : u'.ownsRow base e size v n xs := by
  refine ⟨h.1, ?_⟩
  rcases h.2 with h0 | ⟨g, cap, cur, h1, h2, h3, h4⟩
  · exact .inl h0
  · exact .inr ⟨g, cap, cur, h1, h2, (hb.block g (Array.getElem?_eq_some_iff.1 h3).1).trans h3, h4⟩
theorem own_set {W : World} {base n B : Nat} {e t : TypeId} {v u : Value} {xs : List Value} (h : W.ownsRow base e 1 v n xs) (hB : Boxed W B t u) (ht : t ≠ e) (u' : Value) : (W.setCell ⟨B, 0, none⟩ u').ownsRow base e 1 v n xs :=
  h.kept (grownBy_setCell' W B u') (.inr (hB.not_row ht h).symm)
theorem def_set {W : World} {D B : Nat} {t : TypeId} {u : Value} {ds : Option (List Deferred)} (hK : W.heap[D]? = some (.deferred ds)) (hB : Boxed W B t u) (u' : Value) : (W.setCell ⟨B, 0, none⟩ u').heap[D]? = some (.deferred ds) := by
  refine (Below.heap_setCell W ⟨B, 0, none⟩ u' D fun e => ?_).trans hK
  simp only at e
  rw [e, show W.heap[B]? = _ from hB] at hK
  cases hK

/-- What lies in memory while the three results are stored. -/
structure S11 (b0 s2 D r : Nat) (w : World) (v : Value) (e : Int) (ls rest : List Int) (L : Nat → Bool) (u : World) : Prop where
  k : u.heap[D]? = some (.deferred (some []))
  bel : Below b0 w u
  bl : Boxed u s2 22 v
  be : Boxed u (s2 + 1) 3 (.int .i64 e)
  row : u.ownsRow b0 2 1 v ls.length (ls.map (Value.int .i64))
  r4 : ∃ x, Boxed u b0 22 x ∧ (L 5 = true → x = v)
  r5 : ∃ x, Boxed u (b0 + 1) 24 x ∧ (L 6 = true → ∃ h, x = .slice (some ⟨h, 0, none⟩) r r ∧ u.ownsRow b0 5 1 x r (rest.map (Value.int .u8)))
  r6 : ∃ x, Boxed u (b0 + 1 + 1) 30 x ∧ (L 7 = true → x = .int .i64 0)
section
variable {b0 s2 D r : Nat} {w u u' : World} {v : Value} {e : Int} {ls rest : List Int} {L : Nat → Bool}
theorem S11.same (h : S11 b0 s2 D r w v e ls rest L u) (i : Nat) (h5 : i ≠ 5) (h6 : i ≠ 6) (h7 : i ≠ 7) : S11 b0 s2 D r w v e ls rest (upd L i) u := by
  refine ⟨h.k, h.bel, h.bl, h.be, h.row, ?_, ?_, ?_⟩
  · rw [upd_ne (Ne.symm h5)]; exact h.r4
  · rw [upd_ne (Ne.symm h6)]; exact h.r5
  · rw [upd_ne (Ne.symm h7)]; exact h.r6
theorem box_below {B : Nat} {t : TypeId} {x : Value} (h : Boxed u B t x) (hb : Below u.heap.size u u') : Boxed u' B t x := (hb.block B h.lt).trans h
theorem S11.grown (h : S11 b0 s2 D r w v e ls rest L u) (hb : Below u.heap.size u u') (hs : b0 ≤ u.heap.size) : S11 b0 s2 D r w v e ls rest (upd L 4) u' := by
  obtain ⟨x4, a4, b4⟩ := h.r4
  obtain ⟨x5, a5, b5⟩ := h.r5
  obtain ⟨x6, a6, b6⟩ := h.r6
  refine ⟨(hb.block D (Array.getElem?_eq_some_iff.1 h.k).1).trans h.k, h.bel.trans (hb.mono hs), box_below h.bl hb, box_below h.be hb, own_below h.row hb, ?_, ?_, ?_⟩
  · rw [upd_ne (by decide)]; exact ⟨x4, box_below a4 hb, b4⟩
  · rw [upd_ne (by decide)]; exact ⟨x5, box_below a5 hb, fun hl => by obtain ⟨h', e1, e2⟩ := b5 hl; exact ⟨h', e1, own_below e2 hb⟩⟩
  · rw [upd_ne (by decide)]; exact ⟨x6, box_below a6 hb, b6⟩
theorem S11.set4 (h : S11 b0 s2 D r w v e ls rest L u) (g1 : b0 + 3 < s2) : S11 b0 s2 D r w v e ls rest (upd L 5) (u.setCell ⟨b0, 0, none⟩ v) := by
  obtain ⟨x4, a4, b4⟩ := h.r4
  obtain ⟨x5, a5, b5⟩ := h.r5
  obtain ⟨x6, a6, b6⟩ := h.r6
  refine ⟨def_set h.k a4 _, h.bel.setCell (p := ⟨b0, 0, none⟩) (Nat.le_refl _) _, h.bl.other (by omega) _, h.be.other (by omega) _, own_set h.row a4 (by decide) _, ⟨v, a4.set v, fun _ => rfl⟩, ?_, ?_⟩
  · rw [upd_ne (by decide)]; exact ⟨x5, a5.other (by omega) _, fun hl => by obtain ⟨h', e1, e2⟩ := b5 hl; exact ⟨h', e1, own_set e2 a4 (by decide) _⟩⟩
  · rw [upd_ne (by decide)]; exact ⟨x6, a6.other (by omega) _, b6⟩
theorem S11.set5 {h' : Nat} (h : S11 b0 s2 D r w v e ls rest L u) (g1 : b0 + 3 < s2) (hr : u.ownsRow b0 5 1 (.slice (some ⟨h', 0, none⟩) r r) r (rest.map (Value.int .u8))) : S11 b0 s2 D r w v e ls rest (upd L 6) (u.setCell ⟨b0 + 1, 0, none⟩ (.slice (some ⟨h', 0, none⟩) r r)) := by
  obtain ⟨x4, a4, b4⟩ := h.r4
  obtain ⟨x5, a5, b5⟩ := h.r5
  obtain ⟨x6, a6, b6⟩ := h.r6
  refine ⟨def_set h.k a5 _, h.bel.setCell (p := ⟨b0 + 1, 0, none⟩) (by simp) _, h.bl.other (by omega) _, h.be.other (by omega) _, own_set h.row a5 (by decide) _, ?_, ⟨_, a5.set _, fun _ => ⟨h', rfl, own_set hr a5 (by decide) _⟩⟩, ?_⟩
  · rw [upd_ne (by decide)]; exact ⟨x4, a4.other (by omega) _, b4⟩
  · rw [upd_ne (by decide)]; exact ⟨x6, a6.other (by omega) _, b6⟩
theorem S11.set6 (h : S11 b0 s2 D r w v e ls rest L u) (g1 : b0 + 3 < s2) : S11 b0 s2 D r w v e ls rest (upd L 7) (u.setCell ⟨b0 + 1 + 1, 0, none⟩ (.int .i64 0)) := by
  obtain ⟨x4, a4, b4⟩ := h.r4
  obtain ⟨x5, a5, b5⟩ := h.r5
  obtain ⟨x6, a6, b6⟩ := h.r6
  refine ⟨def_set h.k a6 _, h.bel.setCell (p := ⟨b0 + 1 + 1, 0, none⟩) (by simp; omega) _, h.bl.other (by omega) _, h.be.other (by omega) _, own_set h.row a6 (by decide) _, ?_, ?_, ⟨_, a6.set _, fun _ => rfl⟩⟩
  · rw [upd_ne (by decide)]; exact ⟨x4, a4.other (by omega) _, b4⟩
  · rw [upd_ne (by decide)]; exact ⟨x5, a5.other (by omega) _, fun hl => by obtain ⟨h', e1, e2⟩ := b5 hl; exact ⟨h', e1, own_set e2 a6 (by decide) _⟩⟩
end
/-- What the operations of the last return yield. -/
def T11 (v vb : Value) (e : Int) (A : Option Addr) (b0 r c : Nat) (rest : List Int) : Nat → Value → World → Prop
  | 0, u, _ => u = v
  | 1, u, _ => u = vb
  | 2, u, _ => u = .int .i64 e
  | 3, u, _ => u = .slice A r c
  | 4, u, w => ∃ h, u = .slice (some ⟨h, 0, none⟩) r r ∧ w.ownsRow b0 5 1 (.slice (some ⟨h, 0, none⟩) r r) r (rest.map (Value.int .u8))
  | _, _, _ => True

theorem toNat_zz {n : Int} (h0 : -9223372036854775808 ≤ n) (h1 : n ≤ 9223372036854775807) : (((zz n).toNat : Nat) : Int) = zz n := by
  have := zz_bd h0 h1; omega
theorem vals_tolds (ls : List Int) (h : All64 ls) : ∀ k, k ≤ ls.length → (tolds ls h k).map (fun t => zg (t.u : Int)) = ls.take k
  | 0, _ => rfl
  | k + 1, hk => by
    rw [tolds_succ, List.map_append, vals_tolds ls h k (by omega), List.take_succ_eq_append_getElem (by omega)]
    simp only [List.map_cons, List.map_nil, toldAt]
    rw [toNat_zz (h k).1 (h k).2, zg_zz]
    simp [List.getD, show k < ls.length by omega]
theorem last_tolds (ls : List Int) (h : All64 ls) : ∀ k, ((tolds ls h k).getLast?.map (·.en)).getD 0 = (En ls k : Int)
  | 0 => by simp [tolds, En, zbs]
  | k + 1 => by rw [tolds_succ]; simp [toldAt]
theorem En_all (ls rest : List Int) : En ls ls.length + rest.length = (zbs ls ++ rest).length := by
  unfold En; rw [List.take_length, List.length_append]
theorem rest_drop (ls rest : List Int) : (zbs ls ++ rest).drop (En ls ls.length) = rest := by
  rw [drop_at, List.drop_length]; rfl
end Go.Proofs.YtbgipenonngccaaDoor
