/- A range over a function whose iterator makes memory of its own, and goes on writing it between what it tells. Conditions: those of each theorem. -/
import Derived.Test.YtkojbpifcflgfaaVa
import Derived.RangeFuncBox
import Derived.RangeFuncNested
import Derived.RangeFuncCalls
namespace Go.Proofs.Ytkojbpifcflgfaa
open Go.RowKit

/-- Memory only grows, and these blocks stay. -/
structure Kept (S : Nat → Prop) (U V : World) : Prop where
  os : V.os = U.os
  tape : V.tape = U.tape
  output : V.output = U.output
  size : U.heap.size ≤ V.heap.size
  block : ∀ j, j < U.heap.size → S j → V.heap[j]? = U.heap[j]?
theorem Kept.trans {S : Nat → Prop} {x y z : World} (h : Kept S x y) (g : Kept S y z) : Kept S x z :=
  ⟨g.os.trans h.os, g.tape.trans h.tape, g.output.trans h.output, Nat.le_trans h.size g.size, fun j hj hs => (g.block j (Nat.lt_of_lt_of_le hj h.size) hs).trans (h.block j hj hs)⟩
theorem Kept.mono {S T : Nat → Prop} {x y : World} (h : Kept S x y) (hst : ∀ j, j < x.heap.size → T j → S j) : Kept T x y := ⟨h.os, h.tape, h.output, h.size, fun j hj ht => h.block j hj (hst j hj ht)⟩
theorem Kept.put {S : Nat → Prop} (U : World) (l : Nat) (o : Obj) (hl : ¬ S l) : Kept S U (U.putObj l o) := by
  have hg := grownBy_putObj' U l o
  exact ⟨hg.os, hg.tape, hg.output, hg.size, fun j hj hs => hg.block j hj (fun e => by cases e; exact hl hs)⟩

theorem size_put (U : World) (l : Nat) (o : Obj) : U.heap.size ≤ (U.putObj l o).heap.size := (Kept.put (S := fun _ => False) U l o id).size

/-- What such an iterator promises, to whom keeps K0 and what it makes itself, from W on below D. -/
def SeqW {α : Type} (n : Nat) (P : Program) (g : Nat) (lb : Array Value) (encs : α → Array Value) (K0 : Nat → Prop) (S Sp : List α → Prop) (w0 : World) : Prop :=
  ∀ (l : Nat) (J : Nat → List α → World → Prop) (W : World), Below w0.heap.size w0 W →
    (∀ D s U V, J D s U → D ≤ U.heap.size → W.heap.size ≤ D → Kept (fun j => j < W.heap.size ∨ D ≤ j) U V → J D s V) →
    (∀ D pre x W1, J D pre W1 → D ≤ W1.heap.size → W.heap.size ≤ D → Sp (pre ++ [x]) → YieldAt Fence.wide (n - 1) P l (encs x) W1 fun e W' => e = .returned (.bool true) ∧ J D (pre ++ [x]) W' ∧ Kept (fun j => K0 j ∨ (W.heap.size ≤ j ∧ j < D)) W1 W') →
    (∀ V, Below W.heap.size W V → J V.heap.size [] V) →
    CallsIn Fence.wide n P g (#[.func (.yield l) #[] #[]] ++ lb) W fun e W' => (∃ v, e = .returned v) ∧ ∃ D xs, S xs ∧ J D xs W' ∧ W.heap.size ≤ D ∧ D ≤ W'.heap.size

theorem wpIn_rangeW {α : Type} {n : Nat} {P : Program} {g : Operand} {ps : Array Tmp} {assign body : Code} {Q : Exit → Act → World → Prop} {a : Act} {w : World}
    (h1 : 1 ≤ n) {gf : Nat} {lb : Array Value} (hg : a.eval g = .func (.func gf) #[] lb) (eg : ∀ args w, (callFunc gf args).run P w = .ok (.enter gf args) w)
    {encs : α → Array Value} {S Sp : List α → Prop} {w0 : World} {K0 : Nat → Prop} (hseq : SeqW (n - 1) P gf lb encs K0 S Sp w0) (hK0 : ∀ j, w.heap.size ≤ j → ¬ K0 j)
    (hb0 : Below w0.heap.size w0 w) (hps : ∀ x, (encs x).size = ps.size)
    (I : Nat → List α → World → Prop) (hI : ∀ D s U V, I D s U → D ≤ U.heap.size → w.heap.size + 2 ≤ D → Kept (fun j => j < w.heap.size ∨ D ≤ j) U V → I D s V) (h0 : ∀ V, Below w.heap.size w V → w.heap.size + 2 ≤ V.heap.size → I V.heap.size [] V) (a₁ : α → Act)
    (hassign : ∀ (l : Nat) (x : α) (W : World) (K : Act → World → Prop), K (a₁ x) W →
      assign.wpIn (Fence.wide.inRound l) (n - 1 - 1) P (Exit.then K (fun _ _ _ => False)) { tmps := (ps.zip (encs x)).foldl (fun t (p, v) => t.setIfInBounds p v) a.tmps, defers := [] } W)
    (hbody : ∀ (l D : Nat) (pre : List α) (x : α) (W : World), I D pre W → D ≤ W.heap.size → w.heap.size + 2 ≤ D → Sp (pre ++ [x]) → body.wpIn (Fence.wide.inRound l) (n - 1 - 1) P (ownPostG w.heap.size (Kept (fun j => K0 j ∨ (w.heap.size ≤ j ∧ j < D))) (I D) (fun _ _ _ => False) (pre ++ [x]) W) (a₁ x) W)
    (hdone : ∀ (D : Nat) (xs : List α) (W : World), S xs → I D xs W → D ≤ W.heap.size → w.heap.size + 2 ≤ D → W.heap[w.heap.size]? = some (.deferred (some [])) → Q .normal { a with defers := { target := .collected w.heap.size, args := #[] } :: a.defers } W) :
    (Code.rangeFunc g ps assign body).wpIn Fence.wide n P Q a w := by
  refine wpIn_rangeFunc ?_
  intro fn hfn
  let rec' : LoopState → Option Code → Loop := fun st pe => { state := st, pending := pe, fn, tmps := a.tmps, params := ps, assign, body, defers := w.heap.size }
  let W1 : World := (w.alloc (.deferred (some []))).alloc (.loop (rec' .ready none))
  have hL : W1.heap[w.heap.size + 1]? = some (.loop (rec' .ready none)) := by
    have := World.alloc_heap_new (w.alloc (.deferred (some []))) (.loop (rec' .ready none)); rwa [World.size_alloc] at this
  have hD : W1.heap[w.heap.size]? = some (.deferred (some [])) := (Below.heap_alloc _ _ _ (by simp)).trans (World.alloc_heap_new w _)
  have hs1 : W1.heap.size = w.heap.size + 2 := by show ((w.alloc _).alloc _).heap.size = _; simp
  have hbw : Below w.heap.size w W1 := ((Below.refl _ w).alloc (Nat.le_refl _) _).alloc (by simp) _
  have hb1 : Below w0.heap.size w0 W1 := hb0.trans (hbw.mono hb0.size)
  let J : Nat → List α → World → Prop := fun D pre W => I D pre W ∧ W.heap[w.heap.size + 1]? = some (.loop (rec' .ready none)) ∧ W.heap[w.heap.size]? = some (.deferred (some []))
  have kp : ∀ {X Y : World} {D k : Nat} {o : Obj}, Kept (fun j => j < W1.heap.size ∨ D ≤ j) X Y → k < W1.heap.size → X.heap[k]? = some o → Y.heap[k]? = some o := fun h hk ho => (h.block _ (Array.getElem?_eq_some_iff.1 ho).1 (.inl hk)).trans ho
  have aJ : ∀ D s U V, J D s U → D ≤ U.heap.size → W1.heap.size ≤ D → Kept (fun j => j < W1.heap.size ∨ D ≤ j) U V → J D s V := fun D s U V hs hd h1 hk =>
    ⟨hI D s U V hs.1 hd (by omega) (hk.mono (fun j _ h => h.imp (fun h => by omega) id)), kp hk (by omega) hs.2.1, kp hk (by omega) hs.2.2⟩
  refine ⟨w.heap.size + 1, [{ target := .collected w.heap.size, args := #[] }], W1, { target := .fn (.func gf) lb, args := #[.func (.yield (w.heap.size + 1)) #[] #[]] }, W1, gf,
    #[.func (.yield (w.heap.size + 1)) #[] #[]] ++ lb, W1, run_enterLoop_outer _ _ _ _ _, ?_, ?_, ?_, fun _ => h1, ?_⟩
  · simp only [resolve, hg]
    simp [go_sem]
  · intro f' hf'; exact trivial
  · simp [invoke, go_sem, eg]
  · refine (hseq (w.heap.size + 1) J W1 hb1 aJ ?_ (fun V hV => ⟨h0 V (hbw.trans (hV.mono (by omega))) (by rw [← hs1]; exact hV.size), (hV.block _ (by omega)).trans hL, (hV.block _ (by omega)).trans hD⟩)).mono ?_
    · rintro D pre x W ⟨hi, hl, hk⟩ hDs hDl hsp
      have hlt : w.heap.size + 1 < W.heap.size := (Array.getElem?_eq_some_iff.1 hl).1
      refine ⟨fn, _, assign, body, run_yield (P := P) (args := encs x) hl (hps x), roundIn_of_wpIn hfn (hassign _ x W _ ?_)⟩
      refine ⟨_, run_beginRound hl rfl, ?_⟩
      let V : World := W.putObj (w.heap.size + 1) (.loop { rec' .ready none with state := .busy })
      have v1 : V.heap[w.heap.size + 1]? = some (.loop { rec' .ready none with state := .busy }) := World.putObj_heap_same hlt
      have v2 : V.heap[w.heap.size]? = some (.deferred (some [])) := (World.putObj_heap_other (by omega)).trans hk
      have hIV : I D pre V := hI D pre W V hi hDs (by omega) (Kept.put W _ _ (fun h => by omega))
      have hnk : ¬ (K0 (w.heap.size + 1) ∨ (W1.heap.size ≤ w.heap.size + 1 ∧ w.heap.size + 1 < D)) := fun h => by
        rcases h with h | h
        · exact hK0 _ (by omega) h
        · omega
      have vb : Kept (fun j => K0 j ∨ (W1.heap.size ≤ j ∧ j < D)) W V := Kept.put W _ _ hnk
      refine wpIn_mono (hbody _ D pre x V hIV (Nat.le_trans hDs (size_put W _ _)) (by omega) hsp) ?_
      rintro e a3 U hp
      cases e with
      | normal =>
        obtain ⟨p1, p2, p3⟩ := hp
        have hl3 := p1.same _ _ (by omega) v1 rfl
        have hk3 := p1.same _ _ (Nat.le_refl _) v2 rfl
        have hU : D ≤ U.heap.size := Nat.le_trans (Nat.le_trans hDs (size_put W _ _)) p2.size
        refine ⟨_, _, run_endRound (P := P) none hl3, rfl, ⟨hI D _ U _ p3 hU (by omega) (Kept.put U _ _ (fun h => by omega)), World.putObj_heap_same (Array.getElem?_eq_some_iff.1 hl3).1, (World.putObj_heap_other (by omega)).trans hk3⟩, ?_⟩
        exact (vb.trans (p2.mono (fun j _ h => h.imp id (fun h => ⟨by omega, h.2⟩)))).trans (Kept.put U _ _ hnk)
      | ret => exact hp.2.elim
      | exit id => exact hp.2.elim
      | goto t => exact hp.2.elim
      | panic ch => exact hp.elim
      | outgrown => exact hp.elim
    · rintro e U ⟨⟨v, rfl⟩, D, xs, hS, ⟨hi, hl, hk⟩, hD1, hD2⟩
      refine ⟨none, _, run_endLoop (P := P) hl (by simp [rec']), hdone D xs _ hS (hI D xs U _ hi hD2 (by omega) (Kept.put U _ _ (fun h => by omega))) ?_ (by omega) ((World.putObj_heap_other (by omega)).trans hk)⟩
      exact Nat.le_trans hD2 (size_put U _ _)
end Go.Proofs.Ytkojbpifcflgfaa
