/- A range over a function whose iterator writes one variable of its own, and hands in what it has just made. Conditions: those of each theorem. -/
import Derived.Test.YtocjmbhfpofoeaaDoorVa
import Derived.RangeFuncBox
import Derived.RangeFuncNested
import Derived.RangeFuncCalls
namespace Go.Proofs.YtocjmbhfpofoeaaDoor
open Go.RowKit

/-- What is said of memory stands where block B is written, where memory grows, and where a block of book-keeping at or beyond N is written. -/
def AbB {β : Type} (B : Nat) (t : TypeId) (N : Nat) (I : β → World → Prop) : Prop :=
  ∀ s U U' row, I s U → U.grownBy U' row → (∀ r, row = some r → (r = B ∧ ∃ v v', Boxed U B t v ∧ Boxed U' B t v') ∨ (N ≤ r ∧ ∃ o : Obj, U.heap[r]? = some o ∧ o.isCells = false)) → I s U'
/-- The same of what an iterator does: it writes B alone. -/
def AbJ {β : Type} (B : Nat) (t : TypeId) (J : β → World → Prop) : Prop :=
  ∀ s U U' row, J s U → U.grownBy U' row → (∀ r, row = some r → r = B ∧ ∃ v v', Boxed U B t v ∧ Boxed U' B t v') → J s U'
theorem AbB.put {β : Type} {B N : Nat} {t : TypeId} {I : β → World → Prop} (h : AbB B t N I) {s : β} {U : World} {l : Nat} {o : Obj} (o' : Obj) (hs : I s U) (hN : N ≤ l) (hl : U.heap[l]? = some o) (ho : o.isCells = false) : I s (U.putObj l o') :=
  h s U _ (some l) hs (grownBy_putObj' U l o') (fun r e => by cases e; exact .inr ⟨hN, o, hl, ho⟩)
theorem AbB.alloc {β : Type} {B N : Nat} {t : TypeId} {I : β → World → Prop} (h : AbB B t N I) {s : β} {U : World} (o : Obj) (hs : I s U) : I s (U.alloc o) :=
  h s U _ none hs (World.grownBy_alloc U o none) (fun r e => by cases e)
theorem grown_keeps_ne {U U' : World} {row : Option Nat} (hg : U.grownBy U' row) {k : Nat} {o : Obj} (hk : U.heap[k]? = some o) (hne : row ≠ some k) : U'.heap[k]? = some o :=
  (hg.block k (Array.getElem?_eq_some_iff.1 hk).1 (fun e => hne e.symm)).trans hk

/-- What an iterator promises: whatever its caller keeps of memory (where the iterator's own variable may be written), it hands in elements, each of which reads as E says, one by one. -/
def SeqB {α : Type} (B : Nat) (t : TypeId) (E : α → World → Prop) (n : Nat) (P : Program) (g : Nat) (lb : Array Value) (encs : α → Array Value) (Kp : World → World → Prop) (S Sp : List α → Prop) (w0 : World) : Prop :=
  ∀ (l : Nat) (J Jx : List α → World → Prop) (W : World), Below w0.heap.size w0 W → AbJ B t J → AbJ B t Jx →
    (∀ pre x W1, J pre W1 → Sp (pre ++ [x]) → E x W1 → YieldAt Fence.wide (n - 1) P l (encs x) W1 fun e W' =>
      (e = .returned (.bool true) ∧ J (pre ++ [x]) W' ∧ Kp W1 W') ∨ (e = .returned (.bool false) ∧ Jx (pre ++ [x]) W')) →
    J [] W →
    CallsIn Fence.wide n P g (#[.func (.yield l) #[] #[]] ++ lb) W fun e W' => (∃ v, e = .returned v) ∧ ((∃ xs, S xs ∧ J xs W') ∨ (∃ pre, Sp pre ∧ Jx pre W'))

theorem below_put {N : Nat} {U : World} {l : Nat} {o' : Obj} (h : N ≤ l) (hN : N ≤ U.heap.size) : Below N U (U.putObj l o') := by
  have hg := grownBy_putObj' U l o'
  exact ⟨hg.os, hg.tape, hg.output, hg.size, fun k hk => hg.block k (by omega) (fun e => by cases e; omega)⟩

theorem wpIn_rangeB {α : Type} {n : Nat} {P : Program} {g : Operand} {ps : Array Tmp} {assign body : Code} {Q : Exit → Act → World → Prop} {a : Act} {w : World}
    (h1 : 1 ≤ n) {gf : Nat} {lb : Array Value} (hg : a.eval g = .func (.func gf) #[] lb) (eg : ∀ args w, (callFunc gf args).run P w = .ok (.enter gf args) w)
    {encs : α → Array Value} {S Sp : List α → Prop} {B : Nat} {t : TypeId} {E : α → World → Prop} {w0 : World} {Kp : World → World → Prop} (hseq : SeqB B t E (n - 1) P gf lb encs Kp S Sp w0) (hKt : ∀ {X Y Z : World}, Kp X Y → Kp Y Z → Kp X Z) (hKb : ∀ (W : World) (l : Nat) (o' : Obj), w.heap.size ≤ l → w.heap.size ≤ W.heap.size → Kp W (W.putObj l o'))
    (hb0 : Below w0.heap.size w0 w) (hB : B < w0.heap.size) (hps : ∀ x, (encs x).size = ps.size)
    (I : List α → World → Prop) (Ix : Code → List α → World → Prop) (hI : AbB B t w.heap.size I) (hIx : ∀ c, AbB B t w.heap.size (Ix c)) (hE : AbB B t w.heap.size E) (h0 : I [] w) (a₁ : α → Act)
    (hassign : ∀ (l : Nat) (x : α) (W : World) (K : Act → World → Prop), K (a₁ x) W →
      assign.wpIn (Fence.wide.inRound l) (n - 1 - 1) P (Exit.then K (fun _ _ _ => False)) { tmps := (ps.zip (encs x)).foldl (fun t (p, v) => t.setIfInBounds p v) a.tmps, defers := [] } W)
    (hbody : ∀ (l : Nat) (pre : List α) (x : α) (W : World), I pre W → Sp (pre ++ [x]) → E x W → body.wpIn (Fence.wide.inRound l) (n - 1 - 1) P (ownPostG w.heap.size Kp I Ix (pre ++ [x]) W) (a₁ x) W)
    (hdone : ∀ (D : Nat) (xs : List α) (W : World), w.heap.size ≤ D → S xs → I xs W → W.heap[D]? = some (.deferred (some [])) → Q .normal { a with defers := { target := .collected D, args := #[] } :: a.defers } W)
    (hstop : ∀ (D : Nat) (c : Code) (pre : List α) (W : World), w.heap.size ≤ D → Sp pre → Ix c pre W → W.heap[D]? = some (.deferred (some [])) → c.wpIn Fence.wide n P Q { a with defers := { target := .collected D, args := #[] } :: a.defers } W) :
    (Code.rangeFunc g ps assign body).wpIn Fence.wide n P Q a w := by
  have hwB : B < w.heap.size := Nat.lt_of_lt_of_le hB hb0.size
  refine wpIn_rangeFunc ?_
  intro fn hfn
  -- the record, as it is in each of its states
  let rec' : LoopState → Option Code → Loop := fun st pe => { state := st, pending := pe, fn, tmps := a.tmps, params := ps, assign, body, defers := w.heap.size }
  let W1 : World := (w.alloc (.deferred (some []))).alloc (.loop (rec' .ready none))
  have hL : W1.heap[w.heap.size + 1]? = some (.loop (rec' .ready none)) := by
    have := World.alloc_heap_new (w.alloc (.deferred (some []))) (.loop (rec' .ready none)); rwa [World.size_alloc] at this
  have hD : W1.heap[w.heap.size]? = some (.deferred (some [])) := (Below.heap_alloc _ _ _ (by simp)).trans (World.alloc_heap_new w _)
  have hI1 : I [] W1 := hI.alloc _ (hI.alloc _ h0)
  have hb1 : Below w0.heap.size w0 W1 := hb0.trans ((((Below.refl _ w).alloc (Nat.le_refl _) _).alloc (by simp) _).mono hb0.size)
  have keep : ∀ {X Y : World} {row : Option Nat} {k : Nat} {o : Obj}, X.grownBy Y row → (∀ r, row = some r → r = B ∧ ∃ v v', Boxed X B t v ∧ Boxed Y B t v') → w.heap.size ≤ k → X.heap[k]? = some o → Y.heap[k]? = some o :=
    fun hgr hr hk ho => grown_keeps_ne hgr ho (fun e => by have := (hr _ e).1; omega)
  -- what the iterator keeps for us: what we say, the record, the block for what is deferred
  let J : List α → World → Prop := fun pre W => I pre W ∧ W.heap[w.heap.size + 1]? = some (.loop (rec' .ready none)) ∧ W.heap[w.heap.size]? = some (.deferred (some []))
  let Jx : List α → World → Prop := fun pre W => ∃ c, Ix c pre W ∧ W.heap[w.heap.size + 1]? = some (.loop (rec' .done (some c))) ∧ W.heap[w.heap.size]? = some (.deferred (some []))
  have aJ : AbJ B t J := fun s X Y row hs hgr hr => ⟨hI s X Y row hs.1 hgr (fun r e => .inl (hr r e)), keep hgr hr (by omega) hs.2.1, keep hgr hr (Nat.le_refl _) hs.2.2⟩
  have aJx : AbJ B t Jx := fun s X Y row hs hgr hr => by
    obtain ⟨c, hc, x1, x2⟩ := hs
    exact ⟨c, hIx c s X Y row hc hgr (fun r e => .inl (hr r e)), keep hgr hr (by omega) x1, keep hgr hr (Nat.le_refl _) x2⟩
  refine ⟨w.heap.size + 1, [{ target := .collected w.heap.size, args := #[] }], W1, { target := .fn (.func gf) lb, args := #[.func (.yield (w.heap.size + 1)) #[] #[]] }, W1, gf,
    #[.func (.yield (w.heap.size + 1)) #[] #[]] ++ lb, W1, run_enterLoop_outer _ _ _ _ _, ?_, ?_, ?_, fun _ => h1, ?_⟩
  · simp only [resolve, hg]
    simp [go_sem]
  · intro f' hf'; exact trivial
  · simp [invoke, go_sem, eg]
  · refine (hseq (w.heap.size + 1) J Jx W1 hb1 aJ aJx ?_ ⟨hI1, hL, hD⟩).mono ?_
    · rintro pre x W ⟨hi, hl, hk⟩ hsp hex
      have hlt : w.heap.size + 1 < W.heap.size := (Array.getElem?_eq_some_iff.1 hl).1
      refine ⟨fn, _, assign, body, run_yield (P := P) (args := encs x) hl (hps x), roundIn_of_wpIn hfn (hassign _ x W _ ?_)⟩
      refine ⟨_, run_beginRound hl rfl, ?_⟩
      let V : World := W.putObj (w.heap.size + 1) (.loop { rec' .ready none with state := .busy })
      have v1 : V.heap[w.heap.size + 1]? = some (.loop { rec' .ready none with state := .busy }) := World.putObj_heap_same hlt
      have v2 : V.heap[w.heap.size]? = some (.deferred (some [])) := (World.putObj_heap_other (by omega)).trans hk
      have vb : Kp W V := hKb _ _ _ (by omega) (by omega)
      refine wpIn_mono (hbody _ pre x V (hI.put _ hi (by omega) hl rfl) hsp (hE.put _ hex (by omega) hl rfl)) ?_
      have fin : ∀ (jump : Option Code) (U : World), KeepsFrom w.heap.size V U →
          (Instr.endRound (w.heap.size + 1) jump).run P U = .ok (.bool jump.isNone) (U.putObj (w.heap.size + 1) (.loop (rec' (if jump.isNone then .ready else .done) jump))) ∧
          U.heap[w.heap.size + 1]? = some (.loop { rec' .ready none with state := .busy }) ∧
          (U.putObj (w.heap.size + 1) (.loop (rec' (if jump.isNone then .ready else .done) jump))).heap[w.heap.size + 1]? = some (.loop (rec' (if jump.isNone then .ready else .done) jump)) ∧
          (U.putObj (w.heap.size + 1) (.loop (rec' (if jump.isNone then .ready else .done) jump))).heap[w.heap.size]? = some (.deferred (some [])) := fun jump U hU => by
        have hl3 := hU.same _ _ (by omega) v1 rfl
        exact ⟨run_endRound (P := P) jump hl3, hl3, World.putObj_heap_same (Array.getElem?_eq_some_iff.1 hl3).1, (World.putObj_heap_other (by omega)).trans (hU.same _ _ (Nat.le_refl _) v2 rfl)⟩
      rintro e a3 U hp
      cases e with
      | normal =>
        obtain ⟨p1, p2, p3⟩ := hp
        obtain ⟨q1, q2, q3, q4⟩ := fin none U p1
        exact ⟨_, _, q1, .inl ⟨rfl, ⟨hI.put _ p3 (by omega) q2 rfl, q3, q4⟩, hKt (hKt vb p2) (hKb _ _ _ (by omega) (by have := (Array.getElem?_eq_some_iff.1 q2).1; omega))⟩⟩
      | ret =>
        obtain ⟨p1, p3⟩ := hp
        obtain ⟨q1, q2, q3, q4⟩ := fin (some .ret) U p1
        exact ⟨_, _, q1, .inr ⟨rfl, .ret, (hIx _).put _ p3 (by omega) q2 rfl, q3, q4⟩⟩
      | exit id =>
        obtain ⟨p1, p3⟩ := hp
        obtain ⟨q1, q2, q3, q4⟩ := fin (some (.exit id)) U p1
        exact ⟨_, _, q1, .inr ⟨rfl, .exit id, (hIx _).put _ p3 (by omega) q2 rfl, q3, q4⟩⟩
      | goto t =>
        obtain ⟨p1, p3⟩ := hp
        obtain ⟨q1, q2, q3, q4⟩ := fin (some (.goto t)) U p1
        exact ⟨_, _, q1, .inr ⟨rfl, .goto t, (hIx _).put _ p3 (by omega) q2 rfl, q3, q4⟩⟩
      | panic ch => exact hp.elim
      | outgrown => exact hp.elim
    · rintro e U ⟨⟨v, rfl⟩, (⟨xs, hS, hi, hl, hk⟩ | ⟨pre, hSp, c, hi, hl, hk⟩)⟩
      · exact ⟨none, _, run_endLoop (P := P) hl (by simp [rec']), hdone _ xs _ (Nat.le_refl _) hS (hI.put _ hi (by omega) hl rfl) ((World.putObj_heap_other (by omega)).trans hk)⟩
      · exact ⟨some c, _, run_endLoop (P := P) hl (by simp [rec']), hstop _ c pre _ (Nat.le_refl _) hSp ((hIx c).put _ hi (by omega) hl rfl) ((World.putObj_heap_other (by omega)).trans hk)⟩
end Go.Proofs.YtocjmbhfpofoeaaDoor
