/- What while keeps in memory; HasPrefix. No conditions but those of each theorem. -/
import Derived.Test.YtocjmbhfpofoeaaDoorGk
namespace Go.Proofs.YtocjmbhfpofoeaaDoor
open Go.RowKit

/-- All blocks but one, and but a row of one's own, are as they were. -/
structure Ob2 (b : Nat) (ob : Option Nat) (U V : World) : Prop where
  os : V.os = U.os
  tape : V.tape = U.tape
  output : V.output = U.output
  size : U.heap.size ≤ V.heap.size
  far : ∀ g, g < U.heap.size → g ≠ b → some g ≠ ob → V.heap[g]? = U.heap[g]?
theorem Ob2.refl (b : Nat) (ob : Option Nat) (U : World) : Ob2 b ob U U := ⟨rfl, rfl, rfl, Nat.le_refl _, fun _ _ _ _ => rfl⟩
theorem Ob2.below {b : Nat} {ob : Option Nat} {U V W : World} (h : Ob2 b ob U V) (hb : Below V.heap.size V W) : Ob2 b ob U W :=
  ⟨hb.os.trans h.os, hb.tape.trans h.tape, hb.output.trans h.output, Nat.le_trans h.size hb.size, fun g hg h1 h2 => (hb.block g (Nat.lt_of_lt_of_le hg h.size)).trans (h.far g hg h1 h2)⟩
theorem Ob2.grown {b : Nat} {ob : Option Nat} {U V W : World} (h : Ob2 b ob U V) (hg : V.grownBy W ob) : Ob2 b ob U W :=
  ⟨hg.os.trans h.os, hg.tape.trans h.tape, hg.output.trans h.output, Nat.le_trans h.size hg.size, fun g hl h1 h2 => (hg.block g (Nat.lt_of_lt_of_le hl h.size) h2).trans (h.far g hl h1 h2)⟩
theorem Ob2.set {b : Nat} {ob : Option Nat} {U V : World} (h : Ob2 b ob U V) (v : Value) : Ob2 b ob U (V.setCell ⟨b, 0, none⟩ v) :=
  have hg := grownBy_setCell' V b v
  ⟨hg.os.trans h.os, hg.tape.trans h.tape, hg.output.trans h.output, Nat.le_trans h.size hg.size, fun g hl h1 h2 => (hg.block g (Nat.lt_of_lt_of_le hl h.size) (fun e => by cases e; exact h1 rfl)).trans (h.far g hl h1 h2)⟩
theorem Ob2.bel {b n : Nat} {ob : Option Nat} {U V : World} (h : Ob2 b ob U V) (hb : n ≤ b) (ho : ∀ g, ob = some g → n ≤ g) (hn : n ≤ U.heap.size) : Below n U V :=
  ⟨h.os, h.tape, h.output, h.size, fun g hg => h.far g (by omega) (by omega) (fun e => by have := ho g e.symm; omega)⟩

/-- What while holds: the items that it has, its variables. -/
structure Iw (n0 N : Nat) (wp : World) (item fv : Value) (W : World) (Ls : List (List Int)) : Prop where
  row : ∃ v xs, Boxed W (N + 3) 22 v ∧ W.ownsRow (N + 6) 23 1 v Ls.length xs ∧ RdX W xs Ls
  wf : WfR Ls
  it : Boxed W N 23 item
  fn : Boxed W (N + 1) 40 fv
  rs : Boxed W (N + 2) 22 (.slice none 0 0)
  bx : N + 6 ≤ W.heap.size
  bl : Below n0 wp W
/-- Blocks of a row aren't boxes. -/
theorem Iw.next {n0 N : Nat} {wp W V : World} {item fv : Value} {Ls Ls' : List (List Int)} (h : Iw n0 N wp item fv W Ls) (hn : n0 ≤ N) {v v' : Value} {k : Nat} {xs : List Value} (ho : W.ownsRow (N + 6) 23 1 v k xs) (hb : Ob2 (N + 3) v.ownBlock W V)
    {xs' : List Value} (h1 : Boxed V (N + 3) 22 v') (h2 : V.ownsRow (N + 6) 23 1 v' Ls'.length xs') (h3 : RdX V xs' Ls') (h4 : WfR Ls') : Iw n0 N wp item fv V Ls' := by
  have hlt := fun g hg => (ho.lt g hg).1
  have fr : ∀ g, g < N + 6 → g ≠ N + 3 → V.heap[g]? = W.heap[g]? := fun g hg hne => hb.far g (by have := h.bx; omega) hne (fun e => by have := hlt g e.symm; omega)
  exact ⟨⟨v', xs', h1, h2, h3⟩, h4, (fr N (by omega) (by omega)).trans h.it, (fr (N + 1) (by omega) (by omega)).trans h.fn, (fr (N + 2) (by omega) (by omega)).trans h.rs, Nat.le_trans h.bx hb.size, h.bl.trans (hb.bel (by omega) (fun g e => by have := hlt g e; omega) (by have := h.bx; omega))⟩
theorem Iw.below {n0 N : Nat} {wp W V : World} {item fv : Value} {Ls : List (List Int)} (h : Iw n0 N wp item fv W Ls) (hn : n0 ≤ N) (hb : Below W.heap.size W V) : Iw n0 N wp item fv V Ls := by
  obtain ⟨v, xs, r1, r2, r3⟩ := h.row
  have hs := h.bx
  exact ⟨⟨v, xs, (hb.block _ r1.lt).trans r1, own_below r2 hb, r3.keep (K5.of_below hb)⟩, h.wf, (hb.block _ h.it.lt).trans h.it, (hb.block _ h.fn.lt).trans h.fn, (hb.block _ h.rs.lt).trans h.rs, Nat.le_trans h.bx hb.size, h.bl.trans (hb.mono (by omega))⟩
/-- Where a block of whoever called is written, that is no row of bytes. -/
theorem Iw.far {n0 N Bn : Nat} {wp W V : World} {item fv u : Value} {t : TypeId} {Ls : List (List Int)} (h : Iw n0 N wp item fv W Ls) (hn : n0 ≤ Bn) (hB : Bn < N) (ht : t ≠ 5) (hbx : Boxed W Bn t u) (hg : W.grownBy V (some Bn)) : Iw n0 N wp item fv V Ls := by
  obtain ⟨v, xs, r1, r2, r3⟩ := h.row
  have k5 : K5 W V := K5.of_grown hg fun g e => by cases e; exact ⟨_, t, _, hbx, ht⟩
  have ne : ∀ g, g ≠ Bn → some g ≠ some Bn := fun g h e => h (Option.some.inj e)
  refine ⟨⟨v, xs, r1.kept hg (ne _ (by omega)), r2.kept hg ?_, r3.keep k5⟩, h.wf, h.it.kept hg (ne _ (by omega)), h.fn.kept hg (ne _ (by omega)), h.rs.kept hg (ne _ (by omega)), Nat.le_trans h.bx hg.size, h.bl.grown hg (by have := h.bx; omega) (fun j e => by cases e; exact hn)⟩
  cases hb : v.ownBlock with
  | none => exact .inl rfl
  | some g => exact .inr (fun e => by cases e; have := (r2.lt _ hb).1; omega)
theorem Iw.ab {n0 N : Nat} {wp : World} {item fv : Value} (hn : n0 ≤ N) {β : Type} (f : β → List (List Int)) : AbB (N + 4) 29 (N + 6) (fun (s : β) W => Iw n0 N wp item fv W (f s)) := fun s U U' row h hg hr => by
  obtain ⟨v, xs, r1, r2, r3⟩ := h.row
  have ne : ∀ g, g < N + 4 → some g ≠ row := fun g h e => by
    rcases hr g e.symm with ⟨h', _⟩ | ⟨h', _⟩ <;> omega
  refine ⟨⟨v, xs, r1.kept hg (ne _ (by omega)), r2.kept hg ?_, r3.keep (k5_grown (by decide) hg fun r e => (hr r e).imp id fun h => h.2)⟩, h.wf, h.it.kept hg (ne _ (by omega)), h.fn.kept hg (ne _ (by omega)), h.rs.kept hg (ne _ (by omega)), Nat.le_trans h.bx hg.size, h.bl.grown hg (by have := h.bx; omega) (fun r e => ?_)⟩
  · cases hb : v.ownBlock with
    | none => exact .inl rfl
    | some g =>
      refine .inr fun e => ?_
      have hl := (r2.lt g hb).1
      rcases hr g e.symm with ⟨h, _⟩ | ⟨_, o, e', c⟩
      · omega
      · obtain ⟨cur, f', q⟩ := own_tag r2 g hb
        rw [q] at e'; cases e'; cases c
  · rcases hr r e with ⟨h, _⟩ | ⟨h, _⟩ <;> omega
/-- What a round keeps for the loop and for the iterator. -/
structure Ks (n0 N : Nat) (W V : World) : Prop where
  kf : KeepsFrom (N + 6) W V
  it : Kf n0 (N + 4) W V
theorem Ks.refl (n0 N : Nat) (W : World) : Ks n0 N W W := ⟨KeepsFrom.refl _ _, Below.refl _ _, rfl, rfl⟩
theorem Ks.trans {n0 N : Nat} {X Y Z : World} (h : Ks n0 N X Y) (k : Ks n0 N Y Z) : Ks n0 N X Z := ⟨h.kf.trans k.kf, h.it.1.trans k.it.1, k.it.2.1.trans h.it.2.1, k.it.2.2.trans h.it.2.2⟩
theorem Ks.of_below {n0 N : Nat} {W V : World} (hb : Below W.heap.size W V) (hn : n0 ≤ N) (hs : N + 6 ≤ W.heap.size) : Ks n0 N W V :=
  ⟨⟨hb.size, fun k o _ e _ => (hb.block k (blk_lt e)).trans e⟩, hb.mono (by omega), hb.block _ (by omega), hb.block _ (by omega)⟩
theorem Ks.of_far {n0 N Bn : Nat} {W V : World} (hg : W.grownBy V (some Bn)) (hn : n0 ≤ Bn) (hB : Bn < N) (hs : N + 6 ≤ W.heap.size) : Ks n0 N W V :=
  ⟨KeepsFrom.of_grownBy hg (fun j e => by cases e; omega), ⟨hg.os, hg.tape, hg.output, hg.size, fun k hk => hg.block k (by omega) (fun e => by cases e; omega)⟩, hg.block _ (by omega) (fun e => by cases e; omega), hg.block _ (by omega) (fun e => by cases e; omega)⟩
theorem Ks.of_ob {n0 N k : Nat} {W V : World} {v : Value} {xs : List Value} (ho : W.ownsRow (N + 6) 23 1 v k xs) (hb : Ob2 (N + 3) v.ownBlock W V) (hn : n0 ≤ N) (hs : N + 6 ≤ W.heap.size) : Ks n0 N W V := by
  have hlt := fun g hg => (ho.lt g hg).1
  have fr : ∀ g, g < N + 6 → g ≠ N + 3 → V.heap[g]? = W.heap[g]? := fun g hg hne => hb.far g (by omega) hne (fun e => by have := hlt g e.symm; omega)
  refine ⟨⟨hb.size, fun q o hq e c => (hb.far q (blk_lt e) (by omega) (fun h => ?_)).trans e⟩, hb.bel (by omega) (fun g e => by have := hlt g e; omega) (by omega), fr _ (by omega) (by omega), fr _ (by omega) (by omega)⟩
  obtain ⟨cur, f, q'⟩ := own_tag ho q h.symm
  rw [e] at q'; cases q'; cases c

/-- Does a row of bytes begin so? -/
def pfx (y f : List Int) : Bool := decide (f.length ≤ y.length ∧ y.take f.length = f)
set_option maxRecDepth 20000 in
theorem prefix_any (a b : Option Addr) (n c m d : Nat) (y f : List Int) (w : World) (hy : Bytes y) (hf : Bytes f) (h1 : IsI .u8 w a n c y) (h2 : IsI .u8 w b m d f) :
    Calls Tryd.prog 42 #[.slice a n c, .slice b m d] w fun e w' => e = .returned (.bool (pfx y f)) ∧ w' = w := by
  have l1 := h1.hl
  have l2 := h2.hl
  have hnc := h1.hc
  have hcm := h1.hm
  unfold maxLen at hcm
  by_cases hm : m ≤ n
  · have hm' : (m : Int) ≤ (n : Int) := by omega
    have hm2 : (m : Int) ≤ (c : Int) := by omega
    have h3 : IsI .u8 w a m c (y.take m) := ⟨by rw [List.length_take]; omega, by omega, h1.hm, h1.rd.take m, h1.nil⟩
    have HE : Hid _ := equal_any a b m c m d (y.take m) f w (bytes_take hy m) hf h3 h2
    have hq : pfx y f = decide (y.take m = f) := by
      unfold pfx
      rw [l1, l2]
      simp [hm]
    rw [hq]
    obtain ⟨q, hq'⟩ : ∃ q, Hid (q = decide (y.take m = f)) := ⟨_, rfl⟩
    rw [← hq'.out] at HE ⊢
    clear hq h1 h2 h3 hq' l1 l2
    go_enter Tryd.func42, Tryd.ntmps42
    go_wp2_with fail
    refine Calls.mono HE.out ?_
    rintro e w' ⟨rfl, hw'⟩; rw [hw']; clear hw' w'
    go_wp2_with fail
    go_ret
    exact ⟨rfl, rfl⟩
  · have hm' : ¬ (m : Int) ≤ (n : Int) := by omega
    have hq : pfx y f = false := by
      unfold pfx
      rw [l1, l2]
      simp [hm]
    rw [hq]
    clear hq h1 h2 l1 l2
    go_enter Tryd.func42, Tryd.ntmps42
    go_wp2_with fail
    go_ret
    exact ⟨rfl, rfl⟩
end Go.Proofs.YtocjmbhfpofoeaaDoor
