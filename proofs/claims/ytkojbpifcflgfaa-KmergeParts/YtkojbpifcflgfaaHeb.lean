/- Rows in a heap of heads (items): what lies in memory; Len, Less, Swap, least. Conditions: how the heap lies. -/
import Derived.Test.YtkojbpifcflgfaaDn
import Derived.BigRegion
import Derived.BigQuiet
import Derived.Deep.QuietTactic
import Derived.Laws.OwnMore
import Derived.Shelf.GgSortFunc.InsertionK
namespace Go.Proofs.Ytkojbpifcflgfaa.B
open Go.RowKit Go.Shelf
open Go.Sort (swp SWO PermIn size_swp swp_permIn permIn_refl permIn_trans permIn_mono swp_get)
variable {E : Type} [Inhabited E]

/-- Values, how they lie in a cell, and how two of them compare. -/
structure Ks (E : Type) where
  enc : E → Value
  gc : Nat
  cf : E → E → Int
  n0 : Nat
  w0 : World
def Ks.lt (k : Ks E) (x y : E) : Bool := decide (k.cf x y < 0)
/-- How a value is written. -/
def Shp (v : Value) : Prop := ∃ a n c, v = .slice a n c
structure Ok (k : Ks E) : Prop where
  shp : ∀ x, Shp (k.enc x)
  one : ∀ x, (k.enc x).cells = #[k.enc x]
  one' : ∀ x, (k.enc x).oneCell' = true
  swo : SWO k.lt
  cmp : ∀ x y W, Below k.n0 k.w0 W → Calls Try.prog k.gc #[k.enc x, k.enc y] W fun e W' => e = .returned (.int .i64 (k.cf x y)) ∧ ∃ q, W' = W.drewN q
  enters : ∀ args w, (callFunc k.gc args).run Try.prog w = .ok (.enter k.gc args) w

/-- A row that isn't empty. -/
structure Row (E : Type) where
  b : Nat
  off : Nat
  c : Nat
  xs : List E
instance : Inhabited (Row E) := ⟨⟨0, 0, 0, []⟩⟩
def encR (r : Row E) : Value := .slice (some ⟨r.b, r.off, none⟩) r.xs.length r.c
def Row.hd (r : Row E) : E := r.xs.getD 0 default
structure IsW (k : Ks E) (r : Row E) (w : World) : Prop where
  pos : 0 < r.xs.length
  le : r.xs.length ≤ r.c
  max : r.c ≤ maxLen
  old : k.n0 ≤ r.b
  rd : ∃ cur, w.heap[r.b]? = some (.cells cur 41 (0, 0)) ∧ ∀ i, i < r.xs.length → cur[r.off + i]? = some (k.enc (r.xs.getD i default))
def fnv (k : Ks E) : Value := .func (.func k.gc) #[] #[]
/-- The heap of heads. -/
structure Hd (k : Ks E) (hb : Nat) (v : Value) (d : Array (Row E)) (w : World) : Prop where
  box : w.heap[hb]? = some (.cells #[v, fnv k] 59 (0, 0))
  own : w.ownsRow hb 26 1 v d.size (d.toList.map encR)
  rows : ∀ i, i < d.size → IsW k d[i]! w
  few : d.size ≤ 1000000
  old : k.n0 ≤ hb
  bel : Below k.n0 k.w0 w
/-- All but two blocks is as it was. -/
structure Kw (hb : Nat) (rb : Option Nat) (w w' : World) : Prop where
  os : w'.os = w.os
  tape : w'.tape = w.tape
  output : w'.output = w.output
  size : w'.heap.size = w.heap.size
  block : ∀ j, j ≠ hb → rb ≠ some j → w'.heap[j]? = w.heap[j]?
theorem Kw.refl (hb : Nat) (rb : Option Nat) (w : World) : Kw hb rb w w := ⟨rfl, rfl, rfl, rfl, fun _ _ _ => rfl⟩
theorem Kw.trans {hb : Nat} {rb : Option Nat} {x y z : World} (h : Kw hb rb x y) (g : Kw hb rb y z) : Kw hb rb x z :=
  ⟨g.os.trans h.os, g.tape.trans h.tape, g.output.trans h.output, g.size.trans h.size, fun j h1 h2 => (g.block j h1 h2).trans (h.block j h1 h2)⟩
theorem Kw.drewN {hb : Nat} {rb : Option Nat} {x y : World} (h : Kw hb rb x y) (q : Nat) : Kw hb rb x (y.drewN q) := ⟨h.os, h.tape, h.output, h.size, h.block⟩
theorem Kw.set {hb : Nat} {rb : Option Nat} {x y : World} (h : Kw hb rb x y) (a : Addr) (u : Value) (ha : a.block = hb ∨ rb = some a.block) : Kw hb rb x (y.setCell a u) :=
  ⟨h.os, h.tape, h.output, (World.size_setCell _ _ _).trans h.size, fun j h1 h2 => (heap_setCell_other y a j u (fun e => by rcases ha with e' | e'; exact h1 (e.trans e'); rw [e] at h2; exact h2 e')).trans (h.block j h1 h2)⟩
theorem Kw.below {hb : Nat} {rb : Option Nat} {w w' : World} {n : Nat} (h : Kw hb rb w w') (h1 : n ≤ hb) (h2 : ∀ j, rb = some j → n ≤ j) : Below n w w' :=
  ⟨h.os, h.tape, h.output, by rw [h.size]; exact Nat.le_refl _, fun j hj => h.block j (by omega) (fun e => by have := h2 j e; omega)⟩

theorem Hd.drewN {k : Ks E} {hb : Nat} {v : Value} {d : Array (Row E)} {w : World} (h : Hd k hb v d w) (q : Nat) : Hd k hb v d (w.drewN q) :=
  ⟨h.box, h.own, fun i hi => ⟨(h.rows i hi).pos, (h.rows i hi).le, (h.rows i hi).max, (h.rows i hi).old, (h.rows i hi).rd⟩, h.few, h.old, ⟨h.bel.os, h.bel.tape, h.bel.output, h.bel.size, h.bel.block⟩⟩
theorem cell_of {w : World} {b : Nat} {cur : Array Value} {t : TypeId} {fz : Nat × Nat} (h : w.heap[b]? = some (.cells cur t fz)) (i : Nat) : w.cell? ⟨b, i, none⟩ = cur[i]? := by simp [World.cell?, h]
theorem froz_of {w : World} {b : Nat} {cur : Array Value} {t : TypeId} (h : w.heap[b]? = some (.cells cur t (0, 0))) (i : Nat) : w.frozen? ⟨b, i, none⟩ = false := by simp [World.frozen?, h]
theorem Hd.c0 {k : Ks E} {hb : Nat} {v : Value} {d : Array (Row E)} {w : World} (h : Hd k hb v d w) : w.cell? ⟨hb, 0, none⟩ = some v := by rw [cell_of h.box]; rfl
theorem Hd.c1 {k : Ks E} {hb : Nat} {v : Value} {d : Array (Row E)} {w : World} (h : Hd k hb v d w) : w.cell? ⟨hb, 1, none⟩ = some (.func (.func k.gc) #[] #[]) := by rw [cell_of h.box]; rfl
theorem IsW.c {k : Ks E} {r : Row E} {w : World} (h : IsW k r w) {i : Nat} (hi : i < r.xs.length) : w.cell? ⟨r.b, r.off + i, none⟩ = some (k.enc (r.xs.getD i default)) := by
  obtain ⟨cur, h1, h2⟩ := h.rd
  rw [cell_of h1]; exact h2 i hi
theorem IsW.ch {k : Ks E} {r : Row E} {w : World} (h : IsW k r w) : w.cell? ⟨r.b, r.off, none⟩ = some (k.enc r.hd) := h.c h.pos
/-- Where the rows lie. -/
theorem Hd.at {k : Ks E} {hb : Nat} {v : Value} {d : Array (Row E)} {w : World} (h : Hd k hb v d w) (hp : 0 < d.size) : ∃ g cap cur, v = .slice (some ⟨g, 0, none⟩) d.size cap ∧ hb ≤ g ∧ g ≠ hb ∧ w.heap[g]? = some (.cells cur 26 (0, 0)) ∧ d.size ≤ cap ∧ cap ≤ maxLen ∧ cur.size = cap ∧ ∀ i, i < d.size → cur[i]? = some (encR d[i]!) := by
  rcases h.own.2 with ⟨_, h0⟩ | ⟨g, cap, cur, h1, h2, h3, h4, h5, h6, h7⟩
  · omega
  · refine ⟨g, cap, cur, h1, h2, fun e => ?_, h3, h4, h5, by rw [h6, Nat.mul_one], fun i hi => ?_⟩
    · subst e; have hb' := h.box; rw [h3] at hb'; simp at hb'
    · have := congrArg (fun l => l[i]?) h7
      simp only [Nat.mul_one, List.getElem?_take, if_pos hi, Array.getElem?_toList, List.getElem?_map] at this
      rw [this, Array.getElem?_eq_getElem hi, getElem!_pos d i hi]; rfl

set_option maxRecDepth 20000 in
theorem len_any {k : Ks E} {hb : Nat} {v : Value} {d : Array (Row E)} {w : World} (h : Hd k hb v d w) :
    Calls Try.prog 35 #[.pointer (some ⟨hb, 0, none⟩)] w fun e w' => e = .returned (.int .i64 d.size) ∧ w' = w := by
  have c0 := h.c0
  have hf := h.few
  obtain ⟨a, cap, rfl⟩ : ∃ a cap, v = .slice a d.size cap := by
    rcases h.own.2 with ⟨h1, h0⟩ | ⟨g, cap, cur, h1, _⟩
    · exact ⟨none, 0, by rw [h1, h0]⟩
    · exact ⟨_, _, h1⟩
  clear h
  go_enter Try.func35, Try.ntmps35
  go_wp2
  go_ret
  exact ⟨rfl, rfl⟩

set_option maxRecDepth 20000 in
theorem least_any {k : Ks E} {hb : Nat} {v : Value} {d : Array (Row E)} {w : World} (h : Hd k hb v d w) (hp : 0 < d.size) :
    Calls Try.prog 37 #[.pointer (some ⟨hb, 0, none⟩)] w fun e w' => e = .returned (k.enc d[0]!.hd) ∧ w' = w := by
  have c0 := h.c0
  have hr := h.rows 0 hp
  have ch := hr.ch
  have hn := hr.pos
  obtain ⟨g, cap, cur, rfl, _, _, hg, _, _, _, hc⟩ := h.at hp
  have cg : w.cell? ⟨g, 0, none⟩ = some (.slice (some ⟨d[0]!.b, d[0]!.off, none⟩) d[0]!.xs.length d[0]!.c) := by rw [cell_of hg]; exact hc 0 hp
  obtain ⟨n, hn'⟩ : ∃ n, n = d.size := ⟨_, rfl⟩
  obtain ⟨m, hm'⟩ : ∃ m, m = d[0]!.xs.length := ⟨_, rfl⟩
  obtain ⟨x, hx⟩ : ∃ x, x = k.enc d[0]!.hd := ⟨_, rfl⟩
  rw [← hn'] at c0 hp
  rw [← hm'] at cg hn
  rw [← hx] at ch ⊢
  have i0 : (0 : Int) < (n : Int) := by omega
  have i1 : (0 : Int) < (m : Int) := by omega
  clear h hr hc hg hn' hm' hx
  go_enter Try.func37, Try.ntmps37
  go_wp2
  go_ret
  exact ⟨rfl, rfl⟩

set_option maxRecDepth 100000 in
set_option maxHeartbeats 2000000 in
theorem less_any {k : Ks E} (hk : Ok k) {hb : Nat} {v : Value} {d : Array (Row E)} {w : World} (h : Hd k hb v d w) (i j : Nat) (hi : i < d.size) (hj : j < d.size) :
    Calls Try.prog 104 #[.pointer (some ⟨hb, 0, none⟩), .int .i64 i, .int .i64 j] w fun e w' => e = .returned (.bool (k.lt d[i]!.hd d[j]!.hd)) ∧ ∃ q, w' = w.drewN q := by
  have c0 := h.c0
  have c1 := h.c1
  have hri := h.rows i hi
  have hrj := h.rows j hj
  have chi := hri.ch
  have chj := hrj.ch
  have hni := hri.pos
  have hnj := hrj.pos
  have few := h.few
  have HC : Hid (∀ n, Calls Try.prog k.gc #[k.enc d[i]!.hd, k.enc d[j]!.hd] (w.drewN n) fun e W' => e = .returned (.int .i64 (k.cf d[i]!.hd d[j]!.hd)) ∧ ∃ q, W' = (w.drewN n).drewN q) := fun n => hk.cmp _ _ _ (h.drewN n).bel
  have eg := hk.enters
  obtain ⟨g, cap, cur, rfl, _, _, hg, _, _, _, hc⟩ := h.at (by omega)
  have cgi : w.cell? ⟨g, i, none⟩ = some (.slice (some ⟨d[i]!.b, d[i]!.off, none⟩) d[i]!.xs.length d[i]!.c) := by rw [cell_of hg]; exact hc i hi
  have cgj : w.cell? ⟨g, j, none⟩ = some (.slice (some ⟨d[j]!.b, d[j]!.off, none⟩) d[j]!.xs.length d[j]!.c) := by rw [cell_of hg]; exact hc j hj
  obtain ⟨n, hn'⟩ : ∃ n, n = d.size := ⟨_, rfl⟩
  rw [← hn'] at c0 hi hj few
  obtain ⟨mi, hmi⟩ : ∃ m, m = d[i]!.xs.length := ⟨_, rfl⟩
  obtain ⟨mj, hmj⟩ : ∃ m, m = d[j]!.xs.length := ⟨_, rfl⟩
  rw [← hmi] at cgi hni
  rw [← hmj] at cgj hnj
  unfold Ks.lt
  obtain ⟨r, hr⟩ : ∃ r, r = k.cf d[i]!.hd d[j]!.hd := ⟨_, rfl⟩
  rw [← hr] at HC ⊢
  obtain ⟨x, hx⟩ : ∃ x, x = k.enc d[i]!.hd := ⟨_, rfl⟩
  obtain ⟨y, hy⟩ : ∃ y, y = k.enc d[j]!.hd := ⟨_, rfl⟩
  rw [← hx] at chi HC
  rw [← hy] at chj HC
  have i0 : (i : Int) < (n : Int) := by omega
  have j0 : (j : Int) < (n : Int) := by omega
  have i1 : (0 : Int) < (mi : Int) := by omega
  have j1 : (0 : Int) < (mj : Int) := by omega
  obtain ⟨gc, hgc⟩ : ∃ gc, gc = k.gc := ⟨_, rfl⟩
  rw [← hgc] at c1 HC eg
  clear h hri hrj hc hg hn' hmi hmj hx hy hr hgc
  go_enter Try.func104, Try.ntmps104
  go_wp2_with fail
  go_quiet (first | (go_at_fn gc; refine Calls.quiet_of (HC.out _)))
  go_wp2
  go_ret
  exact ⟨rfl, _, rfl⟩
end Go.Proofs.Ytkojbpifcflgfaa.B
