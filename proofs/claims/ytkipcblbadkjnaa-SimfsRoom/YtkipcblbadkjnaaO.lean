/- The map of the numbers that have come, and the contract of held's iterator: each file that has a path comes once. Conditions: those of each theorem. -/
import Derived.Test.YtkipcblbadkjnaaN
import Derived.RangeFuncNested
import Derived.RangeFuncBound
import Derived.RangeFuncCalls
import Derived.RangeFuncLeaves
import Derived.Shelf.Abstract
import Derived.Shelf.RegionOpen
import Derived.OwnWalkIn
import Derived.TacticsInMore
import Derived.LoopNIn
import Derived.LoopIn
import Derived.Sort.MapsRangeIn
namespace Go.Proofs.Ytkipcblbadkjnaa
open Go.RowKit Go.Shelf
open Go.Maps (Keyed)
attribute [local go_sem] Oper.semAt_some

/-- Block b is a map that has true for just these numbers. -/
def Sm (w : World) (b n : Nat) (f : Int → Bool) : Prop :=
  ∃ D : DataW Nat, w.ownsMap Try.prog 3 (plainElem Try.prog 4) b n D ∧ ∀ i : Int, D.atKey (.int .i64 i) (.lit (.bool false)) = .lit (.bool (f i))
theorem Sm.lt {w : World} {b n : Nat} {f : Int → Bool} (h : Sm w b n f) : b < w.heap.size := by obtain ⟨D, h, _⟩ := h; exact h.lt
theorem Sm.kept {w w' : World} {b n : Nat} {f : Int → Bool} (h : Sm w b n f) (he : w'.heap[b]? = w.heap[b]?) : Sm w' b n f := by
  obtain ⟨D, ⟨es, clock, hb, r⟩, h2⟩ := h
  exact ⟨D, ⟨es, clock, he.trans hb, r⟩, h2⟩
theorem Sm.walk {w : World} {b n : Nat} {f : Int → Bool} (h : Sm w b n f) : ∃ o : Obj, w.heap[b]? = some o ∧ o.isWalk = true := by
  obtain ⟨D, ⟨es, clock, hb, r⟩, h2⟩ := h
  exact ⟨_, hb, rfl⟩
theorem Sm.made (w : World) : Sm (w.alloc (.map #[] 0)) w.heap.size 0 (fun _ => false) := ⟨_, World.ownsMap_made w _ _ _, fun _ => rfl⟩
theorem bool_inv {v : Value} {z : DataW Nat × List MemPlace} (h : plainElem Try.prog 4 v = some z) : ∃ c, v = .bool c ∧ z = (.lit (.bool c), []) := by
  cases v <;> simp [plainElem, Try.underlying4] at h
  exact ⟨_, rfl, h.symm⟩
theorem wf64 {i : Int} (h : 0 ≤ i ∧ i ≤ 4000000) : (Lit.int .i64 i).wf = true := by
  have h1 : IntKind.i64.min = -9223372036854775808 := rfl
  have h2 : IntKind.i64.max = 9223372036854775807 := rfl
  simp [Lit.wf, h1, h2]
  omega
theorem Sm.look {w : World} {b n : Nat} {f : Int → Bool} (h : Sm w b n f) (i : Int) (hi : 0 ≤ i ∧ i ≤ 4000000) :
    (Instr.lookup 107 (.map (some b)) (.int .i64 i) false).run Try.prog w = .ok (.bool (f i)) w := by
  obtain ⟨D, h1, h2⟩ := h
  obtain ⟨v, ps, hrun, hv⟩ := h1.lookup (Maps.int_keyed Try.underlying3) Try.underlying107 (Try.zeroValue4 w) (plainElem_bool Try.underlying4 false) (Maps.keyOf_int_mk Try.underlying3 (wf64 hi))
  rw [h2 i] at hv
  obtain ⟨c, rfl, hc⟩ := bool_inv hv
  simp at hc
  rw [hrun, hc.1]
theorem Sm.put {w : World} {b n : Nat} {f : Int → Bool} (h : Sm w b n f) (i : Int) (hi : 0 ≤ i ∧ i ≤ 4000000) (hn : n < maxLen) :
    ∃ w', (Instr.mapUpdate 107 (.map (some b)) (.int .i64 i) (.bool true)).run Try.prog w = .ok () w' ∧ Sm w' b (n + 1) (fun j => decide (j = i) || f j) ∧ w.grownBy w' (some b) := by
  obtain ⟨D, h1, h2⟩ := h
  have hm := h1.isMap
  obtain ⟨w', hrun, ho, ht⟩ := h1.update (Maps.int_keyed Try.underlying3) Try.underlying107 hn (Maps.keyOf_int_mk Try.underlying3 (wf64 hi)) (plainElem_bool Try.underlying4 true)
  refine ⟨w', hrun, ⟨_, ho, fun j => ?_⟩, ht⟩
  by_cases e : j = i
  · subst e
    rw [Maps.atKey_put_same hm (show WideAt.IsKeyLit (.int .i64 j) from trivial)]
    simp
  · rw [Maps.atKey_put_other (by simpa using e) _ _, h2]
    simp [e]

/-- A round leaves maps, walks over them, and the files' numbers. -/
structure Kh (K : Nat → Prop) (W W' : World) : Prop where
  walks : KeepsWalks W W'
  nums : ∀ g, K g → W'.cell? ⟨g, 0, none⟩ = W.cell? ⟨g, 0, none⟩
theorem Kh.trans {K : Nat → Prop} {A B C : World} (h : Kh K A B) (k : Kh K B C) : Kh K A C := ⟨h.walks.trans k.walks, fun g hg => (k.nums g hg).trans (h.nums g hg)⟩
def encH {K : Nat → Prop} (g : { g : Nat // K g }) : Array Value := #[.pointer (some ⟨g.1, 0, none⟩)]
/-- These are the files that have a path, each once. -/
def Held {K : Nat → Prop} (pm : ByteArray → Option Nat) (n : Nat) (ys : List { g : Nat // K g }) : Prop := ys.Nodup ∧ (∀ g : { g : Nat // K g }, g ∈ ys ↔ ∃ s, pm s = some g.1) ∧ ys.length ≤ n
/-- What is known of what has come while there are still paths left. -/
structure Come {K : Nat → Prop} (pm : ByteArray → Option Nat) (left : Lit → Bool) (ys : List { g : Nat // K g }) : Prop where
  nd : ys.Nodup
  has : ∀ g ∈ ys, ∃ s, pm s = some g.1
  all : ∀ s (g : { g : Nat // K g }), pm s = some g.1 → left (kl s) = false → g ∈ ys
theorem Come.held {K : Nat → Prop} {pm : ByteArray → Option Nat} {left : Lit → Bool} {ys : List { g : Nat // K g }} (h : Come pm left ys) (hl : ∀ k, left k = false) {n : Nat} (hn : ys.length ≤ n) : Held pm n ys :=
  ⟨h.nd, fun g => ⟨h.has g, fun ⟨s, e⟩ => h.all s g e (hl _)⟩, hn⟩
theorem Come.old {K : Nat → Prop} {pm : ByteArray → Option Nat} {left : Lit → Bool} {ys : List { g : Nat // K g }} (h : Come pm left ys) {s : ByteArray} {g : { g : Nat // K g }} (e : pm s = some g.1) (hg : g ∈ ys) : Come pm (fun z => left z && !z.sameKey (kl s)) ys :=
  ⟨h.nd, h.has, fun s' g' e' hl => by
    simp only [Bool.and_eq_false_iff, Bool.not_eq_false'] at hl
    rcases hl with hl | hl
    · exact h.all s' g' e' hl
    · have := kl_inj (WideAt.sameKey_eq hl)
      subst this
      rw [e] at e'
      have : g = g' := Subtype.ext (Option.some.inj e')
      rw [← this]; exact hg⟩
theorem Come.new {K : Nat → Prop} {pm : ByteArray → Option Nat} {left : Lit → Bool} {ys : List { g : Nat // K g }} (h : Come pm left ys) {s : ByteArray} {g : { g : Nat // K g }} (e : pm s = some g.1) (hg : g ∉ ys) : Come pm (fun z => left z && !z.sameKey (kl s)) (ys ++ [g]) :=
  ⟨by rw [List.nodup_append]; exact ⟨h.nd, by simp, fun a ha b hb => by simp at hb; subst hb; intro e; subst e; exact hg ha⟩, fun g' hg' => by
    rcases List.mem_append.1 hg' with h1 | h1
    · exact h.has g' h1
    · simp at h1; subst h1; exact ⟨s, e⟩, fun s' g' e' hl => by
    simp only [Bool.and_eq_false_iff, Bool.not_eq_false'] at hl
    rcases hl with hl | hl
    · exact List.mem_append.2 (.inl (h.all s' g' e' hl))
    · have := kl_inj (WideAt.sameKey_eq hl)
      subst this
      rw [e] at e'
      have : g = g' := Subtype.ext (Option.some.inj e')
      rw [← this]; simp⟩
theorem cell_grown {w w' : World} {row : Option Nat} (hg : w.grownBy w' row) (hrow : ∀ r, row = some r → ∃ o : Obj, w.heap[r]? = some o ∧ o.isWalk = true) {a : Addr} {v : Value} (h : w.cell? a = some v) : w'.cell? a = some v := by
  obtain ⟨o, ho, hw⟩ := not_walk_of_cell h
  exact (World.cell?_of_block (grownBy_keeps hg hrow ho hw)).trans h
theorem run_makeMap_hint (w : World) (k : Nat) : (Instr.makeMap 107 (some (.int .i64 (k : Int)))).run Try.prog w = .ok (.map (some w.heap.size)) (w.alloc (.map #[] 0)) := by
  simp [Instr.makeMap, run_underlying Try.underlying107, go_sem, Result.andThen]
end Go.Proofs.Ytkipcblbadkjnaa
