/- What first leaves by: its two variables, the deferred call that leaves nothing behind an error. Conditions: those of each theorem. -/
import Derived.Test.YtocjmbhfpofoeaaDoorRk
import Derived.Defers
import Derived.Recover
import Derived.Laws.Pointers
import Derived.Laws.ResultCell
namespace Go.Proofs.YtocjmbhfpofoeaaDoor
open Go.RowKit

/-- The two variables that first answers with. -/
structure Vr (w : World) (F : Nat) (k b r : Value) (x : Int) : Prop where
  f : w.heap[F]? = some (.cells #[k, b, r] 84 (0, 0))
  e : w.heap[F + 1]? = some (.cells #[.int .i64 x] 26 (0, 0))
theorem Vr.c0 {w : World} {F : Nat} {k b r : Value} {x : Int} (h : Vr w F k b r x) : w.cell? ⟨F, 0, none⟩ = some k := by simp [World.cell?, h.f]
theorem Vr.c1 {w : World} {F : Nat} {k b r : Value} {x : Int} (h : Vr w F k b r x) : w.cell? ⟨F, 1, none⟩ = some b := by simp [World.cell?, h.f]
theorem Vr.c2 {w : World} {F : Nat} {k b r : Value} {x : Int} (h : Vr w F k b r x) : w.cell? ⟨F, 2, none⟩ = some r := by simp [World.cell?, h.f]
theorem Vr.ce {w : World} {F : Nat} {k b r : Value} {x : Int} (h : Vr w F k b r x) : w.cell? ⟨F + 1, 0, none⟩ = some (.int .i64 x) := by simp [World.cell?, h.e]
theorem Vr.z {w : World} {F : Nat} {k b r : Value} {x : Int} (h : Vr w F k b r x) (i : Nat) : w.frozen? ⟨F, i, none⟩ = false := frozen_of_row w F i _ _ h.f
theorem Vr.ze {w : World} {F : Nat} {k b r : Value} {x : Int} (h : Vr w F k b r x) (i : Nat) : w.frozen? ⟨F + 1, i, none⟩ = false := frozen_of_row w (F + 1) i _ _ h.e
theorem heap_set {W : World} {B i : Nat} {t : TypeId} {cs : Array Value} (v : Value) (h : W.heap[B]? = some (.cells cs t (0, 0))) : (W.setCell ⟨B, i, none⟩ v).heap[B]? = some (.cells (cs.setIfInBounds i v) t (0, 0)) := by
  obtain ⟨hlt, hk⟩ := Array.getElem?_eq_some_iff.1 h
  show (W.heap.modify B _)[B]? = _
  rw [Array.getElem?_eq_getElem (by rw [Array.size_modify]; exact hlt), Array.getElem_modify_self, hk]
  rfl
theorem heap_set_ne {W : World} {B C i : Nat} (v : Value) (h : C ≠ B) : (W.setCell ⟨B, i, none⟩ v).heap[C]? = W.heap[C]? :=
  Below.heap_setCell W ⟨B, i, none⟩ v C (fun e => h e)
theorem Vr.set0 {w : World} {F : Nat} {k b r : Value} {x : Int} (h : Vr w F k b r x) (v : Value) : Vr (w.setCell ⟨F, 0, none⟩ v) F v b r x :=
  ⟨heap_set v h.f, (heap_set_ne v (by omega)).trans h.e⟩
theorem Vr.set1 {w : World} {F : Nat} {k b r : Value} {x : Int} (h : Vr w F k b r x) (v : Value) : Vr (w.setCell ⟨F, 1, none⟩ v) F k v r x :=
  ⟨heap_set v h.f, (heap_set_ne v (by omega)).trans h.e⟩
theorem Vr.set2 {w : World} {F : Nat} {k b r : Value} {x : Int} (h : Vr w F k b r x) (v : Value) : Vr (w.setCell ⟨F, 2, none⟩ v) F k b v x :=
  ⟨heap_set v h.f, (heap_set_ne v (by omega)).trans h.e⟩
theorem Vr.setE {w : World} {F : Nat} {k b r : Value} {x : Int} (h : Vr w F k b r x) (y : Int) : Vr (w.setCell ⟨F + 1, 0, none⟩ (.int .i64 y)) F k b r y :=
  ⟨(heap_set_ne _ (by omega)).trans h.f, heap_set _ h.e⟩
theorem Vr.below {w w' : World} {F n : Nat} {k b r : Value} {x : Int} (h : Vr w F k b r x) (hb : Below n w w') (hF : F + 1 < n) : Vr w' F k b r x :=
  ⟨(hb.block F (by omega)).trans h.f, (hb.block (F + 1) hF).trans h.e⟩
theorem Vr.new (w : World) (k b r : Value) (x : Int) : Vr ((w.alloc (.cells #[k, b, r] 84)).alloc (.cells #[.int .i64 x] 26)) w.heap.size k b r x := by
  refine ⟨?_, ?_⟩
  · exact (World.grownBy.block (World.grownBy_alloc _ _ none) w.heap.size (by simp) (by simp)).trans (heap_alloc_new w _)
  · have := heap_alloc_new (w.alloc (.cells #[k, b, r] 84)) (.cells #[.int .i64 x] 26)
    simpa using this

theorem clear_err (F : Nat) (x : Int) (hx : (x == 0) = false) (k b r : Value) (u : FrameMode) (w : World) (hV : Vr w F k b r x) :
    CallsD Tryd.prog 74 #[.pointer (some ⟨F + 1, 0, none⟩), .pointer (some ⟨F, 0, none⟩)] u w fun e u' w' => u' = u ∧ (e = .returned (.tuple #[]) ∧ Vr w' F (.int .i64 0) (.slice none 0 0) (.slice none 0 0) x ∧ Below F w w') := by
  have HV : Hid (Vr w F k b r x) := hV
  have c0 := hV.c0
  have c1 := hV.c1
  have c2 := hV.c2
  have ce := hV.ce
  have z0 := hV.z 0
  have z1 := hV.z 1
  have z2 := hV.z 2
  clear hV
  go_enter_d Tryd.func74, Tryd.ntmps74
  go_wp2
  go_end0
  refine ⟨rfl, ((HV.out.set0 _).set1 _).set2 _, ?_⟩
  exact (((Below.refl F w).setCell (Nat.le_refl _) _).setCell (Nat.le_refl _) _).setCell (Nat.le_refl _) _
theorem clear_ok (F : Nat) (k b r : Value) (u : FrameMode) (w : World) (hV : Vr w F k b r 0) :
    CallsD Tryd.prog 74 #[.pointer (some ⟨F + 1, 0, none⟩), .pointer (some ⟨F, 0, none⟩)] u w fun e u' w' => u' = u ∧ (e = .returned (.tuple #[]) ∧ w' = w) := by
  have ce := hV.ce
  clear hV
  go_enter_d Tryd.func74, Tryd.ntmps74
  go_wp2
  go_end0
  exact ⟨rfl, rfl⟩

theorem door_err (tmps : Array Value) (F : Nat) (h2 : tmps[2]? = some (.pointer (some ⟨F, 0, none⟩))) (h3 : tmps[3]? = some (.pointer (some ⟨F + 1, 0, none⟩))) (x : Int) (hx : (x == 0) = false) (k b r : Value) (w : World) (hV : Vr w F k b r x) {R : Ending → World → Prop}
    (hR : ∀ w', Below F w w' → R (.returned (.tuple #[.agg #[.int .i64 0, .slice none 0 0, .slice none 0 0], .int .i64 x])) w') :
    Leaves Tryd.prog Tryd.f63 tmps R [{ target := .fn (.func 74) #[.pointer (some ⟨F + 1, 0, none⟩), .pointer (some ⟨F, 0, none⟩)], args := #[] }] .returning w := by
  refine leaves_cons (f := 74) (args := #[.pointer (some ⟨F + 1, 0, none⟩), .pointer (some ⟨F, 0, none⟩)]) (by simp) (by simp [go_sem]) ?_
  refine (clear_err F x hx k b r .returning w hV).mono ?_
  rintro e u' w' ⟨rfl, rfl, hV', hb⟩
  have c0 := hV'.c0
  have c1 := hV'.c1
  have c2 := hV'.c2
  have ce := hV'.ce
  refine ⟨_, ?_, hR w' hb⟩
  simp [results, Tryd.results63, go_sem, h2, h3, c0, c1, c2, ce]
theorem door_ok (tmps : Array Value) (F : Nat) (h2 : tmps[2]? = some (.pointer (some ⟨F, 0, none⟩))) (h3 : tmps[3]? = some (.pointer (some ⟨F + 1, 0, none⟩))) (k b r : Value) (w : World) (hV : Vr w F k b r 0) {R : Ending → World → Prop}
    (hR : R (.returned (.tuple #[.agg #[k, b, r], .int .i64 0])) w) :
    Leaves Tryd.prog Tryd.f63 tmps R [{ target := .fn (.func 74) #[.pointer (some ⟨F + 1, 0, none⟩), .pointer (some ⟨F, 0, none⟩)], args := #[] }] .returning w := by
  refine leaves_cons (f := 74) (args := #[.pointer (some ⟨F + 1, 0, none⟩), .pointer (some ⟨F, 0, none⟩)]) (by simp) (by simp [go_sem]) ?_
  refine (clear_ok F k b r .returning w hV).mono ?_
  rintro e u' w' ⟨rfl, rfl, rfl⟩
  have c0 := hV.c0
  have c1 := hV.c1
  have c2 := hV.c2
  have ce := hV.ce
  refine ⟨_, ?_, hR⟩
  simp [results, Tryd.results63, go_sem, h2, h3, c0, c1, c2, ce]

theorem first_empty (a : Option Addr) (cap : Nat) (w : World) :
    Calls Tryd.prog 63 #[.slice a 0 cap] w fun e w' => e = .returned (.tuple #[.agg #[.int .i64 0, .slice none 0 0, .slice none 0 0], .int .i64 10]) ∧ Below w.heap.size w w' := by
  have hmf : ∀ (fn : Fn) (first cap : Array Value) (w : World), (Instr.makeFunc fn first cap).run Tryd.prog w = .ok (.func fn first cap) w := fun _ _ _ _ => rfl
  go_enter_defers Tryd.func63, Tryd.ntmps63
  go_wp2
  refine door_err _ w.heap.size rfl rfl 10 rfl _ _ _ _ (Vr.new w _ _ _ _) fun w' hb => ⟨rfl, ?_⟩
  exact (((Below.refl _ _).alloc (Nat.le_refl _) _).alloc (by simp) _).trans hb
end Go.Proofs.YtocjmbhfpofoeaaDoor
