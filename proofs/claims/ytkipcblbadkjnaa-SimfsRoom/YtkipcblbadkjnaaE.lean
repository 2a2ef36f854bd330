/- A map from paths to files, in memory: what is looked up, put in and taken away. Conditions: those of each theorem. -/
import Derived.Test.YtkipcblbadkjnaaD
import Derived.Maps.OwnSet
import Derived.Maps.RangeWalk
namespace Go.Proofs.Ytkipcblbadkjnaa
open Go.RowKit
open Go.Maps (Keyed)

/-- All blocks but some are as they were. -/
structure Kp (P : Nat → Prop) (w w' : World) : Prop where
  os : w'.os = w.os
  tape : w'.tape = w.tape
  output : w'.output = w.output
  size : w.heap.size ≤ w'.heap.size
  block : ∀ k, k < w.heap.size → ¬ P k → w'.heap[k]? = w.heap[k]?
theorem Kp.refl (P : Nat → Prop) (w : World) : Kp P w w := ⟨rfl, rfl, rfl, Nat.le_refl _, fun _ _ _ => rfl⟩
theorem Kp.trans {P Q : Nat → Prop} {a b c : World} (h : Kp P a b) (k : Kp Q b c) (hQ : ∀ i, Q i → P i ∨ a.heap.size ≤ i) : Kp P a c :=
  ⟨k.os.trans h.os, k.tape.trans h.tape, k.output.trans h.output, Nat.le_trans h.size k.size, fun i hi hn =>
    (k.block i (Nat.lt_of_lt_of_le hi h.size) (fun hq => by
      rcases hQ i hq with h1 | h1
      · exact hn h1
      · omega)).trans (h.block i hi hn)⟩
theorem Kp.mono {P Q : Nat → Prop} {a b : World} (h : Kp P a b) (hPQ : ∀ i, i < a.heap.size → P i → Q i) : Kp Q a b := ⟨h.os, h.tape, h.output, h.size, fun i hi hn => h.block i hi (fun hp => hn (hPQ i hi hp))⟩
theorem Kp.grown {P : Nat → Prop} {w w' : World} {row : Option Nat} (h : w.grownBy w' row) (hr : ∀ k, row = some k → P k) : Kp P w w' :=
  ⟨h.os, h.tape, h.output, h.size, fun i hi hn => h.block i hi (fun e => hn (hr i e.symm))⟩
theorem Kp.alloc {P : Nat → Prop} {a w : World} (h : Kp P a w) (o : Obj) : Kp P a (w.alloc o) :=
  h.trans (Q := fun _ => False) (Kp.grown (World.grownBy_alloc w o none) (by simp)) (fun _ hf => hf.elim)
theorem Kp.setCell {P : Nat → Prop} {a w : World} (h : Kp P a w) {p : Addr} (hp : P p.block ∨ a.heap.size ≤ p.block) (u : Value) : Kp P a (w.setCell p u) :=
  h.trans (Q := fun k => k = p.block) ⟨rfl, rfl, rfl, by simp, fun i _ hn => Below.heap_setCell _ _ _ _ hn⟩ (fun i e => by subst e; exact hp)
theorem Kp.below {P : Nat → Prop} {B : Nat} {w w' : World} (h : Kp P w w') (hB : ∀ k, P k → B ≤ k) (hs : B ≤ w.heap.size) : Below B w w' :=
  ⟨h.os, h.tape, h.output, h.size, fun k hk => h.block k (by omega) (fun hp => by have := hB k hp; omega)⟩
theorem Kp.of_below {P : Nat → Prop} {w w' : World} (h : Below w.heap.size w w') : Kp P w w' := ⟨h.os, h.tape, h.output, h.size, fun k hk _ => h.block k hk⟩
theorem Kp.cell {P : Nat → Prop} {w w' : World} (h : Kp P w w') {p : Addr} (hp : p.block < w.heap.size) (hn : ¬ P p.block) : w'.cell? p = w.cell? p := World.cell?_of_block (w := w) (h.block p.block hp hn)
theorem Kp.frozen {P : Nat → Prop} {w w' : World} (h : Kp P w w') {p : Addr} (hp : p.block < w.heap.size) (hn : ¬ P p.block) : w'.frozen? p = w.frozen? p := World.frozen?_of_block (w := w) (h.block p.block hp hn)

/-- A pointer to a file: its block; none: nil. -/
def pv : Option Nat → Value
  | none => .pointer none
  | some b => .pointer (some ⟨b, 0, none⟩)
def rdp : Option Nat → DataW Nat
  | none => .nil
  | some b => .held b
/-- How a pointer to a file reads. -/
def ptrElem (v : Value) : Option (DataW Nat × List MemPlace) :=
  match v with
  | .pointer none => some (.nil, [])
  | .pointer (some a) => if a.off = 0 ∧ a.spot = none then some (.held a.block, []) else none
  | _ => none
theorem ptrElem_pv (o : Option Nat) : ptrElem (pv o) = some (rdp o, []) := by cases o <;> simp [ptrElem, pv, rdp]
theorem ptrElem_inv {v : Value} {z : DataW Nat × List MemPlace} (h : ptrElem v = some z) : ∃ o, v = pv o ∧ z = (rdp o, []) := by
  unfold ptrElem at h
  split at h
  · cases h; exact ⟨none, rfl, rfl⟩
  · rename_i a
    split at h
    · rename_i hc
      cases h
      obtain ⟨b, off, spot⟩ := a
      simp only at hc
      obtain ⟨rfl, rfl⟩ := hc
      exact ⟨some b, rfl, rfl⟩
    · cases h
  · cases h
theorem rdp_inj {a b : Option Nat} (h : rdp a = rdp b) : a = b := by
  cases a <;> cases b <;> simp [rdp] at h ⊢
  exact h
def kl (s : ByteArray) : Lit := .string s.data.toList
theorem kl_inj {a b : ByteArray} (h : kl a = kl b) : a = b := by
  simp only [kl, Lit.string.injEq] at h
  exact ByteArray.ext (Array.toList_inj.1 h)
theorem kl_key (s : ByteArray) : WideAt.IsKeyLit (kl s) := by simp [kl, WideAt.IsKeyLit]

/-- Block b is a map that has these files for the paths. -/
def Mp (w : World) (b n : Nat) (m : ByteArray → Option Nat) : Prop :=
  ∃ D, w.ownsMap Try.prog 9 ptrElem b n D ∧ ∀ s, D.atKey (kl s) .nil = rdp (m s) ∧ Maps.has D (kl s) = (m s).isSome
theorem Mp.lt {w : World} {b n : Nat} {m : ByteArray → Option Nat} (h : Mp w b n m) : b < w.heap.size := by obtain ⟨D, h, _⟩ := h; exact h.lt
theorem Mp.kept {w w' : World} {b n : Nat} {m : ByteArray → Option Nat} (h : Mp w b n m) (he : w'.heap[b]? = w.heap[b]?) : Mp w' b n m := by
  obtain ⟨D, ⟨es, clock, hb, r⟩, h2⟩ := h
  exact ⟨D, ⟨es, clock, he.trans hb, r⟩, h2⟩
theorem Mp.kp {P : Nat → Prop} {w w' : World} {b n : Nat} {m : ByteArray → Option Nat} (h : Mp w b n m) (hk : Kp P w w') (hn : ¬ P b) : Mp w' b n m := h.kept (hk.block b h.lt hn)
theorem Mp.mono {w : World} {b n n' : Nat} {m : ByteArray → Option Nat} (h : Mp w b n m) (hn : n ≤ n') : Mp w b n' m := by
  obtain ⟨D, h1, h2⟩ := h; exact ⟨D, h1.mono hn, h2⟩
theorem Mp.made (w : World) : Mp (w.alloc (.map #[] 0)) w.heap.size 0 (fun _ => none) :=
  ⟨_, World.ownsMap_made w _ _ _, fun _ => ⟨rfl, rfl⟩⟩
theorem Mp.look {w : World} {b n : Nat} {m : ByteArray → Option Nat} (h : Mp w b n m) (s : ByteArray) (hs : s.size ≤ maxLen) :
    (Instr.lookup 64 (.map (some b)) (.string s) false).run Try.prog w = .ok (pv (m s)) w := by
  obtain ⟨D, h1, h2⟩ := h
  obtain ⟨v, ps, hrun, hv⟩ := h1.lookup (Maps.string_keyed Try.underlying9) Try.underlying64 (Try.zeroValue76 w) (ptrElem_pv none) (WideMaps.keyOf_string_mk (P := Try.prog) Try.underlying9 hs)
  have := (h2 s).1
  unfold kl at this
  rw [show (rdp none : DataW Nat) = .nil from rfl, this] at hv
  obtain ⟨o, rfl, ho⟩ := ptrElem_inv hv
  rw [hrun, rdp_inj (congrArg Prod.fst ho)]
theorem look_nil (w : World) (s : ByteArray) (hs : s.size ≤ maxLen) : (Instr.lookup 64 (.map none) (.string s) false).run Try.prog w = .ok (.pointer none) w := by
  have := Maps.look_nil (P := Try.prog) (w := w) false (Maps.string_keyed Try.underlying9) Try.underlying64 (Try.zeroValue76 w) (WideMaps.keyOf_string_mk (P := Try.prog) Try.underlying9 hs)
  simpa using this
/-- m with another file for a path; none: it is gone. -/
def upd (m : ByteArray → Option Nat) (s : ByteArray) (o : Option Nat) : ByteArray → Option Nat := fun x => if x = s then o else m x
theorem Mp.del {w : World} {b n : Nat} {m : ByteArray → Option Nat} (h : Mp w b n m) (s : ByteArray) (hs : s.size ≤ maxLen) (ty : TypeId) :
    ∃ w', (Builtin.delete_ #[64, 9] ty #[.map (some b), .string s]).run Try.prog w = .ok (.tuple #[]) w' ∧ Mp w' b n (upd m s none) ∧ w.grownBy w' (some b) := by
  obtain ⟨D, h1, h2⟩ := h
  obtain ⟨w', hrun, ho, ht⟩ := h1.drop (Maps.string_keyed Try.underlying9) Try.underlying64 (WideMaps.keyOf_string_mk (P := Try.prog) Try.underlying9 hs) ty
  refine ⟨w', hrun, ⟨_, ho, fun x => ?_⟩, ht.grown⟩
  unfold upd
  by_cases e : x = s
  · subst e
    rw [if_pos rfl]
    exact ⟨Maps.atKey_del_same _, Maps.has_del_same⟩
  · rw [if_neg e]
    have hne : kl x ≠ kl s := fun h => e (kl_inj h)
    exact ⟨(Maps.atKey_del_other hne _).trans (h2 x).1, (Maps.has_del_other hne).trans (h2 x).2⟩
theorem Mp.put {w : World} {b n : Nat} {m : ByteArray → Option Nat} (h : Mp w b n m) (s : ByteArray) (hs : s.size ≤ maxLen) (g : Nat) (hn : n < maxLen) :
    ∃ w', (Instr.mapUpdate 64 (.map (some b)) (.string s) (pv (some g))).run Try.prog w = .ok () w' ∧ Mp w' b (n + 1) (upd m s (some g)) ∧ w.grownBy w' (some b) := by
  obtain ⟨D, h1, h2⟩ := h
  have hm := h1.isMap
  obtain ⟨w', hrun, ho, ht⟩ := h1.update (Maps.string_keyed Try.underlying9) Try.underlying64 hn (WideMaps.keyOf_string_mk (P := Try.prog) Try.underlying9 hs) (ptrElem_pv (some g))
  refine ⟨w', hrun, ⟨_, ho, fun x => ?_⟩, ht⟩
  unfold upd
  by_cases e : x = s
  · subst e
    rw [if_pos rfl]
    exact ⟨Maps.atKey_put_same hm (kl_key _) _ _, Maps.has_put_same hm (kl_key _) _⟩
  · rw [if_neg e]
    have hne : kl x ≠ kl s := fun h => e (kl_inj h)
    exact ⟨(Maps.atKey_put_other hne _ _).trans (h2 x).1, (Maps.has_put_other hne _).trans (h2 x).2⟩
section
variable {ops : Array Oper} {rest : List Oper} {o : Oper} {a : Act} {Q : Exit → Act → World → Prop}
theorem wpList_mdel (w : World) (hg : o.guard = none) (m x : Operand) (hop : o.op = Op.call { callee := Callee.builtin Builtin.delete, args := #[m, x], argTypes := #[64, 9] }) (b n : Nat) (mm : ByteArray → Option Nat)
    (hm : a.eval m = .map (some b)) (hM : Mp w b n mm) (s : ByteArray) (hx : a.eval x = .string s) (hs : s.size ≤ maxLen)
    (hK : ∀ w', Mp w' b n (upd mm s none) → w.grownBy w' (some b) → wpList Try.prog ops Q rest (a.put o.dst (.tuple #[])) w') : wpList Try.prog ops Q (o :: rest) a w := by
  refine wpList_plain hg fun K' hK' => ?_
  obtain ⟨w', hrun, r1, r2⟩ := hM.del s hs o.type
  unfold Oper.wp
  simp [execOp, hop, resolve, invoke, builtin, hm, hx, hrun, Result.andThen]
  exact hK' _ _ (hK w' r1 r2)
theorem wpList_mput (w : World) (hg : o.guard = none) (m x v : Operand) (hop : o.op = Op.mapUpdate 64 m x v) (b n : Nat) (mm : ByteArray → Option Nat)
    (hm : a.eval m = .map (some b)) (hM : Mp w b n mm) (s : ByteArray) (hx : a.eval x = .string s) (hs : s.size ≤ maxLen) (g : Nat) (hv : a.eval v = .pointer (some ⟨g, 0, none⟩)) (hn : n < maxLen)
    (hK : ∀ w', Mp w' b (n + 1) (upd mm s (some g)) → w.grownBy w' (some b) → wpList Try.prog ops Q rest (a.put o.dst undef) w') : wpList Try.prog ops Q (o :: rest) a w := by
  refine wpList_plain hg fun K' hK' => ?_
  obtain ⟨w', hrun, r1, r2⟩ := hM.put s hs g hn
  rw [pv] at hrun
  unfold Oper.wp
  simp [execOp, hop, hm, hx, hv, hrun, Result.andThen]
  exact hK' _ _ (hK w' r1 r2)
end
end Go.Proofs.Ytkipcblbadkjnaa
