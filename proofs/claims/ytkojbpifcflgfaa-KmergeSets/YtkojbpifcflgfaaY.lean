/- The law of the text before, made fit for use: what each operation yields is a value that is known, or a slice in memory that reads as known numbers; memory only grows. Conditions: those of each theorem. -/
import Derived.Test.YtkojbpifcflgfaaZ
namespace Go.Proofs.Ytkojbpifcflgfaa
open Go.RowKit

/-- A slice that reads as these numbers, with an address. -/
def Sl (k : IntKind) (zs : List Int) (v : Value) (w : World) : Prop :=
  ∃ g off cap, v = .slice (some ⟨g, off, none⟩) zs.length cap ∧ g < w.heap.size ∧ zs.length ≤ cap ∧ cap ≤ maxLen ∧ ∀ i, i < zs.length → w.cell? ⟨g, off + i, none⟩ = some (.int k (zs.getD i 0))

theorem Sl.grow {k : IntKind} {zs : List Int} {v : Value} {w w' : World} (h : Sl k zs v w) (hb : Below w.heap.size w w') : Sl k zs v w' := by
  obtain ⟨g, off, cap, h1, h2, h3, h4, h5⟩ := h
  exact ⟨g, off, cap, h1, Nat.lt_of_lt_of_le h2 hb.size, h3, h4, fun i hi => (hb.cell (p := ⟨g, off + i, none⟩) h2).trans (h5 i hi)⟩

/-- A kind of value, that growth of memory keeps. -/
structure Kd where
  T : Value → World → Prop
  st : ∀ v w w', T v w → Below w.heap.size w w' → T v w'
def Kd.eq (x : Value) : Kd := ⟨fun v _ => v = x, fun _ _ _ h _ => h⟩
def Kd.rd (k : IntKind) (zs : List Int) : Kd := ⟨fun v w => Sl k zs v w, fun _ _ _ h hb => Sl.grow h hb⟩
def Kd.any : Kd := ⟨fun _ _ => True, fun _ _ _ _ _ => trivial⟩

def KT (ks : List Kd) (j : Nat) (v : Value) (w : World) : Prop := (ks.getD j .any).T v w

theorem does_mono {P : Program} {o : Oper} {ρ : Operand → Value} {w : World} {A B : Value → World → Prop} (h : does P o ρ w A) (hab : ∀ v w', A v w' → B v w') : does P o ρ w B := by
  unfold does at *
  generalize (execOp ρ o).run P w = r at *
  cases r with
  | ok n w' =>
    cases n with
    | value v => exact hab _ _ h
    | skip => exact hab _ _ h
    | enter f args => exact Calls.mono h fun e w'' ⟨v, he, hp⟩ => ⟨v, he, hab _ _ hp⟩
    | _ => exact h.elim
  | halt x w' => exact h.elim

theorem does_val {P : Program} {o : Oper} {ρ : Operand → Value} {w w' : World} {A : Value → World → Prop} {v : Value} (h : (execOp ρ o).run P w = .ok (.value v) w') (ha : A v w') : does P o ρ w A := by
  unfold does; rw [h]; exact ha
theorem does_skip {P : Program} {o : Oper} {ρ : Operand → Value} {w w' : World} {A : Value → World → Prop} (h : (execOp ρ o).run P w = .ok .skip w') (ha : A undef w') : does P o ρ w A := by
  unfold does; rw [h]; exact ha
theorem does_call {P : Program} {o : Oper} {ρ : Operand → Value} {w w' : World} {A : Value → World → Prop} {f : FuncId} {args : Array Value} (h : (execOp ρ o).run P w = .ok (.enter f args) w')
    (ha : Calls P f args w' (fun e w'' => ∃ v, e = .returned v ∧ A v w'')) : does P o ρ w A := by
  unfold does; rw [h]; exact ha

def Ob (P : Program) (ops : Array Oper) (ks : List Kd) (wb : World) (a0 : Act) (i : Nat) (o : Oper) : Prop :=
  ∀ a w, Below wb.heap.size wb w → (∀ e ∈ o.after, Region.binds .any e = true → Done ops (KT ks) a w e.on) → (∀ s, fixedB ops i s = true → a.eval (.tmp s) = a0.eval (.tmp s)) →
    if Region.wanted o (yielded ops a.tmps) = true then does P o a.eval w (fun v w' => KT ks i v w' ∧ Below w.heap.size w w') else KT ks i undef w

def AllOps (P : Program) (ops : Array Oper) (ks : List Kd) (wb : World) (a0 : Act) : Nat → List Oper → Prop
  | _, [] => True
  | i, o :: rest => Ob P ops ks wb a0 i o ∧ AllOps P ops ks wb a0 (i + 1) rest
theorem allOps_nil {P : Program} {ops : Array Oper} {ks : List Kd} {wb : World} {a0 : Act} {i : Nat} : AllOps P ops ks wb a0 i [] := trivial
theorem allOps_cons {P : Program} {ops : Array Oper} {ks : List Kd} {wb : World} {a0 : Act} {i : Nat} {o : Oper} {rest : List Oper} (h : Ob P ops ks wb a0 i o) (hr : AllOps P ops ks wb a0 (i + 1) rest) :
    AllOps P ops ks wb a0 i (o :: rest) := ⟨h, hr⟩
theorem allOps_get {P : Program} {ops : Array Oper} {ks : List Kd} {wb : World} {a0 : Act} : ∀ (l : List Oper) (k : Nat), AllOps P ops ks wb a0 k l → ∀ i o, l[i]? = some o → Ob P ops ks wb a0 (k + i) o
  | [], _, _, i, o, h => by simp at h
  | x :: l, k, hA, 0, o, h => by simp at h; subst h; exact hA.1
  | x :: l, k, hA, i + 1, o, h => by
    have := allOps_get l (k + 1) hA.2 i o (by simpa using h)
    rwa [show k + 1 + i = k + (i + 1) by omega] at this

theorem wp_region_K {P : Program} {id : Nat} {l : List Oper} {Q : Exit → Act → World → Prop} {a0 : Act} {w0 : World} (hm : P.follows .mixedOrders = true) (hB : regB l.toArray a0.tmps.size = true) (ks : List Kd) (wb : World)
    (hb : Below wb.heap.size wb w0) (hA : AllOps P l.toArray ks wb a0 0 l)
    (hQ : ∀ a w, Below wb.heap.size wb w → a.tmps.size = a0.tmps.size → a.defers = a0.defers → (∀ j, Done l.toArray (KT ks) a w j) → (∀ s, freeB l.toArray s = true → a.eval (.tmp s) = a0.eval (.tmp s)) → Q .normal a w) :
    (Code.region id l.toArray true).wp P Q a0 w0 := by
  refine wp_region_T hm hB (fun w => Below wb.heap.size wb w) (fun w w' => Below w.heap.size w w') (KT ks) (fun j v w w' h hb => Kd.st _ v w w' h hb) hb.drew ?_ hQ
  intro i o hi a w hS hbef hfix
  have H := allOps_get l 0 hA i o (by simpa using hi) a w hS hbef (by simpa using hfix)
  split
  · rename_i hw
    rw [if_pos hw] at H
    refine does_mono H fun v w' ⟨h1, h2⟩ => ?_
    rw [Nat.zero_add] at h1
    exact ⟨h1, h2, hS.trans (h2.mono hS.size)⟩
  · rename_i hw
    rw [if_neg hw] at H
    rwa [Nat.zero_add] at H

theorem slot {ops : Array Oper} {T : Nat → Value → World → Prop} {o : Oper} {a : Act} {w : World} (hb : ∀ e ∈ o.after, Region.binds .any e = true → Done ops T a w e.on) (k j d : Nat)
    (hk : (o.after[k]?).map (fun e => (e.on, Region.binds .any e)) = some (j, true)) (hd : (ops[j]?).bind (·.dst) = some d) : T j (a.eval (.tmp d)) w := by
  obtain ⟨e, he, h2⟩ := Option.map_eq_some_iff.1 hk
  simp only [Prod.mk.injEq] at h2
  obtain ⟨rfl, hbd⟩ := h2
  obtain ⟨oj, hj, hdj⟩ := Option.bind_eq_some_iff.1 hd
  obtain ⟨v, hv, hT⟩ := hb e (Array.mem_of_getElem? he) hbd oj hj
  rw [hv d hdj]
  exact hT
theorem done_slot {ops : Array Oper} {T : Nat → Value → World → Prop} {a : Act} {w : World} (h : ∀ j, Done ops T a w j) (j d : Nat) (hd : (ops[j]?).bind (·.dst) = some d) : T j (a.eval (.tmp d)) w := by
  obtain ⟨oj, hj, hdj⟩ := Option.bind_eq_some_iff.1 hd
  obtain ⟨v, hv, hT⟩ := h j oj hj
  rw [hv d hdj]
  exact hT
theorem wanted_none {o : Oper} {y : Nat → Option Bool} (h : o.guard = none) : Region.wanted o y = true := by simp [Region.wanted, h]
theorem wanted_of {ops : Array Oper} {o : Oper} {a : Act} {g d : Nat} {b : Bool} (h : o.guard = some (g, b)) (hd : (ops[g]?).bind (·.dst) = some d) (hv : a.eval (.tmp d) = .bool b) : Region.wanted o (yielded ops a.tmps) = true := by
  have : a.tmps[d]? = some (.bool b) := by
    cases h' : a.tmps[d]? with
    | none => simp [Act.eval, Array.getD] at hv; split at hv <;> simp_all [undef]
    | some x => simp [Act.eval, h'] at hv; simp [hv]
  simp [Region.wanted, h, yielded, hd, this]
theorem wanted_not {ops : Array Oper} {o : Oper} {a : Act} {g d : Nat} {b : Bool} (h : o.guard = some (g, b)) (hd : (ops[g]?).bind (·.dst) = some d) (hv : a.eval (.tmp d) = .bool (!b)) : ¬ Region.wanted o (yielded ops a.tmps) = true := by
  have : a.tmps[d]? = some (.bool (!b)) := by
    cases h' : a.tmps[d]? with
    | none => simp [Act.eval, Array.getD] at hv; split at hv <;> simp_all [undef]
    | some x => simp [Act.eval, h'] at hv; simp [hv]
  simp [Region.wanted, h, yielded, hd, this]
theorem ret_K {P : Program} {fn : Func} {a : Act} {w : World} {R : Ending → World → Prop} {t : Tmp} {v : Value} (hres : fn.results = #[.tmp t]) (hd : a.defers = []) (ht : a.eval (.tmp t) = v) (hR : R (.returned v) w) :
    Code.wp P Code.ret (bodyPost P fn R) a w :=
  wp_ret (bodyPost_ret (v := v) (by rw [results_tmp hres]; exact congrArg (fun x => Result.ok x w) ht) hd hR)
theorem ev_tmp (a : Act) (t : Nat) : a.eval (.tmp t) = a.tmps[t]?.getD undef := by simp [Act.eval]
theorem ev_const (a : Act) (v : Value) : a.eval (.const v) = v := rfl
theorem ev_func (a : Act) (f : FuncId) : a.eval (.func f) = .func (.func f) #[] #[] := rfl
end Go.Proofs.Ytkojbpifcflgfaa
