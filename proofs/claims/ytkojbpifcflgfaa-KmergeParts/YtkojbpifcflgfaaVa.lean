/- A law for a statement that leaves its order open: what each operation yields is told once, by a predicate that later growth of memory keeps; whatever order is drawn, all predicates hold at the end. Conditions: each operation's predicate follows from those of the operations that must come ahead of it.
The law of the text before, made fit for use: what each operation yields is a value that is known, or a slice in memory that reads as known numbers; memory only grows. Conditions: those of each theorem.
Plain: bytes, texts, and their order. No conditions but those of each theorem.
Plain facts on numbers, on how they are turned, and on their bytes: no Go text in sight. No conditions but those that each theorem names.
The contracts of Zig, Zag and Size: each answers what the plain functions say, and turns nothing in memory. Conditions: the argument fits its kind.
The contracts of grown and add: the bytes of a slice in new memory; the bytes of a number behind a row of the call's own. Conditions: sizes far below what a slice may take.
The contracts of Put, span and join. Conditions: sizes far below what a slice may take; what the bytes are.
The contract of join, and of Take. Conditions: what the bytes are.
The contract of Take. Conditions: what the bytes are.
The contract of awake, the look at the document's examples: it answers true, and what was in memory stays. No conditions.
The contracts of the document's own Zig, Zag and Bytes, and how a slice of bytes becomes a string. Conditions: the argument fits its kind.
Slices of bytes and of items in memory: what they read as, rows of the call's own, append; bytes compared. Conditions: those of each theorem.
The contracts of few, Rises, Same, Check, Common, and of the document's own Common and Seek. Conditions: those of each theorem.
The frame behind a statement that leaves its order open, written out.
The law for a statement that leaves its order open, in its wide form: what lies in memory may depend on which operations are through; and the same inside a round of a loop over a function. Conditions: those of each theorem. -/
import Derived.WalkKit
import Derived.RegionTactic
import Derived.Test.YtkojbpifcflgfaaRows
import Derived.Lib.Bytealg
import Derived.Lib.SlicesS
import Derived.Laws.BytesArg
import Derived.Lib.Zigzag
import Derived.Laws.BitsAllLaws
import Derived.ProofKit
import Derived.WalkSpells
import Derived.Laws.CopyOwn
import Derived.Deep.RegionWith
import Derived.Laws.AppendOwn
import Derived.Laws.AppendOwnNone
import Derived.Laws.Rows
import Derived.OwnWalk
import Derived.Deep.QuietTactic
import Derived.BigQuiet
import Derived.WalkMore
import Derived.Laws.Cover1
import Derived.OrdersIn
import Derived.RangeFuncCalls
namespace Go.Proofs.Ytkojbpifcflgfaa
open Go.RowKit

def does (P : Program) (o : Oper) (ρ : Operand → Value) (w : World) (Post : Value → World → Prop) : Prop :=
  match (execOp ρ o).run P w with
  | .ok (.value v) w' => Post v w'
  | .ok .skip w' => Post undef w'
  | .ok (.enter f args) w' => Calls P f args w' (fun e w'' => ∃ v, e = .returned v ∧ Post v w'')
  | _ => False

theorem does_wp {P : Program} {o : Oper} {a : Act} {w : World} {Post : Value → World → Prop} {K : Act → World → Prop} {Q : Exit → Act → World → Prop}
    (h : does P o a.eval w Post) (hK : ∀ v w', Post v w' → K (a.put o.dst v) w') : o.wp P a w K Q := by
  unfold does at h
  unfold Oper.wp
  generalize (execOp a.eval o).run P w = r at *
  cases r with
  | ok n w' =>
    cases n with
    | value v => exact hK _ _ h
    | skip => exact hK _ _ h
    | enter f args =>
      refine Calls.mono h ?_
      rintro e w'' ⟨v, rfl, hp⟩
      exact hK _ _ hp
    | _ => exact h.elim
  | halt x w' => exact h.elim

def fixedB (ops : Array Oper) (i s : Nat) : Bool :=
  (List.range ops.size).all fun j => j == i || match ops[j]? with
    | some o => o.dst != some s || o.after.any (fun e => Region.binds .any e && e.on == i)
    | none => true
def freeB (ops : Array Oper) (s : Nat) : Bool :=
  (List.range ops.size).all fun j => match ops[j]? with
    | some o => o.dst != some s
    | none => true
def regB (ops : Array Oper) (n : Nat) : Bool :=
  (List.range ops.size).all fun i => match ops[i]? with
    | some o => (match o.dst with | some d => decide (d < n) | none => true) && o.after.all (fun e => !Region.binds .any e || decide (e.on < i)) &&
        (List.range ops.size).all fun j => j == i || match o.dst, (ops[j]?).bind (·.dst) with
          | some d, some d' => d != d'
          | _, _ => true
    | none => true

theorem fixed_spec {ops : Array Oper} {i s : Nat} (h : fixedB ops i s = true) {j : Nat} {o : Oper} (hj : ops[j]? = some o) (hne : j ≠ i) (hd : o.dst = some s) :
    ∃ e ∈ o.after, Region.binds .any e = true ∧ e.on = i := by
  simp only [fixedB, List.all_eq_true, List.mem_range] at h
  have h1 := h j (Array.getElem?_eq_some_iff.1 hj).1
  simp only [hj, hd, Bool.or_eq_true, beq_iff_eq, hne, false_or, bne_self_eq_false, Bool.false_eq_true] at h1
  obtain ⟨e, he, hb⟩ := Array.any_eq_true'.1 h1
  simp only [Bool.and_eq_true, beq_iff_eq] at hb
  exact ⟨e, he, hb.1, hb.2⟩
theorem free_spec {ops : Array Oper} {s : Nat} (h : freeB ops s = true) {j : Nat} {o : Oper} (hj : ops[j]? = some o) : o.dst ≠ some s := by
  simp only [freeB, List.all_eq_true, List.mem_range] at h
  have h1 := h j (Array.getElem?_eq_some_iff.1 hj).1
  simpa [hj] using h1
theorem reg_spec {ops : Array Oper} {n : Nat} (h : regB ops n = true) {i : Nat} {o : Oper} (hi : ops[i]? = some o) :
    (∀ d, o.dst = some d → d < n) ∧ (∀ e ∈ o.after, Region.binds .any e = true → e.on < i) ∧
    ∀ (j : Nat) o' d, ops[j]? = some o' → j ≠ i → o.dst = some d → o'.dst ≠ some d := by
  simp only [regB, List.all_eq_true, List.mem_range] at h
  have h1 := h i (Array.getElem?_eq_some_iff.1 hi).1
  simp only [hi, Bool.and_eq_true] at h1
  obtain ⟨⟨h2, h3⟩, h4⟩ := h1
  refine ⟨fun d hd => ?_, fun e he hb => ?_, fun j o' d hj hne hd hd' => ?_⟩
  · simpa [hd] using h2
  · have := Array.all_eq_true_iff_forall_mem.1 h3 e he
    simpa [hb] using this
  · simp only [List.all_eq_true, List.mem_range] at h4
    have := h4 j (Array.getElem?_eq_some_iff.1 hj).1
    simp [hne, hd, hj, hd'] at this

theorem eval_put_same {a : Act} {d : Nat} {v : Value} (h : d < a.tmps.size) : (a.put (some d) v).eval (.tmp d) = v := by
  simp [Act.eval, Act.put, h]
theorem eval_put_ne {a : Act} {dst : Option Tmp} {d : Nat} {v : Value} (h : dst ≠ some d) : (a.put dst v).eval (.tmp d) = a.eval (.tmp d) :=
  Act.eval_put fun d' hd' he => by cases he; exact h hd'

section
variable {P : Program} {ops : Array Oper} {Q : Exit → Act → World → Prop}

/-- Operation number j has yielded a value of its kind. -/
def Done (ops : Array Oper) (T : Nat → Value → World → Prop) (a : Act) (w : World) (j : Nat) : Prop :=
  ∀ o, ops[j]? = some o → ∃ v, (∀ d, o.dst = some d → a.eval (.tmp d) = v) ∧ T j v w

structure Inv (ops : Array Oper) (S : World → Prop) (T : Nat → Value → World → Prop) (a0 : Act) (listed : Array Bool) (a : Act) (w : World) : Prop where
  size : listed.size = ops.size
  hS : S w
  tsize : a.tmps.size = a0.tmps.size
  defers : a.defers = a0.defers
  closed : ∀ j o, ops[j]? = some o → listed.getD j false = true → ∀ e ∈ o.after, Region.binds .any e = true → listed.getD e.on false = true
  done : ∀ j, listed.getD j false = true → Done ops T a w j
  kept : ∀ s, (∀ j o, ops[j]? = some o → listed.getD j false = true → o.dst ≠ some s) → a.eval (.tmp s) = a0.eval (.tmp s)

def left (listed : Array Bool) : Nat := (listed.toList.filter (fun b => !b)).length

theorem left_set : ∀ (l : List Bool) (i : Nat), l[i]? = some false → ((l.set i true).filter (fun b => !b)).length + 1 = (l.filter (fun b => !b)).length
  | [], i, h => by simp at h
  | b :: l, 0, h => by simp at h; subst h; simp
  | b :: l, i + 1, h => by
    have := left_set l i (by simpa using h)
    cases b <;> simp at * <;> omega

theorem get_false_of {listed : Array Bool} {i : Nat} (h : listed.getD i true = false) : listed[i]? = some false := by
  rcases Nat.lt_or_ge i listed.size with h' | h'
  · simp [h'] at h; simp [h', h]
  · simp [Array.getElem?_eq_none h'] at h
theorem getD_set_self {listed : Array Bool} {i : Nat} (h : i < listed.size) : (listed.setIfInBounds i true).getD i false = true := by simp [h]

theorem all_listed {listed : Array Bool} (hsz : listed.size = ops.size) {n : Nat} (hB : regB ops n = true) (hr : Region.ready .any ops listed = []) : ∀ j, j < ops.size → listed.getD j false = true := by
  intro j
  induction j using Nat.strongRecOn with
  | _ j ih =>
    intro hj
    cases hl : listed.getD j false with
    | true => rfl
    | false =>
      exfalso
      obtain ⟨o, ho⟩ : ∃ o, ops[j]? = some o := ⟨ops[j], by simp [hj]⟩
      have hmem : j ∈ Region.ready .any ops listed := by
        rw [mem_ready]
        refine ⟨?_, o, ho, fun e he hb => ih e.on ((reg_spec hB ho).2.1 e he hb) (Nat.lt_trans ((reg_spec hB ho).2.1 e he hb) hj)⟩
        have h' : j < listed.size := by omega
        simp [h'] at hl ⊢
        exact hl
      rw [hr] at hmem
      cases hmem

theorem inv_any {S : World → Prop} {G : World → World → Prop} {T : Nat → Value → World → Prop} {a0 : Act} (hB : regB ops a0.tmps.size = true)
    (hst : ∀ j v w w', T j v w → G w w' → T j v w')
    (hop : ∀ i o, ops[i]? = some o → ∀ a w, S w → (∀ e ∈ o.after, Region.binds .any e = true → Done ops T a w e.on) → (∀ s, fixedB ops i s = true → a.eval (.tmp s) = a0.eval (.tmp s)) →
      if Region.wanted o (yielded ops a.tmps) = true then does P o a.eval w (fun v w' => T i v w' ∧ G w w' ∧ S w') else T i undef w)
    (hQ : ∀ a w, S w → a.tmps.size = a0.tmps.size → a.defers = a0.defers → (∀ j, Done ops T a w j) → (∀ s, freeB ops s = true → a.eval (.tmp s) = a0.eval (.tmp s)) → Q .normal a w) :
    ∀ (fuel : Nat) (listed : Array Bool) (a : Act) (w : World), left listed ≤ fuel → Inv ops S T a0 listed a w → wpAny P .any ops Q fuel listed a w := by
  have fin : ∀ (listed : Array Bool) (a : Act) (w : World), Inv ops S T a0 listed a w → Region.ready .any ops listed = [] → Q .normal a w := by
    intro listed a w I hr
    have hall := all_listed I.size hB hr
    refine hQ a w I.hS I.tsize I.defers (fun j o ho => I.done j (hall j (Array.getElem?_eq_some_iff.1 ho).1) o ho) fun s hs => I.kept s fun j o hj _ => free_spec hs hj
  intro fuel
  induction fuel with
  | zero =>
    intro listed a w hl I
    have hr : Region.ready .any ops listed = [] := by
      cases h : Region.ready .any ops listed with
      | nil => rfl
      | cons i rs =>
        exfalso
        have hi : i ∈ Region.ready .any ops listed := by rw [h]; simp
        have h0 := get_false_of (mem_ready.1 hi).1
        have : false ∈ listed.toList.filter (fun b => !b) := List.mem_filter.2 ⟨List.mem_of_getElem? (by simpa using h0), rfl⟩
        have := List.length_pos_of_mem this
        unfold left at hl; omega
    exact ⟨hr, fin listed a w I hr⟩
  | succ fuel ih =>
    intro listed a w hl I
    refine ⟨fin listed a w I, fun i hi => ?_⟩
    obtain ⟨hun, o, ho, hall⟩ := mem_ready.1 hi
    have hlt : i < listed.size := by rw [I.size]; exact (Array.getElem?_eq_some_iff.1 ho).1
    have hcount : left (listed.setIfInBounds i true) ≤ fuel := by
      have := left_set listed.toList i (by simpa using get_false_of hun)
      unfold left at *
      simp only [Array.toList_setIfInBounds]
      omega
    have hlf : listed.getD i false ≠ true := by
      have := get_false_of hun
      simp [this]
    have bef : ∀ e ∈ o.after, Region.binds .any e = true → Done ops T a w e.on := fun e he hb => I.done e.on (hall e he hb)
    have fix : ∀ s, fixedB ops i s = true → a.eval (.tmp s) = a0.eval (.tmp s) := fun s hs => I.kept s fun j oj hj hjl hd => by
      by_cases hji : j = i
      · subst hji; exact hlf hjl
      · obtain ⟨e, he, hb, hei⟩ := fixed_spec hs hj hji hd
        have := I.closed j oj hj hjl e he hb
        rw [hei] at this
        exact hlf this
    have H := hop i o ho a w I.hS bef fix
    obtain ⟨hd1, hd2, hd3⟩ := reg_spec hB ho
    have next : ∀ v w', T i v w' → (w' = w ∨ G w w') → S w' → Inv ops S T a0 (listed.setIfInBounds i true) (a.put o.dst v) w' := by
      intro v w' hT hG hS
      have stab : ∀ j u, T j u w → T j u w' := fun j u h => by
        rcases hG with rfl | hG
        · exact h
        · exact hst j u w w' h hG
      have back : ∀ j, j ≠ i → (listed.setIfInBounds i true).getD j false = true → listed.getD j false = true := fun j hj h => by
        rwa [getD_set_ne false (Ne.symm hj)] at h
      refine ⟨by simpa using I.size, hS, ?_, ?_, ?_, ?_, ?_⟩
      · rw [← I.tsize]; cases o.dst <;> simp [Act.put]
      · rw [← I.defers]; cases o.dst <;> rfl
      · intro j oj hj hjl e he hb
        by_cases hji : j = i
        · subst hji
          rw [ho] at hj; cases hj
          exact getD_set_true (hall e he hb)
        · exact getD_set_true (I.closed j oj hj (back j hji hjl) e he hb)
      · intro j hjl oj hj
        by_cases hji : j = i
        · subst hji
          rw [ho] at hj; cases hj
          exact ⟨v, fun d hd => by rw [hd]; exact eval_put_same (by rw [I.tsize]; exact hd1 d hd), hT⟩
        · obtain ⟨u, hu, hTu⟩ := I.done j (back j hji hjl) oj hj
          refine ⟨u, fun d hd => ?_, stab j u hTu⟩
          rw [eval_put_ne (fun h => hd3 j oj d hj hji h hd)]
          exact hu d hd
      · intro s hs
        rw [eval_put_ne (hs i o ho (getD_set_self hlt))]
        exact I.kept s fun j oj hj hjl => hs j oj hj (getD_set_true hjl)
    unfold wpOp
    rw [ho]
    show if Region.wanted o (yielded ops a.tmps) = true then _ else _
    split
    · rename_i hw
      rw [if_pos hw] at H
      exact .inl (does_wp H fun v w' ⟨h1, h2, h3⟩ => ih _ _ _ hcount (next v w' h1 (.inr h2) h3))
    · rename_i hw
      rw [if_neg hw] at H
      exact ih _ _ _ hcount (next undef w H (.inl rfl) I.hS)

theorem left_replicate (n : Nat) : left (Array.replicate n false) ≤ n := by
  unfold left
  refine Nat.le_trans (List.length_filter_le _ _) ?_
  simp

theorem rep_false {n j : Nat} (h : (Array.replicate n false).getD j false = true) : False := by
  by_cases hj : j < n
  · simp [hj] at h
  · simp [Array.getElem?_eq_none (show (Array.replicate n false).size ≤ j by simp; omega)] at h

theorem wp_region_T {id : Nat} {a0 : Act} {w0 : World} (hm : P.follows .mixedOrders = true) (hB : regB ops a0.tmps.size = true) (S : World → Prop) (G : World → World → Prop) (T : Nat → Value → World → Prop)
    (hst : ∀ j v w w', T j v w → G w w' → T j v w') (hS : S w0.drew)
    (hop : ∀ i o, ops[i]? = some o → ∀ a w, S w → (∀ e ∈ o.after, Region.binds .any e = true → Done ops T a w e.on) → (∀ s, fixedB ops i s = true → a.eval (.tmp s) = a0.eval (.tmp s)) →
      if Region.wanted o (yielded ops a.tmps) = true then does P o a.eval w (fun v w' => T i v w' ∧ G w w' ∧ S w') else T i undef w)
    (hQ : ∀ a w, S w → a.tmps.size = a0.tmps.size → a.defers = a0.defers → (∀ j, Done ops T a w j) → (∀ s, freeB ops s = true → a.eval (.tmp s) = a0.eval (.tmp s)) → Q .normal a w) :
    (Code.region id ops true).wp P Q a0 w0 := by
  refine wp_region_any hm (inv_any hB hst hop hQ ops.size _ a0 _ (left_replicate _) ⟨by simp, hS, rfl, rfl, ?_, ?_, fun _ _ => rfl⟩)
  · intro j o hj hl
    exact (rep_false hl).elim
  · intro j hl
    exact (rep_false hl).elim
end
end Go.Proofs.Ytkojbpifcflgfaa

namespace Go.Proofs.Ytkojbpifcflgfaa
open Go.RowKit

/-- A slice that reads as these numbers, with an address. -/
def Sl (k : IntKind) (zs : List Int) (v : Value) (w : World) : Prop :=
  ∃ g off cap, v = .slice (some ⟨g, off, none⟩) zs.length cap ∧ g < w.heap.size ∧ zs.length ≤ cap ∧ cap ≤ maxLen ∧ ∀ i, i < zs.length → w.cell? ⟨g, off + i, none⟩ = some (.int k (zs.getD i 0))

theorem Sl.grow {k : IntKind} {zs : List Int} {v : Value} {w w' : World} (h : Sl k zs v w) (hb : Below w.heap.size w w') : Sl k zs v w' := by
  obtain ⟨g, off, cap, h1, h2, h3, h4, h5⟩ := h
  exact ⟨g, off, cap, h1, Nat.lt_of_lt_of_le h2 hb.size, h3, h4, fun i hi => (hb.cell (p := ⟨g, off + i, none⟩) h2).trans (h5 i hi)⟩

/-- A kind of value, that growth of memory keeps. -/
structure Kd where
  T : Value → World → Prop
  st : ∀ v w w', T v w → Below w.heap.size w w' → T v w'
def Kd.eq (x : Value) : Kd := ⟨fun v _ => v = x, fun _ _ _ h _ => h⟩
def Kd.rd (k : IntKind) (zs : List Int) : Kd := ⟨fun v w => Sl k zs v w, fun _ _ _ h hb => Sl.grow h hb⟩
def Kd.any : Kd := ⟨fun _ _ => True, fun _ _ _ _ _ => trivial⟩

def KT (ks : List Kd) (j : Nat) (v : Value) (w : World) : Prop := (ks.getD j .any).T v w

theorem does_mono {P : Program} {o : Oper} {ρ : Operand → Value} {w : World} {A B : Value → World → Prop} (h : does P o ρ w A) (hab : ∀ v w', A v w' → B v w') : does P o ρ w B := by
  unfold does at *
  generalize (execOp ρ o).run P w = r at *
  cases r with
  | ok n w' =>
    cases n with
    | value v => exact hab _ _ h
    | skip => exact hab _ _ h
    | enter f args => exact Calls.mono h fun e w'' ⟨v, he, hp⟩ => ⟨v, he, hab _ _ hp⟩
    | _ => exact h.elim
  | halt x w' => exact h.elim

theorem does_val {P : Program} {o : Oper} {ρ : Operand → Value} {w w' : World} {A : Value → World → Prop} {v : Value} (h : (execOp ρ o).run P w = .ok (.value v) w') (ha : A v w') : does P o ρ w A := by
  unfold does; rw [h]; exact ha
theorem does_skip {P : Program} {o : Oper} {ρ : Operand → Value} {w w' : World} {A : Value → World → Prop} (h : (execOp ρ o).run P w = .ok .skip w') (ha : A undef w') : does P o ρ w A := by
  unfold does; rw [h]; exact ha
theorem does_call {P : Program} {o : Oper} {ρ : Operand → Value} {w w' : World} {A : Value → World → Prop} {f : FuncId} {args : Array Value} (h : (execOp ρ o).run P w = .ok (.enter f args) w')
    (ha : Calls P f args w' (fun e w'' => ∃ v, e = .returned v ∧ A v w'')) : does P o ρ w A := by
  unfold does; rw [h]; exact ha

def Ob (P : Program) (ops : Array Oper) (ks : List Kd) (wb : World) (a0 : Act) (i : Nat) (o : Oper) : Prop :=
  ∀ a w, Below wb.heap.size wb w → (∀ e ∈ o.after, Region.binds .any e = true → Done ops (KT ks) a w e.on) → (∀ s, fixedB ops i s = true → a.eval (.tmp s) = a0.eval (.tmp s)) →
    if Region.wanted o (yielded ops a.tmps) = true then does P o a.eval w (fun v w' => KT ks i v w' ∧ Below w.heap.size w w') else KT ks i undef w

def AllOps (P : Program) (ops : Array Oper) (ks : List Kd) (wb : World) (a0 : Act) : Nat → List Oper → Prop
  | _, [] => True
  | i, o :: rest => Ob P ops ks wb a0 i o ∧ AllOps P ops ks wb a0 (i + 1) rest
theorem allOps_nil {P : Program} {ops : Array Oper} {ks : List Kd} {wb : World} {a0 : Act} {i : Nat} : AllOps P ops ks wb a0 i [] := trivial
theorem allOps_cons {P : Program} {ops : Array Oper} {ks : List Kd} {wb : World} {a0 : Act} {i : Nat} {o : Oper} {rest : List Oper} (h : Ob P ops ks wb a0 i o) (hr : AllOps P ops ks wb a0 (i + 1) rest) :
    AllOps P ops ks wb a0 i (o :: rest) := ⟨h, hr⟩
theorem allOps_get {P : Program} {ops : Array Oper} {ks : List Kd} {wb : World} {a0 : Act} : ∀ (l : List Oper) (k : Nat), AllOps P ops ks wb a0 k l → ∀ i o, l[i]? = some o → Ob P ops ks wb a0 (k + i) o
  | [], _, _, i, o, h => by simp at h
  | x :: l, k, hA, 0, o, h => by simp at h; subst h; exact hA.1
  | x :: l, k, hA, i + 1, o, h => by
    have := allOps_get l (k + 1) hA.2 i o (by simpa using h)
    rwa [show k + 1 + i = k + (i + 1) by omega] at this

theorem wp_region_K {P : Program} {id : Nat} {l : List Oper} {Q : Exit → Act → World → Prop} {a0 : Act} {w0 : World} (hm : P.follows .mixedOrders = true) (hB : regB l.toArray a0.tmps.size = true) (ks : List Kd) (wb : World)
    (hb : Below wb.heap.size wb w0) (hA : AllOps P l.toArray ks wb a0 0 l)
    (hQ : ∀ a w, Below wb.heap.size wb w → a.tmps.size = a0.tmps.size → a.defers = a0.defers → (∀ j, Done l.toArray (KT ks) a w j) → (∀ s, freeB l.toArray s = true → a.eval (.tmp s) = a0.eval (.tmp s)) → Q .normal a w) :
    (Code.region id l.toArray true).wp P Q a0 w0 := by
  refine wp_region_T hm hB (fun w => Below wb.heap.size wb w) (fun w w' => Below w.heap.size w w') (KT ks) (fun j v w w' h hb => Kd.st _ v w w' h hb) hb.drew ?_ hQ
  intro i o hi a w hS hbef hfix
  have H := allOps_get l 0 hA i o (by simpa using hi) a w hS hbef (by simpa using hfix)
  split
  · rename_i hw
    rw [if_pos hw] at H
    refine does_mono H fun v w' ⟨h1, h2⟩ => ?_
    rw [Nat.zero_add] at h1
    exact ⟨h1, h2, hS.trans (h2.mono hS.size)⟩
  · rename_i hw
    rw [if_neg hw] at H
    rwa [Nat.zero_add] at H

theorem slot {ops : Array Oper} {T : Nat → Value → World → Prop} {o : Oper} {a : Act} {w : World} (hb : ∀ e ∈ o.after, Region.binds .any e = true → Done ops T a w e.on) (k j d : Nat)
    (hk : (o.after[k]?).map (fun e => (e.on, Region.binds .any e)) = some (j, true)) (hd : (ops[j]?).bind (·.dst) = some d) : T j (a.eval (.tmp d)) w := by
  obtain ⟨e, he, h2⟩ := Option.map_eq_some_iff.1 hk
  simp only [Prod.mk.injEq] at h2
  obtain ⟨rfl, hbd⟩ := h2
  obtain ⟨oj, hj, hdj⟩ := Option.bind_eq_some_iff.1 hd
  obtain ⟨v, hv, hT⟩ := hb e (Array.mem_of_getElem? he) hbd oj hj
  rw [hv d hdj]
  exact hT
theorem done_slot {ops : Array Oper} {T : Nat → Value → World → Prop} {a : Act} {w : World} (h : ∀ j, Done ops T a w j) (j d : Nat) (hd : (ops[j]?).bind (·.dst) = some d) : T j (a.eval (.tmp d)) w := by
  obtain ⟨oj, hj, hdj⟩ := Option.bind_eq_some_iff.1 hd
  obtain ⟨v, hv, hT⟩ := h j oj hj
  rw [hv d hdj]
  exact hT
theorem wanted_none {o : Oper} {y : Nat → Option Bool} (h : o.guard = none) : Region.wanted o y = true := by simp [Region.wanted, h]
theorem wanted_of {ops : Array Oper} {o : Oper} {a : Act} {g d : Nat} {b : Bool} (h : o.guard = some (g, b)) (hd : (ops[g]?).bind (·.dst) = some d) (hv : a.eval (.tmp d) = .bool b) : Region.wanted o (yielded ops a.tmps) = true := by
  have : a.tmps[d]? = some (.bool b) := by
    cases h' : a.tmps[d]? with
    | none => simp [Act.eval, Array.getD] at hv; split at hv <;> simp_all [undef]
    | some x => simp [Act.eval, h'] at hv; simp [hv]
  simp [Region.wanted, h, yielded, hd, this]
theorem wanted_not {ops : Array Oper} {o : Oper} {a : Act} {g d : Nat} {b : Bool} (h : o.guard = some (g, b)) (hd : (ops[g]?).bind (·.dst) = some d) (hv : a.eval (.tmp d) = .bool (!b)) : ¬ Region.wanted o (yielded ops a.tmps) = true := by
  have : a.tmps[d]? = some (.bool (!b)) := by
    cases h' : a.tmps[d]? with
    | none => simp [Act.eval, Array.getD] at hv; split at hv <;> simp_all [undef]
    | some x => simp [Act.eval, h'] at hv; simp [hv]
  simp [Region.wanted, h, yielded, hd, this]
theorem ret_K {P : Program} {fn : Func} {a : Act} {w : World} {R : Ending → World → Prop} {t : Tmp} {v : Value} (hres : fn.results = #[.tmp t]) (hd : a.defers = []) (ht : a.eval (.tmp t) = v) (hR : R (.returned v) w) :
    Code.wp P Code.ret (bodyPost P fn R) a w :=
  wp_ret (bodyPost_ret (v := v) (by rw [results_tmp hres]; exact congrArg (fun x => Result.ok x w) ht) hd hR)
theorem ev_tmp (a : Act) (t : Nat) : a.eval (.tmp t) = a.tmps[t]?.getD undef := by simp [Act.eval]
theorem ev_const (a : Act) (v : Value) : a.eval (.const v) = v := rfl
theorem ev_func (a : Act) (f : FuncId) : a.eval (.func f) = .func (.func f) #[] #[] := rfl
end Go.Proofs.Ytkojbpifcflgfaa

namespace Go.Proofs.Ytkojbpifcflgfaa

def Bytes (l : List Int) : Prop := ∀ x ∈ l, 0 ≤ x ∧ x ≤ 255
theorem bytes_append {a b : List Int} (ha : Bytes a) (hb : Bytes b) : Bytes (a ++ b) := by
  intro x hx
  rcases List.mem_append.1 hx with h | h
  · exact ha x h
  · exact hb x h
theorem bytes_drop {a : List Int} (ha : Bytes a) (n : Nat) : Bytes (a.drop n) := fun x hx => ha x (List.mem_of_mem_drop hx)
theorem bytes_at {a : List Int} (ha : Bytes a) (k : Nat) : 0 ≤ a.getD k 0 ∧ a.getD k 0 ≤ 255 := by
  by_cases h : k < a.length
  · have e : a.getD k 0 = a[k] := by simp [List.getD, h]
    rw [e]; exact ha _ (List.getElem_mem h)
  · have e : a.getD k 0 = 0 := by simp [List.getD, show a[k]? = none from List.getElem?_eq_none (by omega)]
    rw [e]; omega

/-- A text's bytes as numbers. -/
def nums (s : ByteArray) : List Int := s.data.toList.map (fun c => (c.toNat : Int))
theorem nums_len (s : ByteArray) : (nums s).length = s.size := by
  unfold nums; rw [List.length_map]; rfl
theorem u8_lt (c : UInt8) : c.toNat < 256 := c.toNat_lt
theorem nums_bytes (s : ByteArray) : Bytes (nums s) := by
  intro x hx
  obtain ⟨c, _, rfl⟩ := List.mem_map.1 hx
  have := u8_lt c
  omega
theorem str_nums (s : ByteArray) : strOfNums (nums s) = s := by
  apply ByteArray.ext
  have h : ∀ l : List UInt8, (l.map (fun c => (c.toNat : Int))).map (fun n => UInt8.ofNat n.toNat) = l := by
    intro l
    induction l with
    | nil => rfl
    | cons c r ih => simp only [List.map_cons, ih]; simp
  unfold strOfNums nums
  simp only [h]
theorem nums_str {l : List Int} (h : Bytes l) : nums (strOfNums l) = l := by
  unfold nums strOfNums
  simp only [List.map_map]
  induction l with
  | nil => rfl
  | cons x r ih =>
    have h1 := h x (List.mem_cons_self ..)
    have h2 := ih (fun y hy => h y (List.mem_cons_of_mem _ hy))
    simp only [List.map_cons, h2, Function.comp]
    congr 1
    simp only [UInt8.toNat_ofNat']
    omega
theorem nums_inj {a b : ByteArray} (h : nums a = nums b) : a = b := by rw [← str_nums a, h, str_nums]
theorem str_inj {a b : List Int} (ha : Bytes a) (hb : Bytes b) (h : strOfNums a = strOfNums b) : a = b := by rw [← nums_str ha, h, nums_str hb]
theorem nums_at (s : ByteArray) (k : Nat) (h : k < s.size) : (nums s).getD k 0 = (s[k].toNat : Int) := by
  have h' : k < s.data.toList.length := h
  have e : s.data.toList[k] = s[k] := rfl
  have e2 : (nums s)[k]? = some (s.data.toList[k].toNat : Int) := by
    unfold nums; rw [List.getElem?_map, List.getElem?_eq_getElem h']; rfl
  rw [List.getD, e2, e]; rfl

/-- Ahead, byte by byte. -/
def li : List Int → List Int → Bool
  | _, [] => false
  | [], _ :: _ => true
  | a :: x, b :: y => decide (a < b) || (decide (a = b) && li x y)
theorem less_nums : ∀ (a b : List UInt8), Op.bytesLess a b = li (a.map fun c => (c.toNat : Int)) (b.map fun c => (c.toNat : Int))
  | a, [] => by cases a <;> simp [Op.bytesLess, li]
  | [], _ :: _ => by simp [Op.bytesLess, li]
  | a :: x, b :: y => by
    have ih := less_nums x y
    simp only [Op.bytesLess, List.map_cons, li, ih]
    congr 1
    · rw [Bool.eq_iff_iff]; simp [UInt8.lt_iff_toNat_lt]
    · congr 1
      rw [Bool.eq_iff_iff]
      simp only [beq_iff_eq, decide_eq_true_eq]
      constructor
      · rintro rfl; rfl
      · intro h; exact UInt8.toNat_inj.1 (by omega)
theorem bl_eq (a b : ByteArray) : Op.bytesLess a.toList b.toList = li (nums a) (nums b) := by
  rw [Lib.toList_data, Lib.toList_data]; exact less_nums _ _
theorem beq_eq (a b : ByteArray) : (a.toList == b.toList) = decide (a = b) := by
  by_cases h : a = b
  · subst h; simp
  · rw [decide_eq_false h]; exact (Lib.bytes_beq_false_iff a b).2 h
theorem li_irr : ∀ a : List Int, li a a = false
  | [] => rfl
  | x :: r => by simp [li, li_irr r]
theorem li_trans : ∀ a b c : List Int, li a b = true → li b c = true → li a c = true
  | _, [], _, h, _ => by simp [li] at h
  | _, _ :: _, [], _, h => by simp [li] at h
  | [], _ :: _, _ :: _, _, _ => rfl
  | x :: a, y :: b, z :: c, h1, h2 => by
    have ih := li_trans a b c
    simp only [li, Bool.or_eq_true, Bool.and_eq_true, decide_eq_true_eq] at *
    rcases h1 with h1 | ⟨h1, h1'⟩ <;> rcases h2 with h2 | ⟨h2, h2'⟩
    · exact .inl (by omega)
    · exact .inl (by omega)
    · exact .inl (by omega)
    · exact .inr ⟨by omega, ih h1' h2'⟩
theorem li_total : ∀ a b : List Int, a ≠ b → li a b = false → li b a = true
  | [], [], h, _ => absurd rfl h
  | [], _ :: _, _, h => by simp [li] at h
  | _ :: _, [], _, _ => rfl
  | x :: a, y :: b, h, h1 => by
    have ih := li_total a b
    simp only [li, Bool.or_eq_true, Bool.and_eq_true, decide_eq_true_eq, Bool.or_eq_false_iff, Bool.and_eq_false_iff, decide_eq_false_iff_not] at *
    by_cases hxy : x = y
    · subst hxy
      have h3 : li a b = false := by
        rcases h1.2 with h2 | h2
        · exact absurd rfl h2
        · exact h2
      exact .inr ⟨rfl, ih (fun e => h (by rw [e])) h3⟩
    · exact .inl (by omega)
theorem li_asymm {a b : List Int} (h : li a b = true) : li b a = false := by
  cases h' : li b a with
  | false => rfl
  | true => have := li_trans a b a h h'; rw [li_irr] at this; cases this
theorem li_pre : ∀ (p a b : List Int), li (p ++ a) (p ++ b) = li a b
  | [], _, _ => rfl
  | x :: p, a, b => by simp [li, li_pre p a b]

/-- -1, 0, 1: the order of two texts. -/
def ci (a b : List Int) : Int := if li a b = true then -1 else if a = b then 0 else 1
theorem ci_cases (a b : List Int) : ci a b = -1 ∨ ci a b = 0 ∨ ci a b = 1 := by unfold ci; split <;> (try split) <;> simp
theorem ci_zero {a b : List Int} : ci a b = 0 ↔ a = b := by
  unfold ci
  constructor
  · intro h; split at h
    · omega
    · split at h
      · assumption
      · omega
  · rintro rfl; simp [li_irr]
theorem ci_neg {a b : List Int} : ci a b < 0 ↔ li a b = true := by
  unfold ci; split
  · rename_i h; simp [h]
  · rename_i h
    constructor
    · intro h'; split at h' <;> omega
    · intro h'; exact absurd h' h
theorem ci_turn (a b : List Int) : ci b a = - ci a b := by
  unfold ci
  by_cases h1 : li a b = true
  · rw [if_pos h1, if_neg (by rw [li_asymm h1]; simp), if_neg (by rintro rfl; rw [li_irr] at h1; cases h1)]; rfl
  · by_cases h2 : a = b
    · subst h2; simp [li_irr]
    · rw [if_neg h1, if_neg h2, if_pos (li_total a b h2 (by simpa using h1))]
theorem cmp_nums : ∀ (a b : List UInt8), Lib.compareBytes a b = ci (a.map fun c => (c.toNat : Int)) (b.map fun c => (c.toNat : Int))
  | [], [] => by simp [Lib.compareBytes, ci, li]
  | [], _ :: _ => by simp [Lib.compareBytes, ci, li]
  | _ :: _, [] => by simp [Lib.compareBytes, ci, li]
  | a :: x, b :: y => by
    have ih := cmp_nums x y
    simp only [Lib.compareBytes, List.map_cons, ih, UInt8.lt_iff_toNat_lt]
    generalize List.map (fun c : UInt8 => (c.toNat : Int)) x = X
    generalize List.map (fun c : UInt8 => (c.toNat : Int)) y = Y
    generalize a.toNat = m
    generalize b.toNat = n
    unfold ci
    by_cases h1 : m < n
    · have e : li ((m : Int) :: X) ((n : Int) :: Y) = true := by simp [li]; omega
      rw [e]; simp [h1]
    · by_cases h2 : n < m
      · have e : li ((m : Int) :: X) ((n : Int) :: Y) = false := by simp [li]; omega
        have e' : ¬ ((m : Int) :: X) = ((n : Int) :: Y) := by simp; omega
        rw [e, if_neg h1, if_pos h2, if_neg (by simp), if_neg e']
      · obtain rfl : m = n := by omega
        have e : li ((m : Int) :: X) ((m : Int) :: Y) = li X Y := by simp [li]
        rw [e]; simp
theorem cmp_eq (a b : ByteArray) : Lib.compareBytes a.data.toList b.data.toList = ci (nums a) (nums b) := cmp_nums _ _

theorem bytes_take {a : List Int} (ha : Bytes a) (n : Nat) : Bytes (a.take n) := fun x hx => ha x (List.mem_of_mem_take hx)
theorem bytes_nil : Bytes [] := fun x hx => by simp at hx

/-- How many bytes two items begin with alike. -/
def cm : List Int → List Int → Nat
  | a :: x, b :: y => if a = b then cm x y + 1 else 0
  | _, _ => 0
theorem cm_le : ∀ a b : List Int, cm a b ≤ a.length ∧ cm a b ≤ b.length
  | [], b => by simp [cm]
  | _ :: _, [] => by simp [cm]
  | a :: x, b :: y => by
    have := cm_le x y
    simp only [cm]; split <;> simp <;> omega
theorem cm_take : ∀ a b : List Int, a.take (cm a b) = b.take (cm a b)
  | [], b => by simp [cm]
  | _ :: _, [] => by simp [cm]
  | a :: x, b :: y => by
    have := cm_take x y
    simp only [cm]; split
    · rename_i h; subst h; simp [this]
    · simp
theorem cm_ne : ∀ a b : List Int, cm a b < a.length → cm a b < b.length → a.getD (cm a b) 0 ≠ b.getD (cm a b) 0
  | [], b, h, _ => by simp at h
  | _ :: _, [], _, h => by simp at h
  | a :: x, b :: y, h1, h2 => by
    have ih := cm_ne x y
    simp only [cm] at *
    split
    · rename_i h; rw [if_pos h] at h1 h2
      simpa using ih (by simpa using h1) (by simpa using h2)
    · simpa using ‹_›
theorem cm_comm : ∀ a b : List Int, cm a b = cm b a
  | [], b => by cases b <;> simp [cm]
  | _ :: _, [] => by simp [cm]
  | a :: x, b :: y => by
    have := cm_comm x y
    simp only [cm, eq_comm (a := b)]; split <;> simp [this]
/-- The first n bytes are alike, and what follows is another byte, or one of the two ends there. -/
theorem cm_is {a b : List Int} {n : Nat} (ha : n ≤ a.length) (hb : n ≤ b.length) (h : ∀ i, i < n → a.getD i 0 = b.getD i 0) (hs : n = a.length ∨ n = b.length ∨ a.getD n 0 ≠ b.getD n 0) : cm a b = n := by
  induction n generalizing a b with
  | zero =>
    cases a with
    | nil => simp [cm]
    | cons x r =>
      cases b with
      | nil => simp [cm]
      | cons y s =>
        rcases hs with h | h | h
        · simp at h
        · simp at h
        · simp only [cm]; rw [if_neg (by simpa using h)]
  | succ n ih =>
    cases a with
    | nil => simp at ha
    | cons x r =>
      cases b with
      | nil => simp at hb
      | cons y s =>
        have h0 := h 0 (by omega)
        simp only [List.getD_cons_zero] at h0
        simp only [cm]; rw [if_pos h0]
        congr 1
        refine ih (by simpa using ha) (by simpa using hb) (fun i hi => by simpa using h (i + 1) (by omega)) ?_
        rcases hs with h | h | h
        · left; simpa using h
        · right; left; simpa using h
        · right; right; simpa using h
end Go.Proofs.Ytkojbpifcflgfaa

namespace Go.Proofs.Ytkojbpifcflgfaa
open Go.RowKit

/-- n turned. -/
def zz (n : Int) : Int := if 0 ≤ n then 2 * n else -2 * n - 1
/-- The number that turned is u. -/
def zg (u : Int) : Int := if u % 2 = 0 then u / 2 else -(u / 2) - 1
theorem zz_bd {n : Int} (h0 : -9223372036854775808 ≤ n) (h1 : n ≤ 9223372036854775807) : 0 ≤ zz n ∧ zz n ≤ 18446744073709551615 := by
  unfold zz; split <;> omega
theorem zg_bd {u : Int} (h0 : 0 ≤ u) (h1 : u ≤ 18446744073709551615) : -9223372036854775808 ≤ zg u ∧ zg u ≤ 9223372036854775807 := by
  unfold zg; split <;> omega
theorem zg_zz (n : Int) : zg (zz n) = n := by
  unfold zg zz; split <;> split <;> omega
theorem zz_zg {u : Int} (h0 : 0 ≤ u) : zz (zg u) = u := by
  unfold zg zz; split <;> split <;> omega

theorem ones_xor64 (b : Nat) (hb : b < 2 ^ 64) : b ^^^ (2 ^ 64 - 1) = 2 ^ 64 - 1 - b := by
  rw [Nat.xor_comm]; exact Lib.xor_ones64 b hb

/-- What Zig's one row comes to. -/
theorem zig_bits {n : Int} (h0 : -9223372036854775808 ≤ n) (h1 : n ≤ 9223372036854775807) :
    bits .xor .u64 (IntKind.u64.wrap (IntKind.u64.wrap n * 2)) (IntKind.u64.wrap (n / 9223372036854775808)) = zz n := by
  by_cases h : 0 ≤ n
  · have e1 : IntKind.u64.wrap (IntKind.u64.wrap n * 2) = (((2 * n).toNat : Nat) : Int) := by
      rw [IntKind.wrap_u64, IntKind.wrap_u64]; omega
    have e2 : IntKind.u64.wrap (n / 9223372036854775808) = ((0 : Nat) : Int) := by
      rw [IntKind.wrap_u64]; omega
    rw [e1, e2, bits_xor_u64_nat _ _ (by omega) (by decide), Nat.xor_zero]
    unfold zz; rw [if_pos h]; omega
  · have e1 : IntKind.u64.wrap (IntKind.u64.wrap n * 2) = (((2 * n + 18446744073709551616).toNat : Nat) : Int) := by
      rw [IntKind.wrap_u64, IntKind.wrap_u64]; omega
    have e2 : IntKind.u64.wrap (n / 9223372036854775808) = ((2 ^ 64 - 1 : Nat) : Int) := by
      rw [IntKind.wrap_u64]; omega
    rw [e1, e2, bits_xor_u64_nat _ _ (by omega) (by decide), ones_xor64 _ (by omega)]
    unfold zz; rw [if_neg h]; omega

theorem i64_xor_zero (x : Nat) (hx : x < 9223372036854775808) : bits .xor .i64 (x : Int) 0 = (x : Int) := by
  show IntKind.i64.wrap ((BitVec.ofInt 64 (x : Int) ^^^ BitVec.ofInt 64 0).toNat : Int) = _
  have h1 : (BitVec.ofInt 64 (0 : Int)).toNat = 0 := by decide
  have h2 : (BitVec.ofInt 64 (x : Int)).toNat = x := by
    rw [BitVec.ofInt_natCast, BitVec.toNat_ofNat]; exact Nat.mod_eq_of_lt (by omega)
  rw [BitVec.toNat_xor, h1, h2, Nat.xor_zero, IntKind.wrap_i64]
  omega
theorem i64_xor_ones (x : Nat) (hx : x < 9223372036854775808) : bits .xor .i64 (x : Int) (-1) = -(x : Int) - 1 := by
  show IntKind.i64.wrap ((BitVec.ofInt 64 (x : Int) ^^^ BitVec.ofInt 64 (-1)).toNat : Int) = _
  have h1 : (BitVec.ofInt 64 (-1)).toNat = 2 ^ 64 - 1 := by decide
  have h2 : (BitVec.ofInt 64 (x : Int)).toNat = x := by
    rw [BitVec.ofInt_natCast, BitVec.toNat_ofNat]; exact Nat.mod_eq_of_lt (by omega)
  rw [BitVec.toNat_xor, h1, h2, ones_xor64 x (by omega), IntKind.wrap_i64]
  omega

/-- What Zag's one row comes to. -/
theorem zag_bits {u : Int} (h0 : 0 ≤ u) (h1 : u ≤ 18446744073709551615) :
    bits .xor .i64 (u / 2) (wrap64 (-wrap64 (bits .and .u64 u 1))) = zg u := by
  rw [Lib.u64_and1 u h0 (by omega)]
  obtain ⟨x, hx⟩ : ∃ x : Nat, u / 2 = (x : Int) := ⟨(u / 2).toNat, by omega⟩
  have hx' : x < 9223372036854775808 := by omega
  by_cases h : u % 2 = 0
  · have e : wrap64 (-wrap64 (u % 2)) = 0 := by rw [h, ← IntWalk.i64_left, ← IntWalk.i64_left]; decide
    rw [e, hx, i64_xor_zero x hx']; unfold zg; rw [if_pos h]; omega
  · have e1 : u % 2 = 1 := by omega
    have e : wrap64 (-wrap64 (u % 2)) = -1 := by rw [e1, ← IntWalk.i64_left, ← IntWalk.i64_left]; decide
    rw [e, hx, i64_xor_ones x hx']; unfold zg; rw [if_neg h]; omega

/-- The bytes of a number. -/
def bs (u : Nat) : List Int := (Lib.uvarint u).map (fun b => (b.toNat : Int))
theorem bs_small {u : Nat} (h : u < 128) : bs u = [(u : Int)] := by
  unfold bs
  rw [Lib.uvarint_small h]
  simp
  omega
theorem bs_big {u : Nat} (h : 128 ≤ u) : bs u = ((u % 128 + 128 : Nat) : Int) :: bs (u / 128) := by
  unfold bs
  rw [Lib.uvarint_big h]
  simp
  omega
theorem bs_pos (u : Nat) : 1 ≤ (bs u).length := by
  by_cases h : u < 128
  · rw [bs_small h]; simp
  · rw [bs_big (by omega)]; simp
theorem bs_le : ∀ (k u : Nat), u < 128 ^ (k + 1) → (bs u).length ≤ k + 1
  | 0, u, h => by rw [bs_small (by simpa using h)]; simp
  | k + 1, u, h => by
    by_cases hx : u < 128
    · rw [bs_small hx]; simp
    · rw [bs_big (by omega), List.length_cons]
      have := bs_le k (u / 128) (by rw [Nat.pow_succ] at h; exact Nat.div_lt_of_lt_mul (by rw [Nat.mul_comm]; exact h))
      omega
theorem bs_le10 {u : Nat} (h : u < 18446744073709551616) : (bs u).length ≤ 10 :=
  bs_le 9 u (Nat.lt_of_lt_of_le h (by decide))
theorem bs_mem : ∀ (k u : Nat), u < 128 ^ (k + 1) → ∀ z ∈ bs u, 0 ≤ z ∧ z ≤ 255
  | 0, u, h => by
    intro z hz
    have h' : u < 128 := by simpa using h
    rw [bs_small h'] at hz; simp at hz; omega
  | k + 1, u, h => by
    intro z hz
    by_cases hx : u < 128
    · rw [bs_small hx] at hz; simp at hz; omega
    · rw [bs_big (by omega)] at hz
      rcases List.mem_cons.1 hz with rfl | hz
      · omega
      · exact bs_mem k (u / 128) (by rw [Nat.pow_succ] at h; exact Nat.div_lt_of_lt_mul (by rw [Nat.mul_comm]; exact h)) z hz
theorem bs_mem64 {u : Nat} (h : u < 18446744073709551616) : ∀ z ∈ bs u, 0 ≤ z ∧ z ≤ 255 :=
  bs_mem 9 u (Nat.lt_of_lt_of_le h (by decide))
theorem bs_mono : ∀ (k a b : Nat), a < 128 ^ (k + 1) → a ≤ b → (bs a).length ≤ (bs b).length
  | 0, a, b, h, _ => by rw [bs_small (by simpa using h)]; exact bs_pos b
  | k + 1, a, b, h, hab => by
    by_cases hx : a < 128
    · rw [bs_small hx]; exact bs_pos b
    · rw [bs_big (show 128 ≤ a by omega), bs_big (show 128 ≤ b by omega), List.length_cons, List.length_cons]
      have := bs_mono k (a / 128) (b / 128) (by rw [Nat.pow_succ] at h; exact Nat.div_lt_of_lt_mul (by rw [Nat.mul_comm]; exact h)) (Nat.div_le_div_right hab)
      omega
theorem bs_mono64 {a b : Nat} (h : a < 18446744073709551616) (hab : a ≤ b) : (bs a).length ≤ (bs b).length :=
  bs_mono 9 a b (Nat.lt_of_lt_of_le h (by decide)) hab
theorem bs_one (u : Nat) : (bs u).length = 1 ↔ u ≤ 127 := by
  constructor
  · intro h
    by_cases hx : u < 128
    · omega
    · rw [bs_big (by omega), List.length_cons] at h
      have := bs_pos (u / 128); omega
  · intro h; rw [bs_small (by omega)]; rfl
end Go.Proofs.Ytkojbpifcflgfaa

namespace Go.Proofs.Ytkojbpifcflgfaa
open Go.RowKit

theorem ret_int {k : IntKind} {a b : Int} (h : a = b) : Ending.returned (.int k a) = .returned (.int k b) := by rw [h]

theorem num_div (x : Nat) : Value.int .u64 ((x : Int) / 128) = .int .u64 ((x / 128 : Nat) : Int) := by congr 1

end Go.Proofs.Ytkojbpifcflgfaa

namespace Go.Proofs.Ytkojbpifcflgfaa
open Go.RowKit

/-- A slice of that address reads as these numbers. -/
def Rd (k : IntKind) (w : World) (a : Option Addr) (zs : List Int) : Prop :=
  zs = [] ∨ ∃ b off, a = some ⟨b, off, none⟩ ∧ b < w.heap.size ∧ ∀ i, i < zs.length → w.cell? ⟨b, off + i, none⟩ = some (.int k (zs.getD i 0))

theorem Rd.below {k : IntKind} {w w' : World} {a : Option Addr} {zs : List Int} (h : Rd k w a zs) (hb : Below w.heap.size w w') : Rd k w' a zs := by
  rcases h with h | ⟨b, off, h1, h2, h3⟩
  · exact .inl h
  · exact .inr ⟨b, off, h1, Nat.lt_of_lt_of_le h2 hb.size, fun i hi => (hb.cell (p := ⟨b, off + i, none⟩) h2).trans (h3 i hi)⟩

theorem Rd.at {k : IntKind} {w : World} {a : Option Addr} {zs : List Int} (h : Rd k w a zs) : 0 < (zs.map (Value.int k)).length →
    ∃ ad, a = some ad ∧ ∀ j v, (zs.map (Value.int k))[j]? = some v → w.cell? (ad.add j) = some v := by
  intro hp
  rcases h with h | ⟨b, off, h1, h2, h3⟩
  · subst h; simp at hp
  · refine ⟨_, h1, fun j v hv => ?_⟩
    have hj : j < zs.length := by simpa using (List.getElem?_eq_some_iff.1 hv).1
    rw [Addr.add_lit, h3 j hj]
    have e : (zs.map (Value.int k))[j]? = some (.int k (zs.getD j 0)) := by simp [List.getD, hj]
    rw [e] at hv
    exact hv

def zeros (n : Nat) : List Value := List.replicate n (.int .u8 0)
theorem zeros_made (n : Nat) : madeCells (Value.int IntKind.u8 0).cells (n * 1) = (zeros n).toArray := by
  unfold madeCells zeros
  apply Array.ext
  · simp
  · intro i h1 h2; simp [Value.cells, Nat.mod_one]

theorem wpList_make_any {P : Program} (w : World) {ops : Array Oper} {rest : List Oper} {o : Oper} {a : Act} {Q : Exit → Act → World → Prop}
    (hg : o.guard = none) (l c : Operand) (t : TypeId) (hop : o.op = Op.makeSlice t l c)
    (e : TypeId) (i : TypeInfo) (z : Value) (h1 : P.underlying t = some (.slice e)) (h2 : P.info? e = some i) (h3 : i.zero = some z)
    (kl kc : IntKind) (L C : Int) (n m : Nat) (hl : a.eval l = .int kl L) (hc : a.eval c = .int kc C) (hL : L = (n : Int)) (hC : C = (m : Int)) (hnm : n ≤ m) (b2 : i.bytes * m ≤ 281474976710656) (b3 : m ≤ maxLen)
    (cur : Array Value) (hcur : cur = madeCells z.cells (m * i.size))
    (hK : wpList P ops Q rest (a.put o.dst (.slice (some ⟨w.heap.size, 0, none⟩) n m)) (w.alloc (.cells cur e))) :
    wpList P ops Q (o :: rest) a w := by
  refine wpList_plain hg fun K hK' => ?_
  have b3' : (m : Int) ≤ 9223372036854775807 := by simp [maxLen] at b3; omega
  have b2' : (i.bytes : Int) * (m : Int) ≤ 281474976710656 := by
    have h : ((i.bytes * m : Nat) : Int) ≤ 281474976710656 := by omega
    rwa [Int.natCast_mul] at h
  have hrun := run_make (P := P) w t e i z h1 h2 h3 kl kc n m (by omega) (by omega) b2' b3'
  simp only [Int.toNat_natCast] at hrun
  subst hL; subst hC; subst hcur
  unfold Oper.wp
  simp [execOp, hop, hl, hc, hrun, Result.andThen]
  exact hK' _ _ hK

theorem Try.info5 : (Try.prog.info? 5).map (fun i => (i.zero, i.size, i.bytes)) = some (some (.int .u8 0), 1, 1) := by kernel_rfl
theorem Try.size5 : (Try.prog.info? 5).map (·.size) = some 1 := by kernel_rfl

theorem own_of {w : World} {base g n m : Nat} {xs : List Value} (hb : base ≤ g) (hm : n + m ≤ maxLen) (hx : xs.length = n)
    (h : w.heap[g]? = some (.cells (splice (zeros (n + m)) 0 xs).toArray 5 (0, 0))) : w.ownsRow base 5 1 (.slice (some ⟨g, 0, none⟩) n (n + m)) n xs := by
  refine ⟨by omega, .inr ⟨g, n + m, _, rfl, hb, h, by omega, hm, ?_, ?_⟩⟩
  · simp only [List.size_toArray]; rw [length_splice]; · simp [zeros]
    · simp [zeros]; omega
  · simp only [splice]; simp [hx]

theorem num_u8 (x : Nat) : Value.int .u8 ((x : Int) % 128 + 128) = .int .u8 ((x % 128 + 128 : Nat) : Int) := by congr 1

theorem one_at (w : World) (x : Value) (t : TypeId) : ∀ j u, [x][j]? = some u → (w.alloc (.cells #[x] t)).cell? ((⟨w.heap.size, 0, none⟩ : Addr).add j) = some u := by
  intro j u hj
  match j, hj with
  | 0, hj => simp at hj; subst hj; simp [Addr.add]
theorem one_one {k : IntKind} (n : Int) : ∀ u ∈ [Value.int k n], u.oneCell' = true := by
  intro u hu; simp at hu; subst hu; rfl

end Go.Proofs.Ytkojbpifcflgfaa

namespace Go.Proofs.Ytkojbpifcflgfaa
open Go.RowKit

end Go.Proofs.Ytkojbpifcflgfaa

namespace Go.Proofs.Ytkojbpifcflgfaa
open Go.RowKit
def vl : List Int → Nat
  | [] => 0
  | z :: r => (z % 128).toNat + 128 * vl r
theorem vl_take_succ : ∀ (zs : List Int) (k : Nat), k < zs.length → vl (zs.take (k + 1)) = vl (zs.take k) + (zs.getD k 0 % 128).toNat * 128 ^ k
  | [], k, h => by simp at h
  | z :: r, 0, _ => by simp [vl]
  | z :: r, k + 1, h => by
    have ih := vl_take_succ r k (by simpa using h)
    simp only [List.take_succ_cons, vl, List.getD_cons_succ]
    rw [ih, Nat.pow_succ, Nat.mul_add]
    have e : 128 * ((r.getD k 0 % 128).toNat * 128 ^ k) = (r.getD k 0 % 128).toNat * (128 ^ k * 128) := by
      rw [Nat.mul_comm 128, Nat.mul_assoc]
    omega
theorem vl_take_lt : ∀ (zs : List Int) (k : Nat), vl (zs.take k) < 128 ^ k
  | zs, 0 => by simp [vl]
  | [], k + 1 => by simp [vl]; exact Nat.pow_pos (by decide)
  | z :: r, k + 1 => by
    have ih := vl_take_lt r k
    simp only [List.take_succ_cons, vl]
    rw [Nat.pow_succ]
    omega
theorem vl_take_le : ∀ (zs : List Int) (k : Nat), vl (zs.take k) ≤ vl zs
  | zs, 0 => by simp [vl]
  | [], k + 1 => by simp
  | z :: r, k + 1 => by
    have ih := vl_take_le r k
    simp only [List.take_succ_cons, vl]
    omega
theorem pow128 (k : Nat) : 128 ^ k = 2 ^ (7 * k) := by rw [Nat.pow_mul]
theorem join_step (zs : List Int) (k : Nat) (hk : k < zs.length) (hv : vl zs < 18446744073709551616) :
    bits BinOp.or IntKind.u64 (vl (List.take k zs) : Int) (IntKind.u64.wrap (zs.getD k 0 % 128 * 2 ^ (7 * k))) = (vl (List.take (k + 1) zs) : Int) := by
  have h1 := vl_take_succ zs k hk
  have h2 := vl_take_lt zs k
  have h3 := vl_take_le zs (k + 1)
  obtain ⟨x, hx⟩ : ∃ x : Nat, zs.getD k 0 % 128 = (x : Int) := ⟨(zs.getD k 0 % 128).toNat, by omega⟩
  rw [hx] at h1
  simp only [Int.toNat_natCast] at h1
  rw [pow128] at h1 h2
  have e0 : (x : Int) * 2 ^ (7 * k) = ((x * 2 ^ (7 * k) : Nat) : Int) := by
    rw [Int.natCast_mul, Int.natCast_pow]; rfl
  have e1 : IntKind.u64.wrap (zs.getD k 0 % 128 * 2 ^ (7 * k)) = ((x * 2 ^ (7 * k) : Nat) : Int) := by
    rw [hx, e0, IntKind.wrap_u64]
    have : x * 2 ^ (7 * k) < 18446744073709551616 := by omega
    omega
  rw [e1, bits_or_u64_nat _ _ (by omega) (by omega), h1]
  have e2 : vl (List.take k zs) ||| x * 2 ^ (7 * k) = vl (List.take k zs) + x * 2 ^ (7 * k) := by
    have := Nat.shiftLeft_add_eq_or_of_lt h2 x
    rw [Nat.shiftLeft_eq] at this
    rw [Nat.or_comm, ← this, Nat.add_comm]
  rw [e2]
theorem vl_bs : ∀ (k u : Nat), u < 128 ^ (k + 1) → vl (bs u) = u
  | 0, u, h => by
    have h' : u < 128 := by simpa using h
    rw [bs_small h']; simp [vl]; omega
  | k + 1, u, h => by
    by_cases hx : u < 128
    · rw [bs_small hx]; simp [vl]; omega
    · have ih := vl_bs k (u / 128) (by rw [Nat.pow_succ] at h; exact Nat.div_lt_of_lt_mul (by rw [Nat.mul_comm]; exact h))
      rw [bs_big (by omega)]; simp only [vl]; rw [ih]; omega
theorem vl_bs64 {u : Nat} (h : u < 18446744073709551616) : vl (bs u) = u := vl_bs 9 u (Nat.lt_of_lt_of_le h (by decide))

theorem bs_cons_last (z : Int) (u : Nat) : (z :: bs u).getD ((z :: bs u).length - 1) 0 = (bs u).getD ((bs u).length - 1) 0 := by
  have := bs_pos u
  rw [List.length_cons, Nat.add_sub_cancel, show (bs u).length = ((bs u).length - 1) + 1 by omega, List.getD_cons_succ]
  simp
theorem bs_high : ∀ (k u : Nat), u < 128 ^ (k + 1) → ∀ i, i < (bs u).length - 1 → 128 ≤ (bs u).getD i 0
  | 0, u, h => by
    intro i hi
    rw [bs_small (by simpa using h)] at hi; simp at hi
  | k + 1, u, h => by
    intro i hi
    by_cases hx : u < 128
    · rw [bs_small hx] at hi; simp at hi
    · rw [bs_big (by omega)] at hi ⊢
      rw [List.length_cons] at hi
      cases i with
      | zero => simp; omega
      | succ i =>
        rw [List.getD_cons_succ]
        exact bs_high k (u / 128) (by rw [Nat.pow_succ] at h; exact Nat.div_lt_of_lt_mul (by rw [Nat.mul_comm]; exact h)) i (by omega)
theorem bs_last : ∀ (k u : Nat), u < 128 ^ (k + 1) → (bs u).getD ((bs u).length - 1) 0 = ((u / 128 ^ ((bs u).length - 1) : Nat) : Int) ∧ u < 128 ^ (bs u).length
  | 0, u, h => by
    have h' : u < 128 := by simpa using h
    rw [bs_small h']; simp [h']
  | k + 1, u, h => by
    by_cases hx : u < 128
    · rw [bs_small hx]; simp [hx]
    · have ih := bs_last k (u / 128) (by rw [Nat.pow_succ] at h; exact Nat.div_lt_of_lt_mul (by rw [Nat.mul_comm]; exact h))
      have hp := bs_pos (u / 128)
      have e := bs_big (u := u) (by omega)
      rw [e, bs_cons_last, ih.1, List.length_cons, Nat.add_sub_cancel, Nat.div_div_eq_div_mul]
      refine ⟨?_, ?_⟩
      · have e2 : 128 * 128 ^ ((bs (u / 128)).length - 1) = 128 ^ (bs (u / 128)).length := by
          rw [Nat.mul_comm, ← Nat.pow_succ]; congr 1; omega
        rw [e2]
      · rw [Nat.pow_succ]
        have := ih.2
        omega
theorem bs_last_ne : ∀ (k u : Nat), u < 128 ^ (k + 1) → 1 ≤ u → (bs u).getD ((bs u).length - 1) 0 ≠ 0
  | 0, u, h => by
    intro h1
    have h' : u < 128 := by simpa using h
    rw [bs_small h']; simp; omega
  | k + 1, u, h => by
    intro h1
    by_cases hx : u < 128
    · rw [bs_small hx]; simp; omega
    · rw [bs_big (u := u) (by omega), bs_cons_last]
      exact bs_last_ne k (u / 128) (by rw [Nat.pow_succ] at h; exact Nat.div_lt_of_lt_mul (by rw [Nat.mul_comm]; exact h)) (by omega)
/-- All that span asks of the bytes of a number. -/
theorem bs_facts {u : Nat} (h : u < 18446744073709551616) : (∀ i, i < (bs u).length - 1 → 128 ≤ (bs u).getD i 0) ∧ 0 ≤ (bs u).getD ((bs u).length - 1) 0 ∧ (bs u).getD ((bs u).length - 1) 0 < 128 ∧
    ((bs u).length - 1 = 9 → (bs u).getD ((bs u).length - 1) 0 ≤ 1) ∧ (0 < (bs u).length - 1 → (bs u).getD ((bs u).length - 1) 0 ≠ 0) := by
  have h' : u < 128 ^ (9 + 1) := Nat.lt_of_lt_of_le h (by decide)
  obtain ⟨h1, h2⟩ := bs_last 9 u h'
  have hp := bs_pos u
  refine ⟨bs_high 9 u h', by rw [h1]; exact Int.natCast_nonneg _, ?_, ?_, ?_⟩
  · rw [h1]
    have : u / 128 ^ ((bs u).length - 1) < 128 := Nat.div_lt_of_lt_mul (by rw [← Nat.pow_succ, Nat.succ_eq_add_one, show (bs u).length - 1 + 1 = (bs u).length by omega]; exact h2)
    omega
  · intro e
    rw [h1, e]
    have : u / 128 ^ 9 ≤ 1 := by
      have : u / 9223372036854775808 ≤ 1 := by omega
      exact this
    omega
  · intro e
    refine bs_last_ne 9 u h' ?_
    by_cases hu : u < 128
    · rw [bs_small hu] at e; simp at e
    · omega
/-- The same where more lies behind. -/
theorem bs_app {u : Nat} (h : u < 18446744073709551616) (rest : List Int) : (∀ i, i < (bs u).length - 1 → 128 ≤ (bs u ++ rest).getD i 0) ∧ 0 ≤ (bs u ++ rest).getD ((bs u).length - 1) 0 ∧ (bs u ++ rest).getD ((bs u).length - 1) 0 < 128 ∧
    ((bs u).length - 1 = 9 → (bs u ++ rest).getD ((bs u).length - 1) 0 ≤ 1) ∧ (0 < (bs u).length - 1 → (bs u ++ rest).getD ((bs u).length - 1) 0 ≠ 0) := by
  have hp := bs_pos u
  have e : ∀ i, i < (bs u).length → (bs u ++ rest).getD i 0 = (bs u).getD i 0 := by
    intro i hi
    simp [List.getD, List.getElem?_append_left hi]
  obtain ⟨h1, h2⟩ := bs_facts h
  rw [e _ (by omega)]
  exact ⟨fun i hi => by rw [e i (by omega)]; exact h1 i hi, h2⟩

end Go.Proofs.Ytkojbpifcflgfaa

namespace Go.Proofs.Ytkojbpifcflgfaa
open Go.RowKit
theorem own_mono {w : World} {base base' : Nat} {e : TypeId} {size : Nat} {v : Value} {n : Nat} {xs : List Value} (h : w.ownsRow base e size v n xs) (hb : base' ≤ base) : w.ownsRow base' e size v n xs := by
  refine ⟨h.1, ?_⟩
  rcases h.2 with h0 | ⟨g, cap, cur, h1, h2, h3⟩
  · exact .inl h0
  · exact .inr ⟨g, cap, cur, h1, Nat.le_trans hb h2, h3⟩
theorem cells_app_left {w : World} {g off : Nat} {ls rest : List Int} (hc : ∀ i, i < (ls ++ rest).length → w.cell? ⟨g, off + i, none⟩ = some (.int .u8 ((ls ++ rest).getD i 0))) :
    ∀ i, i < ls.length → w.cell? ⟨g, off + i, none⟩ = some (.int .u8 (ls.getD i 0)) := by
  intro i hi
  rw [hc i (by simp; omega)]
  simp [List.getD, List.getElem?_append_left hi]
theorem cells_app_right {w : World} {g off : Nat} {ls rest : List Int} (hc : ∀ i, i < (ls ++ rest).length → w.cell? ⟨g, off + i, none⟩ = some (.int .u8 ((ls ++ rest).getD i 0))) :
    ∀ i, i < rest.length → w.cell? ⟨g, off + ls.length + i, none⟩ = some (.int .u8 (rest.getD i 0)) := by
  intro i hi
  rw [Nat.add_assoc, hc (ls.length + i) (by simp; omega)]
  simp [List.getD, List.getElem?_append_right (show ls.length ≤ ls.length + i by omega)]
theorem bs_getD {u : Nat} (h : u < 18446744073709551616) : ∀ i, 0 ≤ (bs u).getD i 0 ∧ (bs u).getD i 0 ≤ 255 := by
  intro i
  by_cases hi : i < (bs u).length
  · have e : (bs u).getD i 0 = (bs u)[i] := by simp [List.getD, hi]
    rw [e]; exact bs_mem64 h _ (List.getElem_mem hi)
  · have e : (bs u).getD i 0 = 0 := by simp [List.getD, show (bs u)[i]? = none from List.getElem?_eq_none (by omega)]
    rw [e]; omega

/-- What a row of the call's own reads as. -/
theorem own_cells {w : World} {base g n cap : Nat} {k : IntKind} {e : TypeId} {zs : List Int} (h : w.ownsRow base e 1 (.slice (some ⟨g, 0, none⟩) n cap) n (zs.map (Value.int k))) :
    ∀ i, i < zs.length → w.cell? ⟨g, 0 + i, none⟩ = some (.int k (zs.getD i 0)) := by
  intro i hi
  have hl := h.1
  simp only [List.length_map, Nat.mul_one] at hl
  rw [Nat.zero_add, h.cellAt i (by omega)]
  simp [List.getD, hi]
/-- A row that owns something has an address. -/
theorem own_some {w : World} {base n : Nat} {v : Value} {e : TypeId} {xs : List Value} (h : w.ownsRow base e 1 v n xs) (hn : 0 < n) :
    ∃ g cap, v = .slice (some ⟨g, 0, none⟩) n cap ∧ base ≤ g ∧ g < w.heap.size ∧ n ≤ cap ∧ cap ≤ maxLen := by
  rcases h.2 with ⟨_, h0⟩ | ⟨g, cap, cur, rfl, hb, hg, h1, h2, _, _⟩
  · omega
  · exact ⟨g, cap, rfl, hb, (Array.getElem?_eq_some_iff.1 hg).1, h1, h2⟩
/-- What is owned reads so. -/
theorem own_rd {w : World} {base g n cap : Nat} {k : IntKind} {e : TypeId} {zs : List Int} (h : w.ownsRow base e 1 (.slice (some ⟨g, 0, none⟩) n cap) n (zs.map (Value.int k))) : Rd k w (some ⟨g, 0, none⟩) zs := by
  refine .inr ⟨g, 0, rfl, (h.lt g rfl).2, own_cells h⟩
end Go.Proofs.Ytkojbpifcflgfaa

namespace Go.Proofs.Ytkojbpifcflgfaa
open Go.RowKit

theorem own_sl {w : World} {base n : Nat} {v : Value} {e : TypeId} {k : IntKind} {zs : List Int} (h : w.ownsRow base e 1 v n (zs.map (Value.int k))) (hn : 0 < n) : Sl k zs v w := by
  obtain ⟨g, cap, rfl, _, hg, h1, h2⟩ := own_some h hn
  have hl := h.1
  simp only [List.length_map, Nat.mul_one] at hl
  subst hl
  exact ⟨g, 0, cap, rfl, hg, h1, h2, own_cells h⟩
/-- The bytes of a slice as a string. -/
theorem conv (w : World) (g off cap n : Nat) (xs : List Int) (hn : xs.length = n) (hc : ∀ i, i < xs.length → w.cell? ⟨g, off + i, none⟩ = some (.int .u8 (xs.getD i 0))) :
    Sem.run Try.prog (convert 41 9 (.slice (some ⟨g, off, none⟩) n cap)) w = .ok (.string (strOfNums xs)) w :=
  run_convert_bytes_arg w 41 5 Try.underlying41 Try.underlying5 g off n cap xs hn (by rw [← hn]; exact hc) 9 Try.underlying9
theorem does_conv {o : Oper} {t : Nat} {a : Act} {w : World} {zs : List Int} (ho : o.op = Op.convert 41 9 (.tmp t)) (h : Sl .u8 zs (a.eval (.tmp t)) w) :
    does Try.prog o a.eval w (fun v w' => v = .string (strOfNums zs) ∧ Below w.heap.size w w') := by
  obtain ⟨g, off, cap, h1, _, _, _, h5⟩ := h
  refine does_val (v := .string (strOfNums zs)) (w' := w) ?_ ⟨rfl, Below.refl _ _⟩
  have hc := conv w g off cap zs.length zs rfl h5
  simp [execOp, ho, h1, hc]
theorem sl_lit2 (w : World) (x y : Int) : Sl .u8 [x, y] (.slice (some ⟨w.heap.size, 0, none⟩) 2 2) (w.alloc (.cells #[.int .u8 x, .int .u8 y] 5)) := by
  refine ⟨w.heap.size, 0, 2, rfl, by simp, by simp, by decide, ?_⟩
  intro i hi
  match i, hi with
  | 0, _ => simp
  | 1, _ => simp

theorem bs_300 : bs 300 = [172, 2] := by rw [bs_big (by decide), bs_small (by decide)]; rfl
def s300 : ByteArray := strOfNums [172, 2]
end Go.Proofs.Ytkojbpifcflgfaa

namespace Go.Proofs.Ytkojbpifcflgfaa
open Go.RowKit

theorem conv_rd (w : World) (a : Option Addr) (cap n : Nat) (xs : List Int) (hn : xs.length = n) (h : Rd .u8 w a xs) :
    Sem.run Try.prog (convert 41 9 (.slice a n cap)) w = .ok (.string (strOfNums xs)) w := by
  rcases h with rfl | ⟨b, off, rfl, _, hc⟩
  · simp at hn; subst hn
    cases a with
    | none => exact run_convert_bytes_nil w 41 5 Try.underlying41 Try.underlying5 0 cap 9 Try.underlying9
    | some x =>
      rw [run_convert_bytes_string w 41 9 5 (some x) 0 cap Try.underlying41 Try.underlying5 Try.underlying9]
      rw [run_bytesToString w x 0 cap [] (by simp [loadCells, loadCellsFrom])]
      rfl
  · exact conv w b off cap n xs hn hc
theorem sl_rd {k : IntKind} {zs : List Int} {v : Value} {w : World} (h : Sl k zs v w) : ∃ a cap, v = .slice a zs.length cap ∧ Rd k w a zs := by
  obtain ⟨g, off, cap, h1, h2, _, _, h5⟩ := h
  exact ⟨_, cap, h1, .inr ⟨g, off, rfl, h2, h5⟩⟩
theorem str_append (xs ys : List Int) : strOfNums xs ++ strOfNums ys = strOfNums (xs ++ ys) := by
  apply ByteArray.ext
  simp [strOfNums]

/-- What is told of a slice of integers that came in: it is nil; or it leads to a row of so many cells, the numbers (the first ones are its elements, the rest its spare room), each fitting its kind. -/
def IsRow (k : IntKind) (w : World) (a : Option Addr) (len cap : Nat) (zs : List Int) : Prop :=
  (a = none ∧ len = 0 ∧ cap = 0 ∧ zs = []) ∨
  ∃ x, a = some x ∧ len ≤ cap ∧ cap ≤ maxLen ∧ zs.length = cap ∧ (∀ i, i < zs.length → w.cell? (x.add i) = some (.int k (zs.getD i 0))) ∧ ∀ n ∈ zs, (Lit.int k n).wf = true

theorem row_rd {k : IntKind} {w : World} {a : Option Addr} {len cap : Nat} {zs : List Int} (h : IsRow k w a len cap zs) :
    Rd k w a (zs.take len) ∧ (zs.take len).length = len ∧ (a = none → cap = 0 ∧ len = 0) ∧ len ≤ cap ∧ cap ≤ maxLen ∧ ∀ n ∈ zs.take len, (Lit.int k n).wf = true := by
  rcases h with ⟨rfl, rfl, rfl, rfl⟩ | ⟨x, rfl, h1, h2, h3, h4, h5⟩
  · exact ⟨.inl rfl, rfl, fun _ => ⟨rfl, rfl⟩, Nat.le_refl _, Nat.zero_le _, fun n hn => by simp at hn⟩
  · refine ⟨?_, by simp; omega, (fun h => by cases h), h1, h2, fun n hn => h5 n (List.mem_of_mem_take hn)⟩
    by_cases h0 : len = 0
    · subst h0; exact .inl rfl
    · obtain ⟨b, off, spot⟩ := x
      have hc := h4 0 (by omega)
      have hspot : spot = none := by simpa [Addr.add] using World.cell?_spot hc
      subst hspot
      have hb : b < w.heap.size := by
        have := World.block_lt_of_cell? w _ hc
        simpa [Addr.add] using this
      refine .inr ⟨b, off, rfl, hb, fun i hi => ?_⟩
      simp only [List.length_take] at hi
      have := h4 i (by omega)
      rw [Addr.add_lit] at this
      rw [this]
      congr 2
      simp [List.getD, show i < len by omega]
end Go.Proofs.Ytkojbpifcflgfaa

namespace Go.Proofs.Ytkojbpifcflgfaa
open Go.RowKit

theorem Rd.cell {k : IntKind} {w : World} {a : Option Addr} {zs : List Int} (h : Rd k w a zs) {j : Nat} (hj : j < zs.length) : ∃ b off, a = some ⟨b, off, none⟩ ∧ b < w.heap.size ∧ w.cell? ⟨b, off + j, none⟩ = some (.int k (zs.getD j 0)) := by
  rcases h with h | ⟨b, off, h1, h2, h3⟩
  · subst h; simp at hj
  · exact ⟨b, off, h1, h2, h3 j hj⟩
theorem rd_any {k : IntKind} {w : World} {a : Option Addr} {zs : List Int} (h : Rd k w a zs) : ∀ ad, a = some ad → ∀ j u, (zs.map (Value.int k))[j]? = some u → w.cell? (ad.add j) = some u := by
  intro ad had j u hu
  have hj : j < zs.length := by simpa using (List.getElem?_eq_some_iff.1 hu).1
  obtain ⟨b, off, h1, h2, h3⟩ := h.cell hj
  rw [had] at h1; cases h1
  rw [Addr.add_lit, h3]
  have e : (zs.map (Value.int k))[j]? = some (.int k (zs.getD j 0)) := by simp [List.getD, hj]
  rw [e] at hu; exact hu
theorem Rd.take {k : IntKind} {w : World} {a : Option Addr} {zs : List Int} (h : Rd k w a zs) (n : Nat) : Rd k w a (zs.take n) := by
  rcases h with rfl | ⟨b, off, h1, h2, h3⟩
  · exact .inl (by simp)
  · refine .inr ⟨b, off, h1, h2, fun i hi => ?_⟩
    simp only [List.length_take] at hi
    rw [h3 i (by omega)]
    congr 2
    simp [List.getD, show i < n by omega]
theorem Rd.drop {k : IntKind} {w : World} {g off n m cap : Nat} {zs : List Int} (h : Rd k w (some ⟨g, off, none⟩) zs) (hz : zs.length = n) (hc : n ≤ cap) (hm : m ≤ n) : Rd k w (if cap = m then some ⟨g, off, none⟩ else some ⟨g, off + m, none⟩) (zs.drop m) := by
  by_cases e : m = n
  · exact .inl (List.eq_nil_of_length_eq_zero (by simp [hz]; omega))
  · rw [if_neg (by omega)]
    rcases h with rfl | ⟨b, off', h1, h2, h3⟩
    · exact .inl (by simp)
    · cases h1
      refine .inr ⟨g, off + m, rfl, h2, fun i hi => ?_⟩
      simp only [List.length_drop] at hi
      rw [show off + m + i = off + (m + i) by omega, h3 (m + i) (by omega)]
      congr 2
      simp [List.getD]
/-- A slice of numbers. -/
structure IsI (k : IntKind) (w : World) (a : Option Addr) (len cap : Nat) (ms : List Int) : Prop where
  hl : ms.length = len
  hc : len ≤ cap
  hm : cap ≤ maxLen
  rd : Rd k w a ms
  nil : a = none → cap = 0
theorem IsI.below {k : IntKind} {w w' : World} {a : Option Addr} {n c : Nat} {zs : List Int} (h : IsI k w a n c zs) (hb : Below w.heap.size w w') : IsI k w' a n c zs := ⟨h.hl, h.hc, h.hm, h.rd.below hb, h.nil⟩
theorem IsI.none {k : IntKind} {w : World} {a : Option Addr} {n c : Nat} {zs : List Int} (h : IsI k w a n c zs) : a = none → c = 0 ∧ n = 0 := fun e => by have := h.nil e; have := h.hc; omega

theorem isI_nil (k : IntKind) (w : World) : IsI k w none 0 0 [] := ⟨rfl, Nat.le_refl _, Nat.zero_le _, .inl rfl, fun _ => rfl⟩
theorem IsI.lt {k : IntKind} {w : World} {a : Option Addr} {n c : Nat} {zs : List Int} (h : IsI k w a n c zs) (hn : 0 < n) : ∃ g off, a = some ⟨g, off, Option.none⟩ ∧ g < w.heap.size ∧ ∀ i, i < n → w.cell? ⟨g, off + i, Option.none⟩ = some (.int k (zs.getD i 0)) := by
  rcases h.rd with h' | ⟨b, off, h1, h2, h3⟩
  · have := h.hl; rw [h'] at this; simp at this; omega
  · exact ⟨b, off, h1, h2, fun i hi => h3 i (by rw [h.hl]; exact hi)⟩

/-- A slice of that address reads as these items. -/
def RdR (w : World) (a : Option Addr) (ls : List (List Int)) : Prop :=
  ls = [] ∨ ∃ b off, a = some ⟨b, off, none⟩ ∧ b < w.heap.size ∧ ∀ i, i < ls.length → ∃ ai ni ci, w.cell? ⟨b, off + i, none⟩ = some (.slice ai ni ci) ∧ IsI .u8 w ai ni ci (ls.getD i [])
theorem RdR.below {w w' : World} {a : Option Addr} {ls : List (List Int)} (h : RdR w a ls) (hb : Below w.heap.size w w') : RdR w' a ls := by
  rcases h with h | ⟨b, off, h1, h2, h3⟩
  · exact .inl h
  · refine .inr ⟨b, off, h1, Nat.lt_of_lt_of_le h2 hb.size, fun i hi => ?_⟩
    obtain ⟨ai, ni, ci, c, d⟩ := h3 i hi
    exact ⟨ai, ni, ci, (hb.cell (p := ⟨b, off + i, none⟩) h2).trans c, d.below hb⟩
theorem RdR.at {w : World} {a : Option Addr} {ls : List (List Int)} (h : RdR w a ls) {k : Nat} (hk : k < ls.length) : ∃ b off ai ni ci, a = some ⟨b, off, none⟩ ∧ b < w.heap.size ∧ w.cell? ⟨b, off + k, none⟩ = some (.slice ai ni ci) ∧ IsI .u8 w ai ni ci (ls.getD k []) := by
  rcases h with h | ⟨b, off, h1, h2, h3⟩
  · subst h; simp at hk
  · obtain ⟨ai, ni, ci, c, d⟩ := h3 k hk
    exact ⟨b, off, ai, ni, ci, h1, h2, c, d⟩
/-- A slice of items. -/
structure IsR (w : World) (a : Option Addr) (len cap : Nat) (ls : List (List Int)) : Prop where
  hl : ls.length = len
  hc : len ≤ cap
  hm : cap ≤ maxLen
  rd : RdR w a ls
  nil : a = none → cap = 0
theorem IsR.below {w w' : World} {a : Option Addr} {n c : Nat} {ls : List (List Int)} (h : IsR w a n c ls) (hb : Below w.heap.size w w') : IsR w' a n c ls := ⟨h.hl, h.hc, h.hm, h.rd.below hb, h.nil⟩
theorem isR_nil (w : World) : IsR w none 0 0 [] := ⟨rfl, Nat.le_refl _, Nat.zero_le _, .inl rfl, fun _ => rfl⟩
/-- All items are bytes. -/
def WfR (ls : List (List Int)) : Prop := ∀ l ∈ ls, Bytes l
theorem getD_eqR {ls : List (List Int)} {k : Nat} (h : k < ls.length) : ls.getD k [] = ls[k] := by simp [List.getD, h]
theorem getD_memR {ls : List (List Int)} {k : Nat} (h : k < ls.length) : ls.getD k [] ∈ ls := by rw [getD_eqR h]; exact List.getElem_mem h
theorem take_snocR (ls : List (List Int)) (k : Nat) (h : k < ls.length) : ls.take (k + 1) = ls.take k ++ [ls.getD k []] := by
  rw [List.take_succ_eq_append_getElem h, getD_eqR h]
theorem drop_consR (ls : List (List Int)) (k : Nat) (h : k < ls.length) : ls.drop k = ls.getD k [] :: ls.drop (k + 1) := by
  rw [List.drop_eq_getElem_cons h, getD_eqR h]
theorem drop_consI (zs : List Int) (k : Nat) (h : k < zs.length) : zs.drop k = zs.getD k 0 :: zs.drop (k + 1) := by
  rw [List.drop_eq_getElem_cons h]; simp [List.getD, h]
theorem take_snocI (zs : List Int) (k : Nat) (h : k < zs.length) : zs.take (k + 1) = zs.take k ++ [zs.getD k 0] := by
  rw [List.take_succ_eq_append_getElem h]; simp [List.getD, h]

theorem own_cell {w : World} {base n size : Nat} {v : Value} {e : TypeId} {xs : List Value} (h : w.ownsRow base e size v n xs) (hn : 0 < n) : ∃ g cap, v = .slice (some ⟨g, 0, none⟩) n cap ∧ base ≤ g ∧ g < w.heap.size ∧ n ≤ cap ∧ cap ≤ maxLen ∧ (∀ j x, xs[j]? = some x → w.cell? ⟨g, j, none⟩ = some x) ∧ ∀ j, w.frozen? ⟨g, j, none⟩ = false := by
  rcases h.2 with ⟨_, h2⟩ | ⟨g, cap, cur, h1, h2, h3, h4, h5, h6, h7⟩
  · omega
  · refine ⟨g, cap, h1, h2, (Array.getElem?_eq_some_iff.1 h3).1, h4, h5, fun j x hx => ?_, fun j => ?_⟩
    · rw [← h7] at hx
      have hj : j < n * size := by
        rcases Nat.lt_or_ge j (n * size) with h | h
        · exact h
        · rw [List.getElem?_take, if_neg (by omega)] at hx; cases hx
      rw [List.getElem?_take, if_pos hj] at hx
      simp [World.cell?, h3]
      simpa using hx
    · simp [World.frozen?, h3]
theorem own_below {u u' : World} {base : Nat} {e : TypeId} {size : Nat} {v : Value} {n : Nat} {xs : List Value} (h : u.ownsRow base e size v n xs) (hb : Below u.heap.size u u') : u'.ownsRow base e size v n xs := by
  refine ⟨h.1, ?_⟩
  rcases h.2 with h0 | ⟨g, cap, cur, h1, h2, h3, h4⟩
  · exact .inl h0
  · exact .inr ⟨g, cap, cur, h1, h2, (hb.block g (Array.getElem?_eq_some_iff.1 h3).1).trans h3, h4⟩
/-- A row of numbers of the call's own reads so. -/
theorem own_isI {k : IntKind} {e : TypeId} {w : World} {base n : Nat} {v : Value} {zs : List Int} (h : w.ownsRow base e 1 v n (zs.map (Value.int k))) : ∃ a c, v = .slice a n c ∧ IsI k w a n c zs := by
  have hl := h.1
  simp only [List.length_map, Nat.mul_one] at hl
  by_cases hn : 0 < n
  · obtain ⟨g, cap, h1, h2, h3, h4, h5, h6, _⟩ := own_cell h hn
    refine ⟨_, cap, h1, ⟨by omega, h4, h5, .inr ⟨g, 0, rfl, h3, fun i hi => ?_⟩, fun h => by cases h⟩⟩
    rw [Nat.zero_add]
    exact h6 _ _ (by simp [List.getD, hi])
  · obtain rfl : n = 0 := by omega
    have hv : zs = [] := List.eq_nil_of_length_eq_zero (by omega)
    rcases h.2 with ⟨h1, _⟩ | ⟨g, cap, cur, h1, _, _, h4, h5, _⟩
    · exact ⟨none, 0, h1, ⟨by omega, Nat.le_refl _, Nat.zero_le _, .inl hv, fun _ => rfl⟩⟩
    · exact ⟨_, cap, h1, ⟨by omega, h4, h5, .inl hv, fun h => by cases h⟩⟩

/-- 'append' onto a row of the call's own, whatever is appended: nil, empty or not. -/
theorem wpList_append_any {P : Program} (w : World) {ops : Array Oper} {rest : List Oper} {o : Oper} {a : Act} {Q : Exit → Act → World → Prop} (hgd : o.guard = none) (s x : Operand) (t : TypeId)
    (ho : o.op = .call { callee := .builtin .append, args := #[s, x], argTypes := #[t, t] })
    (base : Nat) (e : TypeId) (i : TypeInfo) (z : Value) (size bytes : Nat) (ht : P.underlying t = some (.slice e)) (hi : P.info? e = some i) (hz : i.zero = some z)
    (hsize : i.size = size) (hby : i.bytes = bytes) (hzs : z.cells.size = size) (hpos : 0 < size)
    (v : Value) (n : Nat) (xs : List Value) (hs : a.eval s = v) (hown : w.ownsRow base e size v n xs)
    (ao : Option Addr) (m c : Nat) (news : List Value) (hx : a.eval x = .slice ao m c) (hl : news.length = m * size) (hnone : ao = none → c = 0 ∧ m = 0) (hnews : ∀ ad, ao = some ad → ∀ j u, news[j]? = some u → w.cell? (ad.add j) = some u) (h1 : ∀ u ∈ news, u.oneCell' = true)
    (h63 : n + m ≤ maxLen) (hbytes : (n + m) * bytes ≤ 140737488355328) (hbase : base ≤ w.heap.size)
    (h : ∀ v' w', w'.ownsRow base e size v' (n + m) (xs ++ news) → w.grownBy w' v.ownBlock → wpList P ops Q rest (a.put o.dst v') w') : wpList P ops Q (o :: rest) a w := by
  cases ao with
  | some ad => exact wpList_append_own w hgd s x t ho base e i z size bytes ht hi hz hsize hby hzs hpos v n xs hs hown ad m c news hx hl (hnews ad rfl) h1 h63 hbytes hbase fun v' w' h2 h3 _ => h v' w' h2 h3
  | none =>
    obtain ⟨rfl, rfl⟩ := hnone rfl
    have hn : news = [] := List.eq_nil_of_length_eq_zero (by omega)
    subst hn
    exact wpList_append_own_none hgd s x t ho base e i size ht hi v n xs hs hown hx (h v w (by simpa using hown) (World.grownBy.refl _ _))
theorem own_empty5 (w : World) (base : Nat) (hb : base ≤ w.heap.size) : (w.alloc (.cells #[] 5)).ownsRow base 5 1 (.slice (some ⟨w.heap.size, 0, none⟩) 0 0) 0 (([] : List Int).map (Value.int .u8)) :=
  World.ownsRow_made w #[] 0 hb (by decide) rfl
theorem own_nil (w : World) (base : Nat) (e : TypeId) : w.ownsRow base e 1 (.slice none 0 0) 0 [] := ⟨rfl, .inl ⟨rfl, rfl⟩⟩

/-- What the comparing of bytes reads: a slice's bytes. -/
theorem run_loadBytes {P : Program} (w : World) (g : Nat) : ∀ (n off : Nat) (zs : List Int) (acc : ByteArray), zs.length = n → Bytes zs → (∀ i, i < n → w.cell? ⟨g, off + i, none⟩ = some (.int .u8 (zs.getD i 0))) →
    (Extern.Bytes.loadBytes ⟨g, off, none⟩ n acc).run P w = .ok ⟨acc.data ++ (strOfNums zs).data⟩ w
  | 0, off, zs, acc, hl, _, _ => by
    obtain rfl : zs = [] := List.eq_nil_of_length_eq_zero hl
    simp [Extern.Bytes.loadBytes, strOfNums]
  | n + 1, off, [], acc, hl, _, _ => by simp at hl
  | n + 1, off, z :: r, acc, hl, hb, hc => by
    have h0 := hc 0 (by omega)
    simp only [Nat.add_zero, List.getD_cons_zero] at h0
    have ih := run_loadBytes (P := P) w g n (off + 1) r (acc.push z.toNat.toUInt8) (by simpa using hl) (fun x hx => hb x (List.mem_cons_of_mem _ hx)) (fun i hi => by
      have := hc (i + 1) (by omega)
      rw [show off + 1 + i = off + (i + 1) by omega]
      simpa using this)
    have hadd : (⟨g, off, none⟩ : Addr).add 1 = ⟨g, off + 1, none⟩ := by simp [Addr.add]
    simp only [Extern.Bytes.loadBytes, Sem.run_bind, run_load, h0, Result.andThen, hadd, ih]
    congr 2
    simp [strOfNums, ByteArray.push]
theorem run_bytesOf {P : Program} (w : World) (a : Option Addr) (n c : Nat) (zs : List Int) (hb : Bytes zs) (h : IsI .u8 w a n c zs) :
    (Extern.Bytes.bytesOf (.slice a n c)).run P w = .ok (strOfNums zs) w := by
  cases a with
  | none =>
    obtain ⟨_, hn⟩ := h.none rfl
    obtain rfl : zs = [] := List.eq_nil_of_length_eq_zero (by rw [h.hl]; exact hn)
    rfl
  | some ad =>
    rcases Nat.eq_zero_or_pos n with hn | hn
    · obtain rfl : zs = [] := List.eq_nil_of_length_eq_zero (by rw [h.hl]; exact hn)
      subst hn
      rfl
    · obtain ⟨g, off, e, _, hc⟩ := h.lt hn
      cases e
      have := run_loadBytes (P := P) w g n off zs .empty h.hl hb hc
      obtain ⟨s, hs⟩ : ∃ s, s = strOfNums zs := ⟨_, rfl⟩
      rw [← hs] at this ⊢
      obtain ⟨d⟩ := s
      have e : (⟨ByteArray.empty.data ++ d⟩ : ByteArray) = ⟨d⟩ := congrArg ByteArray.mk (Array.toList_inj.1 (by rw [Array.toList_append]; rfl))
      rw [e] at this
      exact this
theorem run_compare {P : Program} (w : World) (a b : Option Addr) (n c m d : Nat) (xs ys : List Int) (hx : Bytes xs) (hy : Bytes ys) (h1 : IsI .u8 w a n c xs) (h2 : IsI .u8 w b m d ys) :
    (Extern.BytealgCompare.compare #[.slice a n c, .slice b m d]).run P w = .ok (.int .i64 (ci xs ys)) w := by
  change Sem.run P (do pure (goInt (Extern.BytealgCompare.cmp (← Extern.Bytes.bytesOf (.slice a n c)) (← Extern.Bytes.bytesOf (.slice b m d))))) w = _
  simp only [Sem.run_bind, run_bytesOf w a n c xs hx h1, run_bytesOf w b m d ys hy h2, Result.andThen, Sem.run_pure]
  rw [Lib.cmp_eq, cmp_eq, nums_str hx, nums_str hy]
  rfl

theorem compare_any (a b : Option Addr) (n c m d : Nat) (xs ys : List Int) (w : World) (hx : Bytes xs) (hy : Bytes ys) (h1 : IsI .u8 w a n c xs) (h2 : IsI .u8 w b m d ys) :
    Calls Try.prog 25 #[.slice a n c, .slice b m d] w fun e w' => e = .returned (.int .i64 (ci xs ys)) ∧ w' = w := by
  have hr := run_compare (P := Try.prog) w a b n c m d xs ys hx hy h1 h2
  clear hx hy h1 h2
  go_enter Try.func25, Try.ntmps25
  go_wp2
  rw [run_callFunc_extern Try.func38 (by kernel_rfl) (by kernel_rfl) (by kernel_rfl) (e := Extern.BytealgCompare.compare) (by kernel_rfl), hr]
  simp only [Result.andThen]
  rw [Oper.upon_value]
  go_wp2
  go_ret
  exact ⟨rfl, rfl⟩

end Go.Proofs.Ytkojbpifcflgfaa

namespace Go.Proofs.Ytkojbpifcflgfaa
open Go.RowKit

theorem below_dr (w : World) (n : Nat) : Below w.heap.size w (w.drewN n) := ⟨rfl, rfl, rfl, Nat.le_refl _, fun _ _ => rfl⟩
theorem below_dr2 (w : World) (q n : Nat) : Below w.heap.size w ((w.drewN q).drewN n) := ⟨rfl, rfl, rfl, Nat.le_refl _, fun _ _ => rfl⟩
theorem ret_bool {a b : Bool} (h : a = b) : Ending.returned (.bool a) = .returned (.bool b) := by rw [h]
theorem conv_drew (w : World) (a : Option Addr) (cap n : Nat) (xs : List Int) (h : IsI .u8 w a n cap xs) (q : Nat) :
    Sem.run Try.prog (convert 41 9 (.slice a n cap)) (w.drewN q) = .ok (.string (strOfNums xs)) (w.drewN q) := conv_rd (w.drewN q) a cap n xs h.hl (h.rd.below (below_dr w q))
theorem str_less {a b : List Int} (ha : Bytes a) (hb : Bytes b) : Op.bytesLess (strOfNums a).toList (strOfNums b).toList = li a b := by rw [bl_eq, nums_str ha, nums_str hb]
theorem str_same {a b : List Int} (ha : Bytes a) (hb : Bytes b) : ((strOfNums a).toList == (strOfNums b).toList) = decide (a = b) := by
  rw [beq_eq]
  by_cases h : a = b
  · subst h; simp
  · rw [decide_eq_false h, decide_eq_false (fun h' => h (str_inj ha hb h'))]

/-- Items that are few, and short. -/
def few (ls : List (List Int)) : Bool := decide (ls.length ≤ 60) && ls.all fun x => decide (x.length ≤ 600)
theorem few_spec {ls : List (List Int)} (h : few ls = true) : ls.length ≤ 60 ∧ ∀ x ∈ ls, x.length ≤ 600 := by
  simp [few] at h
  exact ⟨h.1, fun x hx => h.2 _ hx⟩
theorem few_not {ls : List (List Int)} {k : Nat} (hk : k < ls.length) (h : 600 < (ls.getD k []).length) : few ls = false := by
  rw [few, Bool.eq_false_iff]; intro h'
  simp only [Bool.and_eq_true, List.all_eq_true, decide_eq_true_eq] at h'
  have := h'.2 _ (getD_memR hk)
  omega

/-- Items rise. -/
def Rz (ls : List (List Int)) : Prop := ∀ i, i + 1 < ls.length → li (ls.getD i []) (ls.getD (i + 1) []) = true
open Classical in
noncomputable def rises (ls : List (List Int)) : Bool := decide (Rz ls)
theorem rises_iff {ls : List (List Int)} : rises ls = true ↔ Rz ls := by simp [rises]
theorem rises_not {ls : List (List Int)} {k : Nat} (h : k + 1 < ls.length) (hn : li (ls.getD k []) (ls.getD (k + 1) []) = false) : rises ls = false := by
  rw [Bool.eq_false_iff]; intro h'
  have := rises_iff.1 h' k h
  rw [hn] at this; cases this

set_option maxHeartbeats 1600000 in
theorem rises_any (a : Option Addr) (len cap : Nat) (ls : List (List Int)) (w : World) (hI : IsR w a len cap ls) (hwf : WfR ls) : Calls Try.prog 22 #[.slice a len cap] w fun e w' => e = .returned (.bool (rises ls)) ∧ Below w.heap.size w w' := by
  have hm := hI.hm
  have hc := hI.hc
  unfold maxLen at hm
  obtain ⟨b, hb⟩ : ∃ b, Hid (b = rises ls) := ⟨_, rfl⟩
  rw [← hb.out]
  have HI : Hid (IsR w a len cap ls ∧ WfR ls) := ⟨hI, hwf⟩
  clear hI hwf
  go_enter Try.func22, Try.ntmps22
  go_wp2
  go_loopw [3] (fun i wr => ∃ k q : Nat, i = .int .i64 ((k : Int) + 1) ∧ k ≤ len ∧ Hid (∀ j, j < k → j + 1 < len → li (ls.getD j []) (ls.getD (j + 1) []) = true) ∧ wr = w.drewN q) (fun i _ => len + 1 - (intOf i).toNat)
  case atStart => exact ⟨0, 0, rfl, Nat.zero_le _, (fun j hj => by omega), rfl⟩
  case round =>
    obtain ⟨k, q, rfl, hk, HA, rfl⟩ := hrel
    by_cases hlt : k + 1 < len
    · have hlt' : (k : Int) + 1 < (len : Int) := by omega
      have hlk : (k : Int) < (len : Int) := by omega
      have hk0 : (0 : Int) ≤ (k : Int) := by omega
      have hk1 : (0 : Int) ≤ (k : Int) + 1 := by omega
      have hsub : IntKind.i64.wrap (k : Int) = (k : Int) := by rw [IntKind.wrap_i64]; omega
      have hkl : k < ls.length := by rw [HI.out.1.hl]; omega
      have hkl1 : k + 1 < ls.length := by rw [HI.out.1.hl]; omega
      obtain ⟨g, off, ai, ni, ci, rfl, hg, c0, hi⟩ := HI.out.1.rd.at hkl
      obtain ⟨g', off', aj, nj, cj, e, hg', c1, hj⟩ := HI.out.1.rd.at hkl1
      cases e
      have v0 := conv_drew w ai ci ni _ hi
      have v1 := conv_drew w aj cj nj _ hj
      have hl := str_less (HI.out.2 _ (getD_memR hkl)) (HI.out.2 _ (getD_memR hkl1))
      obtain ⟨r, hr⟩ : ∃ r, Hid (r = li (ls.getD k []) (ls.getD (k + 1) [])) := ⟨_, rfl⟩
      rw [← hr.out] at hl
      have HN : Hid (r = false → rises ls = false) := fun h => rises_not hkl1 (by rw [← hr.out]; exact h)
      have HT : Hid (r = true → ∀ j, j < k + 1 → j + 1 < len → li (ls.getD j []) (ls.getD (j + 1) []) = true) := fun h j h1 h2 => by
        rcases Nat.lt_succ_iff_lt_or_eq.1 h1 with h3 | h3
        · exact HA.out j h3 h2
        · subst h3; rw [← hr.out]; exact h
      generalize strOfNums (ls.getD k []) = M at *
      generalize strOfNums (ls.getD (k + 1) []) = E at *
      clear hi hj hkl hkl1 hr hg'
      cases r with
      | false =>
        go_wp2
        go_quiet (fail)
        go_wp2
        go_ret
        exact ⟨ret_bool (by rw [hb.out, HN.out trivial]), below_dr2 _ _ _⟩
      | true =>
        go_wp2
        go_quiet (fail)
        go_wp2
        go_roundw
        case rel => exact ⟨k + 1, _, by go_num, by omega, HT.out trivial, rfl⟩
        case measure => simp [intOf]; omega
    · have hlt' : ¬ (k : Int) + 1 < (len : Int) := by omega
      go_wp2
      go_ret
      refine ⟨ret_bool ?_, below_dr _ _⟩
      rw [hb.out, rises_iff.2 fun j hj => HA.out j (by rw [HI.out.1.hl] at hj; omega) (by rw [HI.out.1.hl] at hj; exact hj)]
end Go.Proofs.Ytkojbpifcflgfaa

namespace Go.Proofs.Ytkojbpifcflgfaa
open Go.RowKit
theorem act_eq {a b : Act} (hs : a.tmps.size = b.tmps.size) (hd : a.defers = b.defers) (h : ∀ s, s < b.tmps.size → a.eval (.tmp s) = b.eval (.tmp s)) : a = b := by
  obtain ⟨ta, da⟩ := a
  obtain ⟨tb, db⟩ := b
  simp only at hs hd h
  subst hd
  congr 1
  apply Array.ext hs
  intro i h1 h2
  have := h i h2
  simpa [Act.eval, h1, h2] using this
def putAll (a : Act) (b : Act) (l : List Oper) : Act := l.foldl (fun b o => b.put o.dst (match o.dst with | some d => a.eval (.tmp d) | none => undef)) b
theorem putAll_size (a : Act) : ∀ (l : List Oper) (b : Act), (putAll a b l).tmps.size = b.tmps.size ∧ (putAll a b l).defers = b.defers
  | [], b => ⟨rfl, rfl⟩
  | o :: l, b => by
    have := putAll_size a l (b.put o.dst (match o.dst with | some d => a.eval (.tmp d) | none => undef))
    unfold putAll at *
    rw [List.foldl_cons]
    refine ⟨this.1.trans ?_, this.2.trans ?_⟩
    · cases o.dst <;> simp [Act.put]
    · cases o.dst <;> rfl
theorem putAll_eval (a : Act) (s : Nat) : ∀ (l : List Oper) (b : Act), s < b.tmps.size → ((∃ o ∈ l, o.dst = some s) ∨ b.eval (.tmp s) = a.eval (.tmp s)) → (putAll a b l).eval (.tmp s) = a.eval (.tmp s)
  | [], b, _, h => by
    rcases h with ⟨o, ho, _⟩ | h
    · cases ho
    · exact h
  | o :: l, b, hs, h => by
    unfold putAll
    rw [List.foldl_cons]
    refine putAll_eval a s l _ ?_ ?_
    · cases o.dst <;> simp [Act.put, hs]
    · by_cases hd : o.dst = some s
      · rw [hd]; exact .inr (eval_put_same hs)
      · rcases h with ⟨o', ho', hd'⟩ | h
        · rcases List.mem_cons.1 ho' with rfl | ho'
          · exact absurd hd' hd
          · exact .inl ⟨o', ho', hd'⟩
        · exact .inr (by rw [eval_put_ne hd]; exact h)
/-- The frame behind the statement, written out. -/
theorem act_puts {l : List Oper} {a a0 : Act} (hs : a.tmps.size = a0.tmps.size) (hd : a.defers = a0.defers) (hf : ∀ s, freeB l.toArray s = true → a.eval (.tmp s) = a0.eval (.tmp s)) : a = putAll a a0 l := by
  have hp := putAll_size a l a0
  refine act_eq (hs.trans hp.1.symm) (hd.trans hp.2.symm) fun s hs' => (putAll_eval a s l a0 (by rw [← hp.1]; exact hs') ?_).symm
  by_cases h : ∃ o ∈ l, o.dst = some s
  · exact .inl h
  · refine .inr (hf s ?_).symm
    simp only [freeB, List.all_eq_true, List.mem_range]
    intro j hj
    cases ho : l.toArray[j]? with
    | none => rfl
    | some o =>
      have hm : o ∈ l := List.mem_of_getElem? (by simpa using ho)
      simp only [bne_iff_ne]
      exact fun e => h ⟨o, hm, e⟩
theorem wanted_undef {ops : Array Oper} {o : Oper} {a : Act} {g d : Nat} {b : Bool} (h : o.guard = some (g, b)) (hd : (ops[g]?).bind (·.dst) = some d) (hv : a.eval (.tmp d) = undef) : ¬ Region.wanted o (yielded ops a.tmps) = true := by
  cases h' : a.tmps[d]? with
  | none => simp [Region.wanted, h, yielded, hd, h']
  | some x =>
    have hx : x = undef := by simpa [Act.eval, h'] using hv
    subst hx
    simp [Region.wanted, h, yielded, hd, h', undef]
end Go.Proofs.Ytkojbpifcflgfaa

namespace Go.Proofs.Ytkojbpifcflgfaa
open Go.RowKit

def lf (listed : Array Bool) (j : Nat) : Bool := listed.getD j false
def updL (L : Nat → Bool) (i : Nat) : Nat → Bool := fun j => if j = i then true else L j

/-- What is told of the operations that are through when number i comes up. -/
structure AtL (ops : Array Oper) (T : Nat → Value → World → Prop) (a0 : Act) (L : Nat → Bool) (i : Nat) (o : Oper) (a : Act) (w : World) : Prop where
  un : L i = false
  bef : ∀ e ∈ o.after, Region.binds .any e = true → L e.on = true ∧ Done ops T a w e.on
  aft : ∀ j o', ops[j]? = some o' → (∃ e ∈ o'.after, Region.binds .any e = true ∧ e.on = i) → L j = false
  fix : ∀ s, fixedB ops i s = true → a.eval (.tmp s) = a0.eval (.tmp s)

structure InvL (ops : Array Oper) (S : (Nat → Bool) → World → Prop) (T : Nat → Value → World → Prop) (a0 : Act) (listed : Array Bool) (a : Act) (w : World) : Prop where
  size : listed.size = ops.size
  hS : S (lf listed) w
  tsize : a.tmps.size = a0.tmps.size
  defers : a.defers = a0.defers
  closed : ∀ j o, ops[j]? = some o → listed.getD j false = true → ∀ e ∈ o.after, Region.binds .any e = true → listed.getD e.on false = true
  done : ∀ j, listed.getD j false = true → Done ops T a w j
  kept : ∀ s, (∀ j o, ops[j]? = some o → listed.getD j false = true → o.dst ≠ some s) → a.eval (.tmp s) = a0.eval (.tmp s)

theorem lf_set {listed : Array Bool} {i : Nat} (h : i < listed.size) : lf (listed.setIfInBounds i true) = updL (lf listed) i := by
  funext j
  unfold lf updL
  by_cases hj : j = i
  · subst hj; rw [if_pos rfl]; exact getD_set_self h
  · rw [if_neg hj, getD_set_ne false (Ne.symm hj)]

section
variable {P : Program} {ops : Array Oper} {Q : Exit → Act → World → Prop}

theorem inv_gen {S : (Nat → Bool) → World → Prop} {T : Nat → Value → World → Prop} {a0 : Act} (hB : regB ops a0.tmps.size = true)
    (any : Nat → Array Bool → Act → World → Prop) (wpo : Nat → (Act → World → Prop) → Act → World → Prop)
    (hz : ∀ listed a w, Region.ready .any ops listed = [] → Q .normal a w → any 0 listed a w)
    (hs : ∀ fuel listed a w, (Region.ready .any ops listed = [] → Q .normal a w) → (∀ i ∈ Region.ready .any ops listed, wpo i (any fuel (listed.setIfInBounds i true)) a w) → any (fuel + 1) listed a w)
    (hdo : ∀ i o a w K Post, ops[i]? = some o → (if Region.wanted o (yielded ops a.tmps) = true then does P o a.eval w Post else Post undef w) → (∀ v w', Post v w' → K (a.put o.dst v) w') → wpo i K a w)
    (hop : ∀ i o, ops[i]? = some o → ∀ L a w, S L w → AtL ops T a0 L i o a w →
      if Region.wanted o (yielded ops a.tmps) = true then does P o a.eval w (fun v w' => T i v w' ∧ S (updL L i) w' ∧ ∀ j u, L j = true → T j u w → T j u w') else T i undef w ∧ S (updL L i) w)
    (hQ : ∀ a w L, S L w → (∀ j, j < ops.size → L j = true) → a.tmps.size = a0.tmps.size → a.defers = a0.defers → (∀ j, Done ops T a w j) → (∀ s, freeB ops s = true → a.eval (.tmp s) = a0.eval (.tmp s)) → Q .normal a w) :
    ∀ (fuel : Nat) (listed : Array Bool) (a : Act) (w : World), left listed ≤ fuel → InvL ops S T a0 listed a w → any fuel listed a w := by
  have fin : ∀ (listed : Array Bool) (a : Act) (w : World), InvL ops S T a0 listed a w → Region.ready .any ops listed = [] → Q .normal a w := by
    intro listed a w I hr
    have hall := all_listed I.size hB hr
    exact hQ a w (lf listed) I.hS hall I.tsize I.defers (fun j o ho => I.done j (hall j (Array.getElem?_eq_some_iff.1 ho).1) o ho) fun s hs => I.kept s fun j o hj _ => free_spec hs hj
  intro fuel
  induction fuel with
  | zero =>
    intro listed a w hl I
    have hr : Region.ready .any ops listed = [] := by
      cases h : Region.ready .any ops listed with
      | nil => rfl
      | cons i rs =>
        exfalso
        have hi : i ∈ Region.ready .any ops listed := by rw [h]; simp
        have h0 := get_false_of (mem_ready.1 hi).1
        have : false ∈ listed.toList.filter (fun b => !b) := List.mem_filter.2 ⟨List.mem_of_getElem? (by simpa using h0), rfl⟩
        have := List.length_pos_of_mem this
        unfold left at hl; omega
    exact hz listed a w hr (fin listed a w I hr)
  | succ fuel ih =>
    intro listed a w hl I
    refine hs fuel listed a w (fin listed a w I) fun i hi => ?_
    obtain ⟨hun, o, ho, hall⟩ := mem_ready.1 hi
    have hlt : i < listed.size := by rw [I.size]; exact (Array.getElem?_eq_some_iff.1 ho).1
    have hcount : left (listed.setIfInBounds i true) ≤ fuel := by
      have := left_set listed.toList i (by simpa using get_false_of hun)
      unfold left at *
      simp only [Array.toList_setIfInBounds]
      omega
    have hlf : listed.getD i false ≠ true := by
      have := get_false_of hun
      simp [this]
    have hun' : lf listed i = false := by
      cases h : lf listed i
      · rfl
      · exact absurd h hlf
    have aft : ∀ j o', ops[j]? = some o' → (∃ e ∈ o'.after, Region.binds .any e = true ∧ e.on = i) → lf listed j = false := by
      rintro j o' hj ⟨e, he, hb, hei⟩
      cases h : lf listed j
      · rfl
      · have := I.closed j o' hj h e he hb
        rw [hei] at this
        exact absurd this hlf
    have fix : ∀ s, fixedB ops i s = true → a.eval (.tmp s) = a0.eval (.tmp s) := fun s hs => I.kept s fun j oj hj hjl hd => by
      by_cases hji : j = i
      · subst hji; exact hlf hjl
      · obtain ⟨e, he, hb, hei⟩ := fixed_spec hs hj hji hd
        have := I.closed j oj hj hjl e he hb
        rw [hei] at this
        exact hlf this
    have H := hop i o ho (lf listed) a w I.hS ⟨hun', fun e he hb => ⟨hall e he hb, I.done e.on (hall e he hb)⟩, aft, fix⟩
    obtain ⟨hd1, hd2, hd3⟩ := reg_spec hB ho
    have next : ∀ v w', T i v w' → S (updL (lf listed) i) w' → (∀ j u, lf listed j = true → T j u w → T j u w') → InvL ops S T a0 (listed.setIfInBounds i true) (a.put o.dst v) w' := by
      intro v w' hT hS stab
      have back : ∀ j, j ≠ i → (listed.setIfInBounds i true).getD j false = true → listed.getD j false = true := fun j hj h => by
        rwa [getD_set_ne false (Ne.symm hj)] at h
      refine ⟨by simpa using I.size, by rw [lf_set hlt]; exact hS, ?_, ?_, ?_, ?_, ?_⟩
      · rw [← I.tsize]; cases o.dst <;> simp [Act.put]
      · rw [← I.defers]; cases o.dst <;> rfl
      · intro j oj hj hjl e he hb
        by_cases hji : j = i
        · subst hji
          rw [ho] at hj; cases hj
          exact getD_set_true (hall e he hb)
        · exact getD_set_true (I.closed j oj hj (back j hji hjl) e he hb)
      · intro j hjl oj hj
        by_cases hji : j = i
        · subst hji
          rw [ho] at hj; cases hj
          exact ⟨v, fun d hd => by rw [hd]; exact eval_put_same (by rw [I.tsize]; exact hd1 d hd), hT⟩
        · obtain ⟨u, hu, hTu⟩ := I.done j (back j hji hjl) oj hj
          refine ⟨u, fun d hd => ?_, stab j u (back j hji hjl) hTu⟩
          rw [eval_put_ne (fun h => hd3 j oj d hj hji h hd)]
          exact hu d hd
      · intro s hs
        rw [eval_put_ne (hs i o ho (getD_set_self hlt))]
        exact I.kept s fun j oj hj hjl => hs j oj hj (getD_set_true hjl)
    refine hdo i o a w _ (fun v w' => T i v w' ∧ S (updL (lf listed) i) w' ∧ ∀ j u, lf listed j = true → T j u w → T j u w') ho ?_ fun v w' ⟨h1, h2, h3⟩ => ih _ _ _ hcount (next v w' h1 h2 h3)
    split
    · rename_i hw
      rw [if_pos hw] at H
      exact H
    · rename_i hw
      rw [if_neg hw] at H
      exact ⟨H.1, H.2, fun _ _ _ h => h⟩

theorem invL_start {S : (Nat → Bool) → World → Prop} {T : Nat → Value → World → Prop} {a0 : Act} {w : World} (hS : S (fun _ => false) w) : InvL ops S T a0 (Array.replicate ops.size false) a0 w := by
  have e : lf (Array.replicate ops.size false) = fun _ => false := by
    funext j
    cases h : lf (Array.replicate ops.size false) j
    · rfl
    · exact (rep_false h).elim
  exact ⟨by simp, by rw [e]; exact hS, rfl, rfl, fun _ _ _ hl => (rep_false hl).elim, fun _ hl => (rep_false hl).elim, fun _ _ => rfl⟩

theorem wp_region_L {id : Nat} {a0 : Act} {w0 : World} (hm : P.follows .mixedOrders = true) (hB : regB ops a0.tmps.size = true) (S : (Nat → Bool) → World → Prop) (T : Nat → Value → World → Prop) (hS : S (fun _ => false) w0.drew)
    (hop : ∀ i o, ops[i]? = some o → ∀ L a w, S L w → AtL ops T a0 L i o a w →
      if Region.wanted o (yielded ops a.tmps) = true then does P o a.eval w (fun v w' => T i v w' ∧ S (updL L i) w' ∧ ∀ j u, L j = true → T j u w → T j u w') else T i undef w ∧ S (updL L i) w)
    (hQ : ∀ a w L, S L w → (∀ j, j < ops.size → L j = true) → a.tmps.size = a0.tmps.size → a.defers = a0.defers → (∀ j, Done ops T a w j) → (∀ s, freeB ops s = true → a.eval (.tmp s) = a0.eval (.tmp s)) → Q .normal a w) :
    (Code.region id ops true).wp P Q a0 w0 := by
  refine wp_region_any hm (inv_gen hB (wpAny P .any ops Q) (fun i K a w => wpOp P ops Q i K a w) (fun _ _ _ h1 h2 => ⟨h1, h2⟩) (fun _ _ _ _ h1 h2 => ⟨h1, h2⟩) ?_ hop hQ ops.size _ a0 _ (left_replicate _) (invL_start hS))
  intro i o a w K Post ho h hK
  unfold wpOp
  rw [ho]
  show if Region.wanted o (yielded ops a.tmps) = true then _ else _
  split
  · rename_i hw; rw [if_pos hw] at h; exact .inl (does_wp h hK)
  · rename_i hw; rw [if_neg hw] at h; exact hK _ _ h

def nodefB (ops : Array Oper) : Bool := ops.all fun o => match o.op with | .defer .. => false | _ => true
theorem nodef_spec (h : nodefB ops = true) {j : Nat} {o : Oper} (ho : ops[j]? = some o) : ∀ c, o.op ≠ .defer c := by
  intro c heq
  have := Array.all_eq_true_iff_forall_mem.1 h o (Array.mem_of_getElem? ho)
  simp [heq] at this

theorem does_wpIn {F : Fence} {n : Nat} (hfn : ∀ f, F.fn f) (hd : F.depth = none) (hc : ∀ m f args w R, Calls P f args w R → CallsIn F m P f args w R) {o : Oper} (hnd : ∀ c, o.op ≠ .defer c) {a : Act} {w : World} {Post : Value → World → Prop} {K : Act → World → Prop}
    (h : does P o a.eval w Post) (hK : ∀ v w', Post v w' → K (a.put o.dst v) w') : o.wpIn F n P a w K Q := by
  refine ⟨fun f _ => hfn f, ?_⟩
  have e : o.semAt F.round a.eval = execOp a.eval o := by
    cases F.round with
    | none => rfl
    | some l => exact Oper.semAt_some l _ o hnd
  rw [e]
  unfold does at h
  generalize (execOp a.eval o).run P w = r at *
  cases r with
  | ok x w' =>
    cases x with
    | value v => exact hK _ _ h
    | skip => exact hK _ _ h
    | enter f args =>
      refine ⟨fun hs => (by rw [hd] at hs; cases hs), hc _ _ _ _ _ (Calls.mono h ?_)⟩
      rintro e w'' ⟨v, rfl, hp⟩
      exact hK _ _ hp
    | _ => exact h.elim
  | halt x w' => exact h.elim

theorem wpIn_region_L {F : Fence} {n : Nat} (hfn : ∀ f, F.fn f) (hd : F.depth = none) (hc : ∀ m f args w R, Calls P f args w R → CallsIn F m P f args w R) (hnd : nodefB ops = true) {id : Nat} {a0 : Act} {w0 : World} (hm : P.follows .mixedOrders = true) (hB : regB ops a0.tmps.size = true) (S : (Nat → Bool) → World → Prop) (T : Nat → Value → World → Prop) (hS : S (fun _ => false) w0.drew)
    (hop : ∀ i o, ops[i]? = some o → ∀ L a w, S L w → AtL ops T a0 L i o a w →
      if Region.wanted o (yielded ops a.tmps) = true then does P o a.eval w (fun v w' => T i v w' ∧ S (updL L i) w' ∧ ∀ j u, L j = true → T j u w → T j u w') else T i undef w ∧ S (updL L i) w)
    (hQ : ∀ a w L, S L w → (∀ j, j < ops.size → L j = true) → a.tmps.size = a0.tmps.size → a.defers = a0.defers → (∀ j, Done ops T a w j) → (∀ s, freeB ops s = true → a.eval (.tmp s) = a0.eval (.tmp s)) → Q .normal a w) :
    (Code.region id ops true).wpIn F n P Q a0 w0 := by
  refine wpIn_region_any hm (inv_gen hB (wpAnyIn F n P .any ops Q) (fun i K a w => wpOpIn F n P ops Q i K a w) (fun _ _ _ h1 h2 => ⟨h1, h2⟩) (fun _ _ _ _ h1 h2 => ⟨h1, h2⟩) ?_ hop hQ ops.size _ a0 _ (left_replicate _) (invL_start hS))
  intro i o a w K Post ho h hK
  unfold wpOpIn
  rw [ho]
  show if Region.wanted o (yielded ops a.tmps) = true then _ else _
  split
  · rename_i hw; rw [if_pos hw] at h; exact does_wpIn hfn hd hc (nodef_spec hnd ho) h hK
  · rename_i hw; rw [if_neg hw] at h; exact ⟨fun f _ => hfn f, hK _ _ h⟩
end

def ObL (P : Program) (ops : Array Oper) (S : (Nat → Bool) → World → Prop) (T : Nat → Value → World → Prop) (a0 : Act) (i : Nat) (o : Oper) : Prop :=
  ∀ L a w, S L w → AtL ops T a0 L i o a w →
    if Region.wanted o (yielded ops a.tmps) = true then does P o a.eval w (fun v w' => T i v w' ∧ S (updL L i) w' ∧ ∀ j u, L j = true → T j u w → T j u w') else T i undef w ∧ S (updL L i) w
def AllL (P : Program) (ops : Array Oper) (S : (Nat → Bool) → World → Prop) (T : Nat → Value → World → Prop) (a0 : Act) : Nat → List Oper → Prop
  | _, [] => True
  | i, o :: rest => ObL P ops S T a0 i o ∧ AllL P ops S T a0 (i + 1) rest
section
variable {P : Program} {ops : Array Oper} {S : (Nat → Bool) → World → Prop} {T : Nat → Value → World → Prop} {a0 : Act}
theorem allL_nil {i : Nat} : AllL P ops S T a0 i [] := trivial
theorem allL_cons {i : Nat} {o : Oper} {rest : List Oper} (h : ObL P ops S T a0 i o) (hr : AllL P ops S T a0 (i + 1) rest) : AllL P ops S T a0 i (o :: rest) := ⟨h, hr⟩
theorem allL_get : ∀ (l : List Oper) (k : Nat), AllL P ops S T a0 k l → ∀ i o, l[i]? = some o → ObL P ops S T a0 (k + i) o
  | [], _, _, i, o, h => by simp at h
  | x :: l, k, hA, 0, o, h => by simp at h; subst h; exact hA.1
  | x :: l, k, hA, i + 1, o, h => by
    have := allL_get l (k + 1) hA.2 i o (by simpa using h)
    rwa [show k + 1 + i = k + (i + 1) by omega] at this

theorem wpIn_region_K {F : Fence} {n : Nat} (hfn : ∀ f, F.fn f) (hd : F.depth = none) (hc : ∀ m f args w R, Calls P f args w R → CallsIn F m P f args w R) {l : List Oper} {Q : Exit → Act → World → Prop} (hnd : nodefB l.toArray = true) {id : Nat} {w0 : World} (hm : P.follows .mixedOrders = true) (hB : regB l.toArray a0.tmps.size = true)
    (S : (Nat → Bool) → World → Prop) (T : Nat → Value → World → Prop) (hS : S (fun _ => false) w0.drew) (hA : AllL P l.toArray S T a0 0 l)
    (hQ : ∀ a w L, S L w → (∀ j, j < l.toArray.size → L j = true) → a.tmps.size = a0.tmps.size → a.defers = a0.defers → (∀ j, Done l.toArray T a w j) → (∀ s, freeB l.toArray s = true → a.eval (.tmp s) = a0.eval (.tmp s)) → Q .normal a w) :
    (Code.region id l.toArray true).wpIn F n P Q a0 w0 := by
  refine wpIn_region_L hfn hd hc hnd hm hB S T hS ?_ hQ
  intro i o hi L a w h1 h2
  have H := allL_get l 0 hA i o (by simpa using hi)
  rw [Nat.zero_add] at H
  exact H L a w h1 h2

theorem AtL.slot {L : Nat → Bool} {i : Nat} {o : Oper} {a : Act} {w : World} (h : AtL ops T a0 L i o a w) (k j d : Nat) (hk : (o.after[k]?).map (fun e => (e.on, Region.binds .any e)) = some (j, true)) (hd : (ops[j]?).bind (·.dst) = some d) : T j (a.eval (.tmp d)) w := by
  obtain ⟨e, he, h2⟩ := Option.map_eq_some_iff.1 hk
  simp only [Prod.mk.injEq] at h2
  obtain ⟨rfl, hbd⟩ := h2
  obtain ⟨oj, hj, hdj⟩ := Option.bind_eq_some_iff.1 hd
  obtain ⟨v, hv, hT⟩ := (h.bef e (Array.mem_of_getElem? he) hbd).2 oj hj
  rw [hv d hdj]
  exact hT
theorem AtL.on {L : Nat → Bool} {i : Nat} {o : Oper} {a : Act} {w : World} (h : AtL ops T a0 L i o a w) (k j : Nat) (hk : (o.after[k]?).map (fun e => (e.on, Region.binds .any e)) = some (j, true)) : L j = true := by
  obtain ⟨e, he, h2⟩ := Option.map_eq_some_iff.1 hk
  simp only [Prod.mk.injEq] at h2
  obtain ⟨rfl, hbd⟩ := h2
  exact (h.bef e (Array.mem_of_getElem? he) hbd).1
theorem AtL.off {L : Nat → Bool} {i : Nat} {o : Oper} {a : Act} {w : World} (h : AtL ops T a0 L i o a w) (j : Nat) (hj : ((ops[j]?).map fun o => o.after.any fun e => Region.binds .any e && e.on == i) = some true) : L j = false := by
  obtain ⟨oj, ho, h2⟩ := Option.map_eq_some_iff.1 hj
  obtain ⟨e, he, hb⟩ := Array.any_eq_true'.1 h2
  simp only [Bool.and_eq_true, beq_iff_eq] at hb
  exact h.aft j oj ho ⟨e, he, hb.1, hb.2⟩
/-- A step that leaves memory as it is. -/
theorem stay {i : Nat} {L : Nat → Bool} {w : World} {v : Value} (hS : S (updL L i) w) (hT : T i v w) : T i v w ∧ S (updL L i) w ∧ ∀ j u, L j = true → T j u w → T j u w := ⟨hT, hS, fun _ _ _ h => h⟩
theorem upd_ne {L : Nat → Bool} {i j : Nat} (h : j ≠ i) : updL L i j = L j := by simp [updL, h]
theorem upd_same {L : Nat → Bool} {i : Nat} : updL L i i = true := by simp [updL]
end

theorem wp_region_M {P : Program} {a0 : Act} {l : List Oper} {Q : Exit → Act → World → Prop} {id : Nat} {w0 : World} (hm : P.follows .mixedOrders = true) (hB : regB l.toArray a0.tmps.size = true)
    (S : (Nat → Bool) → World → Prop) (T : Nat → Value → World → Prop) (hS : S (fun _ => false) w0.drew) (hA : AllL P l.toArray S T a0 0 l)
    (hQ : ∀ a w L, S L w → (∀ j, j < l.toArray.size → L j = true) → a.tmps.size = a0.tmps.size → a.defers = a0.defers → (∀ j, Done l.toArray T a w j) → (∀ s, freeB l.toArray s = true → a.eval (.tmp s) = a0.eval (.tmp s)) → Q .normal a w) :
    (Code.region id l.toArray true).wp P Q a0 w0 := by
  refine wp_region_L hm hB S T hS ?_ hQ
  intro i o hi L a w h1 h2
  have H := allL_get l 0 hA i o (by simpa using hi)
  rw [Nat.zero_add] at H
  exact H L a w h1 h2

end Go.Proofs.Ytkojbpifcflgfaa
