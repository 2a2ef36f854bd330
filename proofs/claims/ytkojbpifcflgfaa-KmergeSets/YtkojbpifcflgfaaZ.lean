/- A law for a statement that leaves its order open: what each operation yields is told once, by a predicate that later growth of memory keeps; whatever order is drawn, all predicates hold at the end. Conditions: each operation's predicate follows from those of the operations that must come ahead of it. -/
import Derived.WalkKit
import Derived.RegionTactic
namespace Go.Proofs.Ytkojbpifcflgfaa
open Go.RowKit

def does (P : Program) (o : Oper) (ρ : Operand → Value) (w : World) (Post : Value → World → Prop) : Prop :=
  match (execOp ρ o).run P w with
  | .ok (.value v) w' => Post v w'
  | .ok .skip w' => Post undef w'
  | .ok (.enter f args) w' => Calls P f args w' (fun e w'' => ∃ v, e = .returned v ∧ Post v w'')
  | _ => False

theorem does_wp {P : Program} {o : Oper} {a : Act} {w : World} {Post : Value → World → Prop} {K : Act → World → Prop} {Q : Exit → Act → World → Prop}
    (h : does P o a.eval w Post) (hK : ∀ v w', Post v w' → K (a.put o.dst v) w') : o.wp P a w K Q := by
  unfold does at h
  unfold Oper.wp
  generalize (execOp a.eval o).run P w = r at *
  cases r with
  | ok n w' =>
    cases n with
    | value v => exact hK _ _ h
    | skip => exact hK _ _ h
    | enter f args =>
      refine Calls.mono h ?_
      rintro e w'' ⟨v, rfl, hp⟩
      exact hK _ _ hp
    | _ => exact h.elim
  | halt x w' => exact h.elim

def fixedB (ops : Array Oper) (i s : Nat) : Bool :=
  (List.range ops.size).all fun j => j == i || match ops[j]? with
    | some o => o.dst != some s || o.after.any (fun e => Region.binds .any e && e.on == i)
    | none => true
def freeB (ops : Array Oper) (s : Nat) : Bool :=
  (List.range ops.size).all fun j => match ops[j]? with
    | some o => o.dst != some s
    | none => true
def regB (ops : Array Oper) (n : Nat) : Bool :=
  (List.range ops.size).all fun i => match ops[i]? with
    | some o => (match o.dst with | some d => decide (d < n) | none => true) && o.after.all (fun e => !Region.binds .any e || decide (e.on < i)) &&
        (List.range ops.size).all fun j => j == i || match o.dst, (ops[j]?).bind (·.dst) with
          | some d, some d' => d != d'
          | _, _ => true
    | none => true

theorem fixed_spec {ops : Array Oper} {i s : Nat} (h : fixedB ops i s = true) {j : Nat} {o : Oper} (hj : ops[j]? = some o) (hne : j ≠ i) (hd : o.dst = some s) :
    ∃ e ∈ o.after, Region.binds .any e = true ∧ e.on = i := by
  simp only [fixedB, List.all_eq_true, List.mem_range] at h
  have h1 := h j (Array.getElem?_eq_some_iff.1 hj).1
  simp only [hj, hd, Bool.or_eq_true, beq_iff_eq, hne, false_or, bne_self_eq_false, Bool.false_eq_true] at h1
  obtain ⟨e, he, hb⟩ := Array.any_eq_true'.1 h1
  simp only [Bool.and_eq_true, beq_iff_eq] at hb
  exact ⟨e, he, hb.1, hb.2⟩
theorem free_spec {ops : Array Oper} {s : Nat} (h : freeB ops s = true) {j : Nat} {o : Oper} (hj : ops[j]? = some o) : o.dst ≠ some s := by
  simp only [freeB, List.all_eq_true, List.mem_range] at h
  have h1 := h j (Array.getElem?_eq_some_iff.1 hj).1
  simpa [hj] using h1
theorem reg_spec {ops : Array Oper} {n : Nat} (h : regB ops n = true) {i : Nat} {o : Oper} (hi : ops[i]? = some o) :
    (∀ d, o.dst = some d → d < n) ∧ (∀ e ∈ o.after, Region.binds .any e = true → e.on < i) ∧
    ∀ (j : Nat) o' d, ops[j]? = some o' → j ≠ i → o.dst = some d → o'.dst ≠ some d := by
  simp only [regB, List.all_eq_true, List.mem_range] at h
  have h1 := h i (Array.getElem?_eq_some_iff.1 hi).1
  simp only [hi, Bool.and_eq_true] at h1
  obtain ⟨⟨h2, h3⟩, h4⟩ := h1
  refine ⟨fun d hd => ?_, fun e he hb => ?_, fun j o' d hj hne hd hd' => ?_⟩
  · simpa [hd] using h2
  · have := Array.all_eq_true_iff_forall_mem.1 h3 e he
    simpa [hb] using this
  · simp only [List.all_eq_true, List.mem_range] at h4
    have := h4 j (Array.getElem?_eq_some_iff.1 hj).1
    simp [hne, hd, hj, hd'] at this

theorem eval_put_same {a : Act} {d : Nat} {v : Value} (h : d < a.tmps.size) : (a.put (some d) v).eval (.tmp d) = v := by
  simp [Act.eval, Act.put, h]
theorem eval_put_ne {a : Act} {dst : Option Tmp} {d : Nat} {v : Value} (h : dst ≠ some d) : (a.put dst v).eval (.tmp d) = a.eval (.tmp d) :=
  Act.eval_put fun d' hd' he => by cases he; exact h hd'

section
variable {P : Program} {ops : Array Oper} {Q : Exit → Act → World → Prop}

/-- Operation number j has yielded a value of its kind. -/
def Done (ops : Array Oper) (T : Nat → Value → World → Prop) (a : Act) (w : World) (j : Nat) : Prop :=
  ∀ o, ops[j]? = some o → ∃ v, (∀ d, o.dst = some d → a.eval (.tmp d) = v) ∧ T j v w

structure Inv (ops : Array Oper) (S : World → Prop) (T : Nat → Value → World → Prop) (a0 : Act) (listed : Array Bool) (a : Act) (w : World) : Prop where
  size : listed.size = ops.size
  hS : S w
  tsize : a.tmps.size = a0.tmps.size
  defers : a.defers = a0.defers
  closed : ∀ j o, ops[j]? = some o → listed.getD j false = true → ∀ e ∈ o.after, Region.binds .any e = true → listed.getD e.on false = true
  done : ∀ j, listed.getD j false = true → Done ops T a w j
  kept : ∀ s, (∀ j o, ops[j]? = some o → listed.getD j false = true → o.dst ≠ some s) → a.eval (.tmp s) = a0.eval (.tmp s)

def left (listed : Array Bool) : Nat := (listed.toList.filter (fun b => !b)).length

theorem left_set : ∀ (l : List Bool) (i : Nat), l[i]? = some false → ((l.set i true).filter (fun b => !b)).length + 1 = (l.filter (fun b => !b)).length
  | [], i, h => by simp at h
  | b :: l, 0, h => by simp at h; subst h; simp
  | b :: l, i + 1, h => by
    have := left_set l i (by simpa using h)
    cases b <;> simp at * <;> omega

theorem get_false_of {listed : Array Bool} {i : Nat} (h : listed.getD i true = false) : listed[i]? = some false := by
  rcases Nat.lt_or_ge i listed.size with h' | h'
  · simp [h'] at h; simp [h', h]
  · simp [Array.getElem?_eq_none h'] at h
theorem getD_set_self {listed : Array Bool} {i : Nat} (h : i < listed.size) : (listed.setIfInBounds i true).getD i false = true := by simp [h]

theorem all_listed {listed : Array Bool} (hsz : listed.size = ops.size) {n : Nat} (hB : regB ops n = true) (hr : Region.ready .any ops listed = []) : ∀ j, j < ops.size → listed.getD j false = true := by
  intro j
  induction j using Nat.strongRecOn with
  | _ j ih =>
    intro hj
    cases hl : listed.getD j false with
    | true => rfl
    | false =>
      exfalso
      obtain ⟨o, ho⟩ : ∃ o, ops[j]? = some o := ⟨ops[j], by simp [hj]⟩
      have hmem : j ∈ Region.ready .any ops listed := by
        rw [mem_ready]
        refine ⟨?_, o, ho, fun e he hb => ih e.on ((reg_spec hB ho).2.1 e he hb) (Nat.lt_trans ((reg_spec hB ho).2.1 e he hb) hj)⟩
        have h' : j < listed.size := by omega
        simp [h'] at hl ⊢
        exact hl
      rw [hr] at hmem
      cases hmem

theorem inv_any {S : World → Prop} {G : World → World → Prop} {T : Nat → Value → World → Prop} {a0 : Act} (hB : regB ops a0.tmps.size = true)
    (hst : ∀ j v w w', T j v w → G w w' → T j v w')
    (hop : ∀ i o, ops[i]? = some o → ∀ a w, S w → (∀ e ∈ o.after, Region.binds .any e = true → Done ops T a w e.on) → (∀ s, fixedB ops i s = true → a.eval (.tmp s) = a0.eval (.tmp s)) →
      if Region.wanted o (yielded ops a.tmps) = true then does P o a.eval w (fun v w' => T i v w' ∧ G w w' ∧ S w') else T i undef w)
    (hQ : ∀ a w, S w → a.tmps.size = a0.tmps.size → a.defers = a0.defers → (∀ j, Done ops T a w j) → (∀ s, freeB ops s = true → a.eval (.tmp s) = a0.eval (.tmp s)) → Q .normal a w) :
    ∀ (fuel : Nat) (listed : Array Bool) (a : Act) (w : World), left listed ≤ fuel → Inv ops S T a0 listed a w → wpAny P .any ops Q fuel listed a w := by
  have fin : ∀ (listed : Array Bool) (a : Act) (w : World), Inv ops S T a0 listed a w → Region.ready .any ops listed = [] → Q .normal a w := by
    intro listed a w I hr
    have hall := all_listed I.size hB hr
    refine hQ a w I.hS I.tsize I.defers (fun j o ho => I.done j (hall j (Array.getElem?_eq_some_iff.1 ho).1) o ho) fun s hs => I.kept s fun j o hj _ => free_spec hs hj
  intro fuel
  induction fuel with
  | zero =>
    intro listed a w hl I
    have hr : Region.ready .any ops listed = [] := by
      cases h : Region.ready .any ops listed with
      | nil => rfl
      | cons i rs =>
        exfalso
        have hi : i ∈ Region.ready .any ops listed := by rw [h]; simp
        have h0 := get_false_of (mem_ready.1 hi).1
        have : false ∈ listed.toList.filter (fun b => !b) := List.mem_filter.2 ⟨List.mem_of_getElem? (by simpa using h0), rfl⟩
        have := List.length_pos_of_mem this
        unfold left at hl; omega
    exact ⟨hr, fin listed a w I hr⟩
  | succ fuel ih =>
    intro listed a w hl I
    refine ⟨fin listed a w I, fun i hi => ?_⟩
    obtain ⟨hun, o, ho, hall⟩ := mem_ready.1 hi
    have hlt : i < listed.size := by rw [I.size]; exact (Array.getElem?_eq_some_iff.1 ho).1
    have hcount : left (listed.setIfInBounds i true) ≤ fuel := by
      have := left_set listed.toList i (by simpa using get_false_of hun)
      unfold left at *
      simp only [Array.toList_setIfInBounds]
      omega
    have hlf : listed.getD i false ≠ true := by
      have := get_false_of hun
      simp [this]
    have bef : ∀ e ∈ o.after, Region.binds .any e = true → Done ops T a w e.on := fun e he hb => I.done e.on (hall e he hb)
    have fix : ∀ s, fixedB ops i s = true → a.eval (.tmp s) = a0.eval (.tmp s) := fun s hs => I.kept s fun j oj hj hjl hd => by
      by_cases hji : j = i
      · subst hji; exact hlf hjl
      · obtain ⟨e, he, hb, hei⟩ := fixed_spec hs hj hji hd
        have := I.closed j oj hj hjl e he hb
        rw [hei] at this
        exact hlf this
    have H := hop i o ho a w I.hS bef fix
    obtain ⟨hd1, hd2, hd3⟩ := reg_spec hB ho
    have next : ∀ v w', T i v w' → (w' = w ∨ G w w') → S w' → Inv ops S T a0 (listed.setIfInBounds i true) (a.put o.dst v) w' := by
      intro v w' hT hG hS
      have stab : ∀ j u, T j u w → T j u w' := fun j u h => by
        rcases hG with rfl | hG
        · exact h
        · exact hst j u w w' h hG
      have back : ∀ j, j ≠ i → (listed.setIfInBounds i true).getD j false = true → listed.getD j false = true := fun j hj h => by
        rwa [getD_set_ne false (Ne.symm hj)] at h
      refine ⟨by simpa using I.size, hS, ?_, ?_, ?_, ?_, ?_⟩
      · rw [← I.tsize]; cases o.dst <;> simp [Act.put]
      · rw [← I.defers]; cases o.dst <;> rfl
      · intro j oj hj hjl e he hb
        by_cases hji : j = i
        · subst hji
          rw [ho] at hj; cases hj
          exact getD_set_true (hall e he hb)
        · exact getD_set_true (I.closed j oj hj (back j hji hjl) e he hb)
      · intro j hjl oj hj
        by_cases hji : j = i
        · subst hji
          rw [ho] at hj; cases hj
          exact ⟨v, fun d hd => by rw [hd]; exact eval_put_same (by rw [I.tsize]; exact hd1 d hd), hT⟩
        · obtain ⟨u, hu, hTu⟩ := I.done j (back j hji hjl) oj hj
          refine ⟨u, fun d hd => ?_, stab j u hTu⟩
          rw [eval_put_ne (fun h => hd3 j oj d hj hji h hd)]
          exact hu d hd
      · intro s hs
        rw [eval_put_ne (hs i o ho (getD_set_self hlt))]
        exact I.kept s fun j oj hj hjl => hs j oj hj (getD_set_true hjl)
    unfold wpOp
    rw [ho]
    show if Region.wanted o (yielded ops a.tmps) = true then _ else _
    split
    · rename_i hw
      rw [if_pos hw] at H
      exact .inl (does_wp H fun v w' ⟨h1, h2, h3⟩ => ih _ _ _ hcount (next v w' h1 (.inr h2) h3))
    · rename_i hw
      rw [if_neg hw] at H
      exact ih _ _ _ hcount (next undef w H (.inl rfl) I.hS)

theorem left_replicate (n : Nat) : left (Array.replicate n false) ≤ n := by
  unfold left
  refine Nat.le_trans (List.length_filter_le _ _) ?_
  simp

theorem rep_false {n j : Nat} (h : (Array.replicate n false).getD j false = true) : False := by
  by_cases hj : j < n
  · simp [hj] at h
  · simp [Array.getElem?_eq_none (show (Array.replicate n false).size ≤ j by simp; omega)] at h

theorem wp_region_T {id : Nat} {a0 : Act} {w0 : World} (hm : P.follows .mixedOrders = true) (hB : regB ops a0.tmps.size = true) (S : World → Prop) (G : World → World → Prop) (T : Nat → Value → World → Prop)
    (hst : ∀ j v w w', T j v w → G w w' → T j v w') (hS : S w0.drew)
    (hop : ∀ i o, ops[i]? = some o → ∀ a w, S w → (∀ e ∈ o.after, Region.binds .any e = true → Done ops T a w e.on) → (∀ s, fixedB ops i s = true → a.eval (.tmp s) = a0.eval (.tmp s)) →
      if Region.wanted o (yielded ops a.tmps) = true then does P o a.eval w (fun v w' => T i v w' ∧ G w w' ∧ S w') else T i undef w)
    (hQ : ∀ a w, S w → a.tmps.size = a0.tmps.size → a.defers = a0.defers → (∀ j, Done ops T a w j) → (∀ s, freeB ops s = true → a.eval (.tmp s) = a0.eval (.tmp s)) → Q .normal a w) :
    (Code.region id ops true).wp P Q a0 w0 := by
  refine wp_region_any hm (inv_any hB hst hop hQ ops.size _ a0 _ (left_replicate _) ⟨by simp, hS, rfl, rfl, ?_, ?_, fun _ _ => rfl⟩)
  · intro j o hj hl
    exact (rep_false hl).elim
  · intro j hl
    exact (rep_false hl).elim
end
end Go.Proofs.Ytkojbpifcflgfaa
