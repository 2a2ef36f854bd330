/- The law for a statement that leaves its order open, in its wide form: what lies in memory may depend on which operations are through; and the same inside a round of a loop over a function. Conditions: those of each theorem. -/
import Derived.Test.YtkojbpifcflgfaaY
import Derived.OrdersIn
import Derived.RangeFuncCalls
namespace Go.Proofs.Ytkojbpifcflgfaa
open Go.RowKit

def lf (listed : Array Bool) (j : Nat) : Bool := listed.getD j false
def updL (L : Nat → Bool) (i : Nat) : Nat → Bool := fun j => if j = i then true else L j

/-- What is told of the operations that are through when number i comes up. -/
structure AtL (ops : Array Oper) (T : Nat → Value → World → Prop) (a0 : Act) (L : Nat → Bool) (i : Nat) (o : Oper) (a : Act) (w : World) : Prop where
  un : L i = false
  bef : ∀ e ∈ o.after, Region.binds .any e = true → L e.on = true ∧ Done ops T a w e.on
  aft : ∀ j o', ops[j]? = some o' → (∃ e ∈ o'.after, Region.binds .any e = true ∧ e.on = i) → L j = false
  fix : ∀ s, fixedB ops i s = true → a.eval (.tmp s) = a0.eval (.tmp s)

structure InvL (ops : Array Oper) (S : (Nat → Bool) → World → Prop) (T : Nat → Value → World → Prop) (a0 : Act) (listed : Array Bool) (a : Act) (w : World) : Prop where
  size : listed.size = ops.size
  hS : S (lf listed) w
  tsize : a.tmps.size = a0.tmps.size
  defers : a.defers = a0.defers
  closed : ∀ j o, ops[j]? = some o → listed.getD j false = true → ∀ e ∈ o.after, Region.binds .any e = true → listed.getD e.on false = true
  done : ∀ j, listed.getD j false = true → Done ops T a w j
  kept : ∀ s, (∀ j o, ops[j]? = some o → listed.getD j false = true → o.dst ≠ some s) → a.eval (.tmp s) = a0.eval (.tmp s)

theorem lf_set {listed : Array Bool} {i : Nat} (h : i < listed.size) : lf (listed.setIfInBounds i true) = updL (lf listed) i := by
  funext j
  unfold lf updL
  by_cases hj : j = i
  · subst hj; rw [if_pos rfl]; exact getD_set_self h
  · rw [if_neg hj, getD_set_ne false (Ne.symm hj)]

section
variable {P : Program} {ops : Array Oper} {Q : Exit → Act → World → Prop}

theorem inv_gen {S : (Nat → Bool) → World → Prop} {T : Nat → Value → World → Prop} {a0 : Act} (hB : regB ops a0.tmps.size = true)
    (any : Nat → Array Bool → Act → World → Prop) (wpo : Nat → (Act → World → Prop) → Act → World → Prop)
    (hz : ∀ listed a w, Region.ready .any ops listed = [] → Q .normal a w → any 0 listed a w)
    (hs : ∀ fuel listed a w, (Region.ready .any ops listed = [] → Q .normal a w) → (∀ i ∈ Region.ready .any ops listed, wpo i (any fuel (listed.setIfInBounds i true)) a w) → any (fuel + 1) listed a w)
    (hdo : ∀ i o a w K Post, ops[i]? = some o → (if Region.wanted o (yielded ops a.tmps) = true then does P o a.eval w Post else Post undef w) → (∀ v w', Post v w' → K (a.put o.dst v) w') → wpo i K a w)
    (hop : ∀ i o, ops[i]? = some o → ∀ L a w, S L w → AtL ops T a0 L i o a w →
      if Region.wanted o (yielded ops a.tmps) = true then does P o a.eval w (fun v w' => T i v w' ∧ S (updL L i) w' ∧ ∀ j u, L j = true → T j u w → T j u w') else T i undef w ∧ S (updL L i) w)
    (hQ : ∀ a w L, S L w → (∀ j, j < ops.size → L j = true) → a.tmps.size = a0.tmps.size → a.defers = a0.defers → (∀ j, Done ops T a w j) → (∀ s, freeB ops s = true → a.eval (.tmp s) = a0.eval (.tmp s)) → Q .normal a w) :
    ∀ (fuel : Nat) (listed : Array Bool) (a : Act) (w : World), left listed ≤ fuel → InvL ops S T a0 listed a w → any fuel listed a w := by
  have fin : ∀ (listed : Array Bool) (a : Act) (w : World), InvL ops S T a0 listed a w → Region.ready .any ops listed = [] → Q .normal a w := by
    intro listed a w I hr
    have hall := all_listed I.size hB hr
    exact hQ a w (lf listed) I.hS hall I.tsize I.defers (fun j o ho => I.done j (hall j (Array.getElem?_eq_some_iff.1 ho).1) o ho) fun s hs => I.kept s fun j o hj _ => free_spec hs hj
  intro fuel
  induction fuel with
  | zero =>
    intro listed a w hl I
    have hr : Region.ready .any ops listed = [] := by
      cases h : Region.ready .any ops listed with
      | nil => rfl
      | cons i rs =>
        exfalso
        have hi : i ∈ Region.ready .any ops listed := by rw [h]; simp
        have h0 := get_false_of (mem_ready.1 hi).1
        have : false ∈ listed.toList.filter (fun b => !b) := List.mem_filter.2 ⟨List.mem_of_getElem? (by simpa using h0), rfl⟩
        have := List.length_pos_of_mem this
        unfold left at hl; omega
    exact hz listed a w hr (fin listed a w I hr)
  | succ fuel ih =>
    intro listed a w hl I
    refine hs fuel listed a w (fin listed a w I) fun i hi => ?_
    obtain ⟨hun, o, ho, hall⟩ := mem_ready.1 hi
    have hlt : i < listed.size := by rw [I.size]; exact (Array.getElem?_eq_some_iff.1 ho).1
    have hcount : left (listed.setIfInBounds i true) ≤ fuel := by
      have := left_set listed.toList i (by simpa using get_false_of hun)
      unfold left at *
      simp only [Array.toList_setIfInBounds]
      omega
    have hlf : listed.getD i false ≠ true := by
      have := get_false_of hun
      simp [this]
    have hun' : lf listed i = false := by
      cases h : lf listed i
      · rfl
      · exact absurd h hlf
    have aft : ∀ j o', ops[j]? = some o' → (∃ e ∈ o'.after, Region.binds .any e = true ∧ e.on = i) → lf listed j = false := by
      rintro j o' hj ⟨e, he, hb, hei⟩
      cases h : lf listed j
      · rfl
      · have := I.closed j o' hj h e he hb
        rw [hei] at this
        exact absurd this hlf
    have fix : ∀ s, fixedB ops i s = true → a.eval (.tmp s) = a0.eval (.tmp s) := fun s hs => I.kept s fun j oj hj hjl hd => by
      by_cases hji : j = i
      · subst hji; exact hlf hjl
      · obtain ⟨e, he, hb, hei⟩ := fixed_spec hs hj hji hd
        have := I.closed j oj hj hjl e he hb
        rw [hei] at this
        exact hlf this
    have H := hop i o ho (lf listed) a w I.hS ⟨hun', fun e he hb => ⟨hall e he hb, I.done e.on (hall e he hb)⟩, aft, fix⟩
    obtain ⟨hd1, hd2, hd3⟩ := reg_spec hB ho
    have next : ∀ v w', T i v w' → S (updL (lf listed) i) w' → (∀ j u, lf listed j = true → T j u w → T j u w') → InvL ops S T a0 (listed.setIfInBounds i true) (a.put o.dst v) w' := by
      intro v w' hT hS stab
      have back : ∀ j, j ≠ i → (listed.setIfInBounds i true).getD j false = true → listed.getD j false = true := fun j hj h => by
        rwa [getD_set_ne false (Ne.symm hj)] at h
      refine ⟨by simpa using I.size, by rw [lf_set hlt]; exact hS, ?_, ?_, ?_, ?_, ?_⟩
      · rw [← I.tsize]; cases o.dst <;> simp [Act.put]
      · rw [← I.defers]; cases o.dst <;> rfl
      · intro j oj hj hjl e he hb
        by_cases hji : j = i
        · subst hji
          rw [ho] at hj; cases hj
          exact getD_set_true (hall e he hb)
        · exact getD_set_true (I.closed j oj hj (back j hji hjl) e he hb)
      · intro j hjl oj hj
        by_cases hji : j = i
        · subst hji
          rw [ho] at hj; cases hj
          exact ⟨v, fun d hd => by rw [hd]; exact eval_put_same (by rw [I.tsize]; exact hd1 d hd), hT⟩
        · obtain ⟨u, hu, hTu⟩ := I.done j (back j hji hjl) oj hj
          refine ⟨u, fun d hd => ?_, stab j u (back j hji hjl) hTu⟩
          rw [eval_put_ne (fun h => hd3 j oj d hj hji h hd)]
          exact hu d hd
      · intro s hs
        rw [eval_put_ne (hs i o ho (getD_set_self hlt))]
        exact I.kept s fun j oj hj hjl => hs j oj hj (getD_set_true hjl)
    refine hdo i o a w _ (fun v w' => T i v w' ∧ S (updL (lf listed) i) w' ∧ ∀ j u, lf listed j = true → T j u w → T j u w') ho ?_ fun v w' ⟨h1, h2, h3⟩ => ih _ _ _ hcount (next v w' h1 h2 h3)
    split
    · rename_i hw
      rw [if_pos hw] at H
      exact H
    · rename_i hw
      rw [if_neg hw] at H
      exact ⟨H.1, H.2, fun _ _ _ h => h⟩

theorem invL_start {S : (Nat → Bool) → World → Prop} {T : Nat → Value → World → Prop} {a0 : Act} {w : World} (hS : S (fun _ => false) w) : InvL ops S T a0 (Array.replicate ops.size false) a0 w := by
  have e : lf (Array.replicate ops.size false) = fun _ => false := by
    funext j
    cases h : lf (Array.replicate ops.size false) j
    · rfl
    · exact (rep_false h).elim
  exact ⟨by simp, by rw [e]; exact hS, rfl, rfl, fun _ _ _ hl => (rep_false hl).elim, fun _ hl => (rep_false hl).elim, fun _ _ => rfl⟩

theorem wp_region_L {id : Nat} {a0 : Act} {w0 : World} (hm : P.follows .mixedOrders = true) (hB : regB ops a0.tmps.size = true) (S : (Nat → Bool) → World → Prop) (T : Nat → Value → World → Prop) (hS : S (fun _ => false) w0.drew)
    (hop : ∀ i o, ops[i]? = some o → ∀ L a w, S L w → AtL ops T a0 L i o a w →
      if Region.wanted o (yielded ops a.tmps) = true then does P o a.eval w (fun v w' => T i v w' ∧ S (updL L i) w' ∧ ∀ j u, L j = true → T j u w → T j u w') else T i undef w ∧ S (updL L i) w)
    (hQ : ∀ a w L, S L w → (∀ j, j < ops.size → L j = true) → a.tmps.size = a0.tmps.size → a.defers = a0.defers → (∀ j, Done ops T a w j) → (∀ s, freeB ops s = true → a.eval (.tmp s) = a0.eval (.tmp s)) → Q .normal a w) :
    (Code.region id ops true).wp P Q a0 w0 := by
  refine wp_region_any hm (inv_gen hB (wpAny P .any ops Q) (fun i K a w => wpOp P ops Q i K a w) (fun _ _ _ h1 h2 => ⟨h1, h2⟩) (fun _ _ _ _ h1 h2 => ⟨h1, h2⟩) ?_ hop hQ ops.size _ a0 _ (left_replicate _) (invL_start hS))
  intro i o a w K Post ho h hK
  unfold wpOp
  rw [ho]
  show if Region.wanted o (yielded ops a.tmps) = true then _ else _
  split
  · rename_i hw; rw [if_pos hw] at h; exact .inl (does_wp h hK)
  · rename_i hw; rw [if_neg hw] at h; exact hK _ _ h

def nodefB (ops : Array Oper) : Bool := ops.all fun o => match o.op with | .defer .. => false | _ => true
theorem nodef_spec (h : nodefB ops = true) {j : Nat} {o : Oper} (ho : ops[j]? = some o) : ∀ c, o.op ≠ .defer c := by
  intro c heq
  have := Array.all_eq_true_iff_forall_mem.1 h o (Array.mem_of_getElem? ho)
  simp [heq] at this

theorem does_wpIn {F : Fence} {n : Nat} (hfn : ∀ f, F.fn f) (hd : F.depth = none) (hc : ∀ m f args w R, Calls P f args w R → CallsIn F m P f args w R) {o : Oper} (hnd : ∀ c, o.op ≠ .defer c) {a : Act} {w : World} {Post : Value → World → Prop} {K : Act → World → Prop}
    (h : does P o a.eval w Post) (hK : ∀ v w', Post v w' → K (a.put o.dst v) w') : o.wpIn F n P a w K Q := by
  refine ⟨fun f _ => hfn f, ?_⟩
  have e : o.semAt F.round a.eval = execOp a.eval o := by
    cases F.round with
    | none => rfl
    | some l => exact Oper.semAt_some l _ o hnd
  rw [e]
  unfold does at h
  generalize (execOp a.eval o).run P w = r at *
  cases r with
  | ok x w' =>
    cases x with
    | value v => exact hK _ _ h
    | skip => exact hK _ _ h
    | enter f args =>
      refine ⟨fun hs => (by rw [hd] at hs; cases hs), hc _ _ _ _ _ (Calls.mono h ?_)⟩
      rintro e w'' ⟨v, rfl, hp⟩
      exact hK _ _ hp
    | _ => exact h.elim
  | halt x w' => exact h.elim

theorem wpIn_region_L {F : Fence} {n : Nat} (hfn : ∀ f, F.fn f) (hd : F.depth = none) (hc : ∀ m f args w R, Calls P f args w R → CallsIn F m P f args w R) (hnd : nodefB ops = true) {id : Nat} {a0 : Act} {w0 : World} (hm : P.follows .mixedOrders = true) (hB : regB ops a0.tmps.size = true) (S : (Nat → Bool) → World → Prop) (T : Nat → Value → World → Prop) (hS : S (fun _ => false) w0.drew)
    (hop : ∀ i o, ops[i]? = some o → ∀ L a w, S L w → AtL ops T a0 L i o a w →
      if Region.wanted o (yielded ops a.tmps) = true then does P o a.eval w (fun v w' => T i v w' ∧ S (updL L i) w' ∧ ∀ j u, L j = true → T j u w → T j u w') else T i undef w ∧ S (updL L i) w)
    (hQ : ∀ a w L, S L w → (∀ j, j < ops.size → L j = true) → a.tmps.size = a0.tmps.size → a.defers = a0.defers → (∀ j, Done ops T a w j) → (∀ s, freeB ops s = true → a.eval (.tmp s) = a0.eval (.tmp s)) → Q .normal a w) :
    (Code.region id ops true).wpIn F n P Q a0 w0 := by
  refine wpIn_region_any hm (inv_gen hB (wpAnyIn F n P .any ops Q) (fun i K a w => wpOpIn F n P ops Q i K a w) (fun _ _ _ h1 h2 => ⟨h1, h2⟩) (fun _ _ _ _ h1 h2 => ⟨h1, h2⟩) ?_ hop hQ ops.size _ a0 _ (left_replicate _) (invL_start hS))
  intro i o a w K Post ho h hK
  unfold wpOpIn
  rw [ho]
  show if Region.wanted o (yielded ops a.tmps) = true then _ else _
  split
  · rename_i hw; rw [if_pos hw] at h; exact does_wpIn hfn hd hc (nodef_spec hnd ho) h hK
  · rename_i hw; rw [if_neg hw] at h; exact ⟨fun f _ => hfn f, hK _ _ h⟩
end

def ObL (P : Program) (ops : Array Oper) (S : (Nat → Bool) → World → Prop) (T : Nat → Value → World → Prop) (a0 : Act) (i : Nat) (o : Oper) : Prop :=
  ∀ L a w, S L w → AtL ops T a0 L i o a w →
    if Region.wanted o (yielded ops a.tmps) = true then does P o a.eval w (fun v w' => T i v w' ∧ S (updL L i) w' ∧ ∀ j u, L j = true → T j u w → T j u w') else T i undef w ∧ S (updL L i) w
def AllL (P : Program) (ops : Array Oper) (S : (Nat → Bool) → World → Prop) (T : Nat → Value → World → Prop) (a0 : Act) : Nat → List Oper → Prop
  | _, [] => True
  | i, o :: rest => ObL P ops S T a0 i o ∧ AllL P ops S T a0 (i + 1) rest
section
variable {P : Program} {ops : Array Oper} {S : (Nat → Bool) → World → Prop} {T : Nat → Value → World → Prop} {a0 : Act}
theorem allL_nil {i : Nat} : AllL P ops S T a0 i [] := trivial
theorem allL_cons {i : Nat} {o : Oper} {rest : List Oper} (h : ObL P ops S T a0 i o) (hr : AllL P ops S T a0 (i + 1) rest) : AllL P ops S T a0 i (o :: rest) := ⟨h, hr⟩
theorem allL_get : ∀ (l : List Oper) (k : Nat), AllL P ops S T a0 k l → ∀ i o, l[i]? = some o → ObL P ops S T a0 (k + i) o
  | [], _, _, i, o, h => by simp at h
  | x :: l, k, hA, 0, o, h => by simp at h; subst h; exact hA.1
  | x :: l, k, hA, i + 1, o, h => by
    have := allL_get l (k + 1) hA.2 i o (by simpa using h)
    rwa [show k + 1 + i = k + (i + 1) by omega] at this

theorem wpIn_region_K {F : Fence} {n : Nat} (hfn : ∀ f, F.fn f) (hd : F.depth = none) (hc : ∀ m f args w R, Calls P f args w R → CallsIn F m P f args w R) {l : List Oper} {Q : Exit → Act → World → Prop} (hnd : nodefB l.toArray = true) {id : Nat} {w0 : World} (hm : P.follows .mixedOrders = true) (hB : regB l.toArray a0.tmps.size = true)
    (S : (Nat → Bool) → World → Prop) (T : Nat → Value → World → Prop) (hS : S (fun _ => false) w0.drew) (hA : AllL P l.toArray S T a0 0 l)
    (hQ : ∀ a w L, S L w → (∀ j, j < l.toArray.size → L j = true) → a.tmps.size = a0.tmps.size → a.defers = a0.defers → (∀ j, Done l.toArray T a w j) → (∀ s, freeB l.toArray s = true → a.eval (.tmp s) = a0.eval (.tmp s)) → Q .normal a w) :
    (Code.region id l.toArray true).wpIn F n P Q a0 w0 := by
  refine wpIn_region_L hfn hd hc hnd hm hB S T hS ?_ hQ
  intro i o hi L a w h1 h2
  have H := allL_get l 0 hA i o (by simpa using hi)
  rw [Nat.zero_add] at H
  exact H L a w h1 h2

theorem AtL.slot {L : Nat → Bool} {i : Nat} {o : Oper} {a : Act} {w : World} (h : AtL ops T a0 L i o a w) (k j d : Nat) (hk : (o.after[k]?).map (fun e => (e.on, Region.binds .any e)) = some (j, true)) (hd : (ops[j]?).bind (·.dst) = some d) : T j (a.eval (.tmp d)) w := by
  obtain ⟨e, he, h2⟩ := Option.map_eq_some_iff.1 hk
  simp only [Prod.mk.injEq] at h2
  obtain ⟨rfl, hbd⟩ := h2
  obtain ⟨oj, hj, hdj⟩ := Option.bind_eq_some_iff.1 hd
  obtain ⟨v, hv, hT⟩ := (h.bef e (Array.mem_of_getElem? he) hbd).2 oj hj
  rw [hv d hdj]
  exact hT
theorem AtL.on {L : Nat → Bool} {i : Nat} {o : Oper} {a : Act} {w : World} (h : AtL ops T a0 L i o a w) (k j : Nat) (hk : (o.after[k]?).map (fun e => (e.on, Region.binds .any e)) = some (j, true)) : L j = true := by
  obtain ⟨e, he, h2⟩ := Option.map_eq_some_iff.1 hk
  simp only [Prod.mk.injEq] at h2
  obtain ⟨rfl, hbd⟩ := h2
  exact (h.bef e (Array.mem_of_getElem? he) hbd).1
theorem AtL.off {L : Nat → Bool} {i : Nat} {o : Oper} {a : Act} {w : World} (h : AtL ops T a0 L i o a w) (j : Nat) (hj : ((ops[j]?).map fun o => o.after.any fun e => Region.binds .any e && e.on == i) = some true) : L j = false := by
  obtain ⟨oj, ho, h2⟩ := Option.map_eq_some_iff.1 hj
  obtain ⟨e, he, hb⟩ := Array.any_eq_true'.1 h2
  simp only [Bool.and_eq_true, beq_iff_eq] at hb
  exact h.aft j oj ho ⟨e, he, hb.1, hb.2⟩
/-- A step that leaves memory as it is. -/
theorem stay {i : Nat} {L : Nat → Bool} {w : World} {v : Value} (hS : S (updL L i) w) (hT : T i v w) : T i v w ∧ S (updL L i) w ∧ ∀ j u, L j = true → T j u w → T j u w := ⟨hT, hS, fun _ _ _ h => h⟩
theorem upd_ne {L : Nat → Bool} {i j : Nat} (h : j ≠ i) : updL L i j = L j := by simp [updL, h]
theorem upd_same {L : Nat → Bool} {i : Nat} : updL L i i = true := by simp [updL]
end

theorem wp_region_M {P : Program} {a0 : Act} {l : List Oper} {Q : Exit → Act → World → Prop} {id : Nat} {w0 : World} (hm : P.follows .mixedOrders = true) (hB : regB l.toArray a0.tmps.size = true)
    (S : (Nat → Bool) → World → Prop) (T : Nat → Value → World → Prop) (hS : S (fun _ => false) w0.drew) (hA : AllL P l.toArray S T a0 0 l)
    (hQ : ∀ a w L, S L w → (∀ j, j < l.toArray.size → L j = true) → a.tmps.size = a0.tmps.size → a.defers = a0.defers → (∀ j, Done l.toArray T a w j) → (∀ s, freeB l.toArray s = true → a.eval (.tmp s) = a0.eval (.tmp s)) → Q .normal a w) :
    (Code.region id l.toArray true).wp P Q a0 w0 := by
  refine wp_region_L hm hB S T hS ?_ hQ
  intro i o hi L a w h1 h2
  have H := allL_get l 0 hA i o (by simpa using hi)
  rw [Nat.zero_add] at H
  exact H L a w h1 h2

end Go.Proofs.Ytkojbpifcflgfaa
