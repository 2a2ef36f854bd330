/- The frame behind a statement that leaves its order open, written out. -/
import Derived.Test.YtkojbpifcflgfaaY
namespace Go.Proofs.Ytkojbpifcflgfaa
open Go.RowKit
theorem act_eq {a b : Act} (hs : a.tmps.size = b.tmps.size) (hd : a.defers = b.defers) (h : ∀ s, s < b.tmps.size → a.eval (.tmp s) = b.eval (.tmp s)) : a = b := by
  obtain ⟨ta, da⟩ := a
  obtain ⟨tb, db⟩ := b
  simp only at hs hd h
  subst hd
  congr 1
  apply Array.ext hs
  intro i h1 h2
  have := h i h2
  simpa [Act.eval, h1, h2] using this
def putAll (a : Act) (b : Act) (l : List Oper) : Act := l.foldl (fun b o => b.put o.dst (match o.dst with | some d => a.eval (.tmp d) | none => undef)) b
theorem putAll_size (a : Act) : ∀ (l : List Oper) (b : Act), (putAll a b l).tmps.size = b.tmps.size ∧ (putAll a b l).defers = b.defers
  | [], b => ⟨rfl, rfl⟩
  | o :: l, b => by
    have := putAll_size a l (b.put o.dst (match o.dst with | some d => a.eval (.tmp d) | none => undef))
    unfold putAll at *
    rw [List.foldl_cons]
    refine ⟨this.1.trans ?_, this.2.trans ?_⟩
    · cases o.dst <;> simp [Act.put]
    · cases o.dst <;> rfl
theorem putAll_eval (a : Act) (s : Nat) : ∀ (l : List Oper) (b : Act), s < b.tmps.size → ((∃ o ∈ l, o.dst = some s) ∨ b.eval (.tmp s) = a.eval (.tmp s)) → (putAll a b l).eval (.tmp s) = a.eval (.tmp s)
  | [], b, _, h => by
    rcases h with ⟨o, ho, _⟩ | h
    · cases ho
    · exact h
  | o :: l, b, hs, h => by
    unfold putAll
    rw [List.foldl_cons]
    refine putAll_eval a s l _ ?_ ?_
    · cases o.dst <;> simp [Act.put, hs]
    · by_cases hd : o.dst = some s
      · rw [hd]; exact .inr (eval_put_same hs)
      · rcases h with ⟨o', ho', hd'⟩ | h
        · rcases List.mem_cons.1 ho' with rfl | ho'
          · exact absurd hd' hd
          · exact .inl ⟨o', ho', hd'⟩
        · exact .inr (by rw [eval_put_ne hd]; exact h)
/-- The frame behind the statement, written out. -/
theorem act_puts {l : List Oper} {a a0 : Act} (hs : a.tmps.size = a0.tmps.size) (hd : a.defers = a0.defers) (hf : ∀ s, freeB l.toArray s = true → a.eval (.tmp s) = a0.eval (.tmp s)) : a = putAll a a0 l := by
  have hp := putAll_size a l a0
  refine act_eq (hs.trans hp.1.symm) (hd.trans hp.2.symm) fun s hs' => (putAll_eval a s l a0 (by rw [← hp.1]; exact hs') ?_).symm
  by_cases h : ∃ o ∈ l, o.dst = some s
  · exact .inl h
  · refine .inr (hf s ?_).symm
    simp only [freeB, List.all_eq_true, List.mem_range]
    intro j hj
    cases ho : l.toArray[j]? with
    | none => rfl
    | some o =>
      have hm : o ∈ l := List.mem_of_getElem? (by simpa using ho)
      simp only [bne_iff_ne]
      exact fun e => h ⟨o, hm, e⟩
theorem wanted_undef {ops : Array Oper} {o : Oper} {a : Act} {g d : Nat} {b : Bool} (h : o.guard = some (g, b)) (hd : (ops[g]?).bind (·.dst) = some d) (hv : a.eval (.tmp d) = undef) : ¬ Region.wanted o (yielded ops a.tmps) = true := by
  cases h' : a.tmps[d]? with
  | none => simp [Region.wanted, h, yielded, hd, h']
  | some x =>
    have hx : x = undef := by simpa [Act.eval, h'] using hv
    subst hx
    simp [Region.wanted, h, yielded, hd, h', undef]
end Go.Proofs.Ytkojbpifcflgfaa
