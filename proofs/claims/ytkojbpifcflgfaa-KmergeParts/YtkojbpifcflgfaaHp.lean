/- Heaps in plain arrays: what swaps upward and downward leave. Conditions: those of each theorem. -/
import Derived.Sort.LotA
namespace Go.Proofs.Ytkojbpifcflgfaa
open Go.Sort
variable {α : Type} [Inhabited α] {lt : α → α → Bool}

/-- The first n are a heap: none is less than the one above it. -/
def Hp (lt : α → α → Bool) (n : Nat) (d : Array α) : Prop := ∀ k, 0 < k → k < n → lt d[k]! d[(k - 1) / 2]! = false
/-- A heap but for place j, which may be less than the one above it. -/
def HpUp (lt : α → α → Bool) (n j : Nat) (d : Array α) : Prop :=
  (∀ k, 0 < k → k < n → k ≠ j → lt d[k]! d[(k - 1) / 2]! = false) ∧ (∀ k, 0 < k → k < n → (k - 1) / 2 = j → 0 < j → lt d[k]! d[(j - 1) / 2]! = false)
/-- A heap but for place i, than which those below it may be less. -/
def HpDn (lt : α → α → Bool) (n i : Nat) (d : Array α) : Prop :=
  (∀ k, 0 < k → k < n → (k - 1) / 2 ≠ i → lt d[k]! d[(k - 1) / 2]! = false) ∧ (∀ k, 0 < k → k < n → (k - 1) / 2 = i → 0 < i → lt d[k]! d[(i - 1) / 2]! = false)

theorem hp_root (hO : SWO lt) {n : Nat} {d : Array α} (h : Hp lt n d) : ∀ k, k < n → lt d[k]! d[0]! = false
  | 0, _ => hO.irrefl _
  | k + 1, hk => hO.ntrans _ _ _ (h (k + 1) (by omega) hk) (hp_root hO h ((k + 1 - 1) / 2) (by omega))
theorem hp_mono {n m : Nat} {d : Array α} (h : Hp lt n d) (hm : m ≤ n) : Hp lt m d := fun k h0 hk => h k h0 (by omega)
theorem up_stop0 {n : Nat} {d : Array α} (h : HpUp lt n 0 d) : Hp lt n d := fun k h0 hk => h.1 k h0 hk (by omega)
theorem up_stop {n j : Nat} {d : Array α} (h : HpUp lt n j d) (hs : lt d[j]! d[(j - 1) / 2]! = false) : Hp lt n d := fun k h0 hk => by
  by_cases e : k = j
  · subst e; exact hs
  · exact h.1 k h0 hk e
theorem up_go (hO : SWO lt) {n j : Nat} {d : Array α} (hn : n ≤ d.size) (hj : j < n) (h0 : 0 < j) (h : HpUp lt n j d) (hs : lt d[j]! d[(j - 1) / 2]! = true) : HpUp lt n ((j - 1) / 2) (swp d ((j - 1) / 2) j) := by
  obtain ⟨p, hp⟩ : ∃ p, p = (j - 1) / 2 := ⟨_, rfl⟩
  rw [← hp] at hs ⊢
  have hg := swp_get d (i := p) (j := j) (by omega) (by omega)
  have hsa := hO.asymmA hs
  refine ⟨fun k hk0 hk hkp => ?_, fun k hk0 hk hkp hp0 => ?_⟩
  · rw [hg, hg]
    by_cases e : k = j
    · subst e
      rw [if_pos rfl, ← hp, if_neg (by omega), if_pos rfl]; exact hsa
    · rw [if_neg e, if_neg hkp]
      by_cases e1 : (k - 1) / 2 = j
      · rw [if_pos e1]
        have := h.2 k hk0 hk e1 h0
        rw [← hp] at this; exact this
      · rw [if_neg e1]
        by_cases e2 : (k - 1) / 2 = p
        · rw [if_pos e2]
          have h1 := h.1 k hk0 hk e
          rw [e2] at h1
          exact hO.ntrans _ _ _ h1 hsa
        · rw [if_neg e2]; exact h.1 k hk0 hk e
  · rw [hg, hg, if_neg (show (p - 1) / 2 ≠ j by omega), if_neg (show (p - 1) / 2 ≠ p by omega)]
    have h1 := h.1 p hp0 (by omega) (by omega)
    by_cases e : k = j
    · subst e; rw [if_pos rfl]; exact h1
    · rw [if_neg e, if_neg (by omega)]
      have h2 := h.1 k hk0 hk e
      rw [hkp] at h2
      exact hO.ntrans _ _ _ h2 h1
/-- A heap with one more behind it. -/
theorem up_start {n : Nat} {d : Array α} (h : Hp lt n d) : HpUp lt (n + 1) n d := ⟨fun k h0 hk hn => h k h0 (by omega), fun k h0 hk hn hj => by omega⟩

theorem dn_stop {n i : Nat} {d : Array α} (h : HpDn lt n i d) (hs : ∀ k, 0 < k → k < n → (k - 1) / 2 = i → lt d[k]! d[i]! = false) : Hp lt n d := fun k h0 hk => by
  by_cases e : (k - 1) / 2 = i
  · rw [e]; exact hs k h0 hk e
  · exact h.1 k h0 hk e
theorem dn_go (hO : SWO lt) {n i j : Nat} {d : Array α} (hn : n ≤ d.size) (hj0 : 0 < j) (hj : j < n) (hp : (j - 1) / 2 = i) (h : HpDn lt n i d) (hs : lt d[j]! d[i]! = true) (hb : ∀ k, 0 < k → k < n → (k - 1) / 2 = i → lt d[k]! d[j]! = false) : HpDn lt n j (swp d i j) := by
  have hg := swp_get d (i := i) (j := j) (by omega) (by omega)
  have hsa := hO.asymmA hs
  refine ⟨fun k hk0 hk hkp => ?_, fun k hk0 hk hkp hp0 => ?_⟩
  · rw [hg, hg, if_neg hkp]
    by_cases e : k = j
    · subst e
      rw [if_pos rfl, if_pos hp]; exact hsa
    · rw [if_neg e]
      by_cases e1 : (k - 1) / 2 = i
      · rw [if_pos e1, if_neg (by omega)]
        exact hb k hk0 hk e1
      · rw [if_neg e1]
        by_cases e2 : k = i
        · subst e2
          rw [if_pos rfl]
          exact h.2 j hj0 hj hp hk0
        · rw [if_neg e2]; exact h.1 k hk0 hk e1
  · rw [hg, hg, hp, if_neg (by omega), if_neg (by omega), if_neg (by omega), if_pos rfl]
    have := h.1 k hk0 hk (by omega)
    rw [hkp] at this; exact this
/-- A heap whose first is another one. -/
theorem dn_start {n : Nat} {d d' : Array α} (h : Hp lt n d) (he : ∀ k, 0 < k → k < n → d'[k]! = d[k]!) : HpDn lt n 0 d' :=
  ⟨fun k h0 hk hp => by rw [he k h0 hk, he _ (by omega) (by omega)]; exact h k h0 hk, fun k h0 hk hp hi => by omega⟩
end Go.Proofs.Ytkojbpifcflgfaa
