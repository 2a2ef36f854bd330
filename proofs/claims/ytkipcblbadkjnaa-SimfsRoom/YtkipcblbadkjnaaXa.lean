/- The paths in order, and the contract of rising's iterator: each path comes once, rising. Conditions: those of each theorem. -/
import Derived.Test.YtkipcblbadkjnaaQ
import Derived.Test.YtkipcblbadkjnaaXi
namespace Go.Proofs.Ytkipcblbadkjnaa
open Go.RowKit Go.Shelf Go.Sort Go.Maps
attribute [local go_sem] Oper.semAt_some

/-- These are the paths that there are, each once, in order. -/
def Pths (pm : ByteArray → Option Nat) (ys : List (List UInt8)) : Prop := ys.Pairwise (fun x y => leB x y = true) ∧ ys.Nodup ∧ ∀ x : List UInt8, x ∈ ys ↔ (pm ⟨x.toArray⟩).isSome = true
theorem Pths.uniq {pm : ByteArray → Option Nat} {ys zs : List (List UInt8)} (h : Pths pm ys) (k : Pths pm zs) : ys = zs := by
  have hp : ys.Perm zs := (List.perm_ext_iff_of_nodup h.2.1 k.2.1).2 fun x => (h.2.2 x).trans (k.2.2 x).symm
  refine List.Perm.eq_of_pairwise (le := fun a b => leB a b = true) (fun a b _ _ h1 h2 => ?_) h.1 k.1 hp
  simp only [leB, decide_eq_true_eq] at h1 h2
  exact List.le_antisymm h1 h2
theorem pths_of {w : World} {b n : Nat} {D : DataW Nat} {m : ByteArray → Option Nat} (hown : w.ownsMap Try.prog 9 ptrElem b n D) (hD : ∀ s, D.atKey (kl s) .nil = rdp (m s) ∧ Maps.has D (kl s) = (m s).isSome) {ss : List (List UInt8)} (hp : ss.Perm (strKeys D)) : Pths m (ss.mergeSort leB) ∧ (ss.mergeSort leB).length = Maps.size D := by
  obtain ⟨es, hDe, hpw, _⟩ := hown.entries (Maps.string_keyed Try.underlying9)
  obtain ⟨es', hD', hko⟩ := hown.keysOf
  obtain rfl : es = es' := by rw [hDe] at hD'; simpa using hD'
  subst hDe
  have hk : ∀ p ∈ es, ∃ x, p.1 = .string x := fun p hp => by obtain ⟨v, hv⟩ := hko p hp; obtain ⟨x, _, hx, _⟩ := Maps.keyOf_str Try.underlying9 hv; exact ⟨x, hx⟩
  have hnd : (strKeys (.map es)).Nodup := by
    refine List.pairwise_map.2 (hpw.imp_of_mem fun {p q} hp' hq' hne e => hne ?_)
    obtain ⟨a, ha⟩ := hk p hp'
    obtain ⟨b, hb⟩ := hk q hq'
    rw [ha, hb] at e ⊢
    exact congrArg _ e
  have hm : ∀ x, x ∈ strKeys (.map es) ↔ Maps.has (.map es) (.string x) = true := fun x => by
    rw [Maps.has_eq, List.any_eq_true]
    show x ∈ es.map (fun p => strOf p.1) ↔ _
    rw [List.mem_map]
    constructor
    · rintro ⟨p, hp', rfl⟩
      obtain ⟨a, ha⟩ := hk p hp'
      exact ⟨p, hp', by rw [ha]; simp [Lit.sameKey, strOf]⟩
    · rintro ⟨p, hp', hs⟩
      obtain ⟨a, ha⟩ := hk p hp'
      rw [ha] at hs
      exact ⟨p, hp', by rw [ha]; simpa [Lit.sameKey, strOf] using hs⟩
  have tr : ∀ a b c : List UInt8, leB a b = true → leB b c = true → leB a c = true := fun a b c h1 h2 => by simp only [leB, decide_eq_true_eq] at *; exact List.le_trans h1 h2
  have to : ∀ a b : List UInt8, (leB a b || leB b a) = true := fun a b => by simp only [leB, Bool.or_eq_true, decide_eq_true_eq]; exact List.le_total a b
  have hps := (List.mergeSort_perm ss leB).trans hp
  refine ⟨⟨List.pairwise_mergeSort tr to ss, hps.nodup_iff.2 hnd, fun x => ?_⟩, ?_⟩
  · rw [hps.mem_iff, hm x]
    have := (hD ⟨x.toArray⟩).2
    simp only [kl] at this
    rw [this]
  · rw [hps.length_eq]
    show (es.map _).length = es.length
    rw [List.length_map]

/-- The block of the row that a variable holds. -/
def rowOf (W : World) (B : Nat) : Option Nat := match W.cell? ⟨B, 0, none⟩ with
  | some (.slice (some a) _ _) => some a.block
  | _ => none
/-- Of all that is cells a round changes one variable, and the row that it holds. -/
structure Kr (B : Nat) (W W' : World) : Prop where
  size : W.heap.size ≤ W'.heap.size
  cells : ∀ k o, W.heap[k]? = some o → o.isCells = true → k ≠ B → rowOf W B ≠ some k → W'.heap[k]? = some o
  row : rowOf W' B = rowOf W B ∨ ∀ k, rowOf W' B = some k → W.heap.size ≤ k
theorem Kr.refl (B : Nat) (W : World) : Kr B W W := ⟨Nat.le_refl _, fun _ _ h _ _ _ => h, .inl rfl⟩
theorem Kr.trans {B : Nat} {X Y Z : World} (h : Kr B X Y) (k : Kr B Y Z) : Kr B X Z := by
  refine ⟨Nat.le_trans h.size k.size, fun i o hi ho hB hr => ?_, ?_⟩
  · refine k.cells i o (h.cells i o hi ho hB hr) ho hB (fun e => ?_)
    rcases h.row with h1 | h1
    · exact hr (h1 ▸ e)
    · have := h1 i e
      have := (Array.getElem?_eq_some_iff.1 hi).1
      omega
  · rcases k.row with k1 | k1
    · rw [k1]
      rcases h.row with h1 | h1
      · exact .inl h1
      · exact .inr h1
    · exact .inr fun i e => Nat.le_trans h.size (k1 i e)

theorem rising_any (b : Nat) (w : World) :
    Calls Try.prog 49 #[.pointer (some ⟨b, 0, none⟩)] w fun e w' => e = .returned (.func (.func 65) #[] #[.pointer (some ⟨w.heap.size, 0, none⟩)]) ∧ w' = w.alloc (.cells #[.pointer (some ⟨b, 0, none⟩)] 24) := by
  go_enter Try.func49, Try.ntmps49
  go_wp2
  go_ret
  exact ⟨rfl, rfl⟩

/-- slices.Sorted(maps.Keys(..)) of the paths. -/
theorem sorted_paths (o : Option Nat) (n : Nat) (m : ByteArray → Option Nat) (w : World) (hM : Mo w o n m) (hn : n ≤ 1000000) :
    Calls Try.prog 66 #[.func (.func 74) #[] #[.pointer (some ⟨w.heap.size, 0, none⟩)]] (w.alloc (.cells #[.map o] 64)) fun e w' => ∃ v ys, e = .returned v ∧ Pths m ys ∧ ys.length ≤ n ∧ w'.ownsRow (w.heap.size + 1) 9 1 v ys.length (ys.map encStr) ∧ Below (w.heap.size + 1) (w.alloc (.cells #[.map o] 64)) w' := by
  cases o with
  | none =>
    have e : m = fun _ => none := hM
    refine ((callsIn_wide (n := 5)).1 (Try.slices_Sorted_keys_nil_66_67 w)).mono ?_
    rintro e' w' ⟨v, ss, rfl, rfl, hrow, _, hb⟩
    simp only [World.size_alloc] at hrow hb
    refine ⟨v, [], rfl, ⟨List.Pairwise.nil, List.nodup_nil, fun x => by rw [e]; simp⟩, Nat.zero_le _, by simpa using hrow, hb⟩
  | some b =>
    obtain ⟨D, hown, hD⟩ := hM
    have hsz := hown.size_le
    refine ((callsIn_wide (n := 5)).1 (Try.slices_Sorted_keys_66_67 b n D ptrElem w hown (by unfold maxLen; omega) (by omega))).mono ?_
    rintro e' w' ⟨v, ss, rfl, hp, hrow, _, hb⟩
    simp only [World.size_alloc] at hrow hb
    obtain ⟨h1, h2⟩ := pths_of hown hD hp
    have hl : (ss.mergeSort leB).length = ss.length := (List.mergeSort_perm ss leB).length_eq
    exact ⟨v, ss.mergeSort leB, rfl, h1, by omega, by rw [hl]; exact hrow, hb⟩
end Go.Proofs.Ytkipcblbadkjnaa
