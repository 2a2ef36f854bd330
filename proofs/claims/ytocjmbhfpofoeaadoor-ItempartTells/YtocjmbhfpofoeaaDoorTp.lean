/- Plain: bytes and their strings; a byte with a bit turned; how long a file is. Conditions: those of each theorem. -/
import Derived.Test.YtocjmbhfpofoeaaDoorS
import Derived.Laws.Bits128
namespace Go.Proofs.YtocjmbhfpofoeaaDoor
open Go.RowKit Go.Lib

theorem i64_and65535 (n : Int) : bits .and .i64 n 65535 = n % 65536 := by
  have h127 : (BitVec.ofInt 64 65535).toNat = 2 ^ 16 - 1 := by decide
  have key : (BitVec.ofInt 64 n &&& BitVec.ofInt 64 65535).toNat = (n % ((2 ^ 64 : Nat) : Int)).toNat % 2 ^ 16 := by
    rw [BitVec.toNat_and, BitVec.toNat_ofInt, h127, Nat.and_two_pow_sub_one_eq_mod]
  show IntKind.i64.wrap ((BitVec.ofInt 64 n &&& BitVec.ofInt 64 65535).toNat : Nat) = n % 65536
  rw [key, IntKind.wrap_i64]
  omega
theorem set_other (w : World) (g : Nat) {i j : Nat} (h : j ≠ i) {v : Value} : (w.setCell ⟨g, j, none⟩ v).cell? ⟨g, i, none⟩ = w.cell? ⟨g, i, none⟩ := by
  apply World.cell?_setCell_other
  intro e
  simp only [Addr.mk.injEq] at e
  exact h e.2.1
/-- A cell of an own row, written. -/
theorem isI_set {w : World} {base g n c : Nat} {xs : List Int} (h : w.ownsRow base 5 1 (.slice (some ⟨g, 0, none⟩) n c) n (xs.map (Value.int .u8))) (j : Nat) (y : Int) (hj : j < n) : IsI .u8 (w.setCell ⟨g, j, none⟩ (.int .u8 y)) (some ⟨g, 0, none⟩) n c (xs.set j y) := by
  have hl : xs.length = n := by have := h.1; simpa using this
  obtain ⟨h1, h2, _, _⟩ := own_cap h
  refine ⟨by rw [List.length_set, hl], h1, h2, .inr ⟨g, 0, rfl, ?_, fun i hi => ?_⟩, fun e => by cases e⟩
  · have := (h.lt g rfl).2
    simpa using this
  · rw [List.length_set, hl] at hi
    rw [Nat.zero_add]
    by_cases e : i = j
    · subst e
      rw [World.cell?_setCell_same' w _ _ (by rw [h.cellAt i (by omega)]; simp [hl, hj])]
      simp [List.getD, hl, hj]
    · rw [set_other w g (fun q => e q.symm), h.cellAt i (by omega)]
      simp [List.getD, hl, hi, Ne.symm e]
theorem xor_u8 {x : Int} (hx : 0 ≤ x ∧ x ≤ 255) {p : Nat} (hp0 : 0 < p) (hp : p < 256) : ∃ y : Int, bits .xor .u8 x (p : Int) = y ∧ 0 ≤ y ∧ y ≤ 255 ∧ y ≠ x := by
  obtain ⟨n, rfl⟩ : ∃ n : Nat, x = (n : Int) := ⟨x.toNat, by omega⟩
  refine ⟨((n ^^^ p : Nat) : Int), u8_xor_nat n p (by omega) hp, by omega, ?_, ?_⟩
  · have := Nat.xor_lt_two_pow (n := 8) (x := n) (y := p) (by omega) hp
    omega
  · intro e
    have e' : n ^^^ p = n := by omega
    have := congrArg (n ^^^ ·) e'
    simp only [← Nat.xor_assoc, Nat.xor_self, Nat.zero_xor] at this
    omega
theorem two_pow8 (bit : Int) : ∃ p : Nat, (2 : Int) ^ (bit % 8).toNat % 256 = (p : Int) ∧ 0 < p ∧ p < 256 := by
  have ht : (bit % 8).toNat < 8 := by omega
  generalize (bit % 8).toNat = t at ht
  match t, ht with
  | 0, _ => exact ⟨1, by decide, by decide, by decide⟩
  | 1, _ => exact ⟨2, by decide, by decide, by decide⟩
  | 2, _ => exact ⟨4, by decide, by decide, by decide⟩
  | 3, _ => exact ⟨8, by decide, by decide, by decide⟩
  | 4, _ => exact ⟨16, by decide, by decide, by decide⟩
  | 5, _ => exact ⟨32, by decide, by decide, by decide⟩
  | 6, _ => exact ⟨64, by decide, by decide, by decide⟩
  | 7, _ => exact ⟨128, by decide, by decide, by decide⟩
theorem fil_le {l : List (List Int)} (h : bt l = (0, fil l)) : (fil l).length ≤ 900000 ∧ 4 < (fil l).length := by
  obtain ⟨h1, h2, _⟩ := bt_zero (l := l) (by rw [h])
  have h3 := fbc_le h1
  have h4 := bs_le10 (u := (ix (hs 0 (ch l))).length) (by omega)
  unfold fil
  rw [List.length_append, List.length_append, frm_length, tl_length]
  omega
/-- All of them stand behind nothing. -/
theorem filter_nil (L : List (List Int)) : L.filter (nl []) = L := by
  rw [List.filter_eq_self]
  intro y _
  cases y <;> rfl
theorem set_ne {z : List Int} {k : Nat} {y : Int} (hk : k < z.length) (h : y ≠ z.getD k 0) : z.set k y ≠ z := by
  intro e
  have := congrArg (fun l : List Int => l.getD k 0) e
  simp only [List.getD] at this h
  rw [List.getElem?_set_self hk] at this
  exact h this
theorem set_back {z : List Int} {k : Nat} {y : Int} (hk : k < z.length) : (z.set k y).set k (z.getD k 0) = z := by
  rw [List.set_set]
  have e : z.getD k 0 = z[k] := by simp [List.getD, hk]
  rw [e, List.set_getElem_self]
theorem bytes_set {z : List Int} {k : Nat} {y : Int} (h : Bytes z) (hy : 0 ≤ y ∧ y ≤ 255) : Bytes (z.set k y) := by
  intro x hx
  rcases List.mem_or_eq_of_mem_set hx with h1 | rfl
  · exact h x h1
  · exact hy
end Go.Proofs.YtocjmbhfpofoeaaDoor
