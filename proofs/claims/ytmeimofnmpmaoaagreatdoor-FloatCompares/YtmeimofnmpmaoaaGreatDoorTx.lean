/- The text of a number that may be, and what readFloat reads of it. -/
import Derived.Test.YtmeimofnmpmaoaaGreatDoorT
import Derived.Lib.ItoaNum
namespace Go.Proofs.YtmeimofnmpmaoaaGreatDoor
open Go.RowKit Go.Shelf

/-- Digit j of the n digits of u. -/
def dgt (u n j : Nat) : Nat := u / 10 ^ (n - 1 - j) % 10

theorem pv_dgt (u n : Nat) (hu : u < 10 ^ n) : ∀ j, j ≤ n → pv (dgt u n) j = u / 10 ^ (n - j)
  | 0, _ => by simp [pv]; exact (Nat.div_eq_of_lt hu).symm
  | j + 1, hj => by
    rw [pv, pv_dgt u n hu j (by omega)]
    have e : u / 10 ^ (n - j) = u / 10 ^ (n - (j + 1)) / 10 := by
      rw [Nat.div_div_eq_div_mul, ← Nat.pow_succ]; congr 2; omega
    rw [e]
    unfold dgt
    rw [show n - 1 - j = n - (j + 1) by omega]
    omega

theorem pv_all (u n : Nat) (hu : u < 10 ^ n) : pv (dgt u n) n = u := by
  rw [pv_dgt u n hu n (Nat.le_refl _)]; simp

theorem dgt_lt (u n j : Nat) : dgt u n j < 10 := Nat.mod_lt _ (by decide)

theorem lead (u : Nat) (h : 0 < u) : dgt u (Lib.nDigits u) 0 ≠ 0 := by
  have h1 := Lib.nDigits_pos u
  have h2 := Lib.lt_pow_nDigits u
  unfold dgt
  have hge : 10 ^ (Lib.nDigits u - 1) ≤ u := by
    induction u using Nat.strongRecOn with
    | _ u ih =>
      by_cases hs : u < 10
      · rw [Lib.nDigits_small hs]; simp; omega
      · rw [Lib.nDigits_big hs]
        have := ih (u / 10) (by omega) (by omega) (Lib.nDigits_pos _) (Lib.lt_pow_nDigits _)
        rw [show Lib.nDigits (u / 10) + 1 - 1 = Lib.nDigits (u / 10) - 1 + 1 by have := Lib.nDigits_pos (u / 10); omega, Nat.pow_succ]
        omega
  have hq : 1 ≤ u / 10 ^ (Lib.nDigits u - 1) := (Nat.le_div_iff_mul_le (Nat.pow_pos (by decide))).2 (by omega)
  have hq2 : u / 10 ^ (Lib.nDigits u - 1) < 10 := by
    rw [Nat.div_lt_iff_lt_mul (Nat.pow_pos (by decide)), Nat.mul_comm, ← Nat.pow_succ, show (Lib.nDigits u - 1).succ = Lib.nDigits u by omega]
    exact h2
  simp only [Nat.sub_zero]
  omega

theorem digits_at (u j : Nat) (hj : j < Lib.nDigits u) : (Lib.decDigits u)[j]? = some (UInt8.ofNat (48 + dgt u (Lib.nDigits u) j)) := by
  rw [Lib.decDigits_eq]
  simp [hj, Lib.dg, dgt]

theorem chr (x : Nat) (h : x < 10) : ((UInt8.ofNat (48 + x)).toNat : Int) = 48 + (x : Int) := by
  rw [UInt8.toNat_ofNat_of_lt' (show 48 + x < UInt8.size from (by show 48 + x < 256; omega))]; omega

theorem nd_le (u k : Nat) (hk : 1 ≤ k) (h : u < 10 ^ k) : Lib.nDigits u ≤ k := by
  induction k generalizing u with
  | zero => omega
  | succ k ih =>
    by_cases hs : u < 10
    · rw [Lib.nDigits_small hs]; omega
    · rw [Lib.nDigits_big hs]
      rcases Nat.eq_zero_or_pos k with h0 | h0
      · subst h0; simp at h; omega
      · have := ih (u / 10) h0 (by rw [Nat.pow_succ] at h; omega)
        omega

theorem at_list (l : List UInt8) (i : Nat) (c : UInt8) (hc : l[i]? = some c) (h : i < (⟨l.toArray⟩ : ByteArray).size) : (((⟨l.toArray⟩ : ByteArray)[i]'h).toNat : Int) = (c.toNat : Int) := by
  have : (⟨l.toArray⟩ : ByteArray)[i]'h = c := by
    show l.toArray[i] = c
    have := (List.getElem?_eq_some_iff.1 hc).2
    simpa using this
  rw [this]

/-- The text of a number. -/
def txt (neg : Bool) (u : Nat) (eneg : Bool) (x : Nat) : List UInt8 := (if neg then [45] else []) ++ Lib.decDigits u ++ [101] ++ (if eneg then [45] else []) ++ Lib.decDigits x

theorem at5 {α : Type} (A U C B X : List α) :
    (∀ j, j < A.length → (A ++ U ++ C ++ B ++ X)[j]? = A[j]?) ∧ (∀ j, j < U.length → (A ++ U ++ C ++ B ++ X)[A.length + j]? = U[j]?) ∧ (∀ j, j < C.length → (A ++ U ++ C ++ B ++ X)[A.length + U.length + j]? = C[j]?) ∧
    (∀ j, j < B.length → (A ++ U ++ C ++ B ++ X)[A.length + U.length + C.length + j]? = B[j]?) ∧ (∀ j, j < X.length → (A ++ U ++ C ++ B ++ X)[A.length + U.length + C.length + B.length + j]? = X[j]?) := by
  refine ⟨fun j hj => ?_, fun j hj => ?_, fun j hj => ?_, fun j hj => ?_, fun j hj => ?_⟩
  · rw [List.getElem?_append_left (by simp; omega), List.getElem?_append_left (by simp; omega), List.getElem?_append_left (by simp; omega), List.getElem?_append_left hj]
  · rw [List.getElem?_append_left (by simp; omega), List.getElem?_append_left (by simp; omega), List.getElem?_append_left (by simp; omega), List.getElem?_append_right (by omega)]; congr 1; omega
  · rw [List.getElem?_append_left (by simp; omega), List.getElem?_append_left (by simp; omega), List.getElem?_append_right (by simp)]; congr 1; simp
  · rw [List.getElem?_append_left (by simp; omega), List.getElem?_append_right (by simp; omega)]; congr 1; simp; omega
  · rw [List.getElem?_append_right (by simp; omega)]; congr 1; simp; omega

theorem reads_txt (neg : Bool) (u : Nat) (eneg : Bool) (x : Nat) (hu0 : 0 < u) (hu : u < 1000000000000000) (hx : x < 1000) :
    Reads ⟨(txt neg u eneg x).toArray⟩ u ((if eneg then -1 else 1) * (x : Int)) neg := by
  intro w
  have n15 := nd_le u 15 (by decide) (by omega)
  have e3 := nd_le x 3 (by decide) (by omega)
  have n1 := Lib.nDigits_pos u
  have e1 := Lib.nDigits_pos x
  have lu := Lib.decDigits_length u
  have lx := Lib.decDigits_length x
  obtain ⟨A, hA⟩ : ∃ A : List UInt8, A = if neg then [45] else [] := ⟨_, rfl⟩
  obtain ⟨B, hB⟩ : ∃ B : List UInt8, B = if eneg then [45] else [] := ⟨_, rfl⟩
  have lA : A.length = if neg then 1 else 0 := by rw [hA]; cases neg <;> rfl
  have lB : B.length = if eneg then 1 else 0 := by rw [hB]; cases eneg <;> rfl
  obtain ⟨k1, k2, k3, k4, k5⟩ := at5 A (Lib.decDigits u) [101] B (Lib.decDigits x)
  have ht : txt neg u eneg x = A ++ Lib.decDigits u ++ [101] ++ B ++ Lib.decDigits x := by rw [hA, hB]; rfl
  rw [← ht] at k1 k2 k3 k4 k5
  rw [lu] at k2 k3 k4 k5
  rw [lx] at k5
  simp only [List.length_cons, List.length_nil, Nat.zero_add] at k3 k4 k5
  have hlen : (⟨(txt neg u eneg x).toArray⟩ : ByteArray).size = A.length + Lib.nDigits u + 1 + B.length + Lib.nDigits x := by
    show (txt neg u eneg x).toArray.size = _
    rw [ht]; simp [lu, lx]; omega
  have hD : ∀ j, j < Lib.nDigits u → ∀ h : A.length + j < (⟨(txt neg u eneg x).toArray⟩ : ByteArray).size, (((⟨(txt neg u eneg x).toArray⟩ : ByteArray)[A.length + j]'h).toNat : Int) = 48 + (dgt u (Lib.nDigits u) j : Int) := fun j hj h => by
    rw [at_list _ _ _ ((k2 j hj).trans (digits_at u j hj)) h, chr _ (dgt_lt _ _ _)]
  have hE : ∀ h : A.length + Lib.nDigits u < (⟨(txt neg u eneg x).toArray⟩ : ByteArray).size, (((⟨(txt neg u eneg x).toArray⟩ : ByteArray)[A.length + Lib.nDigits u]'h).toNat : Int) = 101 := fun h => by
    have := k3 0 (by decide)
    rw [at_list _ _ 101 (by simpa using this) h]; rfl
  have hM : eneg = true → ∀ h : A.length + Lib.nDigits u + 1 < (⟨(txt neg u eneg x).toArray⟩ : ByteArray).size, (((⟨(txt neg u eneg x).toArray⟩ : ByteArray)[A.length + Lib.nDigits u + 1]'h).toNat : Int) = 45 := fun he h => by
    have hB1 : B = [45] := by rw [hB, he]; rfl
    have := k4 0 (by rw [hB1]; decide)
    rw [hB1] at this
    rw [at_list _ _ 45 (by simpa using this) h]; rfl
  have hQ : ∀ k, k < Lib.nDigits x → ∀ h : A.length + Lib.nDigits u + 1 + B.length + k < (⟨(txt neg u eneg x).toArray⟩ : ByteArray).size, (((⟨(txt neg u eneg x).toArray⟩ : ByteArray)[A.length + Lib.nDigits u + 1 + B.length + k]'h).toNat : Int) = 48 + (dgt x (Lib.nDigits x) k : Int) := fun k hk h => by
    rw [at_list _ _ _ ((k5 k hk).trans (digits_at x k hk)) h, chr _ (dgt_lt _ _ _)]
  have hs : neg = true → ∀ h : 0 < (⟨(txt neg u eneg x).toArray⟩ : ByteArray).size, (((⟨(txt neg u eneg x).toArray⟩ : ByteArray)[0]'h).toNat : Int) = 45 := fun he h => by
    have hA1 : A = [45] := by rw [hA, he]; rfl
    have := k1 0 (by rw [hA1]; decide)
    rw [hA1] at this
    rw [at_list _ _ 45 (by simpa using this) h]; rfl
  have hpu := pv_all u _ (Lib.lt_pow_nDigits u)
  have hpx := pv_all x _ (Lib.lt_pow_nDigits x)
  cases hneg : neg with
  | false =>
    have h := read_pos _ neg eneg hneg A.length B.length lA lB (Lib.nDigits u) (Lib.nDigits x) (dgt u (Lib.nDigits u)) (dgt x (Lib.nDigits x)) ((if eneg then -1 else 1) * (x : Int)) (show _ = _ by rw [hpx]) n1 n15 e1 e3 hs hD (fun j _ => dgt_lt _ _ _) (lead u hu0) hE hM hQ (fun j _ => dgt_lt _ _ _) hlen w
    rw [hpu] at h
    rw [hneg] at h
    exact h
  | true =>
    have h := read_neg _ neg eneg hneg A.length B.length lA lB (Lib.nDigits u) (Lib.nDigits x) (dgt u (Lib.nDigits u)) (dgt x (Lib.nDigits x)) ((if eneg then -1 else 1) * (x : Int)) (show _ = _ by rw [hpx]) n1 n15 e1 e3 hs hD (fun j _ => dgt_lt _ _ _) (lead u hu0) hE hM hQ (fun j _ => dgt_lt _ _ _) hlen w
    rw [hpu] at h
    rw [hneg] at h
    exact h
end Go.Proofs.YtmeimofnmpmaoaaGreatDoor
