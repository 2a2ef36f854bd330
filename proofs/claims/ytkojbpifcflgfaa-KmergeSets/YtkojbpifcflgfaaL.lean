/- Plain: bytes, texts, and their order. No conditions but those of each theorem. -/
import Derived.Test.YtkojbpifcflgfaaRows
import Derived.Lib.Bytealg
import Derived.Lib.SlicesS
import Derived.Laws.BytesArg
namespace Go.Proofs.Ytkojbpifcflgfaa

def Bytes (l : List Int) : Prop := ∀ x ∈ l, 0 ≤ x ∧ x ≤ 255
theorem bytes_append {a b : List Int} (ha : Bytes a) (hb : Bytes b) : Bytes (a ++ b) := by
  intro x hx
  rcases List.mem_append.1 hx with h | h
  · exact ha x h
  · exact hb x h
theorem bytes_drop {a : List Int} (ha : Bytes a) (n : Nat) : Bytes (a.drop n) := fun x hx => ha x (List.mem_of_mem_drop hx)
theorem bytes_at {a : List Int} (ha : Bytes a) (k : Nat) : 0 ≤ a.getD k 0 ∧ a.getD k 0 ≤ 255 := by
  by_cases h : k < a.length
  · have e : a.getD k 0 = a[k] := by simp [List.getD, h]
    rw [e]; exact ha _ (List.getElem_mem h)
  · have e : a.getD k 0 = 0 := by simp [List.getD, show a[k]? = none from List.getElem?_eq_none (by omega)]
    rw [e]; omega

/-- A text's bytes as numbers. -/
def nums (s : ByteArray) : List Int := s.data.toList.map (fun c => (c.toNat : Int))
theorem nums_len (s : ByteArray) : (nums s).length = s.size := by
  unfold nums; rw [List.length_map]; rfl
theorem u8_lt (c : UInt8) : c.toNat < 256 := c.toNat_lt
theorem nums_bytes (s : ByteArray) : Bytes (nums s) := by
  intro x hx
  obtain ⟨c, _, rfl⟩ := List.mem_map.1 hx
  have := u8_lt c
  omega
theorem str_nums (s : ByteArray) : strOfNums (nums s) = s := by
  apply ByteArray.ext
  have h : ∀ l : List UInt8, (l.map (fun c => (c.toNat : Int))).map (fun n => UInt8.ofNat n.toNat) = l := by
    intro l
    induction l with
    | nil => rfl
    | cons c r ih => simp only [List.map_cons, ih]; simp
  unfold strOfNums nums
  simp only [h]
theorem nums_str {l : List Int} (h : Bytes l) : nums (strOfNums l) = l := by
  unfold nums strOfNums
  simp only [List.map_map]
  induction l with
  | nil => rfl
  | cons x r ih =>
    have h1 := h x (List.mem_cons_self ..)
    have h2 := ih (fun y hy => h y (List.mem_cons_of_mem _ hy))
    simp only [List.map_cons, h2, Function.comp]
    congr 1
    simp only [UInt8.toNat_ofNat']
    omega
theorem nums_inj {a b : ByteArray} (h : nums a = nums b) : a = b := by rw [← str_nums a, h, str_nums]
theorem str_inj {a b : List Int} (ha : Bytes a) (hb : Bytes b) (h : strOfNums a = strOfNums b) : a = b := by rw [← nums_str ha, h, nums_str hb]
theorem nums_at (s : ByteArray) (k : Nat) (h : k < s.size) : (nums s).getD k 0 = (s[k].toNat : Int) := by
  have h' : k < s.data.toList.length := h
  have e : s.data.toList[k] = s[k] := rfl
  have e2 : (nums s)[k]? = some (s.data.toList[k].toNat : Int) := by
    unfold nums; rw [List.getElem?_map, List.getElem?_eq_getElem h']; rfl
  rw [List.getD, e2, e]; rfl

/-- Ahead, byte by byte. -/
def li : List Int → List Int → Bool
  | _, [] => false
  | [], _ :: _ => true
  | a :: x, b :: y => decide (a < b) || (decide (a = b) && li x y)
theorem less_nums : ∀ (a b : List UInt8), Op.bytesLess a b = li (a.map fun c => (c.toNat : Int)) (b.map fun c => (c.toNat : Int))
  | a, [] => by cases a <;> simp [Op.bytesLess, li]
  | [], _ :: _ => by simp [Op.bytesLess, li]
  | a :: x, b :: y => by
    have ih := less_nums x y
    simp only [Op.bytesLess, List.map_cons, li, ih]
    congr 1
    · rw [Bool.eq_iff_iff]; simp [UInt8.lt_iff_toNat_lt]
    · congr 1
      rw [Bool.eq_iff_iff]
      simp only [beq_iff_eq, decide_eq_true_eq]
      constructor
      · rintro rfl; rfl
      · intro h; exact UInt8.toNat_inj.1 (by omega)
theorem bl_eq (a b : ByteArray) : Op.bytesLess a.toList b.toList = li (nums a) (nums b) := by
  rw [Lib.toList_data, Lib.toList_data]; exact less_nums _ _
theorem beq_eq (a b : ByteArray) : (a.toList == b.toList) = decide (a = b) := by
  by_cases h : a = b
  · subst h; simp
  · rw [decide_eq_false h]; exact (Lib.bytes_beq_false_iff a b).2 h
theorem li_irr : ∀ a : List Int, li a a = false
  | [] => rfl
  | x :: r => by simp [li, li_irr r]
theorem li_trans : ∀ a b c : List Int, li a b = true → li b c = true → li a c = true
  | _, [], _, h, _ => by simp [li] at h
  | _, _ :: _, [], _, h => by simp [li] at h
  | [], _ :: _, _ :: _, _, _ => rfl
  | x :: a, y :: b, z :: c, h1, h2 => by
    have ih := li_trans a b c
    simp only [li, Bool.or_eq_true, Bool.and_eq_true, decide_eq_true_eq] at *
    rcases h1 with h1 | ⟨h1, h1'⟩ <;> rcases h2 with h2 | ⟨h2, h2'⟩
    · exact .inl (by omega)
    · exact .inl (by omega)
    · exact .inl (by omega)
    · exact .inr ⟨by omega, ih h1' h2'⟩
theorem li_total : ∀ a b : List Int, a ≠ b → li a b = false → li b a = true
  | [], [], h, _ => absurd rfl h
  | [], _ :: _, _, h => by simp [li] at h
  | _ :: _, [], _, _ => rfl
  | x :: a, y :: b, h, h1 => by
    have ih := li_total a b
    simp only [li, Bool.or_eq_true, Bool.and_eq_true, decide_eq_true_eq, Bool.or_eq_false_iff, Bool.and_eq_false_iff, decide_eq_false_iff_not] at *
    by_cases hxy : x = y
    · subst hxy
      have h3 : li a b = false := by
        rcases h1.2 with h2 | h2
        · exact absurd rfl h2
        · exact h2
      exact .inr ⟨rfl, ih (fun e => h (by rw [e])) h3⟩
    · exact .inl (by omega)
theorem li_asymm {a b : List Int} (h : li a b = true) : li b a = false := by
  cases h' : li b a with
  | false => rfl
  | true => have := li_trans a b a h h'; rw [li_irr] at this; cases this
theorem li_pre : ∀ (p a b : List Int), li (p ++ a) (p ++ b) = li a b
  | [], _, _ => rfl
  | x :: p, a, b => by simp [li, li_pre p a b]

/-- -1, 0, 1: the order of two texts. -/
def ci (a b : List Int) : Int := if li a b = true then -1 else if a = b then 0 else 1
theorem ci_cases (a b : List Int) : ci a b = -1 ∨ ci a b = 0 ∨ ci a b = 1 := by unfold ci; split <;> (try split) <;> simp
theorem ci_zero {a b : List Int} : ci a b = 0 ↔ a = b := by
  unfold ci
  constructor
  · intro h; split at h
    · omega
    · split at h
      · assumption
      · omega
  · rintro rfl; simp [li_irr]
theorem ci_neg {a b : List Int} : ci a b < 0 ↔ li a b = true := by
  unfold ci; split
  · rename_i h; simp [h]
  · rename_i h
    constructor
    · intro h'; split at h' <;> omega
    · intro h'; exact absurd h' h
theorem ci_turn (a b : List Int) : ci b a = - ci a b := by
  unfold ci
  by_cases h1 : li a b = true
  · rw [if_pos h1, if_neg (by rw [li_asymm h1]; simp), if_neg (by rintro rfl; rw [li_irr] at h1; cases h1)]; rfl
  · by_cases h2 : a = b
    · subst h2; simp [li_irr]
    · rw [if_neg h1, if_neg h2, if_pos (li_total a b h2 (by simpa using h1))]
theorem cmp_nums : ∀ (a b : List UInt8), Lib.compareBytes a b = ci (a.map fun c => (c.toNat : Int)) (b.map fun c => (c.toNat : Int))
  | [], [] => by simp [Lib.compareBytes, ci, li]
  | [], _ :: _ => by simp [Lib.compareBytes, ci, li]
  | _ :: _, [] => by simp [Lib.compareBytes, ci, li]
  | a :: x, b :: y => by
    have ih := cmp_nums x y
    simp only [Lib.compareBytes, List.map_cons, ih, UInt8.lt_iff_toNat_lt]
    generalize List.map (fun c : UInt8 => (c.toNat : Int)) x = X
    generalize List.map (fun c : UInt8 => (c.toNat : Int)) y = Y
    generalize a.toNat = m
    generalize b.toNat = n
    unfold ci
    by_cases h1 : m < n
    · have e : li ((m : Int) :: X) ((n : Int) :: Y) = true := by simp [li]; omega
      rw [e]; simp [h1]
    · by_cases h2 : n < m
      · have e : li ((m : Int) :: X) ((n : Int) :: Y) = false := by simp [li]; omega
        have e' : ¬ ((m : Int) :: X) = ((n : Int) :: Y) := by simp; omega
        rw [e, if_neg h1, if_pos h2, if_neg (by simp), if_neg e']
      · obtain rfl : m = n := by omega
        have e : li ((m : Int) :: X) ((m : Int) :: Y) = li X Y := by simp [li]
        rw [e]; simp
theorem cmp_eq (a b : ByteArray) : Lib.compareBytes a.data.toList b.data.toList = ci (nums a) (nums b) := cmp_nums _ _

theorem bytes_take {a : List Int} (ha : Bytes a) (n : Nat) : Bytes (a.take n) := fun x hx => ha x (List.mem_of_mem_take hx)
theorem bytes_nil : Bytes [] := fun x hx => by simp at hx

/-- How many bytes two items begin with alike. -/
def cm : List Int → List Int → Nat
  | a :: x, b :: y => if a = b then cm x y + 1 else 0
  | _, _ => 0
theorem cm_le : ∀ a b : List Int, cm a b ≤ a.length ∧ cm a b ≤ b.length
  | [], b => by simp [cm]
  | _ :: _, [] => by simp [cm]
  | a :: x, b :: y => by
    have := cm_le x y
    simp only [cm]; split <;> simp <;> omega
theorem cm_take : ∀ a b : List Int, a.take (cm a b) = b.take (cm a b)
  | [], b => by simp [cm]
  | _ :: _, [] => by simp [cm]
  | a :: x, b :: y => by
    have := cm_take x y
    simp only [cm]; split
    · rename_i h; subst h; simp [this]
    · simp
theorem cm_ne : ∀ a b : List Int, cm a b < a.length → cm a b < b.length → a.getD (cm a b) 0 ≠ b.getD (cm a b) 0
  | [], b, h, _ => by simp at h
  | _ :: _, [], _, h => by simp at h
  | a :: x, b :: y, h1, h2 => by
    have ih := cm_ne x y
    simp only [cm] at *
    split
    · rename_i h; rw [if_pos h] at h1 h2
      simpa using ih (by simpa using h1) (by simpa using h2)
    · simpa using ‹_›
theorem cm_comm : ∀ a b : List Int, cm a b = cm b a
  | [], b => by cases b <;> simp [cm]
  | _ :: _, [] => by simp [cm]
  | a :: x, b :: y => by
    have := cm_comm x y
    simp only [cm, eq_comm (a := b)]; split <;> simp [this]
/-- The first n bytes are alike, and what follows is another byte, or one of the two ends there. -/
theorem cm_is {a b : List Int} {n : Nat} (ha : n ≤ a.length) (hb : n ≤ b.length) (h : ∀ i, i < n → a.getD i 0 = b.getD i 0) (hs : n = a.length ∨ n = b.length ∨ a.getD n 0 ≠ b.getD n 0) : cm a b = n := by
  induction n generalizing a b with
  | zero =>
    cases a with
    | nil => simp [cm]
    | cons x r =>
      cases b with
      | nil => simp [cm]
      | cons y s =>
        rcases hs with h | h | h
        · simp at h
        · simp at h
        · simp only [cm]; rw [if_neg (by simpa using h)]
  | succ n ih =>
    cases a with
    | nil => simp at ha
    | cons x r =>
      cases b with
      | nil => simp at hb
      | cons y s =>
        have h0 := h 0 (by omega)
        simp only [List.getD_cons_zero] at h0
        simp only [cm]; rw [if_pos h0]
        congr 1
        refine ih (by simpa using ha) (by simpa using hb) (fun i hi => by simpa using h (i + 1) (by omega)) ?_
        rcases hs with h | h | h
        · left; simpa using h
        · right; left; simpa using h
        · right; right; simpa using h
end Go.Proofs.Ytkojbpifcflgfaa
