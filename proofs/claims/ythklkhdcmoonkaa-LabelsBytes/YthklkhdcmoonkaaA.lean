/- Plain: bytes and their order, texts escaped and cut, labels, which of them may be, their order. No conditions but those of each theorem. -/
import Derived.Test.YthklkhdcmoonkaaRows
import Derived.Lib.Bytealg
import Derived.Lib.SlicesS
import Derived.Laws.BytesArg
namespace Go.Proofs.Ythklkhdcmoonkaa

def Bytes (l : List Int) : Prop := ∀ x ∈ l, 0 ≤ x ∧ x ≤ 255
theorem bytes_append {a b : List Int} (ha : Bytes a) (hb : Bytes b) : Bytes (a ++ b) := by
  intro x hx
  rcases List.mem_append.1 hx with h | h
  · exact ha x h
  · exact hb x h
theorem bytes_drop {a : List Int} (ha : Bytes a) (n : Nat) : Bytes (a.drop n) := fun x hx => ha x (List.mem_of_mem_drop hx)
theorem bytes_at {a : List Int} (ha : Bytes a) (k : Nat) : 0 ≤ a.getD k 0 ∧ a.getD k 0 ≤ 255 := by
  by_cases h : k < a.length
  · have e : a.getD k 0 = a[k] := by simp [List.getD, h]
    rw [e]; exact ha _ (List.getElem_mem h)
  · have e : a.getD k 0 = 0 := by simp [List.getD, show a[k]? = none from List.getElem?_eq_none (by omega)]
    rw [e]; omega

/-- A text's bytes as numbers. -/
def nums (s : ByteArray) : List Int := s.data.toList.map (fun c => (c.toNat : Int))
theorem nums_len (s : ByteArray) : (nums s).length = s.size := by
  unfold nums; rw [List.length_map]; rfl
theorem u8_lt (c : UInt8) : c.toNat < 256 := c.toNat_lt
theorem nums_bytes (s : ByteArray) : Bytes (nums s) := by
  intro x hx
  obtain ⟨c, _, rfl⟩ := List.mem_map.1 hx
  have := u8_lt c
  omega
theorem str_nums (s : ByteArray) : strOfNums (nums s) = s := by
  apply ByteArray.ext
  have h : ∀ l : List UInt8, (l.map (fun c => (c.toNat : Int))).map (fun n => UInt8.ofNat n.toNat) = l := by
    intro l
    induction l with
    | nil => rfl
    | cons c r ih => simp only [List.map_cons, ih]; simp
  unfold strOfNums nums
  simp only [h]
theorem nums_str {l : List Int} (h : Bytes l) : nums (strOfNums l) = l := by
  unfold nums strOfNums
  simp only [List.map_map]
  induction l with
  | nil => rfl
  | cons x r ih =>
    have h1 := h x (List.mem_cons_self ..)
    have h2 := ih (fun y hy => h y (List.mem_cons_of_mem _ hy))
    simp only [List.map_cons, h2, Function.comp]
    congr 1
    simp only [UInt8.toNat_ofNat']
    omega
theorem nums_inj {a b : ByteArray} (h : nums a = nums b) : a = b := by rw [← str_nums a, h, str_nums]
theorem str_inj {a b : List Int} (ha : Bytes a) (hb : Bytes b) (h : strOfNums a = strOfNums b) : a = b := by rw [← nums_str ha, h, nums_str hb]
theorem nums_at (s : ByteArray) (k : Nat) (h : k < s.size) : (nums s).getD k 0 = (s[k].toNat : Int) := by
  have h' : k < s.data.toList.length := h
  have e : s.data.toList[k] = s[k] := rfl
  have e2 : (nums s)[k]? = some (s.data.toList[k].toNat : Int) := by
    unfold nums; rw [List.getElem?_map, List.getElem?_eq_getElem h']; rfl
  rw [List.getD, e2, e]; rfl

/-- Ahead, byte by byte. -/
def li : List Int → List Int → Bool
  | _, [] => false
  | [], _ :: _ => true
  | a :: x, b :: y => decide (a < b) || (decide (a = b) && li x y)
theorem less_nums : ∀ (a b : List UInt8), Op.bytesLess a b = li (a.map fun c => (c.toNat : Int)) (b.map fun c => (c.toNat : Int))
  | a, [] => by cases a <;> simp [Op.bytesLess, li]
  | [], _ :: _ => by simp [Op.bytesLess, li]
  | a :: x, b :: y => by
    have ih := less_nums x y
    simp only [Op.bytesLess, List.map_cons, li, ih]
    congr 1
    · rw [Bool.eq_iff_iff]; simp [UInt8.lt_iff_toNat_lt]
    · congr 1
      rw [Bool.eq_iff_iff]
      simp only [beq_iff_eq, decide_eq_true_eq]
      constructor
      · rintro rfl; rfl
      · intro h; exact UInt8.toNat_inj.1 (by omega)
theorem bl_eq (a b : ByteArray) : Op.bytesLess a.toList b.toList = li (nums a) (nums b) := by
  rw [Lib.toList_data, Lib.toList_data]; exact less_nums _ _
theorem beq_eq (a b : ByteArray) : (a.toList == b.toList) = decide (a = b) := by
  by_cases h : a = b
  · subst h; simp
  · rw [decide_eq_false h]; exact (Lib.bytes_beq_false_iff a b).2 h
theorem li_irr : ∀ a : List Int, li a a = false
  | [] => rfl
  | x :: r => by simp [li, li_irr r]
theorem li_trans : ∀ a b c : List Int, li a b = true → li b c = true → li a c = true
  | _, [], _, h, _ => by simp [li] at h
  | _, _ :: _, [], _, h => by simp [li] at h
  | [], _ :: _, _ :: _, _, _ => rfl
  | x :: a, y :: b, z :: c, h1, h2 => by
    have ih := li_trans a b c
    simp only [li, Bool.or_eq_true, Bool.and_eq_true, decide_eq_true_eq] at *
    rcases h1 with h1 | ⟨h1, h1'⟩ <;> rcases h2 with h2 | ⟨h2, h2'⟩
    · exact .inl (by omega)
    · exact .inl (by omega)
    · exact .inl (by omega)
    · exact .inr ⟨by omega, ih h1' h2'⟩
theorem li_total : ∀ a b : List Int, a ≠ b → li a b = false → li b a = true
  | [], [], h, _ => absurd rfl h
  | [], _ :: _, _, h => by simp [li] at h
  | _ :: _, [], _, _ => rfl
  | x :: a, y :: b, h, h1 => by
    have ih := li_total a b
    simp only [li, Bool.or_eq_true, Bool.and_eq_true, decide_eq_true_eq, Bool.or_eq_false_iff, Bool.and_eq_false_iff, decide_eq_false_iff_not] at *
    by_cases hxy : x = y
    · subst hxy
      have h3 : li a b = false := by
        rcases h1.2 with h2 | h2
        · exact absurd rfl h2
        · exact h2
      exact .inr ⟨rfl, ih (fun e => h (by rw [e])) h3⟩
    · exact .inl (by omega)
theorem li_asymm {a b : List Int} (h : li a b = true) : li b a = false := by
  cases h' : li b a with
  | false => rfl
  | true => have := li_trans a b a h h'; rw [li_irr] at this; cases this
theorem li_pre : ∀ (p a b : List Int), li (p ++ a) (p ++ b) = li a b
  | [], _, _ => rfl
  | x :: p, a, b => by simp [li, li_pre p a b]

/-- -1, 0, 1: the order of two texts. -/
def ci (a b : List Int) : Int := if li a b = true then -1 else if a = b then 0 else 1
theorem ci_cases (a b : List Int) : ci a b = -1 ∨ ci a b = 0 ∨ ci a b = 1 := by unfold ci; split <;> (try split) <;> simp
theorem ci_zero {a b : List Int} : ci a b = 0 ↔ a = b := by
  unfold ci
  constructor
  · intro h; split at h
    · omega
    · split at h
      · assumption
      · omega
  · rintro rfl; simp [li_irr]
theorem ci_neg {a b : List Int} : ci a b < 0 ↔ li a b = true := by
  unfold ci; split
  · rename_i h; simp [h]
  · rename_i h
    constructor
    · intro h'; split at h' <;> omega
    · intro h'; exact absurd h' h
theorem ci_turn (a b : List Int) : ci b a = - ci a b := by
  unfold ci
  by_cases h1 : li a b = true
  · rw [if_pos h1, if_neg (by rw [li_asymm h1]; simp), if_neg (by rintro rfl; rw [li_irr] at h1; cases h1)]; rfl
  · by_cases h2 : a = b
    · subst h2; simp [li_irr]
    · rw [if_neg h1, if_neg h2, if_pos (li_total a b h2 (by simpa using h1))]
theorem cmp_nums : ∀ (a b : List UInt8), Lib.compareBytes a b = ci (a.map fun c => (c.toNat : Int)) (b.map fun c => (c.toNat : Int))
  | [], [] => by simp [Lib.compareBytes, ci, li]
  | [], _ :: _ => by simp [Lib.compareBytes, ci, li]
  | _ :: _, [] => by simp [Lib.compareBytes, ci, li]
  | a :: x, b :: y => by
    have ih := cmp_nums x y
    simp only [Lib.compareBytes, List.map_cons, ih, UInt8.lt_iff_toNat_lt]
    generalize List.map (fun c : UInt8 => (c.toNat : Int)) x = X
    generalize List.map (fun c : UInt8 => (c.toNat : Int)) y = Y
    generalize a.toNat = m
    generalize b.toNat = n
    unfold ci
    by_cases h1 : m < n
    · have e : li ((m : Int) :: X) ((n : Int) :: Y) = true := by simp [li]; omega
      rw [e]; simp [h1]
    · by_cases h2 : n < m
      · have e : li ((m : Int) :: X) ((n : Int) :: Y) = false := by simp [li]; omega
        have e' : ¬ ((m : Int) :: X) = ((n : Int) :: Y) := by simp; omega
        rw [e, if_neg h1, if_pos h2, if_neg (by simp), if_neg e']
      · obtain rfl : m = n := by omega
        have e : li ((m : Int) :: X) ((m : Int) :: Y) = li X Y := by simp [li]
        rw [e]; simp
theorem cmp_eq (a b : ByteArray) : Lib.compareBytes a.data.toList b.data.toList = ci (nums a) (nums b) := cmp_nums _ _

/-- A byte, escaped. -/
def e1 (c : Int) : List Int := if c < 3 then [2, c + 3] else [c]
def es : List Int → List Int
  | [] => []
  | c :: r => e1 c ++ es r
/-- A text, escaped. -/
def E (s : List Int) : List Int := es s ++ [1]
theorem es_append : ∀ a b : List Int, es (a ++ b) = es a ++ es b
  | [], _ => rfl
  | c :: r, b => by simp [es, es_append r b]
theorem es_snoc (a : List Int) (c : Int) : es (a ++ [c]) = es a ++ e1 c := by rw [es_append]; simp [es]
theorem e1_bytes {c : Int} (h : 0 ≤ c ∧ c ≤ 255) : Bytes (e1 c) := by
  unfold e1; split
  · intro x hx; simp at hx; omega
  · intro x hx; simp at hx; omega
theorem es_bytes : ∀ {l : List Int}, Bytes l → Bytes (es l)
  | [], _ => fun x hx => by simp [es] at hx
  | c :: r, h => bytes_append (e1_bytes (h c (List.mem_cons_self ..))) (es_bytes fun x hx => h x (List.mem_cons_of_mem _ hx))
theorem E_bytes {l : List Int} (h : Bytes l) : Bytes (E l) := bytes_append (es_bytes h) (by intro x hx; simp at hx; omega)
theorem es_len : ∀ l : List Int, (es l).length ≤ 2 * l.length
  | [] => by simp [es]
  | c :: r => by
    have ih := es_len r
    have : (e1 c).length ≤ 2 := by unfold e1; split <;> simp
    simp [es]; omega
theorem E_len (l : List Int) : (E l).length ≤ 2 * l.length + 1 := by have := es_len l; simp [E]; omega
theorem E_pos (l : List Int) : 1 ≤ (E l).length := by simp [E]

/-- A text cut off bytes, behind what is taken already: the error, the text, how many bytes are taken. -/
def cutA (acc : List Int) (k : Nat) : List Int → Int × List Int × Nat
  | [] => (10, [], 0)
  | c :: r => if c = 1 then (0, acc, k + 1) else if c = 0 then (11, [], 0) else if c = 2 then
      match r with
      | [] => (10, [], 0)
      | x :: r' => if x < 3 ∨ 5 < x then (11, [], 0) else cutA (acc ++ [x - 3]) (k + 2) r'
    else cutA (acc ++ [c]) (k + 1) r
def cut (b : List Int) : Int × List Int × Nat := cutA [] 0 b
theorem cutA_nil (acc : List Int) (k : Nat) : cutA acc k [] = (10, [], 0) := rfl
theorem cutA_one (acc : List Int) (k : Nat) (r : List Int) : cutA acc k (1 :: r) = (0, acc, k + 1) := by rw [cutA.eq_def]; rfl
theorem cutA_zero (acc : List Int) (k : Nat) (r : List Int) : cutA acc k (0 :: r) = (11, [], 0) := by rw [cutA.eq_def]; rfl
theorem cutA_two_end (acc : List Int) (k : Nat) : cutA acc k [2] = (10, [], 0) := by rw [cutA.eq_def]; rfl
theorem cutA_two_bad (acc : List Int) (k : Nat) (x : Int) (r : List Int) (h : x < 3 ∨ 5 < x) : cutA acc k (2 :: x :: r) = (11, [], 0) := by
  rw [cutA.eq_def]; simp only; rw [if_neg (by decide), if_neg (by decide), if_pos trivial, if_pos h]
theorem cutA_two (acc : List Int) (k : Nat) (x : Int) (r : List Int) (h : ¬ (x < 3 ∨ 5 < x)) : cutA acc k (2 :: x :: r) = cutA (acc ++ [x - 3]) (k + 2) r := by
  rw [cutA.eq_def]; simp only; rw [if_neg (by decide), if_neg (by decide), if_pos trivial, if_neg h]
theorem cutA_else (acc : List Int) (k : Nat) (c : Int) (r : List Int) (h1 : c ≠ 1) (h0 : c ≠ 0) (h2 : c ≠ 2) : cutA acc k (c :: r) = cutA (acc ++ [c]) (k + 1) r := by
  rw [cutA.eq_def]; simp only; rw [if_neg h1, if_neg h0, if_neg h2]
theorem cutA_E : ∀ (s : List Int) (acc : List Int) (k : Nat) (r : List Int), Bytes s → cutA acc k (E s ++ r) = (0, acc ++ s, k + (E s).length)
  | [], acc, k, r, _ => by simp [E, es, cutA_one]
  | c :: s, acc, k, r, h => by
    have hc := h c (List.mem_cons_self ..)
    have ih := fun acc k => cutA_E s acc k r (fun x hx => h x (List.mem_cons_of_mem _ hx))
    by_cases h3 : c < 3
    · have e : E (c :: s) ++ r = 2 :: (c + 3) :: (E s ++ r) := by simp [E, es, e1, h3]
      have e2 : (E (c :: s)).length = (E s).length + 2 := by simp [E, es, e1, h3]
      rw [e, cutA_two _ _ _ _ (by omega), ih, e2]
      simp only [Prod.mk.injEq, true_and, List.append_assoc, List.append_cancel_left_eq]
      refine ⟨?_, by omega⟩
      simp
    · have e : E (c :: s) ++ r = c :: (E s ++ r) := by simp [E, es, e1, h3]
      have e2 : (E (c :: s)).length = (E s).length + 1 := by simp [E, es, e1, h3]
      rw [e, cutA_else _ _ _ _ (by omega) (by omega) (by omega), ih, e2]
      simp only [Prod.mk.injEq, true_and, List.append_assoc, List.append_cancel_left_eq]
      refine ⟨?_, by omega⟩
      simp
theorem cut_E (s r : List Int) (h : Bytes s) : cut (E s ++ r) = (0, s, (E s).length) := by
  unfold cut; rw [cutA_E s [] 0 r h]; simp
theorem cutA_ok : ∀ (m : Nat) (b acc : List Int) (k : Nat), b.length ≤ m → Bytes b → (cutA acc k b).1 = 0 →
    ∃ s r, b = E s ++ r ∧ Bytes s ∧ cutA acc k b = (0, acc ++ s, k + (E s).length)
  | m, [], acc, k, _, _, h => by simp [cutA] at h
  | 0, _ :: _, _, _, hl, _, _ => by simp at hl
  | m + 1, c :: b, acc, k, hl, hb, h => by
    have hc := hb c (List.mem_cons_self ..)
    have hb' : Bytes b := fun x hx => hb x (List.mem_cons_of_mem _ hx)
    by_cases h1 : c = 1
    · subst h1
      refine ⟨[], b, by simp [E, es], (fun x hx => by simp at hx), by rw [cutA_one]; simp [E, es]⟩
    · by_cases h0 : c = 0
      · subst h0; rw [cutA_zero] at h; cases h
      · by_cases h2 : c = 2
        · subst h2
          cases b with
          | nil => rw [cutA_two_end] at h; cases h
          | cons x b' =>
            by_cases hx : x < 3 ∨ 5 < x
            · rw [cutA_two_bad _ _ _ _ hx] at h; cases h
            · rw [cutA_two _ _ _ _ hx] at h ⊢
              obtain ⟨s, r, e1', e2, e3⟩ := cutA_ok m b' (acc ++ [x - 3]) (k + 2) (by simp at hl; omega) (fun y hy => hb' y (List.mem_cons_of_mem _ hy)) h
              refine ⟨(x - 3) :: s, r, ?_, ?_, ?_⟩
              · rw [e1']; simp [E, es, e1, show x - 3 < 3 by omega]
              · intro y hy
                rcases List.mem_cons.1 hy with rfl | hy
                · omega
                · exact e2 y hy
              · rw [e3]
                simp [E, es, e1, show x - 3 < 3 by omega]
                omega
        · rw [cutA_else _ _ _ _ h1 h0 h2] at h ⊢
          obtain ⟨s, r, e1', e2, e3⟩ := cutA_ok m b (acc ++ [c]) (k + 1) (by simp at hl; omega) hb' h
          refine ⟨c :: s, r, ?_, ?_, ?_⟩
          · rw [e1']; simp [E, es, e1, show ¬ c < 3 by omega]
          · intro y hy
            rcases List.mem_cons.1 hy with rfl | hy
            · exact hc
            · exact e2 y hy
          · rw [e3]
            simp [E, es, e1, show ¬ c < 3 by omega]
            omega
theorem cut_ok {b : List Int} (hb : Bytes b) (h : (cut b).1 = 0) : ∃ s r, b = E s ++ r ∧ Bytes s ∧ cut b = (0, s, (E s).length) := by
  obtain ⟨s, r, h1, h2, h3⟩ := cutA_ok b.length b [] 0 (Nat.le_refl _) hb h
  exact ⟨s, r, h1, h2, by unfold cut; rw [h3]; simp⟩
theorem cutA_err : ∀ (m : Nat) (b acc : List Int) (k : Nat), b.length ≤ m → (cutA acc k b).1 = 0 ∨ (cutA acc k b) = (10, [], 0) ∨ (cutA acc k b) = (11, [], 0)
  | m, [], acc, k, _ => .inr (.inl rfl)
  | 0, _ :: _, _, _, hl => by simp at hl
  | m + 1, c :: b, acc, k, hl => by
    by_cases h1 : c = 1
    · subst h1; rw [cutA_one]; exact .inl rfl
    · by_cases h0 : c = 0
      · subst h0; rw [cutA_zero]; exact .inr (.inr rfl)
      · by_cases h2 : c = 2
        · subst h2
          cases b with
          | nil => rw [cutA_two_end]; exact .inr (.inl rfl)
          | cons x b' =>
            by_cases hx : x < 3 ∨ 5 < x
            · rw [cutA_two_bad _ _ _ _ hx]; exact .inr (.inr rfl)
            · rw [cutA_two _ _ _ _ hx]; exact cutA_err m b' _ _ (by simp at hl; omega)
        · rw [cutA_else _ _ _ _ h1 h0 h2]; exact cutA_err m b _ _ (by simp at hl; omega)
theorem cut_err (b : List Int) : (cut b).1 = 0 ∨ cut b = (10, [], 0) ∨ cut b = (11, [], 0) := cutA_err b.length b [] 0 (Nat.le_refl _)
end Go.Proofs.Ythklkhdcmoonkaa
