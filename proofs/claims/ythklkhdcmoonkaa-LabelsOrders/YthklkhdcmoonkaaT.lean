/- Plain: escaped texts are in the order of the texts, whatever lies behind them; labels' bytes in the order of the labels. -/
import Derived.Test.YthklkhdcmoonkaaQ
namespace Go.Proofs.Ythklkhdcmoonkaa

theorem E_cons (c : Int) (s : List Int) : E (c :: s) = e1 c ++ E s := by simp [E, es]
theorem E_order : ∀ (s t a b : List Int), Bytes s → Bytes t → s ≠ t → li (E s ++ a) (E t ++ b) = li s t
  | [], [], _, _, _, _, h => absurd rfl h
  | [], d :: t, a, b, _, ht, _ => by
    have hd := ht d (List.mem_cons_self ..)
    rw [E_cons]
    by_cases h : d < 3
    · rw [show e1 d = [2, d + 3] from if_pos h]; simp [E, es, li]
    · rw [show e1 d = [d] from if_neg h]; simp [E, es, li]; omega
  | c :: s, [], a, b, hs, _, _ => by
    have hc := hs c (List.mem_cons_self ..)
    rw [E_cons]
    by_cases h : c < 3
    · rw [show e1 c = [2, c + 3] from if_pos h]; simp [E, es, li]
    · rw [show e1 c = [c] from if_neg h]; simp [E, es, li]; omega
  | c :: s, d :: t, a, b, hs, ht, h => by
    have hc := hs c (List.mem_cons_self ..)
    have hd := ht d (List.mem_cons_self ..)
    rw [E_cons, E_cons]
    by_cases hcd : c = d
    · subst hcd
      rw [List.append_assoc, List.append_assoc, li_pre, E_order s t a b (fun x hx => hs x (List.mem_cons_of_mem _ hx)) (fun x hx => ht x (List.mem_cons_of_mem _ hx)) (fun e => h (by rw [e]))]
      simp [li]
    · by_cases h1 : c < 3 <;> by_cases h2 : d < 3
      · rw [show e1 c = [2, c + 3] from if_pos h1, show e1 d = [2, d + 3] from if_pos h2, Bool.eq_iff_iff]
        simp [li, hcd]
      · rw [show e1 c = [2, c + 3] from if_pos h1, show e1 d = [d] from if_neg h2, Bool.eq_iff_iff]
        simp [li, hcd]; omega
      · rw [show e1 c = [c] from if_neg h1, show e1 d = [2, d + 3] from if_pos h2, Bool.eq_iff_iff]
        simp [li, hcd]; omega
      · rw [show e1 c = [c] from if_neg h1, show e1 d = [d] from if_neg h2, Bool.eq_iff_iff]
        simp [li, hcd]
theorem eb_order (x y : Lb) (a b : List Int) (h : x ≠ y) : li (eb x ++ a) (eb y ++ b) = decide (cm1 x y < 0) := by
  unfold eb cm1 orr
  rw [List.append_assoc, List.append_assoc]
  by_cases h1 : nums x.1 = nums y.1
  · have h2 : nums x.2 ≠ nums y.2 := fun e => h (Prod.ext (nums_inj h1) (nums_inj e))
    rw [h1, li_pre, E_order _ _ _ _ (nums_bytes _) (nums_bytes _) h2, if_pos (ci_zero.2 rfl), Bool.eq_iff_iff]
    simp [ci_neg]
  · rw [E_order _ _ _ _ (nums_bytes _) (nums_bytes _) h1, if_neg (fun e => h1 (ci_zero.1 e)), Bool.eq_iff_iff]
    simp [ci_neg]
theorem el_ne (x : Lb) (a : List Lb) : ∃ c r, el (x :: a) = c :: r := by
  have : 0 < (el (x :: a)).length := by have := E_pos (nums x.1); simp [el, eb]; omega
  match h : el (x :: a) with
  | [] => rw [h] at this; simp at this
  | c :: r => exact ⟨c, r, rfl⟩
theorem el_order : ∀ x y : List Lb, li (el x) (el y) = decide (cml x y < 0)
  | [], [] => by simp [el, li, cml]
  | [], y :: b => by
    obtain ⟨c, r, h⟩ := el_ne y b
    rw [h]; simp [el, li, cml]
  | x :: a, [] => by simp [el, li, cml]
  | x :: a, y :: b => by
    rw [cml]
    by_cases h : x = y
    · subst h
      rw [if_pos rfl, el, el, li_pre]; exact el_order a b
    · rw [if_neg h, el, el]; exact eb_order x y _ _ h
theorem cml_zero : ∀ {x y : List Lb}, cml x y = 0 ↔ x = y
  | [], [] => by simp [cml]
  | [], _ :: _ => by simp [cml]
  | _ :: _, [] => by simp [cml]
  | x :: a, y :: b => by
    rw [cml]
    by_cases h : x = y
    · subst h
      rw [if_pos rfl, cml_zero]; simp
    · rw [if_neg h, cm1_zero]; simp [h]
theorem str_less {a b : List Int} (ha : Bytes a) (hb : Bytes b) : Op.bytesLess (strOfNums a).toList (strOfNums b).toList = li a b := by rw [bl_eq, nums_str ha, nums_str hb]
theorem str_eq {a b : List Int} (ha : Bytes a) (hb : Bytes b) : ((strOfNums a).toList == (strOfNums b).toList) = decide (a = b) := by
  rw [beq_eq]
  by_cases h : a = b
  · subst h; simp
  · rw [decide_eq_false h, decide_eq_false (fun e => h (str_inj ha hb e))]
theorem str_append (xs ys : List Int) : strOfNums xs ++ strOfNums ys = strOfNums (xs ++ ys) := by
  apply ByteArray.ext
  simp [strOfNums]
theorem str_size (xs : List Int) : (strOfNums xs).size = xs.length := by simp [strOfNums, ByteArray.size]
end Go.Proofs.Ythklkhdcmoonkaa
