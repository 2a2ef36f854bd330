/- Plain: with one byte of its kind, its body or its sum turned a frame's sum is another one; a cell of an own row, written. Conditions: those of each theorem. -/
import Derived.Test.YtifkpimglmncdaaDoorPl
namespace Go.Proofs.YtifkpimglmncdaaDoor
open Go.RowKit

theorem set_other (w : World) (g : Nat) {i j : Nat} (h : j ≠ i) {v : Value} : (w.setCell ⟨g, j, none⟩ v).cell? ⟨g, i, none⟩ = w.cell? ⟨g, i, none⟩ := by
  apply World.cell?_setCell_other
  intro e
  simp only [Addr.mk.injEq] at e
  exact h e.2.1
/-- A cell of an own row, written. -/
theorem isI_set {w : World} {base g n c : Nat} {xs : List Int} (h : w.ownsRow base 5 1 (.slice (some ⟨g, 0, none⟩) n c) n (xs.map (Value.int .u8))) (j : Nat) (y : Int) (hj : j < n) : IsI .u8 (w.setCell ⟨g, j, none⟩ (.int .u8 y)) (some ⟨g, 0, none⟩) n c (xs.set j y) := by
  have hl : xs.length = n := by have := h.1; simpa using this
  obtain ⟨h1, h2, _, _⟩ := own_cap h
  refine ⟨by rw [List.length_set, hl], h1, h2, .inr ⟨g, 0, rfl, ?_, fun i hi => ?_⟩, fun e => by cases e⟩
  · have := (h.lt g rfl).2
    simpa using this
  · rw [List.length_set, hl] at hi
    rw [Nat.zero_add]
    by_cases e : i = j
    · subst e
      rw [World.cell?_setCell_same' w _ _ (by rw [h.cellAt i (by omega)]; simp [hl, hj])]
      simp [List.getD, hl, hj]
    · rw [set_other w g (fun q => e q.symm), h.cellAt i (by omega)]
      simp [List.getD, hl, hi, Ne.symm e]
theorem xor_u8 {x : Int} (hx : 0 ≤ x ∧ x ≤ 255) {p : Nat} (hp0 : 0 < p) (hp : p < 256) : ∃ y : Int, bits .xor .u8 x (p : Int) = y ∧ 0 ≤ y ∧ y ≤ 255 ∧ y ≠ x := by
  obtain ⟨n, rfl⟩ : ∃ n : Nat, x = (n : Int) := ⟨x.toNat, by omega⟩
  refine ⟨((n ^^^ p : Nat) : Int), u8_xor_nat n p (by omega) hp, by omega, ?_, ?_⟩
  · have := Nat.xor_lt_two_pow (n := 8) (x := n) (y := p) (by omega) hp
    omega
  · intro e
    have e' : n ^^^ p = n := by omega
    have := congrArg (n ^^^ ·) e'
    simp only [← Nat.xor_assoc, Nat.xor_self, Nat.zero_xor] at this
    omega
theorem two_pow8 (bit : Int) : ∃ p : Nat, (2 : Int) ^ (bit % 8).toNat % 256 = (p : Int) ∧ 0 < p ∧ p < 256 := by
  have ht : (bit % 8).toNat < 8 := by omega
  generalize (bit % 8).toNat = t at ht
  match t, ht with
  | 0, _ => exact ⟨1, by decide, by decide, by decide⟩
  | 1, _ => exact ⟨2, by decide, by decide, by decide⟩
  | 2, _ => exact ⟨4, by decide, by decide, by decide⟩
  | 3, _ => exact ⟨8, by decide, by decide, by decide⟩
  | 4, _ => exact ⟨16, by decide, by decide, by decide⟩
  | 5, _ => exact ⟨32, by decide, by decide, by decide⟩
  | 6, _ => exact ⟨64, by decide, by decide, by decide⟩
  | 7, _ => exact ⟨128, by decide, by decide, by decide⟩
theorem set_parts {l : List Int} {i : Nat} (h : i < l.length) (y : Int) : l = l.take i ++ l.getD i 0 :: l.drop (i + 1) ∧ l.set i y = l.take i ++ y :: l.drop (i + 1) := by
  refine ⟨?_, List.set_eq_take_append_cons_drop .. |>.trans (by rw [if_pos h])⟩
  have e : l.getD i 0 = l[i] := by simp [List.getD, h]
  rw [e, ← List.drop_eq_getElem_cons h, List.take_append_drop]
theorem bytes_append {a b : List Int} (ha : Bytes a) (hb : Bytes b) : Bytes (a ++ b) := fun x hx => by
  rcases List.mem_append.1 hx with h | h
  · exact ha x h
  · exact hb x h
theorem bytes_drop {a : List Int} (ha : Bytes a) (i : Nat) : Bytes (a.drop i) := fun x hx => ha x (List.mem_of_mem_drop hx)
theorem bytes_set {a : List Int} (ha : Bytes a) (i : Nat) {y : Int} (hy : 0 ≤ y ∧ y ≤ 255) : Bytes (a.set i y) := fun x hx => by
  rcases List.mem_or_eq_of_mem_set hx with h | rfl
  · exact ha x h
  · exact hy
/-- With one byte of the kind, the body or the sum turned. -/
theorem turned {zs : List Int} (hz : Bytes zs) (hn : zs.length ≤ 65535) {j : Nat} (hj : j < (frm 7 zs).length) (hnot : j = 0 ∨ 1 + (bs zs.length).length ≤ j) {y : Int} (hy : 0 ≤ y ∧ y ≤ 255) (hne : y ≠ (frm 7 zs).getD j 0) :
    ∃ kind zs' s4, (frm 7 zs).set j y = hd kind zs' ++ s4 ∧ kind ≤ 255 ∧ zs'.length ≤ 65535 ∧ Bytes zs' ∧ Bytes s4 ∧ s4.length = 4 ∧ jn s4 0 ≠ crc (hd kind zs') := by
  have hbb : Bytes (bs zs.length) := fun x hx => bs_mem64 (by omega) x hx
  have h4 : Bytes (tl (crc (hd 7 zs))) := tl_bytes (crc_lt _)
  rcases hnot with rfl | hge
  · refine ⟨y.toNat, zs, tl (crc (hd 7 zs)), ?_, by omega, hn, hz, h4, rfl, ?_⟩
    · simp [frm, hd]; omega
    · rw [jn_tl (crc_lt _)]
      have hne' : (7 : Int) ≠ y := by intro e; apply hne; simp [frm, hd, e.symm]
      have := crc_turn (a := []) (b := bs zs.length ++ zs) (x := 7) (y := y) (fun x hx => by cases hx) (bytes_append hbb hz) (by decide) hy hne'
      have e : hd y.toNat zs = y :: (bs zs.length ++ zs) := by simp only [hd]; rw [Int.toNat_of_nonneg hy.1]
      rw [e]
      exact this
  · have hhl := hd_length 7 zs
    by_cases hb : j < (hd 7 zs).length
    · -- the body
      obtain ⟨i, hi⟩ : ∃ i, j = 1 + (bs zs.length).length + i := ⟨j - (1 + (bs zs.length).length), by omega⟩
      have hiz : i < zs.length := by omega
      obtain ⟨p1, p2⟩ := set_parts hiz y
      have hx : (frm 7 zs).getD j 0 = zs.getD i 0 := by
        have := at_mid ((7 : Int) :: bs zs.length) zs (tl (crc (hd 7 zs))) i hiz
        have e : ((7 : Int) :: bs zs.length).length = 1 + (bs zs.length).length := by simp; omega
        rw [e, ← hi] at this
        have e2 : frm 7 zs = (7 : Int) :: bs zs.length ++ zs ++ tl (crc (hd 7 zs)) := by simp [frm, hd]
        rw [e2, List.getD_eq_getElem?_getD, this]; rfl
      rw [hx] at hne
      refine ⟨7, zs.set i y, tl (crc (hd 7 zs)), ?_, by decide, by rw [List.length_set]; exact hn, bytes_set hz i hy, h4, rfl, ?_⟩
      · have e2 : frm 7 zs = ((7 : Int) :: bs zs.length) ++ (zs ++ tl (crc (hd 7 zs))) := by simp [frm, hd]
        rw [e2, List.set_append_right _ _ (by simp; omega), List.set_append_left _ _ (by simp; omega)]
        have e3 : j - ((7 : Int) :: bs zs.length).length = i := by simp; omega
        rw [e3]
        simp [hd]
      · rw [jn_tl (crc_lt _)]
        have := crc_turn (a := (7 : Int) :: bs zs.length ++ zs.take i) (b := zs.drop (i + 1)) (x := zs.getD i 0) (y := y) (bytes_append (fun x hx => by
          rcases List.mem_cons.1 hx with rfl | hx
          · decide
          · exact hbb x hx) (bytes_take hz i)) (bytes_drop hz _) (bytes_getD hz hiz) hy (Ne.symm hne)
        have e1 : hd 7 zs = (7 : Int) :: bs zs.length ++ zs.take i ++ zs.getD i 0 :: zs.drop (i + 1) := by
          rw [List.append_assoc, ← p1]; simp [hd]
        have e2 : hd 7 (zs.set i y) = (7 : Int) :: bs zs.length ++ zs.take i ++ y :: zs.drop (i + 1) := by
          rw [List.append_assoc, ← p2]; simp [hd]
        rw [e1, e2]
        exact this
    · -- the sum
      obtain ⟨i, hi⟩ : ∃ i, j = (hd 7 zs).length + i := ⟨j - (hd 7 zs).length, by omega⟩
      have hi4 : i < (tl (crc (hd 7 zs))).length := by rw [frm, List.length_append] at hj; omega
      have hx : (frm 7 zs).getD j 0 = (tl (crc (hd 7 zs))).getD i 0 := by
        rw [frm, List.getD_eq_getElem?_getD, List.getElem?_append_right (by omega), hi, Nat.add_sub_cancel_left]; rfl
      rw [hx] at hne
      have hs4 : Bytes ((tl (crc (hd 7 zs))).set i y) := bytes_set h4 i hy
      refine ⟨7, zs, (tl (crc (hd 7 zs))).set i y, ?_, by decide, hn, hz, hs4, by rw [List.length_set]; rfl, ?_⟩
      · rw [frm, List.set_append_right _ _ (by omega), hi, Nat.add_sub_cancel_left]
      · intro e
        have hl4 : ((tl (crc (hd 7 zs))).set i y).length = 4 := by rw [List.length_set]; rfl
        have key : tl (jn ((tl (crc (hd 7 zs))).set i y) 0) = (tl (crc (hd 7 zs))).set i y := by
          generalize (tl (crc (hd 7 zs))).set i y = q at hl4 hs4
          match q, hl4, hs4 with
          | [a, b, c, d], _, h => exact tl_jn h
        rw [e] at key
        have hg := congrArg (fun l => List.getD l i 0) key
        simp only [List.getD_eq_getElem?_getD, List.getElem?_set_self hi4] at hg
        exact hne (by rw [List.getD_eq_getElem?_getD]; exact hg.symm)

theorem IsI.take {k : IntKind} {w : World} {a : Option Addr} {n c : Nat} {l : List Int} (h : IsI k w a n c l) {m : Nat} (hm : m ≤ n) : IsI k w a m c (l.take m) :=
  ⟨by rw [List.length_take, h.hl]; omega, by have := h.hc; omega, h.hm, h.rd.take m, h.nil⟩
end Go.Proofs.YtifkpimglmncdaaDoor
