/- Items compared and cloned; items in memory as rows of values. Conditions: those of each theorem. -/
import Derived.Test.YtkojbpifcflgfaaMob
import Derived.Test.YtkojbpifcflgfaaPi
import Derived.Test.YtkojbpifcflgfaaVa
namespace Go.Proofs.Ytkojbpifcflgfaa
open Go.RowKit Go.Shelf

theorem stoL : STO li := ⟨li_irr, li_trans, li_total⟩
/-- An item: where it lies, and its bytes. -/
structure Bs where
  a : Option Addr
  n : Nat
  c : Nat
  bs : List Int
/-- An item that is there whatever is made behind what there is now. -/
def Eb (w : World) : Type := { x : Bs // ∀ U, Below w.heap.size w U → IsI .u8 U x.a x.n x.c x.bs ∧ Bytes x.bs }
instance (w : World) : Inhabited (Eb w) := ⟨⟨⟨none, 0, 0, []⟩, fun U _ => ⟨isI_nil _ U, bytes_nil⟩⟩⟩
def kB (w : World) : B.Ks (Eb w) := ⟨fun x => .slice x.1.a x.1.n x.1.c, 25, fun x y => ci x.1.bs y.1.bs, w.heap.size, w⟩
theorem kB_lt (w : World) (x y : Eb w) : (kB w).lt x y = li x.1.bs y.1.bs := by
  show decide (ci x.1.bs y.1.bs < 0) = _
  cases h : li x.1.bs y.1.bs with
  | true => simp [ci_neg.2 h]
  | false => simp; have := mt ci_neg.1 (by simp [h] : ¬ li x.1.bs y.1.bs = true); omega
theorem okB (w : World) : B.Ok (kB w) where
  shp x := ⟨_, _, _, rfl⟩
  one _ := rfl
  one' _ := rfl
  swo := ⟨fun x => by rw [kB_lt]; exact li_irr _, fun x y z h1 h2 => by rw [kB_lt] at *; exact li_trans _ _ _ h1 h2, fun x y z h1 h2 => by
    rw [kB_lt] at *
    by_cases e : x.1.bs = y.1.bs
    · rw [e]; exact h2
    · have h3 := li_total _ _ e h1
      cases h4 : li x.1.bs z.1.bs with
      | false => rfl
      | true => rw [li_trans _ _ _ h3 h4] at h2; cases h2⟩
  cmp x y W hW := (compare_any x.1.a y.1.a x.1.n x.1.c y.1.n y.1.c x.1.bs y.1.bs W (x.2 W hW).2 (y.2 W hW).2 (x.2 W hW).1 (y.2 W hW).1).mono fun _ _ ⟨h1, h2⟩ => ⟨h1, 0, h2⟩
  enters := enters_of Try.func25 (by kernel_rfl) rfl
theorem totB (w : World) : B.Tot (kB w) where
  refl x := ci_zero.2 rfl
  symm x y h := ci_zero.2 (ci_zero.1 h).symm
  eqt x y z h1 h2 := ci_zero.2 ((ci_zero.1 h1).trans (ci_zero.1 h2))
  lte x y z h1 h2 := by
    have e : y.1.bs = z.1.bs := ci_zero.1 h2
    rw [kB_lt] at *; rw [← e]; exact h1
  elt x y z h1 h2 := by
    have e : x.1.bs = y.1.bs := ci_zero.1 h1
    rw [kB_lt] at *; rw [e]; exact h2
  tot x y h1 h2 := by
    rw [kB_lt] at *
    exact li_total _ _ (fun e => h2 (ci_zero.2 e)) h1

theorem exists_list {X : Type} : ∀ (n : Nat) (P : Nat → X → Prop), (∀ i, i < n → ∃ x, P i x) → ∃ l : List X, l.length = n ∧ ∀ i x, l[i]? = some x → P i x
  | 0, _, _ => ⟨[], rfl, fun i x h => by simp at h⟩
  | n + 1, P, h => by
    obtain ⟨l, h1, h2⟩ := exists_list n P (fun i hi => h i (by omega))
    obtain ⟨x, hx⟩ := h n (by omega)
    refine ⟨l ++ [x], by simp [h1], fun i y hy => ?_⟩
    by_cases e : i < n
    · rw [List.getElem?_append_left (by omega)] at hy; exact h2 i y hy
    · have e2 : i = n := by
        have := (List.getElem?_eq_some_iff.1 hy).1
        simp at this; omega
      subst e2
      rw [List.getElem?_append_right (by omega)] at hy
      simp [h1] at hy
      subst hy; exact hx
def bsE {w : World} (x : Eb w) : List Int := x.1.bs
/-- A slice of items as values. -/
theorem isS_of_isR {w : World} {a : Option Addr} {n c : Nat} {ls : List (List Int)} (h : IsR w a n c ls) (hw : WfR ls) : ∃ xs : List (Eb w), B.IsS (kB w) w a n c xs ∧ xs.map bsE = ls := by
  have hl := h.hl
  obtain ⟨xs, h1, h2⟩ := exists_list n (fun i (x : Eb w) => bsE x = ls.getD i [] ∧ ∀ b off, a = some ⟨b, off, none⟩ → w.cell? ⟨b, off + i, none⟩ = some ((kB w).enc x)) (fun i hi => by
    obtain ⟨b, off, ai, ni, ci', e1, e2, e3, e4⟩ := h.rd.at (k := i) (by omega)
    refine ⟨⟨⟨ai, ni, ci', ls.getD i []⟩, fun U hU => ⟨e4.below hU, hw _ (getD_memR (by omega))⟩⟩, rfl, fun b' off' e => ?_⟩
    rw [e1] at e; cases e
    exact e3)
  have hm : xs.map bsE = ls := by
    apply List.ext_getElem?
    intro i
    rw [List.getElem?_map]
    by_cases hi : i < n
    · rw [List.getElem?_eq_getElem (by omega)]
      have := (h2 i xs[i] (List.getElem?_eq_getElem (by omega))).1
      rw [List.getElem?_eq_getElem (by omega)]
      simp only [Option.map_some, this, getD_eqR (show i < ls.length by omega)]
    · rw [List.getElem?_eq_none (by omega), List.getElem?_eq_none (by omega)]; rfl
  refine ⟨xs, ⟨h1, h.hc, h.hm, h.nil, fun ad e j u hu => ?_⟩, hm⟩
  rw [List.getElem?_map] at hu
  cases hx : xs[j]? with
  | none => rw [hx] at hu; simp at hu
  | some x =>
    rw [hx] at hu; simp at hu
    have hj : j < n := by have := (List.getElem?_eq_some_iff.1 hx).1; omega
    obtain ⟨b, off, ai, ni, ci', e1, e2, e3, e4⟩ := h.rd.at (k := j) (by omega)
    rw [e] at e1; cases e1
    rw [Addr.add_lit, ← hu]
    exact (h2 j x hx).2 b off e
/-- A slice of slices of items. -/
structure IsRR (w : World) (a : Option Addr) (n c : Nat) (rows : List (List (List Int))) : Prop where
  len : rows.length = n
  le : n ≤ c
  rd : ∀ i, i < n → ∃ b off ai ni ci, a = some ⟨b, off, none⟩ ∧ w.cell? ⟨b, off + i, none⟩ = some (.slice ai ni ci) ∧ IsR w ai ni ci (rows.getD i []) ∧ WfR (rows.getD i [])
theorem isSS_of_isRR {w : World} {a : Option Addr} {n c : Nat} {rows : List (List (List Int))} (h : IsRR w a n c rows) : ∃ R : List (List (Eb w)), B.IsSS (kB w) w a n c R ∧ R.map (·.map bsE) = rows := by
  have hl := h.len
  obtain ⟨R, h1, h2⟩ := exists_list n (fun i (xs : List (Eb w)) => xs.map bsE = rows.getD i [] ∧ ∃ b off ai ni ci, a = some ⟨b, off, none⟩ ∧ w.cell? ⟨b, off + i, none⟩ = some (.slice ai ni ci) ∧ B.IsS (kB w) w ai ni ci xs) (fun i hi => by
    obtain ⟨b, off, ai, ni, ci', e1, e2, e3, e4⟩ := h.rd i hi
    obtain ⟨xs, x1, x2⟩ := isS_of_isR e3 e4
    exact ⟨xs, x2, b, off, ai, ni, ci', e1, e2, x1⟩)
  refine ⟨R, ⟨h1, h.le, fun i hi => ?_⟩, ?_⟩
  · have hx : R[i]? = some R[i] := List.getElem?_eq_getElem (by omega)
    obtain ⟨_, b, off, ai, ni, ci', e1, e2, e3⟩ := h2 i _ hx
    have e : R.getD i [] = R[i] := by simp [List.getD, hx]
    rw [e]
    exact ⟨b, off, ai, ni, ci', e1, e2, e3⟩
  · apply List.ext_getElem?
    intro i
    rw [List.getElem?_map]
    by_cases hi : i < n
    · have hx : R[i]? = some R[i] := List.getElem?_eq_getElem (by omega)
      rw [hx, List.getElem?_eq_getElem (by omega)]
      have := (h2 i _ hx).1
      simp only [Option.map_some, this]
      simp [List.getD, show i < rows.length by omega]
    · rw [List.getElem?_eq_none (by omega), List.getElem?_eq_none (by omega)]; rfl
/-- The items of any rows. -/
theorem mt_items {w : World} {R : List (List (Eb w))} {xs : List (Eb w × Nat)} (h : B.Mt (kB w) R xs) : xs.map (fun p => bsE p.1) = inss li (R.map (·.map bsE)).flatten := by
  refine inss_eq stoL ?_ (fun z => ?_)
  · have := h.inc
    rw [List.pairwise_map] at this ⊢
    exact this.imp (fun {a b} hab => by rw [kB_lt] at hab; exact hab)
  · rw [List.mem_flatten]
    constructor
    · intro hz
      obtain ⟨p, hp, rfl⟩ := List.mem_map.1 hz
      obtain ⟨r, h1, h2⟩ := h.sub p hp
      exact ⟨r.map bsE, List.mem_map.2 ⟨r, h1, rfl⟩, List.mem_map.2 ⟨_, h2, rfl⟩⟩
    · rintro ⟨r, h1, h2⟩
      obtain ⟨r', h3, rfl⟩ := List.mem_map.1 h1
      obtain ⟨x, h4, rfl⟩ := List.mem_map.1 h2
      obtain ⟨p, hp, hc⟩ := h.all r' h3 x h4
      exact List.mem_map.2 ⟨p, hp, (ci_zero.1 hc).symm⟩
end Go.Proofs.Ytkojbpifcflgfaa
