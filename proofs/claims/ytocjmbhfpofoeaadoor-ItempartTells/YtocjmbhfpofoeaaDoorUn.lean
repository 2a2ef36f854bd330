/- The contract of Unpack. Conditions: those of the theorem. -/
import Derived.Test.YtocjmbhfpofoeaaDoorTo
namespace Go.Proofs.YtocjmbhfpofoeaaDoor
open Go.RowKit

/-- What Unpack answers. -/
def Upks (w : World) (z : List Int) (e : Ending) (w' : World) : Prop :=
  (∃ a n c, e = .returned (.tuple #[.slice a n c, .int .i64 (upk z).2]) ∧ IsN w.heap.size w' a n c (upk z).1 ∧ WfR (upk z).1) ∧ Below w.heap.size w w'
theorem wfR_nil : WfR [] := fun l hl => by simp at hl
theorem upks_err {w w' : World} {z : List Int} {x : Int} (h : upk z = ([], x)) (hb : Below w.heap.size w w') : Upks w z (.returned (.tuple #[.slice none 0 0, .int .i64 x])) w' :=
  ⟨⟨none, 0, 0, by rw [h], by rw [h]; exact isN_nil _ _, by rw [h]; exact wfR_nil⟩, hb⟩
theorem upks_ok {w w' : World} {z : List Int} {L : List (List Int)} {a : Option Addr} {n c : Nat} (h : upk z = (L, 0)) (hR : IsN w.heap.size w' a n c L) (hW : WfR L) (hb : Below w.heap.size w w') : Upks w z (.returned (.tuple #[.slice a n c, .int .i64 0])) w' :=
  ⟨⟨a, n, c, by rw [h], by rw [h]; exact hR, by rw [h]; exact hW⟩, hb⟩

set_option maxHeartbeats 3200000 in
theorem unpack_any (a : Option Addr) (nb cb : Nat) (z : List Int) (w : World) (hI : IsI .u8 w a nb cb z) (hz : Bytes z) (hn : nb ≤ 1000000) :
    Calls Tryd.prog 52 #[.slice a nb cb] w (Upks w z) := by
  have HT : Hid _ := told_any a nb cb z w hI hz hn
  have HI : Hid (IsI .u8 w a nb cb z ∧ Bytes z) := ⟨hI, hz⟩
  clear hI hz
  obtain ⟨x, hx⟩ : ∃ x, Hid (x = (tla z).2) := ⟨_, rfl⟩
  go_enter Tryd.func52, Tryd.ntmps52
  go_wp2_with fail
  refine Calls.mono HT.out ?_
  rintro e w1 ⟨⟨v, a1, n1, c1, L, rfl, rfl, hR, hW, hL⟩, hb⟩
  rw [← hx.out] at hL ⊢
  have HN : Hid (IsN w.heap.size w1 a1 n1 c1 L) := hR
  replace hR := hR.isR
  have H1 : Hid (IsR w1 a1 n1 c1 L ∧ WfR L ∧ (x = 0 → L = (tla z).1) ∧ Below w.heap.size w w1) := ⟨hR, hW, hL, hb⟩
  clear hR hW hL hb HT
  by_cases h0 : x = 0
  · subst h0
    have hLL := H1.out.2.2.1 rfl
    have HU : Hid (upk z = if chk L = 0 ∧ pk L = z then (L, 0) else ([], 11)) := by
      show upk z = _
      unfold upk
      rw [← hx.out, if_neg (by decide), ← hLL]
    clear hLL
    by_cases hc : chk L = 0
    · go_wp2_with fail
      refine Calls.mono (pack_ok a1 n1 c1 L w1 H1.out.1 H1.out.2.1 hc) ?_
      rintro e w2 ⟨v2, rfl, ho, hb2⟩
      obtain ⟨a2, c2, rfl, hI2⟩ := own_isI ho
      have HB : Hid (Below w.heap.size w w2 ∧ IsR w2 a1 n1 c1 L ∧ IsN w.heap.size w2 a1 n1 c1 L) := ⟨H1.out.2.2.2.trans (hb2.mono H1.out.2.2.2.size), H1.out.1.below hb2, HN.out.below hb2⟩
      have HE : Hid _ := equal_any a2 a _ c2 nb cb (pk L) z w2 (pk_bytes hc H1.out.2.1) HI.out.2 hI2 (HI.out.1.below HB.out.1)
      clear ho hb2 hI2
      obtain ⟨P, hP⟩ : ∃ P, Hid (P = (pk L).length) := ⟨_, rfl⟩
      rw [← hP.out] at HE ⊢
      obtain ⟨q, hq⟩ : ∃ q, Hid (q = decide (pk L = z)) := ⟨_, rfl⟩
      rw [← hq.out] at HE
      cases q with
      | true =>
        go_wp2_with fail
        refine Calls.mono HE.out ?_
        rintro e w3 ⟨rfl, hw3⟩; rw [hw3]; clear hw3 w3
        go_wp2_with fail
        go_ret2
        have hu := HU.out
        rw [if_pos ⟨hc, of_decide_eq_true hq.out.symm⟩] at hu
        exact upks_ok hu HB.out.2.2 H1.out.2.1 HB.out.1
      | false =>
        go_wp2_with fail
        refine Calls.mono HE.out ?_
        rintro e w3 ⟨rfl, hw3⟩; rw [hw3]; clear hw3 w3
        go_wp2_with fail
        go_ret2
        have hu := HU.out
        rw [if_neg (fun h => of_decide_eq_false hq.out.symm h.2)] at hu
        exact upks_err hu HB.out.1
    · have HP : Hid _ := pack_err a1 n1 c1 L w1 H1.out.1 H1.out.2.1 hc
      obtain ⟨y, hy⟩ : ∃ y, Hid (y = chk L) := ⟨_, rfl⟩
      have HC : Hid (¬ chk L = 0) := hc
      rw [← hy.out] at HP hc
      have hy' : (y == 0) = false := by simpa using hc
      have hy2 : (y != 0) = true := by simpa using hc
      clear hc
      go_wp2_with fail
      refine Calls.mono HP.out ?_
      rintro e w2 ⟨rfl, hw2⟩; rw [hw2]; clear hw2 w2
      go_wp2_with fail
      go_ret2
      have hu := HU.out
      rw [if_neg (fun h => HC.out h.1)] at hu
      exact upks_err hu H1.out.2.2.2
  · have hx' : (x == 0) = false := by simpa using h0
    go_wp2_with fail
    go_ret2
    refine upks_err ?_ H1.out.2.2.2
    unfold upk
    rw [← hx.out, if_pos h0]
end Go.Proofs.YtocjmbhfpofoeaaDoor
