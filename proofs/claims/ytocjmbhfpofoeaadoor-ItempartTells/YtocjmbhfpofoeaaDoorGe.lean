/- What the making of a file keeps in memory. No conditions but those of each theorem. -/
import Derived.Test.YtocjmbhfpofoeaaDoorGd
import Derived.Deep.AppendLies
namespace Go.Proofs.YtocjmbhfpofoeaaDoor
open Go.RowKit

/-- Cells that are rows of an index. -/
def RdHv (U : World) (cs : List Value) (H : List (Nat × List Int)) : Prop :=
  cs.length = H.length * 2 ∧ ∀ i, i < H.length → cs[i * 2]? = some (.int .i64 ((H.getD i (0, [])).1 : Int)) ∧ ∃ a n c, cs[i * 2 + 1]? = some (.slice a n c) ∧ IsI .u8 U a n c (H.getD i (0, [])).2
theorem rdHv_nil (U : World) : RdHv U [] [] := ⟨rfl, fun i hi => by simp at hi⟩
theorem rdHv_snoc {U : World} {cs : List Value} {H : List (Nat × List Int)} (h : RdHv U cs H) {t n c : Nat} {a : Option Addr} {f : List Int} (hI : IsI .u8 U a n c f) : RdHv U (cs ++ [.int .i64 (t : Int), .slice a n c]) (H ++ [(t, f)]) := by
  refine ⟨by simp [h.1]; omega, fun i hi => ?_⟩
  rcases Nat.lt_or_ge i H.length with h1 | h1
  · obtain ⟨e0, a', n', c', e1, ht⟩ := h.2 i h1
    have hg : (H ++ [(t, f)]).getD i (0, []) = H.getD i (0, []) := by simp [List.getD, List.getElem?_append_left h1]
    rw [hg]
    exact ⟨by rw [List.getElem?_append_left (by rw [h.1]; omega)]; exact e0, a', n', c', by rw [List.getElem?_append_left (by rw [h.1]; omega)]; exact e1, ht⟩
  · obtain rfl : i = H.length := by simp at hi; omega
    have hg : (H ++ [(t, f)]).getD H.length (0, []) = (t, f) := by simp [List.getD]
    rw [hg]
    refine ⟨?_, a, n, c, ?_, hI⟩
    · rw [List.getElem?_append_right (by rw [h.1]; exact Nat.le_refl _), h.1, Nat.sub_self]; rfl
    · rw [List.getElem?_append_right (by rw [h.1]; omega), h.1, show H.length * 2 + 1 - H.length * 2 = 1 by omega]; rfl
theorem own_isH {U : World} {base m : Nat} {v : Value} {cs : List Value} {H : List (Nat × List Int)} (h : U.ownsRow base 68 2 v m cs) (hr : RdHv U cs H) : ∃ a c, v = .slice a m c ∧ IsH U a m c H := by
  have hl := h.1
  rw [hr.1] at hl
  by_cases hn : 0 < m
  · obtain ⟨g, cap, h1, h2, h3, h4, h5, h6, _⟩ := own_cell h hn
    refine ⟨_, cap, h1, ⟨by omega, h4, h5, .inr ⟨g, 0, rfl, h3, fun i hi => ?_⟩, fun h => by cases h⟩⟩
    obtain ⟨e0, a, k, c, e1, ht⟩ := hr.2 i hi
    rw [Nat.zero_add]
    exact ⟨h6 _ _ e0, a, k, c, h6 _ _ e1, ht⟩
  · obtain rfl : m = 0 := by omega
    have hv : H = [] := List.eq_nil_of_length_eq_zero (by omega)
    rcases h.2 with ⟨h1, _⟩ | ⟨g, cap, cur, h1, _, _, h4, h5, _⟩
    · exact ⟨none, 0, h1, ⟨by omega, Nat.le_refl _, Nat.zero_le _, .inl hv, fun _ => rfl⟩⟩
    · exact ⟨_, cap, h1, ⟨by omega, h4, h5, .inl hv, fun h => by cases h⟩⟩
/-- What one more block makes of what is there. -/
theorem hs_take (Bs : List (List (List Int))) {k : Nat} (h : k < Bs.length) : hs 0 (Bs.take (k + 1)) = hs 0 (Bs.take k) ++ [((fb (Bs.take k)).length, (Bs.getD k []).headD [])] := by
  rw [take_snocB _ _ h, hs_snoc, Nat.zero_add]
theorem fb_take (Bs : List (List (List Int))) {k : Nat} (h : k < Bs.length) : fb (Bs.take (k + 1)) = fb (Bs.take k) ++ frm 1 (pk (Bs.getD k [])) := by
  rw [take_snocB _ _ h, fb_snoc]
theorem hs_wf : ∀ {Bs : List (List (List Int))} {n : Nat}, (∀ B ∈ Bs, chk B = 0) → (∀ B ∈ Bs, WfR B) → n + 3240 * Bs.length ≤ 1000000 → WfH (hs n Bs)
  | [], _, _, _, _ => fun h hh => by simp [hs] at hh
  | B :: Bs, n, hc, hw, hn => by
    intro h hh
    have c := hc B (List.mem_cons_self ..)
    have b := hw B (List.mem_cons_self ..)
    simp only [List.length_cons] at hn
    rcases List.mem_cons.1 hh with e | e
    · subst e
      refine ⟨by simp only; omega, headD_bytes b, fun e => ?_, headD_le c⟩
      obtain ⟨_, h2, h3⟩ := chk_zero c
      cases B with
      | nil => exact h2 rfl
      | cons x r => exact li_ne_nil (good_cons h3).2.1 e
    · have := blk_le c
      exact hs_wf (fun C hC => hc C (List.mem_cons_of_mem _ hC)) (fun C hC => hw C (List.mem_cons_of_mem _ hC)) (by omega) h e
theorem ix_bytes {H : List (Nat × List Int)} (h : WfH H) (hl : H.length ≤ 1000000) : Bytes (ix H) := by
  refine bytes_append (bs_bytes (by omega)) ?_
  have : ∀ {K : List (Nat × List Int)}, WfH K → Bytes (ib K) := by
    intro K
    induction K with
    | nil => intro _; exact bytes_nil
    | cons x r ih =>
      intro hK
      obtain ⟨h1, h2, _, h4⟩ := hK x (List.mem_cons_self ..)
      show Bytes (ir x ++ ib r)
      exact bytes_append (bytes_append (bytes_append (bs_bytes (by omega)) (bs_bytes (by omega))) h2) (ih fun y hy => hK y (List.mem_cons_of_mem _ hy))
  exact this h
theorem ix_le {H : List (Nat × List Int)} (h : WfH H) (hl : H.length ≤ 250) : (ix H).length ≤ 105010 := by
  have := ib_le h
  have := bs_le10 (u := H.length) (by omega)
  rw [ix, List.length_append]; omega
theorem fil_bytes {l : List (List Int)} (h : chkF l = 0) (hw : WfR l) : Bytes (fil l) := by
  have h1 := ch_le h
  have h2 := hs_wf (n := 0) (ch_chk_mem h) (ch_wf hw) (by omega)
  have h3 := ix_le h2 (by rw [hs_len]; omega)
  have h4 := fbc_le h
  exact bytes_append (bytes_append (fb_bytes (ch_chk_mem h) (ch_wf hw)) (frm_bytes (by decide) (by omega) (ix_bytes h2 (by rw [hs_len]; omega)))) (tl_bytes (by omega))
end Go.Proofs.YtocjmbhfpofoeaaDoor
