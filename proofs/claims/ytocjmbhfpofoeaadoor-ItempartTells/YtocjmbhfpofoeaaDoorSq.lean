/- The contract of Split. Conditions: sizes. -/
import Derived.Test.YtocjmbhfpofoeaaDoorGa
namespace Go.Proofs.YtocjmbhfpofoeaaDoor
open Go.RowKit

/-- A piece of a row of items. -/
theorem IsR.piece {w : World} {g off len cap : Nat} {ls : List (List Int)} (h : IsR w (some ⟨g, off, none⟩) len cap ls) (f t : Nat) (hf : f < t) (ht : t ≤ len) : IsR w (some ⟨g, off + f, none⟩) (t - f) (t - f) ((ls.drop f).take (t - f)) := by
  have hl := h.hl
  have hc := h.hc
  have hm := h.hm
  refine ⟨by simp; omega, Nat.le_refl _, by omega, ?_, fun e => by cases e⟩
  rcases h.rd with e | ⟨b, o, e, hb, hr⟩
  · subst e; simp at hl; omega
  · cases e
    refine .inr ⟨g, off + f, rfl, hb, fun i hi => ?_⟩
    simp only [List.length_take, List.length_drop] at hi
    obtain ⟨ai, ni, ci, e1, e2⟩ := hr (f + i) (by omega)
    refine ⟨ai, ni, ci, by rw [Nat.add_assoc]; exact e1, ?_⟩
    have : ((ls.drop f).take (t - f)).getD i [] = ls.getD (f + i) [] := by
      simp [List.getD, show i < t - f by omega]
    rw [this]; exact e2
/-- Values that are slices of these blocks. -/
def RdB (w : World) (xs : List Value) (Bs : List (List (List Int))) : Prop := xs.length = Bs.length ∧ ∀ i, i < Bs.length → ∃ a n c, xs[i]? = some (.slice a n c) ∧ IsR w a n c (Bs.getD i [])
theorem rdB_snoc {w : World} {xs : List Value} {Bs : List (List (List Int))} (h : RdB w xs Bs) {a : Option Addr} {n c : Nat} {B : List (List Int)} (hx : IsR w a n c B) : RdB w (xs ++ [.slice a n c]) (Bs ++ [B]) := by
  refine ⟨by simp [h.1], fun i hi => ?_⟩
  rcases Nat.lt_or_ge i Bs.length with h1 | h1
  · obtain ⟨a', n', c', e, ht⟩ := h.2 i h1
    refine ⟨a', n', c', ?_, ?_⟩
    · rw [List.getElem?_append_left (by rw [h.1]; exact h1)]; exact e
    · have : (Bs ++ [B]).getD i [] = Bs.getD i [] := by simp [List.getD, List.getElem?_append_left h1]
      rw [this]; exact ht
  · obtain rfl : i = Bs.length := by simp at hi; omega
    refine ⟨a, n, c, ?_, ?_⟩
    · rw [← h.1]; simp
    · have : (Bs ++ [B]).getD Bs.length [] = B := by simp [List.getD]
      rw [this]; exact hx
theorem take_snocB (Bs : List (List (List Int))) (k : Nat) (h : k < Bs.length) : Bs.take (k + 1) = Bs.take k ++ [Bs.getD k []] := by
  rw [List.take_succ_eq_append_getElem h]; simp [List.getD, h]

set_option maxRecDepth 20000 in
set_option maxHeartbeats 3200000 in
theorem split_any (a : Option Addr) (len cap : Nat) (ls : List (List Int)) (w : World) (hI : IsR w a len cap ls) (hlen : len ≤ 1000000) :
    Calls Tryd.prog 32 #[.slice a len cap] w fun e w' => ∃ v xs, e = .returned v ∧ w'.ownsRow w.heap.size 22 1 v (ch ls).length xs ∧ (∀ U : World, IsR U a len cap ls → RdB U xs (ch ls)) ∧ Below w.heap.size w w' := by
  obtain ⟨i0, hi0, hz0, hz1, hz2⟩ := info_parts Tryd.info22
  have hcl := ch_len ls
  rw [hI.hl] at hcl
  have hc := hI.hc
  have hm := hI.hm
  unfold maxLen at hm
  obtain ⟨m, hmm⟩ : ∃ m, m = (ch ls).length := ⟨_, rfl⟩
  rw [← hmm] at hcl ⊢
  have HI : Hid (IsR w a len cap ls ∧ m = (ch ls).length) := ⟨hI, hmm⟩
  have hnl : ∀ k, 8 * k < len → ∃ g off, a = some ⟨g, off, none⟩ := fun k hk => by
    rcases hI.rd with e | ⟨b, o, e, _⟩
    · have := hI.hl; rw [e] at this; simp at this; omega
    · exact ⟨b, o, e⟩
  have HN := (show Hid _ from hnl)
  clear hI hmm hnl
  go_enter Tryd.func32, Tryd.ntmps32
  go_wp2_with fail
  go_loopw [3, 4, 5] (fun v i _ wr => ∃ (k : Nat) (xs : List Value), k ≤ m ∧ i = .int .i64 ((8 * k : Nat) : Int) ∧ Hid (wr.ownsRow w.heap.size 22 1 v k xs ∧ (∀ U : World, IsR U a len cap ls → RdB U xs ((ch ls).take k)) ∧ Below w.heap.size w wr)) (fun _ i _ _ => len + 8 - (intOf i).toNat)
  case atStart =>
    exact ⟨0, [], Nat.zero_le _, rfl, ⟨World.ownsRow_nil _ _ _ _, fun U _ => ⟨rfl, fun i hi => by simp at hi⟩, Below.refl _ _⟩⟩
  case round =>
    obtain ⟨k, xs, hk, rfl, HR⟩ := hrel
    by_cases hlt : 8 * k < len
    · obtain ⟨g, off, rfl⟩ := HN.out k hlt
      have hlt' : ((8 * k : Nat) : Int) < (len : Int) := by omega
      obtain ⟨K, hK⟩ : ∃ K, K = 8 * k := ⟨_, rfl⟩
      obtain ⟨K8, hK8⟩ : ∃ K8, K8 = K + 8 := ⟨_, rfl⟩
      obtain ⟨t, ht⟩ : ∃ t, t = min K8 len := ⟨_, rfl⟩
      rw [← hK] at hlt hlt' ⊢
      have ht1 : K < t := by omega
      have ht2 : t ≤ len := by omega
      have hmin : ∀ ts ty w', Sem.run Tryd.prog (Builtin.min_ ts ty #[.int .i64 (K8 : Int), .int .i64 (len : Int)]) w' = .ok (.int .i64 (t : Int)) w' := by
        intro ts ty w'
        rw [run_min_int2]
        congr 2
        split <;> omega
      have hw1 : (K : Int) + 8 = (K8 : Int) := by omega
      have hw2 : IntKind.i64.wrap (K8 : Int) = (K8 : Int) := by rw [IntKind.wrap_i64]; omega
      have hp1 : (K : Int) ≤ (t : Int) := by omega
      have hp2 : (t : Int) ≤ (cap : Int) := by omega
      have hp3 : (t : Int) ≤ (len : Int) := by omega
      have hp4 : (K : Int) ≤ (len : Int) := by omega
      have hcne : ¬ cap = K := by omega
      have hk1 : k < m := by omega
      have HT : Hid (K = 8 * k ∧ K8 = K + 8 ∧ t = min K8 len) := ⟨hK, hK8, ht⟩
      obtain ⟨ho, hU, hb⟩ := HR.out
      have hbs := hb.size
      have HP : Hid (∀ U : World, IsR U (some ⟨g, off, none⟩) len cap ls → RdB U (xs ++ [.slice (some ⟨g, off + K, none⟩) (t - K) (t - K)]) ((ch ls).take (k + 1))) := fun U h => by
        have hcl : k < (ch ls).length := by rw [← HI.out.2]; exact hk1
        rw [take_snocB _ _ hcl, ch_get hcl]
        refine rdB_snoc (hU U h) ?_
        have h1 := h.piece K t ht1 ht2
        have e : (ls.drop K).take (t - K) = (ls.drop (8 * k)).take 8 := by
          rw [hK]
          by_cases h8 : K8 ≤ len
          · rw [show t - 8 * k = 8 by omega]
          · have hl := h.hl
            rw [List.take_of_length_le (by simp; omega), List.take_of_length_le (by simp; omega)]
        rwa [e] at h1
      have htK : (t : Int) - (K : Int) = ((t - K : Nat) : Int) := by omega
      have HO : Hid (wr.ownsRow w.heap.size 22 1 u3 k xs ∧ Below w.heap.size w wr) := ⟨ho, hb⟩
      clear ht hK hK8 hU ho hb
      go_wp2_with (at_builtin; refine wpList_append_own _ rfl (.tmp 17) (.tmp 23) 59 rfl w.heap.size 22 i0 _ 1 24 Tryd.underlying59 hi0 hz0 hz1 hz2 rfl (by decide) _ k _ rfl (HO.out.1.alloc _) ⟨wr.heap.size, 0, none⟩ 1 1 [_] rfl rfl (one_at _ _ _) (by intro u hu; simp at hu; subst hu; rfl) (by unfold maxLen; omega) (by omega) (by simp; omega) ?_; intro v1 w1 ho1 hg1 _)
      go_roundw
      case rel =>
        have h1 := HT.out
        refine ⟨k + 1, _, by omega, by rw [show K8 = 8 * (k + 1) by omega], ho1, HP.out, ?_⟩
        exact (HO.out.2.alloc hbs _).grown hg1 (by simp; omega) (fun j hj => (HO.out.1.lt j hj).1)
      case measure => simp [intOf]; omega
    · have hlt' : ¬ ((8 * k : Nat) : Int) < (len : Int) := by omega
      obtain ⟨K, hK⟩ : ∃ K, K = 8 * k := ⟨_, rfl⟩
      rw [← hK] at hlt hlt' ⊢
      obtain rfl : k = m := by omega
      have HK : Hid (K = 8 * k) := hK
      clear hK
      go_wp2_with fail
      go_ret
      obtain ⟨ho, hU, hb⟩ := HR.out
      refine ⟨u3, rfl, xs, by rw [← hcl]; exact ho, fun U h => ?_, hb⟩
      have := hU U h
      rwa [HI.out.2, List.take_length] at this
end Go.Proofs.YtocjmbhfpofoeaaDoor
