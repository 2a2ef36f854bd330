/- The contracts of the document's own From and Prefix. Conditions: those of each theorem. -/
import Derived.Test.YtocjmbhfpofoeaaDoorCk
namespace Go.Proofs.YtocjmbhfpofoeaaDoor
open Go.RowKit

/-- Slices of these bytes, as memory w has them. -/
def RdP (w : World) (xs : List Value) (R : List (List Int)) : Prop := xs.length = R.length ∧ ∀ i, i < R.length → ∃ a n c, xs[i]? = some (.slice a n c) ∧ IsI .u8 w a n c (R.getD i [])
theorem rdP_nil (w : World) : RdP w [] [] := ⟨rfl, fun i h => by simp at h⟩
theorem RdP.snoc {w : World} {xs : List Value} {R : List (List Int)} (h : RdP w xs R) {a : Option Addr} {n c : Nat} {y : List Int} (hy : IsI .u8 w a n c y) : RdP w (xs ++ [.slice a n c]) (R ++ [y]) := by
  refine ⟨by simp [h.1], fun i hi => ?_⟩
  rcases Nat.lt_or_ge i R.length with h1 | h1
  · obtain ⟨a', n', c', e, ht⟩ := h.2 i h1
    have hg : (R ++ [y]).getD i [] = R.getD i [] := by simp [List.getD, List.getElem?_append_left h1]
    rw [hg]
    exact ⟨a', n', c', by rw [List.getElem?_append_left (by rw [h.1]; exact h1)]; exact e, ht⟩
  · have hi' : i = R.length := by simp at hi; omega
    subst hi'
    refine ⟨a, n, c, by rw [List.getElem?_append_right (by rw [h.1]; exact Nat.le_refl _), h.1]; simp, ?_⟩
    have hg : (R ++ [y]).getD R.length [] = y := by simp [List.getD]
    rw [hg]; exact hy
theorem own_isP {w U : World} {base n : Nat} {v : Value} {xs : List Value} {R : List (List Int)} (h : U.ownsRow base 23 1 v n xs) (hx : RdP w xs R) (hb : Below w.heap.size w U) : ∃ a c, v = .slice a n c ∧ IsR U a n c R := by
  have hl := h.1
  rw [Nat.mul_one, hx.1] at hl
  by_cases hn : 0 < n
  · obtain ⟨g, cap, h1, h2, h3, h4, h5, h6, _⟩ := own_cell h hn
    refine ⟨_, cap, h1, ⟨by omega, h4, h5, .inr ⟨g, 0, rfl, h3, fun i hi => ?_⟩, (fun h => by cases h)⟩⟩
    obtain ⟨a, k, c, e1, ht⟩ := hx.2 i hi
    rw [Nat.zero_add]
    exact ⟨a, k, c, h6 _ _ e1, ht.below hb⟩
  · obtain rfl : n = 0 := by omega
    have hv : R = [] := List.eq_nil_of_length_eq_zero (by omega)
    rcases h.2 with ⟨h1, _⟩ | ⟨g, cap, cur, h1, _, _, h4, h5, _⟩
    · exact ⟨none, 0, h1, ⟨by omega, Nat.le_refl _, Nat.zero_le _, .inl hv, (fun _ => rfl)⟩⟩
    · exact ⟨_, cap, h1, ⟨by omega, h4, h5, .inl hv, (fun h => by cases h)⟩⟩
theorem drewN_zero (w : World) : w.drewN 0 = w := by simp [World.drewN]
/-- What both answer. -/
def Out (R : List (List Int)) (w : World) (e : Ending) (w' : World) : Prop := Below w.heap.size w w' ∧ ∃ a n c, e = .returned (.slice a n c) ∧ IsR w' a n c R
theorem filter_snoc (p : List Int → Bool) (ls : List (List Int)) {k : Nat} (h : k < ls.length) : (ls.take (k + 1)).filter p = (ls.take k).filter p ++ (if p (ls.getD k []) = true then [ls.getD k []] else []) := by
  rw [List.take_succ_eq_append_getElem h, List.filter_append]
  have : ls.getD k [] = ls[k] := by simp [List.getD, h]
  rw [this]
  congr 1
  simp [List.filter_cons]

set_option maxRecDepth 20000 in
set_option maxHeartbeats 3200000 in
theorem from_doc (a : Option Addr) (n c : Nat) (ls : List (List Int)) (ax : Option Addr) (nx cx : Nat) (x : List Int) (most : Int) (w : World) (hR : IsR w a n c ls) (hwf : WfR ls) (hX : IsI .u8 w ax nx cx x) (hbx : Bytes x) (hn : n ≤ 2000) :
    Calls Tryd.prog 23 #[.slice a n c, .slice ax nx cx, .int .i64 most] w (Out ((ls.filter (nl x)).take most.toNat) w) := by
  obtain ⟨i0, hi0, hz0, hz1, hz2⟩ := info_parts Tryd.info23
  have HI : Hid (IsR w a n c ls ∧ WfR ls ∧ IsI .u8 w ax nx cx x ∧ Bytes x) := ⟨hR, hwf, hX, hbx⟩
  have HL : Hid (ls.length = n) := hR.hl
  clear hR hwf hX hbx
  go_enter Tryd.func23, Tryd.ntmps23
  go_wp2_with fail
  go_loopw [7, 8] (fun v i wr => ∃ (k q kl : Nat) (V : World) (xs : List Value), i = .int .i64 (k : Int) ∧ k ≤ n ∧ kl ≤ k ∧ Hid (V.ownsRow w.heap.size 23 1 v kl xs ∧ kl = ((ls.take k).filter (nl x)).length ∧ kl ≤ most.toNat ∧ RdP w xs ((ls.take k).filter (nl x)) ∧ Below w.heap.size w V) ∧ wr = V.drewN q) (fun _ i _ => n - (intOf i).toNat)
  case atStart => exact ⟨0, 0, 0, w, [], rfl, Nat.zero_le _, Nat.le_refl _, ⟨World.ownsRow_nil _ _ _ _, by simp, Nat.zero_le _, by simpa using rdP_nil w, Below.refl _ _⟩, (drewN_zero w).symm⟩
  case round =>
    obtain ⟨k, q, kl, V, xs, rfl, hk, hkl, HA, rfl⟩ := hrel
    obtain ⟨va, vc, rfl, _⟩ := own_isP HA.out.1 HA.out.2.2.2.1 HA.out.2.2.2.2
    by_cases hlt : k < n
    · have hlt' : (k : Int) < (n : Int) := by omega
      by_cases hm : (kl : Int) < most
      · have hk0 : (0 : Int) ≤ (k : Int) := by omega
        have hw : IntKind.i64.wrap ((k : Int) + 1) = (k : Int) + 1 := by rw [IntKind.wrap_i64]; omega
        have hkl2 : k < ls.length := by rw [HL.out]; omega
        obtain ⟨g, off, ai, ni, ci, rfl, hg, c0, hi⟩ := (HI.out.1.below HA.out.2.2.2.2).rd.at hkl2
        obtain ⟨g', off', ai', ni', ci', e', hg', c0', hi'⟩ := HI.out.1.rd.at hkl2
        cases e'
        have hsame := (HA.out.2.2.2.2.cell (p := ⟨g, off + k, none⟩) hg').trans c0'
        rw [c0] at hsame
        cases hsame
        have v0 := conv_drew V ai ci ni _ hi
        have v1 := conv_drew V ax cx nx _ (HI.out.2.2.1.below HA.out.2.2.2.2)
        have hl := str_less (HI.out.2.1 _ (getD_memR hkl2)) HI.out.2.2.2
        have HS : Hid _ := filter_snoc (nl x) ls hkl2
        obtain ⟨r, hr⟩ : ∃ r, Hid (r = li (ls.getD k []) x) := ⟨_, rfl⟩
        rw [← hr.out] at hl
        have HY : Hid (IsI .u8 w ai ni ci (ls.getD k [])) := hi'
        generalize strOfNums (ls.getD k []) = M at *
        generalize strOfNums x = E at *
        clear hi hi' c0' hkl2
        cases r with
        | true =>
          have HF : Hid ((ls.take (k + 1)).filter (nl x) = (ls.take k).filter (nl x)) := by
            show _ = _
            rw [HS.out, if_neg (by unfold nl; rw [← hr.out]; simp), List.append_nil]
          go_wp2
          go_quiet (fail)
          go_wp2
          go_roundw
          case rel => exact ⟨k + 1, _, kl, V, xs, by go_num, by omega, by omega, ⟨HA.out.1, by rw [HF.out]; exact HA.out.2.1, HA.out.2.2.1, by rw [HF.out]; exact HA.out.2.2.2.1, HA.out.2.2.2.2⟩, rfl⟩
          case measure => simp [intOf]; omega
        | false =>
          have HF : Hid ((ls.take (k + 1)).filter (nl x) = (ls.take k).filter (nl x) ++ [ls.getD k []]) := by
            show _ = _
            rw [HS.out, if_pos (by unfold nl; rw [← hr.out]; rfl)]
          go_wp2
          go_quiet (fail)
          go_wp2_with (
            at_builtin; go_loud (refine wpList_append_one _ rfl (.tmp 29) (.tmp 34) 22 rfl w.heap.size 23 i0 _ 24 Tryd.underlying22 hi0 hz0 hz1 hz2 rfl _ kl xs rfl (World.ownsRow.alloc (w := V.drewN _) HA.out.1 _) (some ⟨V.heap.size, 0, none⟩) 1 1 [.slice ai ni ci] rfl rfl (fun h => by cases h) (fun ad h => by cases h; exact at_one ((cell_blk (heap_alloc_new (V.drewN _) _) 0).trans rfl)) (by simp [Value.oneCell']) (by unfold maxLen; omega) (by omega) (by have := HA.out.2.2.2.2.size; simp; omega) ?_)
            intro v5 w5 ho5 hg5
            have HG : Hid (w5.ownsRow w.heap.size 23 1 v5 (kl + 1) (xs ++ [.slice ai ni ci]) ∧ Below w.heap.size w w5) := ⟨ho5, ((HA.out.2.2.2.2.trans ((below_dr V _).mono HA.out.2.2.2.2.size)).alloc (by have := HA.out.2.2.2.2.size; simp; omega) _).grown hg5 (by have := HA.out.2.2.2.2.size; simp; omega) (fun j hj => (HA.out.1.lt j hj).1)⟩
            clear ho5 hg5)
          go_roundw
          case rel => exact ⟨k + 1, 0, kl + 1, w5, _, by go_num, by omega, by omega, ⟨HG.out.1, by rw [HF.out, List.length_append, ← HA.out.2.1]; rfl, by omega, by rw [HF.out]; exact HA.out.2.2.2.1.snoc HY.out, HG.out.2⟩, (drewN_zero _).symm⟩
          case measure => simp [intOf]; omega
      · have hm' : ¬ (kl : Int) < most := hm
        have HF : Hid ((ls.filter (nl x)).take most.toNat = (ls.take k).filter (nl x)) := by
          show _ = _
          have h1 := HA.out.2.1
          have h2 := HA.out.2.2.1
          conv => lhs; rw [← List.take_append_drop k ls, List.filter_append]
          rw [List.take_append_of_le_length (by omega), List.take_of_length_le (by omega)]
        go_wp2
        go_ret
        have hb : Below w.heap.size w (V.drewN q) := HA.out.2.2.2.2.trans ((below_dr V q).mono HA.out.2.2.2.2.size)
        obtain ⟨a', c', e, h⟩ := own_isP (U := V.drewN q) HA.out.1 HA.out.2.2.2.1 hb
        cases e
        refine ⟨hb, _, _, _, rfl, ?_⟩
        rw [HF.out]; exact h
    · have hlt' : ¬ (k : Int) < (n : Int) := by omega
      have HF : Hid ((ls.filter (nl x)).take most.toNat = (ls.take k).filter (nl x)) := by
        show _ = _
        have h1 := HA.out.2.1
        have h2 := HA.out.2.2.1
        have h3 : ls.take k = ls := List.take_of_length_le (by rw [HL.out]; omega)
        rw [h3] at h1 ⊢
        rw [List.take_of_length_le (by omega)]
      go_wp2
      go_ret
      have hb : Below w.heap.size w (V.drewN q) := HA.out.2.2.2.2.trans ((below_dr V q).mono HA.out.2.2.2.2.size)
      obtain ⟨a', c', e, h⟩ := own_isP (U := V.drewN q) HA.out.1 HA.out.2.2.2.1 hb
      cases e
      refine ⟨hb, _, _, _, rfl, ?_⟩
      rw [HF.out]; exact h
end Go.Proofs.YtocjmbhfpofoeaaDoor
