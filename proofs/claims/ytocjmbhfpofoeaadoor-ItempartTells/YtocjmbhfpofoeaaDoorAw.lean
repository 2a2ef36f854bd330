/- The contracts of few and of awake: the document's example. Conditions: the table of half bytes holds what it is laid with. -/
import Derived.Test.YtocjmbhfpofoeaaDoorGy
import Derived.Lib.SlBytesConst
namespace Go.Proofs.YtocjmbhfpofoeaaDoor
open Go.RowKit

/-- Are they few, and short? -/
def fewb (ls : List (List Int)) : Bool := decide (ls.length ≤ 100 ∧ ∀ i, i < ls.length → (ls.getD i []).length ≤ 500)
theorem fewb_iff {ls : List (List Int)} : fewb ls = true ↔ ls.length ≤ 100 ∧ ∀ i, i < ls.length → (ls.getD i []).length ≤ 500 := by simp [fewb]
set_option maxHeartbeats 1600000 in
theorem few_any (a : Option Addr) (n c : Nat) (ls : List (List Int)) (w : World) (hR : IsR w a n c ls) :
    Calls Tryd.prog 10 #[.slice a n c] w fun e w' => e = .returned (.bool (fewb ls)) ∧ Below w.heap.size w w' := by
  have hl := hR.hl
  obtain ⟨b, hb⟩ : ∃ b, Hid (b = fewb ls) := ⟨_, rfl⟩
  rw [← hb.out]
  have HI : Hid (IsR w a n c ls) := hR
  have HL : Hid (ls.length = n) := hl
  clear hR hl
  by_cases hn : n ≤ 100
  · have hn' : ¬ (100 : Int) < (n : Int) := by omega
    go_enter Tryd.func10, Tryd.ntmps10
    go_wp2_with fail
    go_loopw [3] (fun i wr => ∃ k q : Nat, i = .int .i64 (k : Int) ∧ k ≤ n ∧ Hid (∀ j, j < k → (ls.getD j []).length ≤ 500) ∧ wr = w.drewN q) (fun i _ => n - (intOf i).toNat)
    case atStart => exact ⟨0, 0, rfl, Nat.zero_le _, (fun j hj => by omega), rfl⟩
    case round =>
      obtain ⟨k, q, rfl, hk, HA, rfl⟩ := hrel
      by_cases hlt : k < n
      · have hlt' : (k : Int) < (n : Int) := by omega
        have hk0 : (0 : Int) ≤ (k : Int) := by omega
        have hkl : k < ls.length := by rw [HL.out]; omega
        have hw : IntKind.i64.wrap ((k : Int) + 1) = (k : Int) + 1 := by rw [IntKind.wrap_i64]; omega
        obtain ⟨g, off, ai, ni, ci, rfl, hg, c0, hi⟩ := HI.out.rd.at hkl
        have hni := hi.hl
        have HN : Hid (ni = (ls.getD k []).length) := hni.symm
        clear hi hni hkl
        by_cases h5 : 500 < ni
        · have h5' : (500 : Int) < (ni : Int) := by omega
          go_wp2_with fail
          go_ret
          refine ⟨?_, below_dr _ _⟩
          rw [hb.out, show fewb ls = false from ?_]
          · rfl
          · unfold fewb
            refine decide_eq_false ?_
            rintro ⟨_, h⟩
            have := h k (by rw [HL.out]; omega)
            rw [← HN.out] at this; omega
        · have h5' : ¬ (500 : Int) < (ni : Int) := by omega
          go_wp2_with fail
          go_roundw
          case rel => exact ⟨k + 1, q, by go_num, by omega, (fun j hj => by
            rcases Nat.lt_succ_iff_lt_or_eq.1 hj with h | h
            · exact HA.out j h
            · subst h; rw [← HN.out]; omega), rfl⟩
          case measure => simp [intOf]; omega
      · have hlt' : ¬ (k : Int) < (n : Int) := by omega
        go_wp2_with fail
        go_ret
        refine ⟨?_, below_dr _ _⟩
        rw [hb.out, show fewb ls = true from ?_]
        · rfl
        · refine fewb_iff.2 ⟨by rw [HL.out]; exact hn, fun j hj => HA.out j ?_⟩
          rw [HL.out] at hj; omega
  · have hn' : (100 : Int) < (n : Int) := by omega
    go_enter Tryd.func10, Tryd.ntmps10
    go_wp2_with fail
    go_ret
    refine ⟨?_, Below.refl _ _⟩
    rw [hb.out, show fewb ls = false from ?_]
    · rfl
    · unfold fewb
      refine decide_eq_false ?_
      rintro ⟨h, _⟩
      rw [HL.out] at h; omega

abbrev ex : List (List Int) := [[97], [98]]
theorem isI_mk (W : World) (g n : Nat) (f : Nat × Nat) (zs : List Int) (hn : zs.length = n) (h : W.heap[g]? = some (.cells (zs.map (Value.int .u8)).toArray 5 f)) (hm : n ≤ maxLen) : IsI .u8 W (some ⟨g, 0, none⟩) n n zs := by
  refine ⟨hn, Nat.le_refl _, hm, .inr ⟨g, 0, rfl, (Array.getElem?_eq_some_iff.1 h).1, fun i hi => ?_⟩, fun h => by cases h⟩
  rw [Nat.zero_add]
  simp [World.cell?, h, hi, List.getD]
theorem ex_bytes : WfR ex := by
  intro l hl x hx
  simp only [List.mem_cons, List.not_mem_nil, or_false] at hl
  rcases hl with rfl | rfl <;> (simp at hx; omega)
theorem ex_chk : chkF ex = 0 := by decide
theorem ex_ch : ch ex = [ex] := by decide
theorem bs_s {u : Nat} (h : u < 128) : bs u = [(u : Int)] := bs_small h
theorem ex_pk : pk ex = [2, 0, 1, 97, 0, 1, 98] := by
  have e1 : cm [] [97] = 0 := by decide
  have e2 : cm [97] [98] = 0 := by decide
  simp only [pk, pkf, e1, e2, List.length_cons, List.length_nil]
  rw [bs_s (by decide), bs_s (by decide), bs_s (by decide)]
  rfl
theorem ex_fb : (fb (ch ex)).length = 13 := by
  rw [ex_ch, fb_cons, fb_nil, List.append_nil, frm_length, ex_pk]
  simp only [List.length_cons, List.length_nil]
  rw [bs_s (by decide)]
  rfl
theorem ex_hs : hs 0 (ch ex) = [(0, [97])] := by rw [ex_ch]; rfl
theorem ex_ix : ix (hs 0 (ch ex)) = [1, 0, 1, 97] := by
  rw [ex_hs]
  simp only [ix, ib, ir, List.map_cons, List.map_nil, List.flatten_cons, List.flatten_nil, List.append_nil, List.length_cons, List.length_nil]
  rw [bs_s (by decide), bs_s (by decide)]
  rfl
theorem ex_fil : fil ex = fb (ch ex) ++ frm 2 [1, 0, 1, 97] ++ tl 13 := by rw [fil, ex_ix, ex_fb]
theorem ex_f2 : (frm 2 [1, 0, 1, 97]).length = 10 := by
  rw [frm_length]
  simp only [List.length_cons, List.length_nil]
  rw [bs_s (by decide)]
  rfl
theorem ex_len : (fil ex).length = 27 := by
  rw [ex_fil, List.length_append, List.length_append, ex_fb, ex_f2, tl_length]
theorem ex_last : (fil ex).getD 26 0 = 13 := by
  rw [ex_fil]
  simp only [List.getD]
  rw [List.getElem?_append_right (by rw [List.length_append, ex_fb, ex_f2]; decide), List.length_append, ex_fb, ex_f2]
  rfl
theorem ex_bt : bt ex = (0, fil ex) := by
  unfold bt
  rw [if_neg (by rw [ex_chk]; simp), if_neg (by rw [ex_ix]; decide)]
end Go.Proofs.YtocjmbhfpofoeaaDoor
