/- For any rising items and any item: Seek stands between what is ahead and what isn't: ItemsOrder returns true, and its arguments read as before. No conditions. -/
import Derived.Test.YtnajpppncilijaaS
namespace Go.Proofs.Ytnajpppncilijaa
open Go.ChangeShapes Go.WideShapes Go.ChangeAt Go.RowKit Go.Lib
open Go.ChangeMaps (open_string shut_string)

theorem few_len {w : World} {a : Option Addr} {len cap : Nat} {ls : List (List Int)} (hI : IsR w a len cap ls) (h : few ls = true) : len ≤ 60 := by rw [← hI.hl]; exact (few_spec h).1
theorem sk_self {ls : List (List Int)} (h : Rz ls) {i : Nat} (hi : i < ls.length) : sk ls (ls.getD i []) = i := by
  refine sk_is (by omega) (fun j hj => ?_) (.inr (li_irr _))
  rcases Nat.lt_or_ge (j + 1) i with h1 | h1
  · refine rz_le h (i - 1 - j) j (by omega) ?_
    rw [show j + (i - 1 - j) = i - 1 by omega]
    have := h (i - 1) (by omega)
    rwa [show i - 1 + 1 = i by omega] at this
  · obtain rfl : j + 1 = i := by omega
    exact h j hi
theorem pl_zero {ls : List (List Int)} {r : Nat} (h : Pl ls [] r) : r = 0 := by
  rcases h.2.1 with h1 | h1
  · exact h1
  · cases ls.getD (r - 1) [] <;> simp [li] at h1

set_option maxRecDepth 20000 in
set_option maxHeartbeats 8000000 in
theorem itemsOrder_walk (a : Option Addr) (len cap : Nat) (ls : List (List Int)) {w0 : World} (hR : IsR w0 a len cap ls) (hwf : WfR ls) (ax : Option Addr) (nx cx : Nat) (x : List Int) (hX : IsI .u8 w0 ax nx cx x) (hbx : Bytes x) {w : World} (hw : w = w0) :
    Calls Try.prog 5 #[.slice a len cap, .slice ax nx cx] w fun r w' => r = .returned (.bool true) ∧ Below w.heap.size w w' := by
  subst hw
  have HI : Hid ((IsR w a len cap ls ∧ WfR ls) ∧ IsI .u8 w ax nx cx x ∧ Bytes x) := ⟨⟨hR, hwf⟩, hX, hbx⟩
  have hc := hR.hc
  have hm := hR.hm
  have hcx := hX.hc
  have hmx := hX.hm
  unfold maxLen at hm hmx
  clear hR hwf hX hbx
  go_enter Try.func5, Try.ntmps5
  go_wp2_with fail
  refine (awake_any _).mono ?_
  rintro e w1 ⟨rfl, b1⟩
  have H1 : Hid (IsR w1 a len cap ls ∧ IsI .u8 w1 ax nx cx x ∧ Below w.heap.size w w1) := ⟨HI.out.1.1.below b1, HI.out.2.1.below b1, b1⟩
  clear b1
  go_wp2_with fail
  refine (few_any a len cap ls w1 H1.out.1).mono ?_
  rintro e w' ⟨rfl, hw'⟩; rw [hw']; clear hw' w'
  obtain ⟨f1, hf1⟩ : ∃ f, Hid (f = few ls) := ⟨_, rfl⟩
  rw [← hf1.out]
  cases f1 with
  | false =>
    go_wp2_with fail
    go_ret
    exact ⟨rfl, H1.out.2.2⟩
  | true =>
    have h60 := few_len H1.out.1 hf1.out.symm
    clear hf1
    by_cases h6 : 600 < nx
    · have h6' : (600 : Int) < (nx : Int) := by omega
      go_wp2_with fail
      go_ret
      exact ⟨rfl, H1.out.2.2⟩
    have h6' : ¬ (600 : Int) < (nx : Int) := by omega
    go_wp2_with fail
    refine Calls.mono (rises_any a len cap ls w1 H1.out.1 HI.out.1.2) ?_
    rintro e w2 ⟨rfl, b2⟩
    have H2 : Hid (IsR w2 a len cap ls ∧ IsI .u8 w2 ax nx cx x ∧ Below w.heap.size w w2) := ⟨H1.out.1.below b2, H1.out.2.1.below b2, H1.out.2.2.trans (b2.mono H1.out.2.2.size)⟩
    clear b2
    obtain ⟨q, hq⟩ : ∃ q, Hid (q = rises ls) := ⟨_, rfl⟩
    rw [← hq.out]
    cases q with
    | false =>
      go_wp2_with fail
      go_ret
      exact ⟨rfl, H2.out.2.2⟩
    | true =>
      have HZ : Hid (Rz ls) := rises_iff.1 hq.out.symm
      clear hq
      go_wp2_with fail
      refine Calls.mono (seek_any a len cap ls ax nx cx x w2 H2.out.1 HI.out.1.2 H2.out.2.1 HI.out.2.2 (by omega)) ?_
      rintro e w3 ⟨r, rfl, hp, b3⟩
      have H3 : Hid (Pl ls x r ∧ IsR w3 a len cap ls ∧ IsI .u8 w3 ax nx cx x ∧ Below w.heap.size w w3) := ⟨hp, H2.out.1.below b3, H2.out.2.1.below b3, H2.out.2.2.trans (b3.mono H2.out.2.2.size)⟩
      have hr : r ≤ len := by rw [← H2.out.1.hl]; exact hp.1
      clear hp b3
      have u2 := conv_drew w3 ax cx nx x H3.out.2.2.1
      have HA1 : Hid (∀ s, r = s + 1 → li (ls.getD s []) x = true) := fun s h => by
        rcases H3.out.1.2.1 with h1 | h1
        · omega
        · rwa [h, Nat.add_sub_cancel] at h1
      have HA2 : Hid (r < len → li (ls.getD r []) x = false) := fun h => by
        rcases H3.out.1.2.2 with h1 | h1
        · have := H3.out.2.1.hl; omega
        · exact h1
      have hl3 := H3.out.2.1.hl
      rcases Nat.eq_zero_or_pos r with h0 | h0
      · subst h0
        by_cases hB : 0 < len
        · have hB' : (0 : Int) < (len : Int) := by omega
          have hBd : decide ((0 : Int) < (len : Int)) = true := by simp; omega
          have hBn : decide (0 < len) = true := by simp; omega
          have hB2 : ¬ (len : Int) < 0 := by omega
          have hB3 : decide ((len : Int) < 0) = false := by simp
          obtain ⟨g, off, ai, ni, ci, rfl, hg, c0, hi⟩ := H3.out.2.1.rd.at (k := 0) (by omega)
          rw [Nat.add_zero] at c0
          have v1 := conv_drew w3 ai ci ni _ hi
          have e1 := str_less (HI.out.1.2 _ (getD_memR (ls := ls) (k := 0) (by omega))) HI.out.2.2
          rw [HA2.out hB] at e1
          generalize strOfNums (ls.getD 0 []) = M at v1 e1
          generalize strOfNums x = X at u2 e1
          clear hi
          go_wp2_with fail
          go_quiet (fail)
          go_wp2_with fail
          go_loopw [8] (fun i wr => ∃ k : Nat, k ≤ len ∧ i = .int .i64 (k : Int) ∧ Below w3.heap.size w3 wr) (fun i _ => len - (intOf i).toNat)
          case atStart => exact ⟨0, Nat.zero_le _, rfl, below_dr _ _⟩
          case round =>
            obtain ⟨k, hk, rfl, hbw⟩ := hrel
            have H4 : Hid (IsR wr _ len cap ls ∧ IsI .u8 wr ax nx cx x ∧ Below w.heap.size w wr) := ⟨H3.out.2.1.below hbw, H3.out.2.2.1.below hbw, H3.out.2.2.2.trans (hbw.mono H3.out.2.2.2.size)⟩
            have HW : Hid (Below w3.heap.size w3 wr) := hbw
            clear hbw
            by_cases hlt : k < len
            · have hlt' : (k : Int) < (len : Int) := by omega
              have hk0 : (0 : Int) ≤ (k : Int) := by omega
              have hkl : k < ls.length := by omega
              obtain ⟨g2, off2, aj, nj, cj, e, hg2, c2, hj⟩ := H4.out.1.rd.at hkl
              cases e
              have HS : Hid _ := seek_any _ len cap ls aj nj cj _ wr H4.out.1 HI.out.1.2 hj (HI.out.1.2 _ (getD_memR hkl)) (by omega)
              have hsf := sk_self HZ.out hkl
              have HF : Hid (∀ r5, Pl ls (ls.getD k []) r5 → r5 = k) := fun r5 hp => (pl_sk HZ.out hp).symm.trans hsf
              clear hj hsf hkl hg2
              go_wp2_with fail
              refine Calls.mono HS.out ?_
              rintro e w5 ⟨r5, rfl, hp5, b5⟩
              obtain rfl : r5 = k := HF.out r5 hp5
              have HB5 : Hid (Below w3.heap.size w3 w5) := HW.out.trans (b5.mono HW.out.size)
              clear hp5 b5
              go_wp2_with fail
              go_roundw
              case rel => exact ⟨r5 + 1, by omega, by go_num, HB5.out⟩
              case measure => simp [intOf]; omega
            · have hlt' : ¬ (k : Int) < (len : Int) := by omega
              go_wp2_with fail
              refine Calls.mono (seek_any _ len cap ls none 0 0 [] wr H4.out.1 HI.out.1.2 (isI_nil _ _) bytes_nil (by omega)) ?_
              rintro e w5 ⟨r5, rfl, hp5, b5⟩
              obtain rfl : r5 = 0 := pl_zero hp5
              have HB5 : Hid (Below w.heap.size w w5 ∧ IsI .u8 w5 ax nx cx x) := ⟨H4.out.2.2.trans (b5.mono H4.out.2.2.size), H4.out.2.1.below b5⟩
              clear hp5 b5
              go_wp2_with fail
              refine Calls.mono (seek_any none 0 0 [] ax nx cx x w5 (isR_nil _) wfR_nil HB5.out.2 HI.out.2.2 (by omega)) ?_
              rintro e w6 ⟨r6, rfl, hp6, b6⟩
              obtain rfl : r6 = 0 := by have := hp6.1; simp at this; exact this
              have HB6 : Hid (Below w.heap.size w w6) := HB5.out.1.trans (b6.mono HB5.out.1.size)
              clear hp6 b6
              go_wp2_with fail
              go_ret
              exact ⟨rfl, HB6.out⟩
        · have hB' : ¬ (0 : Int) < (len : Int) := by omega
          have hBd : decide ((0 : Int) < (len : Int)) = false := by simp; omega
          have hBn : decide (0 < len) = false := by simp; omega
          have hB2 : ¬ (len : Int) < 0 := by omega
          have hB3 : decide ((len : Int) < 0) = false := by simp
          go_wp2_with fail
          go_quiet (fail)
          go_wp2_with fail
          go_loopw [8] (fun i wr => ∃ k : Nat, k ≤ len ∧ i = .int .i64 (k : Int) ∧ Below w3.heap.size w3 wr) (fun i _ => len - (intOf i).toNat)
          case atStart => exact ⟨0, Nat.zero_le _, rfl, below_dr _ _⟩
          case round =>
            obtain ⟨k, hk, rfl, hbw⟩ := hrel
            have H4 : Hid (IsR wr _ len cap ls ∧ IsI .u8 wr ax nx cx x ∧ Below w.heap.size w wr) := ⟨H3.out.2.1.below hbw, H3.out.2.2.1.below hbw, H3.out.2.2.2.trans (hbw.mono H3.out.2.2.2.size)⟩
            have HW : Hid (Below w3.heap.size w3 wr) := hbw
            clear hbw
            by_cases hlt : k < len
            · have hlt' : (k : Int) < (len : Int) := by omega
              have hk0 : (0 : Int) ≤ (k : Int) := by omega
              have hkl : k < ls.length := by omega
              obtain ⟨g2, off2, aj, nj, cj, e, hg2, c2, hj⟩ := H4.out.1.rd.at hkl
              cases e
              have HS : Hid _ := seek_any _ len cap ls aj nj cj _ wr H4.out.1 HI.out.1.2 hj (HI.out.1.2 _ (getD_memR hkl)) (by omega)
              have hsf := sk_self HZ.out hkl
              have HF : Hid (∀ r5, Pl ls (ls.getD k []) r5 → r5 = k) := fun r5 hp => (pl_sk HZ.out hp).symm.trans hsf
              clear hj hsf hkl hg2
              go_wp2_with fail
              refine Calls.mono HS.out ?_
              rintro e w5 ⟨r5, rfl, hp5, b5⟩
              obtain rfl : r5 = k := HF.out r5 hp5
              have HB5 : Hid (Below w3.heap.size w3 w5) := HW.out.trans (b5.mono HW.out.size)
              clear hp5 b5
              go_wp2_with fail
              go_roundw
              case rel => exact ⟨r5 + 1, by omega, by go_num, HB5.out⟩
              case measure => simp [intOf]; omega
            · have hlt' : ¬ (k : Int) < (len : Int) := by omega
              go_wp2_with fail
              refine Calls.mono (seek_any _ len cap ls none 0 0 [] wr H4.out.1 HI.out.1.2 (isI_nil _ _) bytes_nil (by omega)) ?_
              rintro e w5 ⟨r5, rfl, hp5, b5⟩
              obtain rfl : r5 = 0 := pl_zero hp5
              have HB5 : Hid (Below w.heap.size w w5 ∧ IsI .u8 w5 ax nx cx x) := ⟨H4.out.2.2.trans (b5.mono H4.out.2.2.size), H4.out.2.1.below b5⟩
              clear hp5 b5
              go_wp2_with fail
              refine Calls.mono (seek_any none 0 0 [] ax nx cx x w5 (isR_nil _) wfR_nil HB5.out.2 HI.out.2.2 (by omega)) ?_
              rintro e w6 ⟨r6, rfl, hp6, b6⟩
              obtain rfl : r6 = 0 := by have := hp6.1; simp at this; exact this
              have HB6 : Hid (Below w.heap.size w w6) := HB5.out.1.trans (b6.mono HB5.out.1.size)
              clear hp6 b6
              go_wp2_with fail
              go_ret
              exact ⟨rfl, HB6.out⟩
      · obtain ⟨s, rfl⟩ : ∃ s, r = s + 1 := ⟨r - 1, by omega⟩
        have hsub : IntKind.i64.wrap (s : Int) = (s : Int) := by rw [IntKind.wrap_i64]; omega
        have hs0 : (0 : Int) ≤ (s : Int) := by omega
        have hs1 : (0 : Int) < (s : Int) + 1 := by omega
        have hs2 : ¬ (s : Int) + 1 < 0 := by omega
        have hs3 : ¬ (len : Int) < (s : Int) + 1 := by omega
        have hs4 : (s : Int) < (len : Int) := by omega
        have hsd : decide ((s : Int) + 1 < 0) = false := by simp; omega
        have hsd2 : decide ((len : Int) < (s : Int) + 1) = false := by simp; omega
        obtain ⟨g, off, ai, ni, ci, rfl, hg, c0, hi⟩ := H3.out.2.1.rd.at (k := s) (by omega)
        have v1 := conv_drew w3 ai ci ni _ hi
        have e1 := str_less (HI.out.1.2 _ (getD_memR (ls := ls) (k := s) (by omega))) HI.out.2.2
        rw [HA1.out s rfl] at e1
        by_cases hB : s + 1 < len
        · have hB' : (s : Int) + 1 < (len : Int) := by omega
          obtain ⟨g', off', ai', ni', ci', e, hg', c1, hi'⟩ := H3.out.2.1.rd.at (k := s + 1) (by omega)
          cases e
          have v2 := conv_drew w3 ai' ci' ni' _ hi'
          have e2 := str_less (HI.out.1.2 _ (getD_memR (ls := ls) (k := s + 1) (by omega))) HI.out.2.2
          rw [HA2.out hB] at e2
          generalize strOfNums (ls.getD s []) = M at v1 e1
          generalize strOfNums (ls.getD (s + 1) []) = M' at v2 e2
          generalize strOfNums x = X at u2 e1 e2
          clear hi hi' hg'
          go_wp2_with fail
          go_quiet (fail)
          go_wp2_with fail
          go_loopw [8] (fun i wr => ∃ k : Nat, k ≤ len ∧ i = .int .i64 (k : Int) ∧ Below w3.heap.size w3 wr) (fun i _ => len - (intOf i).toNat)
          case atStart => exact ⟨0, Nat.zero_le _, rfl, below_dr _ _⟩
          case round =>
            obtain ⟨k, hk, rfl, hbw⟩ := hrel
            have H4 : Hid (IsR wr _ len cap ls ∧ IsI .u8 wr ax nx cx x ∧ Below w.heap.size w wr) := ⟨H3.out.2.1.below hbw, H3.out.2.2.1.below hbw, H3.out.2.2.2.trans (hbw.mono H3.out.2.2.2.size)⟩
            have HW : Hid (Below w3.heap.size w3 wr) := hbw
            clear hbw
            by_cases hlt : k < len
            · have hlt' : (k : Int) < (len : Int) := by omega
              have hk0 : (0 : Int) ≤ (k : Int) := by omega
              have hkl : k < ls.length := by omega
              obtain ⟨g2, off2, aj, nj, cj, e, hg2, c2, hj⟩ := H4.out.1.rd.at hkl
              cases e
              have HS : Hid _ := seek_any _ len cap ls aj nj cj _ wr H4.out.1 HI.out.1.2 hj (HI.out.1.2 _ (getD_memR hkl)) (by omega)
              have hsf := sk_self HZ.out hkl
              have HF : Hid (∀ r5, Pl ls (ls.getD k []) r5 → r5 = k) := fun r5 hp => (pl_sk HZ.out hp).symm.trans hsf
              clear hj hsf hkl hg2
              go_wp2_with fail
              refine Calls.mono HS.out ?_
              rintro e w5 ⟨r5, rfl, hp5, b5⟩
              obtain rfl : r5 = k := HF.out r5 hp5
              have HB5 : Hid (Below w3.heap.size w3 w5) := HW.out.trans (b5.mono HW.out.size)
              clear hp5 b5
              go_wp2_with fail
              go_roundw
              case rel => exact ⟨r5 + 1, by omega, by go_num, HB5.out⟩
              case measure => simp [intOf]; omega
            · have hlt' : ¬ (k : Int) < (len : Int) := by omega
              go_wp2_with fail
              refine Calls.mono (seek_any _ len cap ls none 0 0 [] wr H4.out.1 HI.out.1.2 (isI_nil _ _) bytes_nil (by omega)) ?_
              rintro e w5 ⟨r5, rfl, hp5, b5⟩
              obtain rfl : r5 = 0 := pl_zero hp5
              have HB5 : Hid (Below w.heap.size w w5 ∧ IsI .u8 w5 ax nx cx x) := ⟨H4.out.2.2.trans (b5.mono H4.out.2.2.size), H4.out.2.1.below b5⟩
              clear hp5 b5
              go_wp2_with fail
              refine Calls.mono (seek_any none 0 0 [] ax nx cx x w5 (isR_nil _) wfR_nil HB5.out.2 HI.out.2.2 (by omega)) ?_
              rintro e w6 ⟨r6, rfl, hp6, b6⟩
              obtain rfl : r6 = 0 := by have := hp6.1; simp at this; exact this
              have HB6 : Hid (Below w.heap.size w w6) := HB5.out.1.trans (b6.mono HB5.out.1.size)
              clear hp6 b6
              go_wp2_with fail
              go_ret
              exact ⟨rfl, HB6.out⟩
        · have hB' : ¬ (s : Int) + 1 < (len : Int) := by omega
          have hBd : decide ((s : Int) + 1 < (len : Int)) = false := by simp; omega
          generalize strOfNums (ls.getD s []) = M at v1 e1
          generalize strOfNums x = X at u2 e1
          clear hi
          go_wp2_with fail
          go_quiet (fail)
          go_wp2_with fail
          go_loopw [8] (fun i wr => ∃ k : Nat, k ≤ len ∧ i = .int .i64 (k : Int) ∧ Below w3.heap.size w3 wr) (fun i _ => len - (intOf i).toNat)
          case atStart => exact ⟨0, Nat.zero_le _, rfl, below_dr _ _⟩
          case round =>
            obtain ⟨k, hk, rfl, hbw⟩ := hrel
            have H4 : Hid (IsR wr _ len cap ls ∧ IsI .u8 wr ax nx cx x ∧ Below w.heap.size w wr) := ⟨H3.out.2.1.below hbw, H3.out.2.2.1.below hbw, H3.out.2.2.2.trans (hbw.mono H3.out.2.2.2.size)⟩
            have HW : Hid (Below w3.heap.size w3 wr) := hbw
            clear hbw
            by_cases hlt : k < len
            · have hlt' : (k : Int) < (len : Int) := by omega
              have hk0 : (0 : Int) ≤ (k : Int) := by omega
              have hkl : k < ls.length := by omega
              obtain ⟨g2, off2, aj, nj, cj, e, hg2, c2, hj⟩ := H4.out.1.rd.at hkl
              cases e
              have HS : Hid _ := seek_any _ len cap ls aj nj cj _ wr H4.out.1 HI.out.1.2 hj (HI.out.1.2 _ (getD_memR hkl)) (by omega)
              have hsf := sk_self HZ.out hkl
              have HF : Hid (∀ r5, Pl ls (ls.getD k []) r5 → r5 = k) := fun r5 hp => (pl_sk HZ.out hp).symm.trans hsf
              clear hj hsf hkl hg2
              go_wp2_with fail
              refine Calls.mono HS.out ?_
              rintro e w5 ⟨r5, rfl, hp5, b5⟩
              obtain rfl : r5 = k := HF.out r5 hp5
              have HB5 : Hid (Below w3.heap.size w3 w5) := HW.out.trans (b5.mono HW.out.size)
              clear hp5 b5
              go_wp2_with fail
              go_roundw
              case rel => exact ⟨r5 + 1, by omega, by go_num, HB5.out⟩
              case measure => simp [intOf]; omega
            · have hlt' : ¬ (k : Int) < (len : Int) := by omega
              go_wp2_with fail
              refine Calls.mono (seek_any _ len cap ls none 0 0 [] wr H4.out.1 HI.out.1.2 (isI_nil _ _) bytes_nil (by omega)) ?_
              rintro e w5 ⟨r5, rfl, hp5, b5⟩
              obtain rfl : r5 = 0 := pl_zero hp5
              have HB5 : Hid (Below w.heap.size w w5 ∧ IsI .u8 w5 ax nx cx x) := ⟨H4.out.2.2.trans (b5.mono H4.out.2.2.size), H4.out.2.1.below b5⟩
              clear hp5 b5
              go_wp2_with fail
              refine Calls.mono (seek_any none 0 0 [] ax nx cx x w5 (isR_nil _) wfR_nil HB5.out.2 HI.out.2.2 (by omega)) ?_
              rintro e w6 ⟨r6, rfl, hp6, b6⟩
              obtain rfl : r6 = 0 := by have := hp6.1; simp at this; exact this
              have HB6 : Hid (Below w.heap.size w w6) := HB5.out.1.trans (b6.mono HB5.out.1.size)
              clear hp6 b6
              go_wp2_with fail
              go_ret
              exact ⟨rfl, HB6.out⟩
set_option maxRecDepth 100000 in
theorem itemsOrder_lifted (os : Os) (started : os.Started) (H : Type) (enc : TypeId × Value → H) :
    ReturnsInHanded {} Try.checked os 5 .any (Rows.itemsOrderSpec.pre6 enc Try.prog Try.f5 Rows.itemsOrderRow.domain false) (Rows.itemsOrderSpec.post enc Try.prog Try.f5 false true false false) := by
  refine returnsInHanded_of_change (C := Try.checked) own started (by kernel_rfl) Try.func5
    (ChangeSpec.witness6 (enc := enc) (C := Try.checked) false ⟨#[], #[.slice none 0 0, .slice none 0 0], []⟩ 8 (by kernel_rfl) (by kernel_rfl) (by kernel_rfl) (by kernel_rfl)) ?_
  intro W base args ds gs before hval0 hW hcnd _
  have hval : ∀ (j : Nat) t v, Try.f5.params[j]? = some t → args[j]? = some v → Value.okWide Try.prog W .any base t v := hval0
  have hW' := hW
  obtain ⟨p, q, hA0, hV, rfl, hfz, hnd⟩ := hW
  have hA : DataW.TrodAll enc Try.prog W 0 (fun _ => true) true Try.f5.params.toList args.toList ds p := hA0
  rw [Try.params5] at hA hval
  obtain ⟨v0, vs0, d0, ds0, p0, q0, hargs, rfl, rfl, h0, r0⟩ := trodAll_cons hA
  obtain ⟨v1, vs1, d1, ds1, p1, q1, rfl, rfl, rfl, h1, r1⟩ := trodAll_cons r0
  obtain ⟨rfl, rfl, rfl⟩ := trodAll_nil r1
  obtain rfl : args = #[v0, v1] := by cases args; simp_all
  obtain ⟨rfl, rfl⟩ := trodVars_none hV
  obtain ⟨a0, len0, cap0, rfl⟩ := okWide_slice Try.underlying22 (hval 0 22 v0 rfl rfl)
  have k0 := h0
  have lt0 : ∀ x ∈ p0, x.block < W.heap.size := by obtain ⟨m, hm⟩ := k0; exact DataW.trod_lt m _ _ _ hm
  obtain ⟨vl0, w0, wf0⟩ : ∃ ls, IsR W a0 len0 cap0 ls ∧ WfR ls := by obtain ⟨fuel, hf⟩ := h0; exact isR_of hf
  obtain ⟨a1, len1, cap1, rfl⟩ := okWide_slice Try.underlying23 (hval 1 23 v1 rfl rfl)
  have k1 := h1
  have lt1 : ∀ x ∈ p1, x.block < W.heap.size := by obtain ⟨m, hm⟩ := k1; exact DataW.trod_lt m _ _ _ hm
  obtain ⟨vl1, w1, wf1⟩ : ∃ ms, IsI .u8 W a1 len1 cap1 ms ∧ Bytes ms := by obtain ⟨fuel, hf⟩ := h1; exact isI_of hf
  clear hA0 hval0
  refine (itemsOrder_walk a0 len0 cap0 vl0 w0 wf0 a1 len1 cap1 vl1 w1 wf1 rfl).mono fun e W' ⟨he, hb⟩ => ?_
  subst he
  exact ⟨_, rfl, _, _, _, [], _, [], hW', trodAll_mk1 (shut_bool Try.underlying4 _), (trodAll_cons_mk (Below.trod laidOut (by kernel_rfl) (of_decide_eq_true (by kernel_rfl)) k0 hb lt0) (trodAll_cons_mk (Below.trod laidOut (by kernel_rfl) (of_decide_eq_true (by kernel_rfl)) k1 hb lt1) trodAll_mk0)), rfl, hb.frame _, fun h => by cases h⟩

theorem itemsOrder_holds : Rows.ItemsOrderSaid :=
  OpenClaim.holds_of_wide 5 Try.f5 rfl rfl rfl rfl rfl rfl rfl ⟨rfl, rfl, rfl, rfl, rfl⟩ rfl rfl rfl rfl rfl (by kernel_rfl) Try.func5 (by kernel_rfl)
    (of_decide_eq_true (by kernel_rfl)) (by unfold Func.isWrapper; first | (rw [if_pos (by decide +kernel)]; kernel_rfl) | (rw [if_neg (by decide +kernel)]; exact ⟨rfl, rfl⟩))
    (fun os started H enc _ => itemsOrder_lifted os started H enc)
#print axioms itemsOrder_holds
end Go.Proofs.Ytnajpppncilijaa
