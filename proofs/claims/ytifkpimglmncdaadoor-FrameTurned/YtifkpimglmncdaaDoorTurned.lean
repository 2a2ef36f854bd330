/- FrameTurned: with one bit of its kind, its body or its sum turned a frame is refused for its sum; cut short it ends too early: true for every input. Conditions: the table of half bytes holds what the program's text lays. -/
import Derived.Test.YtifkpimglmncdaaDoorTurnedP
namespace Go.Proofs.YtifkpimglmncdaaDoor
open Go.ChangeShapes Go.WideShapes Go.ChangeAt Go.RowKit Go.Lib

set_option maxHeartbeats 8000000 in
theorem frameTurned_walk {w : World} (a : Option Addr) (len cap : Nat) (zs : List Int) (hI : IsI .u8 w a len cap zs) (hby : Bytes zs) (at_ : Int) (_hat : -9223372036854775808 ≤ at_ ∧ at_ ≤ 9223372036854775807) (bit : Int) (hbit : 0 ≤ bit ∧ bit ≤ 255) (hH : Ha w) :
    Calls Tryd.prog 5 #[.slice a len cap, .int .i64 at_, .int .u8 bit] w fun e w' => e = .returned (.bool true) ∧ Below w.heap.size w w' := by
  have HI : Hid (IsI .u8 w a len cap zs ∧ Bytes zs ∧ Ha w) := ⟨hI, hby, hH⟩
  clear hI hby hH
  by_cases hl : len ≤ 2000
  · have hl1 : ¬ (2000 : Int) < (len : Int) := by omega
    obtain ⟨bl, hbl⟩ : ∃ bl : Nat, bl = (bs len).length := ⟨_, rfl⟩
    have hb1 := bs_pos len
    have hb3 := bs_le3 (n := len) (by omega)
    obtain ⟨nl, hnl⟩ : ∃ nl : Nat, nl = 1 + bl + len + 4 := ⟨_, rfl⟩
    have hnl6 : ¬ (nl : Int) < (len : Int) + 6 := by omega
    obtain ⟨m, hm, hm1⟩ : ∃ m : Nat, bits .and .i64 at_ 65535 = (m : Int) ∧ m ≤ 65535 := ⟨(at_ % 65536).toNat, by rw [i64_and65535]; omega, by omega⟩
    obtain ⟨kk, hkk⟩ : ∃ kk : Nat, kk = m % nl := ⟨_, rfl⟩
    have hkn : kk < nl := by rw [hkk]; exact Nat.mod_lt _ (by omega)
    have htm : (m : Int).tmod (nl : Int) = (kk : Int) := by rw [hkk]; rfl
    have hn0 : ((nl : Int) == 0) = false := by simp; omega
    have hn0' : ¬ nl = 0 := by omega
    have HN : Hid (nl = 1 + bl + len + 4 ∧ bl = (bs len).length) := ⟨hnl, hbl⟩
    clear hkk
    go_enter Tryd.func5, Tryd.ntmps5
    go_wp2_with fail
    refine (awake_any w HI.out.2.2).mono ?_
    rintro e w1 ⟨rfl, hb1⟩
    have HB1 : Hid (Below w.heap.size w w1) := hb1
    clear hb1
    go_wp2_with fail
    refine (make_eq 7 rfl (by decide) a len cap zs w1 (HI.out.1.below HB1.out) HI.out.2.1 (by omega) (HI.out.2.2.below HB1.out)).mono ?_
    rw [← hbl, ← hnl]
    rintro e w2 ⟨a2, n2, c2, rfl, hn, ho2, hI2, hb2⟩
    subst hn
    clear hbl hnl
    have HB2 : Hid (Below w.heap.size w w2 ∧ w2.ownsRow w1.heap.size 5 1 (.slice a2 n2 c2) n2 ((frm 7 zs).map (Value.int .u8)) ∧ IsI .u8 w2 a2 n2 c2 (frm 7 zs)) := ⟨HB1.out.trans (hb2.mono HB1.out.size), ho2, hI2⟩
    have hc2 := hI2.hc
    have hm2 := hI2.hm
    unfold maxLen at hm2
    clear hI2 hb2 ho2
    obtain ⟨g, c2', hv, hgb, hgs, _, _⟩ := own_some HB2.out.2.1 (by omega)
    cases hv
    clear hgb hgs
    go_wp2_with fail
    refine (next_any _ 0 10 [] [] w2 (by decide) (by decide) (found_cut 7 (by decide) zs (tl (crc (hd 7 zs))) (by have := HI.out.1.hl; omega) HI.out.2.1 (tl_bytes (crc_lt _)) (tl_length _) _ kk c2 (by rw [show hd 7 zs ++ tl (crc (hd 7 zs)) = frm 7 zs from rfl, HB2.out.2.2.hl]; exact hkn) w2 (HB2.out.2.2.take (Nat.le_of_lt hkn)))).mono ?_
    rintro e w3 ⟨v1, v2, rfl, _, _, hb3⟩
    have HB3 : Hid (Below w.heap.size w w3 ∧ w3.ownsRow w1.heap.size 5 1 (.slice (some ⟨g, 0, none⟩) n2 c2) n2 ((frm 7 zs).map (Value.int .u8))) := ⟨HB2.out.1.trans (hb3.mono HB2.out.1.size), own_below HB2.out.2.1 hb3⟩
    clear hb3
    obtain ⟨hh, hhh⟩ : ∃ hh : Nat, hh = 1 + bl := ⟨_, rfl⟩
    have hhd : (n2 : Int) - (len : Int) - 4 = (hh : Int) := by have := HN.out.1; omega
    have HHH : Hid (hh = 1 + bl) := hhh
    clear hhh
    obtain ⟨p, hp, hp0, hp1⟩ := two_pow8 bit
    have hn2m : n2 ≤ 1000000 := by have := HN.out.1; have := HN.out.2; omega
    have HFB : Hid (Bytes (frm 7 zs)) := frm_bytes (by decide) (by have := HI.out.1.hl; omega) HI.out.2.1
    by_cases hk0 : kk = 0
    · subst hk0
      obtain ⟨x, hx⟩ : ∃ x, x = (frm 7 zs).getD 0 0 := ⟨_, rfl⟩
      have hxb : 0 ≤ x ∧ x ≤ 255 := by rw [hx]; exact bytes_getD HFB.out (by rw [HB2.out.2.2.hl]; omega)
      have hcell : w3.cell? ⟨g, 0, none⟩ = some (.int .u8 x) := by
        rw [HB3.out.2.cellAt 0 (by omega), List.getElem?_map, hx]
        have : 0 < (frm 7 zs).length := by rw [HB2.out.2.2.hl]; omega
        simp [List.getD, this]
      have hz := HB3.out.2.frozenAt 0
      have hpos : ((0 : Nat) : Int) < (n2 : Int) := by omega
      obtain ⟨y, hy, hy0, hy1, hyx⟩ := xor_u8 hxb hp0 hp1
      have HT : Hid (∃ kind zs' s4, (frm 7 zs).set 0 y = hd kind zs' ++ s4 ∧ kind ≤ 255 ∧ zs'.length ≤ 65535 ∧ Bytes zs' ∧ Bytes s4 ∧ s4.length = 4 ∧ jn s4 0 ≠ crc (hd kind zs')) :=
        turned HI.out.2.1 (by have := HI.out.1.hl; omega) (by rw [HB2.out.2.2.hl]; omega) (.inl rfl) ⟨hy0, hy1⟩ (by rw [← hx]; exact hyx)
      have HS : Hid (IsI .u8 (w3.setCell ⟨g, 0, none⟩ (.int .u8 y)) (some ⟨g, 0, none⟩) n2 c2 ((frm 7 zs).set 0 y) ∧ Below w.heap.size w (w3.setCell ⟨g, 0, none⟩ (.int .u8 y)) ∧ Ha (w3.setCell ⟨g, 0, none⟩ (.int .u8 y))) := by
        have hb := HB3.out.1.setCell (p := ⟨g, 0, none⟩) (Nat.le_trans HB1.out.size (HB3.out.2.lt g rfl).1) (.int .u8 y)
        exact ⟨isI_set HB3.out.2 0 y (by omega), hb, HI.out.2.2.below hb⟩
      clear hx hxb hyx hy0 hy1
      go_wp2_with fail
      obtain ⟨kind, zs', s4, e1, e2, e3, e4, e5, e6, e7⟩ := HT.out
      rw [e1] at HS
      have HF : ∀ w', Below w.heap.size w w' → IsI .u8 w' (some ⟨g, 0, none⟩) n2 c2 (hd kind zs' ++ s4) → Calls Tryd.prog 19 #[.slice (some ⟨g, 0, none⟩) n2 c2] w' (Found w' 0 50 [] []) := fun w' hb hI => found_sum kind e2 zs' s4 e3 e4 e5 e6 e7 _ n2 c2 w' hI (HI.out.2.2.below hb) hn2m
      have HF' : Hid (∀ w', Below w.heap.size w w' → IsI .u8 w' (some ⟨g, 0, none⟩) n2 c2 (hd kind zs' ++ s4) → Calls Tryd.prog 19 #[.slice (some ⟨g, 0, none⟩) n2 c2] w' (Found w' 0 50 [] [])) := HF
      clear HF e1 e2 e3 e4 e5 e6 e7
      refine (next_any _ 0 50 [] [] _ (by decide) (by decide) (HF'.out _ HS.out.2.1 HS.out.1)).mono ?_
      rintro e w4 ⟨v3, v4, rfl, ho3, ho4, hb4⟩
      obtain ⟨a3, c3, rfl, _⟩ := own_isI ho3
      obtain ⟨a4, c4, rfl, _⟩ := own_isI ho4
      have HB4 : Hid (Below w.heap.size w w4 ∧ IsI .u8 w4 (some ⟨g, 0, none⟩) n2 c2 (hd kind zs' ++ s4)) := ⟨HS.out.2.1.trans (hb4.mono HS.out.2.1.size), HS.out.1.below hb4⟩
      clear ho3 ho4 hb4
      go_wp2_with fail
      refine (only_err _ 0 50 7 (by decide) [] [] _ (HF'.out _ HB4.out.1 HB4.out.2)).mono ?_
      rintro e w5 ⟨rfl, hb5⟩
      go_wp2
      go_ret
      exact ⟨rfl, HB4.out.1.trans (hb5.mono HB4.out.1.size)⟩
    · have hk0' : (0 : Int) < (kk : Int) := by omega
      by_cases hkh : kk < hh
      · have hkh' : (kk : Int) < (hh : Int) := by omega
        obtain ⟨x, hx⟩ : ∃ x, x = (frm 7 zs).getD 0 0 := ⟨_, rfl⟩
        have hxb : 0 ≤ x ∧ x ≤ 255 := by rw [hx]; exact bytes_getD HFB.out (by rw [HB2.out.2.2.hl]; omega)
        have hcell : w3.cell? ⟨g, 0, none⟩ = some (.int .u8 x) := by
          rw [HB3.out.2.cellAt 0 (by omega), List.getElem?_map, hx]
          have : 0 < (frm 7 zs).length := by rw [HB2.out.2.2.hl]; omega
          simp [List.getD, this]
        have hz := HB3.out.2.frozenAt 0
        have hpos : ((0 : Nat) : Int) < (n2 : Int) := by omega
        obtain ⟨y, hy, hy0, hy1, hyx⟩ := xor_u8 hxb hp0 hp1
        have HT : Hid (∃ kind zs' s4, (frm 7 zs).set 0 y = hd kind zs' ++ s4 ∧ kind ≤ 255 ∧ zs'.length ≤ 65535 ∧ Bytes zs' ∧ Bytes s4 ∧ s4.length = 4 ∧ jn s4 0 ≠ crc (hd kind zs')) :=
          turned HI.out.2.1 (by have := HI.out.1.hl; omega) (by rw [HB2.out.2.2.hl]; omega) (.inl rfl) ⟨hy0, hy1⟩ (by rw [← hx]; exact hyx)
        have HS : Hid (IsI .u8 (w3.setCell ⟨g, 0, none⟩ (.int .u8 y)) (some ⟨g, 0, none⟩) n2 c2 ((frm 7 zs).set 0 y) ∧ Below w.heap.size w (w3.setCell ⟨g, 0, none⟩ (.int .u8 y)) ∧ Ha (w3.setCell ⟨g, 0, none⟩ (.int .u8 y))) := by
          have hb := HB3.out.1.setCell (p := ⟨g, 0, none⟩) (Nat.le_trans HB1.out.size (HB3.out.2.lt g rfl).1) (.int .u8 y)
          exact ⟨isI_set HB3.out.2 0 y (by omega), hb, HI.out.2.2.below hb⟩
        clear hx hxb hyx hy0 hy1
        go_wp2_with fail
        obtain ⟨kind, zs', s4, e1, e2, e3, e4, e5, e6, e7⟩ := HT.out
        rw [e1] at HS
        have HF : ∀ w', Below w.heap.size w w' → IsI .u8 w' (some ⟨g, 0, none⟩) n2 c2 (hd kind zs' ++ s4) → Calls Tryd.prog 19 #[.slice (some ⟨g, 0, none⟩) n2 c2] w' (Found w' 0 50 [] []) := fun w' hb hI => found_sum kind e2 zs' s4 e3 e4 e5 e6 e7 _ n2 c2 w' hI (HI.out.2.2.below hb) hn2m
        have HF' : Hid (∀ w', Below w.heap.size w w' → IsI .u8 w' (some ⟨g, 0, none⟩) n2 c2 (hd kind zs' ++ s4) → Calls Tryd.prog 19 #[.slice (some ⟨g, 0, none⟩) n2 c2] w' (Found w' 0 50 [] [])) := HF
        clear HF e1 e2 e3 e4 e5 e6 e7
        refine (next_any _ 0 50 [] [] _ (by decide) (by decide) (HF'.out _ HS.out.2.1 HS.out.1)).mono ?_
        rintro e w4 ⟨v3, v4, rfl, ho3, ho4, hb4⟩
        obtain ⟨a3, c3, rfl, _⟩ := own_isI ho3
        obtain ⟨a4, c4, rfl, _⟩ := own_isI ho4
        have HB4 : Hid (Below w.heap.size w w4 ∧ IsI .u8 w4 (some ⟨g, 0, none⟩) n2 c2 (hd kind zs' ++ s4)) := ⟨HS.out.2.1.trans (hb4.mono HS.out.2.1.size), HS.out.1.below hb4⟩
        clear ho3 ho4 hb4
        go_wp2_with fail
        refine (only_err _ 0 50 7 (by decide) [] [] _ (HF'.out _ HB4.out.1 HB4.out.2)).mono ?_
        rintro e w5 ⟨rfl, hb5⟩
        go_wp2
        go_ret
        exact ⟨rfl, HB4.out.1.trans (hb5.mono HB4.out.1.size)⟩
      · have hkh' : ¬ (kk : Int) < (hh : Int) := by omega
        obtain ⟨x, hx⟩ : ∃ x, x = (frm 7 zs).getD kk 0 := ⟨_, rfl⟩
        have hxb : 0 ≤ x ∧ x ≤ 255 := by rw [hx]; exact bytes_getD HFB.out (by rw [HB2.out.2.2.hl]; omega)
        have hcell : w3.cell? ⟨g, kk, none⟩ = some (.int .u8 x) := by
          rw [HB3.out.2.cellAt kk (by omega), List.getElem?_map, hx]
          have : kk < (frm 7 zs).length := by rw [HB2.out.2.2.hl]; omega
          simp [List.getD, this]
        have hz := HB3.out.2.frozenAt kk
        have hpos : ((kk : Nat) : Int) < (n2 : Int) := by omega
        obtain ⟨y, hy, hy0, hy1, hyx⟩ := xor_u8 hxb hp0 hp1
        have HT : Hid (∃ kind zs' s4, (frm 7 zs).set kk y = hd kind zs' ++ s4 ∧ kind ≤ 255 ∧ zs'.length ≤ 65535 ∧ Bytes zs' ∧ Bytes s4 ∧ s4.length = 4 ∧ jn s4 0 ≠ crc (hd kind zs')) :=
          turned HI.out.2.1 (by have := HI.out.1.hl; omega) (by rw [HB2.out.2.2.hl]; omega) (.inr (by have := HHH.out; have := HN.out.2; rw [HI.out.1.hl]; omega)) ⟨hy0, hy1⟩ (by rw [← hx]; exact hyx)
        have HS : Hid (IsI .u8 (w3.setCell ⟨g, kk, none⟩ (.int .u8 y)) (some ⟨g, 0, none⟩) n2 c2 ((frm 7 zs).set kk y) ∧ Below w.heap.size w (w3.setCell ⟨g, kk, none⟩ (.int .u8 y)) ∧ Ha (w3.setCell ⟨g, kk, none⟩ (.int .u8 y))) := by
          have hb := HB3.out.1.setCell (p := ⟨g, kk, none⟩) (Nat.le_trans HB1.out.size (HB3.out.2.lt g rfl).1) (.int .u8 y)
          exact ⟨isI_set HB3.out.2 kk y (by omega), hb, HI.out.2.2.below hb⟩
        clear hx hxb hyx hy0 hy1
        go_wp2_with fail
        obtain ⟨kind, zs', s4, e1, e2, e3, e4, e5, e6, e7⟩ := HT.out
        rw [e1] at HS
        have HF : ∀ w', Below w.heap.size w w' → IsI .u8 w' (some ⟨g, 0, none⟩) n2 c2 (hd kind zs' ++ s4) → Calls Tryd.prog 19 #[.slice (some ⟨g, 0, none⟩) n2 c2] w' (Found w' 0 50 [] []) := fun w' hb hI => found_sum kind e2 zs' s4 e3 e4 e5 e6 e7 _ n2 c2 w' hI (HI.out.2.2.below hb) hn2m
        have HF' : Hid (∀ w', Below w.heap.size w w' → IsI .u8 w' (some ⟨g, 0, none⟩) n2 c2 (hd kind zs' ++ s4) → Calls Tryd.prog 19 #[.slice (some ⟨g, 0, none⟩) n2 c2] w' (Found w' 0 50 [] [])) := HF
        clear HF e1 e2 e3 e4 e5 e6 e7
        refine (next_any _ 0 50 [] [] _ (by decide) (by decide) (HF'.out _ HS.out.2.1 HS.out.1)).mono ?_
        rintro e w4 ⟨v3, v4, rfl, ho3, ho4, hb4⟩
        obtain ⟨a3, c3, rfl, _⟩ := own_isI ho3
        obtain ⟨a4, c4, rfl, _⟩ := own_isI ho4
        have HB4 : Hid (Below w.heap.size w w4 ∧ IsI .u8 w4 (some ⟨g, 0, none⟩) n2 c2 (hd kind zs' ++ s4)) := ⟨HS.out.2.1.trans (hb4.mono HS.out.2.1.size), HS.out.1.below hb4⟩
        clear ho3 ho4 hb4
        go_wp2_with fail
        refine (only_err _ 0 50 7 (by decide) [] [] _ (HF'.out _ HB4.out.1 HB4.out.2)).mono ?_
        rintro e w5 ⟨rfl, hb5⟩
        go_wp2
        go_ret
        exact ⟨rfl, HB4.out.1.trans (hb5.mono HB4.out.1.size)⟩
  · have hl1 : (2000 : Int) < (len : Int) := by omega
    go_enter Tryd.func5, Tryd.ntmps5
    go_wp2_with (go_at_call 8; refine (awake_any w HI.out.2.2).mono ?_; rintro e w1 ⟨rfl, hb1⟩)
    go_ret
    exact ⟨rfl, hb1⟩

set_option maxRecDepth 100000 in
theorem frameTurned_lifted (os : Os) (started : os.Started) (H : Type) (enc : TypeId × Value → H) :
    ReturnsInHanded {} Tryd.checked os 5 .any (fun w args => (Rows.frameTurnedSpec.pre enc Tryd.prog Tryd.f5 [] false w args ∧ laidMetH Tryd.prog Rows.frameTurnedRow.laid w) ∧ sizedMet enc Tryd.prog Tryd.f5 (OpenSpec.ofChange Rows.frameTurnedSpec) false w args)
      (Rows.frameTurnedSpec.post enc Tryd.prog Tryd.f5 false true false false) := by
  refine returns_and_shaped (C := Tryd.checked) (X := fun w _ => laidMetH Tryd.prog Rows.frameTurnedRow.laid w) (fun _ _ _ hh h => h.of_heap hh) own started (by kernel_rfl) Tryd.func5
    (ChangeSpec.witness_shaped (enc := enc) (C := Tryd.checked) (os := os) (X := fun w _ => laidMetH Tryd.prog Rows.frameTurnedRow.laid w) false (World.laidAll Tryd.prog os Rows.frameTurnedRow.laid) #[.slice none 0 0, .int .i64 0, .int .u8 0] 8 (World.laidAll_os _ _ _)
      (World.shaped_of_ZipB (by kernel_rfl) (by kernel_rfl)) (by kernel_rfl) (by kernel_rfl) (by kernel_rfl)
      (by rw [MakeChecks.laidMetH_plain _ _ _ (by kernel_rfl)]; exact laidMet_laidAll _ (by kernel_rfl) (by kernel_rfl))) ?_
  intro W base args ds gs before hval0 hW hL hsh
  have hval : ∀ (j : Nat) t v, Tryd.f5.params[j]? = some t → args[j]? = some v → Value.okWide Tryd.prog W .any base t v := hval0
  have hW' := hW
  obtain ⟨p, q, hA0, hV, rfl, _, _⟩ := hW
  have hA : DataW.TrodAll enc Tryd.prog W 0 (fun _ => true) true Tryd.f5.params.toList args.toList ds p := hA0
  rw [Tryd.params5] at hA hval
  obtain ⟨v0, vs0, d0, ds0, p0, q0, hargs, rfl, rfl, h0, r0⟩ := trodAll_cons hA
  obtain ⟨v1, vs1, d1, ds1, p1, q1, rfl, rfl, rfl, h1, r1⟩ := trodAll_cons r0
  obtain ⟨v2, vs2, d2, ds2, p2, q2, rfl, rfl, rfl, h2, r2⟩ := trodAll_cons r1
  obtain ⟨rfl, rfl, rfl⟩ := trodAll_nil r2
  obtain rfl : args = #[v0, v1, v2] := by cases args; simp_all
  obtain ⟨rfl, rfl⟩ := trodVars_none hV
  obtain ⟨a0, len0, cap0, rfl⟩ := okWide_slice Tryd.underlying22 (hval 0 22 v0 rfl rfl)
  have k0 := h0
  have lt0 : ∀ x ∈ p0, x.block < W.heap.size := by obtain ⟨m, hm⟩ := k0; exact DataW.trod_lt m _ _ _ hm
  obtain ⟨vl0, w0, wf0⟩ : ∃ ms, IsI .u8 W a0 len0 cap0 ms ∧ ∀ n ∈ ms, (Lit.int .u8 n).wf = true := by obtain ⟨fuel, hf⟩ := h0; exact isI_22 hf
  obtain ⟨a1, rfl, rfl, rfl, w1⟩ := open_int Tryd.underlying3 (hval 1 3 v1 rfl rfl) h1
  have hx1 : -9223372036854775808 ≤ a1 ∧ a1 ≤ 9223372036854775807 := by simpa [Lit.wf, IntKind.min, IntKind.max, IntKind.signed, IntKind.bits] using w1
  obtain ⟨a2, rfl, rfl, rfl, w2⟩ := open_int Tryd.underlying5 (hval 2 5 v2 rfl rfl) h2
  have hx2 : 0 ≤ a2 ∧ a2 ≤ 255 := by simpa [Lit.wf, IntKind.min, IntKind.max, IntKind.signed, IntKind.bits] using w2
  clear hA0 hval0
  rw [MakeChecks.laidMetH_plain _ _ _ (by kernel_rfl)] at hL
  refine (frameTurned_walk (w := W) a0 len0 cap0 vl0 w0 (bytes_wf wf0) a1 hx1 a2 hx2 (ha_of (laidMet.reads hL (by simp [Rows.frameTurnedRow])))).mono fun e W' ⟨he, hb⟩ => ?_
  subst he
  exact ⟨_, rfl, _, _, _, [], _, [], hW', trodAll_mk1 (shut_bool Tryd.underlying4 _), (trodAll_cons_mk (Below.trod laidOut (by kernel_rfl) (of_decide_eq_true (by kernel_rfl)) k0 hb lt0) (trodAll_cons_mk (shut_int Tryd.underlying3 w1) (trodAll_cons_mk (shut_int Tryd.underlying5 w2) trodAll_mk0))), rfl, hb.frame _, fun h => by cases h⟩

theorem frameTurned_row : Rows.FrameTurnedSaid :=
  OpenClaim.holds_of_wide 5 Tryd.f5 rfl rfl rfl rfl rfl rfl rfl ⟨rfl, rfl, rfl, rfl, rfl⟩ rfl rfl rfl rfl rfl (by kernel_rfl) Tryd.func5 (by kernel_rfl)
    (of_decide_eq_true (by kernel_rfl)) (by unfold Func.isWrapper; first | (rw [if_pos (by decide +kernel)]; kernel_rfl) | (rw [if_neg (by decide +kernel)]; exact ⟨rfl, rfl⟩))
    (fun os started H enc _ => frameTurned_lifted os started H enc)

theorem frameTurned_holds : Rows.FrameTurnedCardSaid :=
  Claim7.holds_tied_plain_at .later [] [.data] true (true, "1e33bb0a793bb80f35d1427b56526076d247bc62253042da2be5e62c13294839") false frameTurned_row (fun _ h => by cases h) (by kernel_rfl) (fun _ h => by cases h) frameTurned_row_tie rfl ⟨rfl, rfl⟩ (by kernel_rfl) rfl
    (fun f fn hf hfn => by
      obtain rfl : f = 5 := Option.some.inj ((show Tryd.prog.funcNamed Rows.frameTurnedRow.func = some 5 by kernel_rfl).symm.trans hf) |>.symm
      obtain rfl : fn = Tryd.f5 := (Option.some.inj (Tryd.func5.symm.trans hfn)).symm
      exact ⟨by kernel_rfl, fun j t ht => by
        rw [Tryd.params5] at ht
        have hm : t ∈ [22, 3, 5] := by simpa using Array.mem_of_getElem? ht
        have hall : ([22, 3, 5].all fun u => !Tryd.prog.wantsStandIn u) = true := by kernel_rfl
        exact (show Tryd.prog.wantsStandIn t = false by simpa using List.all_eq_true.1 hall t hm)⟩)
    (by kernel_rfl)
#print axioms frameTurned_holds
end Go.Proofs.YtifkpimglmncdaaDoor
