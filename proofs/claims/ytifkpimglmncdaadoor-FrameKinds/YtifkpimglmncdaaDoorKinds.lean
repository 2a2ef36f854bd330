/- FrameKinds: frames of two kinds, or of two bodies, are other bytes; a longer body has a longer frame: true for every input. Conditions: the table of half bytes holds what the program's text lays. -/
import Derived.Test.YtifkpimglmncdaaDoorPl
namespace Go.Proofs.YtifkpimglmncdaaDoor
open Go.ChangeShapes Go.WideShapes Go.ChangeAt Go.RowKit Go.Lib

set_option maxHeartbeats 8000000 in
theorem frameKinds_walk {w : World} (k : Int) (_hk : -9223372036854775808 ≤ k ∧ k ≤ 9223372036854775807) (a : Option Addr) (len cap : Nat) (zs : List Int) (hI : IsI .u8 w a len cap zs) (hby : Bytes zs)
    (a' : Option Addr) (len' cap' : Nat) (zs' : List Int) (hI' : IsI .u8 w a' len' cap' zs') (hby' : Bytes zs') (hH : Ha w) :
    Calls Tryd.prog 7 #[.int .i64 k, .slice a len cap, .slice a' len' cap'] w fun e w' => e = .returned (.bool true) ∧ Below w.heap.size w w' := by
  have HI : Hid (IsI .u8 w a len cap zs ∧ Bytes zs ∧ Ha w) := ⟨hI, hby, hH⟩
  have HI' : Hid (IsI .u8 w a' len' cap' zs' ∧ Bytes zs') := ⟨hI', hby'⟩
  clear hI hby hH hI' hby'
  by_cases hl : len ≤ 500
  · have hl1 : ¬ (500 : Int) < (len : Int) := by omega
    by_cases hl' : len' ≤ 500
    · have hl2 : ¬ (500 : Int) < (len' : Int) := by omega
      obtain ⟨ka, hka, hka1, hka2⟩ := and255_nat k
      obtain ⟨kb, hkb, hkb1, hkb2⟩ := and255_nat (wrap64 (k + 1))
      have hne : ka ≠ kb := by rw [wrap_mod256] at hkb2; omega
      clear hka2 hkb2
      have hzl := HI.out.1.hl
      have hzl' := HI'.out.1.hl
      have hf1 : Bytes (frm ka zs) := frm_bytes hka1 (by omega) HI.out.2.1
      have hf2 : Bytes (frm ka zs') := frm_bytes hka1 (by omega) HI'.out.2
      have hf3 : Bytes (frm kb zs) := frm_bytes hkb1 (by omega) HI.out.2.1
      obtain ⟨q, hq⟩ : ∃ q, q = decide (zs = zs') := ⟨_, rfl⟩
      obtain ⟨S1, hS1⟩ : ∃ S, S = strOfNums (frm ka zs) := ⟨_, rfl⟩
      obtain ⟨S2, hS2⟩ : ∃ S, S = strOfNums (frm ka zs') := ⟨_, rfl⟩
      obtain ⟨S3, hS3⟩ : ∃ S, S = strOfNums zs := ⟨_, rfl⟩
      obtain ⟨S4, hS4⟩ : ∃ S, S = strOfNums zs' := ⟨_, rfl⟩
      obtain ⟨S5, hS5⟩ : ∃ S, S = strOfNums (frm kb zs) := ⟨_, rfl⟩
      have e12 : (S1.toList == S2.toList) = q := by
        rw [hS1, hS2, str_beq hf1 hf2, hq]
        by_cases h : zs = zs'
        · subst h; simp
        · rw [decide_eq_false h, decide_eq_false fun e => h (frm_inj (by omega) (by omega) e)]
      have e34 : (S3.toList == S4.toList) = q := by rw [hS3, hS4, str_beq HI.out.2.1 HI'.out.2, hq]
      have e15 : (S1.toList == S5.toList) = false := by rw [hS1, hS5, str_beq hf1 hf3, decide_eq_false (frm_kind hne)]
      have HSt : Hid (S1 = strOfNums (frm ka zs) ∧ S2 = strOfNums (frm ka zs') ∧ S3 = strOfNums zs ∧ S4 = strOfNums zs' ∧ S5 = strOfNums (frm kb zs)) := ⟨hS1, hS2, hS3, hS4, hS5⟩
      clear hne hq hS1 hS2 hS3 hS4 hS5 hf1 hf2 hf3 hzl hzl'
      obtain ⟨nl, hnl⟩ : ∃ nl : Nat, nl = 1 + (bs len).length + len + 4 := ⟨_, rfl⟩
      obtain ⟨nl', hnl'⟩ : ∃ nl' : Nat, nl' = 1 + (bs len').length + len' + 4 := ⟨_, rfl⟩
      have hb1 := bs_pos len
      have hb2 := bs_pos len'
      have hnl6 : ¬ (nl : Int) < 6 := by omega
      have HN : Hid (nl = 1 + (bs len).length + len + 4 ∧ nl' = 1 + (bs len').length + len' + 4) := ⟨hnl, hnl'⟩
      clear hnl hnl' hb1 hb2
      go_enter Tryd.func7, Tryd.ntmps7
      go_wp2_with fail
      refine (awake_any w HI.out.2.2).mono ?_
      rintro e w1 ⟨rfl, hb1⟩
      have HB1 : Hid (Below w.heap.size w w1) := hb1
      clear hb1
      go_wp2_with fail
      refine (make_eq ka rfl hka1 a len cap zs w1 (HI.out.1.below HB1.out) HI.out.2.1 (by omega) (HI.out.2.2.below HB1.out)).mono ?_
      rw [← HN.out.1]
      rintro e w2 ⟨a2, n2, c2, rfl, hn, ho2, hI2, hb2⟩
      subst hn
      have HB2 : Hid (Below w.heap.size w w2 ∧ IsI .u8 w2 a2 n2 c2 (frm ka zs)) := ⟨HB1.out.trans (hb2.mono HB1.out.size), hI2⟩
      clear hI2 hb2 ho2
      go_wp2_with fail
      refine (make_eq ka rfl hka1 a' len' cap' zs' w2 (HI'.out.1.below HB2.out.1) HI'.out.2 (by omega) (HI.out.2.2.below HB2.out.1)).mono ?_
      rw [← HN.out.2]
      rintro e w3 ⟨a3, n3, c3, rfl, hn, ho3, hI3, hb3⟩
      subst hn
      have HB3 : Hid (Below w.heap.size w w3 ∧ IsI .u8 w3 a3 n3 c3 (frm ka zs') ∧ IsI .u8 w3 a2 n2 c2 (frm ka zs)) := ⟨HB2.out.1.trans (hb3.mono HB2.out.1.size), hI3, HB2.out.2.below hb3⟩
      clear hI3 hb3 ho3
      go_wp2_with fail
      refine (make_eq kb rfl hkb1 a len cap zs w3 (HI.out.1.below HB3.out.1) HI.out.2.1 (by omega) (HI.out.2.2.below HB3.out.1)).mono ?_
      rw [← HN.out.1]
      rintro e w4 ⟨a4, n4, c4, rfl, hn, ho4, hI4, hb4⟩
      subst hn
      have HB4 : Hid (Below w.heap.size w w4 ∧ IsI .u8 w4 a4 n4 c4 (frm kb zs)) := ⟨HB3.out.1.trans (hb4.mono HB3.out.1.size), hI4⟩
      have hv1 := conv_rd w4 a2 c2 n4 (frm ka zs) HB3.out.2.2.hl (HB3.out.2.2.below hb4).rd
      have hv2 := conv_rd w4 a3 c3 n3 (frm ka zs') HB3.out.2.1.hl (HB3.out.2.1.below hb4).rd
      have hv3 := conv_rd w4 a cap len zs HI.out.1.hl (HI.out.1.below HB4.out.1).rd
      have hv4 := conv_rd w4 a' cap' len' zs' HI'.out.1.hl (HI'.out.1.below HB4.out.1).rd
      have hv5 := conv_rd w4 a4 c4 n4 (frm kb zs) hI4.hl hI4.rd
      rw [← HSt.out.1] at hv1
      rw [← HSt.out.2.1] at hv2
      rw [← HSt.out.2.2.1] at hv3
      rw [← HSt.out.2.2.2.1] at hv4
      rw [← HSt.out.2.2.2.2] at hv5
      have hn4 : n4 = 1 + (bs len).length + len + 4 := HN.out.1
      have hbp := bs_pos len
      obtain ⟨g2, o2, rfl, hS⟩ := sb_of (HB3.out.2.2.below hb4) (frm_bytes hka1 (by have := HI.out.1.hl; omega) HI.out.2.1) (by omega)
      have hcell : w4.cell? ⟨g2, o2, none⟩ = some (.int .u8 (ka : Int)) := by
        have := hS.cells 0 (by rw [hS.hl]; omega)
        simpa [frm, hd] using this
      have hpos : (0 : Int) < (n4 : Int) := by omega
      clear hI4 hb4 ho4 hS
      by_cases h127 : len ≤ 127
      · have h127' : ¬ (127 : Int) < (len : Int) := by omega
        have hlb : ((n4 : Int) == (len : Int) + 6) = true := by
          have : (bs len).length = 1 := (bs_one len).2 h127
          simp; omega
        clear hn4 hbp
        cases q with
        | true => go_wp2; go_ret; exact ⟨rfl, HB4.out.1⟩
        | false => go_wp2; go_ret; exact ⟨rfl, HB4.out.1⟩
      · have h127' : (127 : Int) < (len : Int) := by omega
        have hlb : ((n4 : Int) == (len : Int) + 7) = true := by
          have : (bs len).length = 2 := bs_two (by omega) hl
          simp; omega
        clear hn4 hbp
        cases q with
        | true => go_wp2; go_ret; exact ⟨rfl, HB4.out.1⟩
        | false => go_wp2; go_ret; exact ⟨rfl, HB4.out.1⟩
    · have hl2 : (500 : Int) < (len' : Int) := by omega
      go_enter Tryd.func7, Tryd.ntmps7
      go_wp2_with (go_at_call 8; refine (awake_any w HI.out.2.2).mono ?_; rintro e w1 ⟨rfl, hb1⟩)
      go_ret
      exact ⟨rfl, hb1⟩
  · have hl1 : (500 : Int) < (len : Int) := by omega
    go_enter Tryd.func7, Tryd.ntmps7
    go_wp2_with (go_at_call 8; refine (awake_any w HI.out.2.2).mono ?_; rintro e w1 ⟨rfl, hb1⟩)
    go_ret
    exact ⟨rfl, hb1⟩

set_option maxRecDepth 100000 in
theorem frameKinds_lifted (os : Os) (started : os.Started) (H : Type) (enc : TypeId × Value → H) :
    ReturnsInHanded {} Tryd.checked os 7 .any (fun w args => (Rows.frameKindsSpec.pre enc Tryd.prog Tryd.f7 [] false w args ∧ laidMetH Tryd.prog Rows.frameKindsRow.laid w) ∧ sizedMet enc Tryd.prog Tryd.f7 (OpenSpec.ofChange Rows.frameKindsSpec) false w args)
      (Rows.frameKindsSpec.post enc Tryd.prog Tryd.f7 false true false false) := by
  refine returns_and_shaped (C := Tryd.checked) (X := fun w _ => laidMetH Tryd.prog Rows.frameKindsRow.laid w) (fun _ _ _ hh h => h.of_heap hh) own started (by kernel_rfl) Tryd.func7
    (ChangeSpec.witness_shaped (enc := enc) (C := Tryd.checked) (os := os) (X := fun w _ => laidMetH Tryd.prog Rows.frameKindsRow.laid w) false (World.laidAll Tryd.prog os Rows.frameKindsRow.laid) #[.int .i64 0, .slice none 0 0, .slice none 0 0] 8 (World.laidAll_os _ _ _)
      (World.shaped_of_ZipB (by kernel_rfl) (by kernel_rfl)) (by kernel_rfl) (by kernel_rfl) (by kernel_rfl)
      (by rw [MakeChecks.laidMetH_plain _ _ _ (by kernel_rfl)]; exact laidMet_laidAll _ (by kernel_rfl) (by kernel_rfl))) ?_
  intro W base args ds gs before hval0 hW hL hsh
  have hval : ∀ (j : Nat) t v, Tryd.f7.params[j]? = some t → args[j]? = some v → Value.okWide Tryd.prog W .any base t v := hval0
  have hW' := hW
  obtain ⟨p, q, hA0, hV, rfl, _, _⟩ := hW
  have hA : DataW.TrodAll enc Tryd.prog W 0 (fun _ => true) true Tryd.f7.params.toList args.toList ds p := hA0
  rw [Tryd.params7] at hA hval
  obtain ⟨v0, vs0, d0, ds0, p0, q0, hargs, rfl, rfl, h0, r0⟩ := trodAll_cons hA
  obtain ⟨v1, vs1, d1, ds1, p1, q1, rfl, rfl, rfl, h1, r1⟩ := trodAll_cons r0
  obtain ⟨v2, vs2, d2, ds2, p2, q2, rfl, rfl, rfl, h2, r2⟩ := trodAll_cons r1
  obtain ⟨rfl, rfl, rfl⟩ := trodAll_nil r2
  obtain rfl : args = #[v0, v1, v2] := by cases args; simp_all
  obtain ⟨rfl, rfl⟩ := trodVars_none hV
  obtain ⟨a0, rfl, rfl, rfl, w0⟩ := open_int Tryd.underlying3 (hval 0 3 v0 rfl rfl) h0
  have hx0 : -9223372036854775808 ≤ a0 ∧ a0 ≤ 9223372036854775807 := by simpa [Lit.wf, IntKind.min, IntKind.max, IntKind.signed, IntKind.bits] using w0
  obtain ⟨a1, len1, cap1, rfl⟩ := okWide_slice Tryd.underlying22 (hval 1 22 v1 rfl rfl)
  have k1 := h1
  have lt1 : ∀ x ∈ p1, x.block < W.heap.size := by obtain ⟨m, hm⟩ := k1; exact DataW.trod_lt m _ _ _ hm
  obtain ⟨vl1, w1, wf1⟩ : ∃ ms, IsI .u8 W a1 len1 cap1 ms ∧ ∀ n ∈ ms, (Lit.int .u8 n).wf = true := by obtain ⟨fuel, hf⟩ := h1; exact isI_22 hf
  obtain ⟨a2, len2, cap2, rfl⟩ := okWide_slice Tryd.underlying22 (hval 2 22 v2 rfl rfl)
  have k2 := h2
  have lt2 : ∀ x ∈ p2, x.block < W.heap.size := by obtain ⟨m, hm⟩ := k2; exact DataW.trod_lt m _ _ _ hm
  obtain ⟨vl2, w2, wf2⟩ : ∃ ms, IsI .u8 W a2 len2 cap2 ms ∧ ∀ n ∈ ms, (Lit.int .u8 n).wf = true := by obtain ⟨fuel, hf⟩ := h2; exact isI_22 hf
  clear hA0 hval0
  rw [MakeChecks.laidMetH_plain _ _ _ (by kernel_rfl)] at hL
  refine (frameKinds_walk (w := W) a0 hx0 a1 len1 cap1 vl1 w1 (bytes_wf wf1) a2 len2 cap2 vl2 w2 (bytes_wf wf2) (ha_of (laidMet.reads hL (by simp [Rows.frameKindsRow])))).mono fun e W' ⟨he, hb⟩ => ?_
  subst he
  exact ⟨_, rfl, _, _, _, [], _, [], hW', trodAll_mk1 (shut_bool Tryd.underlying4 _), (trodAll_cons_mk (shut_int Tryd.underlying3 w0) (trodAll_cons_mk (Below.trod laidOut (by kernel_rfl) (of_decide_eq_true (by kernel_rfl)) k1 hb lt1) (trodAll_cons_mk (Below.trod laidOut (by kernel_rfl) (of_decide_eq_true (by kernel_rfl)) k2 hb lt2) trodAll_mk0))), rfl, hb.frame _, fun h => by cases h⟩

theorem frameKinds_row : Rows.FrameKindsSaid :=
  OpenClaim.holds_of_wide 7 Tryd.f7 rfl rfl rfl rfl rfl rfl rfl ⟨rfl, rfl, rfl, rfl, rfl⟩ rfl rfl rfl rfl rfl (by kernel_rfl) Tryd.func7 (by kernel_rfl)
    (of_decide_eq_true (by kernel_rfl)) (by unfold Func.isWrapper; first | (rw [if_pos (by decide +kernel)]; kernel_rfl) | (rw [if_neg (by decide +kernel)]; exact ⟨rfl, rfl⟩))
    (fun os started H enc _ => frameKinds_lifted os started H enc)

theorem frameKinds_holds : Rows.FrameKindsCardSaid :=
  Claim7.holds_tied_plain_at .later [] [.data] true (true, "1e33bb0a793bb80f35d1427b56526076d247bc62253042da2be5e62c13294839") false frameKinds_row (fun _ h => by cases h) (by kernel_rfl) (fun _ h => by cases h) frameKinds_row_tie rfl ⟨rfl, rfl⟩ (by kernel_rfl) rfl
    (fun f fn hf hfn => by
      obtain rfl : f = 7 := Option.some.inj ((show Tryd.prog.funcNamed Rows.frameKindsRow.func = some 7 by kernel_rfl).symm.trans hf) |>.symm
      obtain rfl : fn = Tryd.f7 := (Option.some.inj (Tryd.func7.symm.trans hfn)).symm
      exact ⟨by kernel_rfl, fun j t ht => by
        rw [Tryd.params7] at ht
        have hm : t ∈ [3, 22, 22] := by simpa using Array.mem_of_getElem? ht
        have hall : ([3, 22, 22].all fun u => !Tryd.prog.wantsStandIn u) = true := by kernel_rfl
        exact (show Tryd.prog.wantsStandIn t = false by simpa using List.all_eq_true.1 hall t hm)⟩)
    (by kernel_rfl)
#print axioms frameKinds_holds
end Go.Proofs.YtifkpimglmncdaaDoor
