/- For every row, no kind that may be has fewer bytes than what is encoded, that is one of them, and one of them may always be: CodecLeast returns true, and its argument reads as before. Conditions: the listed package variable starts as the program's text lays it (the card ties it). -/
import Derived.Test.YtbgipenonngccaaDoorFr
namespace Go.Proofs.YtbgipenonngccaaDoor
open Go.ChangeShapes Go.WideShapes Go.ChangeAt Go.RowKit Go.Lib

theorem wf64 {x : Int} (h : (Lit.int .i64 x).wf = true) : -9223372036854775808 ≤ x ∧ x ≤ 9223372036854775807 := by
  simpa [Lit.wf, IntKind.min, IntKind.max, IntKind.signed, IntKind.bits] using h

set_option maxHeartbeats 3200000 in
theorem codecLeast_walk {w : World} (a : Option Addr) (len cap : Nat) (ms : List Int) (hv : IsI .i64 w a len cap ms) (hwf : ∀ n ∈ ms, (Lit.int .i64 n).wf = true) (hF : Fw w) :
    Calls Tryd.prog 5 #[.slice a len cap] w fun e w' => e = .returned (.bool true) ∧ Below w.heap.size w w' := by
  have h64 := all64_of hwf
  have HA : Hid (∀ (k : Int) w', Below w.heap.size w w' → Calls Tryd.prog 9 #[.int .i64 k, .slice a len cap] w' (AsIs k ms w')) := fun k w' hb => as_any k a len cap ms w' hv.hl hv.hc hv.hm (hv.rd.below hb) h64 (hF.below hb)
  have HE : Hid (∀ w', Below w.heap.size w w' → Calls Tryd.prog 13 #[.slice a len cap] w' (EncIs ms w')) := fun w' hb => encode_any a len cap ms w' hv.hl hv.hc hv.hm (hv.rd.below hb) h64 (hF.below hb)
  have HW : Hid (Calls Tryd.prog 8 #[] w fun e w' => e = .returned (.bool true) ∧ Below w.heap.size w w') := awake_any w hF
  have HL : Hid (ms.length = len) := hv.hl
  clear hv hwf hF h64
  go_enter Tryd.func5, Tryd.ntmps5
  go_wp2_with fail
  refine Calls.mono HW.out ?_
  rintro e w1 ⟨rfl, hb1⟩
  by_cases hlen : len ≤ 4096
  · have h' : ¬ (4096 : Int) < (len : Int) := by omega
    obtain ⟨b, c, hb4, hbest, hcode, hmin, _⟩ := best_spec (l := ms) (by rw [HL.out]; exact hlen)
    have HB : Hid (best ms = (b : Int) ∧ code b ms = some c ∧ ∀ j c', code j ms = some c' → c.length ≤ c'.length) := ⟨hbest, hcode, hmin⟩
    clear hbest hcode hmin
    go_wp2_with fail
    refine (HE.out w1 hb1).mono ?_
    rintro e w2 ⟨⟨c0, g, cp, hc, rfl, ho⟩ | ⟨hc, _⟩, hb2⟩
    · have e0 : c0 = c := by
        rw [HB.out.1, codeI_nat, HB.out.2.1] at hc; exact (Option.some.inj hc).symm
      subst e0
      have hb12 : Below w.heap.size w w2 := hb1.trans (hb2.mono hb1.size)
      obtain ⟨nb, hnb⟩ : ∃ x : Nat, Hid (x = c0.length) := ⟨_, rfl⟩
      rw [← hnb.out] at ho ⊢
      have hg2 : g < w2.heap.size := (ho.lt g rfl).2
      have HO : Hid (Rd .u8 w2 (some ⟨g, 0, none⟩) c0) := own_rd ho
      clear ho hc hb2
      obtain ⟨s0, hs0⟩ : ∃ s, Hid (s = strOfNums c0) := ⟨_, rfl⟩
      go_wp2_with fail
      go_loopw [5, 6] (fun s i wr => ∃ (k : Nat) (sv : Bool), i = .int .i64 (k : Int) ∧ s = .bool sv ∧ k ≤ 4 ∧ Hid (b < k → sv = true) ∧ Below w2.heap.size w2 wr) (fun _ i _ => 4 - (RowKit.intOf i).toNat)
      case atStart => exact ⟨0, false, rfl, rfl, by decide, fun h => by omega, Below.refl _ _⟩
      case round =>
        obtain ⟨k, sv, rfl, rfl, hk, hsv, hbr⟩ := hrel
        have hbw : Below w.heap.size w wr := hb12.trans (hbr.mono hb12.size)
        by_cases hlt : k < 4
        · have hlt' : (k : Int) ≤ 3 := by omega
          go_wp2_with fail
          refine (HA.out (k : Int) wr hbw).mono ?_
          rintro e w3 ⟨⟨c', g', cp', hc', rfl, ho'⟩ | ⟨hc', rfl⟩, hb3⟩
          · have hb23 : Below w2.heap.size w2 w3 := hbr.trans (hb3.mono hbr.size)
            have hck : code k ms = some c' := by rw [← codeI_nat]; exact hc'
            have hle := HB.out.2.2 k c' hck
            have hcv := conv_rd w3 (some ⟨g', 0, none⟩) cp' c'.length c' rfl (own_rd ho')
            have hcb := conv_rd w3 (some ⟨g, 0, none⟩) cp nb c0 hnb.out.symm (HO.out.below hb23)
            obtain ⟨n', hn'⟩ : ∃ x : Nat, Hid (x = c'.length) := ⟨_, rfl⟩
            obtain ⟨s', hs'⟩ : ∃ s, Hid (s = strOfNums c') := ⟨_, rfl⟩
            rw [← hn'.out] at hcv ⊢
            rw [← hs'.out] at hcv
            rw [← hs0.out] at hcb
            rw [← hn'.out, ← hnb.out] at hle
            have hle' : ¬ (n' : Int) < (nb : Int) := by omega
            have HK : Hid (code k ms = some c') := hck
            clear hle hck hc' ho' hb3
            cases sv with
            | true =>
              go_wp2_with fail
              go_roundw
              case rel => exact ⟨k + 1, true, by go_num, rfl, by omega, fun _ => rfl, hb23⟩
              case measure => simp [RowKit.intOf]; omega
            | false =>
              cases hE : (s'.toList == s0.toList)
              case true =>
                go_wp2_with fail
                go_roundw
                case rel => exact ⟨k + 1, true, by go_num, rfl, by omega, fun _ => rfl, hb23⟩
                case measure => simp [RowKit.intOf]; omega
              case false =>
                have hne : Hid (b < k + 1 → false = true) := fun hbk => by
                  rcases Nat.lt_or_ge b k with h | h
                  · exact hsv.out h
                  · have e : b = k := by omega
                    have hh := HK.out
                    rw [← e, HB.out.2.1] at hh
                    cases hh
                    rw [hs'.out, hs0.out] at hE
                    simp at hE
                go_wp2_with fail
                go_roundw
                case rel => exact ⟨k + 1, false, by go_num, rfl, by omega, hne, hb23⟩
                case measure => simp [RowKit.intOf]; omega
          · have hb23 : Below w2.heap.size w2 w3 := hbr.trans (hb3.mono hbr.size)
            have hne : Hid (b < k + 1 → sv = true) := fun hbk => by
              rcases Nat.lt_or_ge b k with h | h
              · exact hsv.out h
              · have e : b = k := by omega
                rw [← e, codeI_nat, HB.out.2.1] at hc'; cases hc'
            clear hc' hb3
            cases sv with
            | true =>
              go_wp2_with fail
              go_roundw
              case rel => exact ⟨k + 1, true, by go_num, rfl, by omega, fun _ => rfl, hb23⟩
              case measure => simp [RowKit.intOf]; omega
            | false =>
              go_wp2_with fail
              go_roundw
              case rel => exact ⟨k + 1, false, by go_num, rfl, by omega, hne, hb23⟩
              case measure => simp [RowKit.intOf]; omega
        · have hlt' : ¬ (k : Int) ≤ 3 := by omega
          have hsv' : sv = true := hsv.out (by omega)
          subst hsv'
          go_wp2_with fail
          refine (HA.out 4 wr hbw).mono ?_
          rintro e w4 ⟨⟨c', g', cp', hc', _, _⟩ | ⟨hc', rfl⟩, hb4⟩
          · have : codeI 4 ms = none := code_four (by decide) ms
            rw [this] at hc'; cases hc'
          · have hbw4 : Below w.heap.size w w4 := hbw.trans (hb4.mono hbw.size)
            go_wp2_with fail
            refine (HA.out (-1) w4 hbw4).mono ?_
            rintro e w5 ⟨⟨c', g', cp', hc', _, _⟩ | ⟨hc', rfl⟩, hb5⟩
            · have : codeI (-1) ms = none := rfl
              rw [this] at hc'; cases hc'
            · go_wp2_with fail
              go_ret
              exact ⟨rfl, hbw4.trans (hb5.mono hbw4.size)⟩
    · rw [HB.out.1, codeI_nat, HB.out.2.1] at hc; cases hc
  · have h' : (4096 : Int) < (len : Int) := by omega
    have hbl := best_long (l := ms) (by rw [HL.out]; exact hlen)
    go_wp2_with fail
    refine (HE.out w1 hb1).mono ?_
    rintro e w2 ⟨⟨c0, g, cp, hc, _, _⟩ | ⟨hc, rfl⟩, hb2⟩
    · rw [hbl.2] at hc; cases hc
    · go_wp2_with fail
      go_ret
      exact ⟨rfl, hb1.trans (hb2.mono hb1.size)⟩

set_option maxRecDepth 100000 in
theorem codecLeast_lifted (os : Os) (started : os.Started) (H : Type) (enc : TypeId × Value → H) :
    ReturnsInHanded {} Tryd.checked os 5 .any (fun w args => (Rows.codecLeastSpec.pre enc Tryd.prog Tryd.f5 [] false w args ∧ laidMetH Tryd.prog Rows.codecLeastRow.laid w) ∧ sizedMet enc Tryd.prog Tryd.f5 (OpenSpec.ofChange Rows.codecLeastSpec) false w args)
      (Rows.codecLeastSpec.post enc Tryd.prog Tryd.f5 false true false false) := by
  refine returns_and_shaped (C := Tryd.checked) (X := fun w _ => laidMetH Tryd.prog Rows.codecLeastRow.laid w) (fun _ _ _ hh h => h.of_heap hh) own started (by kernel_rfl) Tryd.func5
    (ChangeSpec.witness_shaped (enc := enc) (C := Tryd.checked) (os := os) (X := fun w _ => laidMetH Tryd.prog Rows.codecLeastRow.laid w) false (World.laidAll Tryd.prog os Rows.codecLeastRow.laid) #[.slice none 0 0] 8 (World.laidAll_os _ _ _)
      (World.shaped_of_ZipB (by kernel_rfl) (by kernel_rfl)) (by kernel_rfl) (by kernel_rfl) (by kernel_rfl)
      (by rw [MakeChecks.laidMetH_plain _ _ _ (by kernel_rfl)]; exact laidMet_laidAll _ (by kernel_rfl) (by kernel_rfl))) ?_
  intro W base args ds gs before hval0 hW hL hsh
  have hval : ∀ (j : Nat) t v, Tryd.f5.params[j]? = some t → args[j]? = some v → Value.okWide Tryd.prog W .any base t v := hval0
  have hW' := hW
  obtain ⟨p, q, hA0, hV, rfl, _, _⟩ := hW
  have hA : DataW.TrodAll enc Tryd.prog W 0 (fun _ => true) true Tryd.f5.params.toList args.toList ds p := hA0
  rw [Tryd.params5] at hA hval
  obtain ⟨v0, vs0, d0, ds0, p0, q0, hargs, rfl, rfl, h0, r0⟩ := trodAll_cons hA
  obtain ⟨rfl, rfl, rfl⟩ := trodAll_nil r0
  obtain rfl : args = #[v0] := by cases args; simp_all
  obtain ⟨rfl, rfl⟩ := trodVars_none hV
  obtain ⟨a0, len0, cap0, rfl⟩ := okWide_slice Tryd.underlying22 (hval 0 22 v0 rfl rfl)
  have k0 := h0
  have lt0 : ∀ x ∈ p0, x.block < W.heap.size := by obtain ⟨m, hm⟩ := k0; exact DataW.trod_lt m _ _ _ hm
  obtain ⟨vl0, w0, wf0⟩ : ∃ ms, IsI .i64 W a0 len0 cap0 ms ∧ ∀ n ∈ ms, (Lit.int .i64 n).wf = true := by obtain ⟨fuel, hf⟩ := h0; exact isI_22 hf
  clear hA0 hval0
  rw [MakeChecks.laidMetH_plain _ _ _ (by kernel_rfl)] at hL
  refine (codecLeast_walk (w := W) a0 len0 cap0 vl0 w0 wf0 (fw_of (laidMet.reads hL (by simp [Rows.codecLeastRow])))).mono fun e W' ⟨he, hb⟩ => ?_
  subst he
  exact ⟨_, rfl, _, _, _, [], _, [], hW', trodAll_mk1 (shut_bool Tryd.underlying4 _), (trodAll_cons_mk (Below.trod laidOut (by kernel_rfl) (of_decide_eq_true (by kernel_rfl)) k0 hb lt0) trodAll_mk0), rfl, hb.frame _, fun h => by cases h⟩

theorem codecLeast_row : Rows.CodecLeastSaid :=
  OpenClaim.holds_of_wide 5 Tryd.f5 rfl rfl rfl rfl rfl rfl rfl ⟨rfl, rfl, rfl, rfl, rfl⟩ rfl rfl rfl rfl rfl (by kernel_rfl) Tryd.func5 (by kernel_rfl)
    (of_decide_eq_true (by kernel_rfl)) (by unfold Func.isWrapper; first | (rw [if_pos (by decide +kernel)]; kernel_rfl) | (rw [if_neg (by decide +kernel)]; exact ⟨rfl, rfl⟩))
    (fun os started H enc _ => codecLeast_lifted os started H enc)

theorem codecLeast_holds : Rows.CodecLeastCardSaid :=
  Claim7.holds_tied_plain_at .later [] [.data] true (true, "268070590a5cdbedef29cc263c966a7d9eccac97f001ce0c2ffcf9837f493a1d") false codecLeast_row (fun _ h => by cases h) (by kernel_rfl) (fun _ h => by cases h) codecLeast_row_tie rfl ⟨rfl, rfl⟩ (by kernel_rfl) rfl
    (fun f fn hf hfn => by
      obtain rfl : f = 5 := Option.some.inj ((show Tryd.prog.funcNamed Rows.codecLeastRow.func = some 5 by kernel_rfl).symm.trans hf) |>.symm
      obtain rfl : fn = Tryd.f5 := (Option.some.inj (Tryd.func5.symm.trans hfn)).symm
      exact ⟨by kernel_rfl, fun j t ht => by
        rw [Tryd.params5] at ht
        have hm : t ∈ [22] := by simpa using Array.mem_of_getElem? ht
        have hall : ([22].all fun u => !Tryd.prog.wantsStandIn u) = true := by kernel_rfl
        exact (show Tryd.prog.wantsStandIn t = false by simpa using List.all_eq_true.1 hall t hm)⟩)
    (by kernel_rfl)
#print axioms codecLeast_holds
end Go.Proofs.YtbgipenonngccaaDoor
