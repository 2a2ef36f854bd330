/- For every row of mantissas and every exponent the values are the document's, or its error: DecimalUnpacks returns true, and its arguments read as before. Conditions: the listed package variable starts as the program's text lays it (the card ties it). -/
import Derived.Test.YtpjimckbpabakaaDoorRows
import Derived.Test.YtpjimckbpabakaaDoorCards
import Derived.Test.YtpjimckbpabakaaDoorTie
import Derived.Test.YtpjimckbpabakaaDoorP
namespace Go.Proofs.YtpjimckbpabakaaDoor
open Go.ChangeShapes Go.WideShapes Go.ChangeAt Go.RowKit Go.Lib

set_option maxHeartbeats 1600000 in
theorem decimalUnpacks_walk (a : Option Addr) (len cap : Nat) (ms : List Int) {w0 : World} (hv : IsI w0 a len cap ms) (h64 : All64 ms) (e : Int) (_ : -9223372036854775808 ≤ e ∧ e ≤ 9223372036854775807) (w : World) (hP : Pw w) (hw : w = w0) :
    Calls Tryd.prog 4 #[.slice a len cap, .int .i64 e] w fun r w' => r = .returned (.bool true) ∧ Below w.heap.size w w' := by
  subst hw
  have hm := hv.hm
  unfold maxLen at hm
  by_cases hl : len ≤ 60
  · have HV : Hid (IsI w a len cap ms ∧ All64 ms) := ⟨hv, h64⟩
    clear hv h64
    go_enter Tryd.func4, Tryd.ntmps4
    go_wp2_with fail
    refine (awake_any _ hP).mono ?_
    rintro r w1 ⟨rfl, b1⟩
    have hl' : ¬ (60 : Int) < (len : Int) := by omega
    go_wp2_with fail
    refine (unpack_any _ len cap ms e _ HV.out.1.hl (by omega) (HV.out.1.rd.below b1) HV.out.2 (hP.below b1)).mono ?_
    rintro r w2 ⟨b2, h2⟩
    have B2 : Below w.heap.size w w2 := b1.trans (b2.mono b1.size)
    have href : Hid _ := refunpack_any a len cap ms e w2 HV.out.1.hl (by omega) (HV.out.1.rd.below B2) HV.out.2
    rcases h2 with ⟨us, a2, c2, hu, rfl, v2⟩ | ⟨hu, rfl⟩
    · have hul : Hid (us.length = len) := by
        have h := hu
        unfold unl at h
        split at h
        · cases h
        · have := uns_len _ _ _ h
          show _ = _
          rw [this]; exact HV.out.1.hl
      have HU : Hid (unl ms e = some us) := hu
      clear hu
      go_wp2_with fail
      refine Calls.mono href.out ?_
      rintro r w3 ⟨b3, h3⟩
      have B3 : Below w.heap.size w w3 := B2.trans (b3.mono B2.size)
      rcases h3 with ⟨us', a3, c3, hu', rfl, v3⟩ | ⟨hu', rfl⟩
      · obtain rfl : us = us' := Option.some.inj (HU.out.symm.trans hu')
        have v2' := v2.below b3
        clear hu' href
        have hl60 : us.length ≤ 100 := by rw [hul.out]; omega
        go_wp2_with fail
        refine (sameV_any _ _ us.length c2 c3 us _ rfl hl60 v2'.rd v3.rd).mono ?_
        rintro r w4 ⟨rfl, b4⟩
        go_wp2_with fail
        go_ret
        exact ⟨rfl, B3.trans (b4.mono B3.size)⟩
      · rw [HU.out] at hu'; cases hu'
    · have HU : Hid (unl ms e = none) := hu
      clear hu
      go_wp2_with fail
      refine Calls.mono href.out ?_
      rintro r w3 ⟨b3, h3⟩
      have B3 : Below w.heap.size w w3 := B2.trans (b3.mono B2.size)
      rcases h3 with ⟨us', a3, c3, hu', rfl, v3⟩ | ⟨hu', rfl⟩
      · rw [HU.out] at hu'; cases hu'
      · clear hu' href
        go_wp2_with fail
        refine (sameV_any none none 0 0 0 [] _ rfl (by decide) (.inl rfl) (.inl rfl)).mono ?_
        rintro r w4 ⟨rfl, b4⟩
        go_wp2_with fail
        go_ret
        exact ⟨rfl, B3.trans (b4.mono B3.size)⟩
  · have hl' : (60 : Int) < (len : Int) := by omega
    clear hv h64
    go_enter Tryd.func4, Tryd.ntmps4
    go_wp2_with fail
    refine (awake_any _ hP).mono ?_
    rintro r w1 ⟨rfl, b1⟩
    go_wp2_with fail
    go_ret
    exact ⟨rfl, b1⟩

set_option maxRecDepth 100000 in
theorem decimalUnpacks_lifted (os : Os) (started : os.Started) (H : Type) (enc : TypeId × Value → H) :
    ReturnsInHanded {} Tryd.checked os 4 .any (fun w args => (Rows.decimalUnpacksSpec.pre enc Tryd.prog Tryd.f4 [] false w args ∧ laidMetH Tryd.prog Rows.decimalUnpacksRow.laid w) ∧ sizedMet enc Tryd.prog Tryd.f4 (OpenSpec.ofChange Rows.decimalUnpacksSpec) false w args)
      (Rows.decimalUnpacksSpec.post enc Tryd.prog Tryd.f4 false true false false) := by
  refine returns_and_shaped (C := Tryd.checked) (X := fun w _ => laidMetH Tryd.prog Rows.decimalUnpacksRow.laid w) (fun _ _ _ hh h => h.of_heap hh) own started (by kernel_rfl) Tryd.func4
    (ChangeSpec.witness_shaped (enc := enc) (C := Tryd.checked) (os := os) (X := fun w _ => laidMetH Tryd.prog Rows.decimalUnpacksRow.laid w) false (World.laidAll Tryd.prog os Rows.decimalUnpacksRow.laid) #[.slice none 0 0, .int .i64 0] 8 (World.laidAll_os _ _ _)
      (World.shaped_of_ZipB (by kernel_rfl) (by kernel_rfl)) (by kernel_rfl) (by kernel_rfl) (by kernel_rfl)
      (by rw [MakeChecks.laidMetH_plain _ _ _ (by kernel_rfl)]; exact laidMet_laidAll _ (by kernel_rfl) (by kernel_rfl))) ?_
  intro W base args ds gs before hval0 hW hL hsh
  have hval : ∀ (j : Nat) t v, Tryd.f4.params[j]? = some t → args[j]? = some v → Value.okWide Tryd.prog W .any base t v := hval0
  have hW' := hW
  obtain ⟨p, q, hA0, hV, rfl, _, _⟩ := hW
  have hA : DataW.TrodAll enc Tryd.prog W 0 (fun _ => true) true Tryd.f4.params.toList args.toList ds p := hA0
  rw [Tryd.params4] at hA hval
  obtain ⟨v0, vs0, d0, ds0, p0, q0, hargs, rfl, rfl, h0, r0⟩ := trodAll_cons hA
  obtain ⟨v1, vs1, d1, ds1, p1, q1, rfl, rfl, rfl, h1, r1⟩ := trodAll_cons r0
  obtain ⟨rfl, rfl, rfl⟩ := trodAll_nil r1
  obtain rfl : args = #[v0, v1] := by cases args; simp_all
  obtain ⟨rfl, rfl⟩ := trodVars_none hV
  obtain ⟨a0, len0, cap0, rfl⟩ := okWide_slice Tryd.underlying24 (hval 0 24 v0 rfl rfl)
  have k0 := h0
  have lt0 : ∀ x ∈ p0, x.block < W.heap.size := by obtain ⟨m, hm⟩ := k0; exact DataW.trod_lt m _ _ _ hm
  obtain ⟨vl0, w0, wf0⟩ : ∃ ms, IsI W a0 len0 cap0 ms ∧ All64 ms := by obtain ⟨fuel, hf⟩ := h0; exact isI_of hf
  obtain ⟨a1, rfl, rfl, rfl, w1⟩ := open_int Tryd.underlying3 (hval 1 3 v1 rfl rfl) h1
  have hx1 : -9223372036854775808 ≤ a1 ∧ a1 ≤ 9223372036854775807 := by simpa [Lit.wf, IntKind.min, IntKind.max, IntKind.signed, IntKind.bits] using w1
  clear hA0 hval0
  rw [MakeChecks.laidMetH_plain _ _ _ (by kernel_rfl)] at hL
  refine (decimalUnpacks_walk a0 len0 cap0 vl0 w0 wf0 a1 hx1 W (pw_of (laidMet.reads hL (by simp [Rows.decimalUnpacksRow]))) rfl).mono fun e W' ⟨he, hb⟩ => ?_
  subst he
  exact ⟨_, rfl, _, _, _, [], _, [], hW', trodAll_mk1 (shut_bool Tryd.underlying4 _), (trodAll_cons_mk (Below.trod laidOut (by kernel_rfl) (of_decide_eq_true (by kernel_rfl)) k0 hb lt0) (trodAll_cons_mk (shut_int Tryd.underlying3 w1) trodAll_mk0)), rfl, hb.frame _, fun h => by cases h⟩

theorem decimalUnpacks_row : Rows.DecimalUnpacksSaid :=
  OpenClaim.holds_of_wide 4 Tryd.f4 rfl rfl rfl rfl rfl rfl rfl ⟨rfl, rfl, rfl, rfl, rfl⟩ rfl rfl rfl rfl rfl (by kernel_rfl) Tryd.func4 (by kernel_rfl)
    (of_decide_eq_true (by kernel_rfl)) (by unfold Func.isWrapper; first | (rw [if_pos (by decide +kernel)]; kernel_rfl) | (rw [if_neg (by decide +kernel)]; exact ⟨rfl, rfl⟩))
    (fun os started H enc _ => decimalUnpacks_lifted os started H enc)

theorem decimalUnpacks_holds : Rows.DecimalUnpacksCardSaid :=
  Claim7.holds_tied_plain_at .later [] [.data] true (true, "fb586888b63048c59fe16ba3a6b41687cfa8807de2ef88983382edfacc4fb51c") false decimalUnpacks_row (fun _ h => by cases h) (by kernel_rfl) (fun _ h => by cases h) decimalUnpacks_row_tie rfl ⟨rfl, rfl⟩ (by kernel_rfl) rfl
    (fun f fn hf hfn => by
      obtain rfl : f = 4 := Option.some.inj ((show Tryd.prog.funcNamed Rows.decimalUnpacksRow.func = some 4 by kernel_rfl).symm.trans hf) |>.symm
      obtain rfl : fn = Tryd.f4 := (Option.some.inj (Tryd.func4.symm.trans hfn)).symm
      exact ⟨by kernel_rfl, fun j t ht => by
        rw [Tryd.params4] at ht
        have hm : t ∈ [24, 3] := by simpa using Array.mem_of_getElem? ht
        have hall : ([24, 3].all fun u => !Tryd.prog.wantsStandIn u) = true := by kernel_rfl
        exact (show Tryd.prog.wantsStandIn t = false by simpa using List.all_eq_true.1 hall t hm)⟩)
    (by kernel_rfl)
#print axioms decimalUnpacks_holds
end Go.Proofs.YtpjimckbpabakaaDoor

