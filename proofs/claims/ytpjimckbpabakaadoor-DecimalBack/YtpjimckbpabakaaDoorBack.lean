/- For every row of values what is packed is unpacked as it was: DecimalBack returns true, and its argument reads as before. Conditions: the listed package variable starts as the program's text lays it (the card ties it). -/
import Derived.Test.YtpjimckbpabakaaDoorRows
import Derived.Test.YtpjimckbpabakaaDoorCards
import Derived.Test.YtpjimckbpabakaaDoorTie
import Derived.Test.YtpjimckbpabakaaDoorJ
namespace Go.Proofs.YtpjimckbpabakaaDoor
open Go.ChangeShapes Go.WideShapes Go.ChangeAt Go.RowKit Go.Lib

set_option maxHeartbeats 1600000 in
theorem decimalBack_walk (a : Option Addr) (len cap : Nat) (vs : List Vl) {w0 : World} (hv : IsV w0 a len cap vs) (_ : WfV vs) (w : World) (hP : Pw w) (hw : w = w0) :
    Calls Tryd.prog 5 #[.slice a len cap] w fun r w' => r = .returned (.bool true) ∧ Below w.heap.size w w' := by
  subst hw
  have hm := hv.hm
  have hc := hv.hc
  unfold maxLen at hm
  by_cases hl : len ≤ 60
  · have HV : Hid (IsV w a len cap vs) := hv
    clear hv
    go_enter Tryd.func5, Tryd.ntmps5
    go_wp2_with fail
    refine (awake_any _ hP).mono ?_
    rintro r w1 ⟨rfl, b1⟩
    have hl' : ¬ (60 : Int) < (len : Int) := by omega
    go_wp2_with fail
    refine (pack_any _ len cap vs _ (HV.out.below b1) (by omega) (hP.below b1)).mono ?_
    rintro r w2 ⟨n, g, L, rfl, hg, row, b2⟩
    have B2 : Below w.heap.size w w2 := b1.trans (b2.mono b1.size)
    have hn : n ≤ len := by have := L.1; rw [HV.out.hl] at this; exact this
    have HL : Hid (Longest vs n) := L
    clear L
    obtain ⟨e, he⟩ : ∃ e, Hid (e = (st (vs.take n)).1) := ⟨_, rfl⟩
    rw [← he.out] at row ⊢
    have rd := rdI_of_row row (by rw [HV.out.hl]; exact hn)
    have h64 := mants_64 HL.out
    rw [← he.out] at h64
    have hlen := mants_len (e := e) (HL.out.1)
    have hul := unl_mants HL.out
    rw [← he.out] at hul
    clear row
    go_wp2_with fail
    refine (unpack_any _ n n (mants vs n e) e _ hlen (by omega) rd h64 (hP.below B2)).mono ?_
    rintro r w3 ⟨b3, h3⟩
    have B3 : Below w.heap.size w w3 := B2.trans (b3.mono B2.size)
    rcases h3 with ⟨us, a3, c3, hu, rfl, v3⟩ | ⟨hu, _⟩
    · obtain rfl : vs.take n = us := Option.some.inj (hul.symm.trans hu)
      have hln : (vs.take n).length = n := by simp; have := HL.out.1; omega
      rw [hln] at v3 ⊢
      have rv := (HV.out.rd.below B3).take n
      have n0 : (0 : Int) ≤ (n : Int) := by omega
      have n1 : (n : Int) ≤ (len : Int) := by omega
      have n2 : (n : Int) ≤ (cap : Int) := by omega
      clear hul hu rd h64 hlen
      go_wp2_with fail
      refine (sameV_any _ _ n c3 _ (vs.take n) _ hln (by omega) v3.rd rv).mono ?_
      rintro r w4 ⟨rfl, b4⟩
      go_wp2_with fail
      go_ret
      exact ⟨rfl, B3.trans (b4.mono B3.size)⟩
    · rw [hul] at hu; cases hu
  · have hl' : (60 : Int) < (len : Int) := by omega
    clear hv
    go_enter Tryd.func5, Tryd.ntmps5
    go_wp2_with fail
    refine (awake_any _ hP).mono ?_
    rintro r w1 ⟨rfl, b1⟩
    go_wp2_with fail
    go_ret
    exact ⟨rfl, b1⟩

set_option maxRecDepth 100000 in
theorem decimalBack_lifted (os : Os) (started : os.Started) (H : Type) (enc : TypeId × Value → H) :
    ReturnsInHanded {} Tryd.checked os 5 .any (fun w args => (Rows.decimalBackSpec.pre enc Tryd.prog Tryd.f5 [] false w args ∧ laidMetH Tryd.prog Rows.decimalBackRow.laid w) ∧ sizedMet enc Tryd.prog Tryd.f5 (OpenSpec.ofChange Rows.decimalBackSpec) false w args)
      (Rows.decimalBackSpec.post enc Tryd.prog Tryd.f5 false true false false) := by
  refine returns_and_shaped (C := Tryd.checked) (X := fun w _ => laidMetH Tryd.prog Rows.decimalBackRow.laid w) (fun _ _ _ hh h => h.of_heap hh) own started (by kernel_rfl) Tryd.func5
    (ChangeSpec.witness_shaped (enc := enc) (C := Tryd.checked) (os := os) (X := fun w _ => laidMetH Tryd.prog Rows.decimalBackRow.laid w) false (World.laidAll Tryd.prog os Rows.decimalBackRow.laid) #[.slice none 0 0] 8 (World.laidAll_os _ _ _)
      (World.shaped_of_ZipB (by kernel_rfl) (by kernel_rfl)) (by kernel_rfl) (by kernel_rfl) (by kernel_rfl)
      (by rw [MakeChecks.laidMetH_plain _ _ _ (by kernel_rfl)]; exact laidMet_laidAll _ (by kernel_rfl) (by kernel_rfl))) ?_
  intro W base args ds gs before hval0 hW hL hsh
  have hval : ∀ (j : Nat) t v, Tryd.f5.params[j]? = some t → args[j]? = some v → Value.okWide Tryd.prog W .any base t v := hval0
  have hW' := hW
  obtain ⟨p, q, hA0, hV, rfl, _, _⟩ := hW
  have hA : DataW.TrodAll enc Tryd.prog W 0 (fun _ => true) true Tryd.f5.params.toList args.toList ds p := hA0
  rw [Tryd.params5] at hA hval
  obtain ⟨v0, vs0, d0, ds0, p0, q0, hargs, rfl, rfl, h0, r0⟩ := trodAll_cons hA
  obtain ⟨rfl, rfl, rfl⟩ := trodAll_nil r0
  obtain rfl : args = #[v0] := by cases args; simp_all
  obtain ⟨rfl, rfl⟩ := trodVars_none hV
  obtain ⟨a0, len0, cap0, rfl⟩ := okWide_slice Tryd.underlying22 (hval 0 22 v0 rfl rfl)
  have k0 := h0
  have lt0 : ∀ x ∈ p0, x.block < W.heap.size := by obtain ⟨m, hm⟩ := k0; exact DataW.trod_lt m _ _ _ hm
  obtain ⟨vl0, w0, wf0⟩ : ∃ vs, IsV W a0 len0 cap0 vs ∧ WfV vs := by obtain ⟨fuel, hf⟩ := h0; exact isV_of hf
  clear hA0 hval0
  rw [MakeChecks.laidMetH_plain _ _ _ (by kernel_rfl)] at hL
  refine (decimalBack_walk a0 len0 cap0 vl0 w0 wf0 W (pw_of (laidMet.reads hL (by simp [Rows.decimalBackRow]))) rfl).mono fun e W' ⟨he, hb⟩ => ?_
  subst he
  exact ⟨_, rfl, _, _, _, [], _, [], hW', trodAll_mk1 (shut_bool Tryd.underlying4 _), (trodAll_cons_mk (Below.trod laidOut (by kernel_rfl) (of_decide_eq_true (by kernel_rfl)) k0 hb lt0) trodAll_mk0), rfl, hb.frame _, fun h => by cases h⟩

theorem decimalBack_row : Rows.DecimalBackSaid :=
  OpenClaim.holds_of_wide 5 Tryd.f5 rfl rfl rfl rfl rfl rfl rfl ⟨rfl, rfl, rfl, rfl, rfl⟩ rfl rfl rfl rfl rfl (by kernel_rfl) Tryd.func5 (by kernel_rfl)
    (of_decide_eq_true (by kernel_rfl)) (by unfold Func.isWrapper; first | (rw [if_pos (by decide +kernel)]; kernel_rfl) | (rw [if_neg (by decide +kernel)]; exact ⟨rfl, rfl⟩))
    (fun os started H enc _ => decimalBack_lifted os started H enc)

theorem decimalBack_holds : Rows.DecimalBackCardSaid :=
  Claim7.holds_tied_plain_at .later [] [.data] true (true, "fb586888b63048c59fe16ba3a6b41687cfa8807de2ef88983382edfacc4fb51c") false decimalBack_row (fun _ h => by cases h) (by kernel_rfl) (fun _ h => by cases h) decimalBack_row_tie rfl ⟨rfl, rfl⟩ (by kernel_rfl) rfl
    (fun f fn hf hfn => by
      obtain rfl : f = 5 := Option.some.inj ((show Tryd.prog.funcNamed Rows.decimalBackRow.func = some 5 by kernel_rfl).symm.trans hf) |>.symm
      obtain rfl : fn = Tryd.f5 := (Option.some.inj (Tryd.func5.symm.trans hfn)).symm
      exact ⟨by kernel_rfl, fun j t ht => by
        rw [Tryd.params5] at ht
        have hm : t ∈ [22] := by simpa using Array.mem_of_getElem? ht
        have hall : ([22].all fun u => !Tryd.prog.wantsStandIn u) = true := by kernel_rfl
        exact (show Tryd.prog.wantsStandIn t = false by simpa using List.all_eq_true.1 hall t hm)⟩)
    (by kernel_rfl)
#print axioms decimalBack_holds
end Go.Proofs.YtpjimckbpabakaaDoor

