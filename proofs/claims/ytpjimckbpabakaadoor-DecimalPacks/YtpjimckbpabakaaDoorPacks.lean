/- For every row of values the mantissas, their exponent, and how many they are, are the document's: DecimalPacks returns true, and its argument reads as before. Conditions: the listed package variable starts as the program's text lays it (the card ties it). -/
import Derived.Test.YtpjimckbpabakaaDoorRows
import Derived.Test.YtpjimckbpabakaaDoorCards
import Derived.Test.YtpjimckbpabakaaDoorTie
import Derived.Test.YtpjimckbpabakaaDoorO
namespace Go.Proofs.YtpjimckbpabakaaDoor
open Go.ChangeShapes Go.WideShapes Go.ChangeAt Go.RowKit Go.Lib

set_option maxHeartbeats 1600000 in
theorem decimalPacks_walk (a : Option Addr) (len cap : Nat) (vs : List Vl) {w0 : World} (hv : IsV w0 a len cap vs) (hwf : WfV vs) (w : World) (hP : Pw w) (hw : w = w0) :
    Calls Tryd.prog 3 #[.slice a len cap] w fun r w' => r = .returned (.bool true) ∧ Below w.heap.size w w' := by
  subst hw
  have hm := hv.hm
  have hc := hv.hc
  unfold maxLen at hm
  by_cases hl : len ≤ 60
  · have HV : Hid (IsV w a len cap vs ∧ WfV vs) := ⟨hv, hwf⟩
    clear hv hwf
    go_enter Tryd.func3, Tryd.ntmps3
    go_wp2_with fail
    refine (awake_any _ hP).mono ?_
    rintro r w1 ⟨rfl, b1⟩
    have hl' : ¬ (60 : Int) < (len : Int) := by omega
    go_wp2_with fail
    refine (pack_any _ len cap vs _ (HV.out.1.below b1) (by omega) (hP.below b1)).mono ?_
    rintro r w2 ⟨n, g, L, rfl, hg, row, b2⟩
    have B2 : Below w.heap.size w w2 := b1.trans (b2.mono b1.size)
    have HL : Hid (Longest vs n) := L
    clear L
    have rd := rdI_of_row row HL.out.1
    clear row
    have hn : n ≤ len := by have := HL.out.1; rw [HV.out.1.hl] at this; exact this
    go_wp2_with fail
    refine (refpack_any _ len cap vs _ (HV.out.1.below B2) (by omega) HV.out.2).mono ?_
    rintro r w3 ⟨n', a3, c3, L', rfl, rd3, b3⟩
    obtain rfl := L'.uniq HL.out
    have B3 : Below w.heap.size w w3 := B2.trans (b3.mono B2.size)
    have rd2 := rd.below b3
    have hlen := mants_len (e := (st (vs.take n')).1) HL.out.1
    obtain ⟨e, he⟩ : ∃ e, Hid (e = (st (vs.take n')).1) := ⟨_, rfl⟩
    rw [← he.out] at rd2 rd3 hlen ⊢
    clear rd L'
    go_wp2_with fail
    refine (sameI_any _ _ n' n' c3 (mants vs n' e) _ hlen (by omega) rd2 rd3).mono ?_
    rintro r w4 ⟨rfl, b4⟩
    go_wp2_with fail
    go_ret
    exact ⟨rfl, B3.trans (b4.mono B3.size)⟩
  · have hl' : (60 : Int) < (len : Int) := by omega
    clear hv hwf
    go_enter Tryd.func3, Tryd.ntmps3
    go_wp2_with fail
    refine (awake_any _ hP).mono ?_
    rintro r w1 ⟨rfl, b1⟩
    go_wp2_with fail
    go_ret
    exact ⟨rfl, b1⟩

set_option maxRecDepth 100000 in
theorem decimalPacks_lifted (os : Os) (started : os.Started) (H : Type) (enc : TypeId × Value → H) :
    ReturnsInHanded {} Tryd.checked os 3 .any (fun w args => (Rows.decimalPacksSpec.pre enc Tryd.prog Tryd.f3 [] false w args ∧ laidMetH Tryd.prog Rows.decimalPacksRow.laid w) ∧ sizedMet enc Tryd.prog Tryd.f3 (OpenSpec.ofChange Rows.decimalPacksSpec) false w args)
      (Rows.decimalPacksSpec.post enc Tryd.prog Tryd.f3 false true false false) := by
  refine returns_and_shaped (C := Tryd.checked) (X := fun w _ => laidMetH Tryd.prog Rows.decimalPacksRow.laid w) (fun _ _ _ hh h => h.of_heap hh) own started (by kernel_rfl) Tryd.func3
    (ChangeSpec.witness_shaped (enc := enc) (C := Tryd.checked) (os := os) (X := fun w _ => laidMetH Tryd.prog Rows.decimalPacksRow.laid w) false (World.laidAll Tryd.prog os Rows.decimalPacksRow.laid) #[.slice none 0 0] 8 (World.laidAll_os _ _ _)
      (World.shaped_of_ZipB (by kernel_rfl) (by kernel_rfl)) (by kernel_rfl) (by kernel_rfl) (by kernel_rfl)
      (by rw [MakeChecks.laidMetH_plain _ _ _ (by kernel_rfl)]; exact laidMet_laidAll _ (by kernel_rfl) (by kernel_rfl))) ?_
  intro W base args ds gs before hval0 hW hL hsh
  have hval : ∀ (j : Nat) t v, Tryd.f3.params[j]? = some t → args[j]? = some v → Value.okWide Tryd.prog W .any base t v := hval0
  have hW' := hW
  obtain ⟨p, q, hA0, hV, rfl, _, _⟩ := hW
  have hA : DataW.TrodAll enc Tryd.prog W 0 (fun _ => true) true Tryd.f3.params.toList args.toList ds p := hA0
  rw [Tryd.params3] at hA hval
  obtain ⟨v0, vs0, d0, ds0, p0, q0, hargs, rfl, rfl, h0, r0⟩ := trodAll_cons hA
  obtain ⟨rfl, rfl, rfl⟩ := trodAll_nil r0
  obtain rfl : args = #[v0] := by cases args; simp_all
  obtain ⟨rfl, rfl⟩ := trodVars_none hV
  obtain ⟨a0, len0, cap0, rfl⟩ := okWide_slice Tryd.underlying22 (hval 0 22 v0 rfl rfl)
  have k0 := h0
  have lt0 : ∀ x ∈ p0, x.block < W.heap.size := by obtain ⟨m, hm⟩ := k0; exact DataW.trod_lt m _ _ _ hm
  obtain ⟨vl0, w0, wf0⟩ : ∃ vs, IsV W a0 len0 cap0 vs ∧ WfV vs := by obtain ⟨fuel, hf⟩ := h0; exact isV_of hf
  clear hA0 hval0
  rw [MakeChecks.laidMetH_plain _ _ _ (by kernel_rfl)] at hL
  refine (decimalPacks_walk a0 len0 cap0 vl0 w0 wf0 W (pw_of (laidMet.reads hL (by simp [Rows.decimalPacksRow]))) rfl).mono fun e W' ⟨he, hb⟩ => ?_
  subst he
  exact ⟨_, rfl, _, _, _, [], _, [], hW', trodAll_mk1 (shut_bool Tryd.underlying4 _), (trodAll_cons_mk (Below.trod laidOut (by kernel_rfl) (of_decide_eq_true (by kernel_rfl)) k0 hb lt0) trodAll_mk0), rfl, hb.frame _, fun h => by cases h⟩

theorem decimalPacks_row : Rows.DecimalPacksSaid :=
  OpenClaim.holds_of_wide 3 Tryd.f3 rfl rfl rfl rfl rfl rfl rfl ⟨rfl, rfl, rfl, rfl, rfl⟩ rfl rfl rfl rfl rfl (by kernel_rfl) Tryd.func3 (by kernel_rfl)
    (of_decide_eq_true (by kernel_rfl)) (by unfold Func.isWrapper; first | (rw [if_pos (by decide +kernel)]; kernel_rfl) | (rw [if_neg (by decide +kernel)]; exact ⟨rfl, rfl⟩))
    (fun os started H enc _ => decimalPacks_lifted os started H enc)

theorem decimalPacks_holds : Rows.DecimalPacksCardSaid :=
  Claim7.holds_tied_plain_at .later [] [.data] true (true, "fb586888b63048c59fe16ba3a6b41687cfa8807de2ef88983382edfacc4fb51c") false decimalPacks_row (fun _ h => by cases h) (by kernel_rfl) (fun _ h => by cases h) decimalPacks_row_tie rfl ⟨rfl, rfl⟩ (by kernel_rfl) rfl
    (fun f fn hf hfn => by
      obtain rfl : f = 3 := Option.some.inj ((show Tryd.prog.funcNamed Rows.decimalPacksRow.func = some 3 by kernel_rfl).symm.trans hf) |>.symm
      obtain rfl : fn = Tryd.f3 := (Option.some.inj (Tryd.func3.symm.trans hfn)).symm
      exact ⟨by kernel_rfl, fun j t ht => by
        rw [Tryd.params3] at ht
        have hm : t ∈ [22] := by simpa using Array.mem_of_getElem? ht
        have hall : ([22].all fun u => !Tryd.prog.wantsStandIn u) = true := by kernel_rfl
        exact (show Tryd.prog.wantsStandIn t = false by simpa using List.all_eq_true.1 hall t hm)⟩)
    (by kernel_rfl)
#print axioms decimalPacks_holds
end Go.Proofs.YtpjimckbpabakaaDoor

