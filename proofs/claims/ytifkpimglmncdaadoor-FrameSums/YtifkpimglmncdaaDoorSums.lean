/- FrameSums: the sum of any bytes, and their frame, are the document's: true for every input. Conditions: the table of half bytes holds what the program's text lays. -/
import Derived.Test.YtifkpimglmncdaaDoorFr
namespace Go.Proofs.YtifkpimglmncdaaDoor
open Go.ChangeShapes Go.WideShapes Go.ChangeAt Go.RowKit Go.Lib

theorem refmake_eq {k : Int} (kind : Nat) (e : k = (kind : Int)) (hk : kind ≤ 255) (a : Option Addr) (len cap : Nat) (zs : List Int) (w : World) (hI : IsI .u8 w a len cap zs) (hby : Bytes zs) (hlen : len ≤ 65535) :
    Calls Tryd.prog 10 #[.int .i64 k, .slice a len cap] w fun e w' => ∃ a' n' c', e = .returned (.tuple #[.slice a' n' c', .int .i64 0]) ∧ IsI .u8 w' a' n' c' (frm kind zs) ∧ Below w.heap.size w w' := by
  subst e
  refine (refmake_any kind hk a len cap zs w hI hby hlen).mono ?_
  rintro e w' ⟨v', rfl, ho, hb⟩
  obtain ⟨a', c', rfl, hI'⟩ := own_isI ho
  exact ⟨a', _, c', rfl, hI', hb⟩

/-- What both Makes tell: the same. -/
theorem both (k : Int) (hk : -9223372036854775808 ≤ k ∧ k ≤ 9223372036854775807) (a : Option Addr) (len cap : Nat) (zs : List Int) (hby : Bytes zs) : ∃ (x : Int) (l : List Int),
    (∀ w, IsI .u8 w a len cap zs → Ha w → Calls Tryd.prog 9 #[.int .i64 k, .slice a len cap] w fun e w' => ∃ a' n' c', e = .returned (.tuple #[.slice a' n' c', .int .i64 x]) ∧ IsI .u8 w' a' n' c' l ∧ Below w.heap.size w w') ∧
    (∀ w, IsI .u8 w a len cap zs → Calls Tryd.prog 10 #[.int .i64 k, .slice a len cap] w fun e w' => ∃ a' n' c', e = .returned (.tuple #[.slice a' n' c', .int .i64 x]) ∧ IsI .u8 w' a' n' c' l ∧ Below w.heap.size w w') := by
  by_cases h : k < 0 ∨ 255 < k
  · refine ⟨1, [], fun w _ _ => (make_arg k h a len cap w).mono ?_, fun w _ => (refmake_arg k h a len cap w).mono ?_⟩
    · rintro e w' ⟨rfl, rfl⟩; exact ⟨none, 0, 0, rfl, isI_nil _, Below.refl _ _⟩
    · rintro e w' ⟨rfl, rfl⟩; exact ⟨none, 0, 0, rfl, isI_nil _, Below.refl _ _⟩
  · by_cases hl : 65535 < len
    · refine ⟨2, [], fun w _ _ => (make_limit k (by omega) (by omega) a len cap hl w).mono ?_, fun w _ => (refmake_limit k (by omega) (by omega) a len cap hl w).mono ?_⟩
      · rintro e w' ⟨rfl, rfl⟩; exact ⟨none, 0, 0, rfl, isI_nil _, Below.refl _ _⟩
      · rintro e w' ⟨rfl, rfl⟩; exact ⟨none, 0, 0, rfl, isI_nil _, Below.refl _ _⟩
    · refine ⟨0, frm k.toNat zs, fun w hI hH => (make_eq k.toNat (by omega) (by omega) a len cap zs w hI hby (by omega) hH).mono ?_, fun w hI => (refmake_eq k.toNat (by omega) (by omega) a len cap zs w hI hby (by omega)).mono ?_⟩
      · rintro e w' ⟨a', n', c', rfl, _, _, h1, h2⟩; exact ⟨a', n', c', rfl, h1, h2⟩
      · rintro e w' ⟨a', n', c', rfl, h1, h2⟩; exact ⟨a', n', c', rfl, h1, h2⟩

set_option maxHeartbeats 4000000 in
theorem frameSums_walk {w : World} (k : Int) (hk : -9223372036854775808 ≤ k ∧ k ≤ 9223372036854775807) (a : Option Addr) (len cap : Nat) (zs : List Int) (hI : IsI .u8 w a len cap zs) (hby : Bytes zs) (hH : Ha w) :
    Calls Tryd.prog 3 #[.int .i64 k, .slice a len cap] w fun e w' => e = .returned (.bool true) ∧ Below w.heap.size w w' := by
  have HI : Hid (IsI .u8 w a len cap zs ∧ Bytes zs ∧ Ha w) := ⟨hI, hby, hH⟩
  obtain ⟨x, l, hm1, hm2⟩ := both k hk a len cap zs hby
  have HM : Hid ((∀ w, IsI .u8 w a len cap zs → Ha w → Calls Tryd.prog 9 #[.int .i64 k, .slice a len cap] w fun e w' => ∃ a' n' c', e = .returned (.tuple #[.slice a' n' c', .int .i64 x]) ∧ IsI .u8 w' a' n' c' l ∧ Below w.heap.size w w') ∧
    (∀ w, IsI .u8 w a len cap zs → Calls Tryd.prog 10 #[.int .i64 k, .slice a len cap] w fun e w' => ∃ a' n' c', e = .returned (.tuple #[.slice a' n' c', .int .i64 x]) ∧ IsI .u8 w' a' n' c' l ∧ Below w.heap.size w w')) := ⟨hm1, hm2⟩
  clear hm1 hm2 hI hby hH
  by_cases hl : len ≤ 70000
  · have hl' : ¬ (70000 : Int) < (len : Int) := by omega
    obtain ⟨cs, hcs⟩ : ∃ cs, cs = crc zs := ⟨_, rfl⟩
    go_enter Tryd.func3, Tryd.ntmps3
    go_wp2_with (first
      | (go_at_call 8; refine (awake_any w HI.out.2.2).mono ?_; rintro e w1 ⟨rfl, hb1⟩; have HB1 : Hid (Below w.heap.size w w1) := hb1; clear hb1)
      | (go_at_call 9; refine (HM.out.1 w1 (HI.out.1.below HB1.out) (HI.out.2.2.below HB1.out)).mono ?_; rintro e w2 ⟨a2, n2, c2, rfl, hI2, hb2⟩
         have HB2 : Hid (Below w.heap.size w w2 ∧ IsI .u8 w2 a2 n2 c2 l) := ⟨HB1.out.trans (hb2.mono HB1.out.size), hI2⟩
         clear hI2 hb2)
      | (go_at_call 10; refine (HM.out.2 w2 (HI.out.1.below HB2.out.1)).mono ?_; rintro e w3 ⟨a3, n3, c3, rfl, hI3, hb3⟩
         have hcv2 := conv_rd w3 a2 c2 n2 l HB2.out.2.hl (HB2.out.2.below hb3).rd
         have hcv3 := conv_rd w3 a3 c3 n3 l hI3.hl hI3.rd
         have HB3 : Hid (Below w.heap.size w w3) := HB2.out.1.trans (hb3.mono HB2.out.1.size)
         clear hI3 hb3)
      | (go_at_call 11; refine (sum_any a len cap zs _ HI.out.1.hl (by omega) (HI.out.1.below HB3.out).rd HI.out.2.1 (HI.out.2.2.below HB3.out)).mono ?_; rw [← hcs]; rintro e w4 ⟨rfl, rfl⟩)
      | (go_at_call 12; refine (refsum_any a len cap zs _ HI.out.1.hl (by omega) (HI.out.1.below HB3.out).rd HI.out.2.1).mono ?_; rw [← hcs]; rintro e w5 ⟨rfl, rfl⟩))
    go_ret
    exact ⟨rfl, HB3.out⟩
  · have hl' : (70000 : Int) < (len : Int) := by omega
    go_enter Tryd.func3, Tryd.ntmps3
    go_wp2_with (go_at_call 8; refine (awake_any w HI.out.2.2).mono ?_; rintro e w1 ⟨rfl, hb1⟩)
    go_ret
    exact ⟨rfl, hb1⟩

set_option maxRecDepth 100000 in
theorem frameSums_lifted (os : Os) (started : os.Started) (H : Type) (enc : TypeId × Value → H) :
    ReturnsInHanded {} Tryd.checked os 3 .any (fun w args => (Rows.frameSumsSpec.pre enc Tryd.prog Tryd.f3 [] false w args ∧ laidMetH Tryd.prog Rows.frameSumsRow.laid w) ∧ sizedMet enc Tryd.prog Tryd.f3 (OpenSpec.ofChange Rows.frameSumsSpec) false w args)
      (Rows.frameSumsSpec.post enc Tryd.prog Tryd.f3 false true false false) := by
  refine returns_and_shaped (C := Tryd.checked) (X := fun w _ => laidMetH Tryd.prog Rows.frameSumsRow.laid w) (fun _ _ _ hh h => h.of_heap hh) own started (by kernel_rfl) Tryd.func3
    (ChangeSpec.witness_shaped (enc := enc) (C := Tryd.checked) (os := os) (X := fun w _ => laidMetH Tryd.prog Rows.frameSumsRow.laid w) false (World.laidAll Tryd.prog os Rows.frameSumsRow.laid) #[.int .i64 0, .slice none 0 0] 8 (World.laidAll_os _ _ _)
      (World.shaped_of_ZipB (by kernel_rfl) (by kernel_rfl)) (by kernel_rfl) (by kernel_rfl) (by kernel_rfl)
      (by rw [MakeChecks.laidMetH_plain _ _ _ (by kernel_rfl)]; exact laidMet_laidAll _ (by kernel_rfl) (by kernel_rfl))) ?_
  intro W base args ds gs before hval0 hW hL hsh
  have hval : ∀ (j : Nat) t v, Tryd.f3.params[j]? = some t → args[j]? = some v → Value.okWide Tryd.prog W .any base t v := hval0
  have hW' := hW
  obtain ⟨p, q, hA0, hV, rfl, _, _⟩ := hW
  have hA : DataW.TrodAll enc Tryd.prog W 0 (fun _ => true) true Tryd.f3.params.toList args.toList ds p := hA0
  rw [Tryd.params3] at hA hval
  obtain ⟨v0, vs0, d0, ds0, p0, q0, hargs, rfl, rfl, h0, r0⟩ := trodAll_cons hA
  obtain ⟨v1, vs1, d1, ds1, p1, q1, rfl, rfl, rfl, h1, r1⟩ := trodAll_cons r0
  obtain ⟨rfl, rfl, rfl⟩ := trodAll_nil r1
  obtain rfl : args = #[v0, v1] := by cases args; simp_all
  obtain ⟨rfl, rfl⟩ := trodVars_none hV
  obtain ⟨a0, rfl, rfl, rfl, w0⟩ := open_int Tryd.underlying3 (hval 0 3 v0 rfl rfl) h0
  have hx0 : -9223372036854775808 ≤ a0 ∧ a0 ≤ 9223372036854775807 := by simpa [Lit.wf, IntKind.min, IntKind.max, IntKind.signed, IntKind.bits] using w0
  obtain ⟨a1, len1, cap1, rfl⟩ := okWide_slice Tryd.underlying22 (hval 1 22 v1 rfl rfl)
  have k1 := h1
  have lt1 : ∀ x ∈ p1, x.block < W.heap.size := by obtain ⟨m, hm⟩ := k1; exact DataW.trod_lt m _ _ _ hm
  obtain ⟨vl1, w1, wf1⟩ : ∃ ms, IsI .u8 W a1 len1 cap1 ms ∧ ∀ n ∈ ms, (Lit.int .u8 n).wf = true := by obtain ⟨fuel, hf⟩ := h1; exact isI_22 hf
  clear hA0 hval0
  rw [MakeChecks.laidMetH_plain _ _ _ (by kernel_rfl)] at hL
  refine (frameSums_walk (w := W) a0 hx0 a1 len1 cap1 vl1 w1 (bytes_wf wf1) (ha_of (laidMet.reads hL (by simp [Rows.frameSumsRow])))).mono fun e W' ⟨he, hb⟩ => ?_
  subst he
  exact ⟨_, rfl, _, _, _, [], _, [], hW', trodAll_mk1 (shut_bool Tryd.underlying4 _), (trodAll_cons_mk (shut_int Tryd.underlying3 w0) (trodAll_cons_mk (Below.trod laidOut (by kernel_rfl) (of_decide_eq_true (by kernel_rfl)) k1 hb lt1) trodAll_mk0)), rfl, hb.frame _, fun h => by cases h⟩

theorem frameSums_row : Rows.FrameSumsSaid :=
  OpenClaim.holds_of_wide 3 Tryd.f3 rfl rfl rfl rfl rfl rfl rfl ⟨rfl, rfl, rfl, rfl, rfl⟩ rfl rfl rfl rfl rfl (by kernel_rfl) Tryd.func3 (by kernel_rfl)
    (of_decide_eq_true (by kernel_rfl)) (by unfold Func.isWrapper; first | (rw [if_pos (by decide +kernel)]; kernel_rfl) | (rw [if_neg (by decide +kernel)]; exact ⟨rfl, rfl⟩))
    (fun os started H enc _ => frameSums_lifted os started H enc)

theorem frameSums_holds : Rows.FrameSumsCardSaid :=
  Claim7.holds_tied_plain_at .later [] [.data] true (true, "1e33bb0a793bb80f35d1427b56526076d247bc62253042da2be5e62c13294839") false frameSums_row (fun _ h => by cases h) (by kernel_rfl) (fun _ h => by cases h) frameSums_row_tie rfl ⟨rfl, rfl⟩ (by kernel_rfl) rfl
    (fun f fn hf hfn => by
      obtain rfl : f = 3 := Option.some.inj ((show Tryd.prog.funcNamed Rows.frameSumsRow.func = some 3 by kernel_rfl).symm.trans hf) |>.symm
      obtain rfl : fn = Tryd.f3 := (Option.some.inj (Tryd.func3.symm.trans hfn)).symm
      exact ⟨by kernel_rfl, fun j t ht => by
        rw [Tryd.params3] at ht
        have hm : t ∈ [3, 22] := by simpa using Array.mem_of_getElem? ht
        have hall : ([3, 22].all fun u => !Tryd.prog.wantsStandIn u) = true := by kernel_rfl
        exact (show Tryd.prog.wantsStandIn t = false by simpa using List.all_eq_true.1 hall t hm)⟩)
    (by kernel_rfl)
#print axioms frameSums_holds
end Go.Proofs.YtifkpimglmncdaaDoor
