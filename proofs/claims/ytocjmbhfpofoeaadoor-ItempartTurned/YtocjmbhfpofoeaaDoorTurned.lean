/- ItempartTurned: a file with a bit turned anywhere isn't what was built: true for every input. Conditions: the table of half bytes holds what the program's text lays. -/
import Derived.Test.YtocjmbhfpofoeaaDoorTp
namespace Go.Proofs.YtocjmbhfpofoeaaDoor
open Go.ChangeShapes Go.WideShapes Go.ChangeAt Go.RowKit Go.Lib

set_option maxRecDepth 100000 in
set_option maxHeartbeats 8000000 in
theorem itempartTurned_walk {w : World} (a : Option Addr) (len cap : Nat) (ls : List (List Int)) (hR : IsR w a len cap ls) (hwf : WfR ls) (at_ : Int) (_hat : -9223372036854775808 ≤ at_ ∧ at_ ≤ 9223372036854775807) (bit : Int) (hbit : 0 ≤ bit ∧ bit ≤ 255) (hH : Ha w) :
    Calls Tryd.prog 6 #[.slice a len cap, .int .i64 at_, .int .u8 bit] w fun e w' => e = .returned (.bool true) ∧ Below w.heap.size w w' := by
  have HI : Hid (IsR w a len cap ls ∧ WfR ls ∧ Ha w) := ⟨hR, hwf, hH⟩
  clear hR hwf hH
  obtain ⟨m, hm, hm1⟩ : ∃ m : Nat, bits .and .i64 at_ 65535 = (m : Int) ∧ m ≤ 65535 := ⟨(at_ % 65536).toNat, by rw [i64_and65535]; omega, by omega⟩
  obtain ⟨p, hp, hp0, hp1⟩ := two_pow8 bit
  go_enter Tryd.func6, Tryd.ntmps6
  go_wp2_with fail
  refine (awake_any w HI.out.2.2).mono ?_
  rintro e w1 ⟨rfl, hb1⟩
  have HB1 : Hid (Below w.heap.size w w1) := hb1
  clear hb1
  have HFw : Hid _ := few_any a len cap ls w1 (HI.out.1.below HB1.out)
  obtain ⟨fw, hfw⟩ : ∃ b, Hid (b = fewb ls) := ⟨_, rfl⟩
  rw [← hfw.out] at HFw
  go_wp2_with fail
  refine Calls.mono HFw.out ?_
  rintro e w2 ⟨rfl, hb2⟩
  have HB2 : Hid (Below w.heap.size w w2) := HB1.out.trans (hb2.mono HB1.out.size)
  clear hb2 HFw
  cases fw with
  | false =>
    go_wp2_with fail
    go_ret
    exact ⟨rfl, HB2.out⟩
  | true =>
    have hlen : len ≤ 1000000 := by
      have := (fewb_iff.1 hfw.out.symm).1
      have := HI.out.1.hl
      omega
    have HBu : Hid _ := build_any a len cap ls w2 (HI.out.1.below HB2.out) HI.out.2.1 (HI.out.2.2.below HB2.out) hlen
    go_wp2_with fail
    refine Calls.mono HBu.out ?_
    rintro e w3 ⟨hb3, v, rfl, ho⟩
    have HB3 : Hid (Below w.heap.size w w3) := HB2.out.trans (hb3.mono HB2.out.size)
    clear hb3 HBu
    by_cases hz : (bt ls).1 = 0
    · obtain ⟨hc0, _, hbt⟩ := bt_zero hz
      have hfl := fil_le hbt
      rw [hbt] at ho ⊢
      dsimp only at ho ⊢
      obtain ⟨z, hzz⟩ : ∃ z, z = fil ls := ⟨_, rfl⟩
      rw [← hzz] at ho hfl hbt
      have HZ : Hid (bt ls = (0, z) ∧ Bytes z) := ⟨hbt, by rw [hzz]; exact fil_bytes hc0 HI.out.2.1⟩
      obtain ⟨n, hn⟩ : ∃ n, n = z.length := ⟨_, rfl⟩
      rw [← hn] at ho hfl
      obtain ⟨g, c, rfl, hg, hgs, hnc, hcm⟩ := own_some ho (by omega)
      unfold maxLen at hcm
      have HO : Hid (w3.ownsRow w2.heap.size 5 1 (.slice (some ⟨g, 0, none⟩) n c) n (z.map (Value.int .u8)) ∧ n = z.length ∧ w2.heap.size ≤ g ∧ g < w3.heap.size) := ⟨ho, hn, hg, hgs⟩
      obtain ⟨kk, hkk⟩ : ∃ kk : Nat, kk = m % n := ⟨_, rfl⟩
      have hkn : kk < n := by rw [hkk]; exact Nat.mod_lt _ (by omega)
      have htm : (m : Int).tmod (n : Int) = (kk : Int) := by rw [hkk]; rfl
      have hn0 : ((n : Int) == 0) = false := by simp; omega
      have hn0' : ¬ n = 0 := by omega
      have hk0 : (0 : Int) ≤ (kk : Int) := Int.natCast_nonneg _
      have hk1 : (kk : Int) < (n : Int) := by omega
      obtain ⟨x, hx⟩ : ∃ x, x = z.getD kk 0 := ⟨_, rfl⟩
      have hxb : 0 ≤ x ∧ x ≤ 255 := by rw [hx]; exact bytes_getD HZ.out.2 (by omega)
      have hcell : w3.cell? ⟨g, kk, none⟩ = some (.int .u8 x) := by
        rw [ho.cellAt kk (by omega), List.getElem?_map, hx]
        have : kk < z.length := by omega
        simp [List.getD, this]
      have hfr := ho.frozenAt kk
      obtain ⟨y, hy, hy0, hy1, hyx⟩ := xor_u8 hxb hp0 hp1
      have HS : Hid (IsI .u8 (w3.setCell ⟨g, kk, none⟩ (.int .u8 y)) (some ⟨g, 0, none⟩) n c (z.set kk y) ∧ Below w.heap.size w (w3.setCell ⟨g, kk, none⟩ (.int .u8 y)) ∧ Bytes (z.set kk y) ∧ z.set kk y ≠ z ∧ x = z.getD kk 0) :=
        ⟨isI_set ho kk y hkn, HB3.out.setCell (p := ⟨g, kk, none⟩) (Nat.le_trans HB2.out.size hg) _, bytes_set HZ.out.2 ⟨hy0, hy1⟩, set_ne (by omega) (by rw [← hx]; exact hyx), hx⟩
      clear ho hn hg hgs hx hxb hyx hy0 hy1 hkk hzz hbt hc0
      go_wp2_with fail
      obtain ⟨wS, hwS⟩ : ∃ W, W = w3.setCell ⟨g, kk, none⟩ (.int .u8 y) := ⟨_, rfl⟩
      have HwS : Hid (wS = w3.setCell ⟨g, kk, none⟩ (.int .u8 y)) := hwS
      rw [← hwS] at HS ⊢
      clear hwS
      have HOp : Hid _ := open_any (some ⟨g, 0, none⟩) n c (z.set kk y) wS HS.out.1 HS.out.2.2.1 (HI.out.2.2.below HS.out.2.1) (by omega)
      refine Calls.mono HOp.out ?_
      rintro e w4 ⟨hb4, (⟨L, q, hL, rfl, hP⟩ | ⟨_, rfl⟩)⟩
      · have H4 : Hid (Below wS.heap.size wS w4 ∧ bt L = (0, z.set kk y) ∧ PtI w4 q L ∧ Below w.heap.size w w4) := ⟨hb4, hL, hP, HS.out.2.1.trans (hb4.mono HS.out.2.1.size)⟩
        clear hb4 hL hP HOp
        have HFr : Hid _ := from_any q none 0 0 [] L 1073741824 w4 H4.out.2.2.1 (isI_none w4) bytes_nil
        have hall : (L.filter (nl [])).take (1073741824 : Int).toNat = L := by
          rw [filter_nil, List.take_of_length_le]
          have := (chkF_zero H4.out.2.2.1.ok).1
          have : (1073741824 : Int).toNat = 1073741824 := rfl
          omega
        rw [hall] at HFr
        clear hall
        go_wp2_with fail
        refine Calls.mono HFr.out ?_
        rintro e w5 ⟨hb5, a5, n5, c5, rfl, hR5, hW5⟩
        have hL5 : n5 ≤ 1000000 := by
          have := hR5.hl
          have := (chkF_zero H4.out.2.2.1.ok).1
          omega
        have H5 : Hid (Below w4.heap.size w4 w5 ∧ Below w.heap.size w w5) := ⟨hb5, H4.out.2.2.2.trans (hb5.mono H4.out.2.2.2.size)⟩
        have HB5 : Hid _ := build_any a5 n5 c5 L w5 hR5 hW5 (HI.out.2.2.below H5.out.2) hL5
        rw [H4.out.2.1] at HB5
        clear hb5 hR5 hW5 HFr
        go_wp2_with fail
        refine Calls.mono HB5.out ?_
        rintro e w6 ⟨hb6, v6, rfl, ho6⟩
        obtain ⟨a6, c6, rfl, hI6⟩ := own_isI ho6
        obtain ⟨n6, hn6⟩ : ∃ n6, n6 = (z.set kk y).length := ⟨_, rfl⟩
        dsimp only at hI6 ho6 ⊢
        rw [← hn6] at hI6 ho6 ⊢
        -- b is as it was
        have hSl : g < wS.heap.size := by rw [HwS.out]; simp only [World.size_setCell]; exact HO.out.2.2.2
        have b46 : Below wS.heap.size wS w6 := (H4.out.1.trans (H5.out.1.mono H4.out.1.size)).trans (hb6.mono (Nat.le_trans H4.out.1.size H5.out.1.size))
        have hc6 : w6.cell? ⟨g, kk, none⟩ = some (.int .u8 y) := by
          refine (b46.cell (p := ⟨g, kk, none⟩) hSl).trans ?_
          rw [HwS.out]
          exact World.cell?_setCell_same' w3 _ _ (by rw [hcell]; rfl)
        have hz6 : w6.frozen? ⟨g, kk, none⟩ = false := by
          have h1 : w6.heap[g]? = wS.heap[g]? := b46.block g hSl
          have h2 : wS.frozen? ⟨g, kk, none⟩ = false := by rw [HwS.out, World.frozen?_setCell]; exact hfr
          unfold World.frozen? at h2 ⊢
          rw [h1]; exact h2
        have hne6 : ∀ j g', a6 = some ⟨g', j, none⟩ → g' ≠ g := fun j g' e e2 => by
          have := (ho6.lt g' (by rw [e]; rfl)).1
          have h1 := H4.out.1.size
          have h2 := H5.out.1.size
          omega
        have hI6' : IsI .u8 (w6.setCell ⟨g, kk, none⟩ (.int .u8 x)) a6 n6 c6 (z.set kk y) := by
          refine ⟨hI6.hl, hI6.hc, hI6.hm, ?_, hI6.nil⟩
          rcases hI6.rd with e | ⟨b, o, e1, e2, e3⟩
          · exact .inl e
          · refine .inr ⟨b, o, e1, by simpa using e2, fun i hi => ?_⟩
            have := hne6 _ _ e1
            rw [World.cell?_of_block (Below.heap_setCell _ _ _ _ (by show b ≠ g; exact this))]
            exact e3 i hi
        have hIb : IsI .u8 (w6.setCell ⟨g, kk, none⟩ (.int .u8 x)) (some ⟨g, 0, none⟩) n c z := by
          have hq := HS.out.1.below b46
          refine ⟨HO.out.2.1.symm, hq.hc, hq.hm, .inr ⟨g, 0, rfl, by have := b46.size; simp; omega, fun i hi => ?_⟩, hq.nil⟩
          rw [Nat.zero_add]
          by_cases e : i = kk
          · subst e
            rw [World.cell?_setCell_same' w6 _ _ (by rw [hc6]; rfl), HS.out.2.2.2.2]
          · rw [set_other w6 g (fun q => e q.symm)]
            rcases hq.rd with h | ⟨b, o, e1, e2, e3⟩
            · have h0 := congrArg List.length h
              rw [List.length_set] at h0; simp only [List.length_nil] at h0; omega
            · cases e1
              have := e3 i (by rw [List.length_set]; exact hi)
              rw [Nat.zero_add] at this
              rw [this]
              simp [List.getD, Ne.symm e]
        have hv6 := conv_rd _ a6 c6 n6 _ hI6'.hl hI6'.rd
        have hvb := conv_rd _ (some ⟨g, 0, none⟩) c n _ hIb.hl hIb.rd
        have hl := str_same HS.out.2.2.1 HZ.out.2
        rw [decide_eq_false HS.out.2.2.2.1] at hl
        have HE : Hid (Below w.heap.size w (w6.setCell ⟨g, kk, none⟩ (.int .u8 x))) := (H5.out.2.trans (hb6.mono H5.out.2.size)).setCell (p := ⟨g, kk, none⟩) (Nat.le_trans HB2.out.size HO.out.2.2.1) _
        generalize strOfNums (z.set kk y) = M at *
        generalize strOfNums z = E at *
        clear hI6 hI6' hIb ho6 hb6 hne6 hn6 hSl b46 hcell hfr HB5
        go_wp2_with fail
        go_ret
        exact ⟨rfl, HE.out⟩
      · have HB4 : Hid (Below w.heap.size w w4) := HS.out.2.1.trans (hb4.mono HS.out.2.1.size)
        clear hb4 HOp
        go_wp2_with fail
        go_ret
        exact ⟨rfl, HB4.out⟩
    · obtain ⟨k, hk⟩ : ∃ k, k = (bt ls).1 := ⟨_, rfl⟩
      rw [← hk] at hz ⊢
      obtain ⟨av, cv, rfl, _⟩ := own_isI ho
      clear ho hk
      go_wp2_with fail
      go_ret
      exact ⟨rfl, HB3.out⟩
set_option maxRecDepth 100000 in
theorem itempartTurned_lifted (os : Os) (started : os.Started) (H : Type) (enc : TypeId × Value → H) :
    ReturnsInHanded {} Tryd.checked os 6 .any (fun w args => (Rows.itempartTurnedSpec.pre enc Tryd.prog Tryd.f6 [] false w args ∧ laidMetH Tryd.prog Rows.itempartTurnedRow.laid w) ∧ sizedMet enc Tryd.prog Tryd.f6 (OpenSpec.ofChange Rows.itempartTurnedSpec) false w args)
      (Rows.itempartTurnedSpec.post enc Tryd.prog Tryd.f6 false true false false) := by
  refine returns_and_shaped (C := Tryd.checked) (X := fun w _ => laidMetH Tryd.prog Rows.itempartTurnedRow.laid w) (fun _ _ _ hh h => h.of_heap hh) own started (by kernel_rfl) Tryd.func6
    (ChangeSpec.witness_shaped (enc := enc) (C := Tryd.checked) (os := os) (X := fun w _ => laidMetH Tryd.prog Rows.itempartTurnedRow.laid w) false (World.laidAll Tryd.prog os Rows.itempartTurnedRow.laid) #[.slice none 0 0, .int .i64 0, .int .u8 0] 8 (World.laidAll_os _ _ _)
      (World.shaped_of_ZipB (by kernel_rfl) (by kernel_rfl)) (by kernel_rfl) (by kernel_rfl) (by kernel_rfl)
      (by rw [MakeChecks.laidMetH_plain _ _ _ (by kernel_rfl)]; exact laidMet_laidAll _ (by kernel_rfl) (by kernel_rfl))) ?_
  intro W base args ds gs before hval0 hW hL hsh
  have hval : ∀ (j : Nat) t v, Tryd.f6.params[j]? = some t → args[j]? = some v → Value.okWide Tryd.prog W .any base t v := hval0
  have hW' := hW
  obtain ⟨p, q, hA0, hV, rfl, _, _⟩ := hW
  have hA : DataW.TrodAll enc Tryd.prog W 0 (fun _ => true) true Tryd.f6.params.toList args.toList ds p := hA0
  rw [Tryd.params6] at hA hval
  obtain ⟨v0, vs0, d0, ds0, p0, q0, hargs, rfl, rfl, h0, r0⟩ := trodAll_cons hA
  obtain ⟨v1, vs1, d1, ds1, p1, q1, rfl, rfl, rfl, h1, r1⟩ := trodAll_cons r0
  obtain ⟨v2, vs2, d2, ds2, p2, q2, rfl, rfl, rfl, h2, r2⟩ := trodAll_cons r1
  obtain ⟨rfl, rfl, rfl⟩ := trodAll_nil r2
  obtain rfl : args = #[v0, v1, v2] := by cases args; simp_all
  obtain ⟨rfl, rfl⟩ := trodVars_none hV
  obtain ⟨a0, len0, cap0, rfl⟩ := okWide_slice Tryd.underlying22 (hval 0 22 v0 rfl rfl)
  have k0 := h0
  have lt0 : ∀ x ∈ p0, x.block < W.heap.size := by obtain ⟨m, hm⟩ := k0; exact DataW.trod_lt m _ _ _ hm
  obtain ⟨vl0, w0, wf0⟩ : ∃ ls, IsR W a0 len0 cap0 ls ∧ WfR ls := by obtain ⟨fuel, hf⟩ := h0; exact isR_of hf
  obtain ⟨a1, rfl, rfl, rfl, w1⟩ := open_int Tryd.underlying3 (hval 1 3 v1 rfl rfl) h1
  have hx1 : -9223372036854775808 ≤ a1 ∧ a1 ≤ 9223372036854775807 := by simpa [Lit.wf, IntKind.min, IntKind.max, IntKind.signed, IntKind.bits] using w1
  obtain ⟨a2, rfl, rfl, rfl, w2⟩ := open_int Tryd.underlying5 (hval 2 5 v2 rfl rfl) h2
  have hx2 : 0 ≤ a2 ∧ a2 ≤ 255 := by simpa [Lit.wf, IntKind.min, IntKind.max, IntKind.signed, IntKind.bits] using w2
  clear hA0 hval0
  rw [MakeChecks.laidMetH_plain _ _ _ (by kernel_rfl)] at hL
  refine (itempartTurned_walk (w := W) a0 len0 cap0 vl0 w0 wf0 a1 hx1 a2 hx2 (ha_of (laidMet.reads hL (by simp [Rows.itempartTurnedRow])))).mono fun e W' ⟨he, hb⟩ => ?_
  subst he
  exact ⟨_, rfl, _, _, _, [], _, [], hW', trodAll_mk1 (shut_bool Tryd.underlying4 _), (trodAll_cons_mk (Below.trod laidOut (by kernel_rfl) (of_decide_eq_true (by kernel_rfl)) k0 hb lt0) (trodAll_cons_mk (shut_int Tryd.underlying3 w1) (trodAll_cons_mk (shut_int Tryd.underlying5 w2) trodAll_mk0))), rfl, hb.frame _, fun h => by cases h⟩

theorem itempartTurned_row : Rows.ItempartTurnedSaid :=
  OpenClaim.holds_of_wide 6 Tryd.f6 rfl rfl rfl rfl rfl rfl rfl ⟨rfl, rfl, rfl, rfl, rfl⟩ rfl rfl rfl rfl rfl (by kernel_rfl) Tryd.func6 (by kernel_rfl)
    (of_decide_eq_true (by kernel_rfl)) (by unfold Func.isWrapper; first | (rw [if_pos (by decide +kernel)]; kernel_rfl) | (rw [if_neg (by decide +kernel)]; exact ⟨rfl, rfl⟩))
    (fun os started H enc _ => itempartTurned_lifted os started H enc)

theorem itempartTurned_holds : Rows.ItempartTurnedCardSaid :=
  Claim7.holds_tied_plain_at .later [] [.data] true (true, "9750523fcd669dd7fa8d8d0d70ca6073e419f1af66238f26be0cb97ebfd56da8") false itempartTurned_row (fun _ h => by cases h) (by kernel_rfl) (fun _ h => by cases h) itempartTurned_row_tie rfl ⟨rfl, rfl⟩ (by kernel_rfl) rfl
    (fun f fn hf hfn => by
      obtain rfl : f = 6 := Option.some.inj ((show Tryd.prog.funcNamed Rows.itempartTurnedRow.func = some 6 by kernel_rfl).symm.trans hf) |>.symm
      obtain rfl : fn = Tryd.f6 := (Option.some.inj (Tryd.func6.symm.trans hfn)).symm
      exact ⟨by kernel_rfl, fun j t ht => by
        rw [Tryd.params6] at ht
        have hm : t ∈ [22, 3, 5] := by simpa using Array.mem_of_getElem? ht
        have hall : ([22, 3, 5].all fun u => !Tryd.prog.wantsStandIn u) = true := by kernel_rfl
        exact (show Tryd.prog.wantsStandIn t = false by simpa using List.all_eq_true.1 hall t hm)⟩)
    (by kernel_rfl)
#print axioms itempartTurned_holds
end Go.Proofs.YtocjmbhfpofoeaaDoor
