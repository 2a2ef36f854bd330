/- ItempartBack: what is built is opened, and built again it is the same; cut short, or with more behind, it is none: true for every input. Conditions: the table of half bytes holds what the program's text lays. -/
import Derived.Test.YtocjmbhfpofoeaaDoorTp
namespace Go.Proofs.YtocjmbhfpofoeaaDoor
open Go.ChangeShapes Go.WideShapes Go.ChangeAt Go.RowKit Go.Lib

/-- No file begins another. -/
theorem fil_pre {l L : List (List Int)} {z z' r : List Int} (h : bt l = (0, z)) (h' : bt L = (0, z')) (e : z = z' ++ r) : r = [] := by
  obtain ⟨a1, a2, a3⟩ := bt_zero (l := l) (by rw [h])
  obtain ⟨b1, b2, b3⟩ := bt_zero (l := L) (by rw [h'])
  have ez : z = fil l := by rw [a3] at h; exact (congrArg Prod.snd h).symm
  have ez' : z' = fil L := by rw [b3] at h'; exact (congrArg Prod.snd h').symm
  subst ez ez'
  have k1 := tb_fb (ix (hs 0 (ch l))) (tl (fb (ch l)).length) a2 (ch_chk_mem a1) ((ch l).length + (ch L).length + 1) (by omega)
  have k2 := tb_fb (ix (hs 0 (ch L))) (tl (fb (ch L)).length ++ r) b2 (ch_chk_mem b1) ((ch l).length + (ch L).length + 1) (by omega)
  rw [← List.append_assoc] at k1
  have e1 : fil l = fb (ch L) ++ (frm 2 (ix (hs 0 (ch L))) ++ (tl (fb (ch L)).length ++ r)) := by
    rw [e]; simp only [fil, List.append_assoc]
  rw [← e1] at k2
  have k3 : ch l = ch L := k1.symm.trans k2
  have k4 : l = L := by rw [← ch_flat l, k3, ch_flat L]
  subst k4
  have := congrArg List.length e
  rw [List.length_append] at this
  exact List.eq_nil_of_length_eq_zero (by omega)

set_option maxRecDepth 100000 in
set_option maxHeartbeats 8000000 in
theorem itempartBack_walk {w : World} (a : Option Addr) (len cap : Nat) (ls : List (List Int)) (hR : IsR w a len cap ls) (hwf : WfR ls) (cut : Int) (_hat : -9223372036854775808 ≤ cut ∧ cut ≤ 9223372036854775807) (hH : Ha w) :
    Calls Tryd.prog 5 #[.slice a len cap, .int .i64 cut] w fun e w' => e = .returned (.bool true) ∧ Below w.heap.size w w' := by
  obtain ⟨i0, hi, hz0, hz1, hz2⟩ := info_parts Tryd.info5
  have HI : Hid (IsR w a len cap ls ∧ WfR ls ∧ Ha w) := ⟨hR, hwf, hH⟩
  clear hR hwf hH
  obtain ⟨m, hm, hm1⟩ : ∃ m : Nat, bits .and .i64 cut 65535 = (m : Int) ∧ m ≤ 65535 := ⟨(cut % 65536).toNat, by rw [i64_and65535]; omega, by omega⟩
  go_enter Tryd.func5, Tryd.ntmps5
  go_wp2_with fail
  refine (awake_any w HI.out.2.2).mono ?_
  rintro e w1 ⟨rfl, hb1⟩
  have HB1 : Hid (Below w.heap.size w w1) := hb1
  clear hb1
  have HFw : Hid _ := few_any a len cap ls w1 (HI.out.1.below HB1.out)
  obtain ⟨fw, hfw⟩ : ∃ b, Hid (b = fewb ls) := ⟨_, rfl⟩
  rw [← hfw.out] at HFw
  go_wp2_with fail
  refine Calls.mono HFw.out ?_
  rintro e w2 ⟨rfl, hb2⟩
  have HB2 : Hid (Below w.heap.size w w2) := HB1.out.trans (hb2.mono HB1.out.size)
  clear hb2 HFw
  cases fw with
  | false =>
    go_wp2_with fail
    go_ret
    exact ⟨rfl, HB2.out⟩
  | true =>
    have hlen : len ≤ 100 := by
      have := (fewb_iff.1 hfw.out.symm).1
      have := HI.out.1.hl
      omega
    have HBu : Hid _ := build_any a len cap ls w2 (HI.out.1.below HB2.out) HI.out.2.1 (HI.out.2.2.below HB2.out) (by omega)
    go_wp2_with fail
    refine Calls.mono HBu.out ?_
    rintro e w3 ⟨hb3, v, rfl, ho⟩
    have HB3 : Hid (Below w.heap.size w w3) := HB2.out.trans (hb3.mono HB2.out.size)
    clear hb3 HBu
    by_cases hz : (bt ls).1 = 0
    · obtain ⟨hc0, _, hbt⟩ := bt_zero hz
      have hfl := fil_le hbt
      rw [hbt] at ho ⊢
      dsimp only at ho ⊢
      obtain ⟨z, hzz⟩ : ∃ z, z = fil ls := ⟨_, rfl⟩
      rw [← hzz] at ho hfl hbt
      have HZ : Hid (bt ls = (0, z) ∧ Bytes z) := ⟨hbt, by rw [hzz]; exact fil_bytes hc0 HI.out.2.1⟩
      obtain ⟨n, hn⟩ : ∃ n, n = z.length := ⟨_, rfl⟩
      rw [← hn] at ho hfl
      obtain ⟨g, c, rfl, _, _, hnc, hcm⟩ := own_some ho (by omega)
      unfold maxLen at hcm
      have hIz : IsI .u8 w3 (some ⟨g, 0, none⟩) n c z := by
        obtain ⟨a', c', hcast, hIz⟩ := own_isI ho
        cases hcast; exact hIz
      have HO : Hid (IsI .u8 w3 (some ⟨g, 0, none⟩) n c z ∧ n = z.length) := ⟨hIz, hn⟩
      obtain ⟨kk, hkk⟩ : ∃ kk : Nat, kk = m % n := ⟨_, rfl⟩
      have hkn : kk < n := by rw [hkk]; exact Nat.mod_lt _ (by omega)
      have htm : (m : Int).tmod (n : Int) = (kk : Int) := by rw [hkk]; rfl
      have hn0 : ((n : Int) == 0) = false := by simp; omega
      have hn0' : ¬ n = 0 := by omega
      have hk0 : (0 : Int) ≤ (kk : Int) := Int.natCast_nonneg _
      have hkc : (kk : Int) ≤ (c : Int) := by omega
      have hwl : IntKind.i64.wrap ((len : Int) + 5) = (len : Int) + 5 := by rw [IntKind.wrap_i64]; omega
      clear ho hn hkk hzz hbt hc0 hIz
      have HOp : Hid _ := open_any (some ⟨g, 0, none⟩) n c z w3 HO.out.1 HZ.out.2 (HI.out.2.2.below HB3.out) (by omega)
      go_wp2_with fail
      refine Calls.mono HOp.out ?_
      rintro e w4 ⟨hb4, (⟨L, q, hL, rfl, hP⟩ | ⟨hno, _⟩)⟩
      case inr => exact absurd HZ.out.1 (hno ls)
      obtain rfl := bt_inj hL HZ.out.1
      have H4 : Hid (PtI w4 q L ∧ Below w3.heap.size w3 w4 ∧ Below w.heap.size w w4) := ⟨hP, hb4, HB3.out.trans (hb4.mono HB3.out.size)⟩
      clear hb4 hL hP HOp
      have HFr : Hid _ := from_any q none 0 0 [] L ((len : Int) + 5) w4 H4.out.1 (isI_none w4) bytes_nil
      have hall : (L.filter (nl [])).take ((len : Int) + 5).toNat = L := by
        rw [filter_nil, List.take_of_length_le]
        have := HI.out.1.hl
        omega
      rw [hall] at HFr
      clear hall
      go_wp2_with fail
      refine Calls.mono HFr.out ?_
      rintro e w5 ⟨hb5, a5, n5, c5, rfl, hR5, hW5⟩
      have hL5 : n5 ≤ 1000000 := by
        have := hR5.hl
        have := HI.out.1.hl
        omega
      have H5 : Hid (IsR w5 a5 n5 c5 L ∧ Below w3.heap.size w3 w5 ∧ Below w.heap.size w w5) := ⟨hR5, H4.out.2.1.trans (hb5.mono H4.out.2.1.size), H4.out.2.2.trans (hb5.mono H4.out.2.2.size)⟩
      have HB5 : Hid _ := build_any a5 n5 c5 L w5 hR5 hW5 (HI.out.2.2.below H5.out.2.2) hL5
      rw [HZ.out.1] at HB5
      have HW5 : Hid (WfR L) := hW5
      clear hb5 hR5 hW5 HFr
      go_wp2_with fail
      refine Calls.mono HB5.out ?_
      rintro e w6 ⟨hb6, v6, rfl, ho6⟩
      obtain ⟨a6, c6, rfl, hI6⟩ := own_isI ho6
      dsimp only at hI6 ho6 ⊢
      have hn6 : z.length = n := HO.out.2.symm
      rw [hn6] at hI6 ⊢
      have H6 : Hid (IsI .u8 w6 a6 n c6 z ∧ Below w5.heap.size w5 w6 ∧ Below w3.heap.size w3 w6 ∧ Below w.heap.size w w6) := ⟨hI6, hb6, H5.out.2.1.trans (hb6.mono H5.out.2.1.size), H5.out.2.2.trans (hb6.mono H5.out.2.2.size)⟩
      clear hb6 hI6 ho6 HB5 hn6
      have hIc : IsI .u8 w6 (some ⟨g, 0, none⟩) kk c (z.take kk) := by
        have hq := HO.out.1.below H6.out.2.2.1
        exact ⟨by rw [List.length_take, ← HO.out.2]; omega, by omega, hq.hm, hq.rd.take kk, hq.nil⟩
      have HOc : Hid _ := open_any (some ⟨g, 0, none⟩) kk c (z.take kk) w6 hIc (bytes_take HZ.out.2 kk) (HI.out.2.2.below H6.out.2.2.2) (by omega)
      clear hIc
      go_wp2_with fail
      refine Calls.mono HOc.out ?_
      rintro e w7 ⟨hb7, (⟨L', q', hL', _, _⟩ | ⟨_, rfl⟩)⟩
      · exfalso
        have := fil_pre HZ.out.1 hL' (List.take_append_drop kk z).symm
        have := congrArg List.length this
        rw [List.length_drop, ← HO.out.2] at this
        simp at this; omega
      have H7 : Hid (Below w5.heap.size w5 w7 ∧ Below w6.heap.size w6 w7 ∧ Below w3.heap.size w3 w7 ∧ Below w.heap.size w w7) := ⟨H6.out.2.1.trans (hb7.mono H6.out.2.1.size), hb7, H6.out.2.2.1.trans (hb7.mono H6.out.2.2.1.size), H6.out.2.2.2.trans (hb7.mono H6.out.2.2.2.size)⟩
      clear hb7 HOc
      have hba : Hid (IsI .u8 (w7.alloc (.cells #[] 5)) (some ⟨g, 0, none⟩) n c z) := (HO.out.1.below H7.out.2.2.1).below ((Below.refl _ _).alloc (Nat.le_refl _) _)
      go_wp2_with (first
        | (at_builtin; refine wpList_append_any _ rfl (.tmp 68) (.tmp 69) 23 rfl w7.heap.size 5 i0 (.int .u8 0) 1 1 Tryd.underlying23 hi hz0 hz1 hz2 rfl (by decide) _ 0 _ rfl (own_empty w7 _ (Nat.le_refl _)) (some ⟨g, 0, none⟩) n c (z.map (Value.int .u8)) rfl (by rw [List.length_map, Nat.mul_one]; exact HO.out.2.symm) hba.out.none (rd_any hba.out.rd) (ints_oneCell _ _) (by unfold maxLen; omega) (by omega) (by simp) ?_
           intro v8 w8 ho8 hg8
           have H8 : Hid (w8.ownsRow w7.heap.size 5 1 v8 n (z.map (Value.int .u8)) ∧ Below w7.heap.size w7 w8) := by
             have hbb : Below w7.heap.size w7 (w7.alloc (.cells #[] 5)) := (Below.refl _ _).alloc (Nat.le_refl _) _
             refine ⟨?_, hbb.grown hg8 (by simp) (fun j hj => ((own_empty w7 _ (Nat.le_refl _)).lt j hj).1)⟩
             simpa using ho8
           clear ho8 hg8)
        | (at_builtin; refine wpList_append_one _ rfl (.tmp 70) (.tmp 71) 23 rfl w7.heap.size 5 i0 (.int .u8 0) 1 Tryd.underlying23 hi hz0 hz1 hz2 rfl _ n _ rfl (H8.out.1.alloc _) (some ⟨w8.heap.size, 0, none⟩) 1 1 [.int .u8 0] rfl rfl (fun h => by cases h) (fun ad h => by cases h; exact at_one (by rw [cell_blk (heap_alloc_new w8 _) 0]; rfl)) (ints_oneCell .u8 [0]) (by unfold maxLen; omega) (by omega) (by have := H8.out.2.size; simp; omega) ?_
           intro v9 w9 ho9 hg9
           have ho9' : w9.ownsRow w7.heap.size 5 1 v9 (n + 1) ((z ++ [0]).map (Value.int .u8)) := by rw [List.map_append]; exact ho9
           obtain ⟨a9, c9, rfl, hI9⟩ := own_isI ho9'
           have hb9 : Below w7.heap.size w8 w9 := ((Below.refl _ _).alloc H8.out.2.size _).grown hg9 (by have := H8.out.2.size; simp; omega) (fun j hj => (H8.out.1.lt j hj).1)
           have H9 : Hid (IsI .u8 w9 a9 (n + 1) c9 (z ++ [0]) ∧ Below w7.heap.size w7 w9) := ⟨hI9, H8.out.2.trans hb9⟩
           clear ho9 hg9 ho9' hI9 hb9))
      have H9w : Hid (Below w.heap.size w w9) := H7.out.2.2.2.trans (H9.out.2.mono H7.out.2.2.2.size)
      have HO9 : Hid _ := open_any a9 (n + 1) c9 (z ++ [0]) w9 H9.out.1 (fun x hx => by
        rcases List.mem_append.1 hx with h | h
        · exact HZ.out.2 x h
        · simp at h; omega) (HI.out.2.2.below H9w.out) (by omega)
      refine Calls.mono HO9.out ?_
      rintro e w10 ⟨hb10, (⟨L', q', hL', _, _⟩ | ⟨_, rfl⟩)⟩
      · exfalso
        have := fil_pre hL' HZ.out.1 rfl
        cases this
      have H10 : Hid (Below w5.heap.size w5 w10 ∧ Below w6.heap.size w6 w10 ∧ Below w3.heap.size w3 w10 ∧ Below w.heap.size w w10) := by
        have h1 : ∀ {W : World}, Below W.heap.size W w7 → Below W.heap.size W w10 := fun h => (h.trans (H9.out.2.mono h.size)).trans (hb10.mono (Nat.le_trans h.size H9.out.2.size))
        exact ⟨h1 H7.out.1, h1 H7.out.2.1, h1 H7.out.2.2.1, h1 H7.out.2.2.2⟩
      clear hb10 HO9 H9 H8
      have HSm : Hid _ := same_any a5 n5 c5 L a len cap L w10 (H5.out.1.below H10.out.1) HI.out.2.1 (HI.out.1.below H10.out.2.2.2) HI.out.2.1
      rw [decide_eq_true rfl] at HSm
      go_wp2_with fail
      refine Calls.mono HSm.out ?_
      rintro e w11 ⟨rfl, hb11⟩
      have H11 : Hid (Below w.heap.size w w11) := H10.out.2.2.2.trans (hb11.mono H10.out.2.2.2.size)
      have hv6 := conv_rd w11 a6 c6 n z (H6.out.1).hl ((H6.out.1.below H10.out.2.1).below hb11).rd
      have hvb := conv_rd w11 (some ⟨g, 0, none⟩) c n z (HO.out.1).hl ((HO.out.1.below H10.out.2.2.1).below hb11).rd
      generalize strOfNums z = M at *
      clear hb11 HSm
      go_wp2_with fail
      go_ret
      exact ⟨rfl, H11.out⟩
    · obtain ⟨k, hk⟩ : ∃ k, k = (bt ls).1 := ⟨_, rfl⟩
      have he := bt_err hz
      rw [he] at ho
      rw [← hk] at hz ⊢
      obtain ⟨av, cv, rfl, _⟩ := own_isI ho
      clear ho hk he
      go_wp2_with fail
      go_ret
      exact ⟨rfl, HB3.out⟩
set_option maxRecDepth 100000 in
theorem itempartBack_lifted (os : Os) (started : os.Started) (H : Type) (enc : TypeId × Value → H) :
    ReturnsInHanded {} Tryd.checked os 5 .any (fun w args => (Rows.itempartBackSpec.pre enc Tryd.prog Tryd.f5 [] false w args ∧ laidMetH Tryd.prog Rows.itempartBackRow.laid w) ∧ sizedMet enc Tryd.prog Tryd.f5 (OpenSpec.ofChange Rows.itempartBackSpec) false w args)
      (Rows.itempartBackSpec.post enc Tryd.prog Tryd.f5 false true false false) := by
  refine returns_and_shaped (C := Tryd.checked) (X := fun w _ => laidMetH Tryd.prog Rows.itempartBackRow.laid w) (fun _ _ _ hh h => h.of_heap hh) own started (by kernel_rfl) Tryd.func5
    (ChangeSpec.witness_shaped (enc := enc) (C := Tryd.checked) (os := os) (X := fun w _ => laidMetH Tryd.prog Rows.itempartBackRow.laid w) false (World.laidAll Tryd.prog os Rows.itempartBackRow.laid) #[.slice none 0 0, .int .i64 0] 8 (World.laidAll_os _ _ _)
      (World.shaped_of_ZipB (by kernel_rfl) (by kernel_rfl)) (by kernel_rfl) (by kernel_rfl) (by kernel_rfl)
      (by rw [MakeChecks.laidMetH_plain _ _ _ (by kernel_rfl)]; exact laidMet_laidAll _ (by kernel_rfl) (by kernel_rfl))) ?_
  intro W base args ds gs before hval0 hW hL hsh
  have hval : ∀ (j : Nat) t v, Tryd.f5.params[j]? = some t → args[j]? = some v → Value.okWide Tryd.prog W .any base t v := hval0
  have hW' := hW
  obtain ⟨p, q, hA0, hV, rfl, _, _⟩ := hW
  have hA : DataW.TrodAll enc Tryd.prog W 0 (fun _ => true) true Tryd.f5.params.toList args.toList ds p := hA0
  rw [Tryd.params5] at hA hval
  obtain ⟨v0, vs0, d0, ds0, p0, q0, hargs, rfl, rfl, h0, r0⟩ := trodAll_cons hA
  obtain ⟨v1, vs1, d1, ds1, p1, q1, rfl, rfl, rfl, h1, r1⟩ := trodAll_cons r0
  obtain ⟨rfl, rfl, rfl⟩ := trodAll_nil r1
  obtain rfl : args = #[v0, v1] := by cases args; simp_all
  obtain ⟨rfl, rfl⟩ := trodVars_none hV
  obtain ⟨a0, len0, cap0, rfl⟩ := okWide_slice Tryd.underlying22 (hval 0 22 v0 rfl rfl)
  have k0 := h0
  have lt0 : ∀ x ∈ p0, x.block < W.heap.size := by obtain ⟨m, hm⟩ := k0; exact DataW.trod_lt m _ _ _ hm
  obtain ⟨vl0, w0, wf0⟩ : ∃ ls, IsR W a0 len0 cap0 ls ∧ WfR ls := by obtain ⟨fuel, hf⟩ := h0; exact isR_of hf
  obtain ⟨a1, rfl, rfl, rfl, w1⟩ := open_int Tryd.underlying3 (hval 1 3 v1 rfl rfl) h1
  have hx1 : -9223372036854775808 ≤ a1 ∧ a1 ≤ 9223372036854775807 := by simpa [Lit.wf, IntKind.min, IntKind.max, IntKind.signed, IntKind.bits] using w1
  clear hA0 hval0
  rw [MakeChecks.laidMetH_plain _ _ _ (by kernel_rfl)] at hL
  refine (itempartBack_walk (w := W) a0 len0 cap0 vl0 w0 wf0 a1 hx1 (ha_of (laidMet.reads hL (by simp [Rows.itempartBackRow])))).mono fun e W' ⟨he, hb⟩ => ?_
  subst he
  exact ⟨_, rfl, _, _, _, [], _, [], hW', trodAll_mk1 (shut_bool Tryd.underlying4 _), (trodAll_cons_mk (Below.trod laidOut (by kernel_rfl) (of_decide_eq_true (by kernel_rfl)) k0 hb lt0) (trodAll_cons_mk (shut_int Tryd.underlying3 w1) trodAll_mk0)), rfl, hb.frame _, fun h => by cases h⟩

theorem itempartBack_row : Rows.ItempartBackSaid :=
  OpenClaim.holds_of_wide 5 Tryd.f5 rfl rfl rfl rfl rfl rfl rfl ⟨rfl, rfl, rfl, rfl, rfl⟩ rfl rfl rfl rfl rfl (by kernel_rfl) Tryd.func5 (by kernel_rfl)
    (of_decide_eq_true (by kernel_rfl)) (by unfold Func.isWrapper; first | (rw [if_pos (by decide +kernel)]; kernel_rfl) | (rw [if_neg (by decide +kernel)]; exact ⟨rfl, rfl⟩))
    (fun os started H enc _ => itempartBack_lifted os started H enc)

theorem itempartBack_holds : Rows.ItempartBackCardSaid :=
  Claim7.holds_tied_plain_at .later [] [.data] true (true, "9750523fcd669dd7fa8d8d0d70ca6073e419f1af66238f26be0cb97ebfd56da8") false itempartBack_row (fun _ h => by cases h) (by kernel_rfl) (fun _ h => by cases h) itempartBack_row_tie rfl ⟨rfl, rfl⟩ (by kernel_rfl) rfl
    (fun f fn hf hfn => by
      obtain rfl : f = 5 := Option.some.inj ((show Tryd.prog.funcNamed Rows.itempartBackRow.func = some 5 by kernel_rfl).symm.trans hf) |>.symm
      obtain rfl : fn = Tryd.f5 := (Option.some.inj (Tryd.func5.symm.trans hfn)).symm
      exact ⟨by kernel_rfl, fun j t ht => by
        rw [Tryd.params5] at ht
        have hm : t ∈ [22, 3] := by simpa using Array.mem_of_getElem? ht
        have hall : ([22, 3].all fun u => !Tryd.prog.wantsStandIn u) = true := by kernel_rfl
        exact (show Tryd.prog.wantsStandIn t = false by simpa using List.all_eq_true.1 hall t hm)⟩)
    (by kernel_rfl)
#print axioms itempartBack_holds
end Go.Proofs.YtocjmbhfpofoeaaDoor
