/- For every row of labels, every text and any bytes: what is marshalled is unmarshalled, in whatever order the labels stood, and what is escaped is cut: LabelsBack returns true, and its arguments read as before. No conditions. -/
import Derived.Test.YthklkhdcmoonkaaS
namespace Go.Proofs.Ythklkhdcmoonkaa
open Go.ChangeShapes Go.WideShapes Go.ChangeAt Go.RowKit Go.Lib
open Go.ChangeMaps (open_string shut_string)

theorem may_rev {ls : List Lb} : May ls.reverse ↔ May ls := ⟨fun h => h.perm (List.reverse_perm ls).symm, fun h => h.perm (List.reverse_perm ls)⟩
theorem cne_rev (ls : List Lb) : cne ls.reverse = cne ls := by
  unfold cne
  by_cases h : May ls
  · rw [if_pos h, if_pos (may_rev.2 h)]
  · rw [if_neg h, if_neg (fun h' => h (may_rev.1 h'))]
theorem cnl_rev (ls : List Lb) : cnl ls.reverse = cnl ls := by
  unfold cnl
  by_cases h : May ls
  · rw [if_pos h, if_pos (may_rev.2 h), canon_perm (List.reverse_perm ls) h]
  · rw [if_neg h, if_neg (fun h' => h (may_rev.1 h'))]
theorem rev_drop (ls : List Lb) (k : Nat) (h : k < ls.length) : (ls.drop k).reverse = (ls.drop (k + 1)).reverse ++ [ls.getD k l0] := by
  rw [drop_consL ls k h, List.reverse_cons]

set_option maxRecDepth 20000 in
set_option maxHeartbeats 8000000 in
theorem labelsBack_walk (a : Option Addr) (len cap : Nat) (ls : List Lb) {w0 : World} (hI : IsL w0 a len cap ls) (wf : WfL ls) (s : ByteArray) (hs : s.size ≤ maxLen) (ab : Option Addr) (nb cb : Nat) (bs : List Int) (hB : IsI .u8 w0 ab nb cb bs) (hby : Bytes bs) {w : World} (hw : w = w0) :
    Calls Try.prog 6 #[.slice a len cap, .string s, .slice ab nb cb] w fun r w' => r = .returned (.bool true) ∧ Below w.heap.size w w' := by
  subst hw
  obtain ⟨i0, hi, hz0, hz1, hz2⟩ := info_parts Try.info44
  obtain ⟨i5, hi5, hy0, hy1, hy2⟩ := info_parts Try.info5
  have hbm := hB.hm
  have hbc := hB.hc
  unfold maxLen at hbm hs
  have HI : Hid ((IsL w a len cap ls ∧ WfL ls) ∧ IsI .u8 w ab nb cb bs ∧ Bytes bs) := ⟨⟨hI, wf⟩, hB, hby⟩
  clear hI wf hB hby
  go_enter Try.func6, Try.ntmps6
  go_wp2_with fail
  refine (awake_any _).mono ?_
  rintro e w1 ⟨rfl, b1⟩
  have H1 : Hid (IsL w1 a len cap ls ∧ IsI .u8 w1 ab nb cb bs ∧ Below w.heap.size w w1) := ⟨HI.out.1.1.below b1, HI.out.2.1.below b1, b1⟩
  clear b1
  go_wp2_with fail
  refine (few_any a len cap ls w1 H1.out.1 HI.out.1.2).mono ?_
  rintro e w' ⟨rfl, hw'⟩; rw [hw']; clear hw' w'
  obtain ⟨f1, hf1⟩ : ∃ f, Hid (f = few ls) := ⟨_, rfl⟩
  rw [← hf1.out]
  cases f1 with
  | false =>
    go_wp2_with fail
    go_ret
    exact ⟨rfl, H1.out.2.2⟩
  | true =>
    have g1 := few_len H1.out.1 hf1.out.symm
    clear hf1
    by_cases hs3 : 300 < s.size
    · have hs3' : (300 : Int) < (s.size : Int) := by omega
      go_wp2_with fail
      go_ret
      exact ⟨rfl, H1.out.2.2⟩
    by_cases hb1 : 100 < nb
    · have hs3' : ¬ (300 : Int) < (s.size : Int) := by omega
      have hb1' : (100 : Int) < (nb : Int) := by omega
      go_wp2_with fail
      go_ret
      exact ⟨rfl, H1.out.2.2⟩
    have hs3' : ¬ (300 : Int) < (s.size : Int) := by omega
    have hb1' : ¬ (100 : Int) < (nb : Int) := by omega
    have hEl := E_len (nums s)
    rw [nums_len] at hEl
    obtain ⟨q, hq⟩ : ∃ q, q = (E (nums s)).length := ⟨_, rfl⟩
    rw [← hq] at hEl
    have HQ : Hid (q = (E (nums s)).length) := hq
    clear hq
    go_wp2_with (first
      | (go_at_call 24; refine (escape_any s w1 (by omega)).mono ?_; rintro e w2 ⟨v2, rfl, ho2, hb2⟩; rw [← HQ.out] at ho2
         have H2 : Hid (w2.ownsRow w1.heap.size 5 1 v2 q ((E (nums s)).map (Value.int .u8)) ∧ Below w1.heap.size w1 w2) := ⟨ho2, hb2⟩
         clear ho2 hb2)
      | (at_builtin; refine wpList_append_any _ rfl (.tmp 41) (.tmp 42) 32 rfl w1.heap.size 5 i5 (.int .u8 0) 1 1 Try.underlying32 hi5 hy0 hy1 hy2 rfl (by decide) _ q _ rfl H2.out.1 ab nb cb (bs.map (Value.int .u8)) rfl (by rw [List.length_map, H1.out.2.1.hl, Nat.mul_one]) H1.out.2.1.none (rd_any (H1.out.2.1.rd.below H2.out.2)) (ints_oneCell _ _) (by unfold maxLen; omega) (by omega) H2.out.2.size ?_
         intro v3 w3 ho3 hg3
         rw [← List.map_append] at ho3
         have hb3 : Below w1.heap.size w1 w3 := H2.out.2.grown hg3 H2.out.2.size (fun j hj => (H2.out.1.lt j hj).1)
         obtain ⟨a3, c3, rfl, hI3⟩ := own_isI ho3
         have H3 : Hid (IsI .u8 w3 a3 (q + nb) c3 (E (nums s) ++ bs) ∧ Below w1.heap.size w1 w3) := ⟨hI3, hb3⟩
         obtain ⟨n3, hn3⟩ : ∃ n, n = q + nb := ⟨_, rfl⟩
         rw [← hn3] at H3 ⊢
         have hn3' : n3 ≤ 10000 := by omega
         clear ho3 hg3 hb3 hI3 hn3)
      | (go_at_call 22; refine (cut_any a3 n3 c3 _ w3 H3.out.1 (bytes_append (E_bytes (nums_bytes s)) HI.out.2.2) (by omega)).mono ?_
         rintro e w4 ⟨a4, m4, c4, rfl, hI4, hb4⟩
         rw [rst_E (nums_bytes s)] at hI4
         rw [cut_E _ _ (nums_bytes s)]
         obtain rfl : m4 = nb := hI4.hl.symm.trans H1.out.2.1.hl
         simp only [str_nums]
         have hb4' : Below w1.heap.size w1 w4 := H3.out.2.trans (hb4.mono H3.out.2.size)
         have hcv1 := conv_rd w4 a4 c4 m4 bs hI4.hl hI4.rd
         have hcv2 := conv_rd w4 ab cb m4 bs H1.out.2.1.hl (H1.out.2.1.rd.below hb4')
         have H4 : Hid (Below w1.heap.size w1 w4 ∧ Below w.heap.size w w4 ∧ IsL w4 a len cap ls) := ⟨hb4', H1.out.2.2.trans (hb4'.mono H1.out.2.2.size), H1.out.1.below hb4'⟩
         clear hI4 hb4 hb4'))
    have hb4s := H4.out.2.1.size
    clear hcv1 hcv2
    go_loopw [12, 13] (fun b i wr => ∃ k m : Nat, i = .int .i64 ((k : Int) - 1) ∧ k + m = len ∧ Hid (wr.ownsRow w4.heap.size 44 2 b m (cls (ls.drop k).reverse)) ∧ Below w4.heap.size w4 wr) (fun _ i _ => (intOf i + 1).toNat)
    case atStart =>
      refine ⟨len, 0, rfl, by omega, ?_, Below.refl _ _⟩
      show World.ownsRow _ _ _ _ _ _ _
      rw [List.drop_eq_nil_of_le (by rw [H4.out.2.2.hl]; omega)]
      exact World.ownsRow_nil _ _ _ _
    case round =>
      obtain ⟨k, m, rfl, hkm, HR, hbr⟩ := hrel
      have hbrs := hbr.size
      by_cases hk : 0 < k
      · have hk' : (0 : Int) ≤ (k : Int) - 1 := by omega
        have hk2 : (k : Int) - 1 < (len : Int) := by omega
        have hk3 : ((k : Int) - 1).toNat = k - 1 := by omega
        have hkl : k - 1 < ls.length := by rw [H4.out.2.2.hl]; omega
        obtain ⟨g, off, rfl, hg, c0, c1⟩ := (H4.out.2.2.rd.below hbr).at hkl
        have HT : Hid ((ls.drop (k - 1)).reverse = (ls.drop k).reverse ++ [ls.getD (k - 1) l0]) := by
          have := rev_drop ls (k - 1) hkl
          rw [show k - 1 + 1 = k by omega] at this
          exact this
        obtain ⟨x, hx⟩ : ∃ x, Hid (x = ls.getD (k - 1) l0) := ⟨_, rfl⟩
        rw [← hx.out] at c0 c1 HT
        obtain ⟨n, v⟩ := x
        simp only at c0 c1
        clear hkl
        go_wp2_with (at_builtin; refine wpList_append_own _ rfl (.tmp 69) (.tmp 74) 22 rfl w4.heap.size 44 i0 _ 2 32 Try.underlying22 hi hz0 hz1 hz2 rfl (by decide) _ m _ rfl (HR.out.alloc _) ⟨wr.heap.size, 0, none⟩ 1 1 [.string n, .string v] rfl rfl (two_at wr _ _ _) (strs_one _ _) (by unfold maxLen; omega) (by omega) (by simp; omega) ?_; intro v5 w5 ho5 hg5 _)
        go_roundw
        case rel =>
          refine ⟨k - 1, m + 1, by congr 1; omega, by omega, ?_, (hbr.alloc hbrs _).grown hg5 (by simp; omega) (fun j hj => (HR.out.lt j hj).1)⟩
          show World.ownsRow _ _ _ _ _ _ _
          rw [HT.out, cls_append]; exact ho5
        case measure => simp [intOf]; omega
      · obtain rfl : k = 0 := by omega
        obtain rfl : m = len := by omega
        have hk' : ¬ (0 : Int) ≤ ((0 : Nat) : Int) - 1 := by omega
        have hor : wr.ownsRow w4.heap.size 44 2 u12 m (cls ls.reverse) := HR.out
        obtain ⟨a5, c5, rfl, hI5⟩ := own_isL hor
        have hwr : WfL ls.reverse := fun x hx => HI.out.1.2 x (List.mem_reverse.1 hx)
        have H5 : Hid (IsL wr a5 m c5 ls.reverse ∧ IsL wr a m cap ls ∧ Below w.heap.size w wr ∧ WfL ls.reverse) := ⟨hI5, H4.out.2.2.below hbr, H4.out.2.1.trans (hbr.mono hb4s), hwr⟩
        have HC : Hid (∀ W, Below wr.heap.size wr W → Calls Try.prog 11 #[.slice a m cap] W (Cnd W ls)) := fun W h => canon_any a m cap ls W (H5.out.2.1.below h) HI.out.1.2
        clear hor hI5 HR hwr
        go_wp2_with fail
        refine (marshal_any a m cap ls wr H5.out.2.1 HI.out.1.2).mono ?_
        rintro e w6 ⟨v6, rfl, ho6, hb6⟩
        have hml : (el (cnl ls)).length ≤ 360 := by
          have h1 := el_len (cnl ls) (cnl_small ls)
          have h2 := cnl_len ls
          omega
        obtain ⟨z, hz⟩ : ∃ z, z = (el (cnl ls)).length := ⟨_, rfl⟩
        rw [← hz] at ho6 hml
        have HZ : Hid (z = (el (cnl ls)).length) := hz
        clear hz
        obtain ⟨a6, c6, rfl, hI6⟩ := own_isI ho6
        have H6 : Hid (IsI .u8 w6 a6 z c6 (el (cnl ls)) ∧ Below wr.heap.size wr w6) := ⟨hI6, hb6⟩
        clear ho6 hI6 hb6
        by_cases hm : May ls
        · have HM : Hid (May ls) := hm
          clear hm
          rw [cne_may HM.out]
          go_wp2_with fail
          refine (marshal_any a5 m c5 ls.reverse w6 (H5.out.1.below H6.out.2) H5.out.2.2.2).mono ?_
          rintro e w7 ⟨v7, rfl, ho7, hb7⟩
          rw [cnl_rev, ← HZ.out] at ho7
          rw [cne_rev, cne_may HM.out]
          obtain ⟨a7, c7, rfl, hI7⟩ := own_isI ho7
          have hcv1 := conv_rd w7 a6 c6 z (el (cnl ls)) H6.out.1.hl (H6.out.1.rd.below hb7)
          have hcv2 := conv_rd w7 a7 c7 z (el (cnl ls)) hI7.hl hI7.rd
          generalize strOfNums (el (cnl ls)) = st at hcv1 hcv2
          have H7 : Hid (IsI .u8 w7 a6 z c6 (el (canon ls)) ∧ Below wr.heap.size wr w7) := ⟨by rw [← cnl_may HM.out]; exact H6.out.1.below hb7, H6.out.2.trans (hb7.mono H6.out.2.size)⟩
          clear ho7 hI7 hb7
          go_wp2_with fail
          refine (unmarshal_any a6 z c6 (el (canon ls)) w7 H7.out.1 (el_bytes _) (by omega)).mono ?_
          rintro e w8 ⟨v8, rfl, hN8, hb8⟩
          rw [unm_back HM.out] at hN8 ⊢
          obtain ⟨a8, c8, rfl, hI8, _⟩ := hN8
          have hcl : (canon ls).length = m := by rw [canon_len HM.out.2.2.2]; exact H5.out.2.1.hl
          simp only [hcl] at hI8 ⊢
          have hb8' : Below wr.heap.size wr w8 := H7.out.2.trans (hb8.mono H7.out.2.size)
          have H8 : Hid (IsL w8 a8 m c8 (canon ls) ∧ Below wr.heap.size wr w8) := ⟨hI8, hb8'⟩
          clear hI8 hb8 hb8' hcv1 hcv2
          go_wp2_with fail
          refine Calls.mono (HC.out w8 H8.out.2) ?_
          rintro e w9 ⟨v9, rfl, hN9, hb9⟩
          rw [cne_may HM.out]
          rw [cnl_may HM.out] at hN9
          obtain ⟨a9, c9, rfl, hI9, _⟩ := hN9
          rw [hcl] at hI9 ⊢
          have H9 : Hid (IsL w9 a8 m c8 (canon ls) ∧ IsL w9 a9 m c9 (canon ls) ∧ Below wr.heap.size wr w9) := ⟨H8.out.1.below hb9, hI9, H8.out.2.trans (hb9.mono H8.out.2.size)⟩
          clear hI9 hb9 hcl HC
          go_wp2_with fail
          refine (same_any a8 a9 m c8 c9 (canon ls) w9 (by omega) H9.out.1 H9.out.2.1).mono ?_
          rintro e w10 ⟨rfl, hb10⟩
          have hc := compare_any a8 a9 m m c8 c9 (canon ls) (canon ls) w10 (by omega) (by omega) (H9.out.1.below hb10) (H9.out.2.1.below hb10)
          rw [cml_self] at hc
          have HCC : Hid _ := hc
          clear hc
          go_wp2_with fail
          refine Calls.mono HCC.out ?_
          rintro e w11 ⟨rfl, hb11⟩
          go_wp2_with fail
          go_ret
          have hbA : Below wr.heap.size wr w11 := (H9.out.2.2.trans (hb10.mono H9.out.2.2.size)).trans (hb11.mono (Nat.le_trans H9.out.2.2.size hb10.size))
          exact ⟨rfl, H5.out.2.2.1.trans (hbA.mono H5.out.2.2.1.size)⟩
        · have HM : Hid (¬ May ls) := hm
          clear hm
          rw [cne_not HM.out]
          obtain rfl : z = 0 := by rw [HZ.out, cnl_not HM.out]; rfl
          go_wp2_with fail
          refine (marshal_any a5 m c5 ls.reverse w6 (H5.out.1.below H6.out.2) H5.out.2.2.2).mono ?_
          rintro e w7 ⟨v7, rfl, ho7, hb7⟩
          rw [cnl_rev, ← HZ.out] at ho7
          rw [cne_rev, cne_not HM.out]
          obtain ⟨a7, c7, rfl, hI7⟩ := own_isI ho7
          have hcv1 := conv_rd w7 a6 c6 0 (el (cnl ls)) H6.out.1.hl (H6.out.1.rd.below hb7)
          have hcv2 := conv_rd w7 a7 c7 0 (el (cnl ls)) hI7.hl hI7.rd
          generalize strOfNums (el (cnl ls)) = st at hcv1 hcv2
          have H7 : Hid (Below wr.heap.size wr w7) := H6.out.2.trans (hb7.mono H6.out.2.size)
          clear ho7 hI7 hb7
          go_wp2_with fail
          go_ret
          exact ⟨rfl, H5.out.2.2.1.trans (H7.out.mono H5.out.2.2.1.size)⟩

set_option maxRecDepth 100000 in
theorem labelsBack_lifted (os : Os) (started : os.Started) (H : Type) (enc : TypeId × Value → H) :
    ReturnsInHanded {} Try.checked os 6 .any (Rows.labelsBackSpec.pre6 enc Try.prog Try.f6 Rows.labelsBackRow.domain false) (Rows.labelsBackSpec.post enc Try.prog Try.f6 false true false false) := by
  refine returnsInHanded_of_change (C := Try.checked) own started (by kernel_rfl) Try.func6
    (ChangeSpec.witness6 (enc := enc) (C := Try.checked) false ⟨#[], #[.slice none 0 0, .string ⟨#[]⟩, .slice none 0 0], []⟩ 8 (by kernel_rfl) (by kernel_rfl) (by kernel_rfl) (by kernel_rfl)) ?_
  intro W base args ds gs before hval0 hW hcnd _
  have hval : ∀ (j : Nat) t v, Try.f6.params[j]? = some t → args[j]? = some v → Value.okWide Try.prog W .any base t v := hval0
  have hW' := hW
  obtain ⟨p, q, hA0, hV, rfl, hfz, hnd⟩ := hW
  have hA : DataW.TrodAll enc Try.prog W 0 (fun _ => true) true Try.f6.params.toList args.toList ds p := hA0
  rw [Try.params6] at hA hval
  obtain ⟨v0, vs0, d0, ds0, p0, q0, hargs, rfl, rfl, h0, r0⟩ := trodAll_cons hA
  obtain ⟨v1, vs1, d1, ds1, p1, q1, rfl, rfl, rfl, h1, r1⟩ := trodAll_cons r0
  obtain ⟨v2, vs2, d2, ds2, p2, q2, rfl, rfl, rfl, h2, r2⟩ := trodAll_cons r1
  obtain ⟨rfl, rfl, rfl⟩ := trodAll_nil r2
  obtain rfl : args = #[v0, v1, v2] := by cases args; simp_all
  obtain ⟨rfl, rfl⟩ := trodVars_none hV
  obtain ⟨a0, len0, cap0, rfl⟩ := okWide_slice Try.underlying22 (hval 0 22 v0 rfl rfl)
  have k0 := h0
  have lt0 : ∀ x ∈ p0, x.block < W.heap.size := by obtain ⟨m, hm⟩ := k0; exact DataW.trod_lt m _ _ _ hm
  obtain ⟨vl0, w0, wf0⟩ : ∃ ls, IsL W a0 len0 cap0 ls ∧ WfL ls := by obtain ⟨fuel, hf⟩ := h0; exact isL_of hf
  obtain ⟨s1, rfl, rfl, rfl, w1⟩ := open_string Try.underlying9 (hval 1 9 v1 rfl rfl) h1
  obtain ⟨a2, len2, cap2, rfl⟩ := okWide_slice Try.underlying32 (hval 2 32 v2 rfl rfl)
  have k2 := h2
  have lt2 : ∀ x ∈ p2, x.block < W.heap.size := by obtain ⟨m, hm⟩ := k2; exact DataW.trod_lt m _ _ _ hm
  obtain ⟨vl2, w2, wf2⟩ : ∃ ms, IsI .u8 W a2 len2 cap2 ms ∧ Bytes ms := by obtain ⟨fuel, hf⟩ := h2; exact isI_of hf
  clear hA0 hval0
  refine (labelsBack_walk a0 len0 cap0 vl0 w0 wf0 s1 w1 a2 len2 cap2 vl2 w2 wf2 rfl).mono fun e W' ⟨he, hb⟩ => ?_
  subst he
  exact ⟨_, rfl, _, _, _, [], _, [], hW', trodAll_mk1 (shut_bool Try.underlying4 _), (trodAll_cons_mk (Below.trod laidOut (by kernel_rfl) (of_decide_eq_true (by kernel_rfl)) k0 hb lt0) (trodAll_cons_mk (shut_string Try.underlying9 w1) (trodAll_cons_mk (Below.trod laidOut (by kernel_rfl) (of_decide_eq_true (by kernel_rfl)) k2 hb lt2) trodAll_mk0))), rfl, hb.frame _, fun h => by cases h⟩

theorem labelsBack_holds : Rows.LabelsBackSaid :=
  OpenClaim.holds_of_wide 6 Try.f6 rfl rfl rfl rfl rfl rfl rfl ⟨rfl, rfl, rfl, rfl, rfl⟩ rfl rfl rfl rfl rfl (by kernel_rfl) Try.func6 (by kernel_rfl)
    (of_decide_eq_true (by kernel_rfl)) (by unfold Func.isWrapper; first | (rw [if_pos (by decide +kernel)]; kernel_rfl) | (rw [if_neg (by decide +kernel)]; exact ⟨rfl, rfl⟩))
    (fun os started H enc _ => labelsBack_lifted os started H enc)
#print axioms labelsBack_holds
end Go.Proofs.Ythklkhdcmoonkaa
