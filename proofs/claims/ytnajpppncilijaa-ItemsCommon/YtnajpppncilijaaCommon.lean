/- For any two slices of bytes: what they begin with alike goes both ways, and decides which is ahead: ItemsCommon returns true, and its arguments read as before. No conditions. -/
import Derived.Test.YtnajpppncilijaaS
namespace Go.Proofs.Ytnajpppncilijaa
open Go.ChangeShapes Go.WideShapes Go.ChangeAt Go.RowKit Go.Lib
open Go.ChangeMaps (open_string shut_string)

theorem li_pfx (x t : List Int) : li (x ++ t) x = false := by
  have := li_pre x t []
  rw [List.append_nil] at this
  rw [this]
  cases t <;> rfl
theorem cm_pfx {x y : List Int} (h : cm x y = x.length) : li y x = false ∧ x.length ≤ y.length := by
  have h1 := cm_take x y
  rw [h, List.take_length] at h1
  have h2 : y = x ++ y.drop x.length := by conv => lhs; rw [← List.take_append_drop x.length y, ← h1]
  refine ⟨?_, by have := (cm_le x y).2; omega⟩
  rw [h2]; exact li_pfx x _
theorem li_ext {x t : List Int} (h : t ≠ []) : li x (x ++ t) = true := by
  have := li_pre x [] t
  rw [List.append_nil] at this
  rw [this]
  cases t with
  | nil => exact absurd rfl h
  | cons a r => rfl
theorem cm_end {x y : List Int} (h : cm x y = x.length ∨ cm x y = y.length) : (!li y x) = decide (x.length ≤ y.length) := by
  by_cases hx : cm x y = x.length
  · obtain ⟨h1, h2⟩ := cm_pfx hx
    rw [h1, decide_eq_true h2]; rfl
  · have hy : cm y x = y.length := by rw [cm_comm]; rcases h with h | h; · exact absurd h hx
                                      · exact h
    have h1 := cm_take y x
    rw [hy, List.take_length] at h1
    have h2 : x = y ++ x.drop y.length := by conv => lhs; rw [← List.take_append_drop y.length x, ← h1]
    have h3 := (cm_le x y).1
    have h4 : y.length < x.length := by rw [cm_comm] at hy; omega
    have h5 : li y x = true := by rw [h2]; exact li_ext (fun h0 => by have := congrArg List.length h0; simp at this; omega)
    rw [h5, decide_eq_false (by omega)]; rfl
theorem le_not (x y : List Int) : (li x y || decide (x = y)) = !li y x := by
  by_cases h : x = y
  · subst h; simp [li_irr]
  · cases h1 : li x y with
    | true => rw [li_asymm h1]; simp
    | false => rw [li_total x y h h1]; simp [h]
theorem cm_mid : ∀ (x y : List Int), cm x y < x.length → cm x y < y.length → li x y = decide (x.getD (cm x y) 0 < y.getD (cm x y) 0)
  | [], _, h, _ => by simp at h
  | _ :: _, [], _, h => by simp at h
  | a :: x, b :: y, h1, h2 => by
    have ih := cm_mid x y
    by_cases h : a = b
    · subst h
      have e : cm (a :: x) (a :: y) = cm x y + 1 := by simp [cm]
      rw [e] at h1 h2 ⊢
      have := ih (by simpa using h1) (by simpa using h2)
      simp [li, this]
    · have e : cm (a :: x) (b :: y) = 0 := by simp [cm, h]
      rw [e]
      simp [li, h]

set_option maxRecDepth 20000 in
set_option maxHeartbeats 8000000 in
theorem itemsCommon_walk (a : Option Addr) (n1 c1 : Nat) (x : List Int) {w0 : World} (hX : IsI .u8 w0 a n1 c1 x) (hbx : Bytes x) (b : Option Addr) (n2 c2 : Nat) (y : List Int) (hY : IsI .u8 w0 b n2 c2 y) (hby : Bytes y) {w : World} (hw : w = w0) :
    Calls Try.prog 6 #[.slice a n1 c1, .slice b n2 c2] w fun r w' => r = .returned (.bool true) ∧ Below w.heap.size w w' := by
  subst hw
  have HI : Hid ((IsI .u8 w a n1 c1 x ∧ Bytes x) ∧ IsI .u8 w b n2 c2 y ∧ Bytes y) := ⟨⟨hX, hbx⟩, hY, hby⟩
  have hc1 := hX.hc
  have hm1 := hX.hm
  have hc2 := hY.hc
  have hm2 := hY.hm
  unfold maxLen at hm1 hm2
  clear hX hbx hY hby
  go_enter Try.func6, Try.ntmps6
  go_wp2_with fail
  refine (awake_any _).mono ?_
  rintro e w1 ⟨rfl, b1⟩
  have H1 : Hid (IsI .u8 w1 a n1 c1 x ∧ IsI .u8 w1 b n2 c2 y ∧ Below w.heap.size w w1) := ⟨HI.out.1.1.below b1, HI.out.2.1.below b1, b1⟩
  clear b1
  by_cases h1 : 600 < n1
  · have h1' : (600 : Int) < (n1 : Int) := by omega
    go_wp2_with fail
    go_ret
    exact ⟨rfl, H1.out.2.2⟩
  have h1' : ¬ (600 : Int) < (n1 : Int) := by omega
  by_cases h2 : 600 < n2
  · have h2' : (600 : Int) < (n2 : Int) := by omega
    go_wp2_with fail
    go_ret
    exact ⟨rfl, H1.out.2.2⟩
  have h2' : ¬ (600 : Int) < (n2 : Int) := by omega
  obtain ⟨k, hk⟩ : ∃ k, Hid (k = cm x y) := ⟨_, rfl⟩
  have HC : Hid _ := common_any a n1 c1 x b n2 c2 y w1 H1.out.1 H1.out.2.1
  rw [← hk.out] at HC
  go_wp2_with fail
  refine Calls.mono HC.out ?_
  rintro e w2 ⟨rfl, q, hq⟩
  have b2 : Below w1.heap.size w1 w2 := by rw [hq]; exact below_dr w1 q
  have H2 : Hid (IsI .u8 w2 a n1 c1 x ∧ IsI .u8 w2 b n2 c2 y ∧ Below w.heap.size w w2) := ⟨H1.out.1.below b2, H1.out.2.1.below b2, H1.out.2.2.trans (b2.mono H1.out.2.2.size)⟩
  clear hq b2 HC
  have hk1 : k ≤ n1 := by rw [hk.out, ← H2.out.1.hl]; exact (cm_le x y).1
  have hk2 : k ≤ n2 := by rw [hk.out, ← H2.out.2.1.hl]; exact (cm_le x y).2
  have hk1' : ¬ (n1 : Int) < (k : Int) := by omega
  have hk2' : ¬ (n2 : Int) < (k : Int) := by omega
  have hd1 : decide (n1 < k) = false := by simp; omega
  have hd2 : decide (n2 < k) = false := by simp; omega
  have hz1 : (k : Int) ≤ (n1 : Int) := by omega
  have hz2 : (k : Int) ≤ (n2 : Int) := by omega
  have HC2 : Hid (∀ q, Calls Try.prog 9 #[.slice b n2 c2, .slice a n1 c1] (w2.drewN q) fun e w' => e = .returned (.int .i64 (k : Int)) ∧ ∃ n, w' = w2.drewN n) := fun q => by
    have := common_any b n2 c2 y a n1 c1 x (w2.drewN q) (H2.out.2.1.below (below_dr w2 q)) (H2.out.1.below (below_dr w2 q))
    rw [← cm_comm, ← hk.out] at this
    exact this.mono fun e w' ⟨h1, n, h2⟩ => ⟨h1, q + n, by rw [h2]; exact (drewN_add _ _ _).symm⟩
  have HT : Hid (x.take k = y.take k) := by show _ = _; rw [hk.out]; exact cm_take x y
  have v1 := conv_drew w2 a c1 k (x.take k) ⟨by have := H2.out.1.hl; simp; omega, by omega, H2.out.1.hm, H2.out.1.rd.take _, H2.out.1.nil⟩
  have v2 := conv_drew w2 b c2 k (x.take k) (by rw [HT.out]; exact ⟨by have := H2.out.2.1.hl; simp; omega, by omega, H2.out.2.1.hm, H2.out.2.1.rd.take _, H2.out.2.1.nil⟩)
  have u1 := conv_drew w2 a c1 n1 x H2.out.1
  have u2 := conv_drew w2 b c2 n2 y H2.out.2.1
  have s1 := str_less HI.out.1.2 HI.out.2.2
  have s2 := str_less HI.out.2.2 HI.out.1.2
  have s3 : Hid (((strOfNums x).toList == (strOfNums y).toList) = decide (x = y)) := str_same HI.out.1.2 HI.out.2.2
  have HE : Hid (k = n1 ∨ k = n2 → (li x y || decide (x = y)) = decide (n1 ≤ n2)) := fun h => by
    rw [le_not]
    have := cm_end (x := x) (y := y) (by rw [← hk.out, H2.out.1.hl, H2.out.2.1.hl]; exact h)
    rw [this, H2.out.1.hl, H2.out.2.1.hl]
  have HM : Hid (k < n1 → k < n2 → li x y = decide (x.getD k 0 < y.getD k 0) ∧ x.getD k 0 ≠ y.getD k 0) := fun h3 h4 => by
    rw [hk.out]
    exact ⟨cm_mid x y (by rw [← hk.out, H2.out.1.hl]; exact h3) (by rw [← hk.out, H2.out.2.1.hl]; exact h4), cm_ne x y (by rw [← hk.out, H2.out.1.hl]; exact h3) (by rw [← hk.out, H2.out.2.1.hl]; exact h4)⟩
  have u1' := u1 0
  have u2' := u2 0
  generalize hM : strOfNums (x.take k) = M at v1 v2
  generalize strOfNums x = X at *
  generalize strOfNums y = Y at *
  generalize hl1 : li x y = l1 at *
  generalize hl2 : li y x = l2 at *
  have hMM : (M.toList == M.toList) = true := by simp
  clear hM hl1 hl2
  go_wp2_with fail
  go_quiet ((go_at_call 9; exact HC2.out _))
  by_cases he : k = n1
  · have he' : ((k : Int) == (n1 : Int)) = true := by rw [beq_iff_eq]; omega
    have HE2 : Hid _ := HE.out (.inl he)
    have HD : Hid (k = n1) := he
    clear he
    go_wp2_with fail
    go_ret
    refine ⟨ret_bool ?_, below_drN H2.out.2.2 _⟩
    rw [s3.out, HE2.out]; simp
  have he' : ((k : Int) == (n1 : Int)) = false := by simp; omega
  by_cases hf : k = n2
  · have hf' : ((k : Int) == (n2 : Int)) = true := by rw [beq_iff_eq]; omega
    have HE2 : Hid _ := HE.out (.inr hf)
    go_wp2_with fail
    go_ret
    refine ⟨ret_bool ?_, below_drN H2.out.2.2 _⟩
    rw [s3.out, HE2.out]; simp
  have hf' : ((k : Int) == (n2 : Int)) = false := by simp; omega
  have g1 : k < n1 := by omega
  have g2 : k < n2 := by omega
  have g1' : (k : Int) < (n1 : Int) := by omega
  have g2' : (k : Int) < (n2 : Int) := by omega
  have hk0 : (0 : Int) ≤ (k : Int) := by omega
  obtain ⟨p1, o1, rfl, _, d1⟩ := H2.out.1.lt (by omega)
  obtain ⟨p2, o2, rfl, _, d2⟩ := H2.out.2.1.lt (by omega)
  have e1 := d1 k g1
  have e2 := d2 k g2
  obtain ⟨m1, m2⟩ := HM.out g1 g2
  obtain ⟨r1, hr1⟩ : ∃ r, Hid (r = x.getD k 0) := ⟨_, rfl⟩
  obtain ⟨r2, hr2⟩ : ∃ r, Hid (r = y.getD k 0) := ⟨_, rfl⟩
  rw [← hr1.out] at e1 m1 m2
  rw [← hr2.out] at e2 m1 m2
  have m3 : (r1 == r2) = false := by simpa using m2
  have m4 : (r1 != r2) = true := by simpa using m2
  have HM2 : Hid (l1 = decide (r1 < r2)) := m1
  clear d1 d2 m1 m2
  go_wp2_with fail
  go_quiet (fail)
  go_wp2_with fail
  go_ret
  exact ⟨ret_bool (by rw [HM2.out]; simp), below_drN (below_drN H2.out.2.2 _) _⟩

set_option maxRecDepth 100000 in
theorem itemsCommon_lifted (os : Os) (started : os.Started) (H : Type) (enc : TypeId × Value → H) :
    ReturnsInHanded {} Try.checked os 6 .any (Rows.itemsCommonSpec.pre6 enc Try.prog Try.f6 Rows.itemsCommonRow.domain false) (Rows.itemsCommonSpec.post enc Try.prog Try.f6 false true false false) := by
  refine returnsInHanded_of_change (C := Try.checked) own started (by kernel_rfl) Try.func6
    (ChangeSpec.witness6 (enc := enc) (C := Try.checked) false ⟨#[], #[.slice none 0 0, .slice none 0 0], []⟩ 8 (by kernel_rfl) (by kernel_rfl) (by kernel_rfl) (by kernel_rfl)) ?_
  intro W base args ds gs before hval0 hW hcnd _
  have hval : ∀ (j : Nat) t v, Try.f6.params[j]? = some t → args[j]? = some v → Value.okWide Try.prog W .any base t v := hval0
  have hW' := hW
  obtain ⟨p, q, hA0, hV, rfl, hfz, hnd⟩ := hW
  have hA : DataW.TrodAll enc Try.prog W 0 (fun _ => true) true Try.f6.params.toList args.toList ds p := hA0
  rw [Try.params6] at hA hval
  obtain ⟨v0, vs0, d0, ds0, p0, q0, hargs, rfl, rfl, h0, r0⟩ := trodAll_cons hA
  obtain ⟨v1, vs1, d1, ds1, p1, q1, rfl, rfl, rfl, h1, r1⟩ := trodAll_cons r0
  obtain ⟨rfl, rfl, rfl⟩ := trodAll_nil r1
  obtain rfl : args = #[v0, v1] := by cases args; simp_all
  obtain ⟨rfl, rfl⟩ := trodVars_none hV
  obtain ⟨a0, len0, cap0, rfl⟩ := okWide_slice Try.underlying23 (hval 0 23 v0 rfl rfl)
  have k0 := h0
  have lt0 : ∀ x ∈ p0, x.block < W.heap.size := by obtain ⟨m, hm⟩ := k0; exact DataW.trod_lt m _ _ _ hm
  obtain ⟨vl0, w0, wf0⟩ : ∃ ms, IsI .u8 W a0 len0 cap0 ms ∧ Bytes ms := by obtain ⟨fuel, hf⟩ := h0; exact isI_of hf
  obtain ⟨a1, len1, cap1, rfl⟩ := okWide_slice Try.underlying23 (hval 1 23 v1 rfl rfl)
  have k1 := h1
  have lt1 : ∀ x ∈ p1, x.block < W.heap.size := by obtain ⟨m, hm⟩ := k1; exact DataW.trod_lt m _ _ _ hm
  obtain ⟨vl1, w1, wf1⟩ : ∃ ms, IsI .u8 W a1 len1 cap1 ms ∧ Bytes ms := by obtain ⟨fuel, hf⟩ := h1; exact isI_of hf
  clear hA0 hval0
  refine (itemsCommon_walk a0 len0 cap0 vl0 w0 wf0 a1 len1 cap1 vl1 w1 wf1 rfl).mono fun e W' ⟨he, hb⟩ => ?_
  subst he
  exact ⟨_, rfl, _, _, _, [], _, [], hW', trodAll_mk1 (shut_bool Try.underlying4 _), (trodAll_cons_mk (Below.trod laidOut (by kernel_rfl) (of_decide_eq_true (by kernel_rfl)) k0 hb lt0) (trodAll_cons_mk (Below.trod laidOut (by kernel_rfl) (of_decide_eq_true (by kernel_rfl)) k1 hb lt1) trodAll_mk0)), rfl, hb.frame _, fun h => by cases h⟩

theorem itemsCommon_holds : Rows.ItemsCommonSaid :=
  OpenClaim.holds_of_wide 6 Try.f6 rfl rfl rfl rfl rfl rfl rfl ⟨rfl, rfl, rfl, rfl, rfl⟩ rfl rfl rfl rfl rfl (by kernel_rfl) Try.func6 (by kernel_rfl)
    (of_decide_eq_true (by kernel_rfl)) (by unfold Func.isWrapper; first | (rw [if_pos (by decide +kernel)]; kernel_rfl) | (rw [if_neg (by decide +kernel)]; exact ⟨rfl, rfl⟩))
    (fun os started H enc _ => itemsCommon_lifted os started H enc)
#print axioms itemsCommon_holds
end Go.Proofs.Ytnajpppncilijaa
