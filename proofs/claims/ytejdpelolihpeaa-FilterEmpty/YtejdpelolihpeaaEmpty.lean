/- For every row of labels and every name: labels that haven't a name are as a filter asks whose value is empty, or that begins with nothing; a name that is there is asked for by its value: FilterEmpty returns true, and its arguments read as before. No conditions. -/
import Derived.Test.YtejdpelolihpeaaS
import Derived.Laws.Cover1
namespace Go.Proofs.Ytejdpelolihpeaa
open Go.ChangeShapes Go.WideShapes Go.ChangeAt Go.RowKit Go.Lib
open Go.ChangeMaps (open_string shut_string)

theorem one_e (n : ByteArray) (ls : List Lb) : one ⟨n, ⟨#[]⟩, false, false⟩ ls = decide (get ls n = ⟨#[]⟩) := by simp [one, asks]
theorem beg_empty (s : ByteArray) : beg s ⟨#[]⟩ = true := by
  simp only [beg, Bool.and_eq_true, decide_eq_true_eq]
  refine ⟨Nat.zero_le _, ?_⟩
  show s.extract 0 0 = _
  apply ByteArray.ext
  simp
theorem one_b (n : ByteArray) (ls : List Lb) : one ⟨n, ⟨#[]⟩, true, false⟩ ls = true := by simp [one, asks, beg_empty]
theorem one_x (n : ByteArray) (ls : List Lb) : one ⟨n, get ls n, false, false⟩ ls = true := by simp [one, asks]
theorem one_y (n x : ByteArray) (ls : List Lb) (hx : 0 < x.size) : one ⟨n, get ls n ++ x, true, false⟩ ls = false := by
  have h : ¬ (get ls n ++ x).size ≤ (get ls n).size := by rw [ByteArray.size_append]; omega
  have hb : beg (get ls n) (get ls n ++ x) = false := by rw [beg, decide_eq_false h]; rfl
  simp [one, asks, hb]
theorem one_en (n : ByteArray) : one ⟨n, ⟨#[]⟩, false, false⟩ [] = true := by simp [one, asks, get]

/-- The four filters that are asked. -/
structure Fo (w W : World) (f1 f2 f3 f4 : Ft) : Prop where
  c1 : Bx W w.heap.size f1
  c2 : Bx W (w.heap.size + 1) f2
  c3 : Bx W (w.heap.size + 1 + 1) f3
  c4 : Bx W (w.heap.size + 1 + 1 + 1) f4
  bl : Below w.heap.size w W
theorem Fo.below {w W W' : World} {f1 f2 f3 f4 : Ft} (h : Fo w W f1 f2 f3 f4) (hb : Below W.heap.size W W') : Fo w W' f1 f2 f3 f4 := ⟨h.c1.below hb, h.c2.below hb, h.c3.below hb, h.c4.below hb, h.bl.trans (hb.mono h.bl.size)⟩
theorem fo_start (w : World) (f1 f2 f3 f4 : Ft) : Fo w ((((w.alloc (.cells #[.string f1.n, .string f1.v, .bool f1.p, .bool f1.t] 28)).alloc (.cells #[.string f2.n, .string f2.v, .bool f2.p, .bool f2.t] 28)).alloc (.cells #[.string f3.n, .string f3.v, .bool f3.p, .bool f3.t] 28)).alloc (.cells #[.string f4.n, .string f4.v, .bool f4.p, .bool f4.t] 28)) f1 f2 f3 f4 := by
  have hx : ∀ (W : World) (o : Obj), Below W.heap.size W (W.alloc o) := fun W o => (Below.refl _ _).alloc (Nat.le_refl _) _
  refine ⟨?_, ?_, ?_, ?_, ?_⟩
  · exact (((boxed_f w f1).below (hx _ _)).below (hx _ _)).below (hx _ _)
  · exact ((bx_at _ f2 _ (by simp)).below (hx _ _)).below (hx _ _)
  · exact (bx_at _ f3 _ (by simp)).below (hx _ _)
  · exact bx_at _ f4 _ (by simp)
  · exact ((((Below.refl w.heap.size w).alloc (Nat.le_refl _) _).alloc (by simp) _).alloc (by simp; omega) _).alloc (by simp; omega) _
theorem few_at {fs : List Ft} {ls : List Lb} (h : few fs ls = true) {k : Nat} (hk : k < ls.length) : (ls.getD k l0).2.size ≤ 50 := by
  simp only [few, Bool.and_eq_true, List.all_eq_true] at h
  have := h.2 _ (getD_memL hk)
  simp [fw1] at this
  exact this.2

set_option maxRecDepth 20000 in
set_option maxHeartbeats 8000000 in
theorem filterEmpty_walk (a : Option Addr) (len cap : Nat) (ls : List Lb) {w0 : World} (hL : IsL w0 a len cap ls) (wl : WfL ls) (s : ByteArray) (hs : s.size ≤ maxLen) {w : World} (hw : w = w0) :
    Calls Try.prog 7 #[.slice a len cap, .string s] w fun r w' => r = .returned (.bool true) ∧ Below w.heap.size w w' := by
  subst hw
  unfold maxLen at hs
  have HI : Hid (IsL w a len cap ls ∧ WfL ls) := ⟨hL, wl⟩
  clear hL wl
  go_enter Try.func7, Try.ntmps7
  go_wp2_with fail
  refine (awake_any _).mono ?_
  rintro e w1 ⟨rfl, b1⟩
  have H1 : Hid (IsL w1 a len cap ls ∧ Below w.heap.size w w1) := ⟨HI.out.1.below b1, b1⟩
  clear b1
  go_wp2_with fail
  refine (few_any none 0 0 [] a len cap ls w1 (isF_nil _) (fun _ h => by cases h) H1.out.1 HI.out.2).mono ?_
  rintro e w' ⟨rfl, hw'⟩; rw [hw']; clear hw' w'
  obtain ⟨f1, hf1⟩ : ∃ f, Hid (f = few [] ls) := ⟨_, rfl⟩
  rw [← hf1.out]
  cases f1 with
  | false =>
    go_wp2_with fail
    go_ret
    exact ⟨rfl, H1.out.2⟩
  | true =>
    have h10 := (few_spec hf1.out.symm).2
    rw [HI.out.1.hl] at h10
    have HV : Hid (∀ k, k < ls.length → (ls.getD k l0).2.size ≤ 50) := fun k hk => few_at hf1.out.symm hk
    clear hf1
    by_cases hs5 : 50 < s.size
    · have hs5' : (50 : Int) < (s.size : Int) := by omega
      go_wp2_with fail
      go_ret
      exact ⟨rfl, H1.out.2⟩
    have hs5' : ¬ (50 : Int) < (s.size : Int) := by omega
    go_wp2_with fail
    go_loop [7, 8, 9] (fun v h i => ∃ k : Nat, ∃ x : ByteArray, ∃ b : Bool, k ≤ len ∧ i = .int .i64 (k : Int) ∧ v = .string x ∧ h = .bool b ∧ x.size ≤ 50 ∧ Hid (get ls s = if b = true then x else get (ls.drop k) s) ∧ Hid (b = false → x = ⟨#[]⟩)) (fun _ _ i => len - (intOf i).toNat)
    case atStart => exact ⟨0, ⟨#[]⟩, false, Nat.zero_le _, rfl, rfl, rfl, Nat.zero_le _, rfl, fun _ => rfl⟩
    case round =>
      obtain ⟨k, x, b, hk, rfl, rfl, rfl, hx50, HA, HZ⟩ := hrel
      by_cases hlt : k < len
      · have hlt' : (k : Int) < (len : Int) := by omega
        have hkl : k < ls.length := by rw [HI.out.1.hl]; exact hlt
        have hv50 := HV.out k hkl
        obtain ⟨g, off, rfl, hg, c0, c1⟩ := H1.out.1.rd.at hkl
        obtain ⟨y, hy⟩ : ∃ y, Hid (y = ls.getD k l0) := ⟨_, rfl⟩
        have HD : Hid (get (ls.drop k) s = if y.1 = s then y.2 else get (ls.drop (k + 1)) s) := by
          show get _ _ = _
          rw [drop_consL ls k hkl, ← hy.out, get]
        rw [← hy.out] at c0 c1 hv50
        clear hkl hy
        obtain ⟨n, v⟩ := y
        simp only at c0 c1 hv50
        have e' := beq_eq n s
        obtain ⟨d, hd⟩ : ∃ d, Hid (d = decide (n = s)) := ⟨_, rfl⟩
        rw [← hd.out] at e'
        cases d with
        | false =>
          cases b with
          | true =>
            go_wp2_with fail
            go_round
            case rel => exact ⟨k + 1, x, true, by omega, by go_num, rfl, rfl, hx50, HA.out, HZ.out⟩
            case measure => simp [intOf]; omega
          | false =>
            go_wp2_with fail
            go_round
            case rel =>
              refine ⟨k + 1, x, false, by omega, by go_num, rfl, rfl, hx50, ?_, HZ.out⟩
              have h1 := HA.out
              simp only [Bool.false_eq_true, if_false] at h1
              show get ls s = _
              rw [h1, HD.out, if_neg (of_decide_eq_false hd.out.symm)]; simp
            case measure => simp [intOf]; omega
        | true =>
          cases b with
          | true =>
            go_wp2_with fail
            go_round
            case rel => exact ⟨k + 1, x, true, by omega, by go_num, rfl, rfl, hx50, HA.out, HZ.out⟩
            case measure => simp [intOf]; omega
          | false =>
            go_wp2_with fail
            go_round
            case rel =>
              refine ⟨k + 1, v, true, by omega, by go_num, rfl, rfl, hv50, ?_, fun h => by cases h⟩
              have h1 := HA.out
              simp only [Bool.false_eq_true, if_false] at h1
              show get ls s = _
              rw [h1, HD.out, if_pos (of_decide_eq_true hd.out.symm)]; simp
            case measure => simp [intOf]; omega
      · have hlt' : ¬ (k : Int) < (len : Int) := by omega
        have HG : Hid (get ls s = x) := by
          have h1 := HA.out
          rw [List.drop_eq_nil_of_le (by rw [HI.out.1.hl]; omega)] at h1
          show get ls s = x
          cases b with
          | true => simpa using h1
          | false => rw [HZ.out rfl]; simpa [get] using h1
        clear HA HZ
        have hx1 : ¬ 9223372036854775807 < x.size + 1 := by omega
        have H0 : Hid _ := fo_start w1 ⟨s, ⟨#[]⟩, false, false⟩ ⟨s, ⟨#[]⟩, true, false⟩ ⟨s, x, false, false⟩ ⟨s, x ++ ⟨#[120]⟩, true, false⟩
        have HL : Hid (∀ W, Below w1.heap.size w1 W → IsL W a len cap ls) := fun W h => H1.out.1.below h
        have e2 := beq_eq x ⟨#[]⟩
        rw [Lib.toList_data, Lib.toList_data] at e2
        obtain ⟨d, hd⟩ : ∃ d, Hid (d = decide (x = ⟨#[]⟩)) := ⟨_, rfl⟩
        have hem : x.toList.isEmpty = d := by
          rw [hd.out, ← e2, Lib.toList_data]; cases x.data.toList <;> rfl
        clear e2
        go_wp2_with fail
        have q1 := one_any ⟨s, ⟨#[]⟩, false, false⟩ a len cap ls _ (HL.out _ H0.out.bl)
        rw [one_e, HG.out, ← hd.out] at q1
        refine Calls.mono q1 ?_
        rintro e w2 ⟨rfl, hb⟩
        clear q1
        have H2 : Hid _ := H0.out.below hb
        clear hb
        obtain ⟨⟨z1, p10, p11, p12, p13⟩, ⟨z2, p20, p21, p22, p23⟩, ⟨z3, p30, p31, p32, p33⟩, ⟨z4, p40, p41, p42, p43⟩, _⟩ := H2.out
        simp only [Nat.zero_add] at p11 p12 p13 p21 p22 p23 p31 p32 p33 p41 p42 p43
        go_wp2_with fail
        have q1 := one_any ⟨s, ⟨#[]⟩, true, false⟩ a len cap ls w2 (HL.out _ H2.out.bl)
        rw [one_b] at q1
        refine Calls.mono q1 ?_
        rintro e w3 ⟨rfl, hb⟩
        clear q1
        have H3 : Hid _ := H2.out.below hb
        clear hb z1 p10 p11 p12 p13 z2 p20 p21 p22 p23 z3 p30 p31 p32 p33 z4 p40 p41 p42 p43
        obtain ⟨⟨z1, p10, p11, p12, p13⟩, ⟨z2, p20, p21, p22, p23⟩, ⟨z3, p30, p31, p32, p33⟩, ⟨z4, p40, p41, p42, p43⟩, _⟩ := H3.out
        simp only [Nat.zero_add] at p11 p12 p13 p21 p22 p23 p31 p32 p33 p41 p42 p43
        go_wp2_with fail
        have q1 := one_any ⟨s, x, false, false⟩ a len cap ls w3 (HL.out _ H3.out.bl)
        rw [show one ⟨s, x, false, false⟩ ls = true by rw [← HG.out]; exact one_x s ls] at q1
        refine Calls.mono q1 ?_
        rintro e w4 ⟨rfl, hb⟩
        clear q1
        have H4 : Hid _ := H3.out.below hb
        clear hb z1 p10 p11 p12 p13 z2 p20 p21 p22 p23 z3 p30 p31 p32 p33 z4 p40 p41 p42 p43
        obtain ⟨⟨z1, p10, p11, p12, p13⟩, ⟨z2, p20, p21, p22, p23⟩, ⟨z3, p30, p31, p32, p33⟩, ⟨z4, p40, p41, p42, p43⟩, _⟩ := H4.out
        simp only [Nat.zero_add] at p11 p12 p13 p21 p22 p23 p31 p32 p33 p41 p42 p43
        go_wp2_with fail
        have q1 := one_any ⟨s, x ++ ⟨#[120]⟩, true, false⟩ a len cap ls w4 (HL.out _ H4.out.bl)
        rw [show one ⟨s, x ++ ⟨#[120]⟩, true, false⟩ ls = false by rw [← HG.out]; exact one_y s ⟨#[120]⟩ ls (by decide)] at q1
        refine Calls.mono q1 ?_
        rintro e w5 ⟨rfl, hb⟩
        clear q1
        have H5 : Hid _ := H4.out.below hb
        clear hb z1 p10 p11 p12 p13 z2 p20 p21 p22 p23 z3 p30 p31 p32 p33 z4 p40 p41 p42 p43
        obtain ⟨⟨z1, p10, p11, p12, p13⟩, _⟩ := H5.out
        simp only [Nat.zero_add] at p11 p12 p13
        go_wp2_with fail
        have q1 := one_any ⟨s, ⟨#[]⟩, false, false⟩ none 0 0 [] w5 (isL_nil w5)
        rw [one_en] at q1
        refine Calls.mono q1 ?_
        rintro e w6 ⟨rfl, hb⟩
        clear q1
        have HB : Hid (Below w.heap.size w w6) := H1.out.2.trans ((H5.out.bl.trans (hb.mono H5.out.bl.size)).mono H1.out.2.size)
        clear hb
        go_wp2_with fail
        go_ret
        exact ⟨rfl, HB.out⟩

set_option maxRecDepth 100000 in
theorem filterEmpty_lifted (os : Os) (started : os.Started) (H : Type) (enc : TypeId × Value → H) :
    ReturnsInHanded {} Try.checked os 7 .any (Rows.filterEmptySpec.pre6 enc Try.prog Try.f7 Rows.filterEmptyRow.domain false) (Rows.filterEmptySpec.post enc Try.prog Try.f7 false true false false) := by
  refine returnsInHanded_of_change (C := Try.checked) own started (by kernel_rfl) Try.func7
    (ChangeSpec.witness6 (enc := enc) (C := Try.checked) false ⟨#[], #[.slice none 0 0, .string ⟨#[]⟩], []⟩ 8 (by kernel_rfl) (by kernel_rfl) (by kernel_rfl) (by kernel_rfl)) ?_
  intro W base args ds gs before hval0 hW hcnd _
  have hval : ∀ (j : Nat) t v, Try.f7.params[j]? = some t → args[j]? = some v → Value.okWide Try.prog W .any base t v := hval0
  have hW' := hW
  obtain ⟨p, q, hA0, hV, rfl, hfz, hnd⟩ := hW
  have hA : DataW.TrodAll enc Try.prog W 0 (fun _ => true) true Try.f7.params.toList args.toList ds p := hA0
  rw [Try.params7] at hA hval
  obtain ⟨v0, vs0, d0, ds0, p0, q0, hargs, rfl, rfl, h0, r0⟩ := trodAll_cons hA
  obtain ⟨v1, vs1, d1, ds1, p1, q1, rfl, rfl, rfl, h1, r1⟩ := trodAll_cons r0
  obtain ⟨rfl, rfl, rfl⟩ := trodAll_nil r1
  obtain rfl : args = #[v0, v1] := by cases args; simp_all
  obtain ⟨rfl, rfl⟩ := trodVars_none hV
  obtain ⟨a0, len0, cap0, rfl⟩ := okWide_slice Try.underlying23 (hval 0 23 v0 rfl rfl)
  have k0 := h0
  have lt0 : ∀ x ∈ p0, x.block < W.heap.size := by obtain ⟨m, hm⟩ := k0; exact DataW.trod_lt m _ _ _ hm
  obtain ⟨vl0, w0, wf0⟩ : ∃ ls, IsL W a0 len0 cap0 ls ∧ WfL ls := by obtain ⟨fuel, hf⟩ := h0; exact isL_of hf
  obtain ⟨s1, rfl, rfl, rfl, w1⟩ := open_string Try.underlying9 (hval 1 9 v1 rfl rfl) h1
  clear hA0 hval0
  refine (filterEmpty_walk a0 len0 cap0 vl0 w0 wf0 s1 w1 rfl).mono fun e W' ⟨he, hb⟩ => ?_
  subst he
  exact ⟨_, rfl, _, _, _, [], _, [], hW', trodAll_mk1 (shut_bool Try.underlying4 _), (trodAll_cons_mk (Below.trod laidOut (by kernel_rfl) (of_decide_eq_true (by kernel_rfl)) k0 hb lt0) (trodAll_cons_mk (shut_string Try.underlying9 w1) trodAll_mk0)), rfl, hb.frame _, fun h => by cases h⟩

theorem filterEmpty_holds : Rows.FilterEmptySaid :=
  OpenClaim.holds_of_wide 7 Try.f7 rfl rfl rfl rfl rfl rfl rfl ⟨rfl, rfl, rfl, rfl, rfl⟩ rfl rfl rfl rfl rfl (by kernel_rfl) Try.func7 (by kernel_rfl)
    (of_decide_eq_true (by kernel_rfl)) (by unfold Func.isWrapper; first | (rw [if_pos (by decide +kernel)]; kernel_rfl) | (rw [if_neg (by decide +kernel)]; exact ⟨rfl, rfl⟩))
    (fun os started H enc _ => filterEmpty_lifted os started H enc)
#print axioms filterEmpty_holds
end Go.Proofs.Ytejdpelolihpeaa
