/- For every rows of filters and labels: whether filters may be, whether labels are as they ask, which one is exact, is the document's: FilterAlls returns true, and its arguments read as before. No conditions. -/
import Derived.Test.YtejdpelolihpeaaS
import Derived.Test.YtejdpelolihpeaaK
namespace Go.Proofs.Ytejdpelolihpeaa
open Go.ChangeShapes Go.WideShapes Go.ChangeAt Go.RowKit Go.Lib
open Go.ChangeMaps (open_string shut_string)

set_option maxRecDepth 20000 in
set_option maxHeartbeats 8000000 in
theorem filterAlls_walk (a : Option Addr) (len cap : Nat) (fs : List Ft) {w0 : World} (hF : IsF w0 a len cap fs) (wf : WfF fs) (sa : Option Addr) (sl sc : Nat) (ls : List Lb) (hL : IsL w0 sa sl sc ls) (wl : WfL ls) {w : World} (hw : w = w0) :
    Calls Try.prog 3 #[.slice a len cap, .slice sa sl sc] w fun r w' => r = .returned (.bool true) ∧ Below w.heap.size w w' := by
  subst hw
  have HI : Hid ((IsF w a len cap fs ∧ WfF fs) ∧ IsL w sa sl sc ls ∧ WfL ls) := ⟨⟨hF, wf⟩, hL, wl⟩
  clear hF wf hL wl
  go_enter Try.func3, Try.ntmps3
  go_wp2_with fail
  refine (awake_any _).mono ?_
  rintro e w1 ⟨rfl, b1⟩
  have H1 : Hid (IsF w1 a len cap fs ∧ IsL w1 sa sl sc ls ∧ Below w.heap.size w w1) := ⟨HI.out.1.1.below b1, HI.out.2.1.below b1, b1⟩
  clear b1
  go_wp2_with fail
  refine (few_any a len cap fs sa sl sc ls w1 H1.out.1 HI.out.1.2 H1.out.2.1 HI.out.2.2).mono ?_
  rintro e w' ⟨rfl, hw'⟩; rw [hw']; clear hw' w'
  obtain ⟨f1, hf1⟩ : ∃ f, Hid (f = few fs ls) := ⟨_, rfl⟩
  rw [← hf1.out]
  cases f1 with
  | false =>
    go_wp2_with fail
    go_ret
    exact ⟨rfl, H1.out.2.2⟩
  | true =>
    have h10 := (few_spec hf1.out.symm).1
    rw [HI.out.1.1.hl] at h10
    clear hf1
    go_wp2_with fail
    go_loopw [7] (fun i wr => ∃ k : Nat, k ≤ len ∧ i = .int .i64 (k : Int) ∧ Below w1.heap.size w1 wr) (fun i _ => len - (intOf i).toNat)
    case atStart => exact ⟨0, Nat.zero_le _, rfl, Below.refl _ _⟩
    case round =>
      obtain ⟨k, hk, rfl, hbw⟩ := hrel
      by_cases hlt : k < len
      · have hlt' : (k : Int) < (len : Int) := by omega
        have hk0 : (0 : Int) ≤ (k : Int) := by omega
        have hkl : k < fs.length := by rw [HI.out.1.1.hl]; exact hlt
        obtain ⟨g, off, rfl, hg, c0, c1, c2, c3⟩ := (H1.out.1.rd.below hbw).at hkl
        obtain ⟨x, hx⟩ : ∃ x, Hid (x = fs.getD k f0) := ⟨_, rfl⟩
        rw [← hx.out] at c0 c1 c2 c3
        clear hkl hx
        obtain ⟨o, ho⟩ : ∃ o, Hid (o = one x ls) := ⟨_, rfl⟩
        have HC1 : Hid (∀ W, Below wr.heap.size wr W → Calls Try.prog 10 #[.agg #[.string x.n, .string x.v, .bool x.p, .bool x.t], .slice sa sl sc] W fun e w' => e = .returned (.bool o) ∧ Below W.heap.size W w') := fun W hW => by
          rw [ho.out]; exact one_any x sa sl sc ls W ((H1.out.2.1.below hbw).below hW)
        have HC2 : Hid (∀ W, Below wr.heap.size wr W → Calls Try.prog 11 #[.agg #[.string x.n, .string x.v, .bool x.p, .bool x.t], .slice sa sl sc] W fun e w' => e = .returned (.bool o) ∧ Below W.heap.size W w') := fun W hW => by
          rw [ho.out]; exact refone_any x sa sl sc ls W ((H1.out.2.1.below hbw).below hW)
        clear ho
        obtain ⟨n, v, pp, tt⟩ := x
        simp only at c0 c1 c2 c3 HC1 HC2
        go_wp2_with fail
        refine wp_region_K (by kernel_rfl) (by kernel_rfl) [.eq (.slice (some ⟨g, off, none⟩) len cap), .eq (.int .i64 (k : Int)), .eq (.pointer (some ⟨g, off + k * 4, none⟩)), .eq (.agg #[.string n, .string v, .bool pp, .bool tt]), .eq (.slice sa sl sc), .eq (.bool o), .eq (.slice (some ⟨g, off, none⟩) len cap), .eq (.int .i64 (k : Int)), .eq (.pointer (some ⟨g, off + k * 4, none⟩)), .eq (.agg #[.string n, .string v, .bool pp, .bool tt]), .eq (.slice sa sl sc), .eq (.bool o), .eq (.bool false)] wr (Below.refl _ _) (allOps_cons ?_ (allOps_cons ?_ (allOps_cons ?_ (allOps_cons ?_ (allOps_cons ?_ (allOps_cons ?_ (allOps_cons ?_ (allOps_cons ?_ (allOps_cons ?_ (allOps_cons ?_ (allOps_cons ?_ (allOps_cons ?_ (allOps_cons ?_ allOps_nil))))))))))))) ?_
        · intro a wx hS hb hf
          have s0 : a.eval (.tmp 0) = .slice (some ⟨g, off, none⟩) len cap := (hf 0 (by kernel_rfl)).trans rfl
          rw [if_pos (wanted_none rfl)]
          refine does_val (v := .slice (some ⟨g, off, none⟩) len cap) (w' := wx) ?_ ⟨rfl, Below.refl _ _⟩
          have t0 := (ev_tmp a 0).symm.trans s0
          simp [execOp, go_sem, t0]
        · intro a wx hS hb hf
          have s7 : a.eval (.tmp 7) = .int .i64 (k : Int) := (hf 7 (by kernel_rfl)).trans rfl
          rw [if_pos (wanted_none rfl)]
          refine does_val (v := .int .i64 (k : Int)) (w' := wx) ?_ ⟨rfl, Below.refl _ _⟩
          have t7 := (ev_tmp a 7).symm.trans s7
          simp [execOp, go_sem, t7]
        · intro a wx hS hb hf
          have s22 : a.eval (.tmp 22) = .slice (some ⟨g, off, none⟩) len cap := slot hb 0 0 22 rfl rfl
          have s23 : a.eval (.tmp 23) = .int .i64 (k : Int) := slot hb 1 1 23 rfl rfl
          rw [if_pos (wanted_none rfl)]
          refine does_val (v := .pointer (some ⟨g, off + k * 4, none⟩)) (w' := wx) ?_ ⟨rfl, Below.refl _ _⟩
          have t22 := (ev_tmp a 22).symm.trans s22
          have t23 := (ev_tmp a 23).symm.trans s23
          simp [execOp, go_sem, t22, t23, hk0, hlt']
          first | done | (intro h; omega)
        · intro a wx hS hb hf
          have s24 : a.eval (.tmp 24) = .pointer (some ⟨g, off + k * 4, none⟩) := slot hb 0 2 24 rfl rfl
          rw [if_pos (wanted_none rfl)]
          have d0 := (hS.cell (p := ⟨g, off + k * 4, none⟩) hg).trans c0
          have d1 := (hS.cell (p := ⟨g, off + k * 4 + 1, none⟩) hg).trans c1
          have d2 := (hS.cell (p := ⟨g, off + k * 4 + 2, none⟩) hg).trans c2
          have d3 := (hS.cell (p := ⟨g, off + k * 4 + 3, none⟩) hg).trans c3
          refine does_val (v := .agg #[.string n, .string v, .bool pp, .bool tt]) (w' := wx) ?_ ⟨rfl, Below.refl _ _⟩
          have t24 := (ev_tmp a 24).symm.trans s24
          simp [execOp, go_sem, t24, d0, d1, d2, d3]
        · intro a wx hS hb hf
          have s1 : a.eval (.tmp 1) = .slice sa sl sc := (hf 1 (by kernel_rfl)).trans rfl
          rw [if_pos (wanted_none rfl)]
          refine does_val (v := .slice sa sl sc) (w' := wx) ?_ ⟨rfl, Below.refl _ _⟩
          have t1 := (ev_tmp a 1).symm.trans s1
          simp [execOp, go_sem, t1]
        · intro a wx hS hb hf
          have s25 : a.eval (.tmp 25) = .agg #[.string n, .string v, .bool pp, .bool tt] := slot hb 0 3 25 rfl rfl
          have s26 : a.eval (.tmp 26) = .slice sa sl sc := slot hb 1 4 26 rfl rfl
          rw [if_pos (wanted_none rfl)]
          have t25 := (ev_tmp a 25).symm.trans s25
          have t26 := (ev_tmp a 26).symm.trans s26
          refine does_call (f := 10) (args := #[.agg #[.string n, .string v, .bool pp, .bool tt], .slice sa sl sc]) (w' := wx) (by simp [go_sem, t25, t26]) ?_
          refine Calls.mono (HC1.out wx hS) ?_
          rintro r w' ⟨rfl, hb'⟩
          exact ⟨_, rfl, rfl, hb'⟩
        · intro a wx hS hb hf
          have s0 : a.eval (.tmp 0) = .slice (some ⟨g, off, none⟩) len cap := (hf 0 (by kernel_rfl)).trans rfl
          rw [if_pos (wanted_none rfl)]
          refine does_val (v := .slice (some ⟨g, off, none⟩) len cap) (w' := wx) ?_ ⟨rfl, Below.refl _ _⟩
          have t0 := (ev_tmp a 0).symm.trans s0
          simp [execOp, go_sem, t0]
        · intro a wx hS hb hf
          have s7 : a.eval (.tmp 7) = .int .i64 (k : Int) := (hf 7 (by kernel_rfl)).trans rfl
          rw [if_pos (wanted_none rfl)]
          refine does_val (v := .int .i64 (k : Int)) (w' := wx) ?_ ⟨rfl, Below.refl _ _⟩
          have t7 := (ev_tmp a 7).symm.trans s7
          simp [execOp, go_sem, t7]
        · intro a wx hS hb hf
          have s28 : a.eval (.tmp 28) = .slice (some ⟨g, off, none⟩) len cap := slot hb 0 6 28 rfl rfl
          have s29 : a.eval (.tmp 29) = .int .i64 (k : Int) := slot hb 1 7 29 rfl rfl
          rw [if_pos (wanted_none rfl)]
          refine does_val (v := .pointer (some ⟨g, off + k * 4, none⟩)) (w' := wx) ?_ ⟨rfl, Below.refl _ _⟩
          have t28 := (ev_tmp a 28).symm.trans s28
          have t29 := (ev_tmp a 29).symm.trans s29
          simp [execOp, go_sem, t28, t29, hk0, hlt']
          first | done | (intro h; omega)
        · intro a wx hS hb hf
          have s30 : a.eval (.tmp 30) = .pointer (some ⟨g, off + k * 4, none⟩) := slot hb 0 8 30 rfl rfl
          rw [if_pos (wanted_none rfl)]
          have d0 := (hS.cell (p := ⟨g, off + k * 4, none⟩) hg).trans c0
          have d1 := (hS.cell (p := ⟨g, off + k * 4 + 1, none⟩) hg).trans c1
          have d2 := (hS.cell (p := ⟨g, off + k * 4 + 2, none⟩) hg).trans c2
          have d3 := (hS.cell (p := ⟨g, off + k * 4 + 3, none⟩) hg).trans c3
          refine does_val (v := .agg #[.string n, .string v, .bool pp, .bool tt]) (w' := wx) ?_ ⟨rfl, Below.refl _ _⟩
          have t30 := (ev_tmp a 30).symm.trans s30
          simp [execOp, go_sem, t30, d0, d1, d2, d3]
        · intro a wx hS hb hf
          have s1 : a.eval (.tmp 1) = .slice sa sl sc := (hf 1 (by kernel_rfl)).trans rfl
          rw [if_pos (wanted_none rfl)]
          refine does_val (v := .slice sa sl sc) (w' := wx) ?_ ⟨rfl, Below.refl _ _⟩
          have t1 := (ev_tmp a 1).symm.trans s1
          simp [execOp, go_sem, t1]
        · intro a wx hS hb hf
          have s31 : a.eval (.tmp 31) = .agg #[.string n, .string v, .bool pp, .bool tt] := slot hb 0 9 31 rfl rfl
          have s32 : a.eval (.tmp 32) = .slice sa sl sc := slot hb 1 10 32 rfl rfl
          rw [if_pos (wanted_none rfl)]
          have t31 := (ev_tmp a 31).symm.trans s31
          have t32 := (ev_tmp a 32).symm.trans s32
          refine does_call (f := 11) (args := #[.agg #[.string n, .string v, .bool pp, .bool tt], .slice sa sl sc]) (w' := wx) (by simp [go_sem, t31, t32]) ?_
          refine Calls.mono (HC2.out wx hS) ?_
          rintro r w' ⟨rfl, hb'⟩
          exact ⟨_, rfl, rfl, hb'⟩
        · intro a wx hS hb hf
          have s27 : a.eval (.tmp 27) = .bool o := slot hb 0 5 27 rfl rfl
          have s33 : a.eval (.tmp 33) = .bool o := slot hb 1 11 33 rfl rfl
          rw [if_pos (wanted_none rfl)]
          refine does_val (v := .bool false) (w' := wx) ?_ ⟨rfl, Below.refl _ _⟩
          have t27 := (ev_tmp a 27).symm.trans s27
          have t33 := (ev_tmp a 33).symm.trans s33
          simp [execOp, go_sem, t27, t33]
        intro a u hbu hts hd hdone hfree
        have e34 : a.eval (.tmp 34) = .bool false := done_slot hdone 12 34 rfl
        obtain ⟨x22, ex22⟩ : ∃ x, a.eval (.tmp 22) = x := ⟨_, rfl⟩
        obtain ⟨x23, ex23⟩ : ∃ x, a.eval (.tmp 23) = x := ⟨_, rfl⟩
        obtain ⟨x24, ex24⟩ : ∃ x, a.eval (.tmp 24) = x := ⟨_, rfl⟩
        obtain ⟨x25, ex25⟩ : ∃ x, a.eval (.tmp 25) = x := ⟨_, rfl⟩
        obtain ⟨x26, ex26⟩ : ∃ x, a.eval (.tmp 26) = x := ⟨_, rfl⟩
        obtain ⟨x27, ex27⟩ : ∃ x, a.eval (.tmp 27) = x := ⟨_, rfl⟩
        obtain ⟨x28, ex28⟩ : ∃ x, a.eval (.tmp 28) = x := ⟨_, rfl⟩
        obtain ⟨x29, ex29⟩ : ∃ x, a.eval (.tmp 29) = x := ⟨_, rfl⟩
        obtain ⟨x30, ex30⟩ : ∃ x, a.eval (.tmp 30) = x := ⟨_, rfl⟩
        obtain ⟨x31, ex31⟩ : ∃ x, a.eval (.tmp 31) = x := ⟨_, rfl⟩
        obtain ⟨x32, ex32⟩ : ∃ x, a.eval (.tmp 32) = x := ⟨_, rfl⟩
        obtain ⟨x33, ex33⟩ : ∃ x, a.eval (.tmp 33) = x := ⟨_, rfl⟩
        have hact := act_puts hts hd hfree
        simp only [putAll, List.foldl_cons, List.foldl_nil, ex22, ex23, ex24, ex25, ex26, ex27, ex28, ex29, ex30, ex31, ex32, ex33, e34, Act.put] at hact
        simp at hact
        clear ex22 ex23 ex24 ex25 ex26 ex27 ex28 ex29 ex30 ex31 ex32 ex33 e34 hts hd hdone hfree
        subst hact
        have hbn : Below w1.heap.size w1 u := hbw.trans (hbu.mono hbw.size)
        clear hbu
        go_wp2_with fail
        go_roundw
        case rel => exact ⟨k + 1, by omega, by go_num, hbn⟩
        case measure => simp [intOf]; omega
      · have hlt' : ¬ (k : Int) < (len : Int) := by omega
        have HX : Hid (∀ W, Below w1.heap.size w1 W → IsF W a len cap fs ∧ IsL W sa sl sc ls) := fun W h => ⟨H1.out.1.below h, H1.out.2.1.below h⟩
        obtain ⟨ck, hck⟩ : ∃ x, Hid (x = check fs) := ⟨_, rfl⟩
        obtain ⟨al, hal⟩ : ∃ x, Hid (x = all fs ls) := ⟨_, rfl⟩
        obtain ⟨xc, hxc⟩ : ∃ x, Hid (x = exact fs) := ⟨_, rfl⟩
        go_wp2_with fail
        refine (check_any a len cap fs wr (HX.out _ hbw).1 HI.out.1.2).mono ?_
        rintro e w2 ⟨rfl, hb2⟩
        rw [← hck.out]
        have H2 : Hid (Below w1.heap.size w1 w2) := hbw.trans (hb2.mono hbw.size)
        clear hb2
        go_wp2_with fail
        refine (refcheck_any a len cap fs w2 (HX.out _ H2.out).1 HI.out.1.2).mono ?_
        rintro e w' ⟨rfl, hw'⟩; rw [hw']; clear hw' w'
        rw [← hck.out]
        go_wp2_with fail
        refine (all_any a len cap fs sa sl sc ls w2 (HX.out _ H2.out).1 HI.out.1.2 (HX.out _ H2.out).2).mono ?_
        rintro e w3 ⟨rfl, hb3⟩
        rw [← hal.out]
        have H3 : Hid (Below w1.heap.size w1 w3) := H2.out.trans (hb3.mono H2.out.size)
        clear hb3
        go_wp2_with fail
        refine (refall_any a len cap fs sa sl sc ls w3 (HX.out _ H3.out).1 (HX.out _ H3.out).2 h10).mono ?_
        rintro e w4 ⟨rfl, hb4⟩
        rw [← hal.out]
        have H4 : Hid (Below w1.heap.size w1 w4) := H3.out.trans (hb4.mono H3.out.size)
        clear hb4
        go_wp2_with fail
        refine (exact_any a len cap fs w4 (HX.out _ H4.out).1 HI.out.1.2).mono ?_
        rintro e w5 ⟨rfl, hb5⟩
        rw [← hxc.out]
        have H5 : Hid (Below w1.heap.size w1 w5) := H4.out.trans (hb5.mono H4.out.size)
        clear hb5
        go_wp2_with fail
        refine (refexact_any a len cap fs w5 (HX.out _ H5.out).1).mono ?_
        rintro e w' ⟨rfl, hw'⟩; rw [hw']; clear hw' w'
        rw [← hxc.out]
        go_wp2_with fail
        go_ret
        exact ⟨rfl, H1.out.2.2.trans (H5.out.mono H1.out.2.2.size)⟩

set_option maxRecDepth 100000 in
theorem filterAlls_lifted (os : Os) (started : os.Started) (H : Type) (enc : TypeId × Value → H) :
    ReturnsInHanded {} Try.checked os 3 .any (Rows.filterAllsSpec.pre6 enc Try.prog Try.f3 Rows.filterAllsRow.domain false) (Rows.filterAllsSpec.post enc Try.prog Try.f3 false true false false) := by
  refine returnsInHanded_of_change (C := Try.checked) own started (by kernel_rfl) Try.func3
    (ChangeSpec.witness6 (enc := enc) (C := Try.checked) false ⟨#[], #[.slice none 0 0, .slice none 0 0], []⟩ 8 (by kernel_rfl) (by kernel_rfl) (by kernel_rfl) (by kernel_rfl)) ?_
  intro W base args ds gs before hval0 hW hcnd _
  have hval : ∀ (j : Nat) t v, Try.f3.params[j]? = some t → args[j]? = some v → Value.okWide Try.prog W .any base t v := hval0
  have hW' := hW
  obtain ⟨p, q, hA0, hV, rfl, hfz, hnd⟩ := hW
  have hA : DataW.TrodAll enc Try.prog W 0 (fun _ => true) true Try.f3.params.toList args.toList ds p := hA0
  rw [Try.params3] at hA hval
  obtain ⟨v0, vs0, d0, ds0, p0, q0, hargs, rfl, rfl, h0, r0⟩ := trodAll_cons hA
  obtain ⟨v1, vs1, d1, ds1, p1, q1, rfl, rfl, rfl, h1, r1⟩ := trodAll_cons r0
  obtain ⟨rfl, rfl, rfl⟩ := trodAll_nil r1
  obtain rfl : args = #[v0, v1] := by cases args; simp_all
  obtain ⟨rfl, rfl⟩ := trodVars_none hV
  obtain ⟨a0, len0, cap0, rfl⟩ := okWide_slice Try.underlying22 (hval 0 22 v0 rfl rfl)
  have k0 := h0
  have lt0 : ∀ x ∈ p0, x.block < W.heap.size := by obtain ⟨m, hm⟩ := k0; exact DataW.trod_lt m _ _ _ hm
  obtain ⟨vl0, w0, wf0⟩ : ∃ ls, IsF W a0 len0 cap0 ls ∧ WfF ls := by obtain ⟨fuel, hf⟩ := h0; exact isF_of hf
  obtain ⟨a1, len1, cap1, rfl⟩ := okWide_slice Try.underlying23 (hval 1 23 v1 rfl rfl)
  have k1 := h1
  have lt1 : ∀ x ∈ p1, x.block < W.heap.size := by obtain ⟨m, hm⟩ := k1; exact DataW.trod_lt m _ _ _ hm
  obtain ⟨vl1, w1, wf1⟩ : ∃ ls, IsL W a1 len1 cap1 ls ∧ WfL ls := by obtain ⟨fuel, hf⟩ := h1; exact isL_of hf
  clear hA0 hval0
  refine (filterAlls_walk a0 len0 cap0 vl0 w0 wf0 a1 len1 cap1 vl1 w1 wf1 rfl).mono fun e W' ⟨he, hb⟩ => ?_
  subst he
  exact ⟨_, rfl, _, _, _, [], _, [], hW', trodAll_mk1 (shut_bool Try.underlying4 _), (trodAll_cons_mk (Below.trod laidOut (by kernel_rfl) (of_decide_eq_true (by kernel_rfl)) k0 hb lt0) (trodAll_cons_mk (Below.trod laidOut (by kernel_rfl) (of_decide_eq_true (by kernel_rfl)) k1 hb lt1) trodAll_mk0)), rfl, hb.frame _, fun h => by cases h⟩

theorem filterAlls_holds : Rows.FilterAllsSaid :=
  OpenClaim.holds_of_wide 3 Try.f3 rfl rfl rfl rfl rfl rfl rfl ⟨rfl, rfl, rfl, rfl, rfl⟩ rfl rfl rfl rfl rfl (by kernel_rfl) Try.func3 (by kernel_rfl)
    (of_decide_eq_true (by kernel_rfl)) (by unfold Func.isWrapper; first | (rw [if_pos (by decide +kernel)]; kernel_rfl) | (rw [if_neg (by decide +kernel)]; exact ⟨rfl, rfl⟩))
    (fun os started H enc _ => filterAlls_lifted os started H enc)
#print axioms filterAlls_holds
end Go.Proofs.Ytejdpelolihpeaa
