/- For any items and any item: how many bytes each begins with alike, and where it stands among rising ones, is the document's: ItemsSeeks returns true, and its arguments read as before. No conditions. -/
import Derived.Test.YtnajpppncilijaaS
namespace Go.Proofs.Ytnajpppncilijaa
open Go.ChangeShapes Go.WideShapes Go.ChangeAt Go.RowKit Go.Lib
open Go.ChangeMaps (open_string shut_string)

theorem few_len {w : World} {a : Option Addr} {len cap : Nat} {ls : List (List Int)} (hI : IsR w a len cap ls) (h : few ls = true) : len ≤ 60 := by rw [← hI.hl]; exact (few_spec h).1

set_option maxRecDepth 20000 in
set_option maxHeartbeats 8000000 in
theorem itemsSeeks_walk (a : Option Addr) (len cap : Nat) (ls : List (List Int)) {w0 : World} (hR : IsR w0 a len cap ls) (hwf : WfR ls) (ax : Option Addr) (nx cx : Nat) (x : List Int) (hX : IsI .u8 w0 ax nx cx x) (hbx : Bytes x) {w : World} (hw : w = w0) :
    Calls Try.prog 3 #[.slice a len cap, .slice ax nx cx] w fun r w' => r = .returned (.bool true) ∧ Below w.heap.size w w' := by
  subst hw
  have HI : Hid ((IsR w a len cap ls ∧ WfR ls) ∧ IsI .u8 w ax nx cx x ∧ Bytes x) := ⟨⟨hR, hwf⟩, hX, hbx⟩
  have hc := hR.hc
  have hm := hR.hm
  have hcx := hX.hc
  have hmx := hX.hm
  unfold maxLen at hm hmx
  clear hR hwf hX hbx
  go_enter Try.func3, Try.ntmps3
  go_wp2_with fail
  refine (awake_any _).mono ?_
  rintro e w1 ⟨rfl, b1⟩
  have H1 : Hid (IsR w1 a len cap ls ∧ IsI .u8 w1 ax nx cx x ∧ Below w.heap.size w w1) := ⟨HI.out.1.1.below b1, HI.out.2.1.below b1, b1⟩
  clear b1
  go_wp2_with fail
  refine (few_any a len cap ls w1 H1.out.1).mono ?_
  rintro e w' ⟨rfl, hw'⟩; rw [hw']; clear hw' w'
  obtain ⟨f1, hf1⟩ : ∃ f, Hid (f = few ls) := ⟨_, rfl⟩
  rw [← hf1.out]
  cases f1 with
  | false =>
    go_wp2_with fail
    go_ret
    exact ⟨rfl, H1.out.2.2⟩
  | true =>
    have h60 := few_len H1.out.1 hf1.out.symm
    clear hf1
    by_cases h6 : 600 < nx
    · have h6' : (600 : Int) < (nx : Int) := by omega
      go_wp2_with fail
      go_ret
      exact ⟨rfl, H1.out.2.2⟩
    have h6' : ¬ (600 : Int) < (nx : Int) := by omega
    go_wp2_with fail
    go_loopw [7] (fun i wr => ∃ k : Nat, k ≤ len ∧ i = .int .i64 (k : Int) ∧ Below w1.heap.size w1 wr) (fun i _ => len - (intOf i).toNat)
    case atStart => exact ⟨0, Nat.zero_le _, rfl, Below.refl _ _⟩
    case round =>
      obtain ⟨k, hk, rfl, hbw⟩ := hrel
      by_cases hlt : k < len
      · have hlt' : (k : Int) < (len : Int) := by omega
        have hk0 : (0 : Int) ≤ (k : Int) := by omega
        have hkl : k < ls.length := by rw [H1.out.1.hl]; exact hlt
        obtain ⟨g, off, ai, ni, ci, rfl, hg, c0, hi⟩ := (H1.out.1.rd.below hbw).at hkl
        have hX := H1.out.2.1.below hbw
        have HB : Hid (Below w1.heap.size w1 wr) := hbw
        obtain ⟨n, hn⟩ : ∃ n, Hid (n = cm (ls.getD k []) x) := ⟨_, rfl⟩
        have HC1 : Hid (∀ q, Calls Try.prog 9 #[.slice ai ni ci, .slice ax nx cx] (wr.drewN q) fun e w' => e = .returned (.int .i64 (n : Int)) ∧ ∃ m, w' = wr.drewN m) := fun q => by
          have := common_any ai ni ci _ ax nx cx x (wr.drewN q) (hi.below (below_dr wr q)) (hX.below (below_dr wr q))
          rw [← hn.out] at this
          exact this.mono fun e w' ⟨h1, m, h2⟩ => ⟨h1, q + m, by rw [h2]; exact (drewN_add _ _ _).symm⟩
        have HC2 : Hid (∀ q, Calls Try.prog 10 #[.slice ai ni ci, .slice ax nx cx] (wr.drewN q) fun e w' => e = .returned (.int .i64 (n : Int)) ∧ ∃ m, w' = wr.drewN m) := fun q => by
          have := refcommon_any ai ni ci _ ax nx cx x (wr.drewN q) (hi.below (below_dr wr q)) (hX.below (below_dr wr q))
          rw [← hn.out] at this
          exact this.mono fun e w' ⟨h1, m, h2⟩ => ⟨h1, q + m, by rw [h2]; exact (drewN_add _ _ _).symm⟩
        clear hi hX hkl hbw hn
        go_wp2_with fail
        go_quiet (first | (go_at_call 9; exact HC1.out _) | (go_at_call 10; exact HC2.out _))
        go_wp2_with fail
        go_roundw
        case rel => exact ⟨k + 1, by omega, by go_num, below_drN HB.out _⟩
        case measure => simp [intOf]; omega
      · have hlt' : ¬ (k : Int) < (len : Int) := by omega
        have H2 : Hid (IsR wr a len cap ls ∧ IsI .u8 wr ax nx cx x ∧ Below w.heap.size w wr) := ⟨H1.out.1.below hbw, H1.out.2.1.below hbw, H1.out.2.2.trans (hbw.mono H1.out.2.2.size)⟩
        clear hbw
        go_wp2_with fail
        refine Calls.mono (seek_any a len cap ls ax nx cx x wr H2.out.1 HI.out.1.2 H2.out.2.1 HI.out.2.2 (by omega)) ?_
        rintro e w3 ⟨r, rfl, hp, b3⟩
        have H3 : Hid (Pl ls x r ∧ IsR w3 a len cap ls ∧ IsI .u8 w3 ax nx cx x ∧ Below w.heap.size w w3) := ⟨hp, H2.out.1.below b3, H2.out.2.1.below b3, H2.out.2.2.trans (b3.mono H2.out.2.2.size)⟩
        have hr : r ≤ len := by rw [← H2.out.1.hl]; exact hp.1
        clear hp b3
        go_wp2_with fail
        refine Calls.mono (rises_any a len cap ls w3 H3.out.2.1 HI.out.1.2) ?_
        rintro e w4 ⟨rfl, b4⟩
        have H4 : Hid (IsR w4 a len cap ls ∧ IsI .u8 w4 ax nx cx x ∧ Below w.heap.size w w4) := ⟨H3.out.2.1.below b4, H3.out.2.2.1.below b4, H3.out.2.2.2.trans (b4.mono H3.out.2.2.2.size)⟩
        clear b4
        obtain ⟨q, hq⟩ : ∃ q, Hid (q = rises ls) := ⟨_, rfl⟩
        rw [← hq.out]
        cases q with
        | false =>
          have hr' : (r : Int) ≤ (len : Int) := by omega
          have hr0 : (0 : Int) ≤ (r : Int) := by omega
          go_wp2_with fail
          go_ret
          first | exact ⟨rfl, H4.out.2.2⟩ | exact ⟨ret_bool (by simp; omega), H4.out.2.2⟩
        | true =>
          have hs := pl_sk (rises_iff.1 hq.out.symm) H3.out.1
          have HS : Hid _ := refseek_any a len cap ls ax nx cx x w4 H4.out.1 HI.out.1.2 H4.out.2.1 HI.out.2.2
          rw [hs] at HS
          clear hs
          go_wp2_with fail
          refine Calls.mono HS.out ?_
          rintro e w5 ⟨rfl, b5⟩
          have HB5 : Hid (Below w.heap.size w w5) := H4.out.2.2.trans (b5.mono H4.out.2.2.size)
          clear b5
          go_wp2_with fail
          go_ret
          first | exact ⟨rfl, HB5.out⟩ | exact ⟨ret_bool (by simp), HB5.out⟩

set_option maxRecDepth 100000 in
theorem itemsSeeks_lifted (os : Os) (started : os.Started) (H : Type) (enc : TypeId × Value → H) :
    ReturnsInHanded {} Try.checked os 3 .any (Rows.itemsSeeksSpec.pre6 enc Try.prog Try.f3 Rows.itemsSeeksRow.domain false) (Rows.itemsSeeksSpec.post enc Try.prog Try.f3 false true false false) := by
  refine returnsInHanded_of_change (C := Try.checked) own started (by kernel_rfl) Try.func3
    (ChangeSpec.witness6 (enc := enc) (C := Try.checked) false ⟨#[], #[.slice none 0 0, .slice none 0 0], []⟩ 8 (by kernel_rfl) (by kernel_rfl) (by kernel_rfl) (by kernel_rfl)) ?_
  intro W base args ds gs before hval0 hW hcnd _
  have hval : ∀ (j : Nat) t v, Try.f3.params[j]? = some t → args[j]? = some v → Value.okWide Try.prog W .any base t v := hval0
  have hW' := hW
  obtain ⟨p, q, hA0, hV, rfl, hfz, hnd⟩ := hW
  have hA : DataW.TrodAll enc Try.prog W 0 (fun _ => true) true Try.f3.params.toList args.toList ds p := hA0
  rw [Try.params3] at hA hval
  obtain ⟨v0, vs0, d0, ds0, p0, q0, hargs, rfl, rfl, h0, r0⟩ := trodAll_cons hA
  obtain ⟨v1, vs1, d1, ds1, p1, q1, rfl, rfl, rfl, h1, r1⟩ := trodAll_cons r0
  obtain ⟨rfl, rfl, rfl⟩ := trodAll_nil r1
  obtain rfl : args = #[v0, v1] := by cases args; simp_all
  obtain ⟨rfl, rfl⟩ := trodVars_none hV
  obtain ⟨a0, len0, cap0, rfl⟩ := okWide_slice Try.underlying22 (hval 0 22 v0 rfl rfl)
  have k0 := h0
  have lt0 : ∀ x ∈ p0, x.block < W.heap.size := by obtain ⟨m, hm⟩ := k0; exact DataW.trod_lt m _ _ _ hm
  obtain ⟨vl0, w0, wf0⟩ : ∃ ls, IsR W a0 len0 cap0 ls ∧ WfR ls := by obtain ⟨fuel, hf⟩ := h0; exact isR_of hf
  obtain ⟨a1, len1, cap1, rfl⟩ := okWide_slice Try.underlying23 (hval 1 23 v1 rfl rfl)
  have k1 := h1
  have lt1 : ∀ x ∈ p1, x.block < W.heap.size := by obtain ⟨m, hm⟩ := k1; exact DataW.trod_lt m _ _ _ hm
  obtain ⟨vl1, w1, wf1⟩ : ∃ ms, IsI .u8 W a1 len1 cap1 ms ∧ Bytes ms := by obtain ⟨fuel, hf⟩ := h1; exact isI_of hf
  clear hA0 hval0
  refine (itemsSeeks_walk a0 len0 cap0 vl0 w0 wf0 a1 len1 cap1 vl1 w1 wf1 rfl).mono fun e W' ⟨he, hb⟩ => ?_
  subst he
  exact ⟨_, rfl, _, _, _, [], _, [], hW', trodAll_mk1 (shut_bool Try.underlying4 _), (trodAll_cons_mk (Below.trod laidOut (by kernel_rfl) (of_decide_eq_true (by kernel_rfl)) k0 hb lt0) (trodAll_cons_mk (Below.trod laidOut (by kernel_rfl) (of_decide_eq_true (by kernel_rfl)) k1 hb lt1) trodAll_mk0)), rfl, hb.frame _, fun h => by cases h⟩

theorem itemsSeeks_holds : Rows.ItemsSeeksSaid :=
  OpenClaim.holds_of_wide 3 Try.f3 rfl rfl rfl rfl rfl rfl rfl ⟨rfl, rfl, rfl, rfl, rfl⟩ rfl rfl rfl rfl rfl (by kernel_rfl) Try.func3 (by kernel_rfl)
    (of_decide_eq_true (by kernel_rfl)) (by unfold Func.isWrapper; first | (rw [if_pos (by decide +kernel)]; kernel_rfl) | (rw [if_neg (by decide +kernel)]; exact ⟨rfl, rfl⟩))
    (fun os started H enc _ => itemsSeeks_lifted os started H enc)
#print axioms itemsSeeks_holds
end Go.Proofs.Ytnajpppncilijaa
