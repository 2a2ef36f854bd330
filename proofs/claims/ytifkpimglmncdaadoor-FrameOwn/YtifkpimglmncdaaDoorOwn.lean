/- FrameOwn: what is told is new memory; a body may have so many bytes, and no more: true for every input. Conditions: the table of half bytes holds what the program's text lays. -/
import Derived.Test.YtifkpimglmncdaaDoorTurnedP
namespace Go.Proofs.YtifkpimglmncdaaDoor
open Go.ChangeShapes Go.WideShapes Go.ChangeAt Go.RowKit Go.Lib

/-- Cells that hold bytes, and may be written. -/
def Cl (w : World) (a : Option Addr) (n : Nat) (base : Nat) : Prop := n = 0 ∨ ∃ g, a = some ⟨g, 0, none⟩ ∧ base ≤ g ∧ ∀ i, i < n → (∃ x : Int, (0 ≤ x ∧ x ≤ 255) ∧ w.cell? ⟨g, i, none⟩ = some (.int .u8 x)) ∧ w.frozen? ⟨g, i, none⟩ = false
theorem cl_own {w : World} {a : Option Addr} {n c base : Nat} {zs : List Int} (h : w.ownsRow base 5 1 (.slice a n c) n (zs.map (Value.int .u8))) (hb : Bytes zs) : Cl w a n base := by
  by_cases h0 : n = 0
  · exact .inl h0
  · obtain ⟨g, c', hv, hgb, _, _, _⟩ := own_some h (by omega)
    cases hv
    have hl : zs.length = n := by have := h.1; simpa using this
    refine .inr ⟨g, rfl, hgb, fun i hi => ⟨⟨zs.getD i 0, bytes_getD hb (by omega), ?_⟩, h.frozenAt i⟩⟩
    rw [h.cellAt i (by omega)]
    simp [List.getD, hl, hi]
theorem zeros_isI (w : World) (n : Nat) (h : n ≤ 1000000) : IsI .u8 (w.alloc (.cells (zeros n).toArray 5)) (some ⟨w.heap.size, 0, none⟩) n n (List.replicate n 0) := by
  refine ⟨by simp, Nat.le_refl _, by unfold maxLen; omega, ?_, fun h => by cases h⟩
  refine .inr ⟨w.heap.size, 0, rfl, by simp, fun i hi => ?_⟩
  have hn := heap_alloc_new w (.cells (zeros n).toArray 5)
  simp only [World.cell?, hn, Nat.zero_add]
  simp at hi
  simp [zeros, List.getD, hi]
theorem bytes_zeros (n : Nat) : Bytes (List.replicate n 0) := fun x hx => by
  have := (List.mem_replicate.1 hx).2
  omega
theorem bs_65535 : (bs 65535).length = 3 := by rw [bs_big (by decide), bs_big (by decide), bs_small (by decide)]; rfl

set_option maxHeartbeats 8000000 in
theorem frameOwn_walk {w : World} (a : Option Addr) (len cap : Nat) (zs : List Int) (hI : IsI .u8 w a len cap zs) (hby : Bytes zs) (more : Int) (_hm : -9223372036854775808 ≤ more ∧ more ≤ 9223372036854775807) (hH : Ha w) :
    Calls Tryd.prog 6 #[.slice a len cap, .int .i64 more] w fun e w' => e = .returned (.bool true) ∧ Below w.heap.size w w' := by
  obtain ⟨i0, hi, hz0, hz1, hz2⟩ := info_parts Tryd.info5
  have HI : Hid (IsI .u8 w a len cap zs ∧ Bytes zs ∧ Ha w) := ⟨hI, hby, hH⟩
  clear hI hby hH
  by_cases hl : len ≤ 500
  · have hl1 : ¬ (500 : Int) < (len : Int) := by omega
    obtain ⟨S, hS⟩ : ∃ S, S = strOfNums (frm 1 zs) := ⟨_, rfl⟩
    have HSt : Hid (S = strOfNums (frm 1 zs)) := hS
    clear hS
    go_enter Tryd.func6, Tryd.ntmps6
    go_wp2_with fail
    refine (awake_any w HI.out.2.2).mono ?_
    rintro e w1 ⟨rfl, hb1⟩
    have HB1 : Hid (Below w.heap.size w w1) := hb1
    clear hb1
    go_wp2_with fail
    refine (make_eq 1 rfl (by decide) a len cap zs w1 (HI.out.1.below HB1.out) HI.out.2.1 (by omega) (HI.out.2.2.below HB1.out)).mono ?_
    rintro e w2 ⟨a2, n2, c2, rfl, hn, ho2, hI2, hb2⟩
    have hn2 : n2 ≤ 1000000 := by have := bs_le3 (n := len) (by omega); omega
    have HB2 : Hid (Below w.heap.size w w2 ∧ IsI .u8 w2 a2 n2 c2 (frm 1 zs)) := ⟨HB1.out.trans (hb2.mono HB1.out.size), hI2⟩
    have hv1 := conv_rd w2 a2 c2 n2 (frm 1 zs) hI2.hl hI2.rd
    rw [← HSt.out] at hv1
    clear hI2 hb2 ho2 hn
    go_wp2_with fail
    refine (next_any _ 1 0 zs [] w2 (by rw [HI.out.1.hl]; omega) (by decide) (found_ok 1 (by decide) zs [] (by rw [HI.out.1.hl]; omega) HI.out.2.1 (fun x hx => by cases hx) a2 n2 c2 w2 (by rw [List.append_nil]; exact HB2.out.2) (HI.out.2.2.below HB2.out.1) hn2)).mono ?_
    rintro e w3 ⟨v3, v4, rfl, ho3, ho4, hb3⟩
    rw [HI.out.1.hl] at ho3
    obtain ⟨a3, c3, rfl, _⟩ := own_isI ho3
    have HC : Hid (Cl w3 a3 len w2.heap.size ∧ Below w2.heap.size w2 w3) := ⟨cl_own ho3 HI.out.2.1, hb3⟩
    clear ho3 ho4 hb3
    go_wp2
    go_loopw [13] (fun i wr => ∃ k : Nat, i = .int .i64 (k : Int) ∧ k ≤ len ∧ Cl wr a3 len w2.heap.size ∧ Below w2.heap.size w2 wr) (fun i _ => len - (RowKit.intOf i).toNat)
    case atStart => exact ⟨0, rfl, Nat.zero_le _, HC.out⟩
    case round =>
      obtain ⟨k, rfl, hk, hC, hB⟩ := hrel
      have HC' : Hid (Cl wr a3 len w2.heap.size ∧ Below w2.heap.size w2 wr) := ⟨hC, hB⟩
      clear hC hB
      by_cases hlt : k < len
      · have hlt' : (k : Int) < (len : Int) := by omega
        obtain ⟨g, rfl, hgb, hcl⟩ := HC'.out.1.resolve_left (by omega)
        obtain ⟨⟨x, hx, hc⟩, hz⟩ := hcl k hlt
        obtain ⟨y, hy, hy0, hy1, _⟩ := xor_u8 hx (p := 255) (by decide) (by decide)
        have hy' : bits .xor .u8 x 255 = y := hy
        have HG : Hid (w2.heap.size ≤ g ∧ (0 ≤ y ∧ y ≤ 255) ∧ ∀ i, i < len → (∃ x : Int, (0 ≤ x ∧ x ≤ 255) ∧ wr.cell? ⟨g, i, none⟩ = some (.int .u8 x)) ∧ wr.frozen? ⟨g, i, none⟩ = false) := ⟨hgb, ⟨hy0, hy1⟩, hcl⟩
        clear hcl hgb hx hy0 hy1 hy
        go_wp2
        go_roundw
        case rel =>
          refine ⟨k + 1, by go_num, by omega, .inr ⟨g, rfl, HG.out.1, fun i hi => ⟨?_, ?_⟩⟩, HC'.out.2.setCell HG.out.1 _⟩
          · by_cases e : i = k
            · subst e
              exact ⟨y, HG.out.2.1, World.cell?_setCell_same' wr _ _ (by rw [hc]; rfl)⟩
            · obtain ⟨x', h1, h2⟩ := (HG.out.2.2 i hi).1
              exact ⟨x', h1, (set_other wr g (fun q => e q.symm)).trans h2⟩
          · rw [World.frozen?_setCell]; exact (HG.out.2.2 i hi).2
        case measure => simp [RowKit.intOf]; omega
      · have hlt' : ¬ (k : Int) < (len : Int) := by omega
        have hIr := HB2.out.2.below HC'.out.2
        have HBr : Hid (Below w.heap.size w wr) := HB2.out.1.trans (HC'.out.2.mono HB2.out.1.size)
        cases hmo : (more.tmod 4 != 0) with
        | false =>
          obtain ⟨N, hN⟩ : ∃ N : Nat, N = 65535 := ⟨_, rfl⟩
          have hNi : (65535 : Int) = (N : Int) := by omega
          have hN' : N ≤ 65535 := by omega
          have HN : Hid (N = 65535) := hN
          clear hN
          have HZ : Hid (IsI .u8 (wr.alloc (.cells (zeros N).toArray 5)) (some ⟨wr.heap.size, 0, none⟩) N N (List.replicate N 0) ∧ Below wr.heap.size wr (wr.alloc (.cells (zeros N).toArray 5))) := ⟨zeros_isI wr N (by omega), (Below.refl _ _).alloc (Nat.le_refl _) _⟩
          clear hNi
          go_wp2_with (at_make; refine wpList_make_any _ rfl (.tmp 57) (.tmp 57) 22 rfl 5 i0 (.int .u8 0) Tryd.underlying22 hi hz0 .i64 .i64 _ _ N N rfl rfl (by have := HN.out; omega) (by have := HN.out; omega) (Nat.le_refl _) (by rw [hz2]; omega) (by unfold maxLen; omega) (zeros N).toArray (by rw [hz1, zeros_made]) ?_)
          refine (make_eq 1 rfl (by decide) (some ⟨wr.heap.size, 0, none⟩) N N (List.replicate N 0) _ HZ.out.1 (bytes_zeros N) hN' (HI.out.2.2.below (HBr.out.trans (HZ.out.2.mono HBr.out.size)))).mono ?_
          rintro e w5 ⟨a5, n5, c5, rfl, hn5, _, _, hb5⟩
          have hv2 := conv_rd w5 a2 c2 n2 (frm 1 zs) hIr.hl ((hIr.below HZ.out.2).below hb5).rd
          rw [← HSt.out] at hv2
          have hn5' : (n5 : Int) = 65543 := by
            have e := HN.out
            subst e
            rw [bs_65535] at hn5
            omega
          have HB5 : Hid (Below w.heap.size w w5) := (HBr.out.trans (HZ.out.2.mono HBr.out.size)).trans (hb5.mono (Nat.le_trans HBr.out.size HZ.out.2.size))
          clear hn5 hb5 hIr
          go_wp2
          go_ret
          exact ⟨rfl, HB5.out⟩
        | true =>
          obtain ⟨N, hN⟩ : ∃ N : Nat, N = 65536 := ⟨_, rfl⟩
          have HN : Hid (N = 65536) := hN
          have HZ : Hid (Below wr.heap.size wr (wr.alloc (.cells (zeros N).toArray 5))) := (Below.refl _ _).alloc (Nat.le_refl _) _
          have hN' : N ≤ 65536 := by omega
          clear hN
          go_wp2_with (at_make; refine wpList_make_any _ rfl (.tmp 57) (.tmp 57) 22 rfl 5 i0 (.int .u8 0) Tryd.underlying22 hi hz0 .i64 .i64 _ _ N N rfl rfl (by have := HN.out; omega) (by have := HN.out; omega) (Nat.le_refl _) (by rw [hz2]; omega) (by unfold maxLen; omega) (zeros N).toArray (by rw [hz1, zeros_made]) ?_)
          refine (make_limit 1 (by decide) (by decide) (some ⟨wr.heap.size, 0, none⟩) N N (by have := HN.out; omega) _).mono ?_
          rintro e w5 ⟨rfl, rfl⟩
          have hv2 := conv_rd _ a2 c2 n2 (frm 1 zs) hIr.hl (hIr.below HZ.out).rd
          rw [← HSt.out] at hv2
          have HB5 : Hid (Below w.heap.size w (wr.alloc (.cells (zeros N).toArray 5))) := HBr.out.trans (HZ.out.mono HBr.out.size)
          clear hIr
          go_wp2
          go_ret
          exact ⟨rfl, HB5.out⟩
  · have hl1 : (500 : Int) < (len : Int) := by omega
    go_enter Tryd.func6, Tryd.ntmps6
    go_wp2_with (go_at_call 8; refine (awake_any w HI.out.2.2).mono ?_; rintro e w1 ⟨rfl, hb1⟩)
    go_ret
    exact ⟨rfl, hb1⟩

set_option maxRecDepth 100000 in
theorem frameOwn_lifted (os : Os) (started : os.Started) (H : Type) (enc : TypeId × Value → H) :
    ReturnsInHanded {} Tryd.checked os 6 .any (fun w args => (Rows.frameOwnSpec.pre enc Tryd.prog Tryd.f6 [] false w args ∧ laidMetH Tryd.prog Rows.frameOwnRow.laid w) ∧ sizedMet enc Tryd.prog Tryd.f6 (OpenSpec.ofChange Rows.frameOwnSpec) false w args)
      (Rows.frameOwnSpec.post enc Tryd.prog Tryd.f6 false true false false) := by
  refine returns_and_shaped (C := Tryd.checked) (X := fun w _ => laidMetH Tryd.prog Rows.frameOwnRow.laid w) (fun _ _ _ hh h => h.of_heap hh) own started (by kernel_rfl) Tryd.func6
    (ChangeSpec.witness_shaped (enc := enc) (C := Tryd.checked) (os := os) (X := fun w _ => laidMetH Tryd.prog Rows.frameOwnRow.laid w) false (World.laidAll Tryd.prog os Rows.frameOwnRow.laid) #[.slice none 0 0, .int .i64 0] 8 (World.laidAll_os _ _ _)
      (World.shaped_of_ZipB (by kernel_rfl) (by kernel_rfl)) (by kernel_rfl) (by kernel_rfl) (by kernel_rfl)
      (by rw [MakeChecks.laidMetH_plain _ _ _ (by kernel_rfl)]; exact laidMet_laidAll _ (by kernel_rfl) (by kernel_rfl))) ?_
  intro W base args ds gs before hval0 hW hL hsh
  have hval : ∀ (j : Nat) t v, Tryd.f6.params[j]? = some t → args[j]? = some v → Value.okWide Tryd.prog W .any base t v := hval0
  have hW' := hW
  obtain ⟨p, q, hA0, hV, rfl, _, _⟩ := hW
  have hA : DataW.TrodAll enc Tryd.prog W 0 (fun _ => true) true Tryd.f6.params.toList args.toList ds p := hA0
  rw [Tryd.params6] at hA hval
  obtain ⟨v0, vs0, d0, ds0, p0, q0, hargs, rfl, rfl, h0, r0⟩ := trodAll_cons hA
  obtain ⟨v1, vs1, d1, ds1, p1, q1, rfl, rfl, rfl, h1, r1⟩ := trodAll_cons r0
  obtain ⟨rfl, rfl, rfl⟩ := trodAll_nil r1
  obtain rfl : args = #[v0, v1] := by cases args; simp_all
  obtain ⟨rfl, rfl⟩ := trodVars_none hV
  obtain ⟨a0, len0, cap0, rfl⟩ := okWide_slice Tryd.underlying22 (hval 0 22 v0 rfl rfl)
  have k0 := h0
  have lt0 : ∀ x ∈ p0, x.block < W.heap.size := by obtain ⟨m, hm⟩ := k0; exact DataW.trod_lt m _ _ _ hm
  obtain ⟨vl0, w0, wf0⟩ : ∃ ms, IsI .u8 W a0 len0 cap0 ms ∧ ∀ n ∈ ms, (Lit.int .u8 n).wf = true := by obtain ⟨fuel, hf⟩ := h0; exact isI_22 hf
  obtain ⟨a1, rfl, rfl, rfl, w1⟩ := open_int Tryd.underlying3 (hval 1 3 v1 rfl rfl) h1
  have hx1 : -9223372036854775808 ≤ a1 ∧ a1 ≤ 9223372036854775807 := by simpa [Lit.wf, IntKind.min, IntKind.max, IntKind.signed, IntKind.bits] using w1
  clear hA0 hval0
  rw [MakeChecks.laidMetH_plain _ _ _ (by kernel_rfl)] at hL
  refine (frameOwn_walk (w := W) a0 len0 cap0 vl0 w0 (bytes_wf wf0) a1 hx1 (ha_of (laidMet.reads hL (by simp [Rows.frameOwnRow])))).mono fun e W' ⟨he, hb⟩ => ?_
  subst he
  exact ⟨_, rfl, _, _, _, [], _, [], hW', trodAll_mk1 (shut_bool Tryd.underlying4 _), (trodAll_cons_mk (Below.trod laidOut (by kernel_rfl) (of_decide_eq_true (by kernel_rfl)) k0 hb lt0) (trodAll_cons_mk (shut_int Tryd.underlying3 w1) trodAll_mk0)), rfl, hb.frame _, fun h => by cases h⟩

theorem frameOwn_row : Rows.FrameOwnSaid :=
  OpenClaim.holds_of_wide 6 Tryd.f6 rfl rfl rfl rfl rfl rfl rfl ⟨rfl, rfl, rfl, rfl, rfl⟩ rfl rfl rfl rfl rfl (by kernel_rfl) Tryd.func6 (by kernel_rfl)
    (of_decide_eq_true (by kernel_rfl)) (by unfold Func.isWrapper; first | (rw [if_pos (by decide +kernel)]; kernel_rfl) | (rw [if_neg (by decide +kernel)]; exact ⟨rfl, rfl⟩))
    (fun os started H enc _ => frameOwn_lifted os started H enc)

theorem frameOwn_holds : Rows.FrameOwnCardSaid :=
  Claim7.holds_tied_plain_at .later [] [.data] true (true, "1e33bb0a793bb80f35d1427b56526076d247bc62253042da2be5e62c13294839") false frameOwn_row (fun _ h => by cases h) (by kernel_rfl) (fun _ h => by cases h) frameOwn_row_tie rfl ⟨rfl, rfl⟩ (by kernel_rfl) rfl
    (fun f fn hf hfn => by
      obtain rfl : f = 6 := Option.some.inj ((show Tryd.prog.funcNamed Rows.frameOwnRow.func = some 6 by kernel_rfl).symm.trans hf) |>.symm
      obtain rfl : fn = Tryd.f6 := (Option.some.inj (Tryd.func6.symm.trans hfn)).symm
      exact ⟨by kernel_rfl, fun j t ht => by
        rw [Tryd.params6] at ht
        have hm : t ∈ [22, 3] := by simpa using Array.mem_of_getElem? ht
        have hall : ([22, 3].all fun u => !Tryd.prog.wantsStandIn u) = true := by kernel_rfl
        exact (show Tryd.prog.wantsStandIn t = false by simpa using List.all_eq_true.1 hall t hm)⟩)
    (by kernel_rfl)
#print axioms frameOwn_holds
end Go.Proofs.YtifkpimglmncdaaDoor
