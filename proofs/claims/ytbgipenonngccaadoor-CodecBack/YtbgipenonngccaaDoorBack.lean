/- For every row and any bytes behind it, what is encoded, by each kind that may be, is decoded, what lies behind is left, and with its last byte cut off it is told to be short: CodecBack returns true, and its arguments read as before. Conditions: the listed package variable starts as the program's text lays it (the card ties it). -/
import Derived.Test.YtbgipenonngccaaDoorOw
namespace Go.Proofs.YtbgipenonngccaaDoor
open Go.ChangeShapes Go.WideShapes Go.ChangeAt Go.RowKit Go.Lib

theorem code_parts {k : Nat} {l c : List Int} (h : code k l = some c) : k < 4 ∧ l.length ≤ 4096 ∧ ∃ x, nms k l = some x ∧ c = (k : Int) :: (bs l.length ++ zbs x) := by
  have hk : k < 4 := by
    rcases Nat.lt_or_ge k 4 with hk | hk
    · exact hk
    · rw [code_four hk] at h; cases h
  refine ⟨hk, ?_⟩
  by_cases hl : l.length ≤ 4096
  · refine ⟨hl, ?_⟩
    cases hx : nms k l with
    | none => rw [code_nil hx] at h; cases h
    | some x => rw [code_some hl hx] at h; cases h; exact ⟨x, rfl, rfl⟩
  · rw [code_long hl] at h; cases h

theorem zbs_snoc (x : List Int) (y : Int) : zbs (x ++ [y]) = zbs x ++ zb y := by rw [zbs_append, zbs_cons]; simp [zbs]
theorem dropLast_app {a b : List Int} (h : b ≠ []) : (a ++ b).dropLast = a ++ b.dropLast := List.dropLast_append_of_ne_nil h

/-- Decode of a code and what lies behind it. -/
theorem back_ok (k : Nat) (l c behind : List Int) (h64 : All64 l) (hc : code k l = some c) (hbeh : behind.length ≤ 1000) (a : Option Addr) (tot cap : Nat) (w : World) (hrd : Rd .u8 w a (c ++ behind)) (ht : tot = (c ++ behind).length) (hm : tot ≤ cap) (hcap : cap ≤ maxLen) (hF : Fw w) :
    Calls Tryd.prog 14 #[.slice a tot cap] w (DecIs l behind w) := by
  obtain ⟨hk, hl, x, hx, rfl⟩ := code_parts hc
  rcases hrd with h | ⟨g, off, rfl, hg, hcell⟩
  · cases h
  have e : ((k : Int) :: (bs l.length ++ zbs x)) ++ behind = (k : Int) :: (bs l.length ++ (zbs x ++ behind)) := by simp
  rw [e] at hcell ht
  exact dec_ok k hk l x behind h64 hx hl hbeh g off tot cap w hg ht (fun i hi => hcell i (by rw [← ht]; exact hi)) hm hcap hF

/-- Decode of a code but its last byte. -/
theorem back_cut (k : Nat) (l c : List Int) (h64 : All64 l) (hc : code k l = some c) (g tot cap : Nat) (w : World) (hrd : Rd .u8 w (some ⟨g, 0, none⟩) c) (ht : tot + 1 = c.length) (hm : c.length ≤ cap) (hcap : cap ≤ maxLen) (hF : Fw w) :
    Calls Tryd.prog 14 #[.slice (some ⟨g, 0, none⟩) tot cap] w fun e w' => e = .returned (.tuple #[.slice none 0 0, .slice none 0 0, .int .i64 10]) ∧ Below w.heap.size w w' := by
  obtain ⟨hk, hl, x, hx, rfl⟩ := code_parts hc
  rcases hrd with h | ⟨g', off, hgo, hg, hcell⟩
  · cases h
  cases hgo
  rcases List.eq_nil_or_concat x with rfl | ⟨x', y, rfl⟩
  · have hf := nms_facts hk hx
    have hk2 : k = 2 ∧ l.length = 0 := by
      rcases four hk with rfl | rfl | rfl | rfl
      · cases hf.2
      · cases hf.2
      · exact ⟨rfl, hf.2.symm⟩
      · have h2 : (0 : Nat) = l.length := hf.2
        have h1 : 2 ≤ l.length := hf.1
        omega
    obtain ⟨rfl, hl0⟩ := hk2
    rw [hl0] at hcell ht hm
    have e : (((2 : Nat) : Int) :: (bs 0 ++ zbs [])) = [2, 0] := by rw [bs_0]; rfl
    rw [e] at hcell ht hm
    have ht1 : tot = 1 := by simp at ht; omega
    subst ht1
    exact dec_nil g 0 cap w (hcell 0 (by decide)) hm
  · rw [List.concat_eq_append] at hx hcell ht hm
    have hy : I64 y := all64_iff.1 (nms_all h64 hx).1 y (by simp)
    obtain ⟨_, hne⟩ := zb_cut hy
    have e : (k : Int) :: (bs l.length ++ zbs (x' ++ [y])) = ((k : Int) :: (bs l.length ++ zbs x')) ++ zb y := by rw [zbs_snoc]; simp
    have e2 : ((k : Int) :: (bs l.length ++ (zbs x' ++ (zb y).dropLast))) = ((k : Int) :: (bs l.length ++ zbs (x' ++ [y]))).dropLast := by
      rw [e, dropLast_app hne]; simp
    refine dec_cut k hk l x' y h64 hx hl g 0 tot cap w hg ?_ (fun i hi => ?_) (by omega) hcap hF
    · rw [e2, List.length_dropLast]; omega
    · rw [e2]
      have hi' : i < ((k : Int) :: (bs l.length ++ zbs (x' ++ [y]))).length := by omega
      rw [hcell i hi']
      congr 2
      rw [List.getD_eq_getElem?_getD, List.getD_eq_getElem?_getD, List.getElem?_eq_getElem hi', List.getElem?_eq_getElem (by rw [List.length_dropLast]; omega), List.getElem_dropLast]

theorem code_len {k : Nat} {l c : List Int} (h64 : All64 l) (h : code k l = some c) : 2 ≤ c.length ∧ c.length ≤ 50000 := by
  obtain ⟨hk, hl, x, hx, rfl⟩ := code_parts h
  obtain ⟨h1, h2⟩ := nms_all h64 hx
  have hb := bs_le10 (show l.length < 18446744073709551616 by omega)
  have hp := bs_pos l.length
  have hz := zbs_len x h1 x.length (Nat.le_refl _)
  rw [List.take_length] at hz
  simp only [List.length_cons, List.length_append]
  omega
theorem own_empty (w : World) : (w.alloc (.cells #[] 5)).ownsRow w.heap.size 5 1 (.slice (some ⟨w.heap.size, 0, none⟩) 0 0) 0 [] :=
  ⟨rfl, .inr ⟨w.heap.size, 0, #[], rfl, Nat.le_refl _, World.alloc_heap_new w _, Nat.le_refl _, Nat.zero_le _, rfl, rfl⟩⟩

theorem own_max {w : World} {base n : Nat} {a : Option Addr} {m c : Nat} {e : TypeId} {xs : List Value} (h : w.ownsRow base e 1 (.slice a m c) n xs) : c ≤ maxLen := by
  rcases h with ⟨_, ⟨h, _⟩ | ⟨_, _, _, hv, _, _, _, h1, _⟩⟩
  · cases h; exact Nat.zero_le _
  · cases hv; exact h1
set_option maxRecDepth 100000 in
set_option maxHeartbeats 6400000 in
theorem codecBack_walk {w : World} (a : Option Addr) (len cap : Nat) (ms : List Int) (hv : IsI .i64 w a len cap ms) (hwf : ∀ n ∈ ms, (Lit.int .i64 n).wf = true) (a' : Option Addr) (len' cap' : Nat) (bh : List Int) (hv' : IsI .u8 w a' len' cap' bh) (_ : ∀ n ∈ bh, (Lit.int .u8 n).wf = true) (hF : Fw w) :
    Calls Tryd.prog 4 #[.slice a len cap, .slice a' len' cap'] w fun e w' => e = .returned (.bool true) ∧ Below w.heap.size w w' := by
  obtain ⟨i0, hi, hz0, hz1, hz2⟩ := info_parts Tryd.info5
  have HW : Hid (Calls Tryd.prog 8 #[] w fun e w' => e = .returned (.bool true) ∧ Below w.heap.size w w') := awake_any w hF
  have HV : Hid (IsI .i64 w a len cap ms ∧ All64 ms ∧ Fw w ∧ IsI .u8 w a' len' cap' bh) := ⟨hv, all64_of hwf, hF, hv'⟩
  have HA : Hid (∀ (k : Int) w', Below w.heap.size w w' → Calls Tryd.prog 9 #[.int .i64 k, .slice a len cap] w' (AsIs k ms w')) := fun k w' hb => as_any k a len cap ms w' hv.hl hv.hc hv.hm (hv.rd.below hb) (all64_of hwf) (hF.below hb)
  clear hv hwf hF hv'
  go_enter Tryd.func4, Tryd.ntmps4
  go_wp2_with fail
  refine Calls.mono HW.out ?_
  rintro e w1 ⟨rfl, hb1⟩
  by_cases hlen : len ≤ 4096
  rotate_left
  · have h' : (4096 : Int) < (len : Int) := by omega
    go_wp2_with fail
    go_ret
    exact ⟨rfl, hb1⟩
  have h' : ¬ (4096 : Int) < (len : Int) := by omega
  by_cases hlen' : len' ≤ 100
  rotate_left
  · have h'' : (100 : Int) < (len' : Int) := by omega
    go_wp2_with fail
    go_ret
    exact ⟨rfl, hb1⟩
  have h'' : ¬ (100 : Int) < (len' : Int) := by omega
  go_wp2_with fail
  go_loopw [6] (fun i wr => ∃ k : Nat, i = .int .i64 (k : Int) ∧ k ≤ 4 ∧ Below w.heap.size w wr) (fun i _ => 4 - (RowKit.intOf i).toNat)
  case atStart => exact ⟨0, rfl, by decide, hb1⟩
  case round =>
    obtain ⟨k, rfl, hk, hbr⟩ := hrel
    by_cases hkl : k < 4
    · have hkl' : (k : Int) ≤ 3 := by omega
      go_wp2_with fail
      refine (HA.out (k : Int) wr hbr).mono ?_
      rintro e w3 ⟨⟨c, g, cp, hc, rfl, ho⟩ | ⟨hc, rfl⟩, hb3⟩
      · have hbw3 : Below w.heap.size w w3 := hbr.trans (hb3.mono hbr.size)
        have hck : code k ms = some c := by rw [← codeI_nat]; exact hc
        obtain ⟨hc2, hc5⟩ := code_len HV.out.2.1 hck
        have hcap3 := own_cap ho
        have hcmax : cp ≤ maxLen := by
          rcases ho with ⟨_, ⟨h, _⟩ | ⟨_, _, _, hv, _, _, _, h1, _⟩⟩
          · cases h
          · cases hv; exact h1
        have HO : Hid (Rd .u8 w3 (some ⟨g, 0, none⟩) c ∧ code k ms = some c ∧ cp ≤ maxLen) := ⟨own_rd ho, hck, hcmax⟩
        obtain ⟨nb, hnb⟩ : ∃ x : Nat, Hid (x = c.length) := ⟨_, rfl⟩
        rw [← hnb.out] at hc2 hc5 hcap3 ⊢
        clear ho hc hck hb3 hcmax
        obtain ⟨m, rfl⟩ : ∃ m, nb = m + 1 := ⟨nb - 1, by omega⟩
        have hcm : ((m + 1 : Nat) : Int) - 1 = (m : Int) := by omega
        have hcm1 : ((m + 1 : Nat) : Int) = (m : Int) + 1 := by omega
        have hbe : Below w3.heap.size w3 (w3.alloc (.cells #[] 5)) := (Below.refl _ _).alloc (Nat.le_refl _) _
        go_wp2_with (first
          | (at_builtin
             refine wpList_append_own _ rfl (.tmp 39) (.tmp 40) 24 rfl w3.heap.size 5 i0 (.int .u8 0) 1 1 Tryd.underlying24 hi hz0 hz1 hz2 rfl (by decide) _ 0 [] rfl (own_empty w3) ⟨g, 0, none⟩ (m + 1) cp (c.map (Value.int .u8)) rfl (by rw [List.length_map, hnb.out, Nat.mul_one]) (rd_any (HO.out.1.below hbe) _ rfl) (ints_oneCell _ _) (by unfold maxLen; omega) (by omega) (by simp) ?_
             intro v4 w4 p1 p2 _)
          | (at_builtin
             have hb34 : Below w3.heap.size w3 w4 := hbe.grown p2 (by simp) (fun q e => ((own_empty w3).lt q e).1)
             have hbw4 : Below w.heap.size w w4 := hbw3.trans (hb34.mono hbw3.size)
             refine wpList_append_any _ rfl (.tmp 41) (.tmp 42) 24 rfl w3.heap.size 5 i0 (.int .u8 0) 1 Tryd.underlying24 hi hz0 hz1 hz2 rfl v4 (0 + (m + 1)) _ rfl p1 a' len' cap' (bh.map (Value.int .u8)) rfl (by simp [HV.out.2.2.2.hl]) (fun e => ⟨HV.out.2.2.2.nil e, by have := HV.out.2.2.2.hc; have := HV.out.2.2.2.nil e; omega⟩) (rd_any (HV.out.2.2.2.rd.below hbw4)) (ints_oneCell _ _) (by unfold maxLen; omega) (by omega) hb34.size ?_
             intro v5 w5 q1 q2)
          | fail)
        have hb35 : Below w3.heap.size w3 w5 := hb34.grown q2 hb34.size (fun q e => (p1.lt q e).1)
        have hbw5 : Below w.heap.size w w5 := hbw3.trans (hb35.mono hbw3.size)
        have q3 : w5.ownsRow w3.heap.size 5 1 v5 (0 + (m + 1) + len') ((c ++ bh).map (Value.int .u8)) := by
          have e : [] ++ c.map (Value.int .u8) ++ bh.map (Value.int .u8) = (c ++ bh).map (Value.int .u8) := by simp
          rw [← e]; exact q1
        obtain ⟨a5, c5, rfl, hr5⟩ := own_form q3
        have hc5' := own_cap q3
        have hm5 := own_max q3
        have ht5 : 0 + (m + 1) + len' = (c ++ bh).length := by rw [List.length_append, ← hnb.out, HV.out.2.2.2.hl]; omega
        refine (back_ok k ms c bh HV.out.2.1 HO.out.2.1 (by rw [HV.out.2.2.2.hl]; omega) a5 (0 + (m + 1) + len') c5 w5 hr5 ht5 hc5' hm5 (HV.out.2.2.1.below hbw5)).mono ?_
        rintro e w6 ⟨h6, h6', rfl, hr6, ho6, hb6⟩
        rw [HV.out.1.hl] at hr6
        rw [HV.out.2.2.2.hl] at ho6
        rw [HV.out.1.hl, HV.out.2.2.2.hl]
        have hb36 : Below w3.heap.size w3 w6 := hb35.trans (hb6.mono hb35.size)
        have hbw6 : Below w.heap.size w w6 := hbw3.trans (hb36.mono hbw3.size)
        have R6 : Hid (Rd .i64 w6 (some ⟨h6, 0, none⟩) ms ∧ Rd .u8 w6 (some ⟨h6', 0, none⟩) bh) := ⟨.inr ⟨h6, 0, rfl, hr6.lt, fun i hi => by rw [Nat.zero_add]; exact hr6.cell (by rw [← HV.out.1.hl]; exact hi)⟩, own_rd ho6⟩
        clear hr6 ho6 hb6 q1 q2 q3 p1 p2 hr5 hc5' hm5 ht5 hbe hb34 hbw4
        go_wp2_with fail
        refine (back_cut k ms c HV.out.2.1 HO.out.2.1 g m cp w6 (HO.out.1.below hb36) hnb.out (by rw [← hnb.out]; exact hcap3) HO.out.2.2 (HV.out.2.2.1.below hbw6)).mono ?_
        rintro e w7 ⟨rfl, hb7⟩
        have hbw7 : Below w.heap.size w w7 := hbw6.trans (hb7.mono hbw6.size)
        go_wp2_with fail
        refine (same_any (some ⟨h6, 0, none⟩) a len len cap ms w7 HV.out.1.hl (by omega) (R6.out.1.below hb7) (HV.out.1.rd.below hbw7)).mono ?_
        rintro e w8 ⟨rfl, hb8⟩
        have hb68 : Below w6.heap.size w6 w8 := hb7.trans (hb8.mono hb7.size)
        have hbw8 : Below w.heap.size w w8 := hbw7.trans (hb8.mono hbw7.size)
        have hcv1 := conv_rd w8 (some ⟨h6', 0, none⟩) len' len' bh HV.out.2.2.2.hl (R6.out.2.below hb68)
        have hcv2 := conv_rd w8 a' cap' len' bh HV.out.2.2.2.hl (HV.out.2.2.2.rd.below hbw8)
        obtain ⟨s, hs⟩ : ∃ s, Hid (s = strOfNums bh) := ⟨_, rfl⟩
        rw [← hs.out] at hcv1 hcv2
        go_wp2_with fail
        go_roundw
        case rel => exact ⟨k + 1, by go_num, by omega, hbw8⟩
        case measure => simp [RowKit.intOf]; omega
      · have hbw3 : Below w.heap.size w w3 := hbr.trans (hb3.mono hbr.size)
        go_wp2_with fail
        go_roundw
        case rel => exact ⟨k + 1, by go_num, by omega, hbw3⟩
        case measure => simp [RowKit.intOf]; omega
    · have hkl' : ¬ (k : Int) ≤ 3 := by omega
      go_wp2_with fail
      go_ret
      exact ⟨rfl, hbr⟩

set_option maxRecDepth 100000 in
theorem codecBack_lifted (os : Os) (started : os.Started) (H : Type) (enc : TypeId × Value → H) :
    ReturnsInHanded {} Tryd.checked os 4 .any (fun w args => (Rows.codecBackSpec.pre enc Tryd.prog Tryd.f4 [] false w args ∧ laidMetH Tryd.prog Rows.codecBackRow.laid w) ∧ sizedMet enc Tryd.prog Tryd.f4 (OpenSpec.ofChange Rows.codecBackSpec) false w args)
      (Rows.codecBackSpec.post enc Tryd.prog Tryd.f4 false true false false) := by
  refine returns_and_shaped (C := Tryd.checked) (X := fun w _ => laidMetH Tryd.prog Rows.codecBackRow.laid w) (fun _ _ _ hh h => h.of_heap hh) own started (by kernel_rfl) Tryd.func4
    (ChangeSpec.witness_shaped (enc := enc) (C := Tryd.checked) (os := os) (X := fun w _ => laidMetH Tryd.prog Rows.codecBackRow.laid w) false (World.laidAll Tryd.prog os Rows.codecBackRow.laid) #[.slice none 0 0, .slice none 0 0] 8 (World.laidAll_os _ _ _)
      (World.shaped_of_ZipB (by kernel_rfl) (by kernel_rfl)) (by kernel_rfl) (by kernel_rfl) (by kernel_rfl)
      (by rw [MakeChecks.laidMetH_plain _ _ _ (by kernel_rfl)]; exact laidMet_laidAll _ (by kernel_rfl) (by kernel_rfl))) ?_
  intro W base args ds gs before hval0 hW hL hsh
  have hval : ∀ (j : Nat) t v, Tryd.f4.params[j]? = some t → args[j]? = some v → Value.okWide Tryd.prog W .any base t v := hval0
  have hW' := hW
  obtain ⟨p, q, hA0, hV, rfl, _, _⟩ := hW
  have hA : DataW.TrodAll enc Tryd.prog W 0 (fun _ => true) true Tryd.f4.params.toList args.toList ds p := hA0
  rw [Tryd.params4] at hA hval
  obtain ⟨v0, vs0, d0, ds0, p0, q0, hargs, rfl, rfl, h0, r0⟩ := trodAll_cons hA
  obtain ⟨v1, vs1, d1, ds1, p1, q1, rfl, rfl, rfl, h1, r1⟩ := trodAll_cons r0
  obtain ⟨rfl, rfl, rfl⟩ := trodAll_nil r1
  obtain rfl : args = #[v0, v1] := by cases args; simp_all
  obtain ⟨rfl, rfl⟩ := trodVars_none hV
  obtain ⟨a0, len0, cap0, rfl⟩ := okWide_slice Tryd.underlying22 (hval 0 22 v0 rfl rfl)
  have k0 := h0
  have lt0 : ∀ x ∈ p0, x.block < W.heap.size := by obtain ⟨m, hm⟩ := k0; exact DataW.trod_lt m _ _ _ hm
  obtain ⟨vl0, w0, wf0⟩ : ∃ ms, IsI .i64 W a0 len0 cap0 ms ∧ ∀ n ∈ ms, (Lit.int .i64 n).wf = true := by obtain ⟨fuel, hf⟩ := h0; exact isI_22 hf
  obtain ⟨a1, len1, cap1, rfl⟩ := okWide_slice Tryd.underlying24 (hval 1 24 v1 rfl rfl)
  have k1 := h1
  have lt1 : ∀ x ∈ p1, x.block < W.heap.size := by obtain ⟨m, hm⟩ := k1; exact DataW.trod_lt m _ _ _ hm
  obtain ⟨vl1, w1, wf1⟩ : ∃ ms, IsI .u8 W a1 len1 cap1 ms ∧ ∀ n ∈ ms, (Lit.int .u8 n).wf = true := by obtain ⟨fuel, hf⟩ := h1; exact isI_24 hf
  clear hA0 hval0
  rw [MakeChecks.laidMetH_plain _ _ _ (by kernel_rfl)] at hL
  refine (codecBack_walk (w := W) a0 len0 cap0 vl0 w0 wf0 a1 len1 cap1 vl1 w1 wf1 (fw_of (laidMet.reads hL (by simp [Rows.codecBackRow])))).mono fun e W' ⟨he, hb⟩ => ?_
  subst he
  exact ⟨_, rfl, _, _, _, [], _, [], hW', trodAll_mk1 (shut_bool Tryd.underlying4 _), (trodAll_cons_mk (Below.trod laidOut (by kernel_rfl) (of_decide_eq_true (by kernel_rfl)) k0 hb lt0) (trodAll_cons_mk (Below.trod laidOut (by kernel_rfl) (of_decide_eq_true (by kernel_rfl)) k1 hb lt1) trodAll_mk0)), rfl, hb.frame _, fun h => by cases h⟩

theorem codecBack_row : Rows.CodecBackSaid :=
  OpenClaim.holds_of_wide 4 Tryd.f4 rfl rfl rfl rfl rfl rfl rfl ⟨rfl, rfl, rfl, rfl, rfl⟩ rfl rfl rfl rfl rfl (by kernel_rfl) Tryd.func4 (by kernel_rfl)
    (of_decide_eq_true (by kernel_rfl)) (by unfold Func.isWrapper; first | (rw [if_pos (by decide +kernel)]; kernel_rfl) | (rw [if_neg (by decide +kernel)]; exact ⟨rfl, rfl⟩))
    (fun os started H enc _ => codecBack_lifted os started H enc)

theorem codecBack_holds : Rows.CodecBackCardSaid :=
  Claim7.holds_tied_plain_at .later [] [.data] true (true, "268070590a5cdbedef29cc263c966a7d9eccac97f001ce0c2ffcf9837f493a1d") false codecBack_row (fun _ h => by cases h) (by kernel_rfl) (fun _ h => by cases h) codecBack_row_tie rfl ⟨rfl, rfl⟩ (by kernel_rfl) rfl
    (fun f fn hf hfn => by
      obtain rfl : f = 4 := Option.some.inj ((show Tryd.prog.funcNamed Rows.codecBackRow.func = some 4 by kernel_rfl).symm.trans hf) |>.symm
      obtain rfl : fn = Tryd.f4 := (Option.some.inj (Tryd.func4.symm.trans hfn)).symm
      exact ⟨by kernel_rfl, fun j t ht => by
        rw [Tryd.params4] at ht
        have hm : t ∈ [22, 24] := by simpa using Array.mem_of_getElem? ht
        have hall : ([22, 24].all fun u => !Tryd.prog.wantsStandIn u) = true := by kernel_rfl
        exact (show Tryd.prog.wantsStandIn t = false by simpa using List.all_eq_true.1 hall t hm)⟩)
    (by kernel_rfl)
#print axioms codecBack_holds
end Go.Proofs.YtbgipenonngccaaDoor
