/- ItempartParts: what is from an item on, and what is ahead of it, are all; beginnings split what there is: true for every input. Conditions: the table of half bytes holds what the program's text lays. -/
import Derived.Test.YtocjmbhfpofoeaaDoorCk
import Derived.Deep.RegionHeld3
namespace Go.Proofs.YtocjmbhfpofoeaaDoor
open Go.ChangeShapes Go.WideShapes Go.ChangeAt Go.RowKit Go.Lib

theorem bt_few {ls : List (List Int)} (h : chkF ls = 0) (hl : ls.length ≤ 100) (hwf : WfR ls) : bt ls = (0, fil ls) := by
  unfold bt
  rw [if_neg (by rw [h]; simp), if_neg]
  have hc := ch_len ls
  have h1 := ib_le (hs_wf (Bs := ch ls) (n := 0) (ch_chk_mem h) (ch_wf hwf) (by omega))
  rw [hs_len] at h1
  have h2 := bs_le10 (u := (hs 0 (ch ls)).length) (by rw [hs_len]; omega)
  unfold ix
  rw [List.length_append]
  omega

set_option linter.unusedSimpArgs false in
set_option maxRecDepth 100000 in
set_option maxHeartbeats 8000000 in
theorem itempartParts_walk {w : World} (a : Option Addr) (len cap : Nat) (ls : List (List Int)) (hR : IsR w a len cap ls) (hwf : WfR ls) (ax : Option Addr) (nx cx : Nat) (x : List Int) (hX : IsI .u8 w ax nx cx x) (hbx : Bytes x) (hH : Ha w) :
    Calls Tryd.prog 7 #[.slice a len cap, .slice ax nx cx] w fun e w' => e = .returned (.bool true) ∧ Below w.heap.size w w' := by
  have HI : Hid (IsR w a len cap ls ∧ WfR ls ∧ Ha w) := ⟨hR, hwf, hH⟩
  have HX : Hid (IsI .u8 w ax nx cx x ∧ Bytes x) := ⟨hX, hbx⟩
  have hcap := hR.hc
  have hcm := hR.hm
  unfold maxLen at hcm
  clear hR hwf hH hX hbx
  go_enter Tryd.func7, Tryd.ntmps7
  go_wp2_with fail
  refine (awake_any w HI.out.2.2).mono ?_
  rintro e w1 ⟨rfl, hb1⟩
  have HB1 : Hid (Below w.heap.size w w1) := hb1
  clear hb1
  have HFw : Hid _ := few_any a len cap ls w1 (HI.out.1.below HB1.out)
  obtain ⟨fw, hfw⟩ : ∃ b, Hid (b = fewb ls) := ⟨_, rfl⟩
  rw [← hfw.out] at HFw
  go_wp2_with fail
  refine Calls.mono HFw.out ?_
  rintro e w2 ⟨rfl, hb2⟩
  have HB2 : Hid (Below w.heap.size w w2) := HB1.out.trans (hb2.mono HB1.out.size)
  clear hb2 HFw
  cases fw with
  | false =>
    go_wp2_with fail
    go_ret
    exact ⟨rfl, HB2.out⟩
  | true =>
    have hlen : len ≤ 100 := by
      have := (fewb_iff.1 hfw.out.symm).1
      have := HI.out.1.hl
      omega
    by_cases h3 : 300 < nx
    · have h3' : (300 : Int) < (nx : Int) := by omega
      go_wp2_with fail
      go_ret
      exact ⟨rfl, HB2.out⟩
    · have h3' : ¬ (300 : Int) < (nx : Int) := by omega
      have HCk : Hid _ := check_doc a len cap ls w2 (HI.out.1.below HB2.out) HI.out.2.1
      obtain ⟨kc, hkc⟩ : ∃ k, Hid (k = chkF ls) := ⟨_, rfl⟩
      rw [← hkc.out] at HCk
      go_wp2_with fail
      refine Calls.mono HCk.out ?_
      rintro e w3 ⟨rfl, hb3⟩
      have HB3 : Hid (Below w.heap.size w w3) := HB2.out.trans (hb3.mono HB2.out.size)
      clear hb3 HCk
      by_cases hk0 : kc = 0
      · subst hk0
        have hc0 := hkc.out.symm
        have hz3 := chkF_zero hc0
        have HRz : Hid (Rz ls ∧ 0 < ls.length ∧ (∀ y ∈ ls, y ≠ [])) := ⟨good_rz hz3.2.2, List.length_pos_iff.2 hz3.2.1, fun y hy => by
          obtain ⟨i, hi, rfl⟩ := List.getElem_of_mem hy
          have := (good_len hz3.2.2 hi).1
          simp only [List.getD, List.getElem?_eq_getElem hi, Option.getD_some] at this
          exact List.length_pos_iff.1 this⟩
        have hbt := bt_few hc0 (by have := HI.out.1.hl; omega) HI.out.2.1
        have hfl := fil_le hbt
        have HBu : Hid _ := build_any a len cap ls w3 (HI.out.1.below HB3.out) HI.out.2.1 (HI.out.2.2.below HB3.out) (by omega)
        rw [hbt] at HBu
        have HZ : Hid (bt ls = (0, fil ls) ∧ Bytes (fil ls)) := ⟨hbt, fil_bytes hc0 HI.out.2.1⟩
        clear hz3 hbt hc0
        go_wp2_with fail
        refine Calls.mono HBu.out ?_
        rintro e w4 ⟨hb4, v, rfl, ho⟩
        obtain ⟨ab, cb, rfl, hI4⟩ := own_isI ho
        dsimp only at hI4 ⊢
        obtain ⟨nb, hnb⟩ : ∃ n, n = (fil ls).length := ⟨_, rfl⟩
        rw [← hnb] at hI4 hfl ⊢
        have HB4 : Hid (Below w.heap.size w w4 ∧ IsI .u8 w4 ab nb cb (fil ls)) := ⟨HB3.out.trans (hb4.mono HB3.out.size), hI4⟩
        clear hb4 hI4 ho HBu hnb
        have HOp : Hid _ := open_any ab nb cb (fil ls) w4 HB4.out.2 HZ.out.2 (HI.out.2.2.below HB4.out.1) (by omega)
        go_wp2_with fail
        refine Calls.mono HOp.out ?_
        rintro e w5 ⟨hb5, (⟨L, q, hL, rfl, hP⟩ | ⟨hno, _⟩)⟩
        case inr => exact absurd HZ.out.1 (hno ls)
        obtain rfl := bt_inj hL HZ.out.1
        have H5 : Hid (PtI w5 q L ∧ Below w.heap.size w w5) := ⟨hP, HB4.out.1.trans (hb5.mono HB4.out.1.size)⟩
        clear hb5 hL hP HOp
        have HFr : Hid _ := from_any q ax nx cx x L 1073741824 w5 H5.out.1 (HX.out.1.below H5.out.2) HX.out.2
        obtain ⟨k1, k2, k3⟩ := sk_count HRz.out.1 x
        have hLl := HI.out.1.hl
        have hall : (L.filter (nl x)).take (1073741824 : Int).toNat = L.filter (nl x) := by
          rw [List.take_of_length_le]
          have : (1073741824 : Int).toNat = 1073741824 := rfl
          omega
        rw [hall] at HFr
        obtain ⟨R, hR⟩ : ∃ R, R = L.filter (nl x) := ⟨_, rfl⟩
        rw [← hR] at HFr k1 k2 k3
        have HR : Hid (R = L.filter (nl x)) := hR
        clear hall hR
        go_wp2_with fail
        refine Calls.mono HFr.out ?_
        rintro e w6 ⟨hb6, a6, n6, c6, rfl, hR6, hW6⟩
        have hn6 := hR6.hl
        have hb56 := H5.out.2.trans (hb6.mono H5.out.2.size)
        have H6 : Hid (IsR w6 a6 n6 c6 R ∧ WfR R ∧ PtI w6 q L ∧ Below w.heap.size w w6) := ⟨hR6, hW6, H5.out.1.below hb6, hb56⟩
        clear hb6 hb56 hR6 hW6 HFr
        obtain ⟨k, hk⟩ : ∃ k, k = len - n6 := ⟨_, rfl⟩
        have hkl : k ≤ len := by omega
        have hsub : (len : Int) - (n6 : Int) = (k : Int) := by omega
        have hwk : IntKind.i64.wrap (k : Int) = (k : Int) := by rw [IntKind.wrap_i64]; omega
        have hkn : ¬ (k : Int) < 0 := by omega
        have hk0 : (0 : Int) ≤ (k : Int) := by omega
        have hkc : (k : Int) ≤ (len : Int) := by omega
        have hkc2 : (k : Int) ≤ (cap : Int) := by omega
        have ek : L.length - R.length = k := by omega
        rw [ek] at k1 k2
        have Hk : Hid (k = len - n6) := hk
        clear hk ek
        go_wp2_with fail
        have hpL : 0 < L.length := HRz.out.2.1
        obtain ⟨g, off, rfl, hg, hcl⟩ : ∃ g off, a = some ⟨g, off, none⟩ ∧ g < w.heap.size ∧ ∀ i, i < L.length → ∃ ai ni ci, w.cell? ⟨g, off + i, none⟩ = some (.slice ai ni ci) ∧ IsI .u8 w ai ni ci (L.getD i []) := by
          rcases HI.out.1.rd with e | ⟨b, o, e1, e2, e3⟩
          · rw [e] at hpL; simp at hpL
          · exact ⟨b, o, e1, e2, e3⟩
        have hkk := Hk.out
        obtain ⟨md, hmd⟩ : ∃ m, m = len - k := ⟨_, rfl⟩
        obtain ⟨mc, hmc⟩ : ∃ m, m = cap - k := ⟨_, rfl⟩
        obtain ⟨D, hD⟩ : ∃ D : Option Addr, D = if cap = k then some ⟨g, off, none⟩ else some (if k = 0 then ⟨g, off, none⟩ else ⟨g, off + k, none⟩) := ⟨_, rfl⟩
        have HD : Hid (D = (if cap = k then some ⟨g, off, none⟩ else some (if k = 0 then ⟨g, off, none⟩ else ⟨g, off + k, none⟩)) ∧ md = len - k ∧ mc = cap - k) := ⟨hD, hmd, hmc⟩
        have hDr : IsR w D md mc R := by
          refine ⟨by omega, by omega, by unfold maxLen; omega, ?_, fun h => by rw [hD] at h; split at h <;> cases h⟩
          by_cases h0 : md = 0
          · exact .inl (List.eq_nil_of_length_eq_zero (by omega))
          · have eD : D = some ⟨g, off + k, none⟩ := by
              rw [hD, if_neg (by omega)]
              by_cases hk' : k = 0
              · subst hk'; simp
              · rw [if_neg hk']
            refine .inr ⟨g, off + k, eD, hg, fun i hi => ?_⟩
            have := hcl (k + i) (by omega)
            rw [← k1, getD_dropR, Nat.add_assoc]
            exact this
        have hDl : R.length = md := by omega
        have HSm : Hid (∀ W, Below w6.heap.size w6 W → Calls Tryd.prog 15 #[.slice D md mc, .slice a6 n6 c6] W fun e w' => e = .returned (.bool true) ∧ Below W.heap.size W w') := fun W hW => by
          have := same_any D md mc R a6 n6 c6 R W (hDr.below (H6.out.2.2.2.trans (hW.mono H6.out.2.2.2.size))) H6.out.2.1 (H6.out.1.below hW) H6.out.2.1
          rwa [decide_eq_true rfl] at this
        clear hDr hDl hD hmd hmc
        obtain ⟨kb, hkb0⟩ : ∃ b, b = decide (0 < k) := ⟨_, rfl⟩
        have hkp : kb = true → 0 < k := fun h => of_decide_eq_true (by rw [← hkb0]; exact h)
        have HKb : Hid (decide (0 < k) = kb) := hkb0.symm
        obtain ⟨j, hj⟩ : ∃ j, j = k - 1 := ⟨_, rfl⟩
        have hj1 : kb = true → (k : Int) - 1 = (j : Int) := fun h => by have := hkp h; omega
        have hwj : IntKind.i64.wrap (j : Int) = (j : Int) := by rw [IntKind.wrap_i64]; omega
        have hj0 : (0 : Int) ≤ (j : Int) := by omega
        have hjl : kb = true → (j : Int) < (len : Int) := fun h => by have := hkp h; omega
        obtain ⟨af, nf, cf, c1, hF⟩ := hcl j (by omega)
        obtain ⟨M, hM⟩ : ∃ M, M = strOfNums (L.getD j []) := ⟨_, rfl⟩
        obtain ⟨E, hE⟩ : ∃ E, E = strOfNums x := ⟨_, rfl⟩
        have hsl : kb = true → Op.bytesLess M.toList E.toList = true := fun h => by
          have hlt := k2 j (by have := hkp h; omega)
          have := str_less (HI.out.2.1 _ (getD_memR (show j < L.length by omega))) HX.out.2
          rw [hM, hE, this]; exact hlt
        have HV : Hid (∀ W, Below w6.heap.size w6 W → kb = true → W.cell? ⟨g, off + j, none⟩ = some (.slice af nf cf) ∧ Sem.run Tryd.prog (convert 23 9 (.slice af nf cf)) W = .ok (.string M) W ∧ Sem.run Tryd.prog (convert 23 9 (.slice ax nx cx)) W = .ok (.string E) W) := fun W hW _ => by
          have hb := H6.out.2.2.2.trans (hW.mono H6.out.2.2.2.size)
          rw [hM, hE]
          exact ⟨(hb.cell (p := ⟨g, off + j, none⟩) hg).trans c1, conv_rd W af cf nf _ hF.hl (hF.below hb).rd, conv_rd W ax cx nx _ HX.out.1.hl (HX.out.1.below hb).rd⟩
        have HK : Hid (len = L.length ∧ n6 = R.length) := ⟨hLl.symm, hn6.symm⟩
        clear hF hcl c1 k1 k2 hkk hM hj hkb0
        refine wp_region_M (by kernel_rfl) (by kernel_rfl) (fun _ W => Below w6.heap.size w6 W) (TL [Ceq (.int .i64 (k : Int)), Ceq (.bool false), Ceq (.bool false), Ceq (.slice (some ⟨g, off, none⟩) len cap), Ceq (.int .i64 (k : Int)), Ceq (.slice D md mc), Ceq (.slice a6 n6 c6), Ceq (.bool true), Ceq (.bool false), Ceq (.bool false), Ceq (.bool false), Ceq (.int .i64 (k : Int)), Ceq (.bool kb), Ceq (.bool kb), fun v _ => kb = true → v = .slice (some ⟨g, off, none⟩) len cap, fun v _ => kb = true → v = .int .i64 (k : Int), fun v _ => kb = true → v = .int .i64 (j : Int), fun v _ => kb = true → v = .pointer (some ⟨g, off + j, none⟩), fun v _ => kb = true → v = .slice af nf cf, fun v _ => kb = true → v = .string M, fun v _ => kb = true → v = .slice ax nx cx, fun v _ => kb = true → v = .string E, fun v _ => kb = true → v = .bool false, Ceq (.bool false), Ceq (.bool false)]) (Below.refl _ _).drew (allL_cons ?_ (allL_cons ?_ (allL_cons ?_ (allL_cons ?_ (allL_cons ?_ (allL_cons ?_ (allL_cons ?_ (allL_cons ?_ (allL_cons ?_ (allL_cons ?_ (allL_cons ?_ (allL_cons ?_ (allL_cons ?_ (allL_cons ?_ (allL_cons ?_ (allL_cons ?_ (allL_cons ?_ (allL_cons ?_ (allL_cons ?_ (allL_cons ?_ (allL_cons ?_ (allL_cons ?_ (allL_cons ?_ (allL_cons ?_ (allL_cons ?_ allL_nil))))))))))))))))))))))))) ?_
        · intro Lq a wx hS h
          rw [if_pos (wanted_none rfl)]
          have s12 : a.eval (.tmp 12) = .int .i64 (k : Int) := (h.fix 12 (by kernel_rfl)).trans rfl
          have t12 := (ev_tmp a 12).symm.trans s12
          refine does_val (v := .int .i64 (k : Int)) (w' := wx) ?_ ⟨rfl, hS, fun _ _ _ h => h⟩
          simp [execOp, go_sem, t12]
        · intro Lq a wx hS h
          rw [if_pos (wanted_none rfl)]
          have s58 : a.eval (.tmp 58) = .int .i64 (k : Int) := h.slot 0 0 58 rfl rfl
          have t58 := (ev_tmp a 58).symm.trans s58
          refine does_val (v := .bool false) (w' := wx) ?_ ⟨rfl, hS, fun _ _ _ h => h⟩
          simp [execOp, go_sem, t58, hkn]
        · intro Lq a wx hS h
          rw [if_pos (wanted_none rfl)]
          have s59 : a.eval (.tmp 59) = .bool false := h.slot 0 1 59 rfl rfl
          have t59 := (ev_tmp a 59).symm.trans s59
          refine does_val (v := .bool false) (w' := wx) ?_ ⟨rfl, hS, fun _ _ _ h => h⟩
          simp [execOp, go_sem, t59]
        · intro Lq a wx hS h
          have g60 : a.eval (.tmp 60) = .bool false := h.slot 0 2 60 rfl rfl
          rw [if_pos (wanted_of (g := 2) (d := 60) (b := false) rfl rfl g60)]
          have s0 : a.eval (.tmp 0) = .slice (some ⟨g, off, none⟩) len cap := (h.fix 0 (by kernel_rfl)).trans rfl
          have t0 := (ev_tmp a 0).symm.trans s0
          refine does_val (v := .slice (some ⟨g, off, none⟩) len cap) (w' := wx) ?_ ⟨rfl, hS, fun _ _ _ h => h⟩
          simp [execOp, go_sem, t0]
        · intro Lq a wx hS h
          have g60 : a.eval (.tmp 60) = .bool false := h.slot 0 2 60 rfl rfl
          rw [if_pos (wanted_of (g := 2) (d := 60) (b := false) rfl rfl g60)]
          have s12 : a.eval (.tmp 12) = .int .i64 (k : Int) := (h.fix 12 (by kernel_rfl)).trans rfl
          have t12 := (ev_tmp a 12).symm.trans s12
          refine does_val (v := .int .i64 (k : Int)) (w' := wx) ?_ ⟨rfl, hS, fun _ _ _ h => h⟩
          simp [execOp, go_sem, t12]
        · intro Lq a wx hS h
          have g60 : a.eval (.tmp 60) = .bool false := h.slot 2 2 60 rfl rfl
          rw [if_pos (wanted_of (g := 2) (d := 60) (b := false) rfl rfl g60)]
          have s61 : a.eval (.tmp 61) = .slice (some ⟨g, off, none⟩) len cap := h.slot 0 3 61 rfl rfl
          have t61 := (ev_tmp a 61).symm.trans s61
          have s62 : a.eval (.tmp 62) = .int .i64 (k : Int) := h.slot 1 4 62 rfl rfl
          have t62 := (ev_tmp a 62).symm.trans s62
          refine does_val (v := .slice D md mc) (w' := wx) ?_ ⟨rfl, hS, fun _ _ _ h => h⟩
          simp [execOp, go_sem, t61, t62, hk0, hkc, hkc2, Addr.add]
          exact ⟨HD.out.1.symm, HD.out.2.1.symm, HD.out.2.2.symm⟩
        · intro Lq a wx hS h
          have g60 : a.eval (.tmp 60) = .bool false := h.slot 0 2 60 rfl rfl
          rw [if_pos (wanted_of (g := 2) (d := 60) (b := false) rfl rfl g60)]
          have s11 : a.eval (.tmp 11) = .slice a6 n6 c6 := (h.fix 11 (by kernel_rfl)).trans rfl
          have t11 := (ev_tmp a 11).symm.trans s11
          refine does_val (v := .slice a6 n6 c6) (w' := wx) ?_ ⟨rfl, hS, fun _ _ _ h => h⟩
          simp [execOp, go_sem, t11]
        · intro Lq a wx hS h
          have g60 : a.eval (.tmp 60) = .bool false := h.slot 2 2 60 rfl rfl
          rw [if_pos (wanted_of (g := 2) (d := 60) (b := false) rfl rfl g60)]
          have s63 : a.eval (.tmp 63) = .slice D md mc := h.slot 0 5 63 rfl rfl
          have t63 := (ev_tmp a 63).symm.trans s63
          have s64 : a.eval (.tmp 64) = .slice a6 n6 c6 := h.slot 1 6 64 rfl rfl
          have t64 := (ev_tmp a 64).symm.trans s64
          refine does_call (f := 15) (args := #[.slice D md mc, .slice a6 n6 c6]) (w' := wx) (by simp [go_sem, t63, t64]) ?_
          refine Calls.mono (HSm.out wx hS) ?_
          rintro r' w' ⟨rfl, hb'⟩
          exact ⟨_, rfl, rfl, hS.trans (hb'.mono hS.size), fun j' u' hj' hT => tl_stab (w := wx) (w' := w') (List.forall_mem_cons.2 ⟨fun _ h => h, (List.forall_mem_cons.2 ⟨fun _ h => h, (List.forall_mem_cons.2 ⟨fun _ h => h, (List.forall_mem_cons.2 ⟨fun _ h => h, (List.forall_mem_cons.2 ⟨fun _ h => h, (List.forall_mem_cons.2 ⟨fun _ h => h, (List.forall_mem_cons.2 ⟨fun _ h => h, (List.forall_mem_cons.2 ⟨fun _ h => h, (List.forall_mem_cons.2 ⟨fun _ h => h, (List.forall_mem_cons.2 ⟨fun _ h => h, (List.forall_mem_cons.2 ⟨fun _ h => h, (List.forall_mem_cons.2 ⟨fun _ h => h, (List.forall_mem_cons.2 ⟨fun _ h => h, (List.forall_mem_cons.2 ⟨fun _ h => h, (List.forall_mem_cons.2 ⟨fun _ h => h, (List.forall_mem_cons.2 ⟨fun _ h => h, (List.forall_mem_cons.2 ⟨fun _ h => h, (List.forall_mem_cons.2 ⟨fun _ h => h, (List.forall_mem_cons.2 ⟨fun _ h => h, (List.forall_mem_cons.2 ⟨fun _ h => h, (List.forall_mem_cons.2 ⟨fun _ h => h, (List.forall_mem_cons.2 ⟨fun _ h => h, (List.forall_mem_cons.2 ⟨fun _ h => h, (List.forall_mem_cons.2 ⟨fun _ h => h, (List.forall_mem_cons.2 ⟨fun _ h => h, (fun _ h => by cases h)⟩)⟩)⟩)⟩)⟩)⟩)⟩)⟩)⟩)⟩)⟩)⟩)⟩)⟩)⟩)⟩)⟩)⟩)⟩)⟩)⟩)⟩)⟩)⟩)⟩) hT⟩
        · intro Lq a wx hS h
          have g60 : a.eval (.tmp 60) = .bool false := h.slot 1 2 60 rfl rfl
          rw [if_pos (wanted_of (g := 2) (d := 60) (b := false) rfl rfl g60)]
          have s65 : a.eval (.tmp 65) = .bool true := h.slot 0 7 65 rfl rfl
          have t65 := (ev_tmp a 65).symm.trans s65
          refine does_val (v := .bool false) (w' := wx) ?_ ⟨rfl, hS, fun _ _ _ h => h⟩
          simp [execOp, go_sem, t65]
        · intro Lq a wx hS h
          rw [if_pos (wanted_none rfl)]
          have s60 : a.eval (.tmp 60) = .bool false := h.slot 0 2 60 rfl rfl
          have t60 := (ev_tmp a 60).symm.trans s60
          have s66 : a.eval (.tmp 66) = .bool false := h.slot 1 8 66 rfl rfl
          have t66 := (ev_tmp a 66).symm.trans s66
          refine does_val (v := .bool false) (w' := wx) ?_ ⟨rfl, hS, fun _ _ _ h => h⟩
          simp [execOp, go_sem, t60, t66]
        · intro Lq a wx hS h
          rw [if_pos (wanted_none rfl)]
          have s67 : a.eval (.tmp 67) = .bool false := h.slot 0 9 67 rfl rfl
          have t67 := (ev_tmp a 67).symm.trans s67
          refine does_val (v := .bool false) (w' := wx) ?_ ⟨rfl, hS, fun _ _ _ h => h⟩
          simp [execOp, go_sem, t67]
        · intro Lq a wx hS h
          have g68 : a.eval (.tmp 68) = .bool false := h.slot 0 10 68 rfl rfl
          rw [if_pos (wanted_of (g := 10) (d := 68) (b := false) rfl rfl g68)]
          have s12 : a.eval (.tmp 12) = .int .i64 (k : Int) := (h.fix 12 (by kernel_rfl)).trans rfl
          have t12 := (ev_tmp a 12).symm.trans s12
          refine does_val (v := .int .i64 (k : Int)) (w' := wx) ?_ ⟨rfl, hS, fun _ _ _ h => h⟩
          simp [execOp, go_sem, t12]
        · intro Lq a wx hS h
          have g68 : a.eval (.tmp 68) = .bool false := h.slot 1 10 68 rfl rfl
          rw [if_pos (wanted_of (g := 10) (d := 68) (b := false) rfl rfl g68)]
          have s69 : a.eval (.tmp 69) = .int .i64 (k : Int) := h.slot 0 11 69 rfl rfl
          have t69 := (ev_tmp a 69).symm.trans s69
          refine does_val (v := .bool kb) (w' := wx) ?_ ⟨rfl, hS, fun _ _ _ h => h⟩
          simp [execOp, go_sem, t69]
          exact HKb.out
        · intro Lq a wx hS h
          have g68 : a.eval (.tmp 68) = .bool false := h.slot 1 10 68 rfl rfl
          rw [if_pos (wanted_of (g := 10) (d := 68) (b := false) rfl rfl g68)]
          have s70 : a.eval (.tmp 70) = .bool kb := h.slot 0 12 70 rfl rfl
          have t70 := (ev_tmp a 70).symm.trans s70
          refine does_val (v := .bool kb) (w' := wx) ?_ ⟨rfl, hS, fun _ _ _ h => h⟩
          simp [execOp, go_sem, t70]
        · intro Lq a wx hS h
          have s71 : a.eval (.tmp 71) = .bool kb := h.slot 0 13 71 rfl rfl
          by_cases hkb : kb = true
          · have s71b : a.eval (.tmp 71) = .bool true := s71.trans (by rw [hkb])
            rw [if_pos (wanted_of (g := 13) (d := 71) (b := true) rfl rfl s71b)]
            have s0 : a.eval (.tmp 0) = .slice (some ⟨g, off, none⟩) len cap := (h.fix 0 (by kernel_rfl)).trans rfl
            have t0 := (ev_tmp a 0).symm.trans s0
            refine does_val (v := .slice (some ⟨g, off, none⟩) len cap) (w' := wx) ?_ ⟨fun _ => rfl, hS, fun _ _ _ h => h⟩
            simp [execOp, go_sem, t0]
          · have s71b : a.eval (.tmp 71) = .bool (!true) := s71.trans (by cases kb with | true => exact absurd rfl hkb | false => rfl)
            rw [if_neg (wanted_not (g := 13) (d := 71) (b := true) rfl rfl s71b)]
            exact ⟨(fun h => absurd h hkb : kb = true → undef = .slice (some ⟨g, off, none⟩) len cap), hS⟩
        · intro Lq a wx hS h
          have s71 : a.eval (.tmp 71) = .bool kb := h.slot 0 13 71 rfl rfl
          by_cases hkb : kb = true
          · have s71b : a.eval (.tmp 71) = .bool true := s71.trans (by rw [hkb])
            rw [if_pos (wanted_of (g := 13) (d := 71) (b := true) rfl rfl s71b)]
            have s12 : a.eval (.tmp 12) = .int .i64 (k : Int) := (h.fix 12 (by kernel_rfl)).trans rfl
            have t12 := (ev_tmp a 12).symm.trans s12
            refine does_val (v := .int .i64 (k : Int)) (w' := wx) ?_ ⟨fun _ => rfl, hS, fun _ _ _ h => h⟩
            simp [execOp, go_sem, t12]
          · have s71b : a.eval (.tmp 71) = .bool (!true) := s71.trans (by cases kb with | true => exact absurd rfl hkb | false => rfl)
            rw [if_neg (wanted_not (g := 13) (d := 71) (b := true) rfl rfl s71b)]
            exact ⟨(fun h => absurd h hkb : kb = true → undef = .int .i64 (k : Int)), hS⟩
        · intro Lq a wx hS h
          have s71 : a.eval (.tmp 71) = .bool kb := h.slot 1 13 71 rfl rfl
          by_cases hkb : kb = true
          · have s71b : a.eval (.tmp 71) = .bool true := s71.trans (by rw [hkb])
            rw [if_pos (wanted_of (g := 13) (d := 71) (b := true) rfl rfl s71b)]
            have s73 : a.eval (.tmp 73) = .int .i64 (k : Int) := h.slot 0 15 73 rfl rfl hkb
            have t73 := (ev_tmp a 73).symm.trans s73
            refine does_val (v := .int .i64 (j : Int)) (w' := wx) ?_ ⟨fun _ => rfl, hS, fun _ _ _ h => h⟩
            simp [execOp, go_sem, t73, hj1 hkb, hwj]
          · have s71b : a.eval (.tmp 71) = .bool (!true) := s71.trans (by cases kb with | true => exact absurd rfl hkb | false => rfl)
            rw [if_neg (wanted_not (g := 13) (d := 71) (b := true) rfl rfl s71b)]
            exact ⟨(fun h => absurd h hkb : kb = true → undef = .int .i64 (j : Int)), hS⟩
        · intro Lq a wx hS h
          have s71 : a.eval (.tmp 71) = .bool kb := h.slot 2 13 71 rfl rfl
          by_cases hkb : kb = true
          · have s71b : a.eval (.tmp 71) = .bool true := s71.trans (by rw [hkb])
            rw [if_pos (wanted_of (g := 13) (d := 71) (b := true) rfl rfl s71b)]
            have s72 : a.eval (.tmp 72) = .slice (some ⟨g, off, none⟩) len cap := h.slot 0 14 72 rfl rfl hkb
            have t72 := (ev_tmp a 72).symm.trans s72
            have s74 : a.eval (.tmp 74) = .int .i64 (j : Int) := h.slot 1 16 74 rfl rfl hkb
            have t74 := (ev_tmp a 74).symm.trans s74
            refine does_val (v := .pointer (some ⟨g, off + j, none⟩)) (w' := wx) ?_ ⟨fun _ => rfl, hS, fun _ _ _ h => h⟩
            simp [execOp, go_sem, t72, t74, hj0, hjl hkb, Addr.add]
          · have s71b : a.eval (.tmp 71) = .bool (!true) := s71.trans (by cases kb with | true => exact absurd rfl hkb | false => rfl)
            rw [if_neg (wanted_not (g := 13) (d := 71) (b := true) rfl rfl s71b)]
            exact ⟨(fun h => absurd h hkb : kb = true → undef = .pointer (some ⟨g, off + j, none⟩)), hS⟩
        · intro Lq a wx hS h
          have s71 : a.eval (.tmp 71) = .bool kb := h.slot 1 13 71 rfl rfl
          by_cases hkb : kb = true
          · have s71b : a.eval (.tmp 71) = .bool true := s71.trans (by rw [hkb])
            rw [if_pos (wanted_of (g := 13) (d := 71) (b := true) rfl rfl s71b)]
            have s75 : a.eval (.tmp 75) = .pointer (some ⟨g, off + j, none⟩) := h.slot 0 17 75 rfl rfl hkb
            have t75 := (ev_tmp a 75).symm.trans s75
            refine does_val (v := .slice af nf cf) (w' := wx) ?_ ⟨fun _ => rfl, hS, fun _ _ _ h => h⟩
            simp [execOp, go_sem, t75, (HV.out wx hS hkb).1]
          · have s71b : a.eval (.tmp 71) = .bool (!true) := s71.trans (by cases kb with | true => exact absurd rfl hkb | false => rfl)
            rw [if_neg (wanted_not (g := 13) (d := 71) (b := true) rfl rfl s71b)]
            exact ⟨(fun h => absurd h hkb : kb = true → undef = .slice af nf cf), hS⟩
        · intro Lq a wx hS h
          have s71 : a.eval (.tmp 71) = .bool kb := h.slot 1 13 71 rfl rfl
          by_cases hkb : kb = true
          · have s71b : a.eval (.tmp 71) = .bool true := s71.trans (by rw [hkb])
            rw [if_pos (wanted_of (g := 13) (d := 71) (b := true) rfl rfl s71b)]
            have s76 : a.eval (.tmp 76) = .slice af nf cf := h.slot 0 18 76 rfl rfl hkb
            have t76 := (ev_tmp a 76).symm.trans s76
            refine does_val (v := .string M) (w' := wx) ?_ ⟨fun _ => rfl, hS, fun _ _ _ h => h⟩
            simp [execOp, go_sem, t76, (HV.out wx hS hkb).2.1]
          · have s71b : a.eval (.tmp 71) = .bool (!true) := s71.trans (by cases kb with | true => exact absurd rfl hkb | false => rfl)
            rw [if_neg (wanted_not (g := 13) (d := 71) (b := true) rfl rfl s71b)]
            exact ⟨(fun h => absurd h hkb : kb = true → undef = .string M), hS⟩
        · intro Lq a wx hS h
          have s71 : a.eval (.tmp 71) = .bool kb := h.slot 0 13 71 rfl rfl
          by_cases hkb : kb = true
          · have s71b : a.eval (.tmp 71) = .bool true := s71.trans (by rw [hkb])
            rw [if_pos (wanted_of (g := 13) (d := 71) (b := true) rfl rfl s71b)]
            have s1 : a.eval (.tmp 1) = .slice ax nx cx := (h.fix 1 (by kernel_rfl)).trans rfl
            have t1 := (ev_tmp a 1).symm.trans s1
            refine does_val (v := .slice ax nx cx) (w' := wx) ?_ ⟨fun _ => rfl, hS, fun _ _ _ h => h⟩
            simp [execOp, go_sem, t1]
          · have s71b : a.eval (.tmp 71) = .bool (!true) := s71.trans (by cases kb with | true => exact absurd rfl hkb | false => rfl)
            rw [if_neg (wanted_not (g := 13) (d := 71) (b := true) rfl rfl s71b)]
            exact ⟨(fun h => absurd h hkb : kb = true → undef = .slice ax nx cx), hS⟩
        · intro Lq a wx hS h
          have s71 : a.eval (.tmp 71) = .bool kb := h.slot 1 13 71 rfl rfl
          by_cases hkb : kb = true
          · have s71b : a.eval (.tmp 71) = .bool true := s71.trans (by rw [hkb])
            rw [if_pos (wanted_of (g := 13) (d := 71) (b := true) rfl rfl s71b)]
            have s78 : a.eval (.tmp 78) = .slice ax nx cx := h.slot 0 20 78 rfl rfl hkb
            have t78 := (ev_tmp a 78).symm.trans s78
            refine does_val (v := .string E) (w' := wx) ?_ ⟨fun _ => rfl, hS, fun _ _ _ h => h⟩
            simp [execOp, go_sem, t78, (HV.out wx hS hkb).2.2]
          · have s71b : a.eval (.tmp 71) = .bool (!true) := s71.trans (by cases kb with | true => exact absurd rfl hkb | false => rfl)
            rw [if_neg (wanted_not (g := 13) (d := 71) (b := true) rfl rfl s71b)]
            exact ⟨(fun h => absurd h hkb : kb = true → undef = .string E), hS⟩
        · intro Lq a wx hS h
          have s71 : a.eval (.tmp 71) = .bool kb := h.slot 2 13 71 rfl rfl
          by_cases hkb : kb = true
          · have s71b : a.eval (.tmp 71) = .bool true := s71.trans (by rw [hkb])
            rw [if_pos (wanted_of (g := 13) (d := 71) (b := true) rfl rfl s71b)]
            have s77 : a.eval (.tmp 77) = .string M := h.slot 0 19 77 rfl rfl hkb
            have t77 := (ev_tmp a 77).symm.trans s77
            have s79 : a.eval (.tmp 79) = .string E := h.slot 1 21 79 rfl rfl hkb
            have t79 := (ev_tmp a 79).symm.trans s79
            refine does_val (v := .bool false) (w' := wx) ?_ ⟨fun _ => rfl, hS, fun _ _ _ h => h⟩
            simp [execOp, go_sem, t77, t79, hsl hkb]
          · have s71b : a.eval (.tmp 71) = .bool (!true) := s71.trans (by cases kb with | true => exact absurd rfl hkb | false => rfl)
            rw [if_neg (wanted_not (g := 13) (d := 71) (b := true) rfl rfl s71b)]
            exact ⟨(fun h => absurd h hkb : kb = true → undef = .bool false), hS⟩
        · intro Lq a wx hS h
          have s68 : a.eval (.tmp 68) = .bool false := h.slot 2 10 68 rfl rfl
          rw [if_pos (wanted_of (g := 10) (d := 68) (b := false) rfl rfl s68)]
          have s71 : a.eval (.tmp 71) = .bool kb := h.slot 0 13 71 rfl rfl
          have t71 := (ev_tmp a 71).symm.trans s71
          have s80 : kb = true → a.eval (.tmp 80) = .bool false := h.slot 1 22 80 rfl rfl
          refine does_val (v := .bool false) (w' := wx) ?_ ⟨rfl, hS, fun _ _ _ h => h⟩
          by_cases hkb : kb = true
          · have t80 := (ev_tmp a 80).symm.trans (s80 hkb)
            simp [execOp, go_sem, t71, t80, hkb]
          · simp [execOp, go_sem, t71, hkb]
        · intro Lq a wx hS h
          rw [if_pos (wanted_none rfl)]
          have s68 : a.eval (.tmp 68) = .bool false := h.slot 0 10 68 rfl rfl
          have t68 := (ev_tmp a 68).symm.trans s68
          have s81 : a.eval (.tmp 81) = .bool false := h.slot 1 23 81 rfl rfl
          have t81 := (ev_tmp a 81).symm.trans s81
          refine does_val (v := .bool false) (w' := wx) ?_ ⟨rfl, hS, fun _ _ _ h => h⟩
          simp [execOp, go_sem, t68, t81]
        intro a u Lq hS hall hts hd hdone hfree
        have e82 : a.eval (.tmp 82) = .bool false := done_slot hdone 24 82 rfl
        obtain ⟨x58, ex58⟩ : ∃ x, a.eval (.tmp 58) = x := ⟨_, rfl⟩
        obtain ⟨x59, ex59⟩ : ∃ x, a.eval (.tmp 59) = x := ⟨_, rfl⟩
        obtain ⟨x60, ex60⟩ : ∃ x, a.eval (.tmp 60) = x := ⟨_, rfl⟩
        obtain ⟨x61, ex61⟩ : ∃ x, a.eval (.tmp 61) = x := ⟨_, rfl⟩
        obtain ⟨x62, ex62⟩ : ∃ x, a.eval (.tmp 62) = x := ⟨_, rfl⟩
        obtain ⟨x63, ex63⟩ : ∃ x, a.eval (.tmp 63) = x := ⟨_, rfl⟩
        obtain ⟨x64, ex64⟩ : ∃ x, a.eval (.tmp 64) = x := ⟨_, rfl⟩
        obtain ⟨x65, ex65⟩ : ∃ x, a.eval (.tmp 65) = x := ⟨_, rfl⟩
        obtain ⟨x66, ex66⟩ : ∃ x, a.eval (.tmp 66) = x := ⟨_, rfl⟩
        obtain ⟨x67, ex67⟩ : ∃ x, a.eval (.tmp 67) = x := ⟨_, rfl⟩
        obtain ⟨x68, ex68⟩ : ∃ x, a.eval (.tmp 68) = x := ⟨_, rfl⟩
        obtain ⟨x69, ex69⟩ : ∃ x, a.eval (.tmp 69) = x := ⟨_, rfl⟩
        obtain ⟨x70, ex70⟩ : ∃ x, a.eval (.tmp 70) = x := ⟨_, rfl⟩
        obtain ⟨x71, ex71⟩ : ∃ x, a.eval (.tmp 71) = x := ⟨_, rfl⟩
        obtain ⟨x72, ex72⟩ : ∃ x, a.eval (.tmp 72) = x := ⟨_, rfl⟩
        obtain ⟨x73, ex73⟩ : ∃ x, a.eval (.tmp 73) = x := ⟨_, rfl⟩
        obtain ⟨x74, ex74⟩ : ∃ x, a.eval (.tmp 74) = x := ⟨_, rfl⟩
        obtain ⟨x75, ex75⟩ : ∃ x, a.eval (.tmp 75) = x := ⟨_, rfl⟩
        obtain ⟨x76, ex76⟩ : ∃ x, a.eval (.tmp 76) = x := ⟨_, rfl⟩
        obtain ⟨x77, ex77⟩ : ∃ x, a.eval (.tmp 77) = x := ⟨_, rfl⟩
        obtain ⟨x78, ex78⟩ : ∃ x, a.eval (.tmp 78) = x := ⟨_, rfl⟩
        obtain ⟨x79, ex79⟩ : ∃ x, a.eval (.tmp 79) = x := ⟨_, rfl⟩
        obtain ⟨x80, ex80⟩ : ∃ x, a.eval (.tmp 80) = x := ⟨_, rfl⟩
        obtain ⟨x81, ex81⟩ : ∃ x, a.eval (.tmp 81) = x := ⟨_, rfl⟩
        have hact := act_puts hts hd hfree
        simp only [putAll, List.foldl_cons, List.foldl_nil, ex58, ex59, ex60, ex61, ex62, ex63, ex64, ex65, ex66, ex67, ex68, ex69, ex70, ex71, ex72, ex73, ex74, ex75, ex76, ex77, ex78, ex79, ex80, ex81, e82, Act.put] at hact
        simp at hact
        clear ex58 ex59 ex60 ex61 ex62 ex63 ex64 ex65 ex66 ex67 ex68 ex69 ex70 ex71 ex72 ex73 ex74 ex75 ex76 ex77 ex78 ex79 ex80 ex81 e82 hts hd hdone hfree hall
        subst hact
        have H7 : Hid (Below w6.heap.size w6 u) := hS
        clear hS
        have hb7 : Below w.heap.size w u := H6.out.2.2.2.trans (H7.out.mono H6.out.2.2.2.size)
        have HP7 : Hid (PtI u q L ∧ Below w.heap.size w u) := ⟨H6.out.2.2.1.below H7.out, hb7⟩
        have HC : Hid (∀ c, c ≤ 256 → cnt L c ≤ 100 * c) := fun c => by
          induction c with
          | zero => intro _; simp [cnt]
          | succ c ih =>
            intro hc
            have := ih (by omega)
            have h2 := List.length_filter_le (fun y => pfx y [(c : Int)]) L
            have := HK.out.1
            simp only [cnt]; omega
        clear hb7
        go_wp2_with fail
        go_loopw [13, 14] (fun nn ci wr => ∃ c : Nat, c ≤ 256 ∧ ci = .int .i64 (c : Int) ∧ nn = .int .i64 (cnt L c : Int) ∧ Below u.heap.size u wr) (fun _ ci _ => 256 - (RowKit.intOf ci).toNat)
        case atStart => exact ⟨0, by omega, rfl, rfl, Below.refl _ _⟩
        case round =>
          obtain ⟨c, hc, rfl, rfl, hbr⟩ := hrel
          have HBr : Hid (Below u.heap.size u wr) := hbr
          clear hbr
          by_cases hlt : c < 256
          · have hlt' : (c : Int) < 256 := by omega
            have hwc : IntKind.u8.wrap (c : Int) = (c : Int) := by rw [IntKind.wrap_u8]; omega
            have hal : Hid (Below wr.heap.size wr (wr.alloc (.cells #[.int .u8 (c : Int)] 5))) := (Below.refl _ _).alloc (Nat.le_refl _) _
            have HPx : Hid _ := prefixes_any q (some ⟨wr.heap.size, 0, none⟩) 1 1 [(c : Int)] L (wr.alloc (.cells #[.int .u8 (c : Int)] 5)) ((HP7.out.1.below HBr.out).below hal.out) (isI_lit wr [(c : Int)] (0, 0) 1 rfl (by decide)) (by intro y hy; simp at hy; omega)
            rw [tw_pfx _ _ HRz.out.1] at HPx
            obtain ⟨m, hm⟩ : ∃ m, m = cnt L c := ⟨_, rfl⟩
            have hm1 := HC.out c (by omega)
            have Hm : Hid (m = cnt L c) := hm
            rw [← hm] at hm1 ⊢
            clear hm
            go_wp2_with fail
            refine Calls.mono HPx.out ?_
            rintro e w8 ⟨hb8, a8, n8, c8, rfl, hR8, hW8⟩
            have hn8 := hR8.hl
            have hl8 := List.length_filter_le (fun y => pfx y [(c : Int)]) L
            have hLk := HK.out.1
            have hw2 : IntKind.i64.wrap ((m : Int) + (n8 : Int)) = (m : Int) + (n8 : Int) := by rw [IntKind.wrap_i64]; omega
            have hw3 : IntKind.i64.wrap ((c : Int) + 1) = (c : Int) + 1 := by rw [IntKind.wrap_i64]; omega
            have HF : Hid (Below u.heap.size u w8 ∧ cnt L (c + 1) = m + n8) := ⟨(HBr.out.trans (hal.out.mono HBr.out.size)).trans (hb8.mono (Nat.le_trans HBr.out.size hal.out.size)), by simp only [cnt]; rw [← Hm.out, hn8]⟩
            clear hb8 hR8 hW8 hn8 hl8 hLk HPx
            go_wp2_with fail
            go_roundw
            case rel => exact ⟨c + 1, by omega, by go_num, by rw [HF.out.2]; go_num, HF.out.1⟩
            case measure => simp [RowKit.intOf]; omega
          · have hlt' : ¬ (c : Int) < 256 := by omega
            obtain rfl : c = 256 := by omega
            have hcn : cnt L 256 = len := by rw [cnt_all HI.out.2.1 HRz.out.2.2]; exact HK.out.1.symm
            rw [hcn]
            have H9 : Hid (PtI wr q L ∧ Below w.heap.size w wr ∧ Below w6.heap.size w6 wr) := ⟨HP7.out.1.below HBr.out, HP7.out.2.trans (HBr.out.mono HP7.out.2.size), H7.out.trans (HBr.out.mono H7.out.size)⟩
            have HPy : Hid _ := prefixes_any q ax nx cx x L wr H9.out.1 (HX.out.1.below H9.out.2.1) HX.out.2
            rw [tw_pfx _ _ HRz.out.1] at HPy
            clear hcn
            go_wp2_with fail
            refine Calls.mono HPy.out ?_
            rintro e w10 ⟨hb10, ap, np, cp, rfl, hRp, hWp⟩
            have H10 : Hid (IsR w10 ap np cp (L.filter (fun y => pfx y x)) ∧ WfR (L.filter (fun y => pfx y x)) ∧ PtI w10 q L ∧ Below w.heap.size w w10 ∧ Below w6.heap.size w6 w10) := ⟨hRp, hWp, H9.out.1.below hb10, H9.out.2.1.trans (hb10.mono H9.out.2.1.size), H9.out.2.2.trans (hb10.mono H9.out.2.2.size)⟩
            have hnp : np ≤ n6 := by
              have h1 := tw_le (fun _ y => pfx y x) (L.filter (nl x)) 0
              rw [tw_pfx _ _ HRz.out.1, ← HR.out] at h1
              have := hRp.hl
              have := HK.out.2
              omega
            have hn6l : n6 ≤ len := by have := HK.out.2; have := HK.out.1; omega
            clear hb10 hRp hWp HPy
            go_wp2_with fail
            go_loopw [16] (fun ii wr => ∃ i : Nat, i ≤ np ∧ ii = .int .i64 (i : Int) ∧ Below w10.heap.size w10 wr) (fun ii _ => np - (RowKit.intOf ii).toNat)
            case atStart => exact ⟨0, by omega, rfl, Below.refl _ _⟩
            case round =>
              obtain ⟨i, hi, rfl, hbr⟩ := hrel
              have HBq : Hid (Below w10.heap.size w10 wr) := hbr
              clear hbr
              by_cases hlt : i < np
              · have hlt' : (i : Int) < (np : Int) := by omega
                have hi0 : (0 : Int) ≤ (i : Int) := by omega
                have hw3 : IntKind.i64.wrap ((i : Int) + 1) = (i : Int) + 1 := by rw [IntKind.wrap_i64]; omega
                have hil : i < (L.filter (fun y => pfx y x)).length := by have := H10.out.1.hl; omega
                obtain ⟨gp, op, ai, ni, cj, rfl, hgp, d0, hIi⟩ := (H10.out.1.below HBq.out).rd.at hil
                have hmem := getD_memR hil
                have HHs : Hid _ := has_any q ai ni cj ((L.filter (fun y => pfx y x)).getD i []) L wr (H10.out.2.2.1.below HBq.out) hIi (H10.out.2.1 _ hmem)
                rw [hsd_mem HRz.out.1 (List.mem_filter.1 hmem).1] at HHs
                clear hIi hmem hil hgp
                go_wp2_with fail
                refine Calls.mono HHs.out ?_
                rintro e w11 ⟨rfl, hb11⟩
                have HF : Hid (Below w10.heap.size w10 w11) := HBq.out.trans (hb11.mono HBq.out.size)
                clear hb11 HHs
                go_wp2_with fail
                go_roundw
                case rel => exact ⟨i + 1, by omega, by go_num, HF.out⟩
                case measure => simp [RowKit.intOf]; omega
              · have hlt' : ¬ (i : Int) < (np : Int) := by omega
                have H12 : Hid (PtI wr q L ∧ Below w.heap.size w wr ∧ IsR wr a6 n6 c6 R) := ⟨H10.out.2.2.1.below HBq.out, H10.out.2.2.2.1.trans (HBq.out.mono H10.out.2.2.2.1.size), H6.out.1.below (H10.out.2.2.2.2.trans (HBq.out.mono H10.out.2.2.2.2.size))⟩
                obtain ⟨hb, hhb⟩ : ∃ b, b = hsd ((L.filter (nl x)).take 1) x := ⟨_, rfl⟩
                obtain ⟨rb, hrb⟩ : ∃ b, b = decide (0 < n6) := ⟨_, rfl⟩
                obtain ⟨eb, heb⟩ : ∃ b, b = decide (R.getD 0 [] = x) := ⟨_, rfl⟩
                have hp6 : rb = true → 0 < R.length := fun h => by have := of_decide_eq_true (by rw [← hrb]; exact h : decide (0 < n6) = true); have := HK.out.2; omega
                have Hhb : Hid (rb = true → hb = eb) := fun h => by
                  have h0 := hp6 h
                  rw [hhb, heb, ← HR.out]
                  unfold hsd
                  cases hRR : R with
                  | nil => rw [hRR] at h0; simp at h0
                  | cons y R' => simp [List.getD]
                have Hhn : Hid (rb = false → hb = false) := fun h => by
                  have h0 : ¬ 0 < n6 := of_decide_eq_false (by rw [← hrb]; exact h)
                  have : R = [] := List.eq_nil_of_length_eq_zero (by have := HK.out.2; omega)
                  rw [hhb, ← HR.out, this]
                  rfl
                have HRb : Hid (decide (0 < n6) = rb) := hrb.symm
                obtain ⟨M2, hM2⟩ : ∃ M, M = strOfNums (R.getD 0 []) := ⟨_, rfl⟩
                have hs2 : rb = true → (M2.toList == E.toList) = eb := fun h => by
                  rw [hM2, hE, str_same (H6.out.2.1 _ (getD_memR (hp6 h))) HX.out.2, heb]
                have HV2 : Hid (rb = true → ∃ g2 o2 ar nr cr, a6 = some ⟨g2, o2, none⟩ ∧ ∀ W, Below wr.heap.size wr W → W.cell? ⟨g2, o2, none⟩ = some (.slice ar nr cr) ∧ Sem.run Tryd.prog (convert 23 9 (.slice ar nr cr)) W = .ok (.string M2) W ∧ Sem.run Tryd.prog (convert 23 9 (.slice ax nx cx)) W = .ok (.string E) W) := fun h => by
                  rcases H12.out.2.2.rd with e | ⟨b, o, e1, e2, e3⟩
                  · have := hp6 h; rw [e] at this; simp at this
                  · obtain ⟨ar, nr, cr, d1, d2⟩ := e3 0 (hp6 h)
                    refine ⟨b, o, ar, nr, cr, e1, fun W hW => ?_⟩
                    rw [hM2, hE]
                    exact ⟨(hW.cell (p := ⟨b, o, none⟩) e2).trans d1, conv_rd W ar cr nr _ d2.hl (d2.below hW).rd, conv_rd W ax cx nx _ HX.out.1.hl (HX.out.1.below (H12.out.2.1.trans (hW.mono H12.out.2.1.size))).rd⟩
                have HPn : Hid (∀ W, Below wr.heap.size wr W → Calls Tryd.prog 24 #[.pointer (some ⟨q, 0, none⟩), .slice none 0 0] W fun e w' => (∃ a c, e = .returned (.slice a len c)) ∧ Below W.heap.size W w') := fun W hW => by
                  refine Calls.mono (prefixes_any q none 0 0 [] L W (H12.out.1.below hW) (isI_none W) bytes_nil) ?_
                  rintro e w' ⟨hb', a, n, c, rfl, hR', _⟩
                  rw [tw_pfx _ _ HRz.out.1, List.filter_eq_self.2 (fun y _ => by simp [pfx])] at hR'
                  obtain rfl : n = len := by have := hR'.hl; have := HK.out.1; omega
                  exact ⟨⟨a, c, rfl⟩, hb'⟩
                have HHa : Hid (∀ W, Below wr.heap.size wr W → Calls Tryd.prog 22 #[.pointer (some ⟨q, 0, none⟩), .slice ax nx cx] W fun e w' => e = .returned (.bool hb) ∧ Below W.heap.size W w') := fun W hW => by
                  rw [hhb]
                  exact has_any q ax nx cx x L W (H12.out.1.below hW) (HX.out.1.below (H12.out.2.1.trans (hW.mono H12.out.2.1.size))) HX.out.2
                have hnpi : ((np : Int) ≤ (n6 : Int)) := by omega
                clear hhb hrb heb hp6 hM2
                go_wp2_with fail
                refine wp_region_M (by kernel_rfl) (by kernel_rfl) (fun _ W => Below wr.heap.size wr W) (TL [Ceq (.int .i64 (len : Int)), Ceq (.slice (some ⟨g, off, none⟩) len cap), Ceq (.int .i64 (len : Int)), Ceq (.bool true), Ceq (.bool true), Ceq (.pointer (some ⟨q, 0, none⟩)), (fun v _ => ∃ a c, v = .slice a len c), Ceq (.int .i64 (len : Int)), Ceq (.slice (some ⟨g, off, none⟩) len cap), Ceq (.int .i64 (len : Int)), Ceq (.bool true), Ceq (.bool true), Ceq (.bool true), Ceq (.slice ap np cp), Ceq (.int .i64 (np : Int)), Ceq (.slice a6 n6 c6), Ceq (.int .i64 (n6 : Int)), Ceq (.bool true), Ceq (.bool true), Ceq (.bool true), Ceq (.pointer (some ⟨q, 0, none⟩)), Ceq (.slice ax nx cx), Ceq (.bool hb), Ceq (.slice a6 n6 c6), Ceq (.int .i64 (n6 : Int)), Ceq (.bool rb), Ceq (.bool rb), fun v _ => rb = true → v = .slice a6 n6 c6, fun v _ => rb = true → v = .pointer a6, (fun v _ => rb = true → ∀ W, Below wr.heap.size wr W → Sem.run Tryd.prog (convert 23 9 v) W = .ok (.string M2) W), fun v _ => rb = true → v = .string M2, fun v _ => rb = true → v = .slice ax nx cx, fun v _ => rb = true → v = .string E, fun v _ => rb = true → v = .bool eb, Ceq (.bool hb), Ceq (.bool true), Ceq (.bool true), Ceq (.bool true)]) (Below.refl _ _).drew (allL_cons ?_ (allL_cons ?_ (allL_cons ?_ (allL_cons ?_ (allL_cons ?_ (allL_cons ?_ (allL_cons ?_ (allL_cons ?_ (allL_cons ?_ (allL_cons ?_ (allL_cons ?_ (allL_cons ?_ (allL_cons ?_ (allL_cons ?_ (allL_cons ?_ (allL_cons ?_ (allL_cons ?_ (allL_cons ?_ (allL_cons ?_ (allL_cons ?_ (allL_cons ?_ (allL_cons ?_ (allL_cons ?_ (allL_cons ?_ (allL_cons ?_ (allL_cons ?_ (allL_cons ?_ (allL_cons ?_ (allL_cons ?_ (allL_cons ?_ (allL_cons ?_ (allL_cons ?_ (allL_cons ?_ (allL_cons ?_ (allL_cons ?_ (allL_cons ?_ (allL_cons ?_ (allL_cons ?_ allL_nil)))))))))))))))))))))))))))))))))))))) ?_
                · intro Lq a wx hS h
                  rw [if_pos (wanted_none rfl)]
                  have s13 : a.eval (.tmp 13) = .int .i64 (len : Int) := (h.fix 13 (by kernel_rfl)).trans rfl
                  have t13 := (ev_tmp a 13).symm.trans s13
                  refine does_val (v := .int .i64 (len : Int)) (w' := wx) ?_ ⟨rfl, hS, fun _ _ _ h => h⟩
                  simp [execOp, go_sem, t13]
                · intro Lq a wx hS h
                  rw [if_pos (wanted_none rfl)]
                  have s0 : a.eval (.tmp 0) = .slice (some ⟨g, off, none⟩) len cap := (h.fix 0 (by kernel_rfl)).trans rfl
                  have t0 := (ev_tmp a 0).symm.trans s0
                  refine does_val (v := .slice (some ⟨g, off, none⟩) len cap) (w' := wx) ?_ ⟨rfl, hS, fun _ _ _ h => h⟩
                  simp [execOp, go_sem, t0]
                · intro Lq a wx hS h
                  rw [if_pos (wanted_none rfl)]
                  have s112 : a.eval (.tmp 112) = .slice (some ⟨g, off, none⟩) len cap := h.slot 0 1 112 rfl rfl
                  have t112 := (ev_tmp a 112).symm.trans s112
                  refine does_val (v := .int .i64 (len : Int)) (w' := wx) ?_ ⟨rfl, hS, fun _ _ _ h => h⟩
                  simp [execOp, go_sem, t112]
                · intro Lq a wx hS h
                  rw [if_pos (wanted_none rfl)]
                  have s111 : a.eval (.tmp 111) = .int .i64 (len : Int) := h.slot 0 0 111 rfl rfl
                  have t111 := (ev_tmp a 111).symm.trans s111
                  have s113 : a.eval (.tmp 113) = .int .i64 (len : Int) := h.slot 1 2 113 rfl rfl
                  have t113 := (ev_tmp a 113).symm.trans s113
                  refine does_val (v := .bool true) (w' := wx) ?_ ⟨rfl, hS, fun _ _ _ h => h⟩
                  simp [execOp, go_sem, t111, t113]
                · intro Lq a wx hS h
                  rw [if_pos (wanted_none rfl)]
                  have s114 : a.eval (.tmp 114) = .bool true := h.slot 0 3 114 rfl rfl
                  have t114 := (ev_tmp a 114).symm.trans s114
                  refine does_val (v := .bool true) (w' := wx) ?_ ⟨rfl, hS, fun _ _ _ h => h⟩
                  simp [execOp, go_sem, t114]
                · intro Lq a wx hS h
                  have gg : a.eval (.tmp 115) = .bool true := h.slot 0 4 115 rfl rfl
                  rw [if_pos (wanted_of (g := 4) (d := 115) (b := true) rfl rfl gg)]
                  have s9 : a.eval (.tmp 9) = .pointer (some ⟨q, 0, none⟩) := (h.fix 9 (by kernel_rfl)).trans rfl
                  have t9 := (ev_tmp a 9).symm.trans s9
                  refine does_val (v := .pointer (some ⟨q, 0, none⟩)) (w' := wx) ?_ ⟨rfl, hS, fun _ _ _ h => h⟩
                  simp [execOp, go_sem, t9]
                · intro Lq a wx hS h
                  have gg : a.eval (.tmp 115) = .bool true := h.slot 1 4 115 rfl rfl
                  rw [if_pos (wanted_of (g := 4) (d := 115) (b := true) rfl rfl gg)]
                  have s116 : a.eval (.tmp 116) = .pointer (some ⟨q, 0, none⟩) := h.slot 0 5 116 rfl rfl
                  have t116 := (ev_tmp a 116).symm.trans s116
                  refine does_call (f := 24) (args := #[.pointer (some ⟨q, 0, none⟩), .slice none 0 0]) (w' := wx) (by simp [go_sem, t116]) ?_
                  refine Calls.mono (HPn.out wx hS) ?_
                  rintro r' w' ⟨⟨a2, c2, rfl⟩, hb'⟩
                  exact ⟨_, rfl, ⟨a2, c2, rfl⟩, hS.trans (hb'.mono hS.size), fun j' u' hj' hT => tl_stab (w := wx) (w' := w') (List.forall_mem_cons.2 ⟨fun _ h => h, (List.forall_mem_cons.2 ⟨fun _ h => h, (List.forall_mem_cons.2 ⟨fun _ h => h, (List.forall_mem_cons.2 ⟨fun _ h => h, (List.forall_mem_cons.2 ⟨fun _ h => h, (List.forall_mem_cons.2 ⟨fun _ h => h, (List.forall_mem_cons.2 ⟨fun _ h => h, (List.forall_mem_cons.2 ⟨fun _ h => h, (List.forall_mem_cons.2 ⟨fun _ h => h, (List.forall_mem_cons.2 ⟨fun _ h => h, (List.forall_mem_cons.2 ⟨fun _ h => h, (List.forall_mem_cons.2 ⟨fun _ h => h, (List.forall_mem_cons.2 ⟨fun _ h => h, (List.forall_mem_cons.2 ⟨fun _ h => h, (List.forall_mem_cons.2 ⟨fun _ h => h, (List.forall_mem_cons.2 ⟨fun _ h => h, (List.forall_mem_cons.2 ⟨fun _ h => h, (List.forall_mem_cons.2 ⟨fun _ h => h, (List.forall_mem_cons.2 ⟨fun _ h => h, (List.forall_mem_cons.2 ⟨fun _ h => h, (List.forall_mem_cons.2 ⟨fun _ h => h, (List.forall_mem_cons.2 ⟨fun _ h => h, (List.forall_mem_cons.2 ⟨fun _ h => h, (List.forall_mem_cons.2 ⟨fun _ h => h, (List.forall_mem_cons.2 ⟨fun _ h => h, (List.forall_mem_cons.2 ⟨fun _ h => h, (List.forall_mem_cons.2 ⟨fun _ h => h, (List.forall_mem_cons.2 ⟨fun _ h => h, (List.forall_mem_cons.2 ⟨fun _ h => h, (List.forall_mem_cons.2 ⟨fun _ h => h, (List.forall_mem_cons.2 ⟨fun _ h => h, (List.forall_mem_cons.2 ⟨fun _ h => h, (List.forall_mem_cons.2 ⟨fun _ h => h, (List.forall_mem_cons.2 ⟨fun _ h => h, (List.forall_mem_cons.2 ⟨fun _ h => h, (List.forall_mem_cons.2 ⟨fun _ h => h, (List.forall_mem_cons.2 ⟨fun _ h => h, (List.forall_mem_cons.2 ⟨fun _ h => h, (fun _ h => by cases h)⟩)⟩)⟩)⟩)⟩)⟩)⟩)⟩)⟩)⟩)⟩)⟩)⟩)⟩)⟩)⟩)⟩)⟩)⟩)⟩)⟩)⟩)⟩)⟩)⟩)⟩)⟩)⟩)⟩)⟩)⟩)⟩)⟩)⟩)⟩)⟩)⟩)⟩) hT⟩
                · intro Lq a wx hS h
                  have gg : a.eval (.tmp 115) = .bool true := h.slot 1 4 115 rfl rfl
                  rw [if_pos (wanted_of (g := 4) (d := 115) (b := true) rfl rfl gg)]
                  obtain ⟨sa, sc, s117⟩ : ∃ a2 c2, a.eval (.tmp 117) = .slice a2 len c2 := h.slot 0 6 117 rfl rfl
                  have t117 := (ev_tmp a 117).symm.trans s117
                  refine does_val (v := .int .i64 (len : Int)) (w' := wx) ?_ ⟨rfl, hS, fun _ _ _ h => h⟩
                  simp [execOp, go_sem, t117]
                · intro Lq a wx hS h
                  have gg : a.eval (.tmp 115) = .bool true := h.slot 0 4 115 rfl rfl
                  rw [if_pos (wanted_of (g := 4) (d := 115) (b := true) rfl rfl gg)]
                  have s0 : a.eval (.tmp 0) = .slice (some ⟨g, off, none⟩) len cap := (h.fix 0 (by kernel_rfl)).trans rfl
                  have t0 := (ev_tmp a 0).symm.trans s0
                  refine does_val (v := .slice (some ⟨g, off, none⟩) len cap) (w' := wx) ?_ ⟨rfl, hS, fun _ _ _ h => h⟩
                  simp [execOp, go_sem, t0]
                · intro Lq a wx hS h
                  have gg : a.eval (.tmp 115) = .bool true := h.slot 1 4 115 rfl rfl
                  rw [if_pos (wanted_of (g := 4) (d := 115) (b := true) rfl rfl gg)]
                  have s119 : a.eval (.tmp 119) = .slice (some ⟨g, off, none⟩) len cap := h.slot 0 8 119 rfl rfl
                  have t119 := (ev_tmp a 119).symm.trans s119
                  refine does_val (v := .int .i64 (len : Int)) (w' := wx) ?_ ⟨rfl, hS, fun _ _ _ h => h⟩
                  simp [execOp, go_sem, t119]
                · intro Lq a wx hS h
                  have gg : a.eval (.tmp 115) = .bool true := h.slot 2 4 115 rfl rfl
                  rw [if_pos (wanted_of (g := 4) (d := 115) (b := true) rfl rfl gg)]
                  have s118 : a.eval (.tmp 118) = .int .i64 (len : Int) := h.slot 0 7 118 rfl rfl
                  have t118 := (ev_tmp a 118).symm.trans s118
                  have s120 : a.eval (.tmp 120) = .int .i64 (len : Int) := h.slot 1 9 120 rfl rfl
                  have t120 := (ev_tmp a 120).symm.trans s120
                  refine does_val (v := .bool true) (w' := wx) ?_ ⟨rfl, hS, fun _ _ _ h => h⟩
                  simp [execOp, go_sem, t118, t120]
                · intro Lq a wx hS h
                  rw [if_pos (wanted_none rfl)]
                  have s115 : a.eval (.tmp 115) = .bool true := h.slot 0 4 115 rfl rfl
                  have t115 := (ev_tmp a 115).symm.trans s115
                  have s121 : a.eval (.tmp 121) = .bool true := h.slot 1 10 121 rfl rfl
                  have t121 := (ev_tmp a 121).symm.trans s121
                  refine does_val (v := .bool true) (w' := wx) ?_ ⟨rfl, hS, fun _ _ _ h => h⟩
                  simp [execOp, go_sem, t115, t121]
                · intro Lq a wx hS h
                  rw [if_pos (wanted_none rfl)]
                  have s122 : a.eval (.tmp 122) = .bool true := h.slot 0 11 122 rfl rfl
                  have t122 := (ev_tmp a 122).symm.trans s122
                  refine does_val (v := .bool true) (w' := wx) ?_ ⟨rfl, hS, fun _ _ _ h => h⟩
                  simp [execOp, go_sem, t122]
                · intro Lq a wx hS h
                  have gg : a.eval (.tmp 123) = .bool true := h.slot 0 12 123 rfl rfl
                  rw [if_pos (wanted_of (g := 12) (d := 123) (b := true) rfl rfl gg)]
                  have s15 : a.eval (.tmp 15) = .slice ap np cp := (h.fix 15 (by kernel_rfl)).trans rfl
                  have t15 := (ev_tmp a 15).symm.trans s15
                  refine does_val (v := .slice ap np cp) (w' := wx) ?_ ⟨rfl, hS, fun _ _ _ h => h⟩
                  simp [execOp, go_sem, t15]
                · intro Lq a wx hS h
                  have gg : a.eval (.tmp 123) = .bool true := h.slot 1 12 123 rfl rfl
                  rw [if_pos (wanted_of (g := 12) (d := 123) (b := true) rfl rfl gg)]
                  have s124 : a.eval (.tmp 124) = .slice ap np cp := h.slot 0 13 124 rfl rfl
                  have t124 := (ev_tmp a 124).symm.trans s124
                  refine does_val (v := .int .i64 (np : Int)) (w' := wx) ?_ ⟨rfl, hS, fun _ _ _ h => h⟩
                  simp [execOp, go_sem, t124]
                · intro Lq a wx hS h
                  have gg : a.eval (.tmp 123) = .bool true := h.slot 0 12 123 rfl rfl
                  rw [if_pos (wanted_of (g := 12) (d := 123) (b := true) rfl rfl gg)]
                  have s11 : a.eval (.tmp 11) = .slice a6 n6 c6 := (h.fix 11 (by kernel_rfl)).trans rfl
                  have t11 := (ev_tmp a 11).symm.trans s11
                  refine does_val (v := .slice a6 n6 c6) (w' := wx) ?_ ⟨rfl, hS, fun _ _ _ h => h⟩
                  simp [execOp, go_sem, t11]
                · intro Lq a wx hS h
                  have gg : a.eval (.tmp 123) = .bool true := h.slot 1 12 123 rfl rfl
                  rw [if_pos (wanted_of (g := 12) (d := 123) (b := true) rfl rfl gg)]
                  have s126 : a.eval (.tmp 126) = .slice a6 n6 c6 := h.slot 0 15 126 rfl rfl
                  have t126 := (ev_tmp a 126).symm.trans s126
                  refine does_val (v := .int .i64 (n6 : Int)) (w' := wx) ?_ ⟨rfl, hS, fun _ _ _ h => h⟩
                  simp [execOp, go_sem, t126]
                · intro Lq a wx hS h
                  have gg : a.eval (.tmp 123) = .bool true := h.slot 2 12 123 rfl rfl
                  rw [if_pos (wanted_of (g := 12) (d := 123) (b := true) rfl rfl gg)]
                  have s125 : a.eval (.tmp 125) = .int .i64 (np : Int) := h.slot 0 14 125 rfl rfl
                  have t125 := (ev_tmp a 125).symm.trans s125
                  have s127 : a.eval (.tmp 127) = .int .i64 (n6 : Int) := h.slot 1 16 127 rfl rfl
                  have t127 := (ev_tmp a 127).symm.trans s127
                  refine does_val (v := .bool true) (w' := wx) ?_ ⟨rfl, hS, fun _ _ _ h => h⟩
                  simp [execOp, go_sem, t125, t127, hnpi]
                · intro Lq a wx hS h
                  rw [if_pos (wanted_none rfl)]
                  have s123 : a.eval (.tmp 123) = .bool true := h.slot 0 12 123 rfl rfl
                  have t123 := (ev_tmp a 123).symm.trans s123
                  have s128 : a.eval (.tmp 128) = .bool true := h.slot 1 17 128 rfl rfl
                  have t128 := (ev_tmp a 128).symm.trans s128
                  refine does_val (v := .bool true) (w' := wx) ?_ ⟨rfl, hS, fun _ _ _ h => h⟩
                  simp [execOp, go_sem, t123, t128]
                · intro Lq a wx hS h
                  rw [if_pos (wanted_none rfl)]
                  have s129 : a.eval (.tmp 129) = .bool true := h.slot 0 18 129 rfl rfl
                  have t129 := (ev_tmp a 129).symm.trans s129
                  refine does_val (v := .bool true) (w' := wx) ?_ ⟨rfl, hS, fun _ _ _ h => h⟩
                  simp [execOp, go_sem, t129]
                · intro Lq a wx hS h
                  have gg : a.eval (.tmp 130) = .bool true := h.slot 0 19 130 rfl rfl
                  rw [if_pos (wanted_of (g := 19) (d := 130) (b := true) rfl rfl gg)]
                  have s9 : a.eval (.tmp 9) = .pointer (some ⟨q, 0, none⟩) := (h.fix 9 (by kernel_rfl)).trans rfl
                  have t9 := (ev_tmp a 9).symm.trans s9
                  refine does_val (v := .pointer (some ⟨q, 0, none⟩)) (w' := wx) ?_ ⟨rfl, hS, fun _ _ _ h => h⟩
                  simp [execOp, go_sem, t9]
                · intro Lq a wx hS h
                  have gg : a.eval (.tmp 130) = .bool true := h.slot 0 19 130 rfl rfl
                  rw [if_pos (wanted_of (g := 19) (d := 130) (b := true) rfl rfl gg)]
                  have s1 : a.eval (.tmp 1) = .slice ax nx cx := (h.fix 1 (by kernel_rfl)).trans rfl
                  have t1 := (ev_tmp a 1).symm.trans s1
                  refine does_val (v := .slice ax nx cx) (w' := wx) ?_ ⟨rfl, hS, fun _ _ _ h => h⟩
                  simp [execOp, go_sem, t1]
                · intro Lq a wx hS h
                  have gg : a.eval (.tmp 130) = .bool true := h.slot 2 19 130 rfl rfl
                  rw [if_pos (wanted_of (g := 19) (d := 130) (b := true) rfl rfl gg)]
                  have s131 : a.eval (.tmp 131) = .pointer (some ⟨q, 0, none⟩) := h.slot 0 20 131 rfl rfl
                  have t131 := (ev_tmp a 131).symm.trans s131
                  have s132 : a.eval (.tmp 132) = .slice ax nx cx := h.slot 1 21 132 rfl rfl
                  have t132 := (ev_tmp a 132).symm.trans s132
                  refine does_call (f := 22) (args := #[.pointer (some ⟨q, 0, none⟩), .slice ax nx cx]) (w' := wx) (by simp [go_sem, t131, t132]) ?_
                  refine Calls.mono (HHa.out wx hS) ?_
                  rintro r' w' ⟨rfl, hb'⟩
                  exact ⟨_, rfl, rfl, hS.trans (hb'.mono hS.size), fun j' u' hj' hT => tl_stab (w := wx) (w' := w') (List.forall_mem_cons.2 ⟨fun _ h => h, (List.forall_mem_cons.2 ⟨fun _ h => h, (List.forall_mem_cons.2 ⟨fun _ h => h, (List.forall_mem_cons.2 ⟨fun _ h => h, (List.forall_mem_cons.2 ⟨fun _ h => h, (List.forall_mem_cons.2 ⟨fun _ h => h, (List.forall_mem_cons.2 ⟨fun _ h => h, (List.forall_mem_cons.2 ⟨fun _ h => h, (List.forall_mem_cons.2 ⟨fun _ h => h, (List.forall_mem_cons.2 ⟨fun _ h => h, (List.forall_mem_cons.2 ⟨fun _ h => h, (List.forall_mem_cons.2 ⟨fun _ h => h, (List.forall_mem_cons.2 ⟨fun _ h => h, (List.forall_mem_cons.2 ⟨fun _ h => h, (List.forall_mem_cons.2 ⟨fun _ h => h, (List.forall_mem_cons.2 ⟨fun _ h => h, (List.forall_mem_cons.2 ⟨fun _ h => h, (List.forall_mem_cons.2 ⟨fun _ h => h, (List.forall_mem_cons.2 ⟨fun _ h => h, (List.forall_mem_cons.2 ⟨fun _ h => h, (List.forall_mem_cons.2 ⟨fun _ h => h, (List.forall_mem_cons.2 ⟨fun _ h => h, (List.forall_mem_cons.2 ⟨fun _ h => h, (List.forall_mem_cons.2 ⟨fun _ h => h, (List.forall_mem_cons.2 ⟨fun _ h => h, (List.forall_mem_cons.2 ⟨fun _ h => h, (List.forall_mem_cons.2 ⟨fun _ h => h, (List.forall_mem_cons.2 ⟨fun _ h => h, (List.forall_mem_cons.2 ⟨fun _ h => h, (List.forall_mem_cons.2 ⟨fun _ h => h, (List.forall_mem_cons.2 ⟨fun _ h => h, (List.forall_mem_cons.2 ⟨fun _ h => h, (List.forall_mem_cons.2 ⟨fun _ h => h, (List.forall_mem_cons.2 ⟨fun _ h => h, (List.forall_mem_cons.2 ⟨fun _ h => h, (List.forall_mem_cons.2 ⟨fun _ h => h, (List.forall_mem_cons.2 ⟨fun _ h => h, (List.forall_mem_cons.2 ⟨fun _ h => h, (fun _ h => by cases h)⟩)⟩)⟩)⟩)⟩)⟩)⟩)⟩)⟩)⟩)⟩)⟩)⟩)⟩)⟩)⟩)⟩)⟩)⟩)⟩)⟩)⟩)⟩)⟩)⟩)⟩)⟩)⟩)⟩)⟩)⟩)⟩)⟩)⟩)⟩)⟩)⟩)⟩) hT⟩
                · intro Lq a wx hS h
                  have gg : a.eval (.tmp 130) = .bool true := h.slot 0 19 130 rfl rfl
                  rw [if_pos (wanted_of (g := 19) (d := 130) (b := true) rfl rfl gg)]
                  have s11 : a.eval (.tmp 11) = .slice a6 n6 c6 := (h.fix 11 (by kernel_rfl)).trans rfl
                  have t11 := (ev_tmp a 11).symm.trans s11
                  refine does_val (v := .slice a6 n6 c6) (w' := wx) ?_ ⟨rfl, hS, fun _ _ _ h => h⟩
                  simp [execOp, go_sem, t11]
                · intro Lq a wx hS h
                  have gg : a.eval (.tmp 130) = .bool true := h.slot 1 19 130 rfl rfl
                  rw [if_pos (wanted_of (g := 19) (d := 130) (b := true) rfl rfl gg)]
                  have s134 : a.eval (.tmp 134) = .slice a6 n6 c6 := h.slot 0 23 134 rfl rfl
                  have t134 := (ev_tmp a 134).symm.trans s134
                  refine does_val (v := .int .i64 (n6 : Int)) (w' := wx) ?_ ⟨rfl, hS, fun _ _ _ h => h⟩
                  simp [execOp, go_sem, t134]
                · intro Lq a wx hS h
                  have gg : a.eval (.tmp 130) = .bool true := h.slot 1 19 130 rfl rfl
                  rw [if_pos (wanted_of (g := 19) (d := 130) (b := true) rfl rfl gg)]
                  have s135 : a.eval (.tmp 135) = .int .i64 (n6 : Int) := h.slot 0 24 135 rfl rfl
                  have t135 := (ev_tmp a 135).symm.trans s135
                  refine does_val (v := .bool rb) (w' := wx) ?_ ⟨rfl, hS, fun _ _ _ h => h⟩
                  simp [execOp, go_sem, t135]
                  first | done | exact HRb.out
                · intro Lq a wx hS h
                  have gg : a.eval (.tmp 130) = .bool true := h.slot 2 19 130 rfl rfl
                  rw [if_pos (wanted_of (g := 19) (d := 130) (b := true) rfl rfl gg)]
                  have s136 : a.eval (.tmp 136) = .bool rb := h.slot 0 25 136 rfl rfl
                  have t136 := (ev_tmp a 136).symm.trans s136
                  refine does_val (v := .bool rb) (w' := wx) ?_ ⟨rfl, hS, fun _ _ _ h => h⟩
                  simp [execOp, go_sem, t136]
                · intro Lq a wx hS h
                  have sg : a.eval (.tmp 137) = .bool rb := h.slot 0 26 137 rfl rfl
                  by_cases hkb : rb = true
                  · have sgb : a.eval (.tmp 137) = .bool true := sg.trans (by rw [hkb])
                    rw [if_pos (wanted_of (g := 26) (d := 137) (b := true) rfl rfl sgb)]
                    have s11 : a.eval (.tmp 11) = .slice a6 n6 c6 := (h.fix 11 (by kernel_rfl)).trans rfl
                    have t11 := (ev_tmp a 11).symm.trans s11
                    refine does_val (v := .slice a6 n6 c6) (w' := wx) ?_ ⟨fun _ => rfl, hS, fun _ _ _ h => h⟩
                    simp [execOp, go_sem, t11]
                  · have sgb : a.eval (.tmp 137) = .bool (!true) := sg.trans (by cases rb with | true => exact absurd rfl hkb | false => rfl)
                    rw [if_neg (wanted_not (g := 26) (d := 137) (b := true) rfl rfl sgb)]
                    exact ⟨(fun h => absurd h hkb : rb = true → undef = .slice a6 n6 c6), hS⟩
                · intro Lq a wx hS h
                  have sg : a.eval (.tmp 137) = .bool rb := h.slot 1 26 137 rfl rfl
                  by_cases hkb : rb = true
                  · have sgb : a.eval (.tmp 137) = .bool true := sg.trans (by rw [hkb])
                    rw [if_pos (wanted_of (g := 26) (d := 137) (b := true) rfl rfl sgb)]
                    have s138 : a.eval (.tmp 138) = .slice a6 n6 c6 := h.slot 0 27 138 rfl rfl hkb
                    have t138 := (ev_tmp a 138).symm.trans s138
                    obtain ⟨g2, o2, ar, nr, cr, e6, hW⟩ := HV2.out hkb
                    have h60 : (0 : Int) < (n6 : Int) := by have := of_decide_eq_true (HRb.out.trans hkb); omega
                    rw [e6] at t138
                    refine does_val (v := .pointer (some ⟨g2, o2, none⟩)) (w' := wx) ?_ ⟨fun _ => by rw [e6], hS, fun _ _ _ h => h⟩
                    simp [execOp, go_sem, t138, h60]
                    first | done | (intro h; omega)
                  · have sgb : a.eval (.tmp 137) = .bool (!true) := sg.trans (by cases rb with | true => exact absurd rfl hkb | false => rfl)
                    rw [if_neg (wanted_not (g := 26) (d := 137) (b := true) rfl rfl sgb)]
                    exact ⟨(fun h => absurd h hkb : rb = true → undef = .pointer a6), hS⟩
                · intro Lq a wx hS h
                  have sg : a.eval (.tmp 137) = .bool rb := h.slot 1 26 137 rfl rfl
                  by_cases hkb : rb = true
                  · have sgb : a.eval (.tmp 137) = .bool true := sg.trans (by rw [hkb])
                    rw [if_pos (wanted_of (g := 26) (d := 137) (b := true) rfl rfl sgb)]
                    have s139 : a.eval (.tmp 139) = .pointer a6 := h.slot 0 28 139 rfl rfl hkb
                    have t139 := (ev_tmp a 139).symm.trans s139
                    obtain ⟨g2, o2, ar, nr, cr, e6, hW⟩ := HV2.out hkb
                    rw [e6] at t139
                    have d0 := (hW wx hS).1
                    refine does_val (v := .slice ar nr cr) (w' := wx) ?_ ⟨fun _ W hW' => (hW W hW').2.1, hS, fun _ _ _ h => h⟩
                    simp [execOp, go_sem, t139, d0]
                  · have sgb : a.eval (.tmp 137) = .bool (!true) := sg.trans (by cases rb with | true => exact absurd rfl hkb | false => rfl)
                    rw [if_neg (wanted_not (g := 26) (d := 137) (b := true) rfl rfl sgb)]
                    exact ⟨(fun h => absurd h hkb : rb = true → ∀ W, Below wr.heap.size wr W → Sem.run Tryd.prog (convert 23 9 undef) W = .ok (.string M2) W), hS⟩
                · intro Lq a wx hS h
                  have sg : a.eval (.tmp 137) = .bool rb := h.slot 1 26 137 rfl rfl
                  by_cases hkb : rb = true
                  · have sgb : a.eval (.tmp 137) = .bool true := sg.trans (by rw [hkb])
                    rw [if_pos (wanted_of (g := 26) (d := 137) (b := true) rfl rfl sgb)]
                    have s140 : ∀ W, Below wr.heap.size wr W → Sem.run Tryd.prog (convert 23 9 (a.eval (.tmp 140))) W = .ok (.string M2) W := h.slot 0 29 140 rfl rfl hkb
                    obtain ⟨y, hy⟩ : ∃ y, a.eval (.tmp 140) = y := ⟨_, rfl⟩
                    have s0 := s140 wx hS
                    rw [hy] at s0
                    have t0 := (ev_tmp a 140).symm.trans hy
                    refine does_val (v := .string M2) (w' := wx) ?_ ⟨fun _ => rfl, hS, fun _ _ _ h => h⟩
                    simp [execOp, go_sem, t0, s0]
                  · have sgb : a.eval (.tmp 137) = .bool (!true) := sg.trans (by cases rb with | true => exact absurd rfl hkb | false => rfl)
                    rw [if_neg (wanted_not (g := 26) (d := 137) (b := true) rfl rfl sgb)]
                    exact ⟨(fun h => absurd h hkb : rb = true → undef = .string M2), hS⟩
                · intro Lq a wx hS h
                  have sg : a.eval (.tmp 137) = .bool rb := h.slot 0 26 137 rfl rfl
                  by_cases hkb : rb = true
                  · have sgb : a.eval (.tmp 137) = .bool true := sg.trans (by rw [hkb])
                    rw [if_pos (wanted_of (g := 26) (d := 137) (b := true) rfl rfl sgb)]
                    have s1 : a.eval (.tmp 1) = .slice ax nx cx := (h.fix 1 (by kernel_rfl)).trans rfl
                    have t1 := (ev_tmp a 1).symm.trans s1
                    refine does_val (v := .slice ax nx cx) (w' := wx) ?_ ⟨fun _ => rfl, hS, fun _ _ _ h => h⟩
                    simp [execOp, go_sem, t1]
                  · have sgb : a.eval (.tmp 137) = .bool (!true) := sg.trans (by cases rb with | true => exact absurd rfl hkb | false => rfl)
                    rw [if_neg (wanted_not (g := 26) (d := 137) (b := true) rfl rfl sgb)]
                    exact ⟨(fun h => absurd h hkb : rb = true → undef = .slice ax nx cx), hS⟩
                · intro Lq a wx hS h
                  have sg : a.eval (.tmp 137) = .bool rb := h.slot 1 26 137 rfl rfl
                  by_cases hkb : rb = true
                  · have sgb : a.eval (.tmp 137) = .bool true := sg.trans (by rw [hkb])
                    rw [if_pos (wanted_of (g := 26) (d := 137) (b := true) rfl rfl sgb)]
                    have s142 : a.eval (.tmp 142) = .slice ax nx cx := h.slot 0 31 142 rfl rfl hkb
                    have t142 := (ev_tmp a 142).symm.trans s142
                    obtain ⟨g2, o2, ar, nr, cr, e6, hW⟩ := HV2.out hkb
                    have d0 := (hW wx hS).2.2
                    refine does_val (v := .string E) (w' := wx) ?_ ⟨fun _ => rfl, hS, fun _ _ _ h => h⟩
                    simp [execOp, go_sem, t142, d0]
                  · have sgb : a.eval (.tmp 137) = .bool (!true) := sg.trans (by cases rb with | true => exact absurd rfl hkb | false => rfl)
                    rw [if_neg (wanted_not (g := 26) (d := 137) (b := true) rfl rfl sgb)]
                    exact ⟨(fun h => absurd h hkb : rb = true → undef = .string E), hS⟩
                · intro Lq a wx hS h
                  have sg : a.eval (.tmp 137) = .bool rb := h.slot 2 26 137 rfl rfl
                  by_cases hkb : rb = true
                  · have sgb : a.eval (.tmp 137) = .bool true := sg.trans (by rw [hkb])
                    rw [if_pos (wanted_of (g := 26) (d := 137) (b := true) rfl rfl sgb)]
                    have s141 : a.eval (.tmp 141) = .string M2 := h.slot 0 30 141 rfl rfl hkb
                    have t141 := (ev_tmp a 141).symm.trans s141
                    have s143 : a.eval (.tmp 143) = .string E := h.slot 1 32 143 rfl rfl hkb
                    have t143 := (ev_tmp a 143).symm.trans s143
                    refine does_val (v := .bool eb) (w' := wx) ?_ ⟨fun _ => rfl, hS, fun _ _ _ h => h⟩
                    simp [execOp, go_sem, t141, t143, hs2 hkb]
                  · have sgb : a.eval (.tmp 137) = .bool (!true) := sg.trans (by cases rb with | true => exact absurd rfl hkb | false => rfl)
                    rw [if_neg (wanted_not (g := 26) (d := 137) (b := true) rfl rfl sgb)]
                    exact ⟨(fun h => absurd h hkb : rb = true → undef = .bool eb), hS⟩
                · intro Lq a wx hS h
                  have gg : a.eval (.tmp 130) = .bool true := h.slot 2 19 130 rfl rfl
                  rw [if_pos (wanted_of (g := 19) (d := 130) (b := true) rfl rfl gg)]
                  have s137 : a.eval (.tmp 137) = .bool rb := h.slot 0 26 137 rfl rfl
                  have t137 := (ev_tmp a 137).symm.trans s137
                  have s33 : rb = true → a.eval (.tmp 144) = .bool eb := h.slot 1 33 144 rfl rfl
                  refine does_val (v := .bool hb) (w' := wx) ?_ ⟨rfl, hS, fun _ _ _ h => h⟩
                  by_cases hkb : rb = true
                  · have t33 := (ev_tmp a 144).symm.trans (s33 hkb)
                    simp [execOp, go_sem, t137, t33, hkb, Hhb.out hkb]
                  · have hkf : rb = false := by cases rb with | true => exact absurd rfl hkb | false => rfl
                    simp [execOp, go_sem, t137, hkf, Hhn.out hkf]
                · intro Lq a wx hS h
                  have gg : a.eval (.tmp 130) = .bool true := h.slot 2 19 130 rfl rfl
                  rw [if_pos (wanted_of (g := 19) (d := 130) (b := true) rfl rfl gg)]
                  have s133 : a.eval (.tmp 133) = .bool hb := h.slot 0 22 133 rfl rfl
                  have t133 := (ev_tmp a 133).symm.trans s133
                  have s145 : a.eval (.tmp 145) = .bool hb := h.slot 1 34 145 rfl rfl
                  have t145 := (ev_tmp a 145).symm.trans s145
                  refine does_val (v := .bool true) (w' := wx) ?_ ⟨rfl, hS, fun _ _ _ h => h⟩
                  simp [execOp, go_sem, t133, t145]
                · intro Lq a wx hS h
                  rw [if_pos (wanted_none rfl)]
                  have s130 : a.eval (.tmp 130) = .bool true := h.slot 0 19 130 rfl rfl
                  have t130 := (ev_tmp a 130).symm.trans s130
                  have s146 : a.eval (.tmp 146) = .bool true := h.slot 1 35 146 rfl rfl
                  have t146 := (ev_tmp a 146).symm.trans s146
                  refine does_val (v := .bool true) (w' := wx) ?_ ⟨rfl, hS, fun _ _ _ h => h⟩
                  simp [execOp, go_sem, t130, t146]
                · intro Lq a wx hS h
                  rw [if_pos (wanted_none rfl)]
                  have s147 : a.eval (.tmp 147) = .bool true := h.slot 0 36 147 rfl rfl
                  have t147 := (ev_tmp a 147).symm.trans s147
                  refine does_val (v := .bool true) (w' := wx) ?_ ⟨rfl, hS, fun _ _ _ h => h⟩
                  simp [execOp, go_sem, t147]
                intro a u2 Lq hS hall hts hd hdone hfree
                have e4 : a.eval (.tmp 4) = .bool true := done_slot hdone 37 4 rfl
                obtain ⟨x111, ex111⟩ : ∃ x, a.eval (.tmp 111) = x := ⟨_, rfl⟩
                obtain ⟨x112, ex112⟩ : ∃ x, a.eval (.tmp 112) = x := ⟨_, rfl⟩
                obtain ⟨x113, ex113⟩ : ∃ x, a.eval (.tmp 113) = x := ⟨_, rfl⟩
                obtain ⟨x114, ex114⟩ : ∃ x, a.eval (.tmp 114) = x := ⟨_, rfl⟩
                obtain ⟨x115, ex115⟩ : ∃ x, a.eval (.tmp 115) = x := ⟨_, rfl⟩
                obtain ⟨x116, ex116⟩ : ∃ x, a.eval (.tmp 116) = x := ⟨_, rfl⟩
                obtain ⟨x117, ex117⟩ : ∃ x, a.eval (.tmp 117) = x := ⟨_, rfl⟩
                obtain ⟨x118, ex118⟩ : ∃ x, a.eval (.tmp 118) = x := ⟨_, rfl⟩
                obtain ⟨x119, ex119⟩ : ∃ x, a.eval (.tmp 119) = x := ⟨_, rfl⟩
                obtain ⟨x120, ex120⟩ : ∃ x, a.eval (.tmp 120) = x := ⟨_, rfl⟩
                obtain ⟨x121, ex121⟩ : ∃ x, a.eval (.tmp 121) = x := ⟨_, rfl⟩
                obtain ⟨x122, ex122⟩ : ∃ x, a.eval (.tmp 122) = x := ⟨_, rfl⟩
                obtain ⟨x123, ex123⟩ : ∃ x, a.eval (.tmp 123) = x := ⟨_, rfl⟩
                obtain ⟨x124, ex124⟩ : ∃ x, a.eval (.tmp 124) = x := ⟨_, rfl⟩
                obtain ⟨x125, ex125⟩ : ∃ x, a.eval (.tmp 125) = x := ⟨_, rfl⟩
                obtain ⟨x126, ex126⟩ : ∃ x, a.eval (.tmp 126) = x := ⟨_, rfl⟩
                obtain ⟨x127, ex127⟩ : ∃ x, a.eval (.tmp 127) = x := ⟨_, rfl⟩
                obtain ⟨x128, ex128⟩ : ∃ x, a.eval (.tmp 128) = x := ⟨_, rfl⟩
                obtain ⟨x129, ex129⟩ : ∃ x, a.eval (.tmp 129) = x := ⟨_, rfl⟩
                obtain ⟨x130, ex130⟩ : ∃ x, a.eval (.tmp 130) = x := ⟨_, rfl⟩
                obtain ⟨x131, ex131⟩ : ∃ x, a.eval (.tmp 131) = x := ⟨_, rfl⟩
                obtain ⟨x132, ex132⟩ : ∃ x, a.eval (.tmp 132) = x := ⟨_, rfl⟩
                obtain ⟨x133, ex133⟩ : ∃ x, a.eval (.tmp 133) = x := ⟨_, rfl⟩
                obtain ⟨x134, ex134⟩ : ∃ x, a.eval (.tmp 134) = x := ⟨_, rfl⟩
                obtain ⟨x135, ex135⟩ : ∃ x, a.eval (.tmp 135) = x := ⟨_, rfl⟩
                obtain ⟨x136, ex136⟩ : ∃ x, a.eval (.tmp 136) = x := ⟨_, rfl⟩
                obtain ⟨x137, ex137⟩ : ∃ x, a.eval (.tmp 137) = x := ⟨_, rfl⟩
                obtain ⟨x138, ex138⟩ : ∃ x, a.eval (.tmp 138) = x := ⟨_, rfl⟩
                obtain ⟨x139, ex139⟩ : ∃ x, a.eval (.tmp 139) = x := ⟨_, rfl⟩
                obtain ⟨x140, ex140⟩ : ∃ x, a.eval (.tmp 140) = x := ⟨_, rfl⟩
                obtain ⟨x141, ex141⟩ : ∃ x, a.eval (.tmp 141) = x := ⟨_, rfl⟩
                obtain ⟨x142, ex142⟩ : ∃ x, a.eval (.tmp 142) = x := ⟨_, rfl⟩
                obtain ⟨x143, ex143⟩ : ∃ x, a.eval (.tmp 143) = x := ⟨_, rfl⟩
                obtain ⟨x144, ex144⟩ : ∃ x, a.eval (.tmp 144) = x := ⟨_, rfl⟩
                obtain ⟨x145, ex145⟩ : ∃ x, a.eval (.tmp 145) = x := ⟨_, rfl⟩
                obtain ⟨x146, ex146⟩ : ∃ x, a.eval (.tmp 146) = x := ⟨_, rfl⟩
                obtain ⟨x147, ex147⟩ : ∃ x, a.eval (.tmp 147) = x := ⟨_, rfl⟩
                have hact := act_puts hts hd hfree
                simp only [putAll, List.foldl_cons, List.foldl_nil, ex111, ex112, ex113, ex114, ex115, ex116, ex117, ex118, ex119, ex120, ex121, ex122, ex123, ex124, ex125, ex126, ex127, ex128, ex129, ex130, ex131, ex132, ex133, ex134, ex135, ex136, ex137, ex138, ex139, ex140, ex141, ex142, ex143, ex144, ex145, ex146, ex147, e4, Act.put] at hact
                simp at hact
                clear ex111 ex112 ex113 ex114 ex115 ex116 ex117 ex118 ex119 ex120 ex121 ex122 ex123 ex124 ex125 ex126 ex127 ex128 ex129 ex130 ex131 ex132 ex133 ex134 ex135 ex136 ex137 ex138 ex139 ex140 ex141 ex142 ex143 ex144 ex145 ex146 ex147 e4 hts hd hdone hfree hall
                subst hact
                go_wp2_with fail
                go_ret
                exact ⟨rfl, H12.out.2.1.trans (hS.mono H12.out.2.1.size)⟩
      · have hk1 : (kc != 0) = true := by simpa using hk0
        go_wp2_with fail
        go_ret
        exact ⟨rfl, HB3.out⟩
set_option maxRecDepth 100000 in
theorem itempartParts_lifted (os : Os) (started : os.Started) (H : Type) (enc : TypeId × Value → H) :
    ReturnsInHanded {} Tryd.checked os 7 .any (fun w args => (Rows.itempartPartsSpec.pre enc Tryd.prog Tryd.f7 [] false w args ∧ laidMetH Tryd.prog Rows.itempartPartsRow.laid w) ∧ sizedMet enc Tryd.prog Tryd.f7 (OpenSpec.ofChange Rows.itempartPartsSpec) false w args)
      (Rows.itempartPartsSpec.post enc Tryd.prog Tryd.f7 false true false false) := by
  refine returns_and_shaped (C := Tryd.checked) (X := fun w _ => laidMetH Tryd.prog Rows.itempartPartsRow.laid w) (fun _ _ _ hh h => h.of_heap hh) own started (by kernel_rfl) Tryd.func7
    (ChangeSpec.witness_shaped (enc := enc) (C := Tryd.checked) (os := os) (X := fun w _ => laidMetH Tryd.prog Rows.itempartPartsRow.laid w) false (World.laidAll Tryd.prog os Rows.itempartPartsRow.laid) #[.slice none 0 0, .slice none 0 0] 8 (World.laidAll_os _ _ _)
      (World.shaped_of_ZipB (by kernel_rfl) (by kernel_rfl)) (by kernel_rfl) (by kernel_rfl) (by kernel_rfl)
      (by rw [MakeChecks.laidMetH_plain _ _ _ (by kernel_rfl)]; exact laidMet_laidAll _ (by kernel_rfl) (by kernel_rfl))) ?_
  intro W base args ds gs before hval0 hW hL hsh
  have hval : ∀ (j : Nat) t v, Tryd.f7.params[j]? = some t → args[j]? = some v → Value.okWide Tryd.prog W .any base t v := hval0
  have hW' := hW
  obtain ⟨p, q, hA0, hV, rfl, _, _⟩ := hW
  have hA : DataW.TrodAll enc Tryd.prog W 0 (fun _ => true) true Tryd.f7.params.toList args.toList ds p := hA0
  rw [Tryd.params7] at hA hval
  obtain ⟨v0, vs0, d0, ds0, p0, q0, hargs, rfl, rfl, h0, r0⟩ := trodAll_cons hA
  obtain ⟨v1, vs1, d1, ds1, p1, q1, rfl, rfl, rfl, h1, r1⟩ := trodAll_cons r0
  obtain ⟨rfl, rfl, rfl⟩ := trodAll_nil r1
  obtain rfl : args = #[v0, v1] := by cases args; simp_all
  obtain ⟨rfl, rfl⟩ := trodVars_none hV
  obtain ⟨a0, len0, cap0, rfl⟩ := okWide_slice Tryd.underlying22 (hval 0 22 v0 rfl rfl)
  have k0 := h0
  have lt0 : ∀ x ∈ p0, x.block < W.heap.size := by obtain ⟨m, hm⟩ := k0; exact DataW.trod_lt m _ _ _ hm
  obtain ⟨vl0, w0, wf0⟩ : ∃ ls, IsR W a0 len0 cap0 ls ∧ WfR ls := by obtain ⟨fuel, hf⟩ := h0; exact isR_of hf
  obtain ⟨a1, len1, cap1, rfl⟩ := okWide_slice Tryd.underlying23 (hval 1 23 v1 rfl rfl)
  have k1 := h1
  have lt1 : ∀ x ∈ p1, x.block < W.heap.size := by obtain ⟨m, hm⟩ := k1; exact DataW.trod_lt m _ _ _ hm
  obtain ⟨vl1, w1, wf1⟩ : ∃ ms, IsI .u8 W a1 len1 cap1 ms ∧ Bytes ms := by obtain ⟨fuel, hf⟩ := h1; exact isI_of hf
  clear hA0 hval0
  rw [MakeChecks.laidMetH_plain _ _ _ (by kernel_rfl)] at hL
  refine (itempartParts_walk (w := W) a0 len0 cap0 vl0 w0 wf0 a1 len1 cap1 vl1 w1 wf1 (ha_of (laidMet.reads hL (by simp [Rows.itempartPartsRow])))).mono fun e W' ⟨he, hb⟩ => ?_
  subst he
  exact ⟨_, rfl, _, _, _, [], _, [], hW', trodAll_mk1 (shut_bool Tryd.underlying4 _), (trodAll_cons_mk (Below.trod laidOut (by kernel_rfl) (of_decide_eq_true (by kernel_rfl)) k0 hb lt0) (trodAll_cons_mk (Below.trod laidOut (by kernel_rfl) (of_decide_eq_true (by kernel_rfl)) k1 hb lt1) trodAll_mk0)), rfl, hb.frame _, fun h => by cases h⟩

theorem itempartParts_row : Rows.ItempartPartsSaid :=
  OpenClaim.holds_of_wide 7 Tryd.f7 rfl rfl rfl rfl rfl rfl rfl ⟨rfl, rfl, rfl, rfl, rfl⟩ rfl rfl rfl rfl rfl (by kernel_rfl) Tryd.func7 (by kernel_rfl)
    (of_decide_eq_true (by kernel_rfl)) (by unfold Func.isWrapper; first | (rw [if_pos (by decide +kernel)]; kernel_rfl) | (rw [if_neg (by decide +kernel)]; exact ⟨rfl, rfl⟩))
    (fun os started H enc _ => itempartParts_lifted os started H enc)

theorem itempartParts_holds : Rows.ItempartPartsCardSaid :=
  Claim7.holds_tied_plain_at .later [] [.data] true (true, "9750523fcd669dd7fa8d8d0d70ca6073e419f1af66238f26be0cb97ebfd56da8") false itempartParts_row (fun _ h => by cases h) (by kernel_rfl) (fun _ h => by cases h) itempartParts_row_tie rfl ⟨rfl, rfl⟩ (by kernel_rfl) rfl
    (fun f fn hf hfn => by
      obtain rfl : f = 7 := Option.some.inj ((show Tryd.prog.funcNamed Rows.itempartPartsRow.func = some 7 by kernel_rfl).symm.trans hf) |>.symm
      obtain rfl : fn = Tryd.f7 := (Option.some.inj (Tryd.func7.symm.trans hfn)).symm
      exact ⟨by kernel_rfl, fun j t ht => by
        rw [Tryd.params7] at ht
        have hm : t ∈ [22, 23] := by simpa using Array.mem_of_getElem? ht
        have hall : ([22, 23].all fun u => !Tryd.prog.wantsStandIn u) = true := by kernel_rfl
        exact (show Tryd.prog.wantsStandIn t = false by simpa using List.all_eq_true.1 hall t hm)⟩)
    (by kernel_rfl)
#print axioms itempartParts_holds
end Go.Proofs.YtocjmbhfpofoeaaDoor
