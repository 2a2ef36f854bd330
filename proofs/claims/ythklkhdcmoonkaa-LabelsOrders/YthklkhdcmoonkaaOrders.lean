/- For every two rows of labels and any bytes: marshalled bytes are in the order of the labels, escaped texts in that of the texts, whatever lies behind them: LabelsOrders returns true, and its arguments read as before. No conditions. -/
import Derived.Test.YthklkhdcmoonkaaS
import Derived.Test.YthklkhdcmoonkaaT
namespace Go.Proofs.Ythklkhdcmoonkaa
open Go.ChangeShapes Go.WideShapes Go.ChangeAt Go.RowKit Go.Lib
open Go.ChangeMaps (open_string shut_string)

theorem esc_sl (v : ByteArray) {v' : ByteArray} (w : World) (h : v.size ≤ 50 ∧ v'.size ≤ 50) : Calls Try.prog 24 #[.string v] w fun e w' => ∃ u, e = .returned u ∧ Sl .u8 (E (nums v)) u w' ∧ Below w.heap.size w w' := by
  refine (escape_any v w (by omega)).mono ?_
  rintro e w' ⟨u, rfl, ho, hb⟩
  obtain ⟨g, cap, h1, h2, h3, h4, h5, h6, _⟩ := own_cell ho (by have := E_pos (nums v); omega)
  refine ⟨u, rfl, ⟨g, 0, cap, h1, h3, h4, h5, fun i hi => ?_⟩, hb⟩
  rw [Nat.zero_add]
  exact h6 _ _ (by simp [List.getD, hi])
theorem does_conv {o : Oper} {t : Nat} {a : Act} {w : World} {zs : List Int} (ho : o.op = Op.convert 32 9 (.tmp t)) (h : Sl .u8 zs (a.eval (.tmp t)) w) :
    does Try.prog o a.eval w (fun v w' => v = .string (strOfNums zs) ∧ Below w.heap.size w w') := by
  obtain ⟨g, off, cap, h1, h2, _, _, h5⟩ := h
  refine does_val (v := .string (strOfNums zs)) (w' := w) ?_ ⟨rfl, Below.refl _ _⟩
  have hc := conv_rd w (some ⟨g, off, none⟩) cap zs.length zs rfl (.inr ⟨g, off, rfl, h2, h5⟩)
  simp [execOp, ho, h1, hc]
theorem add_str {o : Oper} {t u : Nat} {a : Act} {w : World} {xs ys : List Int} (ho : o.op = Op.binOp .add 9 (.tmp t) (.tmp u) 9) (h1 : a.tmps[t]?.getD undef = .string (strOfNums xs)) (h2 : a.tmps[u]?.getD undef = .string (strOfNums ys)) (hs : (strOfNums xs).size + (strOfNums ys).size ≤ 1000) :
    (execOp a.eval o).run Try.prog w = .ok (.value (.string (strOfNums (xs ++ ys)))) w := by
  rw [← str_append]
  simp [execOp, ho, h1, h2, go_sem, binOp, Op.stringOp]
  first | done | omega

set_option linter.unusedSimpArgs false in
set_option linter.unusedVariables false in
set_option maxRecDepth 40000 in
set_option maxHeartbeats 16000000 in
theorem labelsOrders_walk (a1 : Option Addr) (n1 c1 : Nat) (l1 : List Lb) {w0 : World} (h1 : IsL w0 a1 n1 c1 l1) (wf1 : WfL l1) (a2 : Option Addr) (n2 c2 : Nat) (l2 : List Lb) (h2 : IsL w0 a2 n2 c2 l2) (wf2 : WfL l2) (ab : Option Addr) (nb cb : Nat) (bs : List Int) (hB : IsI .u8 w0 ab nb cb bs) (hby : Bytes bs) {w : World} (hw : w = w0) :
    Calls Try.prog 7 #[.slice a1 n1 c1, .slice a2 n2 c2, .slice ab nb cb] w fun r w' => r = .returned (.bool true) ∧ Below w.heap.size w w' := by
  subst hw
  have hbm := hB.hm
  have hbc := hB.hc
  unfold maxLen at hbm
  have HI : Hid ((IsL w a1 n1 c1 l1 ∧ WfL l1) ∧ (IsL w a2 n2 c2 l2 ∧ WfL l2) ∧ IsI .u8 w ab nb cb bs) := ⟨⟨h1, wf1⟩, ⟨h2, wf2⟩, hB⟩
  have HBY : Hid (Bytes bs) := hby
  clear h1 h2 wf1 wf2 hB hby
  go_enter Try.func7, Try.ntmps7
  go_wp2_with fail
  refine (awake_any _).mono ?_
  rintro e w1 ⟨rfl, b1⟩
  have H1 : Hid (IsL w1 a1 n1 c1 l1 ∧ IsL w1 a2 n2 c2 l2 ∧ IsI .u8 w1 ab nb cb bs ∧ Below w.heap.size w w1) := ⟨HI.out.1.1.below b1, HI.out.2.1.1.below b1, HI.out.2.2.below b1, b1⟩
  clear b1
  go_wp2_with fail
  refine (few_any a1 n1 c1 l1 w1 H1.out.1 HI.out.1.2).mono ?_
  rintro e w' ⟨rfl, hw'⟩; rw [hw']; clear hw' w'
  obtain ⟨f1, hf1⟩ : ∃ f, Hid (f = few l1) := ⟨_, rfl⟩
  rw [← hf1.out]
  go_wp2_with fail
  refine (few_any a2 n2 c2 l2 w1 H1.out.2.1 HI.out.2.1.2).mono ?_
  rintro e w' ⟨rfl, hw'⟩; rw [hw']; clear hw' w'
  obtain ⟨f2, hf2⟩ : ∃ f, Hid (f = few l2) := ⟨_, rfl⟩
  rw [← hf2.out]
  cases f1 with
  | false =>
    go_wp2_with fail
    go_ret
    exact ⟨rfl, H1.out.2.2.2⟩
  | true =>
  cases f2 with
  | false =>
    go_wp2_with fail
    go_ret
    exact ⟨rfl, H1.out.2.2.2⟩
  | true =>
  by_cases hb5 : 50 < nb
  · have hb5' : (50 : Int) < (nb : Int) := by omega
    go_wp2_with fail
    go_ret
    exact ⟨rfl, H1.out.2.2.2⟩
  have hb5' : ¬ (50 : Int) < (nb : Int) := by omega
  have HF : Hid ((∀ x ∈ l1, x.1.size ≤ 50 ∧ x.2.size ≤ 50) ∧ ∀ x ∈ l2, x.1.size ≤ 50 ∧ x.2.size ≤ 50) := ⟨(few_spec hf1.out.symm).2, (few_spec hf2.out.symm).2⟩
  have g1 := few_len H1.out.1 hf1.out.symm
  have g2 := few_len H1.out.2.1 hf2.out.symm
  clear hf1 hf2
  go_wp2_with fail
  refine (marshal_any a1 n1 c1 l1 w1 H1.out.1 HI.out.1.2).mono ?_
  rintro e w2 ⟨v2, rfl, ho2, hb2⟩
  obtain ⟨z2, hz2⟩ : ∃ z, z = (el (cnl l1)).length := ⟨_, rfl⟩
  rw [← hz2] at ho2
  obtain ⟨a3, c3, rfl, hI3⟩ := own_isI ho2
  have H2 : Hid (IsI .u8 w2 a3 z2 c3 (el (cnl l1)) ∧ Below w1.heap.size w1 w2) := ⟨hI3, hb2⟩
  clear ho2 hI3 hb2 hz2
  by_cases hm1 : May l1
  · have HM1 : Hid (May l1) := hm1
    clear hm1
    rw [cne_may HM1.out]
    go_wp2_with fail
    refine (marshal_any a2 n2 c2 l2 w2 (H1.out.2.1.below H2.out.2) HI.out.2.1.2).mono ?_
    rintro e w3 ⟨v3, rfl, ho3, hb3⟩
    obtain ⟨z3, hz3⟩ : ∃ z, z = (el (cnl l2)).length := ⟨_, rfl⟩
    rw [← hz3] at ho3
    obtain ⟨a4, c4, rfl, hI4⟩ := own_isI ho3
    have hb3' : Below w1.heap.size w1 w3 := H2.out.2.trans (hb3.mono H2.out.2.size)
    have H3 : Hid (IsI .u8 w3 a3 z2 c3 (el (cnl l1)) ∧ IsI .u8 w3 a4 z3 c4 (el (cnl l2)) ∧ Below w1.heap.size w1 w3) := ⟨H2.out.1.below hb3, hI4, hb3'⟩
    clear ho3 hI4 hb3 hb3' hz3
    by_cases hm2 : May l2
    · have HM2 : Hid (May l2) := hm2
      clear hm2
      rw [cne_may HM2.out]
      have HC1 : Hid (∀ W, Below w1.heap.size w1 W → Calls Try.prog 11 #[.slice a1 n1 c1] W (Cnd W l1)) := fun W h => canon_any a1 n1 c1 l1 W (H1.out.1.below h) HI.out.1.2
      have HC2 : Hid (∀ W, Below w1.heap.size w1 W → Calls Try.prog 11 #[.slice a2 n2 c2] W (Cnd W l2)) := fun W h => canon_any a2 n2 c2 l2 W (H1.out.2.1.below h) HI.out.2.1.2
      go_wp2_with fail
      refine Calls.mono (HC1.out w3 H3.out.2.2) ?_
      rintro e w4 ⟨v4, rfl, hN4, hb4⟩
      rw [cne_may HM1.out]
      rw [cnl_may HM1.out] at hN4
      obtain ⟨a5, c5, rfl, hI5, _⟩ := hN4
      have hcl1 : (canon l1).length = n1 := by rw [canon_len HM1.out.2.2.2]; exact H1.out.1.hl
      rw [hcl1] at hI5 ⊢
      have hb4' : Below w1.heap.size w1 w4 := H3.out.2.2.trans (hb4.mono H3.out.2.2.size)
      have H4 : Hid (IsI .u8 w4 a3 z2 c3 (el (cnl l1)) ∧ IsI .u8 w4 a4 z3 c4 (el (cnl l2)) ∧ IsL w4 a5 n1 c5 (canon l1) ∧ Below w1.heap.size w1 w4) := ⟨H3.out.1.below hb4, H3.out.2.1.below hb4, hI5, hb4'⟩
      clear hI5 hb4 hb4' hcl1 HC1
      go_wp2_with fail
      refine Calls.mono (HC2.out w4 H4.out.2.2.2) ?_
      rintro e w5 ⟨v5, rfl, hN5, hb5⟩
      rw [cne_may HM2.out]
      rw [cnl_may HM2.out] at hN5
      obtain ⟨a6, c6, rfl, hI6, _⟩ := hN5
      have hcl2 : (canon l2).length = n2 := by rw [canon_len HM2.out.2.2.2]; exact H1.out.2.1.hl
      rw [hcl2] at hI6 ⊢
      have hb5' : Below w1.heap.size w1 w5 := H4.out.2.2.2.trans (hb5.mono H4.out.2.2.2.size)
      have H5 : Hid (IsI .u8 w5 a3 z2 c3 (el (cnl l1)) ∧ IsI .u8 w5 a4 z3 c4 (el (cnl l2)) ∧ IsL w5 a5 n1 c5 (canon l1) ∧ IsL w5 a6 n2 c6 (canon l2) ∧ Below w1.heap.size w1 w5) := ⟨H4.out.1.below hb5, H4.out.2.1.below hb5, H4.out.2.2.1.below hb5, hI6, hb5'⟩
      clear hI6 hb5 hb5' hcl2 HC2
      obtain ⟨r, hr⟩ : ∃ r, Hid (r = cml (canon l1) (canon l2)) := ⟨_, rfl⟩
      have HCP : Hid (Calls Try.prog 26 #[.slice a5 n1 c5, .slice a6 n2 c6] w5 fun e w' => e = .returned (.int .i64 r) ∧ Below w5.heap.size w5 w') := by
        rw [hr.out]; exact compare_any a5 a6 n1 n2 c5 c6 _ _ w5 (by omega) (by omega) H5.out.2.2.1 H5.out.2.2.2.1
      have hlt : Op.bytesLess (strOfNums (el (cnl l1))).toList (strOfNums (el (cnl l2))).toList = decide (r < 0) := by
        rw [str_less (el_bytes _) (el_bytes _), el_order, cnl_may HM1.out, cnl_may HM2.out, hr.out]
      have heq : ((strOfNums (el (cnl l1))).toList == (strOfNums (el (cnl l2))).toList) = decide (r = 0) := by
        rw [str_eq (el_bytes _) (el_bytes _), cnl_may HM1.out, cnl_may HM2.out, hr.out, Bool.eq_iff_iff]
        simp only [decide_eq_true_eq, cml_zero]
        exact ⟨el_inj, fun e => by rw [e]⟩
      have hrc : r = -1 ∨ r = 0 ∨ r = 1 := by rw [hr.out]; exact cml_cases _ _
      clear hr
      go_wp2_with fail
      refine Calls.mono HCP.out ?_
      rintro e w6 ⟨rfl, hb6⟩
      have hcv1 := conv_rd w6 a3 c3 z2 (el (cnl l1)) H5.out.1.hl (H5.out.1.rd.below hb6)
      have hcv2 := conv_rd w6 a4 c4 z3 (el (cnl l2)) H5.out.2.1.hl (H5.out.2.1.rd.below hb6)
      generalize strOfNums (el (cnl l1)) = S1 at *
      generalize strOfNums (el (cnl l2)) = S2 at *
      have hb6' : Below w1.heap.size w1 w6 := H5.out.2.2.2.2.trans (hb6.mono H5.out.2.2.2.2.size)
      have HB : Hid (Below w.heap.size w w6 ∧ IsL w6 a1 n1 c1 l1 ∧ IsL w6 a2 n2 c2 l2 ∧ IsI .u8 w6 ab nb cb bs) := ⟨H1.out.2.2.2.trans (hb6'.mono H1.out.2.2.2.size), H1.out.1.below hb6', H1.out.2.1.below hb6', H1.out.2.2.1.below hb6'⟩
      clear hb6 hb6' HCP
      rcases hrc with rfl | rfl | rfl
      · rw [show decide ((-1 : Int) < 0) = true from rfl] at hlt
        rw [show decide ((-1 : Int) = 0) = false from rfl] at heq
        by_cases z1 : n1 = 0
        · have z1' : ((n1 : Int) == 0) = true := by simp [z1]
          clear z1
          go_wp2_with fail
          go_quiet (fail)
          go_wp2_with fail
          go_ret
          exact ⟨rfl, HB.out.1.trans ((below_dr _ _).mono HB.out.1.size)⟩
        have z1' : ((n1 : Int) == 0) = false := by simp; omega
        have n1p : (0 : Int) < (n1 : Int) := by omega
        by_cases z2 : n2 = 0
        · have z2' : ((n2 : Int) == 0) = true := by simp [z2]
          clear z1 z2
          go_wp2_with fail
          go_quiet (fail)
          go_wp2_with fail
          go_ret
          exact ⟨rfl, HB.out.1.trans ((below_dr _ _).mono HB.out.1.size)⟩
        have z2' : ((n2 : Int) == 0) = false := by simp; omega
        have n2p : (0 : Int) < (n2 : Int) := by omega
        have y1 : 0 < l1.length := by rw [HB.out.2.1.hl]; omega
        have y2 : 0 < l2.length := by rw [HB.out.2.2.1.hl]; omega
        obtain ⟨g1, o1, rfl, hg1, _, p1⟩ := HB.out.2.1.rd.at y1
        obtain ⟨g2, o2, rfl, hg2, _, q1⟩ := HB.out.2.2.1.rd.at y2
        rw [Nat.zero_mul, Nat.add_zero] at p1 q1
        have s1 := (HF.out.1 _ (getD_memL y1)).2
        have s2 := (HF.out.2 _ (getD_memL y2)).2
        generalize (l1.getD 0 l0).2 = v at p1 s1
        generalize (l2.getD 0 l0).2 = v' at q1 s2
        clear z1 z2 y1 y2
        by_cases ev : v = v'
        · have ev' : (v.toList == v'.toList) = true := by rw [beq_eq]; simpa using ev
          clear ev
          go_wp2_with fail
          go_quiet (fail)
          go_wp2_with fail
          go_ret
          exact ⟨rfl, HB.out.1.trans ((below_dr _ _).mono HB.out.1.size)⟩
        have ev' : (v.toList == v'.toList) = false := by rw [beq_eq]; simpa using ev
        have HEV : Hid (nums v ≠ nums v') := fun e => ev (nums_inj e)
        clear ev
        go_wp2_with fail
        go_quiet (fail)
        go_wp2_with fail
        have HV : Hid (v.size ≤ 50 ∧ v'.size ≤ 50) := ⟨s1, s2⟩
        have hbq : Below w6.heap.size w6 (w6.drewN nq) := below_dr _ _
        have HG : Hid (g1 < (w6.drewN nq).heap.size ∧ (w6.drewN nq).cell? ⟨g1, o1 + 1, none⟩ = some (.string v)) := ⟨hg1, p1⟩
        have HBB : Hid (IsI .u8 (w6.drewN nq) ab nb cb bs) := HB.out.2.2.2.below hbq
        have HSZ : Hid ((strOfNums (E (nums v))).size + (strOfNums bs).size ≤ 1000) := by
          show _ ≤ _
          have h1 := E_len (nums v)
          rw [nums_len] at h1
          rw [str_size, str_size, HBB.out.hl]
          omega
        refine wp_region_K (by kernel_rfl) (by kernel_rfl) [.eq (.slice (some ⟨g1, o1, none⟩) n1 c1), .eq (.pointer (some ⟨g1, o1, none⟩)), .eq (.pointer (some ⟨g1, o1 + 1, none⟩)), .eq (.string v), .rd .u8 (E (nums v)), .eq (.string (strOfNums (E (nums v)))), .eq (.slice ab nb cb), .eq (.string (strOfNums bs)), .eq (.string (strOfNums (E (nums v) ++ bs))), .eq (.string (strOfNums (E (nums v) ++ bs)))] _ (Below.refl _ _) (allOps_cons ?_ (allOps_cons ?_ (allOps_cons ?_ (allOps_cons ?_ (allOps_cons ?_ (allOps_cons ?_ (allOps_cons ?_ (allOps_cons ?_ (allOps_cons ?_ (allOps_cons ?_ allOps_nil)))))))))) ?_
        · intro a wx hS hb hf
          have s0 : a.eval (.tmp 0) = .slice (some ⟨g1, o1, none⟩) n1 c1 := (hf 0 (by kernel_rfl)).trans rfl
          rw [if_pos (wanted_none rfl)]
          refine does_val (v := .slice (some ⟨g1, o1, none⟩) n1 c1) (w' := wx) ?_ ⟨rfl, Below.refl _ _⟩
          have t0 := (ev_tmp a 0).symm.trans s0
          simp [execOp, go_sem, t0]
        · intro a wx hS hb hf
          have s105 : a.eval (.tmp 105) = .slice (some ⟨g1, o1, none⟩) n1 c1 := slot hb 0 0 105 rfl rfl
          rw [if_pos (wanted_none rfl)]
          refine does_val (v := .pointer (some ⟨g1, o1, none⟩)) (w' := wx) ?_ ⟨rfl, Below.refl _ _⟩
          have t105 := (ev_tmp a 105).symm.trans s105
          simp [execOp, go_sem, t105, n1p]
          first | done | (intro h; omega)
        · intro a wx hS hb hf
          have s106 : a.eval (.tmp 106) = .pointer (some ⟨g1, o1, none⟩) := slot hb 0 1 106 rfl rfl
          rw [if_pos (wanted_none rfl)]
          refine does_val (v := .pointer (some ⟨g1, o1 + 1, none⟩)) (w' := wx) ?_ ⟨rfl, Below.refl _ _⟩
          have t106 := (ev_tmp a 106).symm.trans s106
          simp [execOp, go_sem, t106]
        · intro a wx hS hb hf
          have s107 : a.eval (.tmp 107) = .pointer (some ⟨g1, o1 + 1, none⟩) := slot hb 0 2 107 rfl rfl
          rw [if_pos (wanted_none rfl)]
          have d0 := (hS.cell (p := ⟨g1, o1 + 1, none⟩) HG.out.1).trans HG.out.2
          refine does_val (v := .string v) (w' := wx) ?_ ⟨rfl, Below.refl _ _⟩
          have t107 := (ev_tmp a 107).symm.trans s107
          simp [execOp, go_sem, t107, d0]
        · intro a wx hS hb hf
          have s108 : a.eval (.tmp 108) = .string v := slot hb 0 3 108 rfl rfl
          rw [if_pos (wanted_none rfl)]
          have t108 := (ev_tmp a 108).symm.trans s108
          refine does_call (f := 24) (args := #[.string v]) (w' := wx) (by simp [execOp, resolve, invoke, go_sem, t108]) ?_
          refine (esc_sl v wx HV.out).mono ?_
          rintro r w' ⟨u, rfl, hs, hb'⟩
          exact ⟨_, rfl, hs, hb'⟩
        · intro a wx hS hb hf
          have s109 : Sl .u8 (E (nums v)) (a.eval (.tmp 109)) wx := slot hb 0 4 109 rfl rfl
          rw [if_pos (wanted_none rfl)]
          exact does_conv rfl s109
        · intro a wx hS hb hf
          have s2 : a.eval (.tmp 2) = .slice ab nb cb := (hf 2 (by kernel_rfl)).trans rfl
          rw [if_pos (wanted_none rfl)]
          refine does_val (v := .slice ab nb cb) (w' := wx) ?_ ⟨rfl, Below.refl _ _⟩
          have t2 := (ev_tmp a 2).symm.trans s2
          simp [execOp, go_sem, t2]
        · intro a wx hS hb hf
          have s111 : a.eval (.tmp 111) = .slice ab nb cb := slot hb 0 6 111 rfl rfl
          rw [if_pos (wanted_none rfl)]
          refine does_val (v := .string (strOfNums bs)) (w' := wx) ?_ ⟨rfl, Below.refl _ _⟩
          have t111 := (ev_tmp a 111).symm.trans s111
          have hc := conv_rd wx ab cb nb bs HBB.out.hl (HBB.out.rd.below hS)
          simp [execOp, go_sem, t111, hc]
        · intro a wx hS hb hf
          have s110 : a.eval (.tmp 110) = .string (strOfNums (E (nums v))) := slot hb 0 5 110 rfl rfl
          have s112 : a.eval (.tmp 112) = .string (strOfNums bs) := slot hb 1 7 112 rfl rfl
          rw [if_pos (wanted_none rfl)]
          refine does_val (v := .string (strOfNums (E (nums v) ++ bs))) (w' := wx) ?_ ⟨rfl, Below.refl _ _⟩
          have t110 := (ev_tmp a 110).symm.trans s110
          have t112 := (ev_tmp a 112).symm.trans s112
          exact add_str rfl t110 t112 HSZ.out
        · intro a wx hS hb hf
          have s113 : a.eval (.tmp 113) = .string (strOfNums (E (nums v) ++ bs)) := slot hb 0 8 113 rfl rfl
          rw [if_pos (wanted_none rfl)]
          refine does_val (v := .string (strOfNums (E (nums v) ++ bs))) (w' := wx) ?_ ⟨rfl, Below.refl _ _⟩
          have t113 := (ev_tmp a 113).symm.trans s113
          simp [execOp, go_sem, t113]
        intro a u hbu hts hd hdone hfree
        have e19 : a.eval (.tmp 19) = .string (strOfNums (E (nums v) ++ bs)) := done_slot hdone 9 19 rfl
        obtain ⟨x105, ex105⟩ : ∃ x, a.eval (.tmp 105) = x := ⟨_, rfl⟩
        obtain ⟨x106, ex106⟩ : ∃ x, a.eval (.tmp 106) = x := ⟨_, rfl⟩
        obtain ⟨x107, ex107⟩ : ∃ x, a.eval (.tmp 107) = x := ⟨_, rfl⟩
        obtain ⟨x108, ex108⟩ : ∃ x, a.eval (.tmp 108) = x := ⟨_, rfl⟩
        obtain ⟨x109, ex109⟩ : ∃ x, a.eval (.tmp 109) = x := ⟨_, rfl⟩
        obtain ⟨x110, ex110⟩ : ∃ x, a.eval (.tmp 110) = x := ⟨_, rfl⟩
        obtain ⟨x111, ex111⟩ : ∃ x, a.eval (.tmp 111) = x := ⟨_, rfl⟩
        obtain ⟨x112, ex112⟩ : ∃ x, a.eval (.tmp 112) = x := ⟨_, rfl⟩
        obtain ⟨x113, ex113⟩ : ∃ x, a.eval (.tmp 113) = x := ⟨_, rfl⟩
        have hact := act_puts hts hd hfree
        simp only [putAll, List.foldl_cons, List.foldl_nil, ex105, ex106, ex107, ex108, ex109, ex110, ex111, ex112, ex113, e19, Act.put] at hact
        simp at hact
        clear ex105 ex106 ex107 ex108 ex109 ex110 ex111 ex112 ex113 e19 hts hd hdone hfree
        subst hact
        have hbU : Below w6.heap.size w6 u := hbq.trans (hbu.mono hbq.size)
        have p1u := (hbU.cell (p := ⟨g1, o1 + 1, none⟩) hg1).trans p1
        have q1u := (hbU.cell (p := ⟨g2, o2 + 1, none⟩) hg2).trans q1
        clear hbu p1 q1 hbq
        go_wp2_with fail
        refine (escape_any v' u (by omega)).mono ?_
        rintro e wy ⟨vy, rfl, hoy, hby'⟩
        obtain ⟨ay, cy, rfl, hIy⟩ := own_isI hoy
        have hcy := conv_rd wy ay cy (E (nums v')).length (E (nums v')) rfl hIy.rd
        have hg1u : g1 < u.heap.size := Nat.lt_of_lt_of_le hg1 hbU.size
        have hg2u : g2 < u.heap.size := Nat.lt_of_lt_of_le hg2 hbU.size
        have p1y := (hby'.cell (p := ⟨g1, o1 + 1, none⟩) hg1u).trans p1u
        have q1y := (hby'.cell (p := ⟨g2, o2 + 1, none⟩) hg2u).trans q1u
        have hbY : Hid (Below w.heap.size w wy) := (HB.out.1.trans (hbU.mono HB.out.1.size)).trans (hby'.mono (Nat.le_trans HB.out.1.size hbU.size))
        obtain ⟨ey, hey⟩ : ∃ n, n = (E (nums v')).length := ⟨_, rfl⟩
        rw [← hey] at hcy ⊢
        clear hey hoy hIy hby' hbU p1u q1u
        have hlt : Op.bytesLess (strOfNums (E (nums v) ++ bs)).toList (strOfNums (E (nums v'))).toList = Op.bytesLess v.toList v'.toList := by
          have := E_order (nums v) (nums v') bs [] (nums_bytes v) (nums_bytes v') HEV.out
          rw [List.append_nil] at this
          rw [str_less (bytes_append (E_bytes (nums_bytes v)) HBY.out) (E_bytes (nums_bytes v')), bl_eq, this]
        generalize strOfNums (E (nums v) ++ bs) = SS at hlt ⊢
        generalize strOfNums (E (nums v')) = TT at hlt hcy ⊢
        obtain ⟨bb, hbb⟩ : ∃ b, Op.bytesLess v.toList v'.toList = b := ⟨_, rfl⟩
        rw [hbb] at hlt
        go_wp2_with fail
        go_quiet (fail)
        go_wp2_with fail
        go_ret
        exact ⟨by simp, hbY.out.trans ((below_dr _ _).mono hbY.out.size)⟩
      · rw [show decide ((0 : Int) < 0) = false from rfl] at hlt
        rw [show decide ((0 : Int) = 0) = true from rfl] at heq
        by_cases z1 : n1 = 0
        · have z1' : ((n1 : Int) == 0) = true := by simp [z1]
          clear z1
          go_wp2_with fail
          go_quiet (fail)
          go_wp2_with fail
          go_ret
          exact ⟨rfl, HB.out.1.trans ((below_dr _ _).mono HB.out.1.size)⟩
        have z1' : ((n1 : Int) == 0) = false := by simp; omega
        have n1p : (0 : Int) < (n1 : Int) := by omega
        by_cases z2 : n2 = 0
        · have z2' : ((n2 : Int) == 0) = true := by simp [z2]
          clear z1 z2
          go_wp2_with fail
          go_quiet (fail)
          go_wp2_with fail
          go_ret
          exact ⟨rfl, HB.out.1.trans ((below_dr _ _).mono HB.out.1.size)⟩
        have z2' : ((n2 : Int) == 0) = false := by simp; omega
        have n2p : (0 : Int) < (n2 : Int) := by omega
        have y1 : 0 < l1.length := by rw [HB.out.2.1.hl]; omega
        have y2 : 0 < l2.length := by rw [HB.out.2.2.1.hl]; omega
        obtain ⟨g1, o1, rfl, hg1, _, p1⟩ := HB.out.2.1.rd.at y1
        obtain ⟨g2, o2, rfl, hg2, _, q1⟩ := HB.out.2.2.1.rd.at y2
        rw [Nat.zero_mul, Nat.add_zero] at p1 q1
        have s1 := (HF.out.1 _ (getD_memL y1)).2
        have s2 := (HF.out.2 _ (getD_memL y2)).2
        generalize (l1.getD 0 l0).2 = v at p1 s1
        generalize (l2.getD 0 l0).2 = v' at q1 s2
        clear z1 z2 y1 y2
        by_cases ev : v = v'
        · have ev' : (v.toList == v'.toList) = true := by rw [beq_eq]; simpa using ev
          clear ev
          go_wp2_with fail
          go_quiet (fail)
          go_wp2_with fail
          go_ret
          exact ⟨rfl, HB.out.1.trans ((below_dr _ _).mono HB.out.1.size)⟩
        have ev' : (v.toList == v'.toList) = false := by rw [beq_eq]; simpa using ev
        have HEV : Hid (nums v ≠ nums v') := fun e => ev (nums_inj e)
        clear ev
        go_wp2_with fail
        go_quiet (fail)
        go_wp2_with fail
        have HV : Hid (v.size ≤ 50 ∧ v'.size ≤ 50) := ⟨s1, s2⟩
        have hbq : Below w6.heap.size w6 (w6.drewN nq) := below_dr _ _
        have HG : Hid (g1 < (w6.drewN nq).heap.size ∧ (w6.drewN nq).cell? ⟨g1, o1 + 1, none⟩ = some (.string v)) := ⟨hg1, p1⟩
        have HBB : Hid (IsI .u8 (w6.drewN nq) ab nb cb bs) := HB.out.2.2.2.below hbq
        have HSZ : Hid ((strOfNums (E (nums v))).size + (strOfNums bs).size ≤ 1000) := by
          show _ ≤ _
          have h1 := E_len (nums v)
          rw [nums_len] at h1
          rw [str_size, str_size, HBB.out.hl]
          omega
        refine wp_region_K (by kernel_rfl) (by kernel_rfl) [.eq (.slice (some ⟨g1, o1, none⟩) n1 c1), .eq (.pointer (some ⟨g1, o1, none⟩)), .eq (.pointer (some ⟨g1, o1 + 1, none⟩)), .eq (.string v), .rd .u8 (E (nums v)), .eq (.string (strOfNums (E (nums v)))), .eq (.slice ab nb cb), .eq (.string (strOfNums bs)), .eq (.string (strOfNums (E (nums v) ++ bs))), .eq (.string (strOfNums (E (nums v) ++ bs)))] _ (Below.refl _ _) (allOps_cons ?_ (allOps_cons ?_ (allOps_cons ?_ (allOps_cons ?_ (allOps_cons ?_ (allOps_cons ?_ (allOps_cons ?_ (allOps_cons ?_ (allOps_cons ?_ (allOps_cons ?_ allOps_nil)))))))))) ?_
        · intro a wx hS hb hf
          have s0 : a.eval (.tmp 0) = .slice (some ⟨g1, o1, none⟩) n1 c1 := (hf 0 (by kernel_rfl)).trans rfl
          rw [if_pos (wanted_none rfl)]
          refine does_val (v := .slice (some ⟨g1, o1, none⟩) n1 c1) (w' := wx) ?_ ⟨rfl, Below.refl _ _⟩
          have t0 := (ev_tmp a 0).symm.trans s0
          simp [execOp, go_sem, t0]
        · intro a wx hS hb hf
          have s105 : a.eval (.tmp 105) = .slice (some ⟨g1, o1, none⟩) n1 c1 := slot hb 0 0 105 rfl rfl
          rw [if_pos (wanted_none rfl)]
          refine does_val (v := .pointer (some ⟨g1, o1, none⟩)) (w' := wx) ?_ ⟨rfl, Below.refl _ _⟩
          have t105 := (ev_tmp a 105).symm.trans s105
          simp [execOp, go_sem, t105, n1p]
          first | done | (intro h; omega)
        · intro a wx hS hb hf
          have s106 : a.eval (.tmp 106) = .pointer (some ⟨g1, o1, none⟩) := slot hb 0 1 106 rfl rfl
          rw [if_pos (wanted_none rfl)]
          refine does_val (v := .pointer (some ⟨g1, o1 + 1, none⟩)) (w' := wx) ?_ ⟨rfl, Below.refl _ _⟩
          have t106 := (ev_tmp a 106).symm.trans s106
          simp [execOp, go_sem, t106]
        · intro a wx hS hb hf
          have s107 : a.eval (.tmp 107) = .pointer (some ⟨g1, o1 + 1, none⟩) := slot hb 0 2 107 rfl rfl
          rw [if_pos (wanted_none rfl)]
          have d0 := (hS.cell (p := ⟨g1, o1 + 1, none⟩) HG.out.1).trans HG.out.2
          refine does_val (v := .string v) (w' := wx) ?_ ⟨rfl, Below.refl _ _⟩
          have t107 := (ev_tmp a 107).symm.trans s107
          simp [execOp, go_sem, t107, d0]
        · intro a wx hS hb hf
          have s108 : a.eval (.tmp 108) = .string v := slot hb 0 3 108 rfl rfl
          rw [if_pos (wanted_none rfl)]
          have t108 := (ev_tmp a 108).symm.trans s108
          refine does_call (f := 24) (args := #[.string v]) (w' := wx) (by simp [execOp, resolve, invoke, go_sem, t108]) ?_
          refine (esc_sl v wx HV.out).mono ?_
          rintro r w' ⟨u, rfl, hs, hb'⟩
          exact ⟨_, rfl, hs, hb'⟩
        · intro a wx hS hb hf
          have s109 : Sl .u8 (E (nums v)) (a.eval (.tmp 109)) wx := slot hb 0 4 109 rfl rfl
          rw [if_pos (wanted_none rfl)]
          exact does_conv rfl s109
        · intro a wx hS hb hf
          have s2 : a.eval (.tmp 2) = .slice ab nb cb := (hf 2 (by kernel_rfl)).trans rfl
          rw [if_pos (wanted_none rfl)]
          refine does_val (v := .slice ab nb cb) (w' := wx) ?_ ⟨rfl, Below.refl _ _⟩
          have t2 := (ev_tmp a 2).symm.trans s2
          simp [execOp, go_sem, t2]
        · intro a wx hS hb hf
          have s111 : a.eval (.tmp 111) = .slice ab nb cb := slot hb 0 6 111 rfl rfl
          rw [if_pos (wanted_none rfl)]
          refine does_val (v := .string (strOfNums bs)) (w' := wx) ?_ ⟨rfl, Below.refl _ _⟩
          have t111 := (ev_tmp a 111).symm.trans s111
          have hc := conv_rd wx ab cb nb bs HBB.out.hl (HBB.out.rd.below hS)
          simp [execOp, go_sem, t111, hc]
        · intro a wx hS hb hf
          have s110 : a.eval (.tmp 110) = .string (strOfNums (E (nums v))) := slot hb 0 5 110 rfl rfl
          have s112 : a.eval (.tmp 112) = .string (strOfNums bs) := slot hb 1 7 112 rfl rfl
          rw [if_pos (wanted_none rfl)]
          refine does_val (v := .string (strOfNums (E (nums v) ++ bs))) (w' := wx) ?_ ⟨rfl, Below.refl _ _⟩
          have t110 := (ev_tmp a 110).symm.trans s110
          have t112 := (ev_tmp a 112).symm.trans s112
          exact add_str rfl t110 t112 HSZ.out
        · intro a wx hS hb hf
          have s113 : a.eval (.tmp 113) = .string (strOfNums (E (nums v) ++ bs)) := slot hb 0 8 113 rfl rfl
          rw [if_pos (wanted_none rfl)]
          refine does_val (v := .string (strOfNums (E (nums v) ++ bs))) (w' := wx) ?_ ⟨rfl, Below.refl _ _⟩
          have t113 := (ev_tmp a 113).symm.trans s113
          simp [execOp, go_sem, t113]
        intro a u hbu hts hd hdone hfree
        have e19 : a.eval (.tmp 19) = .string (strOfNums (E (nums v) ++ bs)) := done_slot hdone 9 19 rfl
        obtain ⟨x105, ex105⟩ : ∃ x, a.eval (.tmp 105) = x := ⟨_, rfl⟩
        obtain ⟨x106, ex106⟩ : ∃ x, a.eval (.tmp 106) = x := ⟨_, rfl⟩
        obtain ⟨x107, ex107⟩ : ∃ x, a.eval (.tmp 107) = x := ⟨_, rfl⟩
        obtain ⟨x108, ex108⟩ : ∃ x, a.eval (.tmp 108) = x := ⟨_, rfl⟩
        obtain ⟨x109, ex109⟩ : ∃ x, a.eval (.tmp 109) = x := ⟨_, rfl⟩
        obtain ⟨x110, ex110⟩ : ∃ x, a.eval (.tmp 110) = x := ⟨_, rfl⟩
        obtain ⟨x111, ex111⟩ : ∃ x, a.eval (.tmp 111) = x := ⟨_, rfl⟩
        obtain ⟨x112, ex112⟩ : ∃ x, a.eval (.tmp 112) = x := ⟨_, rfl⟩
        obtain ⟨x113, ex113⟩ : ∃ x, a.eval (.tmp 113) = x := ⟨_, rfl⟩
        have hact := act_puts hts hd hfree
        simp only [putAll, List.foldl_cons, List.foldl_nil, ex105, ex106, ex107, ex108, ex109, ex110, ex111, ex112, ex113, e19, Act.put] at hact
        simp at hact
        clear ex105 ex106 ex107 ex108 ex109 ex110 ex111 ex112 ex113 e19 hts hd hdone hfree
        subst hact
        have hbU : Below w6.heap.size w6 u := hbq.trans (hbu.mono hbq.size)
        have p1u := (hbU.cell (p := ⟨g1, o1 + 1, none⟩) hg1).trans p1
        have q1u := (hbU.cell (p := ⟨g2, o2 + 1, none⟩) hg2).trans q1
        clear hbu p1 q1 hbq
        go_wp2_with fail
        refine (escape_any v' u (by omega)).mono ?_
        rintro e wy ⟨vy, rfl, hoy, hby'⟩
        obtain ⟨ay, cy, rfl, hIy⟩ := own_isI hoy
        have hcy := conv_rd wy ay cy (E (nums v')).length (E (nums v')) rfl hIy.rd
        have hg1u : g1 < u.heap.size := Nat.lt_of_lt_of_le hg1 hbU.size
        have hg2u : g2 < u.heap.size := Nat.lt_of_lt_of_le hg2 hbU.size
        have p1y := (hby'.cell (p := ⟨g1, o1 + 1, none⟩) hg1u).trans p1u
        have q1y := (hby'.cell (p := ⟨g2, o2 + 1, none⟩) hg2u).trans q1u
        have hbY : Hid (Below w.heap.size w wy) := (HB.out.1.trans (hbU.mono HB.out.1.size)).trans (hby'.mono (Nat.le_trans HB.out.1.size hbU.size))
        obtain ⟨ey, hey⟩ : ∃ n, n = (E (nums v')).length := ⟨_, rfl⟩
        rw [← hey] at hcy ⊢
        clear hey hoy hIy hby' hbU p1u q1u
        have hlt : Op.bytesLess (strOfNums (E (nums v) ++ bs)).toList (strOfNums (E (nums v'))).toList = Op.bytesLess v.toList v'.toList := by
          have := E_order (nums v) (nums v') bs [] (nums_bytes v) (nums_bytes v') HEV.out
          rw [List.append_nil] at this
          rw [str_less (bytes_append (E_bytes (nums_bytes v)) HBY.out) (E_bytes (nums_bytes v')), bl_eq, this]
        generalize strOfNums (E (nums v) ++ bs) = SS at hlt ⊢
        generalize strOfNums (E (nums v')) = TT at hlt hcy ⊢
        obtain ⟨bb, hbb⟩ : ∃ b, Op.bytesLess v.toList v'.toList = b := ⟨_, rfl⟩
        rw [hbb] at hlt
        go_wp2_with fail
        go_quiet (fail)
        go_wp2_with fail
        go_ret
        exact ⟨by simp, hbY.out.trans ((below_dr _ _).mono hbY.out.size)⟩
      · rw [show decide ((1 : Int) < 0) = false from rfl] at hlt
        rw [show decide ((1 : Int) = 0) = false from rfl] at heq
        by_cases z1 : n1 = 0
        · have z1' : ((n1 : Int) == 0) = true := by simp [z1]
          clear z1
          go_wp2_with fail
          go_quiet (fail)
          go_wp2_with fail
          go_ret
          exact ⟨rfl, HB.out.1.trans ((below_dr _ _).mono HB.out.1.size)⟩
        have z1' : ((n1 : Int) == 0) = false := by simp; omega
        have n1p : (0 : Int) < (n1 : Int) := by omega
        by_cases z2 : n2 = 0
        · have z2' : ((n2 : Int) == 0) = true := by simp [z2]
          clear z1 z2
          go_wp2_with fail
          go_quiet (fail)
          go_wp2_with fail
          go_ret
          exact ⟨rfl, HB.out.1.trans ((below_dr _ _).mono HB.out.1.size)⟩
        have z2' : ((n2 : Int) == 0) = false := by simp; omega
        have n2p : (0 : Int) < (n2 : Int) := by omega
        have y1 : 0 < l1.length := by rw [HB.out.2.1.hl]; omega
        have y2 : 0 < l2.length := by rw [HB.out.2.2.1.hl]; omega
        obtain ⟨g1, o1, rfl, hg1, _, p1⟩ := HB.out.2.1.rd.at y1
        obtain ⟨g2, o2, rfl, hg2, _, q1⟩ := HB.out.2.2.1.rd.at y2
        rw [Nat.zero_mul, Nat.add_zero] at p1 q1
        have s1 := (HF.out.1 _ (getD_memL y1)).2
        have s2 := (HF.out.2 _ (getD_memL y2)).2
        generalize (l1.getD 0 l0).2 = v at p1 s1
        generalize (l2.getD 0 l0).2 = v' at q1 s2
        clear z1 z2 y1 y2
        by_cases ev : v = v'
        · have ev' : (v.toList == v'.toList) = true := by rw [beq_eq]; simpa using ev
          clear ev
          go_wp2_with fail
          go_quiet (fail)
          go_wp2_with fail
          go_ret
          exact ⟨rfl, HB.out.1.trans ((below_dr _ _).mono HB.out.1.size)⟩
        have ev' : (v.toList == v'.toList) = false := by rw [beq_eq]; simpa using ev
        have HEV : Hid (nums v ≠ nums v') := fun e => ev (nums_inj e)
        clear ev
        go_wp2_with fail
        go_quiet (fail)
        go_wp2_with fail
        have HV : Hid (v.size ≤ 50 ∧ v'.size ≤ 50) := ⟨s1, s2⟩
        have hbq : Below w6.heap.size w6 (w6.drewN nq) := below_dr _ _
        have HG : Hid (g1 < (w6.drewN nq).heap.size ∧ (w6.drewN nq).cell? ⟨g1, o1 + 1, none⟩ = some (.string v)) := ⟨hg1, p1⟩
        have HBB : Hid (IsI .u8 (w6.drewN nq) ab nb cb bs) := HB.out.2.2.2.below hbq
        have HSZ : Hid ((strOfNums (E (nums v))).size + (strOfNums bs).size ≤ 1000) := by
          show _ ≤ _
          have h1 := E_len (nums v)
          rw [nums_len] at h1
          rw [str_size, str_size, HBB.out.hl]
          omega
        refine wp_region_K (by kernel_rfl) (by kernel_rfl) [.eq (.slice (some ⟨g1, o1, none⟩) n1 c1), .eq (.pointer (some ⟨g1, o1, none⟩)), .eq (.pointer (some ⟨g1, o1 + 1, none⟩)), .eq (.string v), .rd .u8 (E (nums v)), .eq (.string (strOfNums (E (nums v)))), .eq (.slice ab nb cb), .eq (.string (strOfNums bs)), .eq (.string (strOfNums (E (nums v) ++ bs))), .eq (.string (strOfNums (E (nums v) ++ bs)))] _ (Below.refl _ _) (allOps_cons ?_ (allOps_cons ?_ (allOps_cons ?_ (allOps_cons ?_ (allOps_cons ?_ (allOps_cons ?_ (allOps_cons ?_ (allOps_cons ?_ (allOps_cons ?_ (allOps_cons ?_ allOps_nil)))))))))) ?_
        · intro a wx hS hb hf
          have s0 : a.eval (.tmp 0) = .slice (some ⟨g1, o1, none⟩) n1 c1 := (hf 0 (by kernel_rfl)).trans rfl
          rw [if_pos (wanted_none rfl)]
          refine does_val (v := .slice (some ⟨g1, o1, none⟩) n1 c1) (w' := wx) ?_ ⟨rfl, Below.refl _ _⟩
          have t0 := (ev_tmp a 0).symm.trans s0
          simp [execOp, go_sem, t0]
        · intro a wx hS hb hf
          have s105 : a.eval (.tmp 105) = .slice (some ⟨g1, o1, none⟩) n1 c1 := slot hb 0 0 105 rfl rfl
          rw [if_pos (wanted_none rfl)]
          refine does_val (v := .pointer (some ⟨g1, o1, none⟩)) (w' := wx) ?_ ⟨rfl, Below.refl _ _⟩
          have t105 := (ev_tmp a 105).symm.trans s105
          simp [execOp, go_sem, t105, n1p]
          first | done | (intro h; omega)
        · intro a wx hS hb hf
          have s106 : a.eval (.tmp 106) = .pointer (some ⟨g1, o1, none⟩) := slot hb 0 1 106 rfl rfl
          rw [if_pos (wanted_none rfl)]
          refine does_val (v := .pointer (some ⟨g1, o1 + 1, none⟩)) (w' := wx) ?_ ⟨rfl, Below.refl _ _⟩
          have t106 := (ev_tmp a 106).symm.trans s106
          simp [execOp, go_sem, t106]
        · intro a wx hS hb hf
          have s107 : a.eval (.tmp 107) = .pointer (some ⟨g1, o1 + 1, none⟩) := slot hb 0 2 107 rfl rfl
          rw [if_pos (wanted_none rfl)]
          have d0 := (hS.cell (p := ⟨g1, o1 + 1, none⟩) HG.out.1).trans HG.out.2
          refine does_val (v := .string v) (w' := wx) ?_ ⟨rfl, Below.refl _ _⟩
          have t107 := (ev_tmp a 107).symm.trans s107
          simp [execOp, go_sem, t107, d0]
        · intro a wx hS hb hf
          have s108 : a.eval (.tmp 108) = .string v := slot hb 0 3 108 rfl rfl
          rw [if_pos (wanted_none rfl)]
          have t108 := (ev_tmp a 108).symm.trans s108
          refine does_call (f := 24) (args := #[.string v]) (w' := wx) (by simp [execOp, resolve, invoke, go_sem, t108]) ?_
          refine (esc_sl v wx HV.out).mono ?_
          rintro r w' ⟨u, rfl, hs, hb'⟩
          exact ⟨_, rfl, hs, hb'⟩
        · intro a wx hS hb hf
          have s109 : Sl .u8 (E (nums v)) (a.eval (.tmp 109)) wx := slot hb 0 4 109 rfl rfl
          rw [if_pos (wanted_none rfl)]
          exact does_conv rfl s109
        · intro a wx hS hb hf
          have s2 : a.eval (.tmp 2) = .slice ab nb cb := (hf 2 (by kernel_rfl)).trans rfl
          rw [if_pos (wanted_none rfl)]
          refine does_val (v := .slice ab nb cb) (w' := wx) ?_ ⟨rfl, Below.refl _ _⟩
          have t2 := (ev_tmp a 2).symm.trans s2
          simp [execOp, go_sem, t2]
        · intro a wx hS hb hf
          have s111 : a.eval (.tmp 111) = .slice ab nb cb := slot hb 0 6 111 rfl rfl
          rw [if_pos (wanted_none rfl)]
          refine does_val (v := .string (strOfNums bs)) (w' := wx) ?_ ⟨rfl, Below.refl _ _⟩
          have t111 := (ev_tmp a 111).symm.trans s111
          have hc := conv_rd wx ab cb nb bs HBB.out.hl (HBB.out.rd.below hS)
          simp [execOp, go_sem, t111, hc]
        · intro a wx hS hb hf
          have s110 : a.eval (.tmp 110) = .string (strOfNums (E (nums v))) := slot hb 0 5 110 rfl rfl
          have s112 : a.eval (.tmp 112) = .string (strOfNums bs) := slot hb 1 7 112 rfl rfl
          rw [if_pos (wanted_none rfl)]
          refine does_val (v := .string (strOfNums (E (nums v) ++ bs))) (w' := wx) ?_ ⟨rfl, Below.refl _ _⟩
          have t110 := (ev_tmp a 110).symm.trans s110
          have t112 := (ev_tmp a 112).symm.trans s112
          exact add_str rfl t110 t112 HSZ.out
        · intro a wx hS hb hf
          have s113 : a.eval (.tmp 113) = .string (strOfNums (E (nums v) ++ bs)) := slot hb 0 8 113 rfl rfl
          rw [if_pos (wanted_none rfl)]
          refine does_val (v := .string (strOfNums (E (nums v) ++ bs))) (w' := wx) ?_ ⟨rfl, Below.refl _ _⟩
          have t113 := (ev_tmp a 113).symm.trans s113
          simp [execOp, go_sem, t113]
        intro a u hbu hts hd hdone hfree
        have e19 : a.eval (.tmp 19) = .string (strOfNums (E (nums v) ++ bs)) := done_slot hdone 9 19 rfl
        obtain ⟨x105, ex105⟩ : ∃ x, a.eval (.tmp 105) = x := ⟨_, rfl⟩
        obtain ⟨x106, ex106⟩ : ∃ x, a.eval (.tmp 106) = x := ⟨_, rfl⟩
        obtain ⟨x107, ex107⟩ : ∃ x, a.eval (.tmp 107) = x := ⟨_, rfl⟩
        obtain ⟨x108, ex108⟩ : ∃ x, a.eval (.tmp 108) = x := ⟨_, rfl⟩
        obtain ⟨x109, ex109⟩ : ∃ x, a.eval (.tmp 109) = x := ⟨_, rfl⟩
        obtain ⟨x110, ex110⟩ : ∃ x, a.eval (.tmp 110) = x := ⟨_, rfl⟩
        obtain ⟨x111, ex111⟩ : ∃ x, a.eval (.tmp 111) = x := ⟨_, rfl⟩
        obtain ⟨x112, ex112⟩ : ∃ x, a.eval (.tmp 112) = x := ⟨_, rfl⟩
        obtain ⟨x113, ex113⟩ : ∃ x, a.eval (.tmp 113) = x := ⟨_, rfl⟩
        have hact := act_puts hts hd hfree
        simp only [putAll, List.foldl_cons, List.foldl_nil, ex105, ex106, ex107, ex108, ex109, ex110, ex111, ex112, ex113, e19, Act.put] at hact
        simp at hact
        clear ex105 ex106 ex107 ex108 ex109 ex110 ex111 ex112 ex113 e19 hts hd hdone hfree
        subst hact
        have hbU : Below w6.heap.size w6 u := hbq.trans (hbu.mono hbq.size)
        have p1u := (hbU.cell (p := ⟨g1, o1 + 1, none⟩) hg1).trans p1
        have q1u := (hbU.cell (p := ⟨g2, o2 + 1, none⟩) hg2).trans q1
        clear hbu p1 q1 hbq
        go_wp2_with fail
        refine (escape_any v' u (by omega)).mono ?_
        rintro e wy ⟨vy, rfl, hoy, hby'⟩
        obtain ⟨ay, cy, rfl, hIy⟩ := own_isI hoy
        have hcy := conv_rd wy ay cy (E (nums v')).length (E (nums v')) rfl hIy.rd
        have hg1u : g1 < u.heap.size := Nat.lt_of_lt_of_le hg1 hbU.size
        have hg2u : g2 < u.heap.size := Nat.lt_of_lt_of_le hg2 hbU.size
        have p1y := (hby'.cell (p := ⟨g1, o1 + 1, none⟩) hg1u).trans p1u
        have q1y := (hby'.cell (p := ⟨g2, o2 + 1, none⟩) hg2u).trans q1u
        have hbY : Hid (Below w.heap.size w wy) := (HB.out.1.trans (hbU.mono HB.out.1.size)).trans (hby'.mono (Nat.le_trans HB.out.1.size hbU.size))
        obtain ⟨ey, hey⟩ : ∃ n, n = (E (nums v')).length := ⟨_, rfl⟩
        rw [← hey] at hcy ⊢
        clear hey hoy hIy hby' hbU p1u q1u
        have hlt : Op.bytesLess (strOfNums (E (nums v) ++ bs)).toList (strOfNums (E (nums v'))).toList = Op.bytesLess v.toList v'.toList := by
          have := E_order (nums v) (nums v') bs [] (nums_bytes v) (nums_bytes v') HEV.out
          rw [List.append_nil] at this
          rw [str_less (bytes_append (E_bytes (nums_bytes v)) HBY.out) (E_bytes (nums_bytes v')), bl_eq, this]
        generalize strOfNums (E (nums v) ++ bs) = SS at hlt ⊢
        generalize strOfNums (E (nums v')) = TT at hlt hcy ⊢
        obtain ⟨bb, hbb⟩ : ∃ b, Op.bytesLess v.toList v'.toList = b := ⟨_, rfl⟩
        rw [hbb] at hlt
        go_wp2_with fail
        go_quiet (fail)
        go_wp2_with fail
        go_ret
        exact ⟨by simp, hbY.out.trans ((below_dr _ _).mono hbY.out.size)⟩
    · rw [cne_not hm2]
      clear hm2
      have HB : Hid (Below w.heap.size w w3 ∧ IsL w3 a1 n1 c1 l1 ∧ IsL w3 a2 n2 c2 l2 ∧ IsI .u8 w3 ab nb cb bs) := ⟨H1.out.2.2.2.trans (H3.out.2.2.mono H1.out.2.2.2.size), H1.out.1.below H3.out.2.2, H1.out.2.1.below H3.out.2.2, H1.out.2.2.1.below H3.out.2.2⟩
      by_cases z1 : n1 = 0
      · have z1' : ((n1 : Int) == 0) = true := by simp [z1]
        clear z1
        go_wp2_with fail
        go_quiet (fail)
        go_wp2_with fail
        go_ret
        exact ⟨rfl, HB.out.1.trans ((below_dr _ _).mono HB.out.1.size)⟩
      have z1' : ((n1 : Int) == 0) = false := by simp; omega
      have n1p : (0 : Int) < (n1 : Int) := by omega
      by_cases z2 : n2 = 0
      · have z2' : ((n2 : Int) == 0) = true := by simp [z2]
        clear z1 z2
        go_wp2_with fail
        go_quiet (fail)
        go_wp2_with fail
        go_ret
        exact ⟨rfl, HB.out.1.trans ((below_dr _ _).mono HB.out.1.size)⟩
      have z2' : ((n2 : Int) == 0) = false := by simp; omega
      have n2p : (0 : Int) < (n2 : Int) := by omega
      have y1 : 0 < l1.length := by rw [HB.out.2.1.hl]; omega
      have y2 : 0 < l2.length := by rw [HB.out.2.2.1.hl]; omega
      obtain ⟨g1, o1, rfl, hg1, _, p1⟩ := HB.out.2.1.rd.at y1
      obtain ⟨g2, o2, rfl, hg2, _, q1⟩ := HB.out.2.2.1.rd.at y2
      rw [Nat.zero_mul, Nat.add_zero] at p1 q1
      have s1 := (HF.out.1 _ (getD_memL y1)).2
      have s2 := (HF.out.2 _ (getD_memL y2)).2
      generalize (l1.getD 0 l0).2 = v at p1 s1
      generalize (l2.getD 0 l0).2 = v' at q1 s2
      clear z1 z2 y1 y2
      by_cases ev : v = v'
      · have ev' : (v.toList == v'.toList) = true := by rw [beq_eq]; simpa using ev
        clear ev
        go_wp2_with fail
        go_quiet (fail)
        go_wp2_with fail
        go_ret
        exact ⟨rfl, HB.out.1.trans ((below_dr _ _).mono HB.out.1.size)⟩
      have ev' : (v.toList == v'.toList) = false := by rw [beq_eq]; simpa using ev
      have HEV : Hid (nums v ≠ nums v') := fun e => ev (nums_inj e)
      clear ev
      go_wp2_with fail
      go_quiet (fail)
      go_wp2_with fail
      have HV : Hid (v.size ≤ 50 ∧ v'.size ≤ 50) := ⟨s1, s2⟩
      have hbq : Below w3.heap.size w3 (w3.drewN nq) := below_dr _ _
      have HG : Hid (g1 < (w3.drewN nq).heap.size ∧ (w3.drewN nq).cell? ⟨g1, o1 + 1, none⟩ = some (.string v)) := ⟨hg1, p1⟩
      have HBB : Hid (IsI .u8 (w3.drewN nq) ab nb cb bs) := HB.out.2.2.2.below hbq
      have HSZ : Hid ((strOfNums (E (nums v))).size + (strOfNums bs).size ≤ 1000) := by
        show _ ≤ _
        have h1 := E_len (nums v)
        rw [nums_len] at h1
        rw [str_size, str_size, HBB.out.hl]
        omega
      refine wp_region_K (by kernel_rfl) (by kernel_rfl) [.eq (.slice (some ⟨g1, o1, none⟩) n1 c1), .eq (.pointer (some ⟨g1, o1, none⟩)), .eq (.pointer (some ⟨g1, o1 + 1, none⟩)), .eq (.string v), .rd .u8 (E (nums v)), .eq (.string (strOfNums (E (nums v)))), .eq (.slice ab nb cb), .eq (.string (strOfNums bs)), .eq (.string (strOfNums (E (nums v) ++ bs))), .eq (.string (strOfNums (E (nums v) ++ bs)))] _ (Below.refl _ _) (allOps_cons ?_ (allOps_cons ?_ (allOps_cons ?_ (allOps_cons ?_ (allOps_cons ?_ (allOps_cons ?_ (allOps_cons ?_ (allOps_cons ?_ (allOps_cons ?_ (allOps_cons ?_ allOps_nil)))))))))) ?_
      · intro a wx hS hb hf
        have s0 : a.eval (.tmp 0) = .slice (some ⟨g1, o1, none⟩) n1 c1 := (hf 0 (by kernel_rfl)).trans rfl
        rw [if_pos (wanted_none rfl)]
        refine does_val (v := .slice (some ⟨g1, o1, none⟩) n1 c1) (w' := wx) ?_ ⟨rfl, Below.refl _ _⟩
        have t0 := (ev_tmp a 0).symm.trans s0
        simp [execOp, go_sem, t0]
      · intro a wx hS hb hf
        have s105 : a.eval (.tmp 105) = .slice (some ⟨g1, o1, none⟩) n1 c1 := slot hb 0 0 105 rfl rfl
        rw [if_pos (wanted_none rfl)]
        refine does_val (v := .pointer (some ⟨g1, o1, none⟩)) (w' := wx) ?_ ⟨rfl, Below.refl _ _⟩
        have t105 := (ev_tmp a 105).symm.trans s105
        simp [execOp, go_sem, t105, n1p]
        first | done | (intro h; omega)
      · intro a wx hS hb hf
        have s106 : a.eval (.tmp 106) = .pointer (some ⟨g1, o1, none⟩) := slot hb 0 1 106 rfl rfl
        rw [if_pos (wanted_none rfl)]
        refine does_val (v := .pointer (some ⟨g1, o1 + 1, none⟩)) (w' := wx) ?_ ⟨rfl, Below.refl _ _⟩
        have t106 := (ev_tmp a 106).symm.trans s106
        simp [execOp, go_sem, t106]
      · intro a wx hS hb hf
        have s107 : a.eval (.tmp 107) = .pointer (some ⟨g1, o1 + 1, none⟩) := slot hb 0 2 107 rfl rfl
        rw [if_pos (wanted_none rfl)]
        have d0 := (hS.cell (p := ⟨g1, o1 + 1, none⟩) HG.out.1).trans HG.out.2
        refine does_val (v := .string v) (w' := wx) ?_ ⟨rfl, Below.refl _ _⟩
        have t107 := (ev_tmp a 107).symm.trans s107
        simp [execOp, go_sem, t107, d0]
      · intro a wx hS hb hf
        have s108 : a.eval (.tmp 108) = .string v := slot hb 0 3 108 rfl rfl
        rw [if_pos (wanted_none rfl)]
        have t108 := (ev_tmp a 108).symm.trans s108
        refine does_call (f := 24) (args := #[.string v]) (w' := wx) (by simp [execOp, resolve, invoke, go_sem, t108]) ?_
        refine (esc_sl v wx HV.out).mono ?_
        rintro r w' ⟨u, rfl, hs, hb'⟩
        exact ⟨_, rfl, hs, hb'⟩
      · intro a wx hS hb hf
        have s109 : Sl .u8 (E (nums v)) (a.eval (.tmp 109)) wx := slot hb 0 4 109 rfl rfl
        rw [if_pos (wanted_none rfl)]
        exact does_conv rfl s109
      · intro a wx hS hb hf
        have s2 : a.eval (.tmp 2) = .slice ab nb cb := (hf 2 (by kernel_rfl)).trans rfl
        rw [if_pos (wanted_none rfl)]
        refine does_val (v := .slice ab nb cb) (w' := wx) ?_ ⟨rfl, Below.refl _ _⟩
        have t2 := (ev_tmp a 2).symm.trans s2
        simp [execOp, go_sem, t2]
      · intro a wx hS hb hf
        have s111 : a.eval (.tmp 111) = .slice ab nb cb := slot hb 0 6 111 rfl rfl
        rw [if_pos (wanted_none rfl)]
        refine does_val (v := .string (strOfNums bs)) (w' := wx) ?_ ⟨rfl, Below.refl _ _⟩
        have t111 := (ev_tmp a 111).symm.trans s111
        have hc := conv_rd wx ab cb nb bs HBB.out.hl (HBB.out.rd.below hS)
        simp [execOp, go_sem, t111, hc]
      · intro a wx hS hb hf
        have s110 : a.eval (.tmp 110) = .string (strOfNums (E (nums v))) := slot hb 0 5 110 rfl rfl
        have s112 : a.eval (.tmp 112) = .string (strOfNums bs) := slot hb 1 7 112 rfl rfl
        rw [if_pos (wanted_none rfl)]
        refine does_val (v := .string (strOfNums (E (nums v) ++ bs))) (w' := wx) ?_ ⟨rfl, Below.refl _ _⟩
        have t110 := (ev_tmp a 110).symm.trans s110
        have t112 := (ev_tmp a 112).symm.trans s112
        exact add_str rfl t110 t112 HSZ.out
      · intro a wx hS hb hf
        have s113 : a.eval (.tmp 113) = .string (strOfNums (E (nums v) ++ bs)) := slot hb 0 8 113 rfl rfl
        rw [if_pos (wanted_none rfl)]
        refine does_val (v := .string (strOfNums (E (nums v) ++ bs))) (w' := wx) ?_ ⟨rfl, Below.refl _ _⟩
        have t113 := (ev_tmp a 113).symm.trans s113
        simp [execOp, go_sem, t113]
      intro a u hbu hts hd hdone hfree
      have e19 : a.eval (.tmp 19) = .string (strOfNums (E (nums v) ++ bs)) := done_slot hdone 9 19 rfl
      obtain ⟨x105, ex105⟩ : ∃ x, a.eval (.tmp 105) = x := ⟨_, rfl⟩
      obtain ⟨x106, ex106⟩ : ∃ x, a.eval (.tmp 106) = x := ⟨_, rfl⟩
      obtain ⟨x107, ex107⟩ : ∃ x, a.eval (.tmp 107) = x := ⟨_, rfl⟩
      obtain ⟨x108, ex108⟩ : ∃ x, a.eval (.tmp 108) = x := ⟨_, rfl⟩
      obtain ⟨x109, ex109⟩ : ∃ x, a.eval (.tmp 109) = x := ⟨_, rfl⟩
      obtain ⟨x110, ex110⟩ : ∃ x, a.eval (.tmp 110) = x := ⟨_, rfl⟩
      obtain ⟨x111, ex111⟩ : ∃ x, a.eval (.tmp 111) = x := ⟨_, rfl⟩
      obtain ⟨x112, ex112⟩ : ∃ x, a.eval (.tmp 112) = x := ⟨_, rfl⟩
      obtain ⟨x113, ex113⟩ : ∃ x, a.eval (.tmp 113) = x := ⟨_, rfl⟩
      have hact := act_puts hts hd hfree
      simp only [putAll, List.foldl_cons, List.foldl_nil, ex105, ex106, ex107, ex108, ex109, ex110, ex111, ex112, ex113, e19, Act.put] at hact
      simp at hact
      clear ex105 ex106 ex107 ex108 ex109 ex110 ex111 ex112 ex113 e19 hts hd hdone hfree
      subst hact
      have hbU : Below w3.heap.size w3 u := hbq.trans (hbu.mono hbq.size)
      have p1u := (hbU.cell (p := ⟨g1, o1 + 1, none⟩) hg1).trans p1
      have q1u := (hbU.cell (p := ⟨g2, o2 + 1, none⟩) hg2).trans q1
      clear hbu p1 q1 hbq
      go_wp2_with fail
      refine (escape_any v' u (by omega)).mono ?_
      rintro e wy ⟨vy, rfl, hoy, hby'⟩
      obtain ⟨ay, cy, rfl, hIy⟩ := own_isI hoy
      have hcy := conv_rd wy ay cy (E (nums v')).length (E (nums v')) rfl hIy.rd
      have hg1u : g1 < u.heap.size := Nat.lt_of_lt_of_le hg1 hbU.size
      have hg2u : g2 < u.heap.size := Nat.lt_of_lt_of_le hg2 hbU.size
      have p1y := (hby'.cell (p := ⟨g1, o1 + 1, none⟩) hg1u).trans p1u
      have q1y := (hby'.cell (p := ⟨g2, o2 + 1, none⟩) hg2u).trans q1u
      have hbY : Hid (Below w.heap.size w wy) := (HB.out.1.trans (hbU.mono HB.out.1.size)).trans (hby'.mono (Nat.le_trans HB.out.1.size hbU.size))
      obtain ⟨ey, hey⟩ : ∃ n, n = (E (nums v')).length := ⟨_, rfl⟩
      rw [← hey] at hcy ⊢
      clear hey hoy hIy hby' hbU p1u q1u
      have hlt : Op.bytesLess (strOfNums (E (nums v) ++ bs)).toList (strOfNums (E (nums v'))).toList = Op.bytesLess v.toList v'.toList := by
        have := E_order (nums v) (nums v') bs [] (nums_bytes v) (nums_bytes v') HEV.out
        rw [List.append_nil] at this
        rw [str_less (bytes_append (E_bytes (nums_bytes v)) HBY.out) (E_bytes (nums_bytes v')), bl_eq, this]
      generalize strOfNums (E (nums v) ++ bs) = SS at hlt ⊢
      generalize strOfNums (E (nums v')) = TT at hlt hcy ⊢
      obtain ⟨bb, hbb⟩ : ∃ b, Op.bytesLess v.toList v'.toList = b := ⟨_, rfl⟩
      rw [hbb] at hlt
      go_wp2_with fail
      go_quiet (fail)
      go_wp2_with fail
      go_ret
      exact ⟨by simp, hbY.out.trans ((below_dr _ _).mono hbY.out.size)⟩
  · rw [cne_not hm1]
    clear hm1
    go_wp2_with fail
    refine (marshal_any a2 n2 c2 l2 w2 (H1.out.2.1.below H2.out.2) HI.out.2.1.2).mono ?_
    rintro e w3 ⟨v3, rfl, ho3, hb3⟩
    obtain ⟨z3, hz3⟩ : ∃ z, z = (el (cnl l2)).length := ⟨_, rfl⟩
    rw [← hz3] at ho3
    obtain ⟨a4, c4, rfl, hI4⟩ := own_isI ho3
    have hb3' : Below w1.heap.size w1 w3 := H2.out.2.trans (hb3.mono H2.out.2.size)
    obtain ⟨er, her⟩ : ∃ x, Hid (x = cne l2) := ⟨_, rfl⟩
    rw [← her.out]
    have HB : Hid (Below w.heap.size w w3 ∧ IsL w3 a1 n1 c1 l1 ∧ IsL w3 a2 n2 c2 l2 ∧ IsI .u8 w3 ab nb cb bs) := ⟨H1.out.2.2.2.trans (hb3'.mono H1.out.2.2.2.size), H1.out.1.below hb3', H1.out.2.1.below hb3', H1.out.2.2.1.below hb3'⟩
    clear ho3 hI4 hb3 hb3' hz3
    by_cases z1 : n1 = 0
    · have z1' : ((n1 : Int) == 0) = true := by simp [z1]
      clear z1
      go_wp2_with fail
      go_quiet (fail)
      go_wp2_with fail
      go_ret
      exact ⟨rfl, HB.out.1.trans ((below_dr _ _).mono HB.out.1.size)⟩
    have z1' : ((n1 : Int) == 0) = false := by simp; omega
    have n1p : (0 : Int) < (n1 : Int) := by omega
    by_cases z2 : n2 = 0
    · have z2' : ((n2 : Int) == 0) = true := by simp [z2]
      clear z1 z2
      go_wp2_with fail
      go_quiet (fail)
      go_wp2_with fail
      go_ret
      exact ⟨rfl, HB.out.1.trans ((below_dr _ _).mono HB.out.1.size)⟩
    have z2' : ((n2 : Int) == 0) = false := by simp; omega
    have n2p : (0 : Int) < (n2 : Int) := by omega
    have y1 : 0 < l1.length := by rw [HB.out.2.1.hl]; omega
    have y2 : 0 < l2.length := by rw [HB.out.2.2.1.hl]; omega
    obtain ⟨g1, o1, rfl, hg1, _, p1⟩ := HB.out.2.1.rd.at y1
    obtain ⟨g2, o2, rfl, hg2, _, q1⟩ := HB.out.2.2.1.rd.at y2
    rw [Nat.zero_mul, Nat.add_zero] at p1 q1
    have s1 := (HF.out.1 _ (getD_memL y1)).2
    have s2 := (HF.out.2 _ (getD_memL y2)).2
    generalize (l1.getD 0 l0).2 = v at p1 s1
    generalize (l2.getD 0 l0).2 = v' at q1 s2
    clear z1 z2 y1 y2
    by_cases ev : v = v'
    · have ev' : (v.toList == v'.toList) = true := by rw [beq_eq]; simpa using ev
      clear ev
      go_wp2_with fail
      go_quiet (fail)
      go_wp2_with fail
      go_ret
      exact ⟨rfl, HB.out.1.trans ((below_dr _ _).mono HB.out.1.size)⟩
    have ev' : (v.toList == v'.toList) = false := by rw [beq_eq]; simpa using ev
    have HEV : Hid (nums v ≠ nums v') := fun e => ev (nums_inj e)
    clear ev
    go_wp2_with fail
    go_quiet (fail)
    go_wp2_with fail
    have HV : Hid (v.size ≤ 50 ∧ v'.size ≤ 50) := ⟨s1, s2⟩
    have hbq : Below w3.heap.size w3 (w3.drewN nq) := below_dr _ _
    have HG : Hid (g1 < (w3.drewN nq).heap.size ∧ (w3.drewN nq).cell? ⟨g1, o1 + 1, none⟩ = some (.string v)) := ⟨hg1, p1⟩
    have HBB : Hid (IsI .u8 (w3.drewN nq) ab nb cb bs) := HB.out.2.2.2.below hbq
    have HSZ : Hid ((strOfNums (E (nums v))).size + (strOfNums bs).size ≤ 1000) := by
      show _ ≤ _
      have h1 := E_len (nums v)
      rw [nums_len] at h1
      rw [str_size, str_size, HBB.out.hl]
      omega
    refine wp_region_K (by kernel_rfl) (by kernel_rfl) [.eq (.slice (some ⟨g1, o1, none⟩) n1 c1), .eq (.pointer (some ⟨g1, o1, none⟩)), .eq (.pointer (some ⟨g1, o1 + 1, none⟩)), .eq (.string v), .rd .u8 (E (nums v)), .eq (.string (strOfNums (E (nums v)))), .eq (.slice ab nb cb), .eq (.string (strOfNums bs)), .eq (.string (strOfNums (E (nums v) ++ bs))), .eq (.string (strOfNums (E (nums v) ++ bs)))] _ (Below.refl _ _) (allOps_cons ?_ (allOps_cons ?_ (allOps_cons ?_ (allOps_cons ?_ (allOps_cons ?_ (allOps_cons ?_ (allOps_cons ?_ (allOps_cons ?_ (allOps_cons ?_ (allOps_cons ?_ allOps_nil)))))))))) ?_
    · intro a wx hS hb hf
      have s0 : a.eval (.tmp 0) = .slice (some ⟨g1, o1, none⟩) n1 c1 := (hf 0 (by kernel_rfl)).trans rfl
      rw [if_pos (wanted_none rfl)]
      refine does_val (v := .slice (some ⟨g1, o1, none⟩) n1 c1) (w' := wx) ?_ ⟨rfl, Below.refl _ _⟩
      have t0 := (ev_tmp a 0).symm.trans s0
      simp [execOp, go_sem, t0]
    · intro a wx hS hb hf
      have s105 : a.eval (.tmp 105) = .slice (some ⟨g1, o1, none⟩) n1 c1 := slot hb 0 0 105 rfl rfl
      rw [if_pos (wanted_none rfl)]
      refine does_val (v := .pointer (some ⟨g1, o1, none⟩)) (w' := wx) ?_ ⟨rfl, Below.refl _ _⟩
      have t105 := (ev_tmp a 105).symm.trans s105
      simp [execOp, go_sem, t105, n1p]
      first | done | (intro h; omega)
    · intro a wx hS hb hf
      have s106 : a.eval (.tmp 106) = .pointer (some ⟨g1, o1, none⟩) := slot hb 0 1 106 rfl rfl
      rw [if_pos (wanted_none rfl)]
      refine does_val (v := .pointer (some ⟨g1, o1 + 1, none⟩)) (w' := wx) ?_ ⟨rfl, Below.refl _ _⟩
      have t106 := (ev_tmp a 106).symm.trans s106
      simp [execOp, go_sem, t106]
    · intro a wx hS hb hf
      have s107 : a.eval (.tmp 107) = .pointer (some ⟨g1, o1 + 1, none⟩) := slot hb 0 2 107 rfl rfl
      rw [if_pos (wanted_none rfl)]
      have d0 := (hS.cell (p := ⟨g1, o1 + 1, none⟩) HG.out.1).trans HG.out.2
      refine does_val (v := .string v) (w' := wx) ?_ ⟨rfl, Below.refl _ _⟩
      have t107 := (ev_tmp a 107).symm.trans s107
      simp [execOp, go_sem, t107, d0]
    · intro a wx hS hb hf
      have s108 : a.eval (.tmp 108) = .string v := slot hb 0 3 108 rfl rfl
      rw [if_pos (wanted_none rfl)]
      have t108 := (ev_tmp a 108).symm.trans s108
      refine does_call (f := 24) (args := #[.string v]) (w' := wx) (by simp [execOp, resolve, invoke, go_sem, t108]) ?_
      refine (esc_sl v wx HV.out).mono ?_
      rintro r w' ⟨u, rfl, hs, hb'⟩
      exact ⟨_, rfl, hs, hb'⟩
    · intro a wx hS hb hf
      have s109 : Sl .u8 (E (nums v)) (a.eval (.tmp 109)) wx := slot hb 0 4 109 rfl rfl
      rw [if_pos (wanted_none rfl)]
      exact does_conv rfl s109
    · intro a wx hS hb hf
      have s2 : a.eval (.tmp 2) = .slice ab nb cb := (hf 2 (by kernel_rfl)).trans rfl
      rw [if_pos (wanted_none rfl)]
      refine does_val (v := .slice ab nb cb) (w' := wx) ?_ ⟨rfl, Below.refl _ _⟩
      have t2 := (ev_tmp a 2).symm.trans s2
      simp [execOp, go_sem, t2]
    · intro a wx hS hb hf
      have s111 : a.eval (.tmp 111) = .slice ab nb cb := slot hb 0 6 111 rfl rfl
      rw [if_pos (wanted_none rfl)]
      refine does_val (v := .string (strOfNums bs)) (w' := wx) ?_ ⟨rfl, Below.refl _ _⟩
      have t111 := (ev_tmp a 111).symm.trans s111
      have hc := conv_rd wx ab cb nb bs HBB.out.hl (HBB.out.rd.below hS)
      simp [execOp, go_sem, t111, hc]
    · intro a wx hS hb hf
      have s110 : a.eval (.tmp 110) = .string (strOfNums (E (nums v))) := slot hb 0 5 110 rfl rfl
      have s112 : a.eval (.tmp 112) = .string (strOfNums bs) := slot hb 1 7 112 rfl rfl
      rw [if_pos (wanted_none rfl)]
      refine does_val (v := .string (strOfNums (E (nums v) ++ bs))) (w' := wx) ?_ ⟨rfl, Below.refl _ _⟩
      have t110 := (ev_tmp a 110).symm.trans s110
      have t112 := (ev_tmp a 112).symm.trans s112
      exact add_str rfl t110 t112 HSZ.out
    · intro a wx hS hb hf
      have s113 : a.eval (.tmp 113) = .string (strOfNums (E (nums v) ++ bs)) := slot hb 0 8 113 rfl rfl
      rw [if_pos (wanted_none rfl)]
      refine does_val (v := .string (strOfNums (E (nums v) ++ bs))) (w' := wx) ?_ ⟨rfl, Below.refl _ _⟩
      have t113 := (ev_tmp a 113).symm.trans s113
      simp [execOp, go_sem, t113]
    intro a u hbu hts hd hdone hfree
    have e19 : a.eval (.tmp 19) = .string (strOfNums (E (nums v) ++ bs)) := done_slot hdone 9 19 rfl
    obtain ⟨x105, ex105⟩ : ∃ x, a.eval (.tmp 105) = x := ⟨_, rfl⟩
    obtain ⟨x106, ex106⟩ : ∃ x, a.eval (.tmp 106) = x := ⟨_, rfl⟩
    obtain ⟨x107, ex107⟩ : ∃ x, a.eval (.tmp 107) = x := ⟨_, rfl⟩
    obtain ⟨x108, ex108⟩ : ∃ x, a.eval (.tmp 108) = x := ⟨_, rfl⟩
    obtain ⟨x109, ex109⟩ : ∃ x, a.eval (.tmp 109) = x := ⟨_, rfl⟩
    obtain ⟨x110, ex110⟩ : ∃ x, a.eval (.tmp 110) = x := ⟨_, rfl⟩
    obtain ⟨x111, ex111⟩ : ∃ x, a.eval (.tmp 111) = x := ⟨_, rfl⟩
    obtain ⟨x112, ex112⟩ : ∃ x, a.eval (.tmp 112) = x := ⟨_, rfl⟩
    obtain ⟨x113, ex113⟩ : ∃ x, a.eval (.tmp 113) = x := ⟨_, rfl⟩
    have hact := act_puts hts hd hfree
    simp only [putAll, List.foldl_cons, List.foldl_nil, ex105, ex106, ex107, ex108, ex109, ex110, ex111, ex112, ex113, e19, Act.put] at hact
    simp at hact
    clear ex105 ex106 ex107 ex108 ex109 ex110 ex111 ex112 ex113 e19 hts hd hdone hfree
    subst hact
    have hbU : Below w3.heap.size w3 u := hbq.trans (hbu.mono hbq.size)
    have p1u := (hbU.cell (p := ⟨g1, o1 + 1, none⟩) hg1).trans p1
    have q1u := (hbU.cell (p := ⟨g2, o2 + 1, none⟩) hg2).trans q1
    clear hbu p1 q1 hbq
    go_wp2_with fail
    refine (escape_any v' u (by omega)).mono ?_
    rintro e wy ⟨vy, rfl, hoy, hby'⟩
    obtain ⟨ay, cy, rfl, hIy⟩ := own_isI hoy
    have hcy := conv_rd wy ay cy (E (nums v')).length (E (nums v')) rfl hIy.rd
    have hg1u : g1 < u.heap.size := Nat.lt_of_lt_of_le hg1 hbU.size
    have hg2u : g2 < u.heap.size := Nat.lt_of_lt_of_le hg2 hbU.size
    have p1y := (hby'.cell (p := ⟨g1, o1 + 1, none⟩) hg1u).trans p1u
    have q1y := (hby'.cell (p := ⟨g2, o2 + 1, none⟩) hg2u).trans q1u
    have hbY : Hid (Below w.heap.size w wy) := (HB.out.1.trans (hbU.mono HB.out.1.size)).trans (hby'.mono (Nat.le_trans HB.out.1.size hbU.size))
    obtain ⟨ey, hey⟩ : ∃ n, n = (E (nums v')).length := ⟨_, rfl⟩
    rw [← hey] at hcy ⊢
    clear hey hoy hIy hby' hbU p1u q1u
    have hlt : Op.bytesLess (strOfNums (E (nums v) ++ bs)).toList (strOfNums (E (nums v'))).toList = Op.bytesLess v.toList v'.toList := by
      have := E_order (nums v) (nums v') bs [] (nums_bytes v) (nums_bytes v') HEV.out
      rw [List.append_nil] at this
      rw [str_less (bytes_append (E_bytes (nums_bytes v)) HBY.out) (E_bytes (nums_bytes v')), bl_eq, this]
    generalize strOfNums (E (nums v) ++ bs) = SS at hlt ⊢
    generalize strOfNums (E (nums v')) = TT at hlt hcy ⊢
    obtain ⟨bb, hbb⟩ : ∃ b, Op.bytesLess v.toList v'.toList = b := ⟨_, rfl⟩
    rw [hbb] at hlt
    go_wp2_with fail
    go_quiet (fail)
    go_wp2_with fail
    go_ret
    exact ⟨by simp, hbY.out.trans ((below_dr _ _).mono hbY.out.size)⟩

set_option maxRecDepth 100000 in
theorem labelsOrders_lifted (os : Os) (started : os.Started) (H : Type) (enc : TypeId × Value → H) :
    ReturnsInHanded {} Try.checked os 7 .any (Rows.labelsOrdersSpec.pre6 enc Try.prog Try.f7 Rows.labelsOrdersRow.domain false) (Rows.labelsOrdersSpec.post enc Try.prog Try.f7 false true false false) := by
  refine returnsInHanded_of_change (C := Try.checked) own started (by kernel_rfl) Try.func7
    (ChangeSpec.witness6 (enc := enc) (C := Try.checked) false ⟨#[], #[.slice none 0 0, .slice none 0 0, .slice none 0 0], []⟩ 8 (by kernel_rfl) (by kernel_rfl) (by kernel_rfl) (by kernel_rfl)) ?_
  intro W base args ds gs before hval0 hW hcnd _
  have hval : ∀ (j : Nat) t v, Try.f7.params[j]? = some t → args[j]? = some v → Value.okWide Try.prog W .any base t v := hval0
  have hW' := hW
  obtain ⟨p, q, hA0, hV, rfl, hfz, hnd⟩ := hW
  have hA : DataW.TrodAll enc Try.prog W 0 (fun _ => true) true Try.f7.params.toList args.toList ds p := hA0
  rw [Try.params7] at hA hval
  obtain ⟨v0, vs0, d0, ds0, p0, q0, hargs, rfl, rfl, h0, r0⟩ := trodAll_cons hA
  obtain ⟨v1, vs1, d1, ds1, p1, q1, rfl, rfl, rfl, h1, r1⟩ := trodAll_cons r0
  obtain ⟨v2, vs2, d2, ds2, p2, q2, rfl, rfl, rfl, h2, r2⟩ := trodAll_cons r1
  obtain ⟨rfl, rfl, rfl⟩ := trodAll_nil r2
  obtain rfl : args = #[v0, v1, v2] := by cases args; simp_all
  obtain ⟨rfl, rfl⟩ := trodVars_none hV
  obtain ⟨a0, len0, cap0, rfl⟩ := okWide_slice Try.underlying22 (hval 0 22 v0 rfl rfl)
  have k0 := h0
  have lt0 : ∀ x ∈ p0, x.block < W.heap.size := by obtain ⟨m, hm⟩ := k0; exact DataW.trod_lt m _ _ _ hm
  obtain ⟨vl0, w0, wf0⟩ : ∃ ls, IsL W a0 len0 cap0 ls ∧ WfL ls := by obtain ⟨fuel, hf⟩ := h0; exact isL_of hf
  obtain ⟨a1, len1, cap1, rfl⟩ := okWide_slice Try.underlying22 (hval 1 22 v1 rfl rfl)
  have k1 := h1
  have lt1 : ∀ x ∈ p1, x.block < W.heap.size := by obtain ⟨m, hm⟩ := k1; exact DataW.trod_lt m _ _ _ hm
  obtain ⟨vl1, w1, wf1⟩ : ∃ ls, IsL W a1 len1 cap1 ls ∧ WfL ls := by obtain ⟨fuel, hf⟩ := h1; exact isL_of hf
  obtain ⟨a2, len2, cap2, rfl⟩ := okWide_slice Try.underlying32 (hval 2 32 v2 rfl rfl)
  have k2 := h2
  have lt2 : ∀ x ∈ p2, x.block < W.heap.size := by obtain ⟨m, hm⟩ := k2; exact DataW.trod_lt m _ _ _ hm
  obtain ⟨vl2, w2, wf2⟩ : ∃ ms, IsI .u8 W a2 len2 cap2 ms ∧ Bytes ms := by obtain ⟨fuel, hf⟩ := h2; exact isI_of hf
  clear hA0 hval0
  refine (labelsOrders_walk a0 len0 cap0 vl0 w0 wf0 a1 len1 cap1 vl1 w1 wf1 a2 len2 cap2 vl2 w2 wf2 rfl).mono fun e W' ⟨he, hb⟩ => ?_
  subst he
  exact ⟨_, rfl, _, _, _, [], _, [], hW', trodAll_mk1 (shut_bool Try.underlying4 _), (trodAll_cons_mk (Below.trod laidOut (by kernel_rfl) (of_decide_eq_true (by kernel_rfl)) k0 hb lt0) (trodAll_cons_mk (Below.trod laidOut (by kernel_rfl) (of_decide_eq_true (by kernel_rfl)) k1 hb lt1) (trodAll_cons_mk (Below.trod laidOut (by kernel_rfl) (of_decide_eq_true (by kernel_rfl)) k2 hb lt2) trodAll_mk0))), rfl, hb.frame _, fun h => by cases h⟩

theorem labelsOrders_holds : Rows.LabelsOrdersSaid :=
  OpenClaim.holds_of_wide 7 Try.f7 rfl rfl rfl rfl rfl rfl rfl ⟨rfl, rfl, rfl, rfl, rfl⟩ rfl rfl rfl rfl rfl (by kernel_rfl) Try.func7 (by kernel_rfl)
    (of_decide_eq_true (by kernel_rfl)) (by unfold Func.isWrapper; first | (rw [if_pos (by decide +kernel)]; kernel_rfl) | (rw [if_neg (by decide +kernel)]; exact ⟨rfl, rfl⟩))
    (fun os started H enc _ => labelsOrders_lifted os started H enc)
#print axioms labelsOrders_holds
end Go.Proofs.Ythklkhdcmoonkaa
