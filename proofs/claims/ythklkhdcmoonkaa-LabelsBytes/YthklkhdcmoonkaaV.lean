/- The contract of the document's own Canon. Conditions: each text's length fits. -/
import Derived.Test.YthklkhdcmoonkaaU
namespace Go.Proofs.Ythklkhdcmoonkaa
open Go.RowKit

/-- The name of the label ahead; empty ahead of the first one. -/
def ahd (cs : List Lb) (j : Nat) : ByteArray := if j = 0 then ⟨#[]⟩ else (cs.getD (j - 1) l0).1
def lenOf2 (v : Value) : Nat := match v with | .slice _ n _ => n | _ => 0
theorem strs_two (n v : ByteArray) : ∀ u ∈ [Value.string n, Value.string v], u.oneCell' = true := by
  intro u hu; simp at hu; rcases hu with rfl | rfl <;> rfl
/-- What is found among the first i labels: none that is above, or the least of those that are. -/
def Pick (ls : List Lb) (ah : ByteArray) (i : Nat) (best : Int) : Prop :=
  (best = -1 ∧ ∀ t, t < i → li (nums ah) (nums (ls.getD t l0).1) = false) ∨
  ∃ b : Nat, b < i ∧ best = (b : Int) ∧ li (nums ah) (nums (ls.getD b l0).1) = true ∧ ∀ t, t < i → li (nums ah) (nums (ls.getD t l0).1) = true → li (nums (ls.getD t l0).1) (nums (ls.getD b l0).1) = false
theorem pick_end {ls : List Lb} (hm : May ls) {j : Nat} (hj : j < ls.length) {best : Int} (h : Pick ls (ahd (canon ls) j) ls.length best) : ∃ b : Nat, b < ls.length ∧ best = (b : Int) ∧ ls.getD b l0 = (canon ls).getD j l0 := by
  have hc := canon_ex hm.2.2.2
  have hcl := canon_len hm.2.2.2
  have hjc : j < (canon ls).length := by omega
  have strict : ∀ p q, p < q → q < (canon ls).length → li (nums ((canon ls).getD p l0).1) (nums ((canon ls).getD q l0).1) = true := fun p q hpq hq => by
    have := List.pairwise_iff_getElem.1 hc.2 p q (by omega) hq hpq
    rw [getD_eqL (show p < (canon ls).length by omega), getD_eqL hq]; exact this
  have hgj : li (nums (ahd (canon ls) j)) (nums ((canon ls).getD j l0).1) = true := by
    unfold ahd
    by_cases h0 : j = 0
    · rw [if_pos h0]
      have hmem := hc.1.subset (getD_memL hjc)
      have hok := hm.2.2.1 _ hmem
      simp only [okl, nm, Bool.and_eq_true, decide_eq_true_eq] at hok
      have hl := nums_len ((canon ls).getD j l0).1
      match hn : nums ((canon ls).getD j l0).1 with
      | [] => rw [hn, List.length_nil] at hl; omega
      | c :: r => rfl
    · rw [if_neg h0]; exact strict (j - 1) j (by omega) hjc
  obtain ⟨t, ht, hte⟩ : ∃ t, t < ls.length ∧ ls.getD t l0 = (canon ls).getD j l0 := by
    obtain ⟨t, ht, hte⟩ := List.getElem_of_mem (hc.1.subset (getD_memL hjc))
    exact ⟨t, ht, by rw [getD_eqL ht]; exact hte⟩
  rcases h with ⟨_, h⟩ | ⟨b, hb, hbe, hg, hmin⟩
  · have := h t ht
    rw [hte, hgj] at this; cases this
  · refine ⟨b, hb, hbe, ?_⟩
    obtain ⟨m, hmc, hme⟩ : ∃ m, m < (canon ls).length ∧ (canon ls).getD m l0 = ls.getD b l0 := by
      obtain ⟨m, hm', hme⟩ := List.getElem_of_mem (hc.1.symm.subset (getD_memL hb))
      exact ⟨m, hm', by rw [getD_eqL hm']; exact hme⟩
    have hmin' := hmin t ht (by rw [hte]; exact hgj)
    rw [hte, ← hme] at hmin'
    rw [← hme] at hg ⊢
    rcases Nat.lt_trichotomy m j with h | h | h
    · exfalso
      unfold ahd at hg
      rw [if_neg (by omega)] at hg
      by_cases hmj : m = j - 1
      · subst hmj; rw [li_irr] at hg; cases hg
      · have := li_asymm (strict m (j - 1) (by omega) (by omega))
        rw [this] at hg; cases hg
    · rw [h]
    · rw [strict j m h hmc] at hmin'; cases hmin'
theorem pick_no {ls : List Lb} {ah : ByteArray} {i : Nat} {best : Int} (h : Pick ls ah i best) (hg : li (nums ah) (nums (ls.getD i l0).1) = false) : Pick ls ah (i + 1) best := by
  rcases h with ⟨h1, h2⟩ | ⟨b, h1, h2, h3, h4⟩
  · refine .inl ⟨h1, fun t ht => ?_⟩
    by_cases e : t = i
    · subst e; exact hg
    · exact h2 t (by omega)
  · refine .inr ⟨b, by omega, h2, h3, fun t ht hgt => ?_⟩
    by_cases e : t = i
    · subst e; rw [hg] at hgt; cases hgt
    · exact h4 t (by omega) hgt
theorem pick_first {ls : List Lb} {ah : ByteArray} {i : Nat} (h : Pick ls ah i (-1)) (hg : li (nums ah) (nums (ls.getD i l0).1) = true) : Pick ls ah (i + 1) (i : Int) := by
  rcases h with ⟨_, h2⟩ | ⟨b, _, h2, _⟩
  · refine .inr ⟨i, by omega, rfl, hg, fun t ht hgt => ?_⟩
    by_cases e : t = i
    · subst e; exact li_irr _
    · rw [h2 t (by omega)] at hgt; cases hgt
  · omega
theorem pick_less {ls : List Lb} {ah : ByteArray} {i b : Nat} (h : Pick ls ah i (b : Int)) (hg : li (nums ah) (nums (ls.getD i l0).1) = true) (hl : li (nums (ls.getD i l0).1) (nums (ls.getD b l0).1) = true) : Pick ls ah (i + 1) (i : Int) := by
  rcases h with ⟨h1, _⟩ | ⟨b', h1, h2, h3, h4⟩
  · omega
  · obtain rfl : b' = b := by omega
    refine .inr ⟨i, by omega, rfl, hg, fun t ht hgt => ?_⟩
    by_cases e : t = i
    · subst e; exact li_irr _
    · have := h4 t (by omega) hgt
      cases hti : li (nums (ls.getD t l0).1) (nums (ls.getD i l0).1) with
      | false => rfl
      | true => rw [li_trans _ _ _ hti hl] at this; cases this
theorem pick_stay {ls : List Lb} {ah : ByteArray} {i b : Nat} (h : Pick ls ah i (b : Int)) (hl : li (nums (ls.getD i l0).1) (nums (ls.getD b l0).1) = false) : Pick ls ah (i + 1) (b : Int) := by
  rcases h with ⟨h1, _⟩ | ⟨b', h1, h2, h3, h4⟩
  · omega
  · obtain rfl : b' = b := by omega
    refine .inr ⟨b', by omega, rfl, h3, fun t ht hgt => ?_⟩
    by_cases e : t = i
    · subst e; exact hl
    · exact h4 t (by omega) hgt

set_option maxRecDepth 20000 in
set_option maxHeartbeats 8000000 in
theorem refcanon_any (a : Option Addr) (len cap : Nat) (ls : List Lb) (w : World) (hI : IsL w a len cap ls) (hwf : WfL ls) : Calls Try.prog 12 #[.slice a len cap] w (Cnd w ls) := by
  obtain ⟨i0, hi, hz0, hz1, hz2⟩ := info_parts Try.info44
  have hmx := hI.hm
  have hcx := hI.hc
  unfold maxLen at hmx
  have HI : Hid (IsL w a len cap ls ∧ WfL ls) := ⟨hI, hwf⟩
  clear hI hwf
  by_cases hm : May ls
  · have h6 : len ≤ 6 := by rw [← HI.out.1.hl]; exact hm.2.1
    have hr := refmay_any a len cap ls w HI.out.1 HI.out.2
    rw [decide_eq_true hm] at hr
    have HR : Hid _ := hr
    have HM : Hid (May ls) := hm
    have hcl := canon_len hm.2.2.2
    rw [HI.out.1.hl] at hcl
    obtain ⟨cs, hcs⟩ : ∃ cs, Hid (cs = canon ls) := ⟨_, rfl⟩
    rw [← hcs.out] at hcl
    have HCL : Hid (cs.length = len) := hcl
    clear hr hm hcl
    go_enter Try.func12, Try.ntmps12
    go_wp2_with fail
    refine Calls.mono HR.out ?_
    rintro e w1 ⟨rfl, hb1⟩
    have H1 : Hid (IsL w1 a len cap ls ∧ Below w.heap.size w w1) := ⟨HI.out.1.below hb1, hb1⟩
    clear hb1 HR
    go_wp2_with fail
    go_loopw [5, 6, 7, 8] (fun o ah _ _ wr => ∃ (j c : Nat) (ad : Option Addr), o = .slice ad j c ∧ j ≤ len ∧ ah = .string (ahd cs j) ∧ Hid (wr.ownsRow w1.heap.size 44 2 (.slice ad j c) j (cls (cs.take j))) ∧ Below w1.heap.size w1 wr) (fun o _ _ _ _ => len - lenOf2 o)
    case atStart => exact ⟨0, 0, none, rfl, Nat.zero_le _, rfl, World.ownsRow_nil _ _ _ _, Below.refl _ _⟩
    case round =>
      obtain ⟨j, c, ad, rfl, hj, rfl, HO, hbr⟩ := hrel
      have hbs := hbr.size
      by_cases hlt : j < len
      · have hlt' : (j : Int) < (len : Int) := by omega
        have HIL : Hid (IsL wr a len cap ls) := H1.out.1.below hbr
        obtain ⟨ah, hah⟩ : ∃ ah, Hid (ah = ahd cs j) := ⟨_, rfl⟩
        rw [← hah.out]
        go_wp2_with fail
        go_loopw [7, 8] (fun b i wx => ∃ (k q : Nat) (be : Int), i = .int .i64 (k : Int) ∧ b = .int .i64 be ∧ k ≤ len ∧ -1 ≤ be ∧ be < (k : Int) ∧ Hid (Pick ls ah k be) ∧ wx = wr.drewN q) (fun _ i _ => len - (intOf i).toNat)
        case atStart => exact ⟨0, 0, -1, rfl, rfl, Nat.zero_le _, by omega, by omega, .inl ⟨rfl, fun t ht => by omega⟩, rfl⟩
        case round =>
          obtain ⟨k, q, be, rfl, rfl, hk, hbe1, hbe2, HP, rfl⟩ := hrel
          by_cases hkl : k < len
          · have hkl' : (k : Int) < (len : Int) := by omega
            have hk0 : (0 : Int) ≤ (k : Int) := by omega
            have hkll : k < ls.length := by rw [HIL.out.hl]; exact hkl
            obtain ⟨g, off, rfl, hg, c0, _⟩ := HIL.out.rd.at hkll
            have HG0 : Hid (li (nums ah) (nums (ls.getD k l0).1) = false → Pick ls ah (k + 1) be) := fun h => pick_no HP.out h
            have HG1 : Hid (be = -1 → li (nums ah) (nums (ls.getD k l0).1) = true → Pick ls ah (k + 1) (k : Int)) := fun e h => by have := HP.out; rw [e] at this; exact pick_first this h
            have HG2 : Hid (∀ b : Nat, be = (b : Int) → li (nums ah) (nums (ls.getD k l0).1) = true → li (nums (ls.getD k l0).1) (nums (ls.getD b l0).1) = true → Pick ls ah (k + 1) (k : Int)) := fun b e h h2 => by have := HP.out; rw [e] at this; exact pick_less this h h2
            have HG3 : Hid (∀ b : Nat, be = (b : Int) → li (nums (ls.getD k l0).1) (nums (ls.getD b l0).1) = false → Pick ls ah (k + 1) be) := fun b e h2 => by have := HP.out; rw [e] at this ⊢; exact pick_stay this h2
            generalize (ls.getD k l0).1 = n at c0 HG0 HG1 HG2 HG3
            clear hkll
            cases hgt : li (nums ah) (nums n) with
            | false =>
              have HN : Hid (Pick ls ah (k + 1) be) := HG0.out hgt
              by_cases e : n = ah
              · have e1 : (n.toList == ah.toList) = true := by rw [beq_eq]; simpa using e
                have e2 : Op.bytesLess n.toList ah.toList = false := by rw [bl_eq, e, li_irr]
                clear hgt e
                go_wp2
                go_quiet (fail)
                go_wp2
                go_roundw
                case rel => exact ⟨k + 1, _, be, by go_num, rfl, by omega, hbe1, by omega, HN, rfl⟩
                case measure => simp [intOf]; omega
              · have e1 : (n.toList == ah.toList) = false := by rw [beq_eq]; simpa using e
                have e2 : Op.bytesLess n.toList ah.toList = true := by rw [bl_eq]; exact li_total _ _ (fun h => e (nums_inj h.symm)) hgt
                clear hgt e
                go_wp2
                go_quiet (fail)
                go_wp2
                go_roundw
                case rel => exact ⟨k + 1, _, be, by go_num, rfl, by omega, hbe1, by omega, HN, rfl⟩
                case measure => simp [intOf]; omega
            | true =>
              have e1 : (n.toList == ah.toList) = false := by
                rw [beq_eq]; simp only [decide_eq_false_iff_not]
                intro e; rw [e, li_irr] at hgt; cases hgt
              have e2 : Op.bytesLess n.toList ah.toList = false := by rw [bl_eq]; exact li_asymm hgt
              by_cases hb0 : be < 0
              · have HN : Hid (Pick ls ah (k + 1) (k : Int)) := HG1.out (by omega) hgt
                clear hgt
                go_wp2
                go_quiet (fail)
                go_wp2
                go_roundw
                case rel => exact ⟨k + 1, _, (k : Int), by go_num, rfl, by omega, by omega, by omega, HN, rfl⟩
                case measure => simp [intOf]; omega
              · obtain ⟨b, rfl⟩ : ∃ b : Nat, be = (b : Int) := ⟨be.toNat, by omega⟩
                have hbk : (b : Int) < (len : Int) := by omega
                have hbl : b < ls.length := by rw [HIL.out.hl]; omega
                obtain ⟨g', off', eg, hg', d0, _⟩ := HIL.out.rd.at hbl
                cases eg
                have HA2 := HG2.out b rfl hgt
                have HA3 := HG3.out b rfl
                generalize (ls.getD b l0).1 = nb at d0 HA2 HA3
                clear hbl
                cases hlb : li (nums n) (nums nb) with
                | true =>
                  have HN : Hid (Pick ls ah (k + 1) (k : Int)) := HA2 hlb
                  have e3 : Op.bytesLess n.toList nb.toList = true := by rw [bl_eq]; exact hlb
                  clear hgt hlb HA2 HA3
                  go_wp2
                  go_quiet (fail)
                  go_wp2
                  go_roundw
                  case rel => exact ⟨k + 1, _, (k : Int), by go_num, rfl, by omega, by omega, by omega, HN, rfl⟩
                  case measure => simp [intOf]; omega
                | false =>
                  have HN : Hid (Pick ls ah (k + 1) (b : Int)) := HA3 hlb
                  have e3 : Op.bytesLess n.toList nb.toList = false := by rw [bl_eq]; exact hlb
                  clear hgt hlb HA2 HA3
                  go_wp2
                  go_quiet (fail)
                  go_wp2
                  go_roundw
                  case rel => exact ⟨k + 1, _, (b : Int), by go_num, rfl, by omega, hbe1, by omega, HN, rfl⟩
                  case measure => simp [intOf]; omega
          · have hkl' : ¬ (k : Int) < (len : Int) := by omega
            obtain rfl : k = len := by omega
            obtain ⟨b, hbl, rfl, hbe⟩ := pick_end HM.out (j := j) (by rw [HIL.out.hl]; exact hlt) (best := be) (by rw [← hcs.out, ← hah.out, HIL.out.hl]; exact HP.out)
            rw [← hcs.out] at hbe
            have hbk : (b : Int) < (k : Int) := by omega
            obtain ⟨g, off, rfl, hg, c0, c1⟩ := HIL.out.rd.at hbl
            obtain ⟨_, _, eg, hgw, cw, _⟩ := H1.out.1.rd.at hbl
            cases eg
            rw [hbe] at c0 c1 cw
            have HT : Hid (cs.take (j + 1) = cs.take j ++ [cs.getD j l0]) := take_snocL cs j (by rw [HCL.out]; exact hlt)
            have HH : Hid (ahd cs (j + 1) = (cs.getD j l0).1) := by show _ = _; unfold ahd; rw [if_neg (by omega), Nat.add_sub_cancel]
            obtain ⟨x, hx⟩ : ∃ x, Hid (x = cs.getD j l0) := ⟨_, rfl⟩
            rw [← hx.out] at c0 c1 cw HT HH
            obtain ⟨n, v⟩ := x
            simp only at c0 c1 cw HH
            have HCW : Hid (g < w1.heap.size ∧ w1.cell? ⟨g, off + b * 2, none⟩ = some (.string n)) := ⟨hgw, cw⟩
            clear hbe hbl HP cw hgw
            have hqd : Below wr.heap.size wr (wr.drewN q) := below_dr _ _
            have HOq : Hid ((wr.drewN q).ownsRow w1.heap.size 44 2 (.slice ad j c) j (cls (cs.take j))) := own_below HO.out hqd
            have hb0 : (0 : Int) ≤ (b : Int) := by omega
            go_wp2_with (at_builtin; refine wpList_append_own _ rfl (.tmp 49) (.tmp 54) 22 rfl w1.heap.size 44 i0 _ 2 32 Try.underlying22 hi hz0 hz1 hz2 rfl (by decide) _ j _ rfl (HOq.out.alloc _) ⟨(wr.drewN q).heap.size, 0, none⟩ 1 1 [.string n, .string v] rfl rfl (two_at (wr.drewN q) _ _ _) (strs_two _ _) (by unfold maxLen; omega) (by omega) (by simp; omega) ?_; intro v5 w5 ho5 hg5 _
                         have hb5 : Below w1.heap.size w1 w5 := ((hbr.trans (hqd.mono hbs)).alloc hbs _).grown hg5 (by simp; omega) (fun t ht => (HOq.out.lt t ht).1)
                         have ho5' : w5.ownsRow w1.heap.size 44 2 v5 (j + 1) (cls (cs.take (j + 1))) := by rw [HT.out, cls_append]; exact ho5
                         obtain ⟨a5, c5, rfl, _⟩ := own_isL ho5'
                         have c0' : w5.cell? ⟨g, off + b * 2, none⟩ = some (.string n) := (hb5.cell (p := ⟨g, off + b * 2, none⟩) HCW.out.1).trans HCW.out.2
                         clear ho5 hg5)
            go_roundw
            case rel => exact ⟨j + 1, c5, a5, rfl, by omega, by rw [HH.out], ho5', hb5⟩
            case measure => simp [lenOf2]; omega
      · have hlt' : ¬ (j : Int) < (len : Int) := by omega
        obtain rfl : j = len := by omega
        go_wp2_with fail
        go_ret2
        have hall : cs.take j = cs := List.take_of_length_le (by rw [HCL.out]; omega)
        have ho := HO.out
        rw [hall] at ho
        obtain ⟨a', c', e', hI'⟩ := own_isL ho
        cases e'
        have h1l : 1 ≤ j := by rw [← HI.out.1.hl]; exact HM.out.1
        obtain ⟨g, cap', e2, hg1, _, _, _, _, hfz⟩ := own_cell ho (by omega)
        cases e2
        refine ⟨_, by rw [cne_may HM.out]; rfl, ?_, H1.out.2.trans (hbr.mono H1.out.2.size)⟩
        rw [cnl_may HM.out, ← hcs.out]
        refine ⟨some ⟨g, 0, none⟩, c, by rw [HCL.out]; rfl, by rw [HCL.out]; exact hI', fun _ => ⟨g, rfl, Nat.le_trans H1.out.2.size hg1, fun t _ => hfz t⟩⟩
  · have hr := refmay_any a len cap ls w HI.out.1 HI.out.2
    rw [decide_eq_false hm] at hr
    have HR : Hid _ := hr
    have HM : Hid (¬ May ls) := hm
    clear hr hm
    go_enter Try.func12, Try.ntmps12
    go_wp2_with fail
    refine Calls.mono HR.out ?_
    rintro e w1 ⟨rfl, hb1⟩
    go_wp2_with fail
    go_ret2
    exact ⟨_, by rw [cne_not HM.out]; rfl, by rw [cnl_not HM.out]; exact newL_nil _ _, hb1⟩
end Go.Proofs.Ythklkhdcmoonkaa
