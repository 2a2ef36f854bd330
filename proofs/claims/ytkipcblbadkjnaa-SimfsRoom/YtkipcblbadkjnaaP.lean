/- The contract of held's iterator: each file that has a path comes once. Conditions: those of each theorem. -/
import Derived.Test.YtkipcblbadkjnaaO
namespace Go.Proofs.Ytkipcblbadkjnaa
open Go.RowKit Go.Shelf
open Go.Maps (Keyed)
attribute [local go_sem] Oper.semAt_some

theorem held_any (b : Nat) (w : World) :
    Calls Try.prog 48 #[.pointer (some ⟨b, 0, none⟩)] w fun e w' => e = .returned (.func (.func 64) #[] #[.pointer (some ⟨w.heap.size, 0, none⟩)]) ∧ w' = w.alloc (.cells #[.pointer (some ⟨b, 0, none⟩)] 24) := by
  go_enter Try.func48, Try.ntmps48
  go_wp2
  go_ret
  exact ⟨rfl, rfl⟩

set_option maxRecDepth 100000 in
set_option maxHeartbeats 2000000 in
theorem held_in (n l Bf b pb pn : Nat) (pm : ByteArray → Option Nat) (K : Nat → Prop) (num : Nat → Int) (J Jx : List { g : Nat // K g } → World → Prop) (W : World)
    (hJ : AbidesFrom W.heap.size J)
    (hY : ∀ pre x W1, J pre W1 → pre.length < pn → YieldAt Fence.wide (n - 1) Try.prog l (encH x) W1 fun e W' =>
      (e = .returned (.bool true) ∧ J (pre ++ [x]) W' ∧ Kh K W1 W') ∨ (e = .returned (.bool false) ∧ Jx (pre ++ [x]) W'))
    (hBf : W.cell? ⟨Bf, 0, none⟩ = some (.pointer (some ⟨b, 0, none⟩))) (hb : W.cell? ⟨b, 2, none⟩ = some (.map (some pb))) (hM : Mp W pb pn pm) (hpn : pn ≤ 1000000)
    (hpk : ∀ s g, pm s = some g → K g) (hnum : ∀ g, K g → W.cell? ⟨g, 0, none⟩ = some (.int .i64 (num g))) (hinj : ∀ g g', K g → K g' → num g = num g' → g = g') (hwf : ∀ g, K g → 0 ≤ num g ∧ num g ≤ 4000000) (h0 : J [] W) :
    CallsIn Fence.wide n Try.prog 64 #[.func (.yield l) #[] #[], .pointer (some ⟨Bf, 0, none⟩)] W fun e W' => (∃ v, e = .returned v) ∧
      ((∃ ys, Held pm pn ys ∧ J ys W') ∨ (∃ pre : List { g : Nat // K g }, True ∧ Jx pre W')) := by
  obtain ⟨D, hown, hD⟩ := hM
  have hsz := hown.size_le
  have hlen : ∀ ty, (Builtin.len_ #[64] ty #[.map (some pb)]).run Try.prog W = .ok (.int .i64 (Maps.size D)) W := fun ty => hown.len Try.underlying64 ty
  have hmk := run_makeMap_hint W (Maps.size D)
  have hown1 : (W.alloc (.map #[] 0)).ownsMap Try.prog 9 ptrElem pb pn D := hown.alloc _
  have hBf1 : (W.alloc (.map #[] 0)).cell? ⟨Bf, 0, none⟩ = some (.pointer (some ⟨b, 0, none⟩)) := cell_grown (World.grownBy_alloc W _ none) (by simp) hBf
  have hb1 : (W.alloc (.map #[] 0)).cell? ⟨b, 2, none⟩ = some (.map (some pb)) := cell_grown (World.grownBy_alloc W _ none) (by simp) hb
  have HO : Hid (W.ownsMap Try.prog 9 ptrElem pb pn D) := hown
  have HO1 : Hid ((W.alloc (.map #[] 0)).ownsMap Try.prog 9 ptrElem pb pn D) := hown1
  have HD : Hid (∀ s, D.atKey (kl s) .nil = rdp (pm s) ∧ Maps.has D (kl s) = (pm s).isSome) := hD
  have HY := (show Hid _ from hY)
  have HJ : Hid (AbidesFrom W.heap.size J) := hJ
  have HP : Hid (∀ s g, pm s = some g → K g) := hpk
  have HN : Hid (∀ g, K g → W.cell? ⟨g, 0, none⟩ = some (.int .i64 (num g))) := hnum
  have HI : Hid (∀ g g', K g → K g' → num g = num g' → g = g') := hinj
  have HW : Hid (∀ g, K g → 0 ≤ num g ∧ num g ≤ 4000000) := hwf
  have H0 : Hid (J [] W) := h0
  clear hown hown1 hD hY hJ hpk hnum hinj hwf h0
  refine callsIn_of_wp Try.func64 rfl trivial ?_ rfl
  simp only [Try.ntmps64, List.size_toArray, List.length_cons, List.length_nil, Nat.reduceAdd, Nat.reduceSub, Array.replicate_succ, Array.replicate_zero, List.push_toArray, List.append_toArray, List.nil_append, List.cons_append]
  gi_wp2_with (first
    | (gi_at_range; refine wpListIn_range_own _ rfl _ 64 rfl 9 76 (Maps.string_keyed Try.underlying9) Try.underlying64 _ pb pn _ rfl HO1.out ?_; intro w0 hrg0 hg0 hs0)
    | gi_in)

  go_frame
  simp only [World.size_alloc] at hrg0 hs0 ⊢
  clear hlen hmk hBf1 hb1 hBf hb
  gi_loopw [5] (fun _ wr => ∃ (left : Lit → Bool) (cnt : Nat) (ys : List { g : Nat // K g }) (nn : Nat), Hid (wr.ranges Try.prog 9 ptrElem pb (W.heap.size + 1) pn D left cnt) ∧ Hid (Sm wr W.heap.size nn (fun i => ys.any (fun y => decide (num y.1 = i)))) ∧ Hid (J ys wr) ∧ Hid (Come pm left ys) ∧ Hid (∀ g, K g → wr.cell? ⟨g, 0, none⟩ = some (.int .i64 (num g))) ∧ Hid (ys.length + cnt ≤ Maps.size D ∧ nn + cnt ≤ Maps.size D))
    (fun _ wr => wr.rangeLeft pb (W.heap.size + 1))
  case atStart =>
    have hal := World.grownBy_alloc W (.map #[] 0) none
    refine ⟨_, _, [], 0, hrg0, (Sm.made W).kept (hg0.block W.heap.size (by simp) (by simp)), HJ.out _ _ _ none (HJ.out _ _ _ none H0.out hal (by simp)) hg0 (by simp), ⟨List.nodup_nil, by simp, fun s g e hl => ?_⟩, fun g hg => cell_grown hg0 (by simp) (cell_grown hal (by simp) (HN.out g hg)), ?_⟩
    · have := (HD.out s).2
      rw [hl, e] at this
      cases this
    · exact ⟨by simp, by simp⟩
  case round =>
    obtain ⟨left, cnt, ys, nn, hrg, hSm, hJs, hC, hNs, hcc⟩ := hrel
    gi_wp2_with (first
      | (gi_at_next; refine wpListIn_next_ranges _ rfl _ rfl 9 (Maps.string_keyed Try.underlying9) ptrElem Value.string pv (fun key kl hk => Maps.keyOf_string_inv Try.underlying9 hk) (fun v y hv => by obtain ⟨o, h, _⟩ := ptrElem_inv hv; exact ⟨o, h⟩) pb (W.heap.size + 1) pn _ _ _ rfl hrg.out ?_ ?_)
      | gi_in)
    · intro hc0 hl0
      gi_wp2
      go_end0
      exact ⟨⟨_, rfl⟩, .inl ⟨ys, hC.out.held hl0 (by have := hcc.out; omega), hJs.out⟩⟩
    · intro s c kl0 yd yp w2 cnt2 hkey hlk hv hat hrg2 hlt hg2 hs2 hen
      have hkl : kl0 = kl s := by
        simp [keyOf, Try.underlying9, mapKey] at hkey
        exact hkey.2.symm
      subst hkl
      have hpms : pm s = c := rdp_inj (((HD.out s).1.symm.trans (hat .nil)).trans (by rw [ptrElem_pv] at hv; exact (congrArg Prod.fst (Option.some.inj hv)).symm))
      obtain ⟨g, hg⟩ := Option.isSome_iff_exists.1 ((HD.out s).2.symm.trans (Maps.has_true_of_atKey hat))
      obtain rfl : c = some g := hpms.symm.trans hg
      have hKg : K g := HP.out s g hg
      have hwk : ∀ r, some (W.heap.size + 1) = some r → ∃ o : Obj, wr.heap[r]? = some o ∧ o.isWalk = true := fun r e => by cases e; exact hrg.out.iter_walk
      have hN2 : ∀ g, K g → w2.cell? ⟨g, 0, none⟩ = some (.int .i64 (num g)) := fun g hg => cell_grown hg2 hwk (hNs.out g hg)
      have hn2 := hN2 g hKg
      have hSm2 : Sm w2 W.heap.size nn _ := hSm.out.kept (hg2.block _ hSm.out.lt (by simp))
      have lk := hSm2.look (num g) (HW.out g hKg)
      have hJ2 : J ys w2 := HJ.out ys wr w2 (some (W.heap.size + 1)) hJs.out hg2 (fun r e => ⟨by cases e; omega, hwk r e⟩)
      have HN2 : Hid _ := hN2
      have HS2 : Hid (Sm w2 W.heap.size nn _) := hSm2
      have HJ2 : Hid (J ys w2) := hJ2
      have HG : Hid (pm s = some g) := hg
      have HK : Hid (K g) := hKg
      have HR2 : Hid (World.ranges w2 _ _ _ _ _ _ _ _ cnt2) := hrg2
      have HLT : Hid (cnt2 < cnt) := hlt
      simp only [pv] at hen ⊢
      clear hN2 hSm2 hJ2 hg hpms hat hv hwk hkey hlk hrg2 hlt hg2 hs2
      by_cases hin : (⟨g, hKg⟩ : { g : Nat // K g }) ∈ ys
      · have hf : ys.any (fun y => decide (num y.1 = num g)) = true := List.any_eq_true.2 ⟨_, hin, by simp⟩
        rw [hf] at lk
        have HIN : Hid ((⟨g, HK.out⟩ : { g : Nat // K g }) ∈ ys) := hin
        clear hin hf hKg
        gi_wp2
        go_roundw
        case rel =>
          have h1 := hcc.out
          have h2 := HLT.out
          exact ⟨_, cnt2, ys, nn, HR2.out, HS2.out, HJ2.out, hC.out.old (g := ⟨g, HK.out⟩) HG.out HIN.out, HN2.out, ⟨by omega, by omega⟩⟩
        case measure => rw [HR2.out.left_eq, hrg.out.left_eq]; exact HLT.out
      · have hf : ys.any (fun y => decide (num y.1 = num g)) = false := by
          rw [List.any_eq_false]
          intro y hy e
          have : y = ⟨g, hKg⟩ := Subtype.ext (HI.out y.1 g y.2 hKg (by simpa using e))
          exact hin (this ▸ hy)
        rw [hf] at lk
        have h1 := hcc.out
        have h2 := HLT.out
        obtain ⟨w3, hrun, hSm3, hg3⟩ := HS2.out.put (num g) (HW.out g hKg) (by unfold maxLen; omega)
        have hwk3 : ∀ r, some W.heap.size = some r → ∃ o : Obj, w2.heap[r]? = some o ∧ o.isWalk = true := fun r e => by cases e; exact HS2.out.walk
        have hJ3 : J ys w3 := HJ.out ys w2 w3 (some W.heap.size) HJ2.out hg3 (fun r e => ⟨by cases e; exact Nat.le_refl _, hwk3 r e⟩)
        have hN3 : ∀ g, K g → w3.cell? ⟨g, 0, none⟩ = some (.int .i64 (num g)) := fun g hg => cell_grown hg3 hwk3 (HN2.out g hg)
        have hrg3 := HR2.out.kept hg3 (by have := HR2.out.owns; intro e; cases e; exact absurd this.lt (by have := HO.out.lt; omega)) (by simp)
        obtain ⟨fn, tmps, assign, body, hy, hR⟩ := HY.out ys ⟨g, HK.out⟩ w3 hJ3 (by omega)
        have HR : Hid _ := hR
        have HS3 : Hid (Sm w3 W.heap.size (nn + 1) _) := hSm3
        have HN3 : Hid _ := hN3
        have HR3 : Hid (World.ranges w3 _ _ _ _ _ _ _ _ cnt2) := hrg3
        have HIN : Hid ((⟨g, HK.out⟩ : { g : Nat // K g }) ∉ ys) := hin
        simp only [encH] at hy
        clear hin hf hKg hR hSm3 hN3 hrg3 hJ3 hg3 hwk3 h1 h2
        gi_wp2
        refine ⟨(fun h => by cases h), RoundIn.mono HR.out ?_⟩
        rintro e W3 (⟨rfl, hJ4, hk4⟩ | ⟨rfl, hJx⟩)
        · have HJ4 : Hid _ := hJ4
          have HK4 : Hid (Kh K w3 W3) := hk4
          clear hJ4 hk4
          gi_wp2
          have hrg4 := HR3.out.of_walks HK4.out.walks
          go_roundw
          case rel =>
            have h1 := hcc.out
            have h2 := HLT.out
            obtain ⟨o, ho, hw⟩ := HS3.out.walk
            refine ⟨_, cnt2, ys ++ [(⟨g, HK.out⟩ : { g : Nat // K g })], nn + 1, hrg4, ?_, HJ4.out, hC.out.new (g := ⟨g, HK.out⟩) HG.out HIN.out, fun g' hg' => (HK4.out.nums g' hg').trans (HN3.out g' hg'), ⟨by simp; omega, by omega⟩⟩
            have := HS3.out.kept ((HK4.out.walks.same _ o ho hw).trans ho.symm)
            refine cast (congrArg (Sm W3 W.heap.size (nn + 1)) (funext fun i => ?_)) this
            rw [List.any_append, Bool.or_comm]
            simp [eq_comm]
          case measure => rw [hrg4.left_eq, hrg.out.left_eq]; exact HLT.out
        · have HJx : Hid _ := hJx
          clear hJx
          gi_wp2
          refine bodyPost_ret (results_none rfl _ _ _) rfl ?_
          exact ⟨⟨_, rfl⟩, .inr ⟨_, trivial, HJx.out⟩⟩
end Go.Proofs.Ytkipcblbadkjnaa
