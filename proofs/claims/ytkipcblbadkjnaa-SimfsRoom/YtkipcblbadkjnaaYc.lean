/- The contracts of cloner and moved. Conditions: those of each theorem. -/
import Derived.Test.YtkipcblbadkjnaaYb
import Derived.Laws.IdiomRangeMap
namespace Go.Proofs.Ytkipcblbadkjnaa
open Go.RowKit
open Go.Maps (Keyed)

theorem cloner_any (w : World) : Calls Try.prog 57 #[] w fun e w' => e = .returned (.func (.func 70) #[] #[.pointer (some ⟨w.heap.size + 1, 0, none⟩)]) ∧ w' = (w.alloc (.map #[] 0)).alloc (.cells #[.map (some w.heap.size)] 111) := by
  have hmk : ∀ W : World, (Instr.makeMap 111 none).run Try.prog W = .ok (.map (some W.heap.size)) (W.alloc (.map #[] 0)) := fun W => by
    simp [Instr.makeMap, go_sem, Result.andThen]
  go_enter Try.func57, Try.ntmps57
  go_wp2
  go_ret
  exact ⟨rfl, rfl⟩
theorem run_makeMap64 (w : World) (k : Nat) : (Instr.makeMap 64 (some (.int .i64 (k : Int)))).run Try.prog w = .ok (.map (some w.heap.size)) (w.alloc (.map #[] 0)) := by
  simp [Instr.makeMap, run_underlying Try.underlying64, go_sem, Result.andThen]
theorem cs_start (x : X) (w : World) {B : Nat} (hB : B ≤ w.heap.size) : Cs x B w.heap.size 0 (fun _ => none) ((w.alloc (.map #[] 0)).alloc (.cells #[.map (some w.heap.size)] 111)) :=
  ⟨fun _ => False, fun _ => 0, fun _ => undef, fun _ => [], fun _ => 0, ⟨⟨_, (Nm.made w).kept (Below.heap_alloc _ _ _ (by simp)), fun _ _ => rfl⟩, ⟨fun _ h => h.elim, fun _ h => h.elim, fun _ _ h => h.elim, fun _ _ h => h.elim, fun _ h => h.elim, fun _ h => h.elim⟩, (fun _ _ h => (by cases h)), (fun _ h => h.elim), (fun _ h => h.elim), hB⟩⟩
theorem Kp.grow {m : Nat} {W W' : World} (h : Kp (fun k => k = m) W W') : W.grownBy W' (some m) := ⟨h.os, h.tape, h.output, h.size, fun k hk hne => h.block k hk (fun e => hne (by rw [e]))⟩

set_option linter.unusedSimpArgs false in
set_option maxRecDepth 100000 in
set_option maxHeartbeats 4000000 in
theorem moved_some {x : X} {b B mb n Bc pb pn : Nat} {pm : ByteArray → Option Nat} {d : Nat → Option Nat} {w : World} (hx : FW w b x) (hfoot : ∀ k, foot b x k → k < B) (hC : Cs x B mb n d w) (hB : B ≤ w.heap.size) (hBc : w.cell? ⟨Bc, 0, none⟩ = some (.map (some mb)))
    (hM : Mp w pb pn pm) (hpk : ∀ s g, pm s = some g → x.K g) (hne : pb ≠ mb) (hn : n + pn ≤ 90000000) :
    Calls Try.prog 58 #[.map (some pb), .func (.func 70) #[] #[.pointer (some ⟨Bc, 0, none⟩)]] w fun e w' => ∃ q n2 d2, e = .returned (.map (some q)) ∧ w.heap.size ≤ q ∧ (∀ i j, d i = some j → d2 i = some j) ∧ n2 ≤ n + pn ∧ Cs x B mb n2 d2 w' ∧ (∀ s g, pm s = some g → ∃ h, d2 g = some h) ∧ Mp w' q pn (fun s => (pm s).bind d2) ∧ Kp (fun k => k = mb) w w' := by
  obtain ⟨D, hown, hD⟩ := hM
  have hsz := hown.size_le
  have hlen : ∀ ty, (Builtin.len_ #[64] ty #[.map (some pb)]).run Try.prog w = .ok (.int .i64 (Maps.size D)) w := fun ty => hown.len Try.underlying64 ty
  have hmk := run_makeMap64 w (Maps.size D)
  have hown1 : (w.alloc (.map #[] 0)).ownsMap Try.prog 9 ptrElem pb pn D := hown.alloc _
  have HO : Hid (w.ownsMap Try.prog 9 ptrElem pb pn D) := hown
  have HO1 : Hid ((w.alloc (.map #[] 0)).ownsMap Try.prog 9 ptrElem pb pn D) := hown1
  have HD : Hid (∀ s, D.atKey (kl s) .nil = rdp (pm s) ∧ Maps.has D (kl s) = (pm s).isSome) := hD
  have HX : Hid (FW w b x ∧ ∀ k, foot b x k → k < B) := ⟨hx, hfoot⟩
  have HC : Hid (Cs x B mb n d w) := hC
  have HP : Hid (∀ s g, pm s = some g → x.K g) := hpk
  have HBc : Hid (w.cell? ⟨Bc, 0, none⟩ = some (.map (some mb))) := hBc
  have hmbl : mb < w.heap.size := tg_lt hC.tgm
  have hBmb := hC.mb
  have hBcl : Bc < w.heap.size := World.block_lt_of_cell? w _ hBc
  have hpbl : pb < w.heap.size := hown.lt
  have hBcm : Bc ≠ mb := fun e => by
    have := hC.tgm
    subst e
    unfold tg at this
    obtain ⟨K', num', rv', bs', st', hc⟩ := hC
    obtain ⟨f, ⟨Dn, ⟨es, clock, hb, _⟩, _⟩, _⟩ := hc.nm
    simp [World.cell?, hb] at hBc
  clear hown hown1 hD hx hfoot hC hpk hBc
  go_enter Try.func58, Try.ntmps58
  go_wp2_with (at_range; refine wpList_range_own _ rfl _ 64 rfl 9 76 (Maps.string_keyed Try.underlying9) Try.underlying64 _ pb pn _ rfl HO1.out ?_; intro w0 hrg0 hg0 hs0)
  go_frame
  simp only [World.size_alloc] at hrg0 hs0 ⊢
  clear hlen hmk
  have hal := World.grownBy_alloc w (.map #[] 0) none
  have k0 : Kp (fun k => k = mb) w w0 := ((Kp.refl (fun k => k = mb) w).alloc (.map #[] 0)).trans (Q := fun _ => False) (Kp.grown hg0 (fun k e => by cases e)) (fun _ e => e.elim)
  have hM0 : Mp w0 w.heap.size 0 (fun _ => none) := (Mp.made w).kept (hg0.block _ (by simp) (by simp))
  have HK0 : Hid _ := k0
  have HM0 : Hid (Mp w0 w.heap.size 0 (fun _ => none)) := hM0
  have HCs0 : Hid (Cs x B mb n d w0) := HC.out.kp (P := fun _ => False) (((Kp.refl (fun _ => False) w).alloc (.map #[] 0)).trans (Q := fun _ => False) (Kp.grown hg0 (fun k e => by cases e)) (fun _ e => e.elim)) (fun e => e) (fun _ _ e => e) (fun _ _ e => e)
  clear k0 hM0 hal
  go_loopw [6, 7] (fun _ _ wr => ∃ (left : Lit → Bool) (cnt n2 nn : Nat) (d2 : Nat → Option Nat) (mo : ByteArray → Option Nat), Hid (wr.ranges Try.prog 9 ptrElem pb (w.heap.size + 1) pn D left cnt) ∧ Hid (Cs x B mb n2 d2 wr) ∧ Hid (∀ i j, d i = some j → d2 i = some j) ∧ Hid (Mp wr w.heap.size nn mo) ∧
      Hid (∀ s, (left (kl s) = false → mo s = (pm s).bind d2 ∧ ∀ g, pm s = some g → ∃ h, d2 g = some h) ∧ (left (kl s) = true → mo s = none)) ∧ Hid (Kp (fun k => k = mb) w wr) ∧ Hid (n2 + cnt ≤ n + Maps.size D ∧ nn + cnt ≤ Maps.size D))
    (fun _ _ wr => wr.rangeLeft pb (w.heap.size + 1))
  case atStart =>
    refine ⟨_, _, n, 0, d, _, hrg0, HCs0.out, fun _ _ e => e, HM0.out, fun s => ⟨fun hl => ?_, fun _ => rfl⟩, HK0.out, ?_⟩
    · have := (HD.out s).2
      rw [hl] at this
      have hnn : pm s = none := by cases h : pm s with
        | none => rfl
        | some _ => rw [h] at this; cases this
      rw [hnn]
      exact ⟨rfl, fun g e => by cases e⟩
    · exact ⟨by simp, by simp⟩
  case round =>
    obtain ⟨left, cnt, n2, nn, d2, mo, hrg, hCs, hext, hMo, hrel, hKw, hcc⟩ := hrel
    go_wp2_with (first
      | (at_next; refine wpList_next_ranges _ rfl _ rfl 9 (Maps.string_keyed Try.underlying9) ptrElem Value.string pv (fun key kl hk => Maps.keyOf_string_inv Try.underlying9 hk) (fun v y hv => by obtain ⟨o, h, _⟩ := ptrElem_inv hv; exact ⟨o, h⟩) pb (w.heap.size + 1) pn _ _ _ rfl hrg.out ?_ ?_))
    · intro hc0 hl0
      go_wp2
      go_ret
      have hfun : mo = fun s => (pm s).bind d2 := funext fun s => ((hrel.out s).1 (hl0 _)).1
      refine ⟨w.heap.size, n2, d2, rfl, Nat.le_refl _, hext.out, by have := hcc.out; omega, hCs.out, fun s g e => ((hrel.out s).1 (hl0 _)).2 g e, ?_, hKw.out⟩
      have := hMo.out.mono (n' := pn) (by have := hcc.out; omega)
      rwa [hfun] at this
    · intro s c kl0 yd yp w2 cnt2 hkey hlk hv hat hrg2 hlt hg2 hs2 hen
      have hkl : s.size ≤ maxLen ∧ kl0 = kl s := by
        simp [keyOf, Try.underlying9, mapKey] at hkey
        exact ⟨hkey.1, hkey.2.symm⟩
      obtain ⟨hssz, rfl⟩ := hkl
      have hpms : pm s = c := rdp_inj (((HD.out s).1.symm.trans (hat .nil)).trans (by rw [ptrElem_pv] at hv; exact (congrArg Prod.fst (Option.some.inj hv)).symm))
      obtain ⟨g, hg⟩ := Option.isSome_iff_exists.1 ((HD.out s).2.symm.trans (Maps.has_true_of_atKey hat))
      obtain rfl : c = some g := hpms.symm.trans hg
      have hKg : x.K g := HP.out s g hg
      have k2 : Kp (fun k => k = w.heap.size + 1) wr w2 := Kp.grown hg2 (fun k e => by cases e; rfl)
      have hitn : ∀ k t, tg wr k = some t → k ≠ w.heap.size + 1 := fun k t ht e => by
        subst e
        obtain ⟨o, ho, hw⟩ := hrg.out.iter_walk
        obtain ⟨es, clock, since, seen, c0, hb', _, _, _, hr', _⟩ := hrg.out
        unfold tg at ht
        rw [hr'] at ht
        cases ht
      have hCs2 : Cs x B mb n2 d2 w2 := hCs.out.kp k2 (hitn mb _ hCs.out.tgm) (fun k ht => hitn k _ ht) (fun k ht => hitn k _ ht)
      have hMo2 : Mp w2 w.heap.size nn mo := hMo.out.kept (k2.block _ hMo.out.lt (hitn _ _ hMo.out.tg))
      have hKw2 : Kp (fun k => k = mb) w w2 := hKw.out.trans k2 (fun i e => .inr (by omega))
      have hx2 : FW w2 b x := HX.out.1.kp hKw2 (fun k hf e => by have := HX.out.2 k hf; omega)
      have hBc2 : w2.cell? ⟨Bc, 0, none⟩ = some (.map (some mb)) := (hKw2.cell (p := ⟨Bc, 0, none⟩) hBcl hBcm).trans HBc.out
      have HOWN : Hid _ := own_any hx2 hCs2 (Nat.le_trans hB hKw2.size) hBc2 hKg (by have := hcc.out; omega)
      have HMo2 : Hid (Mp w2 w.heap.size nn mo) := hMo2
      have HKw2 : Hid (Kp (fun k => k = mb) w w2) := hKw2
      have HR2 : Hid (World.ranges w2 _ _ _ _ _ _ _ _ cnt2) := hrg2
      have HG : Hid (pm s = some g) := hg
      have HLT : Hid (cnt2 < cnt) := hlt
      have HSS : Hid (s.size ≤ maxLen) := hssz
      have hcf : ∀ W, Sem.run Try.prog (callFunc 70 #[.pointer (some ⟨g, 0, none⟩), .pointer (some ⟨Bc, 0, none⟩)]) W = .ok (.enter 70 #[.pointer (some ⟨g, 0, none⟩), .pointer (some ⟨Bc, 0, none⟩)]) W := fun W => by simp [go_sem]
      simp only [pv] at hen ⊢
      clear hkey hpms hat hv hrg2 hg2 hs2 hCs2 hMo2 hKw2 hx2 hBc2 k2 hitn hg hlt hlk hKg hssz
      go_wp2_with fail
      refine Calls.mono HOWN.out ?_
      rintro e w3 ⟨h, n3, d3, rfl, hd3, he3, hn3, hC3, hk3⟩
      have hqm : w.heap.size ≠ mb := by omega
      have HMo3 : Hid (Mp w3 w.heap.size nn mo) := HMo2.out.kept (hk3.block _ HMo2.out.lt hqm)
      have HR3 : Hid (World.ranges w3 _ _ _ _ _ _ _ _ cnt2) := HR2.out.kept hk3.grow (by intro e; exact hne (Option.some.inj e)) (by intro e; have := Option.some.inj e; omega)
      have H3 : Hid (d3 g = some h ∧ (∀ i j, d2 i = some j → d3 i = some j) ∧ n3 ≤ n2 + 1 ∧ Cs x B mb n3 d3 w3 ∧ Kp (fun k => k = mb) w w3) := ⟨hd3, he3, hn3, hC3, HKw2.out.trans hk3 (fun i e => .inl e)⟩
      have HNN : Hid (nn < maxLen) := by show nn < maxLen; have := hcc.out; have := HLT.out; unfold maxLen; omega
      clear hd3 he3 hn3 hC3 hk3
      go_wp2_with (refine wpList_mput _ rfl (.tmp 18) (.tmp 19) (.tmp 22) rfl w.heap.size nn mo rfl HMo3.out s rfl HSS.out h rfl HNN.out ?_; intro w4 hM4 hg4)
      have HM4 : Hid (Mp w4 w.heap.size (nn + 1) (upd mo s (some h))) := hM4
      have HG4 : Hid (w3.grownBy w4 (some w.heap.size)) := hg4
      clear hM4 hg4
      go_roundw
      case rel =>
        refine ⟨_, _, _, _, _, _, _, _, _, _, _, _, ?_, rfl⟩
        obtain ⟨q1, q2, q3, q4, q5⟩ := H3.out
        have k4 : Kp (fun k => k = w.heap.size) w3 w4 := Kp.grown HG4.out (fun k e => by cases e; rfl)
        have tq := HMo3.out.tg
        refine ⟨_, cnt2, n3, nn + 1, d3, _, HR3.out.kept HG4.out (by intro e; have := Option.some.inj e; omega) (by intro e; have := Option.some.inj e; omega), q4.kp k4 (by omega) (fun k ht e => tg_ne ht tq (by decide) e) (fun k ht e => tg_ne ht tq (by decide) e), fun i j e => q2 i j (hext.out i j e), HM4.out, fun s' => ?_, q5.trans k4 (fun i e => .inr (by omega)), ?_⟩
        · obtain ⟨r1, r2⟩ := hrel.out s'
          by_cases e : s' = s
          · subst e
            refine ⟨fun _ => ⟨?_, fun g' eg => ?_⟩, fun hl => ?_⟩
            · rw [HG.out]; simp [upd, q1]
            · rw [HG.out] at eg; cases eg; exact ⟨h, q1⟩
            · simp [kl, Lit.sameKey] at hl
          · have hns : (kl s').sameKey (kl s) = false := by
              cases hh : (kl s').sameKey (kl s) with
              | false => rfl
              | true => exact absurd (kl_inj (WideAt.sameKey_eq hh)) e
            refine ⟨fun hl => ?_, fun hl => ?_⟩
            · simp only [hns, Bool.not_false, Bool.and_true] at hl
              obtain ⟨r3, r4⟩ := r1 hl
              refine ⟨?_, fun g' eg => ?_⟩
              · simp only [upd, if_neg e]
                rw [r3]
                cases hp : pm s' with
                | none => rfl
                | some g' =>
                  obtain ⟨h', hh⟩ := r4 g' hp
                  simp [hh, q2 g' h' hh]
              · obtain ⟨h', hh⟩ := r4 g' eg
                exact ⟨h', q2 g' h' hh⟩
            · simp only [hns, Bool.not_false, Bool.and_true] at hl
              simp only [upd, if_neg e]
              exact r2 hl
        · have h1 := hcc.out
          have h2 := HLT.out
          exact ⟨by omega, by omega⟩
      case measure => rw [(HR3.out.kept HG4.out (by intro e; have := Option.some.inj e; omega) (by intro e; have := Option.some.inj e; omega)).left_eq, hrg.out.left_eq]; exact HLT.out
end Go.Proofs.Ytkipcblbadkjnaa
