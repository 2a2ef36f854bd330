/- Heads (numbers): take. Conditions: how the heap lies. -/
import Derived.Test.YtkojbpifcflgfaaHxi
namespace Go.Proofs.Ytkojbpifcflgfaa.I
open Go.RowKit Go.Shelf
open Go.Sort (swp SWO PermIn size_swp swp_permIn permIn_refl permIn_trans permIn_mono swp_get)
variable {E : Type} [Inhabited E]

omit [Inhabited E] in
theorem set_get {d : Array (Row E)} {x : Row E} {i : Nat} (hi : i < d.size) : (d.setIfInBounds 0 x)[i]! = if i = 0 then x else d[i]! := by
  rw [getElem!_pos _ i (by simpa using hi), getElem!_pos d i hi, Array.getElem_setIfInBounds]
  · by_cases e : i = 0
    · subst e; simp
    · rw [if_neg (fun e' => e e'.symm), if_neg e]
/-- The row less its first. -/
def Row.tl (r : Row E) : Row E := ⟨r.b, r.off + 1, r.c - 1, r.xs.tail⟩
theorem IsW.tl {k : Ks E} {r : Row E} {w : World} (h : IsW k r w) (h1 : 1 < r.xs.length) : IsW k r.tl w := by
  obtain ⟨p1, p2, p3, p4, cur, p5, p6⟩ := h
  refine ⟨by simp [Row.tl]; omega, by simp [Row.tl]; omega, by simp [Row.tl]; omega, p4, cur, p5, fun i hi => ?_⟩
  have hi' : i + 1 < r.xs.length := by simp [Row.tl] at hi; omega
  have := p6 (i + 1) hi'
  rw [show r.tl.off + i = r.off + (i + 1) by simp [Row.tl]; omega, this]
  congr 2
  simp only [Row.tl, List.getD_eq_getElem?_getD, List.getElem?_tail]

theorem hd_tl {k : Ks E} {hb g cap : Nat} {d : Array (Row E)} {w : World} (h0 : 0 < d.size) (h : Hd k hb (.slice (some ⟨g, 0, none⟩) d.size cap) d w) (h1 : 1 < d[0]!.xs.length) :
    Hd k hb (.slice (some ⟨g, 0, none⟩) d.size cap) (d.setIfInBounds 0 d[0]!.tl) (w.setCell ⟨g, 0, none⟩ (encR d[0]!.tl)) ∧ Kw hb (some g) w (w.setCell ⟨g, 0, none⟩ (encR d[0]!.tl)) := by
  have hK : Kw hb (some g) w (w.setCell ⟨g, 0, none⟩ (encR d[0]!.tl)) := (Kw.refl hb (some g) w).set ⟨g, 0, none⟩ _ (.inr rfl)
  obtain ⟨g', cap', cur, e1, e2, e3, e4, _⟩ := h.at h0
  cases e1
  refine ⟨⟨?_, ?_, fun q hq => ?_, by simp; exact h.few, h.old, h.bel.trans (hK.below h.old (fun j e => by cases e; exact Nat.le_trans h.old e2))⟩, hK⟩
  · rw [heap_setCell_other _ _ _ _ (fun e => e3 e.symm)]; exact h.box
  · have o1 := (h.own.stored 0 (encR d[0]!.tl)).1
    rw [Array.size_setIfInBounds, Array.toList_setIfInBounds, List.map_set]; exact o1
  · rw [Array.size_setIfInBounds] at hq
    have hw : IsW k (d.setIfInBounds 0 d[0]!.tl)[q]! w := by
      rw [set_get hq]
      split
      · exact (h.rows 0 h0).tl h1
      · exact h.rows q hq
    refine hw.kw hK (fun cur e => ?_) (fun j' cur' ej e => ?_)
    · rw [h.box] at e; simp at e
    · cases ej; rw [e4] at e; simp at e

set_option maxRecDepth 100000 in
set_option maxHeartbeats 4000000 in
theorem take_any {k : Ks E} (hk : Ok k) {hb : Nat} {v : Value} {d : Array (Row E)} {w : World} (h : Hd k hb v d w) (hp : Hp k.ltr d.size d) (h0 : 0 < d.size) :
    Calls Try.prog 42 #[.pointer (some ⟨hb, 0, none⟩)] w fun e w' => e = .returned (k.enc d[0]!.hd) ∧ ∃ v' d', v'.ownBlock = v.ownBlock ∧ Hd k hb v' d' w' ∧ Hp k.ltr d'.size d' ∧ Left d d' ∧ Kw hb v.ownBlock w w' := by
  have HM : Hid _ := least_any h h0
  have c0 := h.c0
  have hr := h.rows 0 h0
  have few := h.few
  have H0 : Hid (Hd k hb v d w ∧ Hp k.ltr d.size d ∧ 0 < d.size) := ⟨h, hp, h0⟩
  have hn := hr.pos
  have hle := hr.le
  obtain ⟨g, cap, cur, rfl, _, _, hg, _, _, _, hc⟩ := h.at h0
  have cg : w.cell? ⟨g, 0, none⟩ = some (.slice (some ⟨d[0]!.b, d[0]!.off, none⟩) d[0]!.xs.length d[0]!.c) := by rw [cell_of hg]; exact hc 0 h0
  have fg := froz_of hg 0
  obtain ⟨x, hx⟩ : ∃ x, x = k.enc d[0]!.hd := ⟨_, rfl⟩
  rw [← hx] at HM ⊢
  obtain ⟨n, hn'⟩ : ∃ n, n = d.size := ⟨_, rfl⟩
  have Hn : Hid (n = d.size) := hn'
  rw [← hn'] at c0
  have i0 : (0 : Int) < (n : Int) := by omega
  by_cases h1 : 1 < d[0]!.xs.length
  · have hs := hd_tl h0 h h1
    have HF : Hid _ := hfix_any hk hs.1 (by rw [Array.size_setIfInBounds]; exact set_start hp _) (by simpa using h0)
    have HS : Hid _ := hs.2
    have H1 : Hid (1 < d[0]!.xs.length) := h1
    obtain ⟨m, hm⟩ : ∃ m, d[0]!.xs.length = m + 2 := ⟨d[0]!.xs.length - 2, by omega⟩
    have etl : encR d[0]!.tl = .slice (some ⟨d[0]!.b, d[0]!.off + 1, none⟩) (m + 1) (d[0]!.c - 1) := by simp [encR, Row.tl, hm]
    rw [etl] at HF HS
    rw [hm] at cg hle
    obtain ⟨cc, hcc⟩ : ∃ cc, d[0]!.c = cc + 2 := ⟨d[0]!.c - 2, by omega⟩
    rw [hcc] at cg HF HS hle
    rw [show cc + 2 - 1 = cc + 1 by omega] at HF HS
    have hmc : m ≤ cc := by omega
    obtain ⟨b0, hb0⟩ : ∃ b0, b0 = d[0]!.b := ⟨_, rfl⟩
    obtain ⟨o0, ho0⟩ : ∃ o0, o0 = d[0]!.off := ⟨_, rfl⟩
    rw [← hb0, ← ho0] at cg HF HS
    rw [← hn'] at HF
    clear h hp h0 hr hc hg hx hn' hn h1 hm etl hcc hb0 ho0 hs
    go_enter Try.func42, Try.ntmps42
    go_wp2_with fail
    refine Calls.mono HM.out ?_
    rintro e w1 ⟨rfl, e1⟩
    rw [e1]
    clear e1 w1 HM
    go_wp2_with fail
    refine Calls.mono HF.out ?_
    rintro e w2 ⟨rfl, d2, h2, e2, p2, q2, k2⟩
    have HR : Hid (∃ v' d', v'.ownBlock = some g ∧ Hd k hb v' d' w2 ∧ Hp k.ltr d'.size d' ∧ Left d d' ∧ Kw hb (some g) w w2) :=
      ⟨_, d2, rfl, h2, p2, .inl ⟨H1.out, d[0]!.tl, rfl, rfl, by rw [← set_head H0.out.2.2]; exact q2⟩, HS.out.trans k2⟩
    clear h2 e2 p2 q2 k2 HF HS
    go_wp2_with fail
    go_ret
    exact ⟨rfl, HR.out⟩
  · have HF : Hid _ := hpop_any hk h hp h0
    have hm : d[0]!.xs.length = 1 := by omega
    have H1 : Hid (d[0]!.xs.length = 1) := hm
    rw [hm] at cg hle
    obtain ⟨cc, hcc⟩ : ∃ cc, d[0]!.c = cc := ⟨_, rfl⟩
    rw [hcc] at cg hle
    obtain ⟨b0, hb0⟩ : ∃ b0, b0 = d[0]!.b := ⟨_, rfl⟩
    obtain ⟨o0, ho0⟩ : ∃ o0, o0 = d[0]!.off := ⟨_, rfl⟩
    rw [← hb0, ← ho0] at cg
    clear h hp h0 hr hc hg hx hn' hn h1 hm hcc hb0 ho0
    by_cases hc1 : cc = 1
    · subst hc1
      go_enter Try.func42, Try.ntmps42
      go_wp2_with fail
      refine Calls.mono HM.out ?_
      rintro e w1 ⟨rfl, e1⟩
      rw [e1]
      clear e1 w1 HM
      go_wp2_with fail
      refine Calls.mono HF.out ?_
      rintro e w2 ⟨⟨u, rfl⟩, v2, d2, ev, h2, p2, q2, k2⟩
      have HR : Hid (∃ v' d', v'.ownBlock = some g ∧ Hd k hb v' d' w2 ∧ Hp k.ltr d'.size d' ∧ Left d d' ∧ Kw hb (some g) w w2) :=
        ⟨v2, d2, ev, h2, p2, .inr ⟨H1.out, q2⟩, k2⟩
      clear h2 ev p2 q2 k2 HF
      go_wp2_with fail
      go_ret
      exact ⟨rfl, HR.out⟩
    · have hc2 : ¬ ((cc : Int) = 1) := by omega
      have hc3 : 1 < cc := by omega
      go_enter Try.func42, Try.ntmps42
      go_wp2_with fail
      refine Calls.mono HM.out ?_
      rintro e w1 ⟨rfl, e1⟩
      rw [e1]
      clear e1 w1 HM
      go_wp2_with fail
      refine Calls.mono HF.out ?_
      rintro e w2 ⟨⟨u, rfl⟩, v2, d2, ev, h2, p2, q2, k2⟩
      have HR : Hid (∃ v' d', v'.ownBlock = some g ∧ Hd k hb v' d' w2 ∧ Hp k.ltr d'.size d' ∧ Left d d' ∧ Kw hb (some g) w w2) :=
        ⟨v2, d2, ev, h2, p2, .inr ⟨H1.out, q2⟩, k2⟩
      clear h2 ev p2 q2 k2 HF
      go_wp2_with fail
      go_ret
      exact ⟨rfl, HR.out⟩
end Go.Proofs.Ytkojbpifcflgfaa.I
