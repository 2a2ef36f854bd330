/- Rows in a heap of heads (items): Pop and Push. Conditions: how the heap lies. -/
import Derived.Test.YtkojbpifcflgfaaSwb
import Derived.Laws.AppendOwn
import Derived.Deep.RegionLaw
import Derived.Test.YtkojbpifcflgfaaVa
import Derived.RangeFuncBox
namespace Go.Proofs.Ytkojbpifcflgfaa.B
open Go.RowKit Go.Shelf
open Go.Sort (swp SWO PermIn size_swp swp_permIn permIn_refl permIn_trans permIn_mono swp_get)
variable {E : Type} [Inhabited E]

theorem at_one {W : World} {g : Nat} {x : Value} (h : W.cell? ⟨g, 0, none⟩ = some x) : ∀ j u, [x][j]? = some u → W.cell? ((⟨g, 0, none⟩ : Addr).add j) = some u := by
  intro j u hj
  match j, hj with
  | 0, hj => simp at hj; subst hj; simpa [Addr.add] using h
/-- 'append' onto a row of the call's own, as one step of a statement that leaves its order open. -/
theorem step_append_own {P : Program} {ops : Array Oper} {o : Oper} {a : Act} {w : World} {K : Act → World → Prop} {Q : Exit → Act → World → Prop} {E : Prop} (hg : o.guard = none) (s x : Operand) (t : TypeId)
    (ho : o.op = .call { callee := .builtin .append, args := #[s, x], argTypes := #[t, t] })
    (base : Nat) (e : TypeId) (i : TypeInfo) (z : Value) (size bytes : Nat) (ht : P.underlying t = some (.slice e)) (hi : P.info? e = some i) (hz : i.zero = some z)
    (hsize : i.size = size) (hby : i.bytes = bytes) (hzs : z.cells.size = size) (hsz : 0 < size)
    (v : Value) (n : Nat) (xs : List Value) (hs : a.eval s = v) (hown : w.ownsRow base e size v n xs)
    (ad : Addr) (m c : Nat) (news : List Value) (hx : a.eval x = .slice (some ad) m c) (hl : news.length = m * size) (hnews : ∀ j u, news[j]? = some u → w.cell? (ad.add j) = some u) (h1 : ∀ u ∈ news, u.oneCell' = true)
    (h63 : n + m ≤ maxLen) (hbytes : (n + m) * bytes ≤ 140737488355328) (hbase : base ≤ w.heap.size)
    (h : ∀ v' w', w'.ownsRow base e size v' (n + m) (xs ++ news) → w.grownBy w' v.ownBlock → K (a.put o.dst v') w') :
    if Region.wanted o (yielded ops a.tmps) = true then Oper.wp P o a w K Q else E := by
  have hw : Region.wanted o (yielded ops a.tmps) = true := by simp [Region.wanted, hg]
  rw [if_pos hw]
  exact wp_append_own w s x t ho base e i z size bytes ht hi hz hsize hby hzs hsz v n xs hs hown ad m c news hx hl hnews h1 h63 hbytes hbase fun v' w' h2 h3 _ => h v' w' h2 h3

theorem box_set {w : World} {hb : Nat} {v f : Value} {t : TypeId} (h : w.heap[hb]? = some (.cells #[v, f] t (0, 0))) (u : Value) : (w.setCell ⟨hb, 0, none⟩ u).heap[hb]? = some (.cells #[u, f] t (0, 0)) := by
  rw [heap_setCell_same w hb 0 _ t u h]; rfl

omit [Inhabited E] in
theorem pop_get {d : Array (Row E)} {i : Nat} (hi : i < d.pop.size) : d.pop[i]! = d[i]! := by
  have h : i < d.size := by simp at hi; omega
  rw [getElem!_pos d.pop i hi, getElem!_pos d i h, Array.getElem_pop]

theorem hd_pop {k : Ks E} {hb g cap : Nat} {d : Array (Row E)} {w : World} (hp : 0 < d.size) (h : Hd k hb (.slice (some ⟨g, 0, none⟩) d.size cap) d w) :
    Hd k hb (.slice (some ⟨g, 0, none⟩) (d.size - 1) cap) d.pop (w.setCell ⟨hb, 0, none⟩ (.slice (some ⟨g, 0, none⟩) (d.size - 1) cap)) ∧ Kw hb (some g) w (w.setCell ⟨hb, 0, none⟩ (.slice (some ⟨g, 0, none⟩) (d.size - 1) cap)) := by
  have hK : Kw hb (some g) w (w.setCell ⟨hb, 0, none⟩ (.slice (some ⟨g, 0, none⟩) (d.size - 1) cap)) := (Kw.refl hb (some g) w).set ⟨hb, 0, none⟩ _ (.inl rfl)
  obtain ⟨g', cap', cur, e1, e2, e3, e4, e5, e6, e7, e8⟩ := h.at hp
  cases e1
  refine ⟨⟨box_set h.box _, ⟨by simp, .inr ⟨g, cap, cur, by simp, e2, ?_, by simp; omega, e6, by omega, ?_⟩⟩, fun q hq => ?_, by simp; have := h.few; omega, h.old, h.bel.trans (hK.below h.old (fun j e => by cases e; exact Nat.le_trans h.old e2))⟩, hK⟩
  · rw [heap_setCell_other _ _ _ _ e3]; exact e4
  · apply List.ext_getElem?
    intro i
    rw [List.getElem?_take]
    simp only [Array.size_pop, Nat.mul_one]
    by_cases hi : i < d.size - 1
    · rw [if_pos hi]
      have hi2 : i < d.pop.size := by simp; omega
      have := e8 i (by omega)
      rw [← pop_get hi2] at this
      simp only [Array.getElem?_toList, List.getElem?_map]
      rw [this, Array.getElem?_eq_getElem hi2, getElem!_pos d.pop i hi2]; rfl
    · rw [if_neg hi]
      rw [List.getElem?_eq_none (by simp; omega)]
  · rw [pop_get hq]
    refine (h.rows q (by simp at hq; omega)).kw hK (fun cur e => ?_) (fun j' cur' ej e => ?_)
    · rw [h.box] at e; simp at e
    · cases ej; rw [e4] at e; simp at e

set_option maxRecDepth 100000 in
set_option maxHeartbeats 4000000 in
theorem pop_any {k : Ks E} {hb : Nat} {v : Value} {d : Array (Row E)} {w : World} (h : Hd k hb v d w) (hp : 0 < d.size) :
    Calls Try.prog 105 #[.pointer (some ⟨hb, 0, none⟩)] w fun e w' => (∃ u, e = .returned u) ∧ ∃ v', v'.ownBlock = v.ownBlock ∧ Hd k hb v' d.pop w' ∧ Kw hb v.ownBlock w w' := by
  have c0 := h.c0
  have few := h.few
  have f0 := froz_of h.box 0
  obtain ⟨g, cap, cur, rfl, _, hne, hg, hcap, _, _, hc⟩ := h.at (by omega)
  rw [ownBlock_some]
  have HS : Hid _ := hd_pop hp h
  have hri := hc (d.size - 1) (by omega)
  obtain ⟨u, hu⟩ : ∃ u, u = encR d[d.size - 1]! := ⟨_, rfl⟩
  rw [← hu] at hri
  have cgi : w.cell? ⟨g, d.size - 1, none⟩ = some u := by rw [cell_of hg]; exact hri
  obtain ⟨n, hn⟩ : ∃ n, d.size = n + 1 := ⟨d.size - 1, by omega⟩
  rw [hn] at c0 few HS cgi
  rw [Nat.add_sub_cancel] at HS cgi
  have hcap' : n ≤ cap := by omega
  clear h hc hg hri hu hp hn hcap
  go_enter Try.func105, Try.ntmps105
  go_wp2
  go_ret
  exact ⟨⟨_, rfl⟩, _, rfl, HS.out.1, HS.out.2⟩

omit [Inhabited E] in
theorem encR_one (r : Row E) : (encR r).oneCell' = true := rfl
theorem Try.info26 : (Try.prog.info? 26).map (fun i => (i.zero, i.size, i.bytes)) = some (some (.slice none 0 0), 1, 24) := by kernel_rfl

omit [Inhabited E] in
theorem push_get {d : Array (Row E)} {r : Row E} {i : Nat} (hi : i < d.size) : (d.push r)[i]! = d[i]! := by
  rw [getElem!_pos (d.push r) i (by simp; omega), getElem!_pos d i hi, Array.getElem_push_lt hi]
omit [Inhabited E] in
theorem push_last {d : Array (Row E)} {r : Row E} : (d.push r)[d.size]! = r := by
  rw [getElem!_pos (d.push r) d.size (by simp)]; simp

/-- All that there was but two blocks is as it was. -/
structure Kg (hb : Nat) (rb : Option Nat) (w w' : World) : Prop where
  os : w'.os = w.os
  tape : w'.tape = w.tape
  output : w'.output = w.output
  size : w.heap.size ≤ w'.heap.size
  block : ∀ j, j < w.heap.size → j ≠ hb → rb ≠ some j → w'.heap[j]? = w.heap[j]?
omit [Inhabited E] in
theorem IsW.kg [Inhabited E] {k : Ks E} {hb : Nat} {rb : Option Nat} {r : Row E} {w w' : World} (h : IsW k r w) (hk : Kg hb rb w w') (h1 : ∀ cur, w.heap[hb]? ≠ some (.cells cur 41 (0, 0))) (h2 : ∀ j cur, rb = some j → w.heap[j]? ≠ some (.cells cur 41 (0, 0))) : IsW k r w' := by
  obtain ⟨cur, c1, c2⟩ := h.rd
  exact ⟨h.pos, h.le, h.max, h.old, cur, (hk.block _ (Array.getElem?_eq_some_iff.1 c1).1 (fun e => h1 cur (by rw [← e]; exact c1)) (fun e => h2 _ cur e c1)).trans c1, c2⟩
theorem Kg.below {hb : Nat} {rb : Option Nat} {w w' : World} {n : Nat} (h : Kg hb rb w w') (h1 : n ≤ hb) (h2 : ∀ j, rb = some j → n ≤ j) (hn : n ≤ w.heap.size) : Below n w w' :=
  ⟨h.os, h.tape, h.output, h.size, fun j hj => h.block j (by omega) (by omega) (fun e => by have := h2 j e; omega)⟩

theorem Hd.own_tag {k : Ks E} {hb : Nat} {v : Value} {d : Array (Row E)} {w : World} (h : Hd k hb v d w) : ∀ j, v.ownBlock = some j → hb ≤ j ∧ ∃ cur, w.heap[j]? = some (.cells cur 26 (0, 0)) := fun j e => by
  rcases h.own.2 with ⟨h1, _⟩ | ⟨g, cap, cur, h1, h2, h3, _⟩
  · rw [h1] at e; simp [Value.ownBlock] at e
  · rw [h1] at e; simp [Value.ownBlock] at e; subst e; exact ⟨h2, cur, h3⟩

theorem own_slice {w : World} {base size n : Nat} {e : TypeId} {v : Value} {xs : List Value} (h : w.ownsRow base e size v n xs) : ∃ a c, v = .slice a n c := by
  rcases h.2 with ⟨h1, h2⟩ | ⟨g, cap, cur, h1, _⟩
  · exact ⟨none, 0, by rw [h1, h2]⟩
  · exact ⟨_, _, h1⟩

theorem hd_push {k : Ks E} {hb : Nat} {v : Value} {d : Array (Row E)} {w W1 w6 : World} (h : Hd k hb v d w) (r : Row E) (hr : IsW k r w) (hsz : d.size < 1000000) (hb1 : Below w.heap.size w W1) (hg : W1.grownBy w6 v.ownBlock) :
    w6.heap[hb]? = some (.cells #[v, fnv k] 59 (0, 0)) ∧ ∀ v', w6.ownsRow hb 26 1 v' (d.size + 1) (d.toList.map encR ++ [encR r]) → Hd k hb v' (d.push r) (w6.setCell ⟨hb, 0, none⟩ v') ∧ Kg hb v.ownBlock w (w6.setCell ⟨hb, 0, none⟩ v') := by
  have hlt : hb < w.heap.size := (Array.getElem?_eq_some_iff.1 h.box).1
  have hne : some hb ≠ v.ownBlock := fun e => by
    obtain ⟨_, cur, c⟩ := h.own_tag hb e.symm
    rw [h.box] at c; simp at c
  have b1 : W1.heap[hb]? = some (.cells #[v, fnv k] 59 (0, 0)) := (hb1.block hb hlt).trans h.box
  have b6 : w6.heap[hb]? = some (.cells #[v, fnv k] 59 (0, 0)) := (hg.block hb (Nat.lt_of_lt_of_le hlt hb1.size) hne).trans b1
  refine ⟨b6, fun v' ho => ?_⟩
  have hK : Kg hb v.ownBlock w (w6.setCell ⟨hb, 0, none⟩ v') := ⟨hg.os.trans hb1.os, hg.tape.trans hb1.tape, hg.output.trans hb1.output, by rw [World.size_setCell]; exact Nat.le_trans hb1.size hg.size, fun j hj h1 h2 => by
    rw [heap_setCell_other _ _ _ _ h1]
    exact (hg.block j (Nat.lt_of_lt_of_le hj hb1.size) (fun e => h2 e.symm)).trans (hb1.block j hj)⟩
  have hn0 : k.n0 ≤ w.heap.size := by have := h.old; omega
  refine ⟨⟨box_set b6 _, ?_, fun q hq => ?_, by rw [Array.size_push]; omega, h.old, h.bel.trans (hK.below h.old (fun j e => Nat.le_trans h.old (h.own_tag j e).1) hn0)⟩, hK⟩
  · rw [Array.size_push, Array.toList_push, List.map_append]
    refine ho.kept (grownBy_setCell' w6 hb v') (.inr fun e => ?_)
    rcases ho.2 with ⟨h1, _⟩ | ⟨g, cap, cur, h1, h2, h3, _⟩
    · rw [h1] at e; simp [Value.ownBlock] at e
    · rw [h1] at e; simp [Value.ownBlock] at e; subst e; rw [b6] at h3; simp at h3
  · have hw : IsW k (d.push r)[q]! w := by
      rw [Array.size_push] at hq
      by_cases e : q = d.size
      · subst e; rw [push_last]; exact hr
      · rw [push_get (by omega)]; exact h.rows q (by omega)
    refine hw.kg hK (fun cur e => ?_) (fun j' cur' ej e => ?_)
    · rw [h.box] at e; simp at e
    · obtain ⟨_, cur, c⟩ := h.own_tag j' ej
      rw [c] at e; simp at e

set_option maxRecDepth 100000 in
set_option maxHeartbeats 4000000 in
theorem push_any {k : Ks E} {hb : Nat} {v : Value} {d : Array (Row E)} {w : World} (h : Hd k hb v d w) (r : Row E) (hr : IsW k r w) (hsz : d.size < 1000000) :
    Calls Try.prog 106 #[.pointer (some ⟨hb, 0, none⟩), .iface 26 (encR r)] w fun e w' => e = .returned (.tuple #[]) ∧ ∃ v', Hd k hb v' (d.push r) w' ∧ Kg hb v.ownBlock w w' := by
  have c0 := h.c0
  have HP : Hid _ := fun W1 w6 h1 h2 => hd_push (W1 := W1) (w6 := w6) h r hr hsz h1 h2
  have hlt : hb < w.heap.size := (Array.getElem?_eq_some_iff.1 h.box).1
  have hn0 : hb ≤ w.heap.size := by omega
  have HO : Hid (∀ W1, Below w.heap.size w W1 → W1.ownsRow hb 26 1 v d.size (d.toList.map encR) ∧ hb ≤ W1.heap.size) := fun W1 h1 => ⟨own_below h.own h1, Nat.le_trans hn0 h1.size⟩
  have HG : Hid (∀ W1 w6, Below w.heap.size w W1 → W1.grownBy w6 v.ownBlock → w6.cell? ⟨hb, 0, none⟩ = some v ∧ w6.frozen? ⟨hb, 0, none⟩ = false) := fun W1 w6 h1 h2 => by
    have := (HP.out W1 w6 h1 h2).1
    exact ⟨by rw [cell_of this]; rfl, froz_of this 0⟩
  obtain ⟨i0, hi0, hz0, hz1, hz2⟩ := info_parts Try.info26
  obtain ⟨x, hx⟩ : ∃ x, x = encR r := ⟨_, rfl⟩
  obtain ⟨a, n, c, hxa⟩ : ∃ a n c, x = .slice a n c := ⟨_, _, _, hx⟩
  have T5 : Hid (∀ u ∈ [x], u.oneCell' = true) := by intro u hu; simp at hu; subst hu; subst hx; rfl
  have T1 : Hid (d.size + 1 ≤ maxLen) := by unfold maxLen; show _ ≤ _; omega
  have T2 : Hid ((d.size + 1) * 24 ≤ 140737488355328) := by show _ ≤ _; omega
  rw [← hx] at HP ⊢
  subst hxa
  obtain ⟨L, hL⟩ : ∃ L, L = d.toList.map encR := ⟨_, rfl⟩
  rw [← hL] at HO HP
  have hta : ∀ w, Sem.run Try.prog (Instr.typeAssert (.iface 26 (.slice a n c)) 20 26 false) w = .ok (.slice a n c) w := fun w => by rfl
  clear h hr hx hL
  go_enter Try.func106, Try.ntmps106
  go_wp2_with fail
  go_region_law (refine step_append_own rfl (.tmp 8) (.tmp 11) 22 rfl hb 26 i0 _ 1 24 Try.underlying22 hi0 hz0 hz1 hz2 rfl (by decide) v d.size L (by first | (simp [Act.eval]; done) | simp [Act.eval, Act.put]) (HO.out _ (by first | exact ((Below.refl _ _).alloc (Nat.le_refl _) _).drew | exact (Below.refl _ _).drew.alloc (Nat.le_refl _) _ | exact (Below.refl _ _).alloc (Nat.le_refl _) _)).1 ⟨w.heap.size, 0, none⟩ 1 1 [.slice a n c] (by first | (simp [Act.eval]; done) | simp [Act.eval, Act.put]) rfl (at_one (by simp)) T5.out T1.out T2.out (HO.out _ (by first | exact ((Below.refl _ _).alloc (Nat.le_refl _) _).drew | exact (Below.refl _ _).drew.alloc (Nat.le_refl _) _ | exact (Below.refl _ _).alloc (Nat.le_refl _) _)).2 ?_
                 intro v6 w6 ho6 hg6
                 have g6 := HG.out _ w6 (by first | exact ((Below.refl _ _).alloc (Nat.le_refl _) _).drew | exact (Below.refl _ _).drew.alloc (Nat.le_refl _) _ | exact (Below.refl _ _).alloc (Nat.le_refl _) _) hg6
                 have cg6 := g6.1
                 have zg6 := g6.2
                 obtain ⟨a6, c6, rfl⟩ := own_slice ho6)
  all_goals (
    go_end0
    exact ⟨rfl, _, (HP.out _ _ (by first | exact ((Below.refl _ _).alloc (Nat.le_refl _) _).drew | exact (Below.refl _ _).drew.alloc (Nat.le_refl _) _ | exact (Below.refl _ _).alloc (Nat.le_refl _) _) hg6).2 _ ho6⟩)
end Go.Proofs.Ytkojbpifcflgfaa.B
