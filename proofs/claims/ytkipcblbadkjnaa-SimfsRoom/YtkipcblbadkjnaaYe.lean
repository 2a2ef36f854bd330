/- The contract of Clone. Conditions: those of each theorem. -/
import Derived.Test.YtkipcblbadkjnaaYd
import Derived.Test.YtkipcblbadkjnaaWb
namespace Go.Proofs.Ytkipcblbadkjnaa
open Go.RowKit
open Go.Maps (Keyed)

/-- What Clone holds all along. -/
structure Yo (b : Nat) (x : X) (w : World) (n : Nat) (d : Nat → Option Nat) (W : World) : Prop where
  fw : FW W b x
  cs : Cs x w.heap.size (w.heap.size + 1) n d W
  bc : W.cell? ⟨w.heap.size + 2, 0, none⟩ = some (.map (some (w.heap.size + 1)))
  kp : Kp (fun _ => False) w W
  sz : w.heap.size + 3 ≤ W.heap.size
section
variable {b : Nat} {x : X} {w W W' : World} {n n2 : Nat} {d d2 : Nat → Option Nat} {Q : Nat → Prop}
theorem Yo.next (h : Yo b x w n d W) (h0 : FW w b x) (hk : Kp Q W W') (hq : ∀ k, Q k → w.heap.size ≤ k ∧ k ≠ w.heap.size + 2) (hc : Cs x w.heap.size (w.heap.size + 1) n2 d2 W') : Yo b x w n2 d2 W' :=
  ⟨h.fw.kp hk (fun k hf e => by have := h0.lt hf; have := (hq k e).1; omega), hc, (hk.cell (p := ⟨w.heap.size + 2, 0, none⟩) (by have := h.sz; show w.heap.size + 2 < _; omega) (fun e => (hq _ e).2 rfl)).trans h.bc, h.kp.trans hk (fun i e => .inr (hq i e).1), Nat.le_trans h.sz hk.size⟩
theorem Yo.put (h : Yo b x w n d W) (h0 : FW w b x) {k0 t : Nat} (hk : Kp (fun k => k = k0) W W') (ht : tg W k0 = some t) (h1 : t ≠ 0) (h2 : t ≠ 80) (h3 : t ≠ 6) (hge : w.heap.size ≤ k0) (hb : k0 ≠ w.heap.size + 2) : Yo b x w n d W' :=
  h.next h0 hk (fun k e => by subst e; exact ⟨hge, hb⟩) (h.cs.kp hk (fun e => tg_ne ht h.cs.tgm h1 e.symm) (fun k hf e => tg_ne hf ht (Ne.symm h2) e) (fun k hf e => tg_ne hf ht (Ne.symm h3) e))
theorem Yo.below (h : Yo b x w n d W) (hb : Below W.heap.size W W') : Yo b x w n d W' :=
  ⟨h.fw.below hb, h.cs.below hb, (hb.cell (p := ⟨w.heap.size + 2, 0, none⟩) (by have := h.sz; show w.heap.size + 2 < _; omega)).trans h.bc, h.kp.trans (Kp.of_below (P := fun _ => False) hb) (fun _ e => e.elim), Nat.le_trans h.sz hb.size⟩
theorem bind_ext {S : Type} {pm : S → Option Nat} (hd : ∀ s g, pm s = some g → ∃ h, d g = some h) (he : ∀ i j, d i = some j → d2 i = some j) : (fun s => (pm s).bind d) = fun s => (pm s).bind d2 := funext fun s => by
  cases hp : pm s with
  | none => rfl
  | some g =>
    obtain ⟨h, hh⟩ := hd s g hp
    simp [hh, he g h hh]
theorem tot_ext {S : Type} {pm : S → Option Nat} (hd : ∀ s g, pm s = some g → ∃ h, d g = some h) (he : ∀ i j, d i = some j → d2 i = some j) : ∀ s g, pm s = some g → ∃ h, d2 g = some h := fun s g e => by
  obtain ⟨h, hh⟩ := hd s g e
  exact ⟨h, he g h hh⟩
end
theorem own_opt {x : X} {b B mb n Bc : Nat} {file : Option Nat} {d : Nat → Option Nat} {w : World} (hx : FW w b x) (hC : Cs x B mb n d w) (hB : B ≤ w.heap.size) (hBc : w.cell? ⟨Bc, 0, none⟩ = some (.map (some mb))) (hg : ∀ g, file = some g → x.K g) (hn : n < 100000000) :
    Calls Try.prog 70 #[pv file, .pointer (some ⟨Bc, 0, none⟩)] w fun e w' => ∃ n2 d2, e = .returned (pv (file.bind d2)) ∧ (∀ g, file = some g → ∃ h, d2 g = some h) ∧ (∀ i j, d i = some j → d2 i = some j) ∧ n2 ≤ n + 1 ∧ Cs x B mb n2 d2 w' ∧ Kp (fun k => k = mb) w w' := by
  cases file with
  | none =>
    refine (own_nil Bc w).mono ?_
    rintro e w' ⟨rfl, rfl⟩
    exact ⟨n, d, rfl, (fun g e => by cases e), (fun _ _ e => e), by omega, hC, Kp.refl _ _⟩
  | some g =>
    refine (own_any hx hC hB hBc (hg g rfl) hn).mono ?_
    rintro e w' ⟨h, n2, d2, rfl, h1, h2, h3, h4, h5⟩
    exact ⟨n2, d2, by simp [h1, pv], (fun g' e => by cases e; exact ⟨h, h1⟩), h2, h3, h4, h5⟩

/-- A change whose file is its clone. -/
def cm (d : Nat → Option Nat) (c : Ch) : Ch := (c.1, c.2.1, c.2.2.bind d)
/-- The changes, of which the first k have their clones. -/
def cmk (d : Nat → Option Nat) (cs : List Ch) (k : Nat) : List Ch := (cs.take k).map (cm d) ++ cs.drop k
theorem cmk_len (d : Nat → Option Nat) (cs : List Ch) (k : Nat) (h : k ≤ cs.length) : (cmk d cs k).length = cs.length := by
  unfold cmk
  simp only [List.length_append, List.length_map, List.length_take, List.length_drop]
  omega
theorem ccs_set : ∀ (l : List Ch) (a : Ch) (r : List Ch) (o : Option Nat), (ccs (l ++ a :: r)).set (l.length * 3 + 2) (pv o) = ccs (l ++ (a.1, a.2.1, o) :: r)
  | [], a, r, o => by simp [ccs]
  | v :: l, a, r, o => by
    have := ccs_set l a r o
    simp only [List.cons_append, ccs, List.length_cons]
    rw [show (l.length + 1) * 3 + 2 = (l.length * 3 + 2) + 1 + 1 + 1 by omega]
    simp only [List.set_cons_succ, this]
theorem cmk_step (d : Nat → Option Nat) (cs : List Ch) (k : Nat) (h : k < cs.length) : (ccs (cmk d cs k)).set (k * 3 + 2) (pv ((cs.getD k c0).2.2.bind d)) = ccs (cmk d cs (k + 1)) := by
  unfold cmk
  rw [List.drop_eq_getElem_cons h, List.take_succ_eq_append_getElem h, List.map_append]
  have hg : cs.getD k c0 = cs[k] := by simp [List.getD, List.getElem?_eq_getElem h]
  have := ccs_set ((cs.take k).map (cm d)) cs[k] (cs.drop (k + 1)) (cs[k].2.2.bind d)
  rw [List.length_map, List.length_take, Nat.min_eq_left (Nat.le_of_lt h)] at this
  rw [hg, this]
  simp [cm]
theorem cmk_ext {d d2 : Nat → Option Nat} {cs : List Ch} {k : Nat} (hd : ∀ c ∈ cs.take k, ∀ g, c.2.2 = some g → ∃ h, d g = some h) (he : ∀ i j, d i = some j → d2 i = some j) : cmk d cs k = cmk d2 cs k := by
  unfold cmk
  congr 1
  refine List.map_congr_left fun c hc => ?_
  unfold cm
  cases hf : c.2.2 with
  | none => rfl
  | some g =>
    obtain ⟨h, hh⟩ := hd c hc g hf
    simp [hh, he g h hh]
theorem own_some {W : World} {base len vc : Nat} {va : Option Addr} {xs : List Value} (h : W.ownsRow base 95 3 (.slice va len vc) len xs) (hl : 0 < len) :
    ∃ N, va = some ⟨N, 0, none⟩ ∧ base ≤ N ∧ tg W N = some 96 ∧ len ≤ vc ∧ (∀ j, j < len * 3 → ∃ u, W.cell? ⟨N, j, none⟩ = some u ∧ W.frozen? ⟨N, j, none⟩ = false) := by
  have hall := h
  rcases h.2 with ⟨h0, _⟩ | ⟨g', cap', cur, h1, h2, h3, h4, h5, h6, h7⟩
  · cases h0; omega
  · cases h1
    refine ⟨g', rfl, (hall.lt g' rfl).1, own_tg hall rfl, ?_, fun j hj => ?_⟩
    · exact h4
    · have hj' : j < cur.size := by omega
      exact ⟨cur[j], by simp [World.cell?, h3, hj'], by simp [World.frozen?, h3]⟩
/-- What one call of own adds. -/
def Gx (b : Nat) (x : X) (w : World) (file : Option Nat) (n : Nat) (d : Nat → Option Nat) (n2 : Nat) (d2 : Nat → Option Nat) (W : World) : Prop :=
  (∀ g, file = some g → ∃ h, d2 g = some h) ∧ (∀ i j, d i = some j → d2 i = some j) ∧ n2 ≤ n + 1 ∧ Yo b x w n2 d2 W
/-- A clone. -/
structure Cl (x y : X) (d : Nat → Option Nat) : Prop where
  room : y.room = x.room
  made : y.made = x.made
  fused : y.fused = x.fused
  left : y.left = x.left
  cap : y.cap = x.cap
  pm : y.pm = fun s => (x.pm s).bind d
  sm : y.sm = fun s => (x.sm s).bind d
  cs : y.cs = x.cs.map (cm d)
  pt : ∀ s g, x.pm s = some g → ∃ h, d g = some h
  stt : ∀ s g, x.sm s = some g → ∃ h, d g = some h
  ct : ∀ c ∈ x.cs, ∀ g, c.2.2 = some g → ∃ h, d g = some h
  fs : ∀ g h, d g = some h → x.K g ∧ y.K h ∧ y.num h = x.num g ∧ y.bs h = x.bs g ∧ y.st h = x.st g
/-- Behind the files there are others that are their clone, in new blocks alone. -/
def Cloned (x : X) (w w' : World) : Prop := ∃ y d, FW w' w.heap.size y ∧ Below w.heap.size w w' ∧ (∀ k, foot w.heap.size y k → w.heap.size ≤ k) ∧ Cl x y d
theorem clone_done {b : Nat} {x : X} {w W : World} {n q1 q2 base : Nat} {d : Nat → Option Nat} {va : Option Addr} {vc len : Nat} (h0 : FW w b x) (hl : len = x.cs.length) (hY : Yo b x w n d W) (hF : Fc W w.heap.size x.room x.made (.map (some q1)) (.map (some q2)) (.slice va len vc) x.fused x.left)
    (hA : Mp W q1 x.pn (fun s => (x.pm s).bind d)) (hB : Mp W q2 x.sn (fun s => (x.sm s).bind d)) (hq1 : w.heap.size ≤ q1) (hq : q1 < q2) (hO : W.ownsRow base 95 3 (.slice va len vc) len (ccs (x.cs.map (cm d)))) (hb : w.heap.size ≤ base)
    (pt : ∀ s g, x.pm s = some g → ∃ h, d g = some h) (stt : ∀ s g, x.sm s = some g → ∃ h, d g = some h) (ct : ∀ c ∈ x.cs, ∀ g, c.2.2 = some g → ∃ h, d g = some h) :
    ∃ y, FW W w.heap.size y ∧ Below w.heap.size w W ∧ (∀ k, foot w.heap.size y k → w.heap.size ≤ k) ∧ Cl x y d := by
  obtain ⟨K', num', rv', bs', st', hc⟩ := hY.cs
  refine ⟨⟨x.room, x.made, some q1, x.pn, fun s => (x.pm s).bind d, some q2, x.sn, fun s => (x.sm s).bind d, .slice va len vc, x.cs.map (cm d), x.fused, x.left, K', num', rv', bs', st', x.cap⟩, ⟨hF, hA, hB, ?_, ?_, hc.fl, ?_, ?_, ?_, h0.b1, ?_, h0.b3, h0.b4, h0.b5⟩, hY.kp.below (fun _ e => e.elim) (Nat.le_refl _), ?_, ⟨rfl, rfl, rfl, rfl, rfl, rfl, rfl, rfl, pt, stt, ct, hc.dk⟩⟩
  · intro k e1 e2
    cases e1; cases e2; omega
  · show W.ownsRow 0 95 3 (.slice va len vc) (x.cs.map (cm d)).length (ccs (x.cs.map (cm d)))
    rw [List.length_map, ← hl]
    exact own_base hO (Nat.zero_le _)
  · intro s g e
    obtain ⟨g', _, e'⟩ := Option.bind_eq_some_iff.1 e
    exact (hc.dk g' g e').2.1
  · intro s g e
    obtain ⟨g', _, e'⟩ := Option.bind_eq_some_iff.1 e
    exact (hc.dk g' g e').2.1
  · intro c hcm
    obtain ⟨c', hc', rfl⟩ := List.mem_map.1 hcm
    obtain ⟨⟨o1, o2, o3⟩, _⟩ := h0.ck c' hc'
    refine ⟨⟨o1, o2, fun e => ?_⟩, fun g e => ?_⟩
    · obtain ⟨g, hg⟩ := o3 e
      obtain ⟨h, hh⟩ := ct c' hc' g hg
      exact ⟨h, by simp [cm, hg, hh]⟩
    · obtain ⟨g', _, e'⟩ := Option.bind_eq_some_iff.1 (show c'.2.2.bind d = some g from e)
      exact (hc.dk g' g e').2.1
  · show x.sn + (x.cs.map (cm d)).length ≤ x.cap
    rw [List.length_map]
    exact h0.b2
  · rintro k (rfl | e | e | e | e | ⟨g, hg, e⟩)
    · exact Nat.le_refl _
    · cases e; exact hq1
    · cases e; omega
    · exact Nat.le_trans hb (hO.lt k e).1
    · exact (hc.nw k e).1
    · exact (hc.nw g hg).2 k e

set_option linter.unusedSimpArgs false in
set_option maxRecDepth 100000 in
set_option maxHeartbeats 8000000 in
theorem clone_any (b : Nat) (x : X) (w : World) (h : FW w b x) :
    Calls Try.prog 33 #[.pointer (some ⟨b, 0, none⟩)] w fun e w' => e = .returned (.pointer (some ⟨w.heap.size, 0, none⟩)) ∧ Cloned x w w' := by
  obtain ⟨ca, cc, hcv, hcle, _, hcl, hrc⟩ := own_rdC h.cw
  have hnn : ca = none → cc = 0 ∧ x.cs.length = 0 := by
    intro e0
    subst e0
    rcases h.cw.2 with ⟨h1, h2⟩ | ⟨g', cap, cur, h1, h2, h3, h4, h5, h6, h7⟩
    · rw [h1] at hcv
      exact ⟨(Value.slice.inj hcv).2.2.symm, (Value.slice.inj hcv).2.1.symm⟩
    · rw [h1] at hcv; cases (Value.slice.inj hcv).1
  have HNN : Hid (ca = none → cc = 0 ∧ x.cs.length = 0) := hnn
  obtain ⟨len, hlen⟩ : ∃ len, Hid (len = x.cs.length) := ⟨_, rfl⟩
  rw [← hlen.out] at hcv hcle
  have c0 := h.fc.c0
  have c1 := h.fc.c1
  have c2 := h.fc.c2
  have c3 := h.fc.c3
  have c4 := h.fc.c4
  have c5 := h.fc.c5
  have c6 := h.fc.c6
  rw [hcv] at c4
  have HCV : Hid (x.cv = .slice ca len cc) := hcv
  have H : Hid (FW w b x) := h
  have hbl : b < w.heap.size := tg_lt h.tb
  have HRC : Hid (RdC w ca x.cs) := hrc
  clear h hrc hnn hcv hcl
  go_enter Try.func33, Try.ntmps33
  go_wp2_with fail
  refine Calls.mono (cloner_any _) ?_
  rintro e w2 ⟨rfl, hw2⟩
  simp only [World.size_alloc] at hw2
  have hb2 : Below w.heap.size w w2 := by rw [hw2]; exact (((Below.refl _ _).alloc (Nat.le_refl _) _).alloc (by simp) _).alloc (by simp; omega) _
  have hz2 : w2.heap.size = w.heap.size + 3 := by rw [hw2]; simp
  have hF2 : Fc w2 w.heap.size x.room x.made (.map x.pb) (.map x.sb) (.slice ca len cc) x.fused x.left := ⟨by
    rw [hw2]
    exact (Below.heap_alloc _ _ _ (by simp; omega)).trans ((Below.heap_alloc _ _ _ (by simp)).trans (heap_alloc_new w _))⟩
  have hC2 : Cs x w.heap.size (w.heap.size + 1) 0 (fun _ => none) w2 := by
    have := cs_start x (w.alloc (.cells #[.int .i64 x.room, .int .i64 x.made, .map x.pb, .map x.sb, .slice ca len cc, .bool x.fused, .int .i64 x.left] 67)) (B := w.heap.size) (by simp)
    rw [hw2]
    simpa using this
  have hY2 : Yo b x w 0 (fun _ => none) w2 := ⟨H.out.below hb2, hC2, by rw [hw2]; exact (congrArg (World.cell? _) (by simp)).trans (Boxed.new _ 111 (.map (some (w.heap.size + 1)))).cell, Kp.of_below hb2, by omega⟩
  have HF2 : Hid _ := hF2
  have HY2 : Hid _ := hY2
  have d2_ := hY2.fw.fc.c2
  have hne : b ≠ w.heap.size := Nat.ne_of_lt hbl
  clear hb2 hF2 hC2 hY2 hw2 c0 c1 c2 c3 c4 c5 c6
  go_wp2_with fail
  refine Calls.mono (moved_any HY2.out.fw (fun k hf => H.out.lt hf) HY2.out.cs (by omega) HY2.out.bc HY2.out.fw.pw H.out.pk (fun k e => by have := H.out.lt (.inr (.inl e)); omega) (by have := H.out.b1; have := H.out.b5; omega)) ?_
  rintro e w3 ⟨q1, n3, d3, rfl, hq1, he3, hn3, hC3, ht3, hM3, hk3⟩
  have hY3 : Yo b x w n3 d3 w3 := HY2.out.next H.out hk3 (fun k e => (by subst e; exact ⟨by omega, by omega⟩)) hC3
  have hF3 := HF2.out.kept (hk3.block _ (by omega) (by omega))
  have hF4 := hF3.set2 (.map (some q1))
  have hY4 : Yo b x w n3 d3 (w3.setCell ⟨w.heap.size, 2, none⟩ (.map (some q1))) := hY3.put H.out (kp_set w3 w.heap.size 2 (.map (some q1))) (t := 68) (by simp [tg, hF3.h]) (by decide) (by decide) (by decide) (Nat.le_refl _) (by omega)
  have hM4 : Mp (w3.setCell ⟨w.heap.size, 2, none⟩ (.map (some q1))) q1 x.pn (fun s => (x.pm s).bind d3) := hM3.kept ((kp_set w3 w.heap.size 2 (.map (some q1))).block q1 hM3.lt (by omega))
  have g2 := hF3.c2
  have z2 := hF3.fz 2
  have d3_ := hY4.fw.fc.c3
  obtain ⟨w4, hw4⟩ : ∃ w4, Hid (w4 = w3.setCell ⟨w.heap.size, 2, none⟩ (.map (some q1))) := ⟨_, rfl⟩
  rw [← hw4.out] at hF4 hY4 hM4
  have HF4 : Hid _ := hF4
  have HY4 : Hid _ := hY4
  have HM4 : Hid (Mp w4 q1 x.pn (fun s => (x.pm s).bind d3) ∧ ∀ s g, x.pm s = some g → ∃ h, d3 g = some h) := ⟨hM4, ht3⟩
  have hqz1 : w.heap.size + 3 ≤ q1 ∧ q1 < w4.heap.size := ⟨by omega, hM4.lt⟩
  have hn3 : n3 ≤ x.pn := by omega
  clear hY3 hF3 hF4 hY4 hM4 hM3 ht3 hk3 hC3 he3 d2_ hq1
  go_wp2_with fail
  rw [← hw4.out]
  refine Calls.mono (moved_any HY4.out.fw (fun k hf => H.out.lt hf) HY4.out.cs (Nat.le_trans (Nat.le_add_right _ 3) HY4.out.sz) HY4.out.bc HY4.out.fw.sw H.out.sk (fun k e => by have := H.out.lt (.inr (.inr (.inl e))); omega) (by have := H.out.b1; have := H.out.b2; have := H.out.b5; omega)) ?_
  rintro e w5 ⟨q2, n5, d5, rfl, hq2, he5, hn5, hC5, ht5, hM5, hk5⟩
  have hY5 : Yo b x w n5 d5 w5 := HY4.out.next H.out hk5 (fun k e => (by subst e; exact ⟨by omega, by omega⟩)) hC5
  have hF5 := HF4.out.kept (hk5.block _ (by omega) (by omega))
  have hM5a : Mp w5 q1 x.pn (fun s => (x.pm s).bind d5) := by
    have := HM4.out.1.kept (hk5.block q1 hqz1.2 (by omega))
    rwa [bind_ext HM4.out.2 he5] at this
  have ht5a := tot_ext HM4.out.2 he5
  have hF6 := hF5.set3 (.map (some q2))
  have kp5 := kp_set w5 w.heap.size 3 (.map (some q2))
  have hY6 : Yo b x w n5 d5 (w5.setCell ⟨w.heap.size, 3, none⟩ (.map (some q2))) := hY5.put H.out kp5 (t := 68) (by simp [tg, hF5.h]) (by decide) (by decide) (by decide) (Nat.le_refl _) (by omega)
  have hM6a : Mp (w5.setCell ⟨w.heap.size, 3, none⟩ (.map (some q2))) q1 x.pn (fun s => (x.pm s).bind d5) := hM5a.kept (kp5.block q1 hM5a.lt (by omega))
  have hM6 : Mp (w5.setCell ⟨w.heap.size, 3, none⟩ (.map (some q2))) q2 x.sn (fun s => (x.sm s).bind d5) := hM5.kept (kp5.block q2 hM5.lt (by omega))
  have g3 := hF5.c3
  have z3 := hF5.fz 3
  have d4_ := hY6.fw.fc.c4
  rw [HCV.out] at d4_
  obtain ⟨w6, hw6⟩ : ∃ w6, Hid (w6 = w5.setCell ⟨w.heap.size, 3, none⟩ (.map (some q2))) := ⟨_, rfl⟩
  rw [← hw6.out] at hF6 hY6 hM6 hM6a
  have HF6 : Hid _ := hF6
  have HY6 : Hid _ := hY6
  have HM6a : Hid (Mp w6 q1 x.pn (fun s => (x.pm s).bind d5) ∧ ∀ s g, x.pm s = some g → ∃ h, d5 g = some h) := ⟨hM6a, ht5a⟩
  have HM6 : Hid (Mp w6 q2 x.sn (fun s => (x.sm s).bind d5) ∧ ∀ s g, x.sm s = some g → ∃ h, d5 g = some h) := ⟨hM6, ht5⟩
  have hqz2 : w4.heap.size ≤ q2 ∧ q2 < w6.heap.size := ⟨hq2, hM6.lt⟩
  have hqz6 : q1 < w6.heap.size := hM6a.lt
  have hz6 : w.heap.size + 3 ≤ w6.heap.size := hY6.sz
  have HRC6 : Hid (RdC w6 ca x.cs) := HRC.out.kp (P := fun _ => False) hY6.kp (fun _ _ e => e)
  have hn5 : n5 ≤ x.pn + x.sn := by omega
  clear hY5 hF5 hF6 hY6 hM6 hM6a hM5 hM5a ht5 ht5a hk5 hC5 he5 d3_ hq2 kp5 g2 z2
  go_wp2_with fail
  rw [← hw6.out]
  refine Calls.mono (cclone_any ca len cc x.cs w6 hlen.out.symm HRC6.out (fun e => ⟨(HNN.out e).1, hlen.out.trans (HNN.out e).2⟩) (by have := H.out.b2; have := H.out.b5; have := hlen.out; omega)) ?_
  rintro e w7 ⟨v', rfl, hown, hb7⟩
  obtain ⟨va, vc, rfl, hvle, hvm, hvl, _⟩ := own_rdC hown
  have hF7 := HF6.out.kept (hb7.block _ (by omega))
  have hY7 := HY6.out.below hb7
  have kp7 := kp_set w7 w.heap.size 4 (.slice va len vc)
  have hF8 := hF7.set4 (.slice va len vc)
  have hY8 := hY7.put H.out kp7 (t := 68) (by simp [tg, hF7.h]) (by decide) (by decide) (by decide) (Nat.le_refl _) (by omega)
  have hM8a := (HM6a.out.1.kept (hb7.block q1 hqz6)).kept (kp7.block q1 (Nat.lt_of_lt_of_le hqz6 hb7.size) (by omega))
  have hM8 := (HM6.out.1.kept (hb7.block q2 hqz2.2)).kept (kp7.block q2 (Nat.lt_of_lt_of_le hqz2.2 hb7.size) (by omega))
  have hown8 := own_kept hown (fun k e => kp7.block k (tg_lt (own_tg hown e)) (by have := (hown.lt k e).1; omega))
  have hRC8 : RdC _ ca x.cs := (HRC.out.kp (P := fun _ => False) hY8.kp (fun _ _ e => e))
  have g4 := hF7.c4
  have z4 := hF7.fz 4
  have d5_ := hY8.fw.fc.c4
  rw [HCV.out] at d5_
  obtain ⟨w8, hw8⟩ : ∃ w8, Hid (w8 = w7.setCell ⟨w.heap.size, 4, none⟩ (.slice va len vc)) := ⟨_, rfl⟩
  rw [← hw8.out] at hF8 hY8 hM8 hM8a hown8 hRC8
  have HF8 : Hid _ := hF8
  have HY8 : Hid _ := hY8
  have HM8a : Hid (Mp w8 q1 x.pn (fun s => (x.pm s).bind d5)) := hM8a
  have HM8 : Hid (Mp w8 q2 x.sn (fun s => (x.sm s).bind d5)) := hM8
  have HOWN8 : Hid _ := hown8
  have HRC8 : Hid (RdC w8 ca x.cs) := hRC8
  clear hb7 hF7 hY7 kp7 hF8 hY8 hM8 hM8a hown hown8 hRC8 d4_ g3 z3
  go_wp2_with fail
  rw [← hw8.out]
  clear g4 z4
  go_loopw [38, 5, 6] (fun i _ _ wr => ∃ (k n : Nat) (d : Nat → Option Nat), k ≤ len ∧ i = .int .i64 k ∧ Hid (Yo b x w n d wr) ∧ Hid (n ≤ x.pn + x.sn + k) ∧ Hid (Fc wr w.heap.size x.room x.made (.map (some q1)) (.map (some q2)) (.slice va len vc) x.fused x.left) ∧
      Hid (Mp wr q1 x.pn (fun s => (x.pm s).bind d)) ∧ Hid (Mp wr q2 x.sn (fun s => (x.sm s).bind d)) ∧ Hid (∀ i j, d5 i = some j → d i = some j) ∧ Hid (∀ c ∈ x.cs.take k, ∀ g, c.2.2 = some g → ∃ h, d g = some h) ∧ Hid (wr.ownsRow w6.heap.size 95 3 (.slice va len vc) len (ccs (cmk d x.cs k)))) (fun i _ _ _ => len - (intOf i).toNat)
  case atStart =>
    exact ⟨0, n5, d5, Nat.zero_le _, rfl, HY8.out, hn5, HF8.out, HM8a.out, HM8.out, fun _ _ e => e, fun c hc => (by simp at hc), HOWN8.out⟩
  case round =>
    obtain ⟨k, n, d, hk, rfl, hY, hn, hF, hMa, hMb, hdx, hdk, hO⟩ := hrel
    have hlen6 : len ≤ 1000000 := by have := hlen.out; have := H.out.b2; have := H.out.b5; omega
    by_cases hlt : k < len
    · have hlt' : (k : Int) < (len : Int) := by omega
      have hkl : k < x.cs.length := by rw [← hlen.out]; exact hlt
      have hCr : RdC wr ca x.cs := HRC.out.kp (P := fun _ => False) hY.out.kp (fun _ _ e => e)
      obtain ⟨g', off, rfl, hg', r0, r1, r2⟩ := hCr.at hkl
      obtain ⟨c, hc⟩ : ∃ c, Hid (c = x.cs.getD k c0) := ⟨_, rfl⟩
      rw [← hc.out] at r0 r1 r2
      have hcm : c ∈ x.cs := by rw [hc.out]; simp only [List.getD, List.getElem?_eq_getElem hkl, Option.getD_some]; exact List.getElem_mem hkl
      obtain ⟨s1, s2, file⟩ := c
      have HFK : Hid (∀ g, file = some g → x.K g) := (H.out.ck _ hcm).2
      obtain ⟨po, hpo⟩ : ∃ po, Hid (pv file = .pointer po) := by cases file <;> exact ⟨_, rfl⟩
      simp only at r0 r1 r2
      rw [hpo.out] at r2
      obtain ⟨N, rfl, hNge, hNt, hlvc, _⟩ := own_some hO.out (by omega)
      have hal : Below wr.heap.size wr (wr.alloc (.cells #[.string s1, .string s2, .pointer po] 95)) := (Below.refl _ _).alloc (Nat.le_refl _) _
      have hY9 := hY.out.below hal
      have hszr := hY.out.sz
      have hF9 := hF.out.kept (hal.block _ (by omega))
      have hO9 := hO.out.alloc (.cells #[.string s1, .string s2, .pointer po] 95)
      have hMa9 := hMa.out.kept (hal.block q1 hMa.out.lt)
      have hMb9 := hMb.out.kept (hal.block q2 hMb.out.lt)
      have hcb : (wr.alloc (.cells #[.string s1, .string s2, .pointer po] 95)).cell? ⟨wr.heap.size, 2, none⟩ = some (.pointer po) := by
        unfold World.cell?
        rw [show (wr.alloc (.cells #[.string s1, .string s2, .pointer po] 95)).heap[wr.heap.size]? = _ from heap_alloc_new wr _]
        rfl
      have hNlt : N < wr.heap.size := tg_lt hNt
      have hz9 : (wr.alloc (.cells #[.string s1, .string s2, .pointer po] 95)).heap.size = wr.heap.size + 1 := by simp
      obtain ⟨w9, hw9⟩ : ∃ w9, Hid (w9 = wr.alloc (.cells #[.string s1, .string s2, .pointer po] 95)) := ⟨_, rfl⟩
      rw [← hw9.out] at hY9 hF9 hO9 hMa9 hMb9 hcb hz9
      have HY9 : Hid (Yo b x w n d w9) := hY9
      have HF9 : Hid (Fc w9 w.heap.size x.room x.made (.map (some q1)) (.map (some q2)) (.slice (some ⟨N, 0, none⟩) len vc) x.fused x.left) := hF9
      have HO9 : Hid (w9.ownsRow w6.heap.size 95 3 (.slice (some ⟨N, 0, none⟩) len vc) len (ccs (cmk d x.cs k))) := hO9
      have HMA9 : Hid (Mp w9 q1 x.pn (fun s => (x.pm s).bind d)) := hMa9
      have HMB9 : Hid (Mp w9 q2 x.sn (fun s => (x.sm s).bind d)) := hMb9
      have a4 := hF9.c4
      have HNB : Hid (n < 100000000) := by
        show n < 100000000
        have := hn.out; have := H.out.b1; have := H.out.b2; have := H.out.b5
        omega
      clear hal hY9 hF9 hO9 hMa9 hMb9 hCr hcm
      go_wp2_with fail
      rw [← hw9.out]
      refine wp_region_M (by kernel_rfl) (by kernel_rfl)
        (fun L W => Kp (fun i => i = w.heap.size + 1 ∨ i = N) w9 W ∧ (L 6 = false → Below w9.heap.size w9 W) ∧ (L 9 = false → W.ownsRow w6.heap.size 95 3 (.slice (some ⟨N, 0, none⟩) len vc) len (ccs (cmk d x.cs k))) ∧ (L 9 = true → ∃ n2 d2, Gx b x w file n d n2 d2 W ∧ W.ownsRow w6.heap.size 95 3 (.slice (some ⟨N, 0, none⟩) len vc) len ((ccs (cmk d x.cs k)).set (k * 3 + 2) (pv (file.bind d2)))))
        (TK 6 (fun v W => ∃ n2 d2, v = pv (file.bind d2) ∧ Gx b x w file n d n2 d2 W) [.pointer (some ⟨w.heap.size, 4, none⟩), .slice (some ⟨N, 0, none⟩) len vc, .int .i64 (k : Int), .func (.func 70) #[] #[.pointer (some ⟨w.heap.size + 1 + 1, 0, none⟩)], .pointer (some ⟨wr.heap.size, 2, none⟩), .pointer po, undef, .pointer (some ⟨N, k * 3, none⟩), .pointer (some ⟨N, k * 3 + 2, none⟩), undef]) ⟨Kp.of_below (Below.refl _ _).drew, fun _ => (Below.refl _ _).drew, fun _ => HO9.out, fun h => by cases h⟩ (allL_cons ?_ (allL_cons ?_ (allL_cons ?_ (allL_cons ?_ (allL_cons ?_ (allL_cons ?_ (allL_cons ?_ (allL_cons ?_ (allL_cons ?_ (allL_cons ?_ allL_nil)))))))))) ?_
      · intro L a wx hS h
        have s3 : a.eval (.tmp 3) = .pointer (some ⟨w.heap.size, 0, none⟩) := (h.fix 3 (by kernel_rfl)).trans rfl
        have t3 := (ev_tmp a 3).symm.trans s3
        rw [if_pos (wanted_none rfl)]
        refine does_val (v := .pointer (some ⟨w.heap.size, 4, none⟩)) (w' := wx) ?_ ⟨rfl, hS, fun _ _ _ h => h⟩
        simp [execOp, go_sem, t3]
      · intro L a wx hS h
        have s43 : a.eval (.tmp 43) = .pointer (some ⟨w.heap.size, 4, none⟩) := h.slot 0 0 43 rfl rfl
        have t43 := (ev_tmp a 43).symm.trans s43
        rw [if_pos (wanted_none rfl)]
        have d0 := (hS.1.cell (p := ⟨w.heap.size, 4, none⟩) (by show w.heap.size < _; omega) (fun e => by simp only at e; omega)).trans a4
        refine does_val (v := .slice (some ⟨N, 0, none⟩) len vc) (w' := wx) ?_ ⟨rfl, hS, fun _ _ _ h => h⟩
        simp [execOp, go_sem, t43, d0]
      · intro L a wx hS h
        have s5 : a.eval (.tmp 5) = .int .i64 (k : Int) := (h.fix 5 (by kernel_rfl)).trans rfl
        have t5 := (ev_tmp a 5).symm.trans s5
        rw [if_pos (wanted_none rfl)]
        refine does_val (v := .int .i64 (k : Int)) (w' := wx) ?_ ⟨rfl, hS, fun _ _ _ h => h⟩
        simp [execOp, go_sem, t5]
      · intro L a wx hS h
        have s4 : a.eval (.tmp 4) = .func (.func 70) #[] #[.pointer (some ⟨w.heap.size + 1 + 1, 0, none⟩)] := (h.fix 4 (by kernel_rfl)).trans rfl
        have t4 := (ev_tmp a 4).symm.trans s4
        rw [if_pos (wanted_none rfl)]
        refine does_val (v := .func (.func 70) #[] #[.pointer (some ⟨w.heap.size + 1 + 1, 0, none⟩)]) (w' := wx) ?_ ⟨rfl, hS, fun _ _ _ h => h⟩
        simp [execOp, go_sem, t4]
      · intro L a wx hS h
        have s6 : a.eval (.tmp 6) = .pointer (some ⟨wr.heap.size, 0, none⟩) := (h.fix 6 (by kernel_rfl)).trans rfl
        have t6 := (ev_tmp a 6).symm.trans s6
        rw [if_pos (wanted_none rfl)]
        refine does_val (v := .pointer (some ⟨wr.heap.size, 2, none⟩)) (w' := wx) ?_ ⟨rfl, hS, fun _ _ _ h => h⟩
        simp [execOp, go_sem, t6]
      · intro L a wx hS h
        have s47 : a.eval (.tmp 47) = .pointer (some ⟨wr.heap.size, 2, none⟩) := h.slot 0 4 47 rfl rfl
        have t47 := (ev_tmp a 47).symm.trans s47
        rw [if_pos (wanted_none rfl)]
        have d0 := (hS.1.cell (p := ⟨wr.heap.size, 2, none⟩) (by show wr.heap.size < _; omega) (fun e => by simp only at e; omega)).trans hcb
        refine does_val (v := .pointer po) (w' := wx) ?_ ⟨rfl, hS, fun _ _ _ h => h⟩
        simp [execOp, go_sem, t47, d0]
      · intro L a wx hS h
        have s46 : a.eval (.tmp 46) = .func (.func 70) #[] #[.pointer (some ⟨w.heap.size + 1 + 1, 0, none⟩)] := h.slot 0 3 46 rfl rfl
        have t46 := (ev_tmp a 46).symm.trans s46
        have s48 : a.eval (.tmp 48) = .pointer po := h.slot 1 5 48 rfl rfl
        have t48 := (ev_tmp a 48).symm.trans s48
        rw [if_pos (wanted_none rfl)]
        have hB := hS.2.1 h.un
        have hYx := HY9.out.below hB
        refine does_call (f := 70) (args := #[.pointer po, .pointer (some ⟨w.heap.size + 1 + 1, 0, none⟩)]) (w' := wx) (by simp [go_sem, t46, t48]) ?_
        have hown := own_opt (file := file) hYx.fw hYx.cs (Nat.le_trans (Nat.le_add_right _ 3) hYx.sz) hYx.bc HFK.out HNB.out
        rw [hpo.out] at hown
        refine hown.mono ?_
        rintro r w' ⟨n2, d2, rfl, h1, h2, h3, h4, h5⟩
        have hl9 := h.off 9 (by kernel_rfl)
        have hK := hS.1.trans h5 (fun _ e => .inl (.inl e))
        exact ⟨_, rfl, ⟨n2, d2, rfl, h1, h2, h3, hYx.next H.out h5 (fun i e => by subst e; exact ⟨by omega, by omega⟩) h4⟩, ⟨hK, fun h0 => by simp [updL] at h0, fun _ => own_kept (hS.2.2.1 hl9) (fun i e => h5.block i (tg_lt (own_tg (hS.2.2.1 hl9) e)) (by have := ((hS.2.2.1 hl9).lt i e).1; omega)), fun h0 => by simp [updL, hl9] at h0⟩, fun j u hj hT => tk_stab (fun e => by subst e; rw [h.un] at hj; cases hj) hT⟩
      · intro L a wx hS h
        have s44 : a.eval (.tmp 44) = .slice (some ⟨N, 0, none⟩) len vc := h.slot 0 1 44 rfl rfl
        have t44 := (ev_tmp a 44).symm.trans s44
        have s45 : a.eval (.tmp 45) = .int .i64 (k : Int) := h.slot 1 2 45 rfl rfl
        have t45 := (ev_tmp a 45).symm.trans s45
        rw [if_pos (wanted_none rfl)]
        refine does_val (v := .pointer (some ⟨N, k * 3, none⟩)) (w' := wx) ?_ ⟨rfl, hS, fun _ _ _ h => h⟩
        simp [execOp, go_sem, t44, t45, hlt']
      · intro L a wx hS h
        have s50 : a.eval (.tmp 50) = .pointer (some ⟨N, k * 3, none⟩) := h.slot 0 7 50 rfl rfl
        have t50 := (ev_tmp a 50).symm.trans s50
        rw [if_pos (wanted_none rfl)]
        refine does_val (v := .pointer (some ⟨N, k * 3 + 2, none⟩)) (w' := wx) ?_ ⟨rfl, hS, fun _ _ _ h => h⟩
        simp [execOp, go_sem, t50]
      · intro L a wx hS h
        have s51 : a.eval (.tmp 51) = .pointer (some ⟨N, k * 3 + 2, none⟩) := h.slot 0 8 51 rfl rfl
        have t51 := (ev_tmp a 51).symm.trans s51
        rw [if_pos (wanted_none rfl)]
        obtain ⟨n2, d2, e49, h1, h2, h3, hYx⟩ : ∃ n2 d2, a.eval (.tmp 49) = pv (file.bind d2) ∧ Gx b x w file n d n2 d2 wx := h.slot 1 6 49 rfl rfl
        have t49 := (ev_tmp a 49).symm.trans e49
        have hOx := hS.2.2.1 h.un
        obtain ⟨N', eN, _, hNt', _, hNc⟩ := own_some hOx (by omega)
        cases eN
        obtain ⟨u0, d0, d1⟩ := hNc (k * 3 + 2) (by omega)
        have kp9 := kp_set wx N (k * 3 + 2) (pv (file.bind d2))
        have hG2 : ∀ n3 d3, Gx b x w file n d n3 d3 wx → Gx b x w file n d n3 d3 (wx.setCell ⟨N, k * 3 + 2, none⟩ (pv (file.bind d2))) := fun n3 d3 ⟨g1, g2, g3, g4⟩ => ⟨g1, g2, g3, g4.put H.out kp9 hNt' (by decide) (by decide) (by decide) (by omega) (by omega)⟩
        refine does_skip (w' := wx.setCell ⟨N, k * 3 + 2, none⟩ (pv (file.bind d2))) ?_ ⟨rfl, ⟨hS.1.trans kp9 (fun _ e => .inl (.inr e)), fun h0 => by simp [updL, h.on 1 6 rfl] at h0, fun h0 => by simp [updL] at h0, fun _ => ⟨n2, d2, hG2 n2 d2 ⟨h1, h2, h3, hYx⟩, own_set hOx⟩⟩, fun j u hj hT => tk_stab (fun _ ⟨n3, d3, e3, h3⟩ => ⟨n3, d3, e3, hG2 n3 d3 h3⟩) hT⟩
        obtain ⟨p2, hp2⟩ : ∃ p2, Hid (pv (file.bind d2) = .pointer p2) := by cases file.bind d2 <;> exact ⟨_, rfl⟩
        rw [hp2.out] at t49 ⊢
        simp [execOp, go_sem, t51, t49, d0, d1]
      intro a u L hS hall hts hd hdone hfree
      obtain ⟨x43, ex43⟩ : ∃ x, a.eval (.tmp 43) = x := ⟨_, rfl⟩
      obtain ⟨x44, ex44⟩ : ∃ x, a.eval (.tmp 44) = x := ⟨_, rfl⟩
      obtain ⟨x45, ex45⟩ : ∃ x, a.eval (.tmp 45) = x := ⟨_, rfl⟩
      obtain ⟨x46, ex46⟩ : ∃ x, a.eval (.tmp 46) = x := ⟨_, rfl⟩
      obtain ⟨x47, ex47⟩ : ∃ x, a.eval (.tmp 47) = x := ⟨_, rfl⟩
      obtain ⟨x48, ex48⟩ : ∃ x, a.eval (.tmp 48) = x := ⟨_, rfl⟩
      obtain ⟨x49, ex49⟩ : ∃ x, a.eval (.tmp 49) = x := ⟨_, rfl⟩
      obtain ⟨x50, ex50⟩ : ∃ x, a.eval (.tmp 50) = x := ⟨_, rfl⟩
      obtain ⟨x51, ex51⟩ : ∃ x, a.eval (.tmp 51) = x := ⟨_, rfl⟩
      have hact := act_puts hts hd hfree
      simp only [putAll, List.foldl_cons, List.foldl_nil, ex43, ex44, ex45, ex46, ex47, ex48, ex49, ex50, ex51, Act.put] at hact
      simp at hact
      clear ex43 ex44 ex45 ex46 ex47 ex48 ex49 ex50 ex51 hts hd hdone hfree
      subst hact
      obtain ⟨hKp, _, _, hS⟩ := hS
      obtain ⟨n2, d2, ⟨g1, g2, g3, hY2⟩, hO2⟩ := hS (hall 9 (by decide))
      have hq1n := HMA9.out.lt
      have hq2n := HMB9.out.lt
      have HY2 : Hid (Yo b x w n2 d2 u) := hY2
      have HN2 : Hid (n2 ≤ x.pn + x.sn + (k + 1)) := by
        show n2 ≤ _
        have := hn.out
        omega
      have HF2 : Hid (Fc u w.heap.size x.room x.made (.map (some q1)) (.map (some q2)) (.slice (some ⟨N, 0, none⟩) len vc) x.fused x.left) := HF9.out.kept (hKp.block _ (by omega) (fun e => by omega))
      have HMA2 : Hid (Mp u q1 x.pn (fun s => (x.pm s).bind d2)) := by
        show Mp _ _ _ _
        rw [← bind_ext (tot_ext HM6a.out.2 hdx.out) g2]
        exact HMA9.out.kept (hKp.block q1 hq1n (fun e => by omega))
      have HMB2 : Hid (Mp u q2 x.sn (fun s => (x.sm s).bind d2)) := by
        show Mp _ _ _ _
        rw [← bind_ext (tot_ext HM6.out.2 hdx.out) g2]
        exact HMB9.out.kept (hKp.block q2 hq2n (fun e => by omega))
      have HDX2 : Hid (∀ i j, d5 i = some j → d2 i = some j) := fun i j e => g2 i j (hdx.out i j e)
      have HDK2 : Hid (∀ c ∈ x.cs.take (k + 1), ∀ g, c.2.2 = some g → ∃ h, d2 g = some h) := fun c hcc g e => by
        rw [List.take_succ_eq_append_getElem hkl] at hcc
        rcases List.mem_append.1 hcc with h1 | h1
        · obtain ⟨h, hh⟩ := hdk.out c h1 g e
          exact ⟨h, g2 g h hh⟩
        · have e1 : c = (s1, s2, file) := by
            rw [hc.out]
            simpa [List.getD, List.getElem?_eq_getElem hkl] using h1
          subst e1
          exact g1 g e
      have HO2 : Hid (u.ownsRow w6.heap.size 95 3 (.slice (some ⟨N, 0, none⟩) len vc) len (ccs (cmk d2 x.cs (k + 1)))) := by
        have e2 := cmk_step d2 x.cs k hkl
        rw [← hc.out] at e2
        rw [cmk_ext hdk.out g2, e2] at hO2
        exact hO2
      clear hKp hS hall g1 g2 g3 hY2 hO2
      go_wp2_with fail
      go_roundw
      case rel =>
        exact ⟨k + 1, n2, d2, by omega, by go_num, HY2.out, HN2.out, HF2.out, HMA2.out, HMB2.out, HDX2.out, HDK2.out, HO2.out⟩
      case measure => simp [intOf]; omega
    · have hlt' : ¬ ((k : Int) < (len : Int)) := by omega
      have hke : k = len := by omega
      subst hke
      go_wp2_with fail
      go_ret
      have hO' := hO.out
      have hcmk : cmk d x.cs k = x.cs.map (cm d) := by
        unfold cmk
        rw [hlen.out, List.take_length, List.drop_length, List.append_nil]
      rw [hcmk] at hO'
      obtain ⟨y, h1, h2, h3, h4⟩ := clone_done H.out hlen.out hY.out hF.out hMa.out hMb.out (by omega) (by omega) hO' (by omega) (tot_ext HM6a.out.2 hdx.out) (tot_ext HM6.out.2 hdx.out) (fun c hcc g e => hdk.out c (by rw [hlen.out, List.take_length]; exact hcc) g e)
      exact ⟨rfl, y, d, h1, h2, h3, h4⟩
end Go.Proofs.Ytkipcblbadkjnaa
