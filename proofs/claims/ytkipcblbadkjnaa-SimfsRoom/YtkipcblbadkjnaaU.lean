/- The contract of a file's crash: what doesn't stay is cut, but for so many bytes. Conditions: those of each theorem. -/
import Derived.Test.YtkipcblbadkjnaaR
import Derived.Test.YtkipcblbadkjnaaRk
import Derived.Test.YtkipcblbadkjnaaRl
namespace Go.Proofs.Ytkipcblbadkjnaa
open Go.RowKit

def Ceq (x : Value) : Value → World → Prop := fun v _ => v = x
def TL (ks : List (Value → World → Prop)) (j : Nat) (v : Value) (w : World) : Prop := (ks.getD j (fun _ _ => True)) v w
theorem tl_stab {ks : List (Value → World → Prop)} {w w' : World} (h : ∀ k ∈ ks, ∀ v, k v w → k v w') {j : Nat} {v : Value} (hT : TL ks j v w) : TL ks j v w' := by
  unfold TL at *
  rcases Nat.lt_or_ge j ks.length with hj | hj
  · have e : ks.getD j (fun _ _ => True) = ks[j] := by simp [List.getD, hj]
    rw [e] at hT ⊢
    exact h _ (List.getElem_mem hj) v hT
  · have e : ks.getD j (fun _ _ => True) = fun _ _ => True := by simp [List.getD, List.getElem?_eq_none hj]
    rw [e]; trivial
theorem own_base {w : World} {base base' : Nat} {e : TypeId} {size : Nat} {v : Value} {n : Nat} {xs : List Value} (h : w.ownsRow base e size v n xs) (hb : base' ≤ base) : w.ownsRow base' e size v n xs := by
  refine ⟨h.1, ?_⟩
  rcases h.2 with h0 | ⟨g, cap, cur, h1, h2, h3⟩
  · exact .inl h0
  · exact .inr ⟨g, cap, cur, h1, Nat.le_trans hb h2, h3⟩
/-- How many bytes are left. -/
def cl (n : Int) (bs : List Int) (st : Int) : Int := st + wi n ((bs.length : Int) - st)
theorem wi_bd {n m : Int} (h : 0 ≤ m) : 0 ≤ wi n m ∧ wi n m ≤ m := by
  unfold wi
  split
  · simp [h]
  · split <;> omega
theorem cl_bd (n : Int) {bs : List Int} {st : Int} (h : 0 ≤ st ∧ st ≤ bs.length) : st ≤ cl n bs st ∧ cl n bs st ≤ bs.length := by
  have := wi_bd (n := n) (m := (bs.length : Int) - st) (by omega)
  unfold cl; omega
theorem cl_again (n : Int) {bs : List Int} {st : Int} (h : 0 ≤ st ∧ st ≤ bs.length) : cl n (bs.take (cl n bs st).toNat) (cl n bs st) = cl n bs st := by
  have h1 := cl_bd n h
  have e : ((bs.take (cl n bs st).toNat).length : Int) = cl n bs st := by rw [List.length_take]; omega
  have h2 : ∀ n : Int, wi n 0 = 0 := fun n => by unfold wi; split <;> simp
  have e3 : ∀ (bs' : List Int) (st' : Int), (bs'.length : Int) = st' → cl n bs' st' = st' := fun bs' st' hh => by unfold cl; rw [hh, Int.sub_self, h2]; omega
  exact e3 _ _ e
theorem setF_setF (x : X) (g : Nat) (r r' : Value) (b b' : List Int) (s s' : Int) : setF (setF x g r b s) g r' b' s' = setF x g r' b' s' := by
  unfold setF
  congr 1 <;> (funext k; by_cases e : k = g <;> simp [e])

set_option linter.unusedSimpArgs false in
set_option maxRecDepth 100000 in
set_option maxHeartbeats 4000000 in
theorem fcrash_any (b : Nat) (x : X) (g : Nat) (n : Int) (w : World) (h : FW w b x) (hg : x.K g) :
    Calls Try.prog 56 #[.pointer (some ⟨g, 0, none⟩), .int .i64 n] w fun e w' => e = .returned (.tuple #[]) ∧ ∃ v, Mv b w x w' (setF x g v ((x.bs g).take (cl n (x.bs g) (x.st g)).toNat) (cl n (x.bs g) (x.st g))) ∧ Kp (fun k => k = g) w w' := by
  obtain ⟨_, c1, c2, cz⟩ := h.cells hg
  have z2 := cz 2
  have hro := h.fl.fr g hg
  have hs0 := h.fl.st0 g hg
  have hcl := cl_bd n ⟨hs0.1, hs0.2.1⟩
  have hlt : g < w.heap.size := tg_lt (h.tf hg)
  have H : Hid (FW w b x) := h
  have HG : Hid (x.K g) := hg
  obtain ⟨st, hst⟩ : ∃ st, Hid (st = x.st g) := ⟨_, rfl⟩
  obtain ⟨bs, hbs⟩ : ∃ bs, Hid (bs = x.bs g) := ⟨_, rfl⟩
  rw [← hst.out] at c2 hs0 hcl ⊢
  rw [← hbs.out] at hro hs0 hcl ⊢
  obtain ⟨len, hlen⟩ : ∃ len, Hid (len = bs.length) := ⟨_, rfl⟩
  obtain ⟨d, hd⟩ : ∃ d, Hid (d = wi n ((len : Int) - st)) := ⟨_, rfl⟩
  have hcd : cl n bs st = st + d := by unfold cl; rw [hd.out, hlen.out]
  rw [hcd] at hcl ⊢
  rw [← hlen.out] at hcl hs0
  obtain ⟨c, hc⟩ : ∃ c : Nat, st + d = c := ⟨(st + d).toNat, by omega⟩
  obtain ⟨ra, rc, hrv, hrl, hrd⟩ := own_rd hro
  have hcap : c ≤ rc := by
    rcases hro.2 with ⟨h1, h2⟩ | ⟨g', cap, cur, h1, h2, h3, h4, h5, h6, h7⟩
    · rw [h1] at hrv
      have e := (Value.slice.inj hrv).2.2
      have := hlen.out
      omega
    · rw [h1] at hrv
      have e := (Value.slice.inj hrv).2.2
      have := hlen.out
      omega
  have hnn : ra = none → rc = 0 := by
    intro e0
    subst e0
    rcases hro.2 with ⟨h1, h2⟩ | ⟨g', cap, cur, h1, h2, h3, h4, h5, h6, h7⟩
    · rw [h1] at hrv
      exact (Value.slice.inj hrv).2.2.symm
    · rw [h1] at hrv
      cases (Value.slice.inj hrv).1
  have HNN : Hid (ra = none → rc = 0) := hnn
  clear hnn
  rw [hrv] at c1
  have wk1 : RowKit.wrap64 ((len : Int) - st) = (len : Int) - st := by unfold RowKit.wrap64; omega
  have wk1b : IntKind.i64.wrap ((len : Int) - st) = (len : Int) - st := by rw [IntKind.wrap_i64]; omega
  have wk2 : RowKit.wrap64 (st + d) = st + d := by unfold RowKit.wrap64; omega
  have wk2b : IntKind.i64.wrap (st + d) = st + d := by rw [IntKind.wrap_i64]; omega
  rw [← hlen.out] at hrv
  rw [← hlen.out] at c1
  have HRV : Hid (x.rv g = .slice ra len rc) := hrv
  have HRD : Hid (Rd .u8 w ra bs) := hrd
  clear h hg hro hrv hrd hcd cz
  go_enter Try.func56, Try.ntmps56
  go_wp2_with fail
  refine wp_region_M (by kernel_rfl) (by kernel_rfl) (fun L W => (L 19 = false → Below w.heap.size w W ∧ W.heap.size = w.heap.size) ∧ (L 19 = true → ∃ u, (Below w.heap.size w u ∧ u.heap.size = w.heap.size) ∧ W = u.setCell ⟨g, 2, none⟩ (.int .i64 (st + d)))) (TL [Ceq (.pointer (some ⟨g, 0, none⟩)), Ceq (.pointer (some ⟨g, 0, none⟩)), Ceq (.pointer (some ⟨g, 2, none⟩)), Ceq (.int .i64 st), Ceq (.int .i64 n), Ceq (.pointer (some ⟨g, 0, none⟩)), Ceq (.pointer (some ⟨g, 0, none⟩)), Ceq (.pointer (some ⟨g, 1, none⟩)), Ceq (.slice ra len rc), Ceq (.int .i64 (len : Int)), Ceq (.pointer (some ⟨g, 0, none⟩)), Ceq (.pointer (some ⟨g, 0, none⟩)), Ceq (.pointer (some ⟨g, 2, none⟩)), Ceq (.int .i64 st), Ceq (.int .i64 ((len : Int) - st)), Ceq (.int .i64 d), Ceq (.int .i64 (st + d)), Ceq (.pointer (some ⟨g, 0, none⟩)), Ceq (.pointer (some ⟨g, 2, none⟩)), Ceq (undef)]) ⟨fun _ => ⟨(Below.refl _ _).drew, rfl⟩, fun h => by cases h⟩ (allL_cons ?_ (allL_cons ?_ (allL_cons ?_ (allL_cons ?_ (allL_cons ?_ (allL_cons ?_ (allL_cons ?_ (allL_cons ?_ (allL_cons ?_ (allL_cons ?_ (allL_cons ?_ (allL_cons ?_ (allL_cons ?_ (allL_cons ?_ (allL_cons ?_ (allL_cons ?_ (allL_cons ?_ (allL_cons ?_ (allL_cons ?_ (allL_cons ?_ allL_nil)))))))))))))))))))) ?_
  · intro L a wx hS h
    have s0 : a.eval (.tmp 0) = .pointer (some ⟨g, 0, none⟩) := (h.fix 0 (by kernel_rfl)).trans rfl
    have t0 := (ev_tmp a 0).symm.trans s0
    rw [if_pos (wanted_none rfl)]
    refine does_val (v := .pointer (some ⟨g, 0, none⟩)) (w' := wx) ?_ ⟨rfl, hS, fun _ _ _ h => h⟩
    simp [execOp, go_sem, t0]
  · intro L a wx hS h
    have s4 : a.eval (.tmp 4) = .pointer (some ⟨g, 0, none⟩) := h.slot 0 0 4 rfl rfl
    have t4 := (ev_tmp a 4).symm.trans s4
    rw [if_pos (wanted_none rfl)]
    refine does_val (v := .pointer (some ⟨g, 0, none⟩)) (w' := wx) ?_ ⟨rfl, hS, fun _ _ _ h => h⟩
    simp [execOp, go_sem, t4]
  · intro L a wx hS h
    have s5 : a.eval (.tmp 5) = .pointer (some ⟨g, 0, none⟩) := h.slot 0 1 5 rfl rfl
    have t5 := (ev_tmp a 5).symm.trans s5
    rw [if_pos (wanted_none rfl)]
    refine does_val (v := .pointer (some ⟨g, 2, none⟩)) (w' := wx) ?_ ⟨rfl, hS, fun _ _ _ h => h⟩
    simp [execOp, go_sem, t5]
  · intro L a wx hS h
    have s6 : a.eval (.tmp 6) = .pointer (some ⟨g, 2, none⟩) := h.slot 0 2 6 rfl rfl
    have t6 := (ev_tmp a 6).symm.trans s6
    rw [if_pos (wanted_none rfl)]
    have d0 := ((hS.1 (h.off 19 (by kernel_rfl))).1.cell (p := ⟨g, 2, none⟩) hlt).trans c2
    refine does_val (v := .int .i64 st) (w' := wx) ?_ ⟨rfl, hS, fun _ _ _ h => h⟩
    simp [execOp, go_sem, t6, d0]
  · intro L a wx hS h
    have s1 : a.eval (.tmp 1) = .int .i64 n := (h.fix 1 (by kernel_rfl)).trans rfl
    have t1 := (ev_tmp a 1).symm.trans s1
    rw [if_pos (wanted_none rfl)]
    refine does_val (v := .int .i64 n) (w' := wx) ?_ ⟨rfl, hS, fun _ _ _ h => h⟩
    simp [execOp, go_sem, t1]
  · intro L a wx hS h
    have s0 : a.eval (.tmp 0) = .pointer (some ⟨g, 0, none⟩) := (h.fix 0 (by kernel_rfl)).trans rfl
    have t0 := (ev_tmp a 0).symm.trans s0
    rw [if_pos (wanted_none rfl)]
    refine does_val (v := .pointer (some ⟨g, 0, none⟩)) (w' := wx) ?_ ⟨rfl, hS, fun _ _ _ h => h⟩
    simp [execOp, go_sem, t0]
  · intro L a wx hS h
    have s9 : a.eval (.tmp 9) = .pointer (some ⟨g, 0, none⟩) := h.slot 0 5 9 rfl rfl
    have t9 := (ev_tmp a 9).symm.trans s9
    rw [if_pos (wanted_none rfl)]
    refine does_val (v := .pointer (some ⟨g, 0, none⟩)) (w' := wx) ?_ ⟨rfl, hS, fun _ _ _ h => h⟩
    simp [execOp, go_sem, t9]
  · intro L a wx hS h
    have s10 : a.eval (.tmp 10) = .pointer (some ⟨g, 0, none⟩) := h.slot 0 6 10 rfl rfl
    have t10 := (ev_tmp a 10).symm.trans s10
    rw [if_pos (wanted_none rfl)]
    refine does_val (v := .pointer (some ⟨g, 1, none⟩)) (w' := wx) ?_ ⟨rfl, hS, fun _ _ _ h => h⟩
    simp [execOp, go_sem, t10]
  · intro L a wx hS h
    have s11 : a.eval (.tmp 11) = .pointer (some ⟨g, 1, none⟩) := h.slot 0 7 11 rfl rfl
    have t11 := (ev_tmp a 11).symm.trans s11
    rw [if_pos (wanted_none rfl)]
    have d0 := ((hS.1 (h.off 19 (by kernel_rfl))).1.cell (p := ⟨g, 1, none⟩) hlt).trans c1
    refine does_val (v := .slice ra len rc) (w' := wx) ?_ ⟨rfl, hS, fun _ _ _ h => h⟩
    simp [execOp, go_sem, t11, d0]
  · intro L a wx hS h
    have s12 : a.eval (.tmp 12) = .slice ra len rc := h.slot 0 8 12 rfl rfl
    have t12 := (ev_tmp a 12).symm.trans s12
    rw [if_pos (wanted_none rfl)]
    refine does_val (v := .int .i64 (len : Int)) (w' := wx) ?_ ⟨rfl, hS, fun _ _ _ h => h⟩
    simp [execOp, go_sem, t12]
  · intro L a wx hS h
    have s0 : a.eval (.tmp 0) = .pointer (some ⟨g, 0, none⟩) := (h.fix 0 (by kernel_rfl)).trans rfl
    have t0 := (ev_tmp a 0).symm.trans s0
    rw [if_pos (wanted_none rfl)]
    refine does_val (v := .pointer (some ⟨g, 0, none⟩)) (w' := wx) ?_ ⟨rfl, hS, fun _ _ _ h => h⟩
    simp [execOp, go_sem, t0]
  · intro L a wx hS h
    have s14 : a.eval (.tmp 14) = .pointer (some ⟨g, 0, none⟩) := h.slot 0 10 14 rfl rfl
    have t14 := (ev_tmp a 14).symm.trans s14
    rw [if_pos (wanted_none rfl)]
    refine does_val (v := .pointer (some ⟨g, 0, none⟩)) (w' := wx) ?_ ⟨rfl, hS, fun _ _ _ h => h⟩
    simp [execOp, go_sem, t14]
  · intro L a wx hS h
    have s15 : a.eval (.tmp 15) = .pointer (some ⟨g, 0, none⟩) := h.slot 0 11 15 rfl rfl
    have t15 := (ev_tmp a 15).symm.trans s15
    rw [if_pos (wanted_none rfl)]
    refine does_val (v := .pointer (some ⟨g, 2, none⟩)) (w' := wx) ?_ ⟨rfl, hS, fun _ _ _ h => h⟩
    simp [execOp, go_sem, t15]
  · intro L a wx hS h
    have s16 : a.eval (.tmp 16) = .pointer (some ⟨g, 2, none⟩) := h.slot 0 12 16 rfl rfl
    have t16 := (ev_tmp a 16).symm.trans s16
    rw [if_pos (wanted_none rfl)]
    have d0 := ((hS.1 (h.off 19 (by kernel_rfl))).1.cell (p := ⟨g, 2, none⟩) hlt).trans c2
    refine does_val (v := .int .i64 st) (w' := wx) ?_ ⟨rfl, hS, fun _ _ _ h => h⟩
    simp [execOp, go_sem, t16, d0]
  · intro L a wx hS h
    have s13 : a.eval (.tmp 13) = .int .i64 (len : Int) := h.slot 0 9 13 rfl rfl
    have t13 := (ev_tmp a 13).symm.trans s13
    have s17 : a.eval (.tmp 17) = .int .i64 st := h.slot 1 13 17 rfl rfl
    have t17 := (ev_tmp a 17).symm.trans s17
    rw [if_pos (wanted_none rfl)]
    refine does_val (v := .int .i64 ((len : Int) - st)) (w' := wx) ?_ ⟨rfl, hS, fun _ _ _ h => h⟩
    simp [execOp, go_sem, t13, t17, wk1, wk1b]
  · intro L a wx hS h
    have s8 : a.eval (.tmp 8) = .int .i64 n := h.slot 0 4 8 rfl rfl
    have t8 := (ev_tmp a 8).symm.trans s8
    have s18 : a.eval (.tmp 18) = .int .i64 ((len : Int) - st) := h.slot 1 14 18 rfl rfl
    have t18 := (ev_tmp a 18).symm.trans s18
    rw [if_pos (wanted_none rfl)]
    refine does_call (f := 34) (args := #[.int .i64 n, .int .i64 ((len : Int) - st)]) (w' := wx) (by simp [go_sem, t8, t18]) ?_
    refine (within_any _ _ _).mono ?_
    rintro r w' ⟨rfl, rfl⟩
    exact ⟨_, rfl, by rw [hd.out]; rfl, hS, fun _ _ _ h => h⟩
  · intro L a wx hS h
    have s7 : a.eval (.tmp 7) = .int .i64 st := h.slot 0 3 7 rfl rfl
    have t7 := (ev_tmp a 7).symm.trans s7
    have s19 : a.eval (.tmp 19) = .int .i64 d := h.slot 1 15 19 rfl rfl
    have t19 := (ev_tmp a 19).symm.trans s19
    rw [if_pos (wanted_none rfl)]
    refine does_val (v := .int .i64 (st + d)) (w' := wx) ?_ ⟨rfl, hS, fun _ _ _ h => h⟩
    simp [execOp, go_sem, t7, t19, wk2, wk2b]
  · intro L a wx hS h
    have s4 : a.eval (.tmp 4) = .pointer (some ⟨g, 0, none⟩) := h.slot 0 0 4 rfl rfl
    have t4 := (ev_tmp a 4).symm.trans s4
    rw [if_pos (wanted_none rfl)]
    refine does_val (v := .pointer (some ⟨g, 0, none⟩)) (w' := wx) ?_ ⟨rfl, hS, fun _ _ _ h => h⟩
    simp [execOp, go_sem, t4]
  · intro L a wx hS h
    have s21 : a.eval (.tmp 21) = .pointer (some ⟨g, 0, none⟩) := h.slot 0 17 21 rfl rfl
    have t21 := (ev_tmp a 21).symm.trans s21
    rw [if_pos (wanted_none rfl)]
    refine does_val (v := .pointer (some ⟨g, 2, none⟩)) (w' := wx) ?_ ⟨rfl, hS, fun _ _ _ h => h⟩
    simp [execOp, go_sem, t21]
  · intro L a wx hS h
    have s22 : a.eval (.tmp 22) = .pointer (some ⟨g, 2, none⟩) := h.slot 0 18 22 rfl rfl
    have t22 := (ev_tmp a 22).symm.trans s22
    have s20 : a.eval (.tmp 20) = .int .i64 (st + d) := h.slot 1 16 20 rfl rfl
    have t20 := (ev_tmp a 20).symm.trans s20
    rw [if_pos (wanted_none rfl)]
    have hR := hS.1 h.un
    have d0 := (hR.1.cell (p := ⟨g, 2, none⟩) hlt).trans c2
    have d1 := (hR.1.frozen (p := ⟨g, 2, none⟩) hlt).trans z2
    refine does_skip (w' := wx.setCell ⟨g, 2, none⟩ (.int .i64 (st + d))) ?_ ⟨rfl, ⟨fun h0 => by simp [updL] at h0, fun _ => ⟨wx, hR, rfl⟩⟩, fun j u hj hT => tl_stab (w := wx) (w' := wx.setCell ⟨g, 2, none⟩ (.int .i64 (st + d))) (List.forall_mem_cons.2 ⟨fun _ h => h, (List.forall_mem_cons.2 ⟨fun _ h => h, (List.forall_mem_cons.2 ⟨fun _ h => h, (List.forall_mem_cons.2 ⟨fun _ h => h, (List.forall_mem_cons.2 ⟨fun _ h => h, (List.forall_mem_cons.2 ⟨fun _ h => h, (List.forall_mem_cons.2 ⟨fun _ h => h, (List.forall_mem_cons.2 ⟨fun _ h => h, (List.forall_mem_cons.2 ⟨fun _ h => h, (List.forall_mem_cons.2 ⟨fun _ h => h, (List.forall_mem_cons.2 ⟨fun _ h => h, (List.forall_mem_cons.2 ⟨fun _ h => h, (List.forall_mem_cons.2 ⟨fun _ h => h, (List.forall_mem_cons.2 ⟨fun _ h => h, (List.forall_mem_cons.2 ⟨fun _ h => h, (List.forall_mem_cons.2 ⟨fun _ h => h, (List.forall_mem_cons.2 ⟨fun _ h => h, (List.forall_mem_cons.2 ⟨fun _ h => h, (List.forall_mem_cons.2 ⟨fun _ h => h, (List.forall_mem_cons.2 ⟨fun _ h => h, (fun _ h => by cases h)⟩)⟩)⟩)⟩)⟩)⟩)⟩)⟩)⟩)⟩)⟩)⟩)⟩)⟩)⟩)⟩)⟩)⟩)⟩)⟩) hT⟩
    simp [execOp, go_sem, t22, t20, d0, d1]
  intro a u L hS hall hts hd hdone hfree
  have hS := hS.2 (hall 19 (by decide))
  obtain ⟨x4, ex4⟩ : ∃ x, a.eval (.tmp 4) = x := ⟨_, rfl⟩
  obtain ⟨x5, ex5⟩ : ∃ x, a.eval (.tmp 5) = x := ⟨_, rfl⟩
  obtain ⟨x6, ex6⟩ : ∃ x, a.eval (.tmp 6) = x := ⟨_, rfl⟩
  obtain ⟨x7, ex7⟩ : ∃ x, a.eval (.tmp 7) = x := ⟨_, rfl⟩
  obtain ⟨x8, ex8⟩ : ∃ x, a.eval (.tmp 8) = x := ⟨_, rfl⟩
  obtain ⟨x9, ex9⟩ : ∃ x, a.eval (.tmp 9) = x := ⟨_, rfl⟩
  obtain ⟨x10, ex10⟩ : ∃ x, a.eval (.tmp 10) = x := ⟨_, rfl⟩
  obtain ⟨x11, ex11⟩ : ∃ x, a.eval (.tmp 11) = x := ⟨_, rfl⟩
  obtain ⟨x12, ex12⟩ : ∃ x, a.eval (.tmp 12) = x := ⟨_, rfl⟩
  obtain ⟨x13, ex13⟩ : ∃ x, a.eval (.tmp 13) = x := ⟨_, rfl⟩
  obtain ⟨x14, ex14⟩ : ∃ x, a.eval (.tmp 14) = x := ⟨_, rfl⟩
  obtain ⟨x15, ex15⟩ : ∃ x, a.eval (.tmp 15) = x := ⟨_, rfl⟩
  obtain ⟨x16, ex16⟩ : ∃ x, a.eval (.tmp 16) = x := ⟨_, rfl⟩
  obtain ⟨x17, ex17⟩ : ∃ x, a.eval (.tmp 17) = x := ⟨_, rfl⟩
  obtain ⟨x18, ex18⟩ : ∃ x, a.eval (.tmp 18) = x := ⟨_, rfl⟩
  obtain ⟨x19, ex19⟩ : ∃ x, a.eval (.tmp 19) = x := ⟨_, rfl⟩
  obtain ⟨x20, ex20⟩ : ∃ x, a.eval (.tmp 20) = x := ⟨_, rfl⟩
  obtain ⟨x21, ex21⟩ : ∃ x, a.eval (.tmp 21) = x := ⟨_, rfl⟩
  obtain ⟨x22, ex22⟩ : ∃ x, a.eval (.tmp 22) = x := ⟨_, rfl⟩
  have hact := act_puts hts hd hfree
  simp only [putAll, List.foldl_cons, List.foldl_nil, ex4, ex5, ex6, ex7, ex8, ex9, ex10, ex11, ex12, ex13, ex14, ex15, ex16, ex17, ex18, ex19, ex20, ex21, ex22, Act.put] at hact
  simp at hact
  clear ex4 ex5 ex6 ex7 ex8 ex9 ex10 ex11 ex12 ex13 ex14 ex15 ex16 ex17 ex18 ex19 ex20 ex21 ex22 hts hd hdone hfree hall
  subst hact
  obtain ⟨u0, ⟨hb0, hz0⟩, rfl⟩ := hS
  have hf0 := H.out.below hb0
  have hm0 := hf0.setSt HG.out (st + d) (by rw [← hbs.out, ← hlen.out]; omega)
  have hk0 : Kp (fun k => k = g) w (u0.setCell ⟨g, 2, none⟩ (.int .i64 (st + d))) := (Kp.of_below hb0).trans (kp_set u0 g 2 _) (fun i e => .inl e)
  obtain ⟨w1, hw1⟩ : ∃ w1, Hid (w1 = u0.setCell ⟨g, 2, none⟩ (.int .i64 (st + d))) := ⟨_, rfl⟩
  have hlt1 : g < w1.heap.size := by rw [hw1.out]; simpa using Nat.lt_of_lt_of_le hlt hb0.size
  have hm1 := (Mv.below H.out hb0).trans hm0
  rw [← hw1.out] at hm1 hk0 ⊢
  have HM0 : Hid (Mv b w x w1 (setF x g (x.rv g) (x.bs g) (st + d))) := hm1
  have HK0 : Hid (Kp (fun k => k = g) w w1) := hk0
  obtain ⟨_, e1, e2, ez⟩ := hm1.fw.cells (g := g) HG.out
  simp only [setF, ↓reduceIte] at e1 e2
  rw [HRV.out] at e1
  rw [hc] at e2
  have ez1 := ez 1
  have hrd1 : Rd .u8 w1 ra (bs.take c) := by
    rw [hw1.out]
    refine ((HRD.out.below hb0).kp (kp_set u0 g 2 _) ?_).take c
    intro ad had e
    have := H.out.tr HG.out (k := ad.block) (by rw [HRV.out, had]; rfl)
    exact tg_ne this (H.out.tf HG.out) (by decide) e
  obtain ⟨zs, hzs⟩ : ∃ zs, Hid (zs = bs.take c) := ⟨_, rfl⟩
  rw [← hzs.out] at hrd1
  have HR : Hid (Rd .u8 w1 ra zs) := hrd1
  have HZ : Hid (zs.length = c) := by show _ = _; rw [hzs.out, List.length_take, ← hlen.out]; omega
  clear hm0 hf0 ez hrd1 hb0 hz0 hm1 hk0
  have hcl2 : c ≤ len := by omega
  have hc6 : len ≤ 1048576 := by omega
  go_wp2_with fail
  refine wp_region_M (by kernel_rfl) (by kernel_rfl) (fun L W => (L 13 = false → Below w1.heap.size w1 W) ∧ (L 13 = true → ∃ u N, Below w1.heap.size w1 u ∧ w1.heap.size ≤ N ∧ u.ownsRow w1.heap.size 5 1 (.slice (some ⟨N, 0, none⟩) c c) c (zs.map (Value.int .u8)) ∧ W = u.setCell ⟨g, 1, none⟩ (.slice (some ⟨N, 0, none⟩) c c))) (TL [Ceq (.pointer (some ⟨g, 0, none⟩)), Ceq (.pointer (some ⟨g, 0, none⟩)), Ceq (.pointer (some ⟨g, 0, none⟩)), Ceq (.pointer (some ⟨g, 1, none⟩)), Ceq (.slice ra len rc), Ceq (.pointer (some ⟨g, 0, none⟩)), Ceq (.pointer (some ⟨g, 0, none⟩)), Ceq (.pointer (some ⟨g, 2, none⟩)), Ceq (.int .i64 (c : Int)), Ceq (.slice ra c rc), (fun v W => ∃ N, v = .slice (some ⟨N, 0, none⟩) c c ∧ w1.heap.size ≤ N ∧ W.ownsRow w1.heap.size 5 1 v c (zs.map (Value.int .u8))), Ceq (.pointer (some ⟨g, 0, none⟩)), Ceq (.pointer (some ⟨g, 1, none⟩)), Ceq (undef)]) ⟨fun _ => (Below.refl _ _).drew, fun h => by cases h⟩ (allL_cons ?_ (allL_cons ?_ (allL_cons ?_ (allL_cons ?_ (allL_cons ?_ (allL_cons ?_ (allL_cons ?_ (allL_cons ?_ (allL_cons ?_ (allL_cons ?_ (allL_cons ?_ (allL_cons ?_ (allL_cons ?_ (allL_cons ?_ allL_nil)))))))))))))) ?_
  · intro L a wx hS h
    have s0 : a.eval (.tmp 0) = .pointer (some ⟨g, 0, none⟩) := (h.fix 0 (by kernel_rfl)).trans rfl
    have t0 := (ev_tmp a 0).symm.trans s0
    rw [if_pos (wanted_none rfl)]
    refine does_val (v := .pointer (some ⟨g, 0, none⟩)) (w' := wx) ?_ ⟨rfl, hS, fun _ _ _ h => h⟩
    simp [execOp, go_sem, t0]
  · intro L a wx hS h
    have s0 : a.eval (.tmp 0) = .pointer (some ⟨g, 0, none⟩) := (h.fix 0 (by kernel_rfl)).trans rfl
    have t0 := (ev_tmp a 0).symm.trans s0
    rw [if_pos (wanted_none rfl)]
    refine does_val (v := .pointer (some ⟨g, 0, none⟩)) (w' := wx) ?_ ⟨rfl, hS, fun _ _ _ h => h⟩
    simp [execOp, go_sem, t0]
  · intro L a wx hS h
    have s24 : a.eval (.tmp 24) = .pointer (some ⟨g, 0, none⟩) := h.slot 0 1 24 rfl rfl
    have t24 := (ev_tmp a 24).symm.trans s24
    rw [if_pos (wanted_none rfl)]
    refine does_val (v := .pointer (some ⟨g, 0, none⟩)) (w' := wx) ?_ ⟨rfl, hS, fun _ _ _ h => h⟩
    simp [execOp, go_sem, t24]
  · intro L a wx hS h
    have s25 : a.eval (.tmp 25) = .pointer (some ⟨g, 0, none⟩) := h.slot 0 2 25 rfl rfl
    have t25 := (ev_tmp a 25).symm.trans s25
    rw [if_pos (wanted_none rfl)]
    refine does_val (v := .pointer (some ⟨g, 1, none⟩)) (w' := wx) ?_ ⟨rfl, hS, fun _ _ _ h => h⟩
    simp [execOp, go_sem, t25]
  · intro L a wx hS h
    have s26 : a.eval (.tmp 26) = .pointer (some ⟨g, 1, none⟩) := h.slot 0 3 26 rfl rfl
    have t26 := (ev_tmp a 26).symm.trans s26
    rw [if_pos (wanted_none rfl)]
    have d0 := ((hS.1 (h.off 13 (by kernel_rfl))).cell (p := ⟨g, 1, none⟩) hlt1).trans e1
    refine does_val (v := .slice ra len rc) (w' := wx) ?_ ⟨rfl, hS, fun _ _ _ h => h⟩
    simp [execOp, go_sem, t26, d0]
  · intro L a wx hS h
    have s0 : a.eval (.tmp 0) = .pointer (some ⟨g, 0, none⟩) := (h.fix 0 (by kernel_rfl)).trans rfl
    have t0 := (ev_tmp a 0).symm.trans s0
    rw [if_pos (wanted_none rfl)]
    refine does_val (v := .pointer (some ⟨g, 0, none⟩)) (w' := wx) ?_ ⟨rfl, hS, fun _ _ _ h => h⟩
    simp [execOp, go_sem, t0]
  · intro L a wx hS h
    have s28 : a.eval (.tmp 28) = .pointer (some ⟨g, 0, none⟩) := h.slot 0 5 28 rfl rfl
    have t28 := (ev_tmp a 28).symm.trans s28
    rw [if_pos (wanted_none rfl)]
    refine does_val (v := .pointer (some ⟨g, 0, none⟩)) (w' := wx) ?_ ⟨rfl, hS, fun _ _ _ h => h⟩
    simp [execOp, go_sem, t28]
  · intro L a wx hS h
    have s29 : a.eval (.tmp 29) = .pointer (some ⟨g, 0, none⟩) := h.slot 0 6 29 rfl rfl
    have t29 := (ev_tmp a 29).symm.trans s29
    rw [if_pos (wanted_none rfl)]
    refine does_val (v := .pointer (some ⟨g, 2, none⟩)) (w' := wx) ?_ ⟨rfl, hS, fun _ _ _ h => h⟩
    simp [execOp, go_sem, t29]
  · intro L a wx hS h
    have s30 : a.eval (.tmp 30) = .pointer (some ⟨g, 2, none⟩) := h.slot 0 7 30 rfl rfl
    have t30 := (ev_tmp a 30).symm.trans s30
    rw [if_pos (wanted_none rfl)]
    have d0 := ((hS.1 (h.off 13 (by kernel_rfl))).cell (p := ⟨g, 2, none⟩) hlt1).trans e2
    refine does_val (v := .int .i64 (c : Int)) (w' := wx) ?_ ⟨rfl, hS, fun _ _ _ h => h⟩
    simp [execOp, go_sem, t30, d0]
  · intro L a wx hS h
    have s27 : a.eval (.tmp 27) = .slice ra len rc := h.slot 0 4 27 rfl rfl
    have t27 := (ev_tmp a 27).symm.trans s27
    have s31 : a.eval (.tmp 31) = .int .i64 (c : Int) := h.slot 1 8 31 rfl rfl
    have t31 := (ev_tmp a 31).symm.trans s31
    rw [if_pos (wanted_none rfl)]
    refine does_val (v := .slice ra c rc) (w' := wx) ?_ ⟨rfl, hS, fun _ _ _ h => h⟩
    rcases ra with _ | ra
    · have hr0 : rc = 0 := HNN.out rfl
      have hc0 : c = 0 := by omega
      simp [execOp, go_sem, t27, t31, hc0, hr0]
    · simp [execOp, go_sem, t27, t31]
      omega
  · intro L a wx hS h
    have s32 : a.eval (.tmp 32) = .slice ra c rc := h.slot 0 9 32 rfl rfl
    have t32 := (ev_tmp a 32).symm.trans s32
    rw [if_pos (wanted_none rfl)]
    have hR := hS.1 (h.off 13 (by kernel_rfl))
    refine does_call (f := 46) (args := #[.slice ra c rc]) (w' := wx) (by simp [go_sem, t32]) ?_
    refine (copied_any ra c rc zs wx HZ.out (HR.out.below hR) (by omega)).mono ?_
    rintro r w' ⟨rfl, ho, hbb⟩
    exact ⟨_, rfl, ⟨_, rfl, hR.size, own_base ho hR.size⟩, ⟨fun h0 => hR.trans (hbb.mono hR.size), fun h0 => by have := h.off 13 (by kernel_rfl); simp [updL, this] at h0⟩, fun j u hj hT => tl_stab (w := wx) (w' := w') (List.forall_mem_cons.2 ⟨fun _ h => h, (List.forall_mem_cons.2 ⟨fun _ h => h, (List.forall_mem_cons.2 ⟨fun _ h => h, (List.forall_mem_cons.2 ⟨fun _ h => h, (List.forall_mem_cons.2 ⟨fun _ h => h, (List.forall_mem_cons.2 ⟨fun _ h => h, (List.forall_mem_cons.2 ⟨fun _ h => h, (List.forall_mem_cons.2 ⟨fun _ h => h, (List.forall_mem_cons.2 ⟨fun _ h => h, (List.forall_mem_cons.2 ⟨fun _ h => h, (List.forall_mem_cons.2 ⟨fun _ ⟨N, h1, h2, h3⟩ => ⟨N, h1, h2, own_kept h3 (fun k e => hbb.block k (tg_lt (own_tg h3 e)))⟩, (List.forall_mem_cons.2 ⟨fun _ h => h, (List.forall_mem_cons.2 ⟨fun _ h => h, (List.forall_mem_cons.2 ⟨fun _ h => h, (fun _ h => by cases h)⟩)⟩)⟩)⟩)⟩)⟩)⟩)⟩)⟩)⟩)⟩)⟩)⟩)⟩) hT⟩
  · intro L a wx hS h
    have s23 : a.eval (.tmp 23) = .pointer (some ⟨g, 0, none⟩) := h.slot 0 0 23 rfl rfl
    have t23 := (ev_tmp a 23).symm.trans s23
    rw [if_pos (wanted_none rfl)]
    refine does_val (v := .pointer (some ⟨g, 0, none⟩)) (w' := wx) ?_ ⟨rfl, hS, fun _ _ _ h => h⟩
    simp [execOp, go_sem, t23]
  · intro L a wx hS h
    have s34 : a.eval (.tmp 34) = .pointer (some ⟨g, 0, none⟩) := h.slot 0 11 34 rfl rfl
    have t34 := (ev_tmp a 34).symm.trans s34
    rw [if_pos (wanted_none rfl)]
    refine does_val (v := .pointer (some ⟨g, 1, none⟩)) (w' := wx) ?_ ⟨rfl, hS, fun _ _ _ h => h⟩
    simp [execOp, go_sem, t34]
  · intro L a wx hS h
    have s35 : a.eval (.tmp 35) = .pointer (some ⟨g, 1, none⟩) := h.slot 0 12 35 rfl rfl
    have t35 := (ev_tmp a 35).symm.trans s35
    rw [if_pos (wanted_none rfl)]
    obtain ⟨N, e33, hN, ho⟩ : ∃ N, a.eval (.tmp 33) = .slice (some ⟨N, 0, none⟩) c c ∧ w1.heap.size ≤ N ∧ wx.ownsRow w1.heap.size 5 1 (a.eval (.tmp 33)) c (zs.map (Value.int .u8)) := h.slot 1 10 33 rfl rfl
    have t33 := (ev_tmp a 33).symm.trans e33
    rw [e33] at ho
    have hR := hS.1 h.un
    have d0 := (hR.cell (p := ⟨g, 1, none⟩) hlt1).trans e1
    have d1 := (hR.frozen (p := ⟨g, 1, none⟩) hlt1).trans ez1
    refine does_skip (w' := wx.setCell ⟨g, 1, none⟩ (.slice (some ⟨N, 0, none⟩) c c)) ?_ ⟨rfl, ⟨fun h0 => by simp [updL] at h0, fun _ => ⟨wx, N, hR, hN, ho, rfl⟩⟩, fun j u hj hT => tl_stab (w := wx) (w' := wx.setCell ⟨g, 1, none⟩ (.slice (some ⟨N, 0, none⟩) c c)) (List.forall_mem_cons.2 ⟨fun _ h => h, (List.forall_mem_cons.2 ⟨fun _ h => h, (List.forall_mem_cons.2 ⟨fun _ h => h, (List.forall_mem_cons.2 ⟨fun _ h => h, (List.forall_mem_cons.2 ⟨fun _ h => h, (List.forall_mem_cons.2 ⟨fun _ h => h, (List.forall_mem_cons.2 ⟨fun _ h => h, (List.forall_mem_cons.2 ⟨fun _ h => h, (List.forall_mem_cons.2 ⟨fun _ h => h, (List.forall_mem_cons.2 ⟨fun _ h => h, (List.forall_mem_cons.2 ⟨fun _ ⟨N', h1, h2, h3⟩ => ⟨N', h1, h2, own_kept h3 (fun k e => Below.heap_setCell _ _ _ _ (by rw [h1] at e; cases e; show N' ≠ g; omega))⟩, (List.forall_mem_cons.2 ⟨fun _ h => h, (List.forall_mem_cons.2 ⟨fun _ h => h, (List.forall_mem_cons.2 ⟨fun _ h => h, (fun _ h => by cases h)⟩)⟩)⟩)⟩)⟩)⟩)⟩)⟩)⟩)⟩)⟩)⟩)⟩)⟩) hT⟩
    simp [execOp, go_sem, t35, t33, d0, d1]
  intro a u L hS hall hts hd hdone hfree
  have hS := hS.2 (hall 13 (by decide))
  obtain ⟨x23, ex23⟩ : ∃ x, a.eval (.tmp 23) = x := ⟨_, rfl⟩
  obtain ⟨x24, ex24⟩ : ∃ x, a.eval (.tmp 24) = x := ⟨_, rfl⟩
  obtain ⟨x25, ex25⟩ : ∃ x, a.eval (.tmp 25) = x := ⟨_, rfl⟩
  obtain ⟨x26, ex26⟩ : ∃ x, a.eval (.tmp 26) = x := ⟨_, rfl⟩
  obtain ⟨x27, ex27⟩ : ∃ x, a.eval (.tmp 27) = x := ⟨_, rfl⟩
  obtain ⟨x28, ex28⟩ : ∃ x, a.eval (.tmp 28) = x := ⟨_, rfl⟩
  obtain ⟨x29, ex29⟩ : ∃ x, a.eval (.tmp 29) = x := ⟨_, rfl⟩
  obtain ⟨x30, ex30⟩ : ∃ x, a.eval (.tmp 30) = x := ⟨_, rfl⟩
  obtain ⟨x31, ex31⟩ : ∃ x, a.eval (.tmp 31) = x := ⟨_, rfl⟩
  obtain ⟨x32, ex32⟩ : ∃ x, a.eval (.tmp 32) = x := ⟨_, rfl⟩
  obtain ⟨x33, ex33⟩ : ∃ x, a.eval (.tmp 33) = x := ⟨_, rfl⟩
  obtain ⟨x34, ex34⟩ : ∃ x, a.eval (.tmp 34) = x := ⟨_, rfl⟩
  obtain ⟨x35, ex35⟩ : ∃ x, a.eval (.tmp 35) = x := ⟨_, rfl⟩
  have hact := act_puts hts hd hfree
  simp only [putAll, List.foldl_cons, List.foldl_nil, ex23, ex24, ex25, ex26, ex27, ex28, ex29, ex30, ex31, ex32, ex33, ex34, ex35, Act.put] at hact
  simp at hact
  clear ex23 ex24 ex25 ex26 ex27 ex28 ex29 ex30 ex31 ex32 ex33 ex34 ex35 hts hd hdone hfree hall
  subst hact
  obtain ⟨u1, N, hb1, hN, ho, rfl⟩ := hS
  go_wp2_with fail
  go_end0
  have hN1 : N < u1.heap.size := tg_lt (own_tg ho rfl)
  have hne : N ≠ g := by omega
  have hk1 : Kp (fun k => k = g) w1 (u1.setCell ⟨g, 1, none⟩ (.slice (some ⟨N, 0, none⟩) c c)) := (Kp.of_below hb1).trans (kp_set u1 g 1 _) (fun i e => .inl e)
  have hg1 := (hb1.block g hlt1).trans (HM0.out.fw.fl.fl g HG.out)
  simp only [setF, ↓reduceIte] at hg1
  rw [hc] at hg1
  have hfin := HM0.out.fw.setFile (g := g) (w' := u1.setCell ⟨g, 1, none⟩ (.slice (some ⟨N, 0, none⟩) c c)) HG.out (rv := .slice (some ⟨N, 0, none⟩) c c) (bs := zs) (st := (c : Int)) (hk1.mono (fun k _ e => .inl e))
    (by simp [World.setCell, Array.getElem?_modify, hg1, setF]) (by rw [HZ.out]; exact own_kept (own_zero ho) (fun k e => Below.heap_setCell _ _ _ _ (by cases e; exact hne))) (fun k e => by cases e; exact .inr hN) ⟨by omega, by rw [HZ.out]; omega, by rw [HZ.out]; omega⟩
  rw [setF_setF] at hfin
  have e1 : (st + d).toNat = c := by omega
  refine ⟨rfl, .slice (some ⟨N, 0, none⟩) c c, ?_, HK0.out.trans hk1 (fun i e => .inl e)⟩
  rw [e1, hc, ← hzs.out]
  exact HM0.out.trans hfin
end Go.Proofs.Ytkipcblbadkjnaa
