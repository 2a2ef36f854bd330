/- The contracts of the document's own steps, alike and All. Conditions: at most 5000 numbers. -/
import Derived.Test.YtbgipenonngccaaDoorOw
namespace Go.Proofs.YtbgipenonngccaaDoor
open Go.RowKit

set_option maxHeartbeats 1600000 in
theorem refalike_any (a : Option Addr) (n cap : Nat) (l : List Int) (w : World) (hl : l.length = n) (hn : n ≤ 5000) (hrd : Rd .i64 w a l) :
    Calls Tryd.prog 27 #[.slice a n cap] w fun e w' => e = .returned (.bool (alk l)) ∧ Below w.heap.size w w' := by
  have HC : Hid (∀ k, k < n → ∃ b off, a = some ⟨b, off, none⟩ ∧ w.cell? ⟨b, off + k, none⟩ = some (.int .i64 (l.getD k 0)) ∧ w.cell? ⟨b, off, none⟩ = some (.int .i64 (l.getD 0 0))) := by
    intro k hk
    rcases hrd with rfl | ⟨b, off, e, _, c⟩
    · simp at hl; omega
    · exact ⟨b, off, e, c k (by omega), by have := c 0 (by omega); rwa [Nat.add_zero] at this⟩
  have HL : Hid (l.length = n) := hl
  obtain ⟨res, hres⟩ : ∃ q, Hid (q = alk l) := ⟨_, rfl⟩
  rw [← hres.out]
  clear hrd hl
  go_enter Tryd.func27, Tryd.ntmps27
  go_wp2
  go_loopw [3] (fun i wr => ∃ k q : Nat, i = .int .i64 ((k : Int) + 1) ∧ k + 1 ≤ n + 1 ∧ Hid (∀ j, j ≤ k → j < n → l.getD j 0 = l.getD 0 0) ∧ wr = w.drewN q) (fun i _ => n + 1 - (RowKit.intOf i).toNat)
  case atStart => exact ⟨0, 0, rfl, by omega, fun j hj _ => by rw [show j = 0 by omega], rfl⟩
  case round =>
    obtain ⟨k, q, rfl, hk, hal, rfl⟩ := hrel
    by_cases hlt : k + 1 < n
    · obtain ⟨b, off, rfl, hc1, hc0⟩ := HC.out (k + 1) hlt
      have hlt' : (k : Int) + 1 < (n : Int) := by omega
      have hk0 : (0 : Int) ≤ (k : Int) + 1 := by omega
      have hkt : ((k : Int) + 1).toNat = k + 1 := by omega
      have hkn : k + 1 < n := hlt
      have h0n : 0 < n := by omega
      obtain ⟨x, hx⟩ : ∃ x, Hid (x = l.getD (k + 1) 0) := ⟨_, rfl⟩
      obtain ⟨y, hy⟩ : ∃ y, Hid (y = l.getD 0 0) := ⟨_, rfl⟩
      rw [← hx.out] at hc1
      rw [← hy.out] at hc0
      by_cases hxy : x = y
      · go_wp2
        go_quiet (fail)
        go_wp2
        go_roundw
        case rel =>
          refine ⟨k + 1, _, by go_num, by omega, fun j hj hjn => ?_, rfl⟩
          rcases Nat.lt_or_ge j (k + 1) with h | h
          · exact hal.out j (by omega) hjn
          · rw [show j = k + 1 by omega, ← hx.out, ← hy.out, hxy]
        case measure => simp [RowKit.intOf]; omega
      · go_wp2
        go_quiet (fail)
        go_wp2
        go_ret
        refine ⟨?_, (below_drewN w q).trans ((below_drewN _ _).mono (below_drewN w q).size)⟩
        have : alk l = false := by
          cases hh : alk l
          · rfl
          · have := (alk_iff l).1 hh (k + 1) (by rw [HL.out]; exact hlt)
            rw [← hx.out, ← hy.out] at this
            exact absurd this hxy
        rw [hres.out, this]; rfl
    · have hlt' : ¬ (k : Int) + 1 < (n : Int) := by omega
      go_wp2
      go_ret
      refine ⟨?_, below_drewN _ _⟩
      have : alk l = true := (alk_iff l).2 fun j hj => hal.out j (by rw [HL.out] at hj; omega) (by rw [HL.out] at hj; exact hj)
      rw [hres.out, this]; rfl

/-- What lies in memory while 'out = append(out, l[i]-l[i-1])' is under way. -/
structure Ss (base s : Nat) (v : Value) (j : Nat) (xs : List Value) (x y : Int) (w : World) (L : Nat → Bool) (u : World) : Prop where
  bel : Below base w u
  old : L 12 = false → u.ownsRow base 2 1 v j xs
  none : L 11 = false → L 12 = false → u.heap.size = s
  box : L 11 = true → L 12 = false → Boxed u s 2 (.int .i64 (dif x y))
  c13 : L 13 = true → L 12 = true
theorem Ss.same {base s j : Nat} {v : Value} {xs : List Value} {x y : Int} {w : World} {L : Nat → Bool} {u : World} (h : Ss base s v j xs x y w L u) (i : Nat) (h11 : i ≠ 11) (h12 : i ≠ 12) (h13 : i ≠ 13 ∨ L 12 = true) : Ss base s v j xs x y w (upd L i) u := by
  refine ⟨h.bel, ?_, ?_, ?_, ?_⟩
  · rw [upd_ne (Ne.symm h12)]; exact h.old
  · rw [upd_ne (Ne.symm h11), upd_ne (Ne.symm h12)]; exact h.none
  · rw [upd_ne (Ne.symm h11), upd_ne (Ne.symm h12)]; exact h.box
  · rw [upd_ne (Ne.symm h12)]
    rcases h13 with h' | h'
    · rw [upd_ne (Ne.symm h')]; exact h.c13
    · exact fun _ => h'
def Ts (base s : Nat) (vv : Value) (j : Nat) (xs : List Value) (x y : Int) (b off n cap : Nat) : Nat → Value → World → Prop
  | 0, v, _ => v = vv
  | 1, v, _ => v = .slice (some ⟨b, off, .none⟩) n cap
  | 2, v, _ => v = .int .i64 ((j : Int) + 1)
  | 3, v, _ => v = .pointer (some ⟨b, off + (j + 1), .none⟩)
  | 4, v, _ => v = .int .i64 y
  | 5, v, _ => v = .slice (some ⟨b, off, .none⟩) n cap
  | 6, v, _ => v = .int .i64 ((j : Int) + 1)
  | 7, v, _ => v = .int .i64 (j : Int)
  | 8, v, _ => v = .pointer (some ⟨b, off + j, .none⟩)
  | 9, v, _ => v = .int .i64 x
  | 10, v, _ => v = .int .i64 (dif x y)
  | 11, v, _ => v = .slice (some ⟨s, 0, .none⟩) 1 1
  | 12, v, u => u.ownsRow base 2 1 v (j + 1) (xs ++ [.int .i64 (dif x y)])
  | 13, v, u => u.ownsRow base 2 1 v (j + 1) (xs ++ [.int .i64 (dif x y)])
  | _, _, _ => True

set_option linter.unusedSimpArgs false in
set_option maxHeartbeats 3200000 in
theorem refsteps_any (a : Option Addr) (n cap : Nat) (l : List Int) (w : World) (hl : l.length = n) (hn : n ≤ 5000) (hrd : Rd .i64 w a l) :
    Calls Tryd.prog 26 #[.slice a n cap] w fun e w' => ∃ v, e = .returned v ∧ w'.ownsRow w.heap.size 2 1 v (n - 1) ((dfs 0 l).tail.map (Value.int .i64)) ∧ Below w.heap.size w w' := by
  obtain ⟨i0, hi, hz0, hz1, hz2⟩ := info_parts Tryd.info2
  have HC : Hid (∀ k, k + 1 < n → ∃ b off, a = some ⟨b, off, none⟩ ∧ b < w.heap.size ∧ w.cell? ⟨b, off + k, none⟩ = some (.int .i64 (l.getD k 0)) ∧ w.cell? ⟨b, off + (k + 1), none⟩ = some (.int .i64 (l.getD (k + 1) 0))) := by
    intro k hk
    rcases hrd with rfl | ⟨b, off, e, hb, c⟩
    · simp at hl; omega
    · exact ⟨b, off, e, hb, c k (by omega), c (k + 1) (by omega)⟩
  have HL : Hid (l.length = n) := hl
  clear hrd hl
  go_enter Tryd.func26, Tryd.ntmps26
  go_wp2
  go_loopw [3, 4] (fun v i wr => ∃ j : Nat, i = .int .i64 ((j : Int) + 1) ∧ j ≤ n - 1 ∧ Hid (wr.ownsRow w.heap.size 2 1 v j (((dfs 0 l).tail.take j).map (Value.int .i64))) ∧ Hid (Below w.heap.size w wr)) (fun _ i _ => n + 1 - (RowKit.intOf i).toNat)
  case atStart => exact ⟨0, rfl, by omega, ⟨by simp, .inl ⟨rfl, rfl⟩⟩, Below.refl _ _⟩
  case round =>
    obtain ⟨j, rfl, hj, ho, HB⟩ := hrel
    by_cases hlt : j + 1 < n
    · obtain ⟨b, off, rfl, hbb, c0, c1⟩ := HC.out j hlt
      have hlt' : (j : Int) + 1 < (n : Int) := by omega
      obtain ⟨x, hx⟩ : ∃ x, Hid (x = l.getD j 0) := ⟨_, rfl⟩
      obtain ⟨y, hy⟩ : ∃ y, Hid (y = l.getD (j + 1) 0) := ⟨_, rfl⟩
      rw [← hx.out] at c0
      rw [← hy.out] at c1
      have i1 : (0 : Int) ≤ (j : Int) + 1 := by omega
      have i2 : ((j : Int) + 1).toNat = j + 1 := by omega
      have i3 : j + 1 < n := hlt
      have i4 : j < n := by omega
      have i5 : (j : Int) < (n : Int) := by omega
      have i6 : (j : Int) + 1 - 1 = (j : Int) := by omega
      have i7 : IntKind.i64.wrap (j : Int) = (j : Int) := by rw [IntKind.wrap_i64]; omega
      obtain ⟨xs, hxs⟩ : ∃ xs, Hid (xs = ((dfs 0 l).tail.take j).map (Value.int .i64)) := ⟨_, rfl⟩
      rw [← hxs.out] at ho
      obtain ⟨v, hv⟩ : ∃ v, v = u3 := ⟨_, rfl⟩
      subst hv
      obtain ⟨s, hs⟩ : ∃ s, s = wr.heap.size := ⟨_, rfl⟩
      go_wp2_with fail
      subst hs
      refine wp_region_M (by kernel_rfl) (by kernel_rfl) (Ss w.heap.size wr.heap.size v j xs x y w) (Ts w.heap.size wr.heap.size v j xs x y b off n cap) ⟨HB.out.drew, fun _ => ho.out, fun _ _ => rfl, (fun h => (by cases h)), (fun h => (by cases h))⟩
        (allL_cons ?_ (allL_cons ?_ (allL_cons ?_ (allL_cons ?_ (allL_cons ?_ (allL_cons ?_ (allL_cons ?_ (allL_cons ?_ (allL_cons ?_ (allL_cons ?_ (allL_cons ?_ (allL_cons ?_ (allL_cons ?_ (allL_cons ?_ allL_nil)))))))))))))) ?_
      · intro L a u hS ha
        have s3 : a.eval (.tmp 3) = v := (ha.fix 3 (by kernel_rfl)).trans rfl
        rw [if_pos (wanted_none rfl)]
        refine does_val (v := v) (w' := u) ?_ (stay (hS.same 0 (by decide) (by decide) (.inl (by decide))) rfl)
        have t3 := (ev_tmp a 3).symm.trans s3
        simp [execOp, go_sem, t3]
      · intro L a u hS ha
        have s0 : a.eval (.tmp 0) = .slice (some ⟨b, off, none⟩) n cap := (ha.fix 0 (by kernel_rfl)).trans rfl
        rw [if_pos (wanted_none rfl)]
        refine does_val (v := .slice (some ⟨b, off, none⟩) n cap) (w' := u) ?_ (stay (hS.same 1 (by decide) (by decide) (.inl (by decide))) rfl)
        have t0 := (ev_tmp a 0).symm.trans s0
        simp [execOp, go_sem, t0]
      · intro L a u hS ha
        have s4 : a.eval (.tmp 4) = .int .i64 ((j : Int) + 1) := (ha.fix 4 (by kernel_rfl)).trans rfl
        rw [if_pos (wanted_none rfl)]
        refine does_val (v := .int .i64 ((j : Int) + 1)) (w' := u) ?_ (stay (hS.same 2 (by decide) (by decide) (.inl (by decide))) rfl)
        have t4 := (ev_tmp a 4).symm.trans s4
        simp [execOp, go_sem, t4]
      · intro L a u hS ha
        have s12 : a.eval (.tmp 12) = .slice (some ⟨b, off, none⟩) n cap := ha.slot 0 1 12 rfl rfl
        have s13 : a.eval (.tmp 13) = .int .i64 ((j : Int) + 1) := ha.slot 1 2 13 rfl rfl
        rw [if_pos (wanted_none rfl)]
        refine does_val (v := .pointer (some ⟨b, off + (j + 1), none⟩)) (w' := u) ?_ (stay (hS.same 3 (by decide) (by decide) (.inl (by decide))) rfl)
        have t12 := (ev_tmp a 12).symm.trans s12
        have t13 := (ev_tmp a 13).symm.trans s13
        simp [execOp, go_sem, t12, t13, i1, i2, i3]
        intro h; omega
      · intro L a u hS ha
        have s14 : a.eval (.tmp 14) = .pointer (some ⟨b, off + (j + 1), none⟩) := ha.slot 0 3 14 rfl rfl
        rw [if_pos (wanted_none rfl)]
        have cl := (hS.bel.cell (p := ⟨b, off + (j + 1), none⟩) hbb).trans c1
        refine does_val (v := .int .i64 y) (w' := u) ?_ (stay (hS.same 4 (by decide) (by decide) (.inl (by decide))) rfl)
        have t14 := (ev_tmp a 14).symm.trans s14
        simp [execOp, go_sem, t14, cl]
      · intro L a u hS ha
        have s0 : a.eval (.tmp 0) = .slice (some ⟨b, off, none⟩) n cap := (ha.fix 0 (by kernel_rfl)).trans rfl
        rw [if_pos (wanted_none rfl)]
        refine does_val (v := .slice (some ⟨b, off, none⟩) n cap) (w' := u) ?_ (stay (hS.same 5 (by decide) (by decide) (.inl (by decide))) rfl)
        have t0 := (ev_tmp a 0).symm.trans s0
        simp [execOp, go_sem, t0]
      · intro L a u hS ha
        have s4 : a.eval (.tmp 4) = .int .i64 ((j : Int) + 1) := (ha.fix 4 (by kernel_rfl)).trans rfl
        rw [if_pos (wanted_none rfl)]
        refine does_val (v := .int .i64 ((j : Int) + 1)) (w' := u) ?_ (stay (hS.same 6 (by decide) (by decide) (.inl (by decide))) rfl)
        have t4 := (ev_tmp a 4).symm.trans s4
        simp [execOp, go_sem, t4]
      · intro L a u hS ha
        have s17 : a.eval (.tmp 17) = .int .i64 ((j : Int) + 1) := ha.slot 0 6 17 rfl rfl
        rw [if_pos (wanted_none rfl)]
        refine does_val (v := .int .i64 (j : Int)) (w' := u) ?_ (stay (hS.same 7 (by decide) (by decide) (.inl (by decide))) rfl)
        have t17 := (ev_tmp a 17).symm.trans s17
        simp [execOp, go_sem, t17, i6, i7]
      · intro L a u hS ha
        have s16 : a.eval (.tmp 16) = .slice (some ⟨b, off, none⟩) n cap := ha.slot 0 5 16 rfl rfl
        have s18 : a.eval (.tmp 18) = .int .i64 (j : Int) := ha.slot 1 7 18 rfl rfl
        rw [if_pos (wanted_none rfl)]
        refine does_val (v := .pointer (some ⟨b, off + j, none⟩)) (w' := u) ?_ (stay (hS.same 8 (by decide) (by decide) (.inl (by decide))) rfl)
        have t16 := (ev_tmp a 16).symm.trans s16
        have t18 := (ev_tmp a 18).symm.trans s18
        simp [execOp, go_sem, t16, t18, i4, i5]
      · intro L a u hS ha
        have s19 : a.eval (.tmp 19) = .pointer (some ⟨b, off + j, none⟩) := ha.slot 0 8 19 rfl rfl
        rw [if_pos (wanted_none rfl)]
        have cl := (hS.bel.cell (p := ⟨b, off + j, none⟩) hbb).trans c0
        refine does_val (v := .int .i64 x) (w' := u) ?_ (stay (hS.same 9 (by decide) (by decide) (.inl (by decide))) rfl)
        have t19 := (ev_tmp a 19).symm.trans s19
        simp [execOp, go_sem, t19, cl]
      · intro L a u hS ha
        have s15 : a.eval (.tmp 15) = .int .i64 y := ha.slot 0 4 15 rfl rfl
        have s20 : a.eval (.tmp 20) = .int .i64 x := ha.slot 1 9 20 rfl rfl
        rw [if_pos (wanted_none rfl)]
        refine does_val (v := .int .i64 (dif x y)) (w' := u) ?_ (stay (hS.same 10 (by decide) (by decide) (.inl (by decide))) rfl)
        have t15 := (ev_tmp a 15).symm.trans s15
        have t20 := (ev_tmp a 20).symm.trans s20
        simp [execOp, go_sem, t15, t20, dif, wrap64, IntKind.wrap_i64]
      · intro L a u hS ha
        have s21 : a.eval (.tmp 21) = .int .i64 (dif x y) := ha.slot 0 10 21 rfl rfl
        rw [if_pos (wanted_none rfl)]
        have h12 := ha.off 12 (by kernel_rfl)
        have hsz := hS.none ha.un h12
        have t21 := (ev_tmp a 21).symm.trans s21
        refine does_val (v := .slice (some ⟨u.heap.size, 0, none⟩) 1 1) (w' := u.alloc (.cells #[.int .i64 (dif x y)] 2)) (by simp [execOp, go_sem, t21]) ⟨by rw [hsz]; rfl, ⟨?_, ?_, ?_, ?_, ?_⟩, ?_⟩
        · exact hS.bel.alloc hS.bel.size _
        · intro _; exact (hS.old h12).alloc _
        · intro h; rw [upd_same] at h; cases h
        · intro _ _
          rw [← hsz]
          exact Boxed.new u 2 _
        · rw [upd_ne (by decide), upd_ne (by decide)]; exact hS.c13
        · intro q z hL hT
          match q, hL, hT with
          | 0, _, hT => exact hT
          | 1, _, hT => exact hT
          | 2, _, hT => exact hT
          | 3, _, hT => exact hT
          | 4, _, hT => exact hT
          | 5, _, hT => exact hT
          | 6, _, hT => exact hT
          | 7, _, hT => exact hT
          | 8, _, hT => exact hT
          | 9, _, hT => exact hT
          | 10, _, hT => exact hT
          | 11, _, hT => exact hT
          | 12, hL, _ => rw [h12] at hL; cases hL
          | 13, hL, _ => rw [hS.c13 hL] at h12; cases h12
          | q + 14, _, _ => trivial
      · intro L a u hS ha
        have s11 : a.eval (.tmp 11) = v := ha.slot 0 0 11 rfl rfl
        have s22 : a.eval (.tmp 22) = .slice (some ⟨wr.heap.size, 0, none⟩) 1 1 := ha.slot 1 11 22 rfl rfl
        rw [if_pos (wanted_none rfl)]
        have h11 := ha.on 1 11 rfl
        have hbx := hS.box h11 ha.un
        have hold := hS.old ha.un
        obtain ⟨v', u', hrun, hown', hgrow, _⟩ := run_append_own (P := Tryd.prog) u w.heap.size 22 22 2 i0 (.int .i64 0) 1 8 Tryd.underlying22 hi hz0 hz1 hz2 rfl (by decide) v j _ hold ⟨wr.heap.size, 0, none⟩ 1 1 [.int .i64 (dif x y)] rfl
          (fun q z hq => by match q, hq with
            | 0, hq => simp at hq; subst hq; simpa [Addr.add] using hbx.cell) (one_one _) (by unfold maxLen; omega) (by omega) hS.bel.size
        refine does_val (v := v') (w' := u') ?_ ⟨?_, ⟨?_, ?_, ?_, ?_, ?_⟩, ?_⟩
        · simp only [execOp, resolve, invoke, builtin, Sem.run_bind, Sem.run_pure, Result.andThen_ok, List.map_toArray, List.map_cons, List.map_nil, s11, s22, hrun]
        · exact hown'
        · exact hS.bel.grown hgrow hS.bel.size (fun q e => (hold.lt q e).1)
        · intro h; rw [upd_same] at h; cases h
        · intro _ h; rw [upd_same] at h; cases h
        · intro _ h; rw [upd_same] at h; cases h
        · intro _; rw [upd_same]
        · intro q z hL hT
          match q, hL, hT with
          | 0, _, hT => exact hT
          | 1, _, hT => exact hT
          | 2, _, hT => exact hT
          | 3, _, hT => exact hT
          | 4, _, hT => exact hT
          | 5, _, hT => exact hT
          | 6, _, hT => exact hT
          | 7, _, hT => exact hT
          | 8, _, hT => exact hT
          | 9, _, hT => exact hT
          | 10, _, hT => exact hT
          | 11, _, hT => exact hT
          | 12, hL, _ => rw [ha.un] at hL; cases hL
          | 13, hL, _ => have hh := hS.c13 hL; rw [ha.un] at hh; cases hh
          | q + 14, _, _ => trivial
      · intro L a u hS ha
        rw [if_pos (wanted_none rfl)]
        have s23 : u.ownsRow w.heap.size 2 1 (a.eval (.tmp 23)) (j + 1) (xs ++ [.int .i64 (dif x y)]) := ha.slot 0 12 23 rfl rfl
        refine does_val (v := a.eval (.tmp 23)) (w' := u) ?_ (stay (hS.same 13 (by decide) (by decide) (.inr (ha.on 0 12 rfl))) s23)
        simp [execOp, go_sem, ev_tmp]

      · intro a u L hS hL hts hd hdone hfree
        have e3 : u.ownsRow w.heap.size 2 1 (a.eval (.tmp 3)) (j + 1) (xs ++ [.int .i64 (dif x y)]) := done_slot hdone 13 3 rfl
        have hbel := hS.bel
        obtain ⟨x11, ex11⟩ : ∃ x, a.eval (.tmp 11) = x := ⟨_, rfl⟩
        obtain ⟨x12, ex12⟩ : ∃ x, a.eval (.tmp 12) = x := ⟨_, rfl⟩
        obtain ⟨x13, ex13⟩ : ∃ x, a.eval (.tmp 13) = x := ⟨_, rfl⟩
        obtain ⟨x14, ex14⟩ : ∃ x, a.eval (.tmp 14) = x := ⟨_, rfl⟩
        obtain ⟨x15, ex15⟩ : ∃ x, a.eval (.tmp 15) = x := ⟨_, rfl⟩
        obtain ⟨x16, ex16⟩ : ∃ x, a.eval (.tmp 16) = x := ⟨_, rfl⟩
        obtain ⟨x17, ex17⟩ : ∃ x, a.eval (.tmp 17) = x := ⟨_, rfl⟩
        obtain ⟨x18, ex18⟩ : ∃ x, a.eval (.tmp 18) = x := ⟨_, rfl⟩
        obtain ⟨x19, ex19⟩ : ∃ x, a.eval (.tmp 19) = x := ⟨_, rfl⟩
        obtain ⟨x20, ex20⟩ : ∃ x, a.eval (.tmp 20) = x := ⟨_, rfl⟩
        obtain ⟨x21, ex21⟩ : ∃ x, a.eval (.tmp 21) = x := ⟨_, rfl⟩
        obtain ⟨x22, ex22⟩ : ∃ x, a.eval (.tmp 22) = x := ⟨_, rfl⟩
        obtain ⟨x23, ex23⟩ : ∃ x, a.eval (.tmp 23) = x := ⟨_, rfl⟩
        obtain ⟨x3, ex3⟩ : ∃ x, a.eval (.tmp 3) = x := ⟨_, rfl⟩
        have hact := act_puts hts hd hfree
        simp only [putAll, List.foldl_cons, List.foldl_nil, ex11, ex12, ex13, ex14, ex15, ex16, ex17, ex18, ex19, ex20, ex21, ex22, ex23, ex3, Act.put] at hact
        simp at hact
        clear ex11 ex12 ex13 ex14 ex15 ex16 ex17 ex18 ex19 ex20 ex21 ex22 ex23 hts hd hdone hfree hS
        rw [ex3] at e3
        clear ex3
        subst hact
        have E3 : Hid _ := e3
        clear e3
        go_wp2_with fail
        go_roundw
        case rel =>
          refine ⟨j + 1, by go_num, by omega, ?_, hbel⟩
          have hlt2 : j < (dfs 0 l).tail.length := by rw [List.length_tail, dfs_length, HL.out]; omega
          have hg : (dfs 0 l).tail[j] = dif x y := by
            have h1 := dfs_at l 0 j (by rw [HL.out]; exact hlt)
            rw [← getD_tail, ← hx.out, ← hy.out] at h1
            rw [← h1, List.getD_eq_getElem?_getD, List.getElem?_eq_getElem hlt2]; rfl
          have e1 : xs ++ [Value.int .i64 (dif x y)] = ((dfs 0 l).tail.take (j + 1)).map (Value.int .i64) := by
            rw [List.take_succ_eq_append_getElem hlt2, hg, hxs.out, List.map_append]; rfl
          rw [← e1]; exact E3.out
        case measure => simp [RowKit.intOf]; omega
    · have hlt' : ¬ (j : Int) + 1 < (n : Int) := by omega
      go_wp2
      go_ret
      have ej : j = n - 1 := by omega
      refine ⟨u3, rfl, ?_, HB.out⟩
      have e1 : (dfs 0 l).tail.take j = (dfs 0 l).tail := List.take_of_length_le (by rw [List.length_tail, dfs_length, HL.out]; omega)
      have := ho.out
      rw [e1, ej, List.map_tail] at this
      exact this

set_option maxHeartbeats 1600000 in
theorem refall_any (a : Option Addr) (n cap : Nat) (l : List Int) (w : World) (hl : l.length = n) (hn : n ≤ 5000) (hrd : Rd .i64 w a l) (h64 : All64 l) :
    Calls Tryd.prog 28 #[.slice a n cap] w fun e w' => ∃ v, e = .returned v ∧ w'.ownsRow w.heap.size 5 1 v (zbs l).length ((zbs l).map (Value.int .u8)) ∧ Below w.heap.size w w' := by
  obtain ⟨i0, hi, hz0, hz1, hz2⟩ := info_parts Tryd.info5
  have HC : Hid (∀ k, k < n → ∃ b off, a = some ⟨b, off, none⟩ ∧ b < w.heap.size ∧ w.cell? ⟨b, off + k, none⟩ = some (.int .i64 (l.getD k 0))) := by
    intro k hk
    rcases hrd with rfl | ⟨b, off, e, hb, c⟩
    · simp at hl; omega
    · exact ⟨b, off, e, hb, c k (by omega)⟩
  have HL : Hid (l.length = n ∧ All64 l) := ⟨hl, h64⟩
  clear hrd hl h64
  go_enter Tryd.func28, Tryd.ntmps28
  go_wp2
  go_loopw [3, 4] (fun v i wr => ∃ j m : Nat, i = .int .i64 (j : Int) ∧ j ≤ n ∧ m = (zbs (l.take j)).length ∧ Hid (wr.ownsRow w.heap.size 5 1 v m ((zbs (l.take j)).map (Value.int .u8))) ∧ Below w.heap.size w wr) (fun _ i _ => n - (RowKit.intOf i).toNat)
  case atStart => exact ⟨0, 0, rfl, Nat.zero_le _, rfl, ⟨rfl, .inl ⟨rfl, rfl⟩⟩, Below.refl _ _⟩
  case round =>
    obtain ⟨j, m, rfl, hj, hm, ho, hb⟩ := hrel
    by_cases hlt : j < n
    · have hlt' : (j : Int) < (n : Int) := by omega
      obtain ⟨b, off, rfl, hbb, hc0⟩ := HC.out j hlt
      have hc := (hb.cell (p := ⟨b, off + j, none⟩) hbb).trans hc0
      clear hc0
      have hz5 := zbs_len l HL.out.2 j (by rw [HL.out.1]; omega)
      rw [← hm] at hz5
      obtain ⟨x0, x1⟩ := HL.out.2 j
      obtain ⟨u, hu1, hu2, hu3⟩ := zz_nat x0 x1
      have HZ : Hid (∀ w', Calls Tryd.prog 17 #[.int .i64 (l.getD j 0)] w' fun e w'' => e = .returned (.int .u64 (u : Int)) ∧ w'' = w') := fun w' => by
        have := refzig_any (l.getD j 0) x0 x1 w'
        rw [hu1] at this; exact this
      have HU : Hid (zb (l.getD j 0) = bs u ∧ m = (zbs (l.take j)).length) := ⟨hu3, hm⟩
      obtain ⟨y, hy⟩ : ∃ y, Hid (y = l.getD j 0) := ⟨_, rfl⟩
      rw [← hy.out] at hc HZ
      clear hu1 hu3 hm x0 x1
      go_wp2_with fail
      refine (HZ.out wr).mono ?_
      rintro e w1 ⟨rfl, rfl⟩
      go_wp2_with fail
      refine (refbytes_any u w1 hu2).mono ?_
      rintro e w2 ⟨v', rfl, ho2, hb2⟩
      obtain ⟨g2, c2, rfl, _⟩ := own_some ho2 (by have := bs_pos u; omega)
      have hbl := bs_le10 hu2
      have hb12 : Below w.heap.size w w2 := hb.trans (hb2.mono hb.size)
      have ho' := own_below ho.out hb2
      have hr2 := own_rd ho2
      obtain ⟨q, hq⟩ : ∃ q : Nat, Hid (q = (bs u).length) := ⟨_, rfl⟩
      rw [← hq.out] at hbl ⊢
      have HO : Hid (w2.ownsRow w.heap.size 5 1 u3 m ((zbs (l.take j)).map (Value.int .u8)) ∧ Rd .u8 w2 (some ⟨g2, 0, none⟩) (bs u)) := ⟨ho', hr2⟩
      clear ho' hr2 ho2 ho
      go_wp2_with (at_builtin; refine wpList_append_own _ rfl (.tmp 11) (.tmp 17) 24 rfl w.heap.size 5 i0 (.int .u8 0) 1 1 Tryd.underlying24 hi hz0 hz1 hz2 rfl (by decide) _ m _ rfl HO.out.1 ⟨g2, 0, none⟩ q c2 ((bs u).map (Value.int .u8)) rfl (by simp [hq.out]) (rd_any HO.out.2 _ rfl) (ints_oneCell _ _) (by unfold maxLen; omega) (by omega) hb12.size ?_; intro v3 w3 p1 p2 _)
      go_roundw
      case rel =>
        refine ⟨j + 1, m + q, by go_num, hlt, ?_, ?_, hb12.grown p2 hb12.size (fun r e => (HO.out.1.lt r e).1)⟩
        · rw [zbs_take_succ l j (by rw [HL.out.1]; exact hlt), List.length_append, HU.out.1, ← HU.out.2, ← hq.out]
        · rw [zbs_take_succ l j (by rw [HL.out.1]; exact hlt), HU.out.1, List.map_append]; exact p1
      case measure => simp [RowKit.intOf]; omega
    · have hlt' : ¬ (j : Int) < (n : Int) := by omega
      obtain rfl : j = n := by omega
      go_wp2
      go_ret
      refine ⟨u3, rfl, ?_, hb⟩
      have e1 : l.take j = l := by rw [← HL.out.1, List.take_length]
      have := ho.out
      rw [e1] at this hm
      rw [hm] at this
      exact this
end Go.Proofs.YtbgipenonngccaaDoor
