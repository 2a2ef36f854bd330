/- The contract of Crash. Conditions: those of each theorem. -/
import Derived.Test.YtkipcblbadkjnaaWa
namespace Go.Proofs.Ytkipcblbadkjnaa
open Go.RowKit Go.Shelf
open Go.Maps (Keyed)
attribute [local go_sem] Oper.semAt_some

def TK (m : Nat) (D : Value → World → Prop) (vs : List Value) (j : Nat) (v : Value) (W : World) : Prop := if j = m then D v W else v = vs.getD j undef
theorem tk_stab {m : Nat} {D : Value → World → Prop} {vs : List Value} {j : Nat} {v : Value} {w w' : World} (hD : j = m → D v w → D v w') (h : TK m D vs j v w) : TK m D vs j v w' := by
  unfold TK at *
  split
  · rename_i e; rw [if_pos e] at h; exact hD e h
  · rename_i e; rw [if_neg e] at h; exact h
/-- The paths that stay, and behind them some changes, lie in the map q. -/
def Dq (WA : World) (x : X) (k q : Nat) (W : World) : Prop := (x.sb = some q ∨ x.sb = none ∧ WA.heap.size ≤ q) ∧ Mp W q (x.sn + k) (chg x.sm (x.cs.take k)) ∧ Kp (fun i => x.sb = some i) WA W
theorem crashed_of {w w' : World} {b : Nat} {x : X} {k q : Nat} {sb : Option Nat} {n : Int} {y : X} (hy : y = back x k q sb) {m : Nat} {ys : List { g : Nat // y.K g }} (hH : Held y.pm m ys) {rv' : Nat → Value} (h : Mv b w x w' (cutX y n (inl ys) rv')) : Mv b w x w' (crashed x k q sb n rv') := by
  subst hy
  have hin : ∀ g, (back x k q sb).K g → inl ys g = true := fun g hg => inl_mem (g := ⟨g, hg⟩) ((hH.2.1 ⟨g, hg⟩).2 hg)
  exact h.same (bs := (crashed x k q sb n rv').bs) (st := (crashed x k q sb n rv').st) (fun g hg => by have := hin g hg; simp [crashed, cutX, this]) (fun g hg => by have := hin g hg; simp [crashed, cutX, this])
theorem wi_k {n : Int} {m : Nat} : 0 ≤ wi n (m : Int) ∧ wi n (m : Int) ≤ m := wi_bd (by omega)

set_option linter.unusedSimpArgs false in
set_option maxRecDepth 100000 in
set_option maxHeartbeats 8000000 in
theorem crash_in (b : Nat) (x : X) (n by_ : Int) (w : World) (h : FW w b x) :
    CallsIn Fence.wide 9 Try.prog 28 #[.pointer (some ⟨b, 0, none⟩), .int .i64 n, .int .i64 by_] w fun e W' => e = .returned (.tuple #[]) ∧ ∃ q sb rv, Mv b w x W' (crashed x (wi n x.cs.length).toNat q sb by_ rv) := by
  have hal : Below w.heap.size w (w.alloc (.cells #[.int .i64 by_] 3)) := (Below.refl _ _).alloc (Nat.le_refl _) _
  have h1 := h.below hal
  have H : Hid (FW w b x) := h
  have hne : b ≠ w.heap.size := by have := tg_lt h.tb; omega
  have hbxc := (Boxed.new w 3 (.int .i64 by_))
  have HBX : Hid (Boxed (w.alloc (.cells #[.int .i64 by_] 3)) w.heap.size 3 (.int .i64 by_)) := hbxc
  have e5 := h1.fc.c5; have z5 := h1.fc.fz 5; have e6 := h1.fc.c6; have z6 := h1.fc.fz 6
  have HF1 : Hid (Fc (w.alloc (.cells #[.int .i64 by_] 3)) b x.room x.made (.map x.pb) (.map x.sb) x.cv x.fused x.left) := h1.fc
  have HAL : Hid (Below w.heap.size w (w.alloc (.cells #[.int .i64 by_] 3))) := hal
  clear h h1 hal hbxc
  refine callsIn_of_wp_marks Try.func28 rfl trivial ?_ rfl
  simp only [Try.ntmps28, List.size_toArray, List.length_cons, List.length_nil, Nat.reduceAdd, Nat.reduceSub, Array.replicate_succ, Array.replicate_zero, List.push_toArray, List.append_toArray, List.nil_append, List.cons_append]
  obtain ⟨ca, cc, hcv, hcle, _, hcl, hrc⟩ := own_rdC H.out.cw
  have hnn : ca = none → cc = 0 := by
    intro e0
    subst e0
    rcases H.out.cw.2 with ⟨h1, h2⟩ | ⟨g', cap, cur, h1, h2, h3, h4, h5, h6, h7⟩
    · rw [h1] at hcv; exact (Value.slice.inj hcv).2.2.symm
    · rw [h1] at hcv; cases (Value.slice.inj hcv).1
  have HNN : Hid (ca = none → cc = 0) := hnn
  obtain ⟨clen, hclen⟩ : ∃ clen, Hid (clen = x.cs.length) := ⟨_, rfl⟩
  rw [← hclen.out] at hcv hcle ⊢
  have hwk := wi_k (n := n) (m := clen)
  obtain ⟨k, hk⟩ : ∃ k : Nat, Hid (k = (wi n (clen : Int)).toNat) := ⟨_, rfl⟩
  rw [← hk.out]
  have HKI : Hid (wi n (clen : Int) = (k : Int)) := by show _ = _; rw [hk.out]; omega
  have hkl : k ≤ clen := by rw [hk.out]; omega
  have hHA : Kp (fun i => i = b) w (((w.alloc (.cells #[.int .i64 by_] 3)).setCell ⟨b, 5, none⟩ (.bool false)).setCell ⟨b, 6, none⟩ (.int .i64 0)) := ((Kp.of_below HAL.out).trans (kp_set _ b 5 _) (fun i e => .inl e)).trans (kp_set _ b 6 _) (fun i e => .inl e)
  have hFA := (HF1.out.set5 false).set6 0
  have hbxA : Boxed (((w.alloc (.cells #[.int .i64 by_] 3)).setCell ⟨b, 5, none⟩ (.bool false)).setCell ⟨b, 6, none⟩ (.int .i64 0)) w.heap.size 3 (.int .i64 by_) := (Below.heap_setCell _ _ _ _ (Ne.symm hne)).trans ((Below.heap_setCell _ _ _ _ (Ne.symm hne)).trans HBX.out)
  obtain ⟨WA, hWA⟩ : ∃ WA, Hid (WA = (((w.alloc (.cells #[.int .i64 by_] 3)).setCell ⟨b, 5, none⟩ (.bool false)).setCell ⟨b, 6, none⟩ (.int .i64 0))) := ⟨_, rfl⟩
  gi_wp2_with fail
  rw [← hWA.out] at hHA hFA hbxA ⊢
  have HA : Hid (Kp (fun i => i = b) w WA) := hHA
  have HFA : Hid (Fc WA b x.room x.made (.map x.pb) (.map x.sb) x.cv false 0) := hFA
  have HBA : Hid (Boxed WA w.heap.size 3 (.int .i64 by_)) := hbxA
  have HNE : Hid (∀ i, x.sb = some i → b ≠ i) := fun i e => tg_ne H.out.tb (H.out.ts e) (by decide)
  have hlt : b < WA.heap.size := (Array.getElem?_eq_some_iff.1 hFA.h).1
  have a3 := hFA.c3
  have a4 := hFA.c4
  rw [hcv] at a4
  have HSW : Hid (∀ W, Below WA.heap.size WA W → Mo W x.sb x.sn x.sm) := fun W hW => H.out.sw.kept (fun i e => (hW.block i (Nat.lt_of_lt_of_le (tg_lt (H.out.ts e)) HA.out.size)).trans (HA.out.block i (tg_lt (H.out.ts e)) (fun e' => HNE.out i e e'.symm)))
  have hout : Out (fun i => i = b) ca := fun ad had e => by
    have := H.out.tc (k := ad.block) (by rw [hcv, had]; rfl)
    exact tg_ne this H.out.tb (by decide) e
  have HRC : Hid (∀ W, Below WA.heap.size WA W → RdC W ca (x.cs.take k)) := fun W hW => ((hrc.kp HA.out hout).kp (P := fun _ => False) (Kp.of_below hW) (fun _ _ e => e)).take k
  have HCL : Hid ((x.cs.take k).length = k) := by show _ = _; rw [List.length_take, ← hclen.out]; omega
  have HOK : Hid (∀ c ∈ x.cs.take k, okCh c) := fun c hc => (H.out.ck c (List.mem_of_mem_take hc)).1
  have b2 := H.out.b2
  have b5 := H.out.b5
  have HNK : Hid (x.sn + k ≤ 4000000) := by show _ ≤ _; rw [← hclen.out] at b2; omega
  clear hHA hFA hbxA hout hrc hwk b2 b5 hnn e5 z5 e6 z6 hcl
  have HCV : Hid (x.cv = .slice ca clen cc) := hcv
  clear hcv
  refine wpIn_region_K (fun _ => trivial) rfl (fun m f args w R h => callsIn_wide.2 h) (by kernel_rfl) (by kernel_rfl) (by kernel_rfl)
    (fun L W => (L 17 = false → Below WA.heap.size WA W) ∧ (L 20 = false → Kp (fun i => x.sb = some i) WA W) ∧ (L 20 = true → ∃ q u, Dq WA x k q u ∧ W = u.setCell ⟨b, 2, none⟩ (.map (some q))))
    (TK 17 (fun v W => ∃ q, v = .map (some q) ∧ (x.sb = some q ∨ x.sb = none ∧ WA.heap.size ≤ q) ∧ Mp W q (x.sn + k) (chg x.sm (x.cs.take k))) [.pointer (some ⟨b, 0, none⟩), .pointer (some ⟨b, 0, none⟩), .pointer (some ⟨b, 0, none⟩), .pointer (some ⟨b, 3, none⟩), .map x.sb, .pointer (some ⟨b, 0, none⟩), .pointer (some ⟨b, 0, none⟩), .pointer (some ⟨b, 4, none⟩), .slice ca clen cc, .int .i64 n, .pointer (some ⟨b, 0, none⟩), .pointer (some ⟨b, 0, none⟩), .pointer (some ⟨b, 4, none⟩), .slice ca clen cc, .int .i64 (clen : Int), .int .i64 (k : Int), .slice ca k cc, undef, .pointer (some ⟨b, 0, none⟩), .pointer (some ⟨b, 2, none⟩), undef]) ⟨fun _ => (Below.refl _ _).drew, ⟨fun _ => Kp.of_below (Below.refl _ _).drew, fun h => by cases h⟩⟩ (allL_cons ?_ (allL_cons ?_ (allL_cons ?_ (allL_cons ?_ (allL_cons ?_ (allL_cons ?_ (allL_cons ?_ (allL_cons ?_ (allL_cons ?_ (allL_cons ?_ (allL_cons ?_ (allL_cons ?_ (allL_cons ?_ (allL_cons ?_ (allL_cons ?_ (allL_cons ?_ (allL_cons ?_ (allL_cons ?_ (allL_cons ?_ (allL_cons ?_ (allL_cons ?_ allL_nil))))))))))))))))))))) ?_
  · intro L a wx hS h
    have s0 : a.eval (.tmp 0) = .pointer (some ⟨b, 0, none⟩) := (h.fix 0 (by kernel_rfl)).trans rfl
    have t0 := (ev_tmp a 0).symm.trans s0
    rw [if_pos (wanted_none rfl)]
    refine does_val (v := .pointer (some ⟨b, 0, none⟩)) (w' := wx) ?_ ⟨rfl, hS, fun _ _ _ h => h⟩
    simp [execOp, go_sem, t0]
  · intro L a wx hS h
    have s0 : a.eval (.tmp 0) = .pointer (some ⟨b, 0, none⟩) := (h.fix 0 (by kernel_rfl)).trans rfl
    have t0 := (ev_tmp a 0).symm.trans s0
    rw [if_pos (wanted_none rfl)]
    refine does_val (v := .pointer (some ⟨b, 0, none⟩)) (w' := wx) ?_ ⟨rfl, hS, fun _ _ _ h => h⟩
    simp [execOp, go_sem, t0]
  · intro L a wx hS h
    have s16 : a.eval (.tmp 16) = .pointer (some ⟨b, 0, none⟩) := h.slot 0 1 16 rfl rfl
    have t16 := (ev_tmp a 16).symm.trans s16
    rw [if_pos (wanted_none rfl)]
    refine does_val (v := .pointer (some ⟨b, 0, none⟩)) (w' := wx) ?_ ⟨rfl, hS, fun _ _ _ h => h⟩
    simp [execOp, go_sem, t16]
  · intro L a wx hS h
    have s17 : a.eval (.tmp 17) = .pointer (some ⟨b, 0, none⟩) := h.slot 0 2 17 rfl rfl
    have t17 := (ev_tmp a 17).symm.trans s17
    rw [if_pos (wanted_none rfl)]
    refine does_val (v := .pointer (some ⟨b, 3, none⟩)) (w' := wx) ?_ ⟨rfl, hS, fun _ _ _ h => h⟩
    simp [execOp, go_sem, t17]
  · intro L a wx hS h
    have s18 : a.eval (.tmp 18) = .pointer (some ⟨b, 3, none⟩) := h.slot 0 3 18 rfl rfl
    have t18 := (ev_tmp a 18).symm.trans s18
    rw [if_pos (wanted_none rfl)]
    have d0 := ((hS.2.1 (h.off 20 (by kernel_rfl))).cell (p := ⟨b, 3, none⟩) hlt (fun e => HNE.out b e rfl)).trans a3
    refine does_val (v := .map x.sb) (w' := wx) ?_ ⟨rfl, hS, fun _ _ _ h => h⟩
    simp [execOp, go_sem, t18, d0]
  · intro L a wx hS h
    have s0 : a.eval (.tmp 0) = .pointer (some ⟨b, 0, none⟩) := (h.fix 0 (by kernel_rfl)).trans rfl
    have t0 := (ev_tmp a 0).symm.trans s0
    rw [if_pos (wanted_none rfl)]
    refine does_val (v := .pointer (some ⟨b, 0, none⟩)) (w' := wx) ?_ ⟨rfl, hS, fun _ _ _ h => h⟩
    simp [execOp, go_sem, t0]
  · intro L a wx hS h
    have s20 : a.eval (.tmp 20) = .pointer (some ⟨b, 0, none⟩) := h.slot 0 5 20 rfl rfl
    have t20 := (ev_tmp a 20).symm.trans s20
    rw [if_pos (wanted_none rfl)]
    refine does_val (v := .pointer (some ⟨b, 0, none⟩)) (w' := wx) ?_ ⟨rfl, hS, fun _ _ _ h => h⟩
    simp [execOp, go_sem, t20]
  · intro L a wx hS h
    have s21 : a.eval (.tmp 21) = .pointer (some ⟨b, 0, none⟩) := h.slot 0 6 21 rfl rfl
    have t21 := (ev_tmp a 21).symm.trans s21
    rw [if_pos (wanted_none rfl)]
    refine does_val (v := .pointer (some ⟨b, 4, none⟩)) (w' := wx) ?_ ⟨rfl, hS, fun _ _ _ h => h⟩
    simp [execOp, go_sem, t21]
  · intro L a wx hS h
    have s22 : a.eval (.tmp 22) = .pointer (some ⟨b, 4, none⟩) := h.slot 0 7 22 rfl rfl
    have t22 := (ev_tmp a 22).symm.trans s22
    rw [if_pos (wanted_none rfl)]
    have d0 := ((hS.2.1 (h.off 20 (by kernel_rfl))).cell (p := ⟨b, 4, none⟩) hlt (fun e => HNE.out b e rfl)).trans a4
    refine does_val (v := .slice ca clen cc) (w' := wx) ?_ ⟨rfl, hS, fun _ _ _ h => h⟩
    simp [execOp, go_sem, t22, d0]
  · intro L a wx hS h
    have s1 : a.eval (.tmp 1) = .int .i64 n := (h.fix 1 (by kernel_rfl)).trans rfl
    have t1 := (ev_tmp a 1).symm.trans s1
    rw [if_pos (wanted_none rfl)]
    refine does_val (v := .int .i64 n) (w' := wx) ?_ ⟨rfl, hS, fun _ _ _ h => h⟩
    simp [execOp, go_sem, t1]
  · intro L a wx hS h
    have s0 : a.eval (.tmp 0) = .pointer (some ⟨b, 0, none⟩) := (h.fix 0 (by kernel_rfl)).trans rfl
    have t0 := (ev_tmp a 0).symm.trans s0
    rw [if_pos (wanted_none rfl)]
    refine does_val (v := .pointer (some ⟨b, 0, none⟩)) (w' := wx) ?_ ⟨rfl, hS, fun _ _ _ h => h⟩
    simp [execOp, go_sem, t0]
  · intro L a wx hS h
    have s25 : a.eval (.tmp 25) = .pointer (some ⟨b, 0, none⟩) := h.slot 0 10 25 rfl rfl
    have t25 := (ev_tmp a 25).symm.trans s25
    rw [if_pos (wanted_none rfl)]
    refine does_val (v := .pointer (some ⟨b, 0, none⟩)) (w' := wx) ?_ ⟨rfl, hS, fun _ _ _ h => h⟩
    simp [execOp, go_sem, t25]
  · intro L a wx hS h
    have s26 : a.eval (.tmp 26) = .pointer (some ⟨b, 0, none⟩) := h.slot 0 11 26 rfl rfl
    have t26 := (ev_tmp a 26).symm.trans s26
    rw [if_pos (wanted_none rfl)]
    refine does_val (v := .pointer (some ⟨b, 4, none⟩)) (w' := wx) ?_ ⟨rfl, hS, fun _ _ _ h => h⟩
    simp [execOp, go_sem, t26]
  · intro L a wx hS h
    have s27 : a.eval (.tmp 27) = .pointer (some ⟨b, 4, none⟩) := h.slot 0 12 27 rfl rfl
    have t27 := (ev_tmp a 27).symm.trans s27
    rw [if_pos (wanted_none rfl)]
    have d0 := ((hS.2.1 (h.off 20 (by kernel_rfl))).cell (p := ⟨b, 4, none⟩) hlt (fun e => HNE.out b e rfl)).trans a4
    refine does_val (v := .slice ca clen cc) (w' := wx) ?_ ⟨rfl, hS, fun _ _ _ h => h⟩
    simp [execOp, go_sem, t27, d0]
  · intro L a wx hS h
    have s28 : a.eval (.tmp 28) = .slice ca clen cc := h.slot 0 13 28 rfl rfl
    have t28 := (ev_tmp a 28).symm.trans s28
    rw [if_pos (wanted_none rfl)]
    refine does_val (v := .int .i64 (clen : Int)) (w' := wx) ?_ ⟨rfl, hS, fun _ _ _ h => h⟩
    simp [execOp, go_sem, t28]
  · intro L a wx hS h
    have s24 : a.eval (.tmp 24) = .int .i64 n := h.slot 0 9 24 rfl rfl
    have t24 := (ev_tmp a 24).symm.trans s24
    have s29 : a.eval (.tmp 29) = .int .i64 (clen : Int) := h.slot 1 14 29 rfl rfl
    have t29 := (ev_tmp a 29).symm.trans s29
    rw [if_pos (wanted_none rfl)]
    refine does_call (f := 34) (args := #[.int .i64 n, .int .i64 (clen : Int)]) (w' := wx) (by simp [go_sem, t24, t29]) ?_
    refine (within_any _ _ _).mono ?_
    rintro r w' ⟨rfl, rfl⟩
    exact ⟨_, rfl, by rw [HKI.out]; rfl, hS, fun _ _ _ h => h⟩
  · intro L a wx hS h
    have s23 : a.eval (.tmp 23) = .slice ca clen cc := h.slot 0 8 23 rfl rfl
    have t23 := (ev_tmp a 23).symm.trans s23
    have s30 : a.eval (.tmp 30) = .int .i64 (k : Int) := h.slot 1 15 30 rfl rfl
    have t30 := (ev_tmp a 30).symm.trans s30
    rw [if_pos (wanted_none rfl)]
    refine does_val (v := .slice ca k cc) (w' := wx) ?_ ⟨rfl, hS, fun _ _ _ h => h⟩
    rcases ca with _ | ca
    · have hr0 : cc = 0 := HNN.out rfl
      have hc0 : k = 0 := by omega
      simp [execOp, go_sem, t23, t30, hc0, hr0]
    · simp [execOp, go_sem, t23, t30]
      omega
  · intro L a wx hS h
    have s19 : a.eval (.tmp 19) = .map x.sb := h.slot 0 4 19 rfl rfl
    have t19 := (ev_tmp a 19).symm.trans s19
    have s31 : a.eval (.tmp 31) = .slice ca k cc := h.slot 1 16 31 rfl rfl
    have t31 := (ev_tmp a 31).symm.trans s31
    rw [if_pos (wanted_none rfl)]
    have hR := hS.1 h.un
    refine does_call (f := 55) (args := #[.map x.sb, .slice ca k cc]) (w' := wx) (by simp [go_sem, t19, t31]) ?_
    refine (done_any x.sb x.sn x.sm ca k cc (x.cs.take k) wx (HSW.out wx hR) HCL.out (HRC.out wx hR) HOK.out HNK.out).mono ?_
    rintro r w' ⟨q, rfl, hq, hM, hK⟩
    have hD : Dq WA x k q w' := ⟨hq.imp id (fun e => ⟨e.1, by rw [e.2]; exact hR.size⟩), hM, (Kp.of_below (P := fun i => x.sb = some i) hR).trans hK (fun _ e => .inl e)⟩
    exact ⟨_, rfl, ⟨q, rfl, hD.1, hD.2.1⟩, ⟨fun h0 => by simp [updL] at h0, fun _ => hD.2.2, fun h0 => by have := h.off 20 (by kernel_rfl); simp [updL, this] at h0⟩, fun j u hj hT => tk_stab (fun e => by subst e; rw [h.un] at hj; cases hj) hT⟩
  · intro L a wx hS h
    have s15 : a.eval (.tmp 15) = .pointer (some ⟨b, 0, none⟩) := h.slot 0 0 15 rfl rfl
    have t15 := (ev_tmp a 15).symm.trans s15
    rw [if_pos (wanted_none rfl)]
    refine does_val (v := .pointer (some ⟨b, 0, none⟩)) (w' := wx) ?_ ⟨rfl, hS, fun _ _ _ h => h⟩
    simp [execOp, go_sem, t15]
  · intro L a wx hS h
    have s33 : a.eval (.tmp 33) = .pointer (some ⟨b, 0, none⟩) := h.slot 0 18 33 rfl rfl
    have t33 := (ev_tmp a 33).symm.trans s33
    rw [if_pos (wanted_none rfl)]
    refine does_val (v := .pointer (some ⟨b, 2, none⟩)) (w' := wx) ?_ ⟨rfl, hS, fun _ _ _ h => h⟩
    simp [execOp, go_sem, t33]
  · intro L a wx hS h
    have s34 : a.eval (.tmp 34) = .pointer (some ⟨b, 2, none⟩) := h.slot 0 19 34 rfl rfl
    have t34 := (ev_tmp a 34).symm.trans s34
    rw [if_pos (wanted_none rfl)]
    obtain ⟨q, e32, hq1, hMq⟩ : ∃ q, a.eval (.tmp 32) = .map (some q) ∧ (x.sb = some q ∨ x.sb = none ∧ WA.heap.size ≤ q) ∧ Mp wx q (x.sn + k) (chg x.sm (x.cs.take k)) := h.slot 1 17 32 rfl rfl
    have t32 := (ev_tmp a 32).symm.trans e32
    have hl17 := h.on 1 17 rfl
    have hD : Dq WA x k q wx := ⟨hq1, hMq, hS.2.1 h.un⟩
    have hF := HFA.out.kept (hD.2.2.block b hlt (fun e => HNE.out b e rfl))
    have d0 := hF.c2
    have d1 := hF.fz 2
    refine does_skip (w' := wx.setCell ⟨b, 2, none⟩ (.map (some q))) ?_ ⟨rfl, ⟨fun h0 => by simp [updL, hl17] at h0, fun h0 => by simp [updL] at h0, fun _ => ⟨q, wx, hD, rfl⟩⟩, fun j u hj hT => tk_stab (fun _ ⟨q', h1, h3, h2⟩ => ⟨q', h1, h3, h2.kept (Below.heap_setCell _ _ _ _ (tg_ne h2.tg (show tg wx b = some 68 by simp [tg, hF.h]) (by decide)))⟩) hT⟩
    simp [execOp, go_sem, t34, t32, d0, d1]
  intro a u L hS hall hts hd hdone hfree
  have hS := hS.2.2 (hall 20 (by decide))
  obtain ⟨x15, ex15⟩ : ∃ x, a.eval (.tmp 15) = x := ⟨_, rfl⟩
  obtain ⟨x16, ex16⟩ : ∃ x, a.eval (.tmp 16) = x := ⟨_, rfl⟩
  obtain ⟨x17, ex17⟩ : ∃ x, a.eval (.tmp 17) = x := ⟨_, rfl⟩
  obtain ⟨x18, ex18⟩ : ∃ x, a.eval (.tmp 18) = x := ⟨_, rfl⟩
  obtain ⟨x19, ex19⟩ : ∃ x, a.eval (.tmp 19) = x := ⟨_, rfl⟩
  obtain ⟨x20, ex20⟩ : ∃ x, a.eval (.tmp 20) = x := ⟨_, rfl⟩
  obtain ⟨x21, ex21⟩ : ∃ x, a.eval (.tmp 21) = x := ⟨_, rfl⟩
  obtain ⟨x22, ex22⟩ : ∃ x, a.eval (.tmp 22) = x := ⟨_, rfl⟩
  obtain ⟨x23, ex23⟩ : ∃ x, a.eval (.tmp 23) = x := ⟨_, rfl⟩
  obtain ⟨x24, ex24⟩ : ∃ x, a.eval (.tmp 24) = x := ⟨_, rfl⟩
  obtain ⟨x25, ex25⟩ : ∃ x, a.eval (.tmp 25) = x := ⟨_, rfl⟩
  obtain ⟨x26, ex26⟩ : ∃ x, a.eval (.tmp 26) = x := ⟨_, rfl⟩
  obtain ⟨x27, ex27⟩ : ∃ x, a.eval (.tmp 27) = x := ⟨_, rfl⟩
  obtain ⟨x28, ex28⟩ : ∃ x, a.eval (.tmp 28) = x := ⟨_, rfl⟩
  obtain ⟨x29, ex29⟩ : ∃ x, a.eval (.tmp 29) = x := ⟨_, rfl⟩
  obtain ⟨x30, ex30⟩ : ∃ x, a.eval (.tmp 30) = x := ⟨_, rfl⟩
  obtain ⟨x31, ex31⟩ : ∃ x, a.eval (.tmp 31) = x := ⟨_, rfl⟩
  obtain ⟨x32, ex32⟩ : ∃ x, a.eval (.tmp 32) = x := ⟨_, rfl⟩
  obtain ⟨x33, ex33⟩ : ∃ x, a.eval (.tmp 33) = x := ⟨_, rfl⟩
  obtain ⟨x34, ex34⟩ : ∃ x, a.eval (.tmp 34) = x := ⟨_, rfl⟩
  have hact := act_puts hts hd hfree
  simp only [putAll, List.foldl_cons, List.foldl_nil, ex15, ex16, ex17, ex18, ex19, ex20, ex21, ex22, ex23, ex24, ex25, ex26, ex27, ex28, ex29, ex30, ex31, ex32, ex33, ex34, Act.put] at hact
  simp at hact
  clear ex15 ex16 ex17 ex18 ex19 ex20 ex21 ex22 ex23 ex24 ex25 ex26 ex27 ex28 ex29 ex30 ex31 ex32 ex33 ex34 hts hd hdone hfree hall
  subst hact
  obtain ⟨q, u, hD, rfl⟩ := hS
  have hFu := HFA.out.kept (hD.2.2.block b hlt (fun e => HNE.out b e rfl))
  have hF2 := hFu.set2 (.map (some q))
  have hqb : q ≠ b := tg_ne hD.2.1.tg (show tg u b = some 68 by simp [tg, hFu.h]) (by decide)
  have HF2 : Hid (Fc (u.setCell ⟨b, 2, none⟩ (.map (some q))) b x.room x.made (.map (some q)) (.map x.sb) x.cv false 0) := hF2
  have HM2 : Hid (Mo (u.setCell ⟨b, 2, none⟩ (.map (some q))) (some q) (x.sn + k) (chg x.sm (x.cs.take k))) := Mp.kept hD.2.1 (Below.heap_setCell u ⟨b, 2, none⟩ _ q hqb)
  have HD : Hid (Dq WA x k q u) := hD
  have hbu : Boxed u w.heap.size 3 (.int .i64 by_) := (hD.2.2.block w.heap.size HBA.out.lt (fun e => by have := tg_lt (H.out.ts e); omega)).trans HBA.out
  have HBU : Hid (Boxed u w.heap.size 3 (.int .i64 by_)) := hbu
  clear hD hFu hF2 hbu
  gi_wp2_with (refine ⟨trivial, ?_⟩; gi_at_call 54; refine (callsIn_wide.2 (settle_raw b _ _ (some q) _ _ _ _ (x.sn + k) _ _ HF2.out HM2.out)).mono ?_; rintro e w3 ⟨rfl, w1, sb, hw3, hM1, hb1, hs⟩
               have HMID : Hid (Mv b w x w3 (back x k q sb)) := (by rw [hw3]; exact crash_mid H.out HA.out HFA.out HD.out.1 (by rw [← hclen.out]; exact hkl) HD.out.2.1 HD.out.2.2 hM1 hb1 hs)
               have HB3 : Hid (Boxed w3 w.heap.size 3 (.int .i64 by_)) := (by
                 rw [hw3]
                 have h1 : Boxed (u.setCell ⟨b, 2, none⟩ (.map (some q))) w.heap.size 3 (.int .i64 by_) := (Below.heap_setCell _ _ _ _ (Ne.symm hne)).trans HBU.out
                 exact (Below.heap_setCell _ _ _ _ (Ne.symm hne)).trans ((Below.heap_setCell _ _ _ _ (Ne.symm hne)).trans ((hb1.block _ h1.lt).trans h1)))
               clear hw3 hM1 hb1 hs)
  gi_wp2_with (refine ⟨trivial, ?_⟩; gi_at_call 48; refine (callsIn_wide.2 (held_any _ _)).mono ?_; rintro e w4 ⟨rfl, rfl⟩)
  have hal : Below w3.heap.size w3 (w3.alloc (.cells #[.pointer (some ⟨b, 0, none⟩)] 24)) := (Below.refl _ _).alloc (Nat.le_refl _) _
  have hmv := Mv.below HMID.out.fw hal
  have hbf : Boxed (w3.alloc (.cells #[.pointer (some ⟨b, 0, none⟩)] 24)) w3.heap.size 24 (.pointer (some ⟨b, 0, none⟩)) := Boxed.new w3 24 _
  have hbx4 : Boxed (w3.alloc (.cells #[.pointer (some ⟨b, 0, none⟩)] 24)) w.heap.size 3 (.int .i64 by_) := HB3.out.alloc _
  obtain ⟨W4, hW4⟩ : ∃ W4, W4 = (w3.alloc (.cells #[.pointer (some ⟨b, 0, none⟩)] 24)) := ⟨_, rfl⟩
  rw [← hW4] at hal hmv hbf hbx4 ⊢
  clear hW4
  have HMV : Hid (Mv b w x W4 (back x k q sb)) := HMID.out.trans hmv
  obtain ⟨y, hy⟩ : ∃ y, Hid (y = back x k q sb) := ⟨_, rfl⟩
  have hfy : FW W4 b y := by rw [hy.out]; exact hmv.fw
  have HY : Hid (FW W4 b y) := hfy
  have hszw : w.heap.size < W4.heap.size := hbx4.lt
  refine wpIn_rangeFunc_ownG_of_H rfl (by decide) (gf := 64) (lb := #[.pointer (some ⟨w3.heap.size, 0, none⟩)]) rfl trivial (enters_of Try.func64 (by kernel_rfl) rfl)
    (held_stops 8 w3.heap.size b y W4 hfy hbf.cell hbf.lt) Kh.trans
    (fun W l o o' hl hk _ hw => ⟨KeepsWalks.putObj o' hk hw, fun g hg => World.cell?_of_block (w := W) (World.putObj_heap_other (by have := tg_lt (HY.out.tf hg); show g ≠ l; omega))⟩)
    (Below.refl _ _) (fun _ => rfl) (fun ys W => Cr b W4 y by_ ys W ∧ Boxed W w.heap.size 3 (.int .i64 by_)) (fun _ _ _ => False)
    (fun ys W W' row hI hg hrow => ⟨Cr.own HY.out (Nat.le_refl _) ys W W' row hI.1 hg hrow, hI.2.kept hg (fun e => by have := (hrow _ e.symm).1; omega)⟩) (fun _ _ _ _ _ h _ _ => h)
    ⟨⟨y.rv, by show Mv b W4 y W4 (cutX y by_ (fun _ => false) y.rv); rw [cutX_none]; exact Mv.refl hfy⟩, hbx4⟩
    (fun g => { tmps := #[.pointer (some ⟨b, 0, none⟩), .int .i64 n, .int .i64 by_, undef, undef, .pointer (some ⟨w.heap.size, 0, none⟩), .pointer (some ⟨g.1, 0, none⟩), .pointer (some ⟨b, 0, none⟩), .bool false, .pointer (some ⟨b, 0, none⟩), .pointer (some ⟨b, 0, none⟩), .pointer (some ⟨b, 0, none⟩), .pointer (some ⟨b, 5, none⟩), .pointer (some ⟨b, 0, none⟩), .pointer (some ⟨b, 6, none⟩), x15, x16, x17, x18, x19, x20, x21, x22, x23, x24, x25, x26, x27, x28, x29, x30, x31, x32, x33, x34, .pointer (some ⟨b, 0, none⟩), .tuple #[], .pointer (some ⟨b, 0, none⟩), .func (.func 64) #[] #[.pointer (some ⟨w3.heap.size, 0, none⟩)], .pointer (some ⟨g.1, 0, none⟩), undef, undef, undef], defers := [] })
    ?assign ?body ?done ?stop (fun W => ⟨KeepsWalks.refl _, fun _ _ => rfl⟩)
  case assign =>
    intro l g W K hK
    dsimp only [encH]
    gi_wp2
    exact hK
  case body =>
    rintro l pre g W ⟨⟨rv, hM⟩, hBx⟩ hlt2
    have cB := hBx.cell
    have hgg : (cutX y by_ (inl pre) rv).K g.1 := g.2
    have HM : Hid (Mv b W4 y W (cutX y by_ (inl pre) rv)) := hM
    have HBx : Hid (Boxed W w.heap.size 3 (.int .i64 by_)) := hBx
    have HC : Hid _ := fcrash_any b (cutX y by_ (inl pre) rv) g.1 by_ W hM.fw hgg
    clear hM hBx hgg
    gi_wp2_with (refine ⟨trivial, ?_⟩; gi_at_call 56; refine (CallsIn.inRound l (callsIn_wide.2 HC.out)).mono ?_; rintro e W' ⟨rfl, v, hM', hK'⟩; have HM' : Hid _ := hM'; have HK' : Hid _ := hK'; clear hM' hK')
    have hko : KeepsOthers W W' := ⟨HK'.out.size, fun i o hi ho => (HK'.out.block i (Array.getElem?_eq_some_iff.1 hi).1 (fun e => by
      subst e
      have := tg_cells (HM.out.fw.tf (g := g.1) g.2) hi
      rw [this] at ho; cases ho)).trans hi⟩
    refine ⟨hko.from _, ⟨hko.walks, fun g' hg' => ?_⟩, ⟨fun i => if i = g.1 then v else rv i, ?_⟩, ?_⟩
    · have n1 := (HM.out.fw.cells (g := g') hg').1
      have n2 := (HM'.out.fw.cells (g := g') hg').1
      rw [n1, n2]; rfl
    · rw [inl_snoc, ← cutX_step y by_ (inl pre) rv g.1 v (by have := HY.out.fl.st0 g.1 g.2; exact ⟨this.1, this.2.1⟩)]
      exact HM.out.trans HM'.out
    · exact (HK'.out.block _ HBx.out.lt (fun e => by have := tg_lt (HMID.out.fw.tf (g := g.1) (by rw [← show y = back x k q sb from hy.out]; exact g.2)); have h2 := HBA.out.lt; exact absurd e (by
        intro e'
        have t1 := HM.out.fw.tf (g := g.1) g.2
        have t2 : tg W w.heap.size = some 4 := by unfold tg; rw [show W.heap[w.heap.size]? = _ from HBx.out]
        exact tg_ne t2 t1 (by decide) e'))).trans HBx.out
  case done =>
    rintro D ys W hD hH ⟨⟨rv, hM⟩, hBx⟩ hK
    have HM : Hid (Mv b W4 y W (cutX y by_ (inl ys) rv)) := hM
    have HH : Hid (Held y.pm y.pn ys) := hH
    have HD2 : Hid (W.heap[D]? = some (.deferred (some []))) := hK
    clear hM hH hK hBx
    gi_wp2_with fail
    refine ⟨by simp, .inl ⟨_, _, rfl, run_takeDeferred HD2.out, ?_⟩⟩
    obtain ⟨rv', hM'⟩ := Cr.own HY.out (Nat.le_refl _) ys W _ (some D) ⟨rv, HM.out⟩ (grownBy_putObj' W D (.deferred none)) (fun r e => by cases e; exact ⟨hD, _, HD2.out, rfl⟩)
    have h1 := HMV.out
    rw [← hy.out] at h1
    have hfin : Mv b w x (W.putObj D (.deferred none)) (crashed x k q sb by_ rv') := crashed_of hy.out HH.out (h1.trans hM')
    exact ⟨.tuple #[], by simp [results, Try.results28, go_sem], rfl, q, sb, rv', hfin⟩
  case stop =>
    intro D c pre W hD _ hF _
    exact hF.elim
theorem crash_any (b : Nat) (x : X) (n by_ : Int) (w : World) (h : FW w b x) :
    Calls Try.prog 28 #[.pointer (some ⟨b, 0, none⟩), .int .i64 n, .int .i64 by_] w fun e W' => e = .returned (.tuple #[]) ∧ ∃ q sb rv, Mv b w x W' (crashed x (wi n x.cs.length).toNat q sb by_ rv) :=
  (callsIn_wide (n := 9)).1 (crash_in b x n by_ w h)
end Go.Proofs.Ytkipcblbadkjnaa
