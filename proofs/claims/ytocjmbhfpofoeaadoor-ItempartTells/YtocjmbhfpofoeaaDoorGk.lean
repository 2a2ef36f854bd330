/- The iterator of a part's blocks. Conditions: sizes. -/
import Derived.Test.YtocjmbhfpofoeaaDoorGp
namespace Go.Proofs.YtocjmbhfpofoeaaDoor
open Go.RowKit Go.Shelf
attribute [local go_sem] Oper.semAt_some

def Ceq (x : Value) : Value → World → Prop := fun v _ => v = x
def TL (ks : List (Value → World → Prop)) (j : Nat) (v : Value) (w : World) : Prop := (ks.getD j (fun _ _ => True)) v w
theorem tl_stab {ks : List (Value → World → Prop)} {w w' : World} (h : ∀ k ∈ ks, ∀ v, k v w → k v w') {j : Nat} {v : Value} (hT : TL ks j v w) : TL ks j v w' := by
  unfold TL at *
  rcases Nat.lt_or_ge j ks.length with hj | hj
  · have e : ks.getD j (fun _ _ => True) = ks[j] := by simp [List.getD, hj]
    rw [e] at hT ⊢
    exact h _ (List.getElem_mem hj) v hT
  · have e : ks.getD j (fun _ _ => True) = (fun _ _ => True) := by simp [List.getD, hj]
    rw [e]; trivial

theorem from_it (po : Option Addr) (ax : Option Addr) (nx cx : Nat) (w : World) :
    Calls Tryd.prog 38 #[.pointer po, .slice ax nx cx] w fun e w' => e = .returned (.func (.func 56) #[] #[.pointer (some ⟨w.heap.size, 0, none⟩), .pointer (some ⟨w.heap.size + 1, 0, none⟩)]) ∧ w' = (w.alloc (.cells #[.pointer po] 29)).alloc (.cells #[.slice ax nx cx] 23) := by
  have hmf : ∀ (fn : Fn) (first cap : Array Value) (w : World), (Instr.makeFunc fn first cap).run Tryd.prog w = .ok (.func fn first cap) w := fun _ _ _ _ => rfl
  go_enter Tryd.func38, Tryd.ntmps38
  go_wp2
  go_ret
  exact ⟨rfl, rfl⟩

/-- What an iterator over a part keeps. -/
def Kf (n0 B : Nat) (U V : World) : Prop := Below n0 U V ∧ V.heap[B]? = U.heap[B]? ∧ V.heap[B + 1]? = U.heap[B + 1]?

set_option linter.unusedSimpArgs false in
set_option maxRecDepth 100000 in
set_option maxHeartbeats 8000000 in
theorem from_in (n B p : Nat) (ax : Option Addr) (nx cx : Nat) (x : List Int) (L : List (List Int)) (wp w : World) (hB : w.heap.size = B + 2) (hn0 : wp.heap.size ≤ B) (hbel : Below wp.heap.size wp w)
    (hP : PtI wp p L) (hX : IsI .u8 wp ax nx cx x) (hbx : Bytes x) (h1 : Boxed w B 29 (.pointer (some ⟨p, 0, none⟩))) (h2 : Boxed w (B + 1) 23 (.slice ax nx cx)) :
    SeqB B 29 (fun (y : Bk) _ => IsR wp y.a y.n y.c y.L ∧ WfR y.L ∧ chk y.L = 0) n Tryd.prog 56 #[.pointer (some ⟨B, 0, none⟩), .pointer (some ⟨B + 1, 0, none⟩)] encB (Kf wp.heap.size B)
      (fun xs => ∃ r, Plc (hs 0 (ch L)) x r ∧ xs.map (·.L) = (ch L).drop (r - 1)) (fun pre => ∃ r t, Plc (hs 0 (ch L)) x r ∧ pre.map (·.L) ++ t = (ch L).drop (r - 1)) w := by
  intro l J Jx W1 hW hJ hJx hY h0
  obtain ⟨ah, mh, ch', ab, mb, cb, p0, p1, hIH, hIB⟩ := hP.mem
  have hpl0 : p < wp.heap.size := World.block_lt_of_cell? wp _ p0
  have bW : Below wp.heap.size wp W1 := hbel.trans (hW.mono (by omega))
  have hmb : (ch L).length = mb := hIB.hl
  have hcl := ch_le hP.ok
  have hmh : mh = mb := by have := hIH.hl; rw [hs_len] at this; omega
  have hz3 := chkF_zero hP.ok
  have hrz := good_rz hz3.2.2
  have hwfH : WfH (hs 0 (ch L)) := hs_wf (ch_chk_mem hP.ok) (ch_wf hP.wf) (by omega)
  obtain ⟨gb, ob, rfl, hgb, hcells⟩ : ∃ gb ob, ab = some ⟨gb, ob, none⟩ ∧ gb < wp.heap.size ∧ ∀ i, i < mb → ∃ ai ni ci, wp.cell? ⟨gb, ob + i, none⟩ = some (.slice ai ni ci) ∧ IsR wp ai ni ci ((ch L).getD i []) := by
    rcases hIB.rd with e | ⟨b, o, e1, e2, e3⟩
    · rw [e] at hmb; simp at hmb; rw [e] at hcl; simp at hcl
    · exact ⟨b, o, e1, e2, fun i hi => e3 i (by omega)⟩
  -- the place, one way or another
  obtain ⟨r0, hr0, hr0m⟩ : ∃ r0, (∀ r, Plc (hs 0 (ch L)) x r → r = r0) ∧ r0 ≤ mb := by
    by_cases h : ∃ r, Plc (hs 0 (ch L)) x r
    · obtain ⟨r, hr⟩ := h
      refine ⟨r, fun r' h' => plc_uniq hrz h' hr, ?_⟩
      have := hr.1
      rw [hs_len] at this; omega
    · exact ⟨0, fun r h' => absurd ⟨r, h'⟩ h, Nat.zero_le _⟩
  obtain ⟨r1, hr1⟩ : ∃ r1, r1 = r0 - 1 := ⟨_, rfl⟩
  have HPl0 : ∀ wx, Below W1.heap.size W1 wx → Calls Tryd.prog 57 #[.pointer (some ⟨p, 0, none⟩), .slice ax nx cx] wx fun e w' => (e = .returned (.int .i64 (r1 : Int)) ∧ Plc (hs 0 (ch L)) x r0) ∧ Below wx.heap.size wx w' := fun wx hx => by
    have bx := bW.trans (hx.mono bW.size)
    refine (place_of p ah mh ch' (hs 0 (ch L)) hwfH ax nx cx x wx (by omega) (hIH.below bx) (hX.below bx) hbx ((bx.cell (p := ⟨p, 0, none⟩) hpl0).trans p0)).mono ?_
    rintro e w' ⟨⟨r, rfl, hpr⟩, hb⟩
    have e0 := hr0 r hpr
    subst e0
    exact ⟨⟨by rw [hr1], hpr⟩, hb⟩
  have hHY := (show Hid _ from hY)
  have HJ : Hid (AbJ B 29 J) := hJ
  have hpl : p < W1.heap.size := Nat.lt_of_lt_of_le hpl0 bW.size
  have hW1 := hW.size
  have hBl : B < W1.heap.size := by omega
  have hB1l : B + 1 < W1.heap.size := by omega
  have cB : W1.cell? ⟨B, 0, none⟩ = some (.pointer (some ⟨p, 0, none⟩)) := (hW.cell (p := ⟨B, 0, none⟩) (by show B < w.heap.size; omega)).trans h1.cell
  have cB1 : W1.cell? ⟨B + 1, 0, none⟩ = some (.slice ax nx cx) := (hW.cell (p := ⟨B + 1, 0, none⟩) (by show B + 1 < w.heap.size; omega)).trans h2.cell
  have cp1 : W1.cell? ⟨p, 1, none⟩ = some (.slice (some ⟨gb, ob, none⟩) mb cb) := (bW.cell (p := ⟨p, 1, none⟩) hpl0).trans p1
  have HQ : Hid (J [] W1 ∧ Below wp.heap.size wp W1 ∧ (∀ i, i < mb → ∃ ai ni ci, wp.cell? ⟨gb, ob + i, none⟩ = some (.slice ai ni ci) ∧ IsR wp ai ni ci ((ch L).getD i [])) ∧ WfR L ∧ (ch L).length = mb ∧ r1 = r0 - 1 ∧ chkF L = 0) := ⟨h0, bW, hcells, hP.wf, hmb, hr1, hP.ok⟩
  have hcbm := hIB.hm
  have hcb := hIB.hc
  have hmbl : mb ≤ 250 := by omega
  have hmb1 : 1 ≤ mb := by omega
  have hHP : Hid (∀ wx, Below W1.heap.size W1 wx → Calls Tryd.prog 57 #[.pointer (some ⟨p, 0, none⟩), .slice ax nx cx] wx fun e w' => (e = .returned (.int .i64 (r1 : Int)) ∧ Plc (hs 0 (ch L)) x r0) ∧ Below wx.heap.size wx w') := HPl0
  unfold maxLen at hcbm
  have hr1m : r1 < mb := by omega
  have hr1a : (r1 : Int) ≤ (mb : Int) := by omega
  have hr1b : ¬ cb = r1 := by omega
  have hr1c : (mb : Int) - (r1 : Int) = ((mb - r1 : Nat) : Int) := by omega
  clear hIH hIB hP hX hbx h1 h2 hcells HPl0 hr0 hY hJ hJx h0 p0 p1 hwfH hcl hz3 bW hr1 hW hmb hmh hr0m
  refine callsIn_of_wp Tryd.func56 rfl trivial ?_ rfl
  simp only [Tryd.ntmps56, List.size_toArray, List.length_cons, List.length_nil, Nat.reduceAdd, Nat.reduceSub, Array.replicate_succ, Array.replicate_zero, List.push_toArray, List.append_toArray, List.nil_append, List.cons_append]
  gi_wp2_with fail
  refine wpIn_region_K (fun _ => trivial) rfl (fun m f args w R h => callsIn_wide.2 h) (by kernel_rfl) (by kernel_rfl) (by kernel_rfl) (fun _ U => Below W1.heap.size W1 U) (TL [Ceq (.pointer (some ⟨p, 0, none⟩)), Ceq (.pointer (some ⟨p, 0, none⟩)), Ceq (.pointer (some ⟨p, 1, none⟩)), Ceq (.slice (some ⟨gb, ob, none⟩) mb cb), Ceq (.pointer (some ⟨p, 0, none⟩)), Ceq (.pointer (some ⟨p, 0, none⟩)), Ceq (.pointer (some ⟨p, 0, none⟩)), Ceq (.slice ax nx cx), (fun v _ => v = .int .i64 (r1 : Int) ∧ Plc (hs 0 (ch L)) x r0), Ceq (.slice (some ⟨gb, ob + r1, none⟩) (mb - r1) (cb - r1)), Ceq (.int .i64 ((mb - r1 : Nat) : Int)), Ceq (.int .i64 0)]) (Below.refl _ _).drew (allL_cons ?_ (allL_cons ?_ (allL_cons ?_ (allL_cons ?_ (allL_cons ?_ (allL_cons ?_ (allL_cons ?_ (allL_cons ?_ (allL_cons ?_ (allL_cons ?_ (allL_cons ?_ (allL_cons ?_ allL_nil)))))))))))) ?_
  · intro Lq a wx hS h
    have s1 : a.eval (.tmp 1) = .pointer (some ⟨B, 0, none⟩) := (h.fix 1 (by kernel_rfl)).trans rfl
    have t1 := (ev_tmp a 1).symm.trans s1
    rw [if_pos (wanted_none rfl)]
    have d0 := (hS.cell (p := ⟨B, 0, none⟩) hBl).trans cB
    refine does_val (v := .pointer (some ⟨p, 0, none⟩)) (w' := wx) ?_ ⟨rfl, hS, fun _ _ _ h => h⟩
    simp [execOp, go_sem, t1, d0]
  · intro Lq a wx hS h
    have s8 : a.eval (.tmp 8) = .pointer (some ⟨p, 0, none⟩) := h.slot 0 0 8 rfl rfl
    have t8 := (ev_tmp a 8).symm.trans s8
    rw [if_pos (wanted_none rfl)]
    refine does_val (v := .pointer (some ⟨p, 0, none⟩)) (w' := wx) ?_ ⟨rfl, hS, fun _ _ _ h => h⟩
    simp [execOp, go_sem, t8]
  · intro Lq a wx hS h
    have s9 : a.eval (.tmp 9) = .pointer (some ⟨p, 0, none⟩) := h.slot 0 1 9 rfl rfl
    have t9 := (ev_tmp a 9).symm.trans s9
    rw [if_pos (wanted_none rfl)]
    refine does_val (v := .pointer (some ⟨p, 1, none⟩)) (w' := wx) ?_ ⟨rfl, hS, fun _ _ _ h => h⟩
    simp [execOp, go_sem, t9]
  · intro Lq a wx hS h
    have s10 : a.eval (.tmp 10) = .pointer (some ⟨p, 1, none⟩) := h.slot 0 2 10 rfl rfl
    have t10 := (ev_tmp a 10).symm.trans s10
    rw [if_pos (wanted_none rfl)]
    have d0 := (hS.cell (p := ⟨p, 1, none⟩) hpl).trans cp1
    refine does_val (v := .slice (some ⟨gb, ob, none⟩) mb cb) (w' := wx) ?_ ⟨rfl, hS, fun _ _ _ h => h⟩
    simp [execOp, go_sem, t10, d0]
  · intro Lq a wx hS h
    have s1 : a.eval (.tmp 1) = .pointer (some ⟨B, 0, none⟩) := (h.fix 1 (by kernel_rfl)).trans rfl
    have t1 := (ev_tmp a 1).symm.trans s1
    rw [if_pos (wanted_none rfl)]
    have d0 := (hS.cell (p := ⟨B, 0, none⟩) hBl).trans cB
    refine does_val (v := .pointer (some ⟨p, 0, none⟩)) (w' := wx) ?_ ⟨rfl, hS, fun _ _ _ h => h⟩
    simp [execOp, go_sem, t1, d0]
  · intro Lq a wx hS h
    have s12 : a.eval (.tmp 12) = .pointer (some ⟨p, 0, none⟩) := h.slot 0 4 12 rfl rfl
    have t12 := (ev_tmp a 12).symm.trans s12
    rw [if_pos (wanted_none rfl)]
    refine does_val (v := .pointer (some ⟨p, 0, none⟩)) (w' := wx) ?_ ⟨rfl, hS, fun _ _ _ h => h⟩
    simp [execOp, go_sem, t12]
  · intro Lq a wx hS h
    have s13 : a.eval (.tmp 13) = .pointer (some ⟨p, 0, none⟩) := h.slot 0 5 13 rfl rfl
    have t13 := (ev_tmp a 13).symm.trans s13
    rw [if_pos (wanted_none rfl)]
    refine does_val (v := .pointer (some ⟨p, 0, none⟩)) (w' := wx) ?_ ⟨rfl, hS, fun _ _ _ h => h⟩
    simp [execOp, go_sem, t13]
  · intro Lq a wx hS h
    have s2 : a.eval (.tmp 2) = .pointer (some ⟨B + 1, 0, none⟩) := (h.fix 2 (by kernel_rfl)).trans rfl
    have t2 := (ev_tmp a 2).symm.trans s2
    rw [if_pos (wanted_none rfl)]
    have d0 := (hS.cell (p := ⟨B + 1, 0, none⟩) hB1l).trans cB1
    refine does_val (v := .slice ax nx cx) (w' := wx) ?_ ⟨rfl, hS, fun _ _ _ h => h⟩
    simp [execOp, go_sem, t2, d0]
  · intro Lq a wx hS h
    have s14 : a.eval (.tmp 14) = .pointer (some ⟨p, 0, none⟩) := h.slot 0 6 14 rfl rfl
    have t14 := (ev_tmp a 14).symm.trans s14
    have s15 : a.eval (.tmp 15) = .slice ax nx cx := h.slot 1 7 15 rfl rfl
    have t15 := (ev_tmp a 15).symm.trans s15
    rw [if_pos (wanted_none rfl)]
    refine does_call (f := 57) (args := #[.pointer (some ⟨p, 0, none⟩), .slice ax nx cx]) (w' := wx) (by simp [go_sem, t14, t15]) ?_
    refine (hHP.out wx hS).mono ?_
    rintro r' w' ⟨⟨rfl, hpr⟩, hb'⟩
    exact ⟨_, rfl, ⟨rfl, hpr⟩, hS.trans (hb'.mono hS.size), fun j u hj hT => tl_stab (w := wx) (w' := w') (List.forall_mem_cons.2 ⟨fun _ h => h, (List.forall_mem_cons.2 ⟨fun _ h => h, (List.forall_mem_cons.2 ⟨fun _ h => h, (List.forall_mem_cons.2 ⟨fun _ h => h, (List.forall_mem_cons.2 ⟨fun _ h => h, (List.forall_mem_cons.2 ⟨fun _ h => h, (List.forall_mem_cons.2 ⟨fun _ h => h, (List.forall_mem_cons.2 ⟨fun _ h => h, (List.forall_mem_cons.2 ⟨fun _ h => h, (List.forall_mem_cons.2 ⟨fun _ h => h, (List.forall_mem_cons.2 ⟨fun _ h => h, (List.forall_mem_cons.2 ⟨fun _ h => h, (fun _ h => by cases h)⟩)⟩)⟩)⟩)⟩)⟩)⟩)⟩)⟩)⟩)⟩)⟩) hT⟩
  · intro Lq a wx hS h
    have s11 : a.eval (.tmp 11) = .slice (some ⟨gb, ob, none⟩) mb cb := h.slot 0 3 11 rfl rfl
    have t11 := (ev_tmp a 11).symm.trans s11
    rw [if_pos (wanted_none rfl)]
    obtain ⟨s16, _⟩ : a.eval (.tmp 16) = .int .i64 (r1 : Int) ∧ Plc (hs 0 (ch L)) x r0 := h.slot 1 8 16 rfl rfl
    have t16 := (ev_tmp a 16).symm.trans s16
    refine does_val (v := .slice (some ⟨gb, ob + r1, none⟩) (mb - r1) (cb - r1)) (w' := wx) ?_ ⟨rfl, hS, fun _ _ _ h => h⟩
    simp [execOp, go_sem, t11, t16, hr1a, hr1b]
  · intro Lq a wx hS h
    have s17 : a.eval (.tmp 17) = .slice (some ⟨gb, ob + r1, none⟩) (mb - r1) (cb - r1) := h.slot 0 9 17 rfl rfl
    have t17 := (ev_tmp a 17).symm.trans s17
    rw [if_pos (wanted_none rfl)]
    refine does_val (v := .int .i64 ((mb - r1 : Nat) : Int)) (w' := wx) ?_ ⟨rfl, hS, fun _ _ _ h => h⟩
    simp [execOp, go_sem, t17]
  · intro Lq a wx hS h
    rw [if_pos (wanted_none rfl)]
    refine does_val (v := .int .i64 0) (w' := wx) ?_ ⟨rfl, hS, fun _ _ _ h => h⟩
    simp [execOp, go_sem]
  intro a u Lq hS hall hts hd hdone hfree
  have ex8 : a.eval (.tmp 8) = .pointer (some ⟨p, 0, none⟩) := done_slot hdone 0 8 rfl
  have ex9 : a.eval (.tmp 9) = .pointer (some ⟨p, 0, none⟩) := done_slot hdone 1 9 rfl
  have ex10 : a.eval (.tmp 10) = .pointer (some ⟨p, 1, none⟩) := done_slot hdone 2 10 rfl
  have ex11 : a.eval (.tmp 11) = .slice (some ⟨gb, ob, none⟩) mb cb := done_slot hdone 3 11 rfl
  have ex12 : a.eval (.tmp 12) = .pointer (some ⟨p, 0, none⟩) := done_slot hdone 4 12 rfl
  have ex13 : a.eval (.tmp 13) = .pointer (some ⟨p, 0, none⟩) := done_slot hdone 5 13 rfl
  have ex14 : a.eval (.tmp 14) = .pointer (some ⟨p, 0, none⟩) := done_slot hdone 6 14 rfl
  have ex15 : a.eval (.tmp 15) = .slice ax nx cx := done_slot hdone 7 15 rfl
  have ex17 : a.eval (.tmp 17) = .slice (some ⟨gb, ob + r1, none⟩) (mb - r1) (cb - r1) := done_slot hdone 9 17 rfl
  have ex18 : a.eval (.tmp 18) = .int .i64 ((mb - r1 : Nat) : Int) := done_slot hdone 10 18 rfl
  have ex19 : a.eval (.tmp 19) = .int .i64 0 := done_slot hdone 11 19 rfl
  obtain ⟨ex16, hpr⟩ : a.eval (.tmp 16) = .int .i64 (r1 : Int) ∧ Plc (hs 0 (ch L)) x r0 := done_slot hdone 8 16 rfl
  have hact := act_puts hts hd hfree
  simp only [putAll, List.foldl_cons, List.foldl_nil, ex8, ex9, ex10, ex11, ex12, ex13, ex14, ex15, ex16, ex17, ex18, ex19, Act.put] at hact
  simp at hact
  clear ex8 ex9 ex10 ex11 ex12 ex13 ex14 ex15 ex16 ex17 ex18 ex19 hts hd hdone hfree hall
  subst hact
  obtain ⟨M, hM⟩ : ∃ M, M = mb - r1 := ⟨_, rfl⟩
  have HM : Hid (M = mb - r1) := hM
  have hM250 : M ≤ 250 := by omega
  have hMcb : M ≤ cb - r1 := by omega
  rw [← hM]
  have HS : Hid (Below W1.heap.size W1 u ∧ Plc (hs 0 (ch L)) x r0 ∧ J [] u) := ⟨hS, hpr, HJ.out [] W1 u none HQ.out.1 ⟨hS.os, hS.tape, hS.output, hS.size, fun k hk _ => hS.block k hk⟩ (fun r e => by cases e)⟩
  have Hbu : Hid (Below wp.heap.size wp u) := HQ.out.2.1.trans (hS.mono HQ.out.2.1.size)
  obtain ⟨cM, hcM⟩ : ∃ cM, cM = cb - r1 := ⟨_, rfl⟩
  rw [← hcM] at hMcb ⊢
  clear hS hpr hM hcM hr1a hr1b hr1c cB cB1 cp1 hcbm hcb
  gi_wp2_with fail
  gi_loopw [5, 19] (fun _ i wr => ∃ (k : Nat) (pre : List Bk), k ≤ M ∧ i = .int .i64 (k : Int) ∧ Hid (J pre wr ∧ pre.map (·.L) = ((ch L).drop r1).take k ∧ Below wp.heap.size wp wr)) (fun _ i _ => M - (intOf i).toNat)
  case atStart => exact ⟨0, [], Nat.zero_le _, rfl, HS.out.2.2, by simp, Hbu.out⟩
  case round =>
    obtain ⟨k, pre, hk, rfl, HR⟩ := hrel
    by_cases hlt : k < M
    · have hlt' : (k : Int) < (M : Int) := by omega
      obtain ⟨ai, ni, ci, c0, hIR⟩ := HQ.out.2.2.1 (r1 + k) (by have := HM.out; omega)
      have c1 : wr.cell? ⟨gb, ob + r1 + k, none⟩ = some (.slice ai ni ci) := by
        rw [Nat.add_assoc]
        exact (HR.out.2.2.cell (p := ⟨gb, ob + (r1 + k), none⟩) hgb).trans c0
      have hkc : r1 + k < (ch L).length := by rw [HQ.out.2.2.2.2.1]; have := HM.out; omega
      have hwB : WfR ((ch L).getD (r1 + k) []) := by
        refine ch_wf HQ.out.2.2.2.1 _ ?_
        simp only [List.getD, List.getElem?_eq_getElem hkc, Option.getD_some]; exact List.getElem_mem hkc
      have HK : Hid (((ch L).drop r1).take (k + 1) = ((ch L).drop r1).take k ++ [(ch L).getD (r1 + k) []]) := by
        show _ = _
        rw [take_snocB _ _ (by rw [List.length_drop]; omega)]
        congr 2
        simp [List.getD]
      obtain ⟨fn, tmps, assign, body, hy, hR⟩ := hHY.out pre ⟨ai, ni, ci, (ch L).getD (r1 + k) []⟩ wr HR.out.1 ⟨r0, ((ch L).drop r1).drop (k + 1), HS.out.2.1, by
        rw [← HQ.out.2.2.2.2.2.1, List.map_append, HR.out.2.1]
        show _ ++ [_] ++ _ = _
        rw [← HK.out, List.take_append_drop]⟩ ⟨hIR, hwB, ch_chk HQ.out.2.2.2.2.2.2 hkc⟩
      have hRR : Hid _ := hR
      simp only [encB] at hy
      clear hR hIR hwB c0 hkc
      gi_wp2_with fail
      refine ⟨(fun h => by cases h), RoundIn.mono hRR.out ?_⟩
      clear hy
      rintro e W3 (⟨rfl, hJ3, hk3⟩ | ⟨rfl, hJx⟩)
      · have H3 : Hid (J (pre ++ [⟨ai, ni, ci, (ch L).getD (r1 + k) []⟩]) W3 ∧ Below wp.heap.size wr W3) := ⟨hJ3, hk3.1⟩
        clear hJ3 hk3
        gi_wp2_with fail
        go_roundw
        case rel =>
          refine ⟨k + 1, _, by omega, by go_num, H3.out.1, ?_, HR.out.2.2.trans H3.out.2⟩
          rw [List.map_append, HR.out.2.1, HK.out]; rfl
        case measure => simp [intOf]; omega
      · have HJx : Hid (Jx (pre ++ [⟨ai, ni, ci, (ch L).getD (r1 + k) []⟩]) W3) := hJx
        clear hJx
        gi_wp2_with fail
        refine bodyPost_ret (results_none rfl _ _ _) rfl ?_
        refine ⟨⟨_, rfl⟩, .inr ⟨_, ⟨r0, ((ch L).drop r1).drop (k + 1), HS.out.2.1, ?_⟩, HJx.out⟩⟩
        rw [← HQ.out.2.2.2.2.2.1, List.map_append, HR.out.2.1]
        show _ ++ [_] ++ _ = _
        rw [← HK.out, List.take_append_drop]
    · have hlt' : ¬ (k : Int) < (M : Int) := by omega
      obtain rfl : k = M := by omega
      gi_wp2_with fail
      go_end0
      refine ⟨⟨_, rfl⟩, .inl ⟨pre, ⟨r0, HS.out.2.1, ?_⟩, HR.out.1⟩⟩
      rw [← HQ.out.2.2.2.2.2.1, HR.out.2.1, List.take_of_length_le]
      rw [List.length_drop, HQ.out.2.2.2.2.1, HM.out]
      exact Nat.le_refl _

set_option maxRecDepth 100000 in
/-- A part that is none tells nothing. -/
theorem from_nil (n B : Nat) (w : World) (hB : w.heap.size = B + 2) (h1 : Boxed w B 29 (.pointer none)) (E : Bk → World → Prop) (Kp : World → World → Prop) :
    SeqB B 29 E n Tryd.prog 56 #[.pointer (some ⟨B, 0, none⟩), .pointer (some ⟨B + 1, 0, none⟩)] encB Kp (fun xs => xs = []) (fun _ => False) w := by
  intro l J Jx W1 hW hJ hJx hY h0
  have cB : W1.cell? ⟨B, 0, none⟩ = some (.pointer none) := (hW.cell (p := ⟨B, 0, none⟩) (by show B < w.heap.size; omega)).trans h1.cell
  have H0 : Hid (J [] W1) := h0
  clear hY hJ hJx h0
  refine callsIn_of_wp Tryd.func56 rfl trivial ?_ rfl
  simp only [Tryd.ntmps56, List.size_toArray, List.length_cons, List.length_nil, Nat.reduceAdd, Nat.reduceSub, Array.replicate_succ, Array.replicate_zero, List.push_toArray, List.append_toArray, List.nil_append, List.cons_append]
  gi_wp2_with fail
  refine bodyPost_ret (results_none rfl _ _ _) rfl ?_
  exact ⟨⟨_, rfl⟩, .inl ⟨[], rfl, H0.out⟩⟩
end Go.Proofs.YtocjmbhfpofoeaaDoor
