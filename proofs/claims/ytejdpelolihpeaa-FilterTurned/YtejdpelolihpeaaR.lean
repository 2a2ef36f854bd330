/- The contract of awake: the document's examples. No conditions. -/
import Derived.Test.YtejdpelolihpeaaH
namespace Go.Proofs.Ytejdpelolihpeaa
open Go.RowKit

theorem isL_one (w : World) (a b : ByteArray) : IsL (w.alloc (.cells #[.string a, .string b] 34)) (some ⟨w.heap.size, 0, none⟩) 1 1 [(a, b)] := by
  refine ⟨rfl, Nat.le_refl _, by decide, .inr ⟨w.heap.size, 0, rfl, by simp, fun i hi => ?_⟩, fun h => by cases h⟩
  match i, hi with
  | 0, _ => simp
theorem isF_one (w : World) (f : Ft) : IsF (w.alloc (.cells #[.string f.n, .string f.v, .bool f.p, .bool f.t] 28)) (some ⟨w.heap.size, 0, none⟩) 1 1 [f] := by
  refine ⟨rfl, Nat.le_refl _, by decide, .inr ⟨w.heap.size, 0, rfl, by simp, fun i hi => ?_⟩, fun h => by cases h⟩
  match i, hi with
  | 0, _ => simp [At]
theorem isF_two (w : World) (f g : Ft) : IsF (w.alloc (.cells #[.string f.n, .string f.v, .bool f.p, .bool f.t, .string g.n, .string g.v, .bool g.p, .bool g.t] 28)) (some ⟨w.heap.size, 0, none⟩) 2 2 [f, g] := by
  refine ⟨rfl, Nat.le_refl _, by decide, .inr ⟨w.heap.size, 0, rfl, by simp, fun i hi => ?_⟩, fun h => by cases h⟩
  match i, hi with
  | 0, _ => simp [At]
  | 1, _ => simp [At]
theorem isF_three (w : World) (f g h : Ft) : IsF (w.alloc (.cells #[.string f.n, .string f.v, .bool f.p, .bool f.t, .string g.n, .string g.v, .bool g.p, .bool g.t, .string h.n, .string h.v, .bool h.p, .bool h.t] 28)) (some ⟨w.heap.size, 0, none⟩) 3 3 [f, g, h] := by
  refine ⟨rfl, Nat.le_refl _, by decide, .inr ⟨w.heap.size, 0, rfl, by simp, fun i hi => ?_⟩, fun h => by cases h⟩
  match i, hi with
  | 0, _ => simp [At]
  | 1, _ => simp [At]
  | 2, _ => simp [At]
abbrev sJob : ByteArray := ⟨#[106, 111, 98]⟩
abbrev sX : ByteArray := ⟨#[120]⟩
abbrev sXY : ByteArray := ⟨#[120, 121]⟩
abbrev fF : Ft := ⟨sJob, sX, false, false⟩
abbrev fP : Ft := ⟨sJob, sX, true, false⟩
abbrev fN : Ft := ⟨sJob, ⟨#[]⟩, false, true⟩
theorem v1 : one fF [(sJob, sX)] = true := by decide +kernel
theorem v2 : one fF [(sJob, sXY)] = false := by decide +kernel
theorem v3 : one fP [(sJob, sXY)] = true := by decide +kernel
theorem v4 : one fN [(sJob, sX)] = true := by decide +kernel
theorem v5 : one fN [] = false := by decide +kernel
theorem v6 : all [fF, fP, fN] [(sJob, sX)] = true := by decide +kernel
theorem v7 : exact [fN, fP, fF] = 2 := by decide +kernel
theorem v8 : check [f0] = 80 := by decide +kernel
theorem wf3 : WfF [fF, fP, fN] := by
  intro f hf
  simp only [List.mem_cons, List.not_mem_nil, or_false] at hf
  unfold Wf maxLen
  rcases hf with rfl | rfl | rfl <;> decide
theorem wf3' : WfF [fN, fP, fF] := fun f hf => wf3 f (by simp at hf ⊢; rcases hf with h | h | h <;> simp [h])
theorem wf0 : WfF [f0] := by
  intro f hf
  simp only [List.mem_cons, List.not_mem_nil, or_false] at hf
  subst hf
  unfold Wf maxLen
  decide
/-- What awake has made. -/
structure Aw (w W : World) : Prop where
  la : IsL W (some ⟨w.heap.size, 0, none⟩) 1 1 [(sJob, sX)]
  lb : IsL W (some ⟨w.heap.size + 1, 0, none⟩) 1 1 [(sJob, sXY)]
  cf : Bx W (w.heap.size + 1 + 1) fF
  cp : Bx W (w.heap.size + 1 + 1 + 1) fP
  cn : Bx W (w.heap.size + 1 + 1 + 1 + 1) fN
  bl : Below w.heap.size w W
theorem Aw.below {w W W' : World} (h : Aw w W) (hb : Below W.heap.size W W') : Aw w W' := ⟨h.la.below hb, h.lb.below hb, h.cf.below hb, h.cp.below hb, h.cn.below hb, h.bl.trans (hb.mono h.bl.size)⟩
theorem bx_at (w : World) (f : Ft) (n : Nat) (hn : n = w.heap.size) : Bx (w.alloc (.cells #[.string f.n, .string f.v, .bool f.p, .bool f.t] 28)) n f := by subst hn; exact boxed_f w f
theorem aw_start (w : World) : Aw w (((((w.alloc (.cells #[.string sJob, .string sX] 34)).alloc (.cells #[.string sJob, .string sXY] 34)).alloc (.cells #[.string sJob, .string sX, .bool false, .bool false] 28)).alloc (.cells #[.string sJob, .string sX, .bool true, .bool false] 28)).alloc (.cells #[.string sJob, .string ⟨#[]⟩, .bool false, .bool true] 28)) := by
  have h0 := isL_one w sJob sX
  have h1 := isL_one (w.alloc (.cells #[.string sJob, .string sX] 34)) sJob sXY
  rw [World.size_alloc] at h1
  have hx : ∀ (W : World) (o : Obj), Below W.heap.size W (W.alloc o) := fun W o => (Below.refl _ _).alloc (Nat.le_refl _) _
  refine ⟨((((h0.below (hx _ _)).below (hx _ _)).below (hx _ _)).below (hx _ _)), ((h1.below (hx _ _)).below (hx _ _)).below (hx _ _), ?_, ?_, ?_, ?_⟩
  · exact ((bx_at _ fF _ (by simp)).below (hx _ _)).below (hx _ _)
  · exact (bx_at _ fP _ (by simp)).below (hx _ _)
  · exact bx_at _ fN _ (by simp)
  · exact (((((Below.refl _ _).alloc (by simp) _).alloc (by simp) _).alloc (by simp; omega) _).alloc (by simp; omega) _).alloc (by simp; omega) _
/-- Its cells, as the walk reads them. -/
theorem Aw.cells {w W : World} (h : Aw w W) :
    (W.cell? ⟨w.heap.size + 1 + 1, 0, none⟩ = some (.string sJob) ∧ W.cell? ⟨w.heap.size + 1 + 1, 1, none⟩ = some (.string sX) ∧ W.cell? ⟨w.heap.size + 1 + 1, 2, none⟩ = some (.bool false) ∧ W.cell? ⟨w.heap.size + 1 + 1, 3, none⟩ = some (.bool false)) ∧
    (W.cell? ⟨w.heap.size + 1 + 1 + 1, 0, none⟩ = some (.string sJob) ∧ W.cell? ⟨w.heap.size + 1 + 1 + 1, 1, none⟩ = some (.string sX) ∧ W.cell? ⟨w.heap.size + 1 + 1 + 1, 2, none⟩ = some (.bool true) ∧ W.cell? ⟨w.heap.size + 1 + 1 + 1, 3, none⟩ = some (.bool false)) ∧
    (W.cell? ⟨w.heap.size + 1 + 1 + 1 + 1, 0, none⟩ = some (.string sJob) ∧ W.cell? ⟨w.heap.size + 1 + 1 + 1 + 1, 1, none⟩ = some (.string ⟨#[]⟩) ∧ W.cell? ⟨w.heap.size + 1 + 1 + 1 + 1, 2, none⟩ = some (.bool false) ∧ W.cell? ⟨w.heap.size + 1 + 1 + 1 + 1, 3, none⟩ = some (.bool true)) := ⟨h.cf.2, h.cp.2, h.cn.2⟩

set_option maxHeartbeats 4000000 in
theorem awake_any (w : World) : Calls Try.prog 8 #[] w fun e w' => e = .returned (.bool true) ∧ Below w.heap.size w w' := by
  have H0 : Hid _ := aw_start w
  go_enter Try.func8, Try.ntmps8
  go_wp2_with fail
  have q1 := one_any fF (some ⟨w.heap.size, 0, none⟩) 1 1 [(sJob, sX)] _ H0.out.la
  rw [v1] at q1
  refine Calls.mono q1 ?_
  rintro e w1 ⟨rfl, hb⟩
  clear q1
  have H1 : Hid (Aw w w1) := H0.out.below hb
  clear hb
  obtain ⟨⟨f0c, f1c, f2c, f3c⟩, ⟨p0c, p1c, p2c, p3c⟩, n0c, n1c, n2c, n3c⟩ := H1.out.cells
  go_wp2_with fail
  have q2 := one_any fF (some ⟨w.heap.size + 1, 0, none⟩) 1 1 [(sJob, sXY)] w1 H1.out.lb
  rw [v2] at q2
  refine Calls.mono q2 ?_
  rintro e w2 ⟨rfl, hb⟩
  clear q2
  have H2 : Hid (Aw w w2) := H1.out.below hb
  clear hb H1
  clear f0c f1c f2c f3c p0c p1c p2c p3c n0c n1c n2c n3c
  obtain ⟨⟨f0c, f1c, f2c, f3c⟩, ⟨p0c, p1c, p2c, p3c⟩, n0c, n1c, n2c, n3c⟩ := H2.out.cells
  go_wp2_with fail
  have q3 := one_any fP (some ⟨w.heap.size + 1, 0, none⟩) 1 1 [(sJob, sXY)] w2 H2.out.lb
  rw [v3] at q3
  refine Calls.mono q3 ?_
  rintro e w3 ⟨rfl, hb⟩
  clear q3
  have H3 : Hid (Aw w w3) := H2.out.below hb
  clear hb H2
  clear f0c f1c f2c f3c p0c p1c p2c p3c n0c n1c n2c n3c
  obtain ⟨⟨f0c, f1c, f2c, f3c⟩, ⟨p0c, p1c, p2c, p3c⟩, n0c, n1c, n2c, n3c⟩ := H3.out.cells
  go_wp2_with fail
  have q4 := one_any fN (some ⟨w.heap.size, 0, none⟩) 1 1 [(sJob, sX)] w3 H3.out.la
  rw [v4] at q4
  refine Calls.mono q4 ?_
  rintro e w4 ⟨rfl, hb⟩
  clear q4
  have H4 : Hid (Aw w w4) := H3.out.below hb
  clear hb H3
  clear f0c f1c f2c f3c p0c p1c p2c p3c n0c n1c n2c n3c
  obtain ⟨⟨f0c, f1c, f2c, f3c⟩, ⟨p0c, p1c, p2c, p3c⟩, n0c, n1c, n2c, n3c⟩ := H4.out.cells
  go_wp2_with fail
  have q5 := one_any fN none 0 0 [] w4 (isL_nil w4)
  rw [v5] at q5
  refine Calls.mono q5 ?_
  rintro e w5 ⟨rfl, hb⟩
  clear q5
  have H5 : Hid (Aw w w5) := H4.out.below hb
  clear hb H4
  clear f0c f1c f2c f3c p0c p1c p2c p3c n0c n1c n2c n3c
  obtain ⟨⟨f0c, f1c, f2c, f3c⟩, ⟨p0c, p1c, p2c, p3c⟩, n0c, n1c, n2c, n3c⟩ := H5.out.cells
  go_wp2_with fail
  have q6 := all_any _ 3 3 [fF, fP, fN] (some ⟨w.heap.size, 0, none⟩) 1 1 [(sJob, sX)] _ (isF_three w5 fF fP fN) wf3 (H5.out.la.below ((Below.refl _ _).alloc (Nat.le_refl _) _))
  rw [v6] at q6
  refine Calls.mono q6 ?_
  rintro e w6 ⟨rfl, hb⟩
  clear q6
  have H6 : Hid (Aw w w6) := (H5.out.below ((Below.refl _ _).alloc (Nat.le_refl _) _)).below hb
  clear hb H5
  clear f0c f1c f2c f3c p0c p1c p2c p3c n0c n1c n2c n3c
  obtain ⟨⟨f0c, f1c, f2c, f3c⟩, ⟨p0c, p1c, p2c, p3c⟩, n0c, n1c, n2c, n3c⟩ := H6.out.cells
  go_wp2_with fail
  have q7 := exact_any _ 3 3 [fN, fP, fF] _ (isF_three w6 fN fP fF) wf3'
  rw [v7] at q7
  refine Calls.mono q7 ?_
  rintro e w7 ⟨rfl, hb⟩
  clear q7
  have H7 : Hid (Aw w w7) := (H6.out.below ((Below.refl _ _).alloc (Nat.le_refl _) _)).below hb
  clear hb H6
  clear f0c f1c f2c f3c p0c p1c p2c p3c n0c n1c n2c n3c
  obtain ⟨⟨f0c, f1c, f2c, f3c⟩, ⟨p0c, p1c, p2c, p3c⟩, n0c, n1c, n2c, n3c⟩ := H7.out.cells
  go_wp2_with fail
  have q8 := check_any _ 1 1 [f0] _ (isF_one w7 f0) wf0
  rw [v8] at q8
  refine Calls.mono q8 ?_
  rintro e w8 ⟨rfl, hb⟩
  clear q8
  have H8 : Hid (Aw w w8) := (H7.out.below ((Below.refl _ _).alloc (Nat.le_refl _) _)).below hb
  clear hb H7
  clear f0c f1c f2c f3c p0c p1c p2c p3c n0c n1c n2c n3c
  obtain ⟨⟨f0c, f1c, f2c, f3c⟩, ⟨p0c, p1c, p2c, p3c⟩, n0c, n1c, n2c, n3c⟩ := H8.out.cells
  go_wp2_with fail
  go_ret
  exact ⟨rfl, H8.out.bl⟩
end Go.Proofs.Ytejdpelolihpeaa
