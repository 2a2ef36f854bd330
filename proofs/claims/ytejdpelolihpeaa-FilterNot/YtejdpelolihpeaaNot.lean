/- For every filter and row of labels: labels are let through by a filter, or by its Not: FilterNot returns true, and its arguments read as before. No conditions. -/
import Derived.Test.YtejdpelolihpeaaS
import Derived.Test.YtejdpelolihpeaaK
import Derived.Laws.Cover1
namespace Go.Proofs.Ytejdpelolihpeaa
open Go.ChangeShapes Go.WideShapes Go.ChangeAt Go.RowKit Go.Lib
open Go.ChangeMaps (open_string shut_string)

/-- The five filters that are asked. -/
structure Fi (b n : Nat) (W : World) (f : Ft) : Prop where
  c2 : Bx W b f
  c7 : Bx W (n + 1) ⟨f.n, f.v, f.p, !f.t⟩
  c8 : Bx W (n + 1 + 1) ⟨f.n, f.v, true, false⟩
  c9 : Bx W (n + 1 + 1 + 1) ⟨f.n, f.v, false, false⟩
  c10 : Bx W (n + 1 + 1 + 1 + 1) ⟨f.n, ⟨#[]⟩, true, false⟩
theorem fi_start (b : Nat) (w1 : World) (f : Ft) (h : Bx w1 b f) : Fi b w1.heap.size (((((w1.alloc (Obj.cells #[.string f.n, .string f.v, .bool f.p, .bool f.t] 28)).alloc (Obj.cells #[.string f.n, .string f.v, .bool f.p, .bool (!f.t)] 28)).alloc (Obj.cells #[.string f.n, .string f.v, .bool true, .bool false] 28)).alloc (Obj.cells #[.string f.n, .string f.v, .bool false, .bool false] 28)).alloc (Obj.cells #[.string f.n, .string ⟨#[]⟩, .bool true, .bool false] 28)) f ∧ Below w1.heap.size w1 (((((w1.alloc (Obj.cells #[.string f.n, .string f.v, .bool f.p, .bool f.t] 28)).alloc (Obj.cells #[.string f.n, .string f.v, .bool f.p, .bool (!f.t)] 28)).alloc (Obj.cells #[.string f.n, .string f.v, .bool true, .bool false] 28)).alloc (Obj.cells #[.string f.n, .string f.v, .bool false, .bool false] 28)).alloc (Obj.cells #[.string f.n, .string ⟨#[]⟩, .bool true, .bool false] 28)) := by
  have hx : ∀ (W : World) (o : Obj), Below W.heap.size W (W.alloc o) := fun W o => (Below.refl _ _).alloc (Nat.le_refl _) _
  refine ⟨⟨?_, ?_, ?_, ?_, ?_⟩, ?_⟩
  · exact ((((h.below (hx _ _)).below (hx _ _)).below (hx _ _)).below (hx _ _)).below (hx _ _)
  · exact (((bx_at _ ⟨f.n, f.v, f.p, !f.t⟩ _ (by simp)).below (hx _ _)).below (hx _ _)).below (hx _ _)
  · exact ((bx_at _ ⟨f.n, f.v, true, false⟩ _ (by simp)).below (hx _ _)).below (hx _ _)
  · exact (bx_at _ ⟨f.n, f.v, false, false⟩ _ (by simp)).below (hx _ _)
  · exact bx_at _ ⟨f.n, ⟨#[]⟩, true, false⟩ _ (by simp)
  · exact (((((Below.refl w1.heap.size w1).alloc (Nat.le_refl _) _).alloc (by simp) _).alloc (by simp; omega) _).alloc (by simp; omega) _).alloc (by simp; omega) _
theorem one_not (f : Ft) (ls : List Lb) : one ⟨f.n, f.v, f.p, !f.t⟩ ls = !one f ls := by
  obtain ⟨n, v, p, t⟩ := f
  simp only [one, asks]
  cases t <;> simp
theorem beg_self (s : ByteArray) : beg s s = true := by
  simp only [beg, Bool.and_eq_true, decide_eq_true_eq]
  refine ⟨Nat.le_refl _, ?_⟩
  apply ByteArray.ext
  simp
theorem one_pre (n v : ByteArray) (ls : List Lb) (h : one ⟨n, v, false, false⟩ ls = true) : one ⟨n, v, true, false⟩ ls = true := by
  have e : get ls n = v := by simpa [one, asks] using h
  simp [one, asks, e, beg_self]
theorem beg_empty' (s : ByteArray) : beg s ⟨#[]⟩ = true := by
  simp only [beg, Bool.and_eq_true, decide_eq_true_eq]
  refine ⟨Nat.zero_le _, ?_⟩
  show s.extract 0 0 = _
  apply ByteArray.ext
  simp
theorem one_every (n : ByteArray) (ls : List Lb) : one ⟨n, ⟨#[]⟩, true, false⟩ ls = true := by simp [one, asks, beg_empty']
theorem all_both (f : Ft) (ls : List Lb) : all [f, ⟨f.n, f.v, f.p, !f.t⟩] ls = false := by
  have h := one_not f ls
  simp [all, h]

set_option maxRecDepth 20000 in
set_option maxHeartbeats 8000000 in
theorem filterNot_walk (f : Ft) (wf : Wf f) (sa : Option Addr) (sl sc : Nat) (ls : List Lb) {w0 : World} (hL : IsL w0 sa sl sc ls) (wl : WfL ls) {w : World} (hw : w = w0) :
    Calls Try.prog 5 #[.agg #[.string f.n, .string f.v, .bool f.p, .bool f.t], .slice sa sl sc] w fun r w' => r = .returned (.bool true) ∧ Below w.heap.size w w' := by
  subst hw
  have hbx0 : Below w.heap.size w (w.alloc (.cells #[.string f.n, .string f.v, .bool f.p, .bool f.t] 28)) := (Below.refl _ _).alloc (Nat.le_refl _) _
  have HI : Hid (Wf f ∧ IsL (w.alloc (.cells #[.string f.n, .string f.v, .bool f.p, .bool f.t] 28)) sa sl sc ls ∧ WfL ls ∧ Bx (w.alloc (.cells #[.string f.n, .string f.v, .bool f.p, .bool f.t] 28)) w.heap.size f ∧ Below w.heap.size w (w.alloc (.cells #[.string f.n, .string f.v, .bool f.p, .bool f.t] 28))) := ⟨wf, hL.below hbx0, wl, boxed_f w f, hbx0⟩
  clear hL wl wf hbx0
  go_enter Try.func5, Try.ntmps5
  go_wp2_with fail
  refine (awake_any _).mono ?_
  rintro e w1 ⟨rfl, b1⟩
  have H1 : Hid (IsL w1 sa sl sc ls ∧ Below w.heap.size w w1 ∧ Bx w1 w.heap.size f) := ⟨HI.out.2.1.below b1, HI.out.2.2.2.2.trans (b1.mono HI.out.2.2.2.2.size), HI.out.2.2.2.1.below b1⟩
  clear b1
  obtain ⟨z0, c0, c1, c2, c3⟩ := H1.out.2.2
  simp only [Nat.zero_add] at c1 c2 c3
  have z1 : w.heap.size < w1.heap.size + 1 := by omega
  have z2 : w.heap.size < w1.heap.size + 1 + 1 := by omega
  have z3 : w.heap.size < w1.heap.size + 1 + 1 + 1 := by omega
  have z4 : w.heap.size < w1.heap.size + 1 + 1 + 1 + 1 := by omega
  go_wp2_with fail
  have hb2 : Below w1.heap.size w1 (w1.alloc (.cells #[.string f.n, .string f.v, .bool f.p, .bool f.t] 28)) := (Below.refl _ _).alloc (Nat.le_refl _) _
  refine (few_any _ 1 1 [f] sa sl sc ls _ (isF_one w1 f) (fun x hx => by simp at hx; subst hx; exact HI.out.1) (H1.out.1.below hb2) HI.out.2.2.1).mono ?_
  rintro e w' ⟨rfl, hw'⟩; rw [hw']; clear hw' w'
  obtain ⟨f1, hf1⟩ : ∃ g, Hid (g = few [f] ls) := ⟨_, rfl⟩
  rw [← hf1.out]
  cases f1 with
  | false =>
    go_wp2_with fail
    go_ret
    exact ⟨rfl, H1.out.2.1.trans (hb2.mono H1.out.2.1.size)⟩
  | true =>
    clear hf1
    have HF0 := fi_start w.heap.size w1 f H1.out.2.2
    have HF : Hid _ := HF0.1
    have HB : Hid (Below w.heap.size w (((((w1.alloc (Obj.cells #[.string f.n, .string f.v, .bool f.p, .bool f.t] 28)).alloc (Obj.cells #[.string f.n, .string f.v, .bool f.p, .bool (!f.t)] 28)).alloc (Obj.cells #[.string f.n, .string f.v, .bool true, .bool false] 28)).alloc (Obj.cells #[.string f.n, .string f.v, .bool false, .bool false] 28)).alloc (Obj.cells #[.string f.n, .string ⟨#[]⟩, .bool true, .bool false] 28))) := H1.out.2.1.trans (HF0.2.mono H1.out.2.1.size)
    have HL : Hid (∀ W, Below _ (((((w1.alloc (Obj.cells #[.string f.n, .string f.v, .bool f.p, .bool f.t] 28)).alloc (Obj.cells #[.string f.n, .string f.v, .bool f.p, .bool (!f.t)] 28)).alloc (Obj.cells #[.string f.n, .string f.v, .bool true, .bool false] 28)).alloc (Obj.cells #[.string f.n, .string f.v, .bool false, .bool false] 28)).alloc (Obj.cells #[.string f.n, .string ⟨#[]⟩, .bool true, .bool false] 28)) W → IsL W sa sl sc ls) := fun W h => (H1.out.1.below HF0.2).below h
    have HO : Hid (∀ (x : Ft) W, Below _ (((((w1.alloc (Obj.cells #[.string f.n, .string f.v, .bool f.p, .bool f.t] 28)).alloc (Obj.cells #[.string f.n, .string f.v, .bool f.p, .bool (!f.t)] 28)).alloc (Obj.cells #[.string f.n, .string f.v, .bool true, .bool false] 28)).alloc (Obj.cells #[.string f.n, .string f.v, .bool false, .bool false] 28)).alloc (Obj.cells #[.string f.n, .string ⟨#[]⟩, .bool true, .bool false] 28)) W → Calls Try.prog 10 #[.agg #[.string x.n, .string x.v, .bool x.p, .bool x.t], .slice sa sl sc] W fun e w' => e = .returned (.bool (one x ls)) ∧ Below W.heap.size W w') := fun x W h => one_any x sa sl sc ls W (HL.out W h)
    have HW : Hid (WfF [f, ⟨f.n, f.v, f.p, !f.t⟩]) := by
      intro x hx
      simp only [List.mem_cons, List.not_mem_nil, or_false] at hx
      rcases hx with rfl | rfl
      · exact HI.out.1
      · exact HI.out.1
    clear HF0 hb2
    obtain ⟨r, hr⟩ : ∃ r, Hid (r = one f ls) := ⟨_, rfl⟩
    cases he : one ⟨f.n, f.v, false, false⟩ ls with
    | true =>
      have HR : Hid (one ⟨f.n, f.v, f.p, f.t⟩ ls = r ∧ one ⟨f.n, f.v, f.p, !f.t⟩ ls = (!r) ∧ one ⟨f.n, f.v, false, false⟩ ls = true ∧ one ⟨f.n, f.v, true, false⟩ ls = true ∧ one ⟨f.n, ⟨#[]⟩, true, false⟩ ls = true ∧ all [f, ⟨f.n, f.v, f.p, !f.t⟩] ls = false) := ⟨hr.out.symm, by rw [one_not, hr.out], he, one_pre _ _ _ he, one_every _ _, all_both _ _⟩
      clear he hr
      go_wp2_with fail
      refine wp_region_K (by kernel_rfl) (by kernel_rfl) [.eq (.agg #[.string f.n, .string f.v, .bool f.p, .bool f.t]), .eq (.slice sa sl sc), .eq (.bool r), .eq (.agg #[.string f.n, .string f.v, .bool f.p, .bool (!f.t)]), .eq (.slice sa sl sc), .eq (.bool (!r)), .eq (.bool true), .eq (.bool true), .eq (.agg #[.string f.n, .string f.v, .bool false, .bool false]), .eq (.slice sa sl sc), .eq (.bool true), .eq (.bool false), .eq (.bool false), .eq (.agg #[.string f.n, .string f.v, .bool true, .bool false]), .eq (.slice sa sl sc), .eq (.bool true), .eq (.bool true), .eq (.bool true), .eq (.bool true), .eq (.agg #[.string f.n, .string ⟨#[]⟩, .bool true, .bool false]), .eq (.slice sa sl sc), .eq (.bool true), .eq (.bool true), .eq (.bool true), .eq (.agg #[.string f.n, .string f.v, .bool f.p, .bool f.t]), .eq (.agg #[.string f.n, .string f.v, .bool f.p, .bool (!f.t)]), ⟨fun v W => ∃ g, v = .slice (some ⟨g, 0, none⟩) 2 2 ∧ IsF W (some ⟨g, 0, none⟩) 2 2 [f, ⟨f.n, f.v, f.p, !f.t⟩], fun _ _ _ ⟨g, h1, h2⟩ hb => ⟨g, h1, h2.below hb⟩⟩, .eq (.slice sa sl sc), .eq (.bool false), .eq (.bool true), .eq (.bool true), .eq (.bool true)] (((((w1.alloc (Obj.cells #[.string f.n, .string f.v, .bool f.p, .bool f.t] 28)).alloc (Obj.cells #[.string f.n, .string f.v, .bool f.p, .bool (!f.t)] 28)).alloc (Obj.cells #[.string f.n, .string f.v, .bool true, .bool false] 28)).alloc (Obj.cells #[.string f.n, .string f.v, .bool false, .bool false] 28)).alloc (Obj.cells #[.string f.n, .string ⟨#[]⟩, .bool true, .bool false] 28)) (Below.refl _ _) (allOps_cons ?_ (allOps_cons ?_ (allOps_cons ?_ (allOps_cons ?_ (allOps_cons ?_ (allOps_cons ?_ (allOps_cons ?_ (allOps_cons ?_ (allOps_cons ?_ (allOps_cons ?_ (allOps_cons ?_ (allOps_cons ?_ (allOps_cons ?_ (allOps_cons ?_ (allOps_cons ?_ (allOps_cons ?_ (allOps_cons ?_ (allOps_cons ?_ (allOps_cons ?_ (allOps_cons ?_ (allOps_cons ?_ (allOps_cons ?_ (allOps_cons ?_ (allOps_cons ?_ (allOps_cons ?_ (allOps_cons ?_ (allOps_cons ?_ (allOps_cons ?_ (allOps_cons ?_ (allOps_cons ?_ (allOps_cons ?_ (allOps_cons ?_ allOps_nil)))))))))))))))))))))))))))))))) ?_
      · intro a wx hS hb hf
        have s2 : a.eval (.tmp 2) = .pointer (some ⟨w.heap.size, 0, none⟩) := (hf 2 (by kernel_rfl)).trans rfl
        rw [if_pos (wanted_none rfl)]
        obtain ⟨_, d0, d1, d2, d3⟩ := HF.out.c2.below hS
        simp only [Nat.zero_add] at d1 d2 d3
        refine does_val (v := .agg #[.string f.n, .string f.v, .bool f.p, .bool f.t]) (w' := wx) ?_ ⟨rfl, Below.refl _ _⟩
        have t2 := (ev_tmp a 2).symm.trans s2
        simp [execOp, go_sem, t2, d0, d1, d2, d3]
      · intro a wx hS hb hf
        have s1 : a.eval (.tmp 1) = .slice sa sl sc := (hf 1 (by kernel_rfl)).trans rfl
        rw [if_pos (wanted_none rfl)]
        refine does_val (v := .slice sa sl sc) (w' := wx) ?_ ⟨rfl, Below.refl _ _⟩
        have t1 := (ev_tmp a 1).symm.trans s1
        simp [execOp, go_sem, t1]
      · intro a wx hS hb hf
        have s34 : a.eval (.tmp 34) = .agg #[.string f.n, .string f.v, .bool f.p, .bool f.t] := slot hb 0 0 34 rfl rfl
        have s35 : a.eval (.tmp 35) = .slice sa sl sc := slot hb 1 1 35 rfl rfl
        rw [if_pos (wanted_none rfl)]
        have t34 := (ev_tmp a 34).symm.trans s34
        have t35 := (ev_tmp a 35).symm.trans s35
        refine does_call (f := 10) (args := #[.agg #[.string f.n, .string f.v, .bool f.p, .bool f.t], .slice sa sl sc]) (w' := wx) (by simp [go_sem, t34, t35]) ?_
        refine Calls.mono (HO.out ⟨f.n, f.v, f.p, f.t⟩ wx hS) ?_
        rintro r w' ⟨rfl, hb'⟩
        exact ⟨_, rfl, congrArg Value.bool (HR.out.1), hb'⟩
      · intro a wx hS hb hf
        have s7 : a.eval (.tmp 7) = .pointer (some ⟨w1.heap.size + 1, 0, none⟩) := (hf 7 (by kernel_rfl)).trans rfl
        rw [if_pos (wanted_none rfl)]
        obtain ⟨_, d0, d1, d2, d3⟩ := HF.out.c7.below hS
        simp only [Nat.zero_add] at d1 d2 d3
        refine does_val (v := .agg #[.string f.n, .string f.v, .bool f.p, .bool (!f.t)]) (w' := wx) ?_ ⟨rfl, Below.refl _ _⟩
        have t7 := (ev_tmp a 7).symm.trans s7
        simp [execOp, go_sem, t7, d0, d1, d2, d3]
      · intro a wx hS hb hf
        have s1 : a.eval (.tmp 1) = .slice sa sl sc := (hf 1 (by kernel_rfl)).trans rfl
        rw [if_pos (wanted_none rfl)]
        refine does_val (v := .slice sa sl sc) (w' := wx) ?_ ⟨rfl, Below.refl _ _⟩
        have t1 := (ev_tmp a 1).symm.trans s1
        simp [execOp, go_sem, t1]
      · intro a wx hS hb hf
        have s37 : a.eval (.tmp 37) = .agg #[.string f.n, .string f.v, .bool f.p, .bool (!f.t)] := slot hb 0 3 37 rfl rfl
        have s38 : a.eval (.tmp 38) = .slice sa sl sc := slot hb 1 4 38 rfl rfl
        rw [if_pos (wanted_none rfl)]
        have t37 := (ev_tmp a 37).symm.trans s37
        have t38 := (ev_tmp a 38).symm.trans s38
        refine does_call (f := 10) (args := #[.agg #[.string f.n, .string f.v, .bool f.p, .bool (!f.t)], .slice sa sl sc]) (w' := wx) (by simp [go_sem, t37, t38]) ?_
        refine Calls.mono (HO.out ⟨f.n, f.v, f.p, (!f.t)⟩ wx hS) ?_
        rintro r w' ⟨rfl, hb'⟩
        exact ⟨_, rfl, congrArg Value.bool (HR.out.2.1), hb'⟩
      · intro a wx hS hb hf
        have s36 : a.eval (.tmp 36) = .bool r := slot hb 0 2 36 rfl rfl
        have s39 : a.eval (.tmp 39) = .bool (!r) := slot hb 1 5 39 rfl rfl
        rw [if_pos (wanted_none rfl)]
        refine does_val (v := .bool true) (w' := wx) ?_ ⟨rfl, Below.refl _ _⟩
        have t36 := (ev_tmp a 36).symm.trans s36
        have t39 := (ev_tmp a 39).symm.trans s39
        cases r <;> simp [execOp, go_sem, t36, t39]
      · intro a wx hS hb hf
        have s40 : a.eval (.tmp 40) = .bool true := slot hb 0 6 40 rfl rfl
        rw [if_pos (wanted_none rfl)]
        refine does_val (v := .bool true) (w' := wx) ?_ ⟨rfl, Below.refl _ _⟩
        have t40 := (ev_tmp a 40).symm.trans s40
        simp [execOp, go_sem, t40]
      · intro a wx hS hb hf
        have s9 : a.eval (.tmp 9) = .pointer (some ⟨w1.heap.size + 1 + 1 + 1, 0, none⟩) := (hf 9 (by kernel_rfl)).trans rfl
        have s41 : a.eval (.tmp 41) = .bool true := slot hb 0 7 41 rfl rfl
        rw [if_pos (wanted_of (g := 7) (d := 41) (b := true) rfl rfl s41)]
        obtain ⟨_, d0, d1, d2, d3⟩ := HF.out.c9.below hS
        simp only [Nat.zero_add] at d1 d2 d3
        refine does_val (v := .agg #[.string f.n, .string f.v, .bool false, .bool false]) (w' := wx) ?_ ⟨rfl, Below.refl _ _⟩
        have t9 := (ev_tmp a 9).symm.trans s9
        simp [execOp, go_sem, t9, d0, d1, d2, d3]
      · intro a wx hS hb hf
        have s1 : a.eval (.tmp 1) = .slice sa sl sc := (hf 1 (by kernel_rfl)).trans rfl
        have s41 : a.eval (.tmp 41) = .bool true := slot hb 0 7 41 rfl rfl
        rw [if_pos (wanted_of (g := 7) (d := 41) (b := true) rfl rfl s41)]
        refine does_val (v := .slice sa sl sc) (w' := wx) ?_ ⟨rfl, Below.refl _ _⟩
        have t1 := (ev_tmp a 1).symm.trans s1
        simp [execOp, go_sem, t1]
      · intro a wx hS hb hf
        have s42 : a.eval (.tmp 42) = .agg #[.string f.n, .string f.v, .bool false, .bool false] := slot hb 0 8 42 rfl rfl
        have s43 : a.eval (.tmp 43) = .slice sa sl sc := slot hb 1 9 43 rfl rfl
        have s41 : a.eval (.tmp 41) = .bool true := slot hb 2 7 41 rfl rfl
        rw [if_pos (wanted_of (g := 7) (d := 41) (b := true) rfl rfl s41)]
        have t42 := (ev_tmp a 42).symm.trans s42
        have t43 := (ev_tmp a 43).symm.trans s43
        refine does_call (f := 10) (args := #[.agg #[.string f.n, .string f.v, .bool false, .bool false], .slice sa sl sc]) (w' := wx) (by simp [go_sem, t42, t43]) ?_
        refine Calls.mono (HO.out ⟨f.n, f.v, false, false⟩ wx hS) ?_
        rintro r w' ⟨rfl, hb'⟩
        exact ⟨_, rfl, congrArg Value.bool HR.out.2.2.1, hb'⟩
      · intro a wx hS hb hf
        have s44 : a.eval (.tmp 44) = .bool true := slot hb 0 10 44 rfl rfl
        have s41 : a.eval (.tmp 41) = .bool true := slot hb 1 7 41 rfl rfl
        rw [if_pos (wanted_of (g := 7) (d := 41) (b := true) rfl rfl s41)]
        refine does_val (v := .bool false) (w' := wx) ?_ ⟨rfl, Below.refl _ _⟩
        have t44 := (ev_tmp a 44).symm.trans s44
        simp [execOp, go_sem, t44]
      · intro a wx hS hb hf
        have s45 : a.eval (.tmp 45) = .bool false := slot hb 0 11 45 rfl rfl
        have s41 : a.eval (.tmp 41) = .bool true := slot hb 2 7 41 rfl rfl
        rw [if_pos (wanted_of (g := 7) (d := 41) (b := true) rfl rfl s41)]
        refine does_val (v := .bool false) (w' := wx) ?_ ⟨rfl, Below.refl _ _⟩
        have t45 := (ev_tmp a 45).symm.trans s45
        simp [execOp, go_sem, t45]
      · intro a wx hS hb hf
        have s8 : a.eval (.tmp 8) = .pointer (some ⟨w1.heap.size + 1 + 1, 0, none⟩) := (hf 8 (by kernel_rfl)).trans rfl
        have s46 : a.eval (.tmp 46) = .bool false := slot hb 0 12 46 rfl rfl
        rw [if_pos (wanted_of (g := 12) (d := 46) (b := false) rfl rfl s46)]
        obtain ⟨_, d0, d1, d2, d3⟩ := HF.out.c8.below hS
        simp only [Nat.zero_add] at d1 d2 d3
        refine does_val (v := .agg #[.string f.n, .string f.v, .bool true, .bool false]) (w' := wx) ?_ ⟨rfl, Below.refl _ _⟩
        have t8 := (ev_tmp a 8).symm.trans s8
        simp [execOp, go_sem, t8, d0, d1, d2, d3]
      · intro a wx hS hb hf
        have s1 : a.eval (.tmp 1) = .slice sa sl sc := (hf 1 (by kernel_rfl)).trans rfl
        have s46 : a.eval (.tmp 46) = .bool false := slot hb 0 12 46 rfl rfl
        rw [if_pos (wanted_of (g := 12) (d := 46) (b := false) rfl rfl s46)]
        refine does_val (v := .slice sa sl sc) (w' := wx) ?_ ⟨rfl, Below.refl _ _⟩
        have t1 := (ev_tmp a 1).symm.trans s1
        simp [execOp, go_sem, t1]
      · intro a wx hS hb hf
        have s47 : a.eval (.tmp 47) = .agg #[.string f.n, .string f.v, .bool true, .bool false] := slot hb 0 13 47 rfl rfl
        have s48 : a.eval (.tmp 48) = .slice sa sl sc := slot hb 1 14 48 rfl rfl
        have s46 : a.eval (.tmp 46) = .bool false := slot hb 2 12 46 rfl rfl
        rw [if_pos (wanted_of (g := 12) (d := 46) (b := false) rfl rfl s46)]
        have t47 := (ev_tmp a 47).symm.trans s47
        have t48 := (ev_tmp a 48).symm.trans s48
        refine does_call (f := 10) (args := #[.agg #[.string f.n, .string f.v, .bool true, .bool false], .slice sa sl sc]) (w' := wx) (by simp [go_sem, t47, t48]) ?_
        refine Calls.mono (HO.out ⟨f.n, f.v, true, false⟩ wx hS) ?_
        rintro r w' ⟨rfl, hb'⟩
        exact ⟨_, rfl, congrArg Value.bool HR.out.2.2.2.1, hb'⟩
      · intro a wx hS hb hf
        have s46 : a.eval (.tmp 46) = .bool false := slot hb 0 12 46 rfl rfl
        have s49 : a.eval (.tmp 49) = .bool true := slot hb 1 15 49 rfl rfl
        have s41 : a.eval (.tmp 41) = .bool true := slot hb 2 7 41 rfl rfl
        rw [if_pos (wanted_of (g := 7) (d := 41) (b := true) rfl rfl s41)]
        refine does_val (v := .bool true) (w' := wx) ?_ ⟨rfl, Below.refl _ _⟩
        have t46 := (ev_tmp a 46).symm.trans s46
        have t49 := (ev_tmp a 49).symm.trans s49
        simp [execOp, go_sem, t46, t49]
      · intro a wx hS hb hf
        have s41 : a.eval (.tmp 41) = .bool true := slot hb 0 7 41 rfl rfl
        have s50 : a.eval (.tmp 50) = .bool true := slot hb 1 16 50 rfl rfl
        rw [if_pos (wanted_none rfl)]
        refine does_val (v := .bool true) (w' := wx) ?_ ⟨rfl, Below.refl _ _⟩
        have t41 := (ev_tmp a 41).symm.trans s41
        have t50 := (ev_tmp a 50).symm.trans s50
        simp [execOp, go_sem, t41, t50]
      · intro a wx hS hb hf
        have s51 : a.eval (.tmp 51) = .bool true := slot hb 0 17 51 rfl rfl
        rw [if_pos (wanted_none rfl)]
        refine does_val (v := .bool true) (w' := wx) ?_ ⟨rfl, Below.refl _ _⟩
        have t51 := (ev_tmp a 51).symm.trans s51
        simp [execOp, go_sem, t51]
      · intro a wx hS hb hf
        have s10 : a.eval (.tmp 10) = .pointer (some ⟨w1.heap.size + 1 + 1 + 1 + 1, 0, none⟩) := (hf 10 (by kernel_rfl)).trans rfl
        have s52 : a.eval (.tmp 52) = .bool true := slot hb 0 18 52 rfl rfl
        rw [if_pos (wanted_of (g := 18) (d := 52) (b := true) rfl rfl s52)]
        obtain ⟨_, d0, d1, d2, d3⟩ := HF.out.c10.below hS
        simp only [Nat.zero_add] at d1 d2 d3
        refine does_val (v := .agg #[.string f.n, .string ⟨#[]⟩, .bool true, .bool false]) (w' := wx) ?_ ⟨rfl, Below.refl _ _⟩
        have t10 := (ev_tmp a 10).symm.trans s10
        simp [execOp, go_sem, t10, d0, d1, d2, d3]
      · intro a wx hS hb hf
        have s1 : a.eval (.tmp 1) = .slice sa sl sc := (hf 1 (by kernel_rfl)).trans rfl
        have s52 : a.eval (.tmp 52) = .bool true := slot hb 0 18 52 rfl rfl
        rw [if_pos (wanted_of (g := 18) (d := 52) (b := true) rfl rfl s52)]
        refine does_val (v := .slice sa sl sc) (w' := wx) ?_ ⟨rfl, Below.refl _ _⟩
        have t1 := (ev_tmp a 1).symm.trans s1
        simp [execOp, go_sem, t1]
      · intro a wx hS hb hf
        have s53 : a.eval (.tmp 53) = .agg #[.string f.n, .string ⟨#[]⟩, .bool true, .bool false] := slot hb 0 19 53 rfl rfl
        have s54 : a.eval (.tmp 54) = .slice sa sl sc := slot hb 1 20 54 rfl rfl
        have s52 : a.eval (.tmp 52) = .bool true := slot hb 2 18 52 rfl rfl
        rw [if_pos (wanted_of (g := 18) (d := 52) (b := true) rfl rfl s52)]
        have t53 := (ev_tmp a 53).symm.trans s53
        have t54 := (ev_tmp a 54).symm.trans s54
        refine does_call (f := 10) (args := #[.agg #[.string f.n, .string ⟨#[]⟩, .bool true, .bool false], .slice sa sl sc]) (w' := wx) (by simp [go_sem, t53, t54]) ?_
        refine Calls.mono (HO.out ⟨f.n, ⟨#[]⟩, true, false⟩ wx hS) ?_
        rintro r w' ⟨rfl, hb'⟩
        exact ⟨_, rfl, congrArg Value.bool HR.out.2.2.2.2.1, hb'⟩
      · intro a wx hS hb hf
        have s52 : a.eval (.tmp 52) = .bool true := slot hb 0 18 52 rfl rfl
        have s55 : a.eval (.tmp 55) = .bool true := slot hb 1 21 55 rfl rfl
        rw [if_pos (wanted_none rfl)]
        refine does_val (v := .bool true) (w' := wx) ?_ ⟨rfl, Below.refl _ _⟩
        have t52 := (ev_tmp a 52).symm.trans s52
        have t55 := (ev_tmp a 55).symm.trans s55
        simp [execOp, go_sem, t52, t55]
      · intro a wx hS hb hf
        have s56 : a.eval (.tmp 56) = .bool true := slot hb 0 22 56 rfl rfl
        rw [if_pos (wanted_none rfl)]
        refine does_val (v := .bool true) (w' := wx) ?_ ⟨rfl, Below.refl _ _⟩
        have t56 := (ev_tmp a 56).symm.trans s56
        simp [execOp, go_sem, t56]
      · intro a wx hS hb hf
        have s2 : a.eval (.tmp 2) = .pointer (some ⟨w.heap.size, 0, none⟩) := (hf 2 (by kernel_rfl)).trans rfl
        have s57 : a.eval (.tmp 57) = .bool true := slot hb 0 23 57 rfl rfl
        rw [if_pos (wanted_of (g := 23) (d := 57) (b := true) rfl rfl s57)]
        obtain ⟨_, d0, d1, d2, d3⟩ := HF.out.c2.below hS
        simp only [Nat.zero_add] at d1 d2 d3
        refine does_val (v := .agg #[.string f.n, .string f.v, .bool f.p, .bool f.t]) (w' := wx) ?_ ⟨rfl, Below.refl _ _⟩
        have t2 := (ev_tmp a 2).symm.trans s2
        simp [execOp, go_sem, t2, d0, d1, d2, d3]
      · intro a wx hS hb hf
        have s7 : a.eval (.tmp 7) = .pointer (some ⟨w1.heap.size + 1, 0, none⟩) := (hf 7 (by kernel_rfl)).trans rfl
        have s57 : a.eval (.tmp 57) = .bool true := slot hb 0 23 57 rfl rfl
        rw [if_pos (wanted_of (g := 23) (d := 57) (b := true) rfl rfl s57)]
        obtain ⟨_, d0, d1, d2, d3⟩ := HF.out.c7.below hS
        simp only [Nat.zero_add] at d1 d2 d3
        refine does_val (v := .agg #[.string f.n, .string f.v, .bool f.p, .bool (!f.t)]) (w' := wx) ?_ ⟨rfl, Below.refl _ _⟩
        have t7 := (ev_tmp a 7).symm.trans s7
        simp [execOp, go_sem, t7, d0, d1, d2, d3]
      · intro a wx hS hb hf
        have s58 : a.eval (.tmp 58) = .agg #[.string f.n, .string f.v, .bool f.p, .bool f.t] := slot hb 0 24 58 rfl rfl
        have s59 : a.eval (.tmp 59) = .agg #[.string f.n, .string f.v, .bool f.p, .bool (!f.t)] := slot hb 1 25 59 rfl rfl
        have s57 : a.eval (.tmp 57) = .bool true := slot hb 2 23 57 rfl rfl
        rw [if_pos (wanted_of (g := 23) (d := 57) (b := true) rfl rfl s57)]
        have t58 := (ev_tmp a 58).symm.trans s58
        have t59 := (ev_tmp a 59).symm.trans s59
        refine does_val (v := .slice (some ⟨wx.heap.size, 0, none⟩) 2 2) (w' := wx.alloc (.cells #[.string f.n, .string f.v, .bool f.p, .bool f.t, .string f.n, .string f.v, .bool f.p, .bool (!f.t)] 28)) ?_ ⟨⟨_, rfl, isF_two wx f ⟨f.n, f.v, f.p, !f.t⟩⟩, (Below.refl _ _).alloc (Nat.le_refl _) _⟩
        simp [execOp, go_sem, t58, t59]
      · intro a wx hS hb hf
        have s1 : a.eval (.tmp 1) = .slice sa sl sc := (hf 1 (by kernel_rfl)).trans rfl
        have s57 : a.eval (.tmp 57) = .bool true := slot hb 0 23 57 rfl rfl
        rw [if_pos (wanted_of (g := 23) (d := 57) (b := true) rfl rfl s57)]
        refine does_val (v := .slice sa sl sc) (w' := wx) ?_ ⟨rfl, Below.refl _ _⟩
        have t1 := (ev_tmp a 1).symm.trans s1
        simp [execOp, go_sem, t1]
      · intro a wx hS hb hf
        have s61 : a.eval (.tmp 61) = .slice sa sl sc := slot hb 1 27 61 rfl rfl
        have s57 : a.eval (.tmp 57) = .bool true := slot hb 2 23 57 rfl rfl
        rw [if_pos (wanted_of (g := 23) (d := 57) (b := true) rfl rfl s57)]
        obtain ⟨g', e', hI'⟩ : ∃ g, a.eval (.tmp 60) = .slice (some ⟨g, 0, none⟩) 2 2 ∧ IsF wx (some ⟨g, 0, none⟩) 2 2 [f, ⟨f.n, f.v, f.p, !f.t⟩] := slot hb 0 26 60 rfl rfl
        have t60 := (ev_tmp a 60).symm.trans e'
        have t61 := (ev_tmp a 61).symm.trans s61
        refine does_call (f := 14) (args := #[.slice (some ⟨g', 0, none⟩) 2 2, .slice sa sl sc]) (w' := wx) (by simp [go_sem, t60, t61]) ?_
        refine Calls.mono (all_any _ 2 2 [f, ⟨f.n, f.v, f.p, !f.t⟩] sa sl sc ls wx hI' HW.out (HL.out wx hS)) ?_
        rintro r' w' ⟨rfl, hb'⟩
        exact ⟨_, rfl, congrArg Value.bool HR.out.2.2.2.2.2, hb'⟩
      · intro a wx hS hb hf
        have s62 : a.eval (.tmp 62) = .bool false := slot hb 0 28 62 rfl rfl
        have s57 : a.eval (.tmp 57) = .bool true := slot hb 1 23 57 rfl rfl
        rw [if_pos (wanted_of (g := 23) (d := 57) (b := true) rfl rfl s57)]
        refine does_val (v := .bool true) (w' := wx) ?_ ⟨rfl, Below.refl _ _⟩
        have t62 := (ev_tmp a 62).symm.trans s62
        simp [execOp, go_sem, t62]
      · intro a wx hS hb hf
        have s57 : a.eval (.tmp 57) = .bool true := slot hb 0 23 57 rfl rfl
        have s63 : a.eval (.tmp 63) = .bool true := slot hb 1 29 63 rfl rfl
        rw [if_pos (wanted_none rfl)]
        refine does_val (v := .bool true) (w' := wx) ?_ ⟨rfl, Below.refl _ _⟩
        have t57 := (ev_tmp a 57).symm.trans s57
        have t63 := (ev_tmp a 63).symm.trans s63
        simp [execOp, go_sem, t57, t63]
      · intro a wx hS hb hf
        have s64 : a.eval (.tmp 64) = .bool true := slot hb 0 30 64 rfl rfl
        rw [if_pos (wanted_none rfl)]
        refine does_val (v := .bool true) (w' := wx) ?_ ⟨rfl, Below.refl _ _⟩
        have t64 := (ev_tmp a 64).symm.trans s64
        simp [execOp, go_sem, t64]
      rename_i hK
      intro a u hbu hts hd hdone hfree
      exact hK _ _ (ret_K (t := 4) rfl hd (done_slot hdone 31 4 rfl) ⟨rfl, HB.out.trans (hbu.mono HB.out.size)⟩)
    | false =>
      have HR : Hid (one ⟨f.n, f.v, f.p, f.t⟩ ls = r ∧ one ⟨f.n, f.v, f.p, !f.t⟩ ls = (!r) ∧ one ⟨f.n, f.v, false, false⟩ ls = false ∧ True ∧ one ⟨f.n, ⟨#[]⟩, true, false⟩ ls = true ∧ all [f, ⟨f.n, f.v, f.p, !f.t⟩] ls = false) := ⟨hr.out.symm, by rw [one_not, hr.out], he, trivial, one_every _ _, all_both _ _⟩
      clear he hr
      go_wp2_with fail
      refine wp_region_K (by kernel_rfl) (by kernel_rfl) [.eq (.agg #[.string f.n, .string f.v, .bool f.p, .bool f.t]), .eq (.slice sa sl sc), .eq (.bool r), .eq (.agg #[.string f.n, .string f.v, .bool f.p, .bool (!f.t)]), .eq (.slice sa sl sc), .eq (.bool (!r)), .eq (.bool true), .eq (.bool true), .eq (.agg #[.string f.n, .string f.v, .bool false, .bool false]), .eq (.slice sa sl sc), .eq (.bool false), .eq (.bool true), .eq (.bool true), .eq (undef), .eq (undef), .eq (undef), .eq (.bool true), .eq (.bool true), .eq (.bool true), .eq (.agg #[.string f.n, .string ⟨#[]⟩, .bool true, .bool false]), .eq (.slice sa sl sc), .eq (.bool true), .eq (.bool true), .eq (.bool true), .eq (.agg #[.string f.n, .string f.v, .bool f.p, .bool f.t]), .eq (.agg #[.string f.n, .string f.v, .bool f.p, .bool (!f.t)]), ⟨fun v W => ∃ g, v = .slice (some ⟨g, 0, none⟩) 2 2 ∧ IsF W (some ⟨g, 0, none⟩) 2 2 [f, ⟨f.n, f.v, f.p, !f.t⟩], fun _ _ _ ⟨g, h1, h2⟩ hb => ⟨g, h1, h2.below hb⟩⟩, .eq (.slice sa sl sc), .eq (.bool false), .eq (.bool true), .eq (.bool true), .eq (.bool true)] (((((w1.alloc (Obj.cells #[.string f.n, .string f.v, .bool f.p, .bool f.t] 28)).alloc (Obj.cells #[.string f.n, .string f.v, .bool f.p, .bool (!f.t)] 28)).alloc (Obj.cells #[.string f.n, .string f.v, .bool true, .bool false] 28)).alloc (Obj.cells #[.string f.n, .string f.v, .bool false, .bool false] 28)).alloc (Obj.cells #[.string f.n, .string ⟨#[]⟩, .bool true, .bool false] 28)) (Below.refl _ _) (allOps_cons ?_ (allOps_cons ?_ (allOps_cons ?_ (allOps_cons ?_ (allOps_cons ?_ (allOps_cons ?_ (allOps_cons ?_ (allOps_cons ?_ (allOps_cons ?_ (allOps_cons ?_ (allOps_cons ?_ (allOps_cons ?_ (allOps_cons ?_ (allOps_cons ?_ (allOps_cons ?_ (allOps_cons ?_ (allOps_cons ?_ (allOps_cons ?_ (allOps_cons ?_ (allOps_cons ?_ (allOps_cons ?_ (allOps_cons ?_ (allOps_cons ?_ (allOps_cons ?_ (allOps_cons ?_ (allOps_cons ?_ (allOps_cons ?_ (allOps_cons ?_ (allOps_cons ?_ (allOps_cons ?_ (allOps_cons ?_ (allOps_cons ?_ allOps_nil)))))))))))))))))))))))))))))))) ?_
      · intro a wx hS hb hf
        have s2 : a.eval (.tmp 2) = .pointer (some ⟨w.heap.size, 0, none⟩) := (hf 2 (by kernel_rfl)).trans rfl
        rw [if_pos (wanted_none rfl)]
        obtain ⟨_, d0, d1, d2, d3⟩ := HF.out.c2.below hS
        simp only [Nat.zero_add] at d1 d2 d3
        refine does_val (v := .agg #[.string f.n, .string f.v, .bool f.p, .bool f.t]) (w' := wx) ?_ ⟨rfl, Below.refl _ _⟩
        have t2 := (ev_tmp a 2).symm.trans s2
        simp [execOp, go_sem, t2, d0, d1, d2, d3]
      · intro a wx hS hb hf
        have s1 : a.eval (.tmp 1) = .slice sa sl sc := (hf 1 (by kernel_rfl)).trans rfl
        rw [if_pos (wanted_none rfl)]
        refine does_val (v := .slice sa sl sc) (w' := wx) ?_ ⟨rfl, Below.refl _ _⟩
        have t1 := (ev_tmp a 1).symm.trans s1
        simp [execOp, go_sem, t1]
      · intro a wx hS hb hf
        have s34 : a.eval (.tmp 34) = .agg #[.string f.n, .string f.v, .bool f.p, .bool f.t] := slot hb 0 0 34 rfl rfl
        have s35 : a.eval (.tmp 35) = .slice sa sl sc := slot hb 1 1 35 rfl rfl
        rw [if_pos (wanted_none rfl)]
        have t34 := (ev_tmp a 34).symm.trans s34
        have t35 := (ev_tmp a 35).symm.trans s35
        refine does_call (f := 10) (args := #[.agg #[.string f.n, .string f.v, .bool f.p, .bool f.t], .slice sa sl sc]) (w' := wx) (by simp [go_sem, t34, t35]) ?_
        refine Calls.mono (HO.out ⟨f.n, f.v, f.p, f.t⟩ wx hS) ?_
        rintro r w' ⟨rfl, hb'⟩
        exact ⟨_, rfl, congrArg Value.bool (HR.out.1), hb'⟩
      · intro a wx hS hb hf
        have s7 : a.eval (.tmp 7) = .pointer (some ⟨w1.heap.size + 1, 0, none⟩) := (hf 7 (by kernel_rfl)).trans rfl
        rw [if_pos (wanted_none rfl)]
        obtain ⟨_, d0, d1, d2, d3⟩ := HF.out.c7.below hS
        simp only [Nat.zero_add] at d1 d2 d3
        refine does_val (v := .agg #[.string f.n, .string f.v, .bool f.p, .bool (!f.t)]) (w' := wx) ?_ ⟨rfl, Below.refl _ _⟩
        have t7 := (ev_tmp a 7).symm.trans s7
        simp [execOp, go_sem, t7, d0, d1, d2, d3]
      · intro a wx hS hb hf
        have s1 : a.eval (.tmp 1) = .slice sa sl sc := (hf 1 (by kernel_rfl)).trans rfl
        rw [if_pos (wanted_none rfl)]
        refine does_val (v := .slice sa sl sc) (w' := wx) ?_ ⟨rfl, Below.refl _ _⟩
        have t1 := (ev_tmp a 1).symm.trans s1
        simp [execOp, go_sem, t1]
      · intro a wx hS hb hf
        have s37 : a.eval (.tmp 37) = .agg #[.string f.n, .string f.v, .bool f.p, .bool (!f.t)] := slot hb 0 3 37 rfl rfl
        have s38 : a.eval (.tmp 38) = .slice sa sl sc := slot hb 1 4 38 rfl rfl
        rw [if_pos (wanted_none rfl)]
        have t37 := (ev_tmp a 37).symm.trans s37
        have t38 := (ev_tmp a 38).symm.trans s38
        refine does_call (f := 10) (args := #[.agg #[.string f.n, .string f.v, .bool f.p, .bool (!f.t)], .slice sa sl sc]) (w' := wx) (by simp [go_sem, t37, t38]) ?_
        refine Calls.mono (HO.out ⟨f.n, f.v, f.p, (!f.t)⟩ wx hS) ?_
        rintro r w' ⟨rfl, hb'⟩
        exact ⟨_, rfl, congrArg Value.bool (HR.out.2.1), hb'⟩
      · intro a wx hS hb hf
        have s36 : a.eval (.tmp 36) = .bool r := slot hb 0 2 36 rfl rfl
        have s39 : a.eval (.tmp 39) = .bool (!r) := slot hb 1 5 39 rfl rfl
        rw [if_pos (wanted_none rfl)]
        refine does_val (v := .bool true) (w' := wx) ?_ ⟨rfl, Below.refl _ _⟩
        have t36 := (ev_tmp a 36).symm.trans s36
        have t39 := (ev_tmp a 39).symm.trans s39
        cases r <;> simp [execOp, go_sem, t36, t39]
      · intro a wx hS hb hf
        have s40 : a.eval (.tmp 40) = .bool true := slot hb 0 6 40 rfl rfl
        rw [if_pos (wanted_none rfl)]
        refine does_val (v := .bool true) (w' := wx) ?_ ⟨rfl, Below.refl _ _⟩
        have t40 := (ev_tmp a 40).symm.trans s40
        simp [execOp, go_sem, t40]
      · intro a wx hS hb hf
        have s9 : a.eval (.tmp 9) = .pointer (some ⟨w1.heap.size + 1 + 1 + 1, 0, none⟩) := (hf 9 (by kernel_rfl)).trans rfl
        have s41 : a.eval (.tmp 41) = .bool true := slot hb 0 7 41 rfl rfl
        rw [if_pos (wanted_of (g := 7) (d := 41) (b := true) rfl rfl s41)]
        obtain ⟨_, d0, d1, d2, d3⟩ := HF.out.c9.below hS
        simp only [Nat.zero_add] at d1 d2 d3
        refine does_val (v := .agg #[.string f.n, .string f.v, .bool false, .bool false]) (w' := wx) ?_ ⟨rfl, Below.refl _ _⟩
        have t9 := (ev_tmp a 9).symm.trans s9
        simp [execOp, go_sem, t9, d0, d1, d2, d3]
      · intro a wx hS hb hf
        have s1 : a.eval (.tmp 1) = .slice sa sl sc := (hf 1 (by kernel_rfl)).trans rfl
        have s41 : a.eval (.tmp 41) = .bool true := slot hb 0 7 41 rfl rfl
        rw [if_pos (wanted_of (g := 7) (d := 41) (b := true) rfl rfl s41)]
        refine does_val (v := .slice sa sl sc) (w' := wx) ?_ ⟨rfl, Below.refl _ _⟩
        have t1 := (ev_tmp a 1).symm.trans s1
        simp [execOp, go_sem, t1]
      · intro a wx hS hb hf
        have s42 : a.eval (.tmp 42) = .agg #[.string f.n, .string f.v, .bool false, .bool false] := slot hb 0 8 42 rfl rfl
        have s43 : a.eval (.tmp 43) = .slice sa sl sc := slot hb 1 9 43 rfl rfl
        have s41 : a.eval (.tmp 41) = .bool true := slot hb 2 7 41 rfl rfl
        rw [if_pos (wanted_of (g := 7) (d := 41) (b := true) rfl rfl s41)]
        have t42 := (ev_tmp a 42).symm.trans s42
        have t43 := (ev_tmp a 43).symm.trans s43
        refine does_call (f := 10) (args := #[.agg #[.string f.n, .string f.v, .bool false, .bool false], .slice sa sl sc]) (w' := wx) (by simp [go_sem, t42, t43]) ?_
        refine Calls.mono (HO.out ⟨f.n, f.v, false, false⟩ wx hS) ?_
        rintro r w' ⟨rfl, hb'⟩
        exact ⟨_, rfl, congrArg Value.bool HR.out.2.2.1, hb'⟩
      · intro a wx hS hb hf
        have s44 : a.eval (.tmp 44) = .bool false := slot hb 0 10 44 rfl rfl
        have s41 : a.eval (.tmp 41) = .bool true := slot hb 1 7 41 rfl rfl
        rw [if_pos (wanted_of (g := 7) (d := 41) (b := true) rfl rfl s41)]
        refine does_val (v := .bool true) (w' := wx) ?_ ⟨rfl, Below.refl _ _⟩
        have t44 := (ev_tmp a 44).symm.trans s44
        simp [execOp, go_sem, t44]
      · intro a wx hS hb hf
        have s45 : a.eval (.tmp 45) = .bool true := slot hb 0 11 45 rfl rfl
        have s41 : a.eval (.tmp 41) = .bool true := slot hb 2 7 41 rfl rfl
        rw [if_pos (wanted_of (g := 7) (d := 41) (b := true) rfl rfl s41)]
        refine does_val (v := .bool true) (w' := wx) ?_ ⟨rfl, Below.refl _ _⟩
        have t45 := (ev_tmp a 45).symm.trans s45
        simp [execOp, go_sem, t45]
      · intro a wx hS hb hf
        have s8 : a.eval (.tmp 8) = .pointer (some ⟨w1.heap.size + 1 + 1, 0, none⟩) := (hf 8 (by kernel_rfl)).trans rfl
        have s46 : a.eval (.tmp 46) = .bool true := slot hb 0 12 46 rfl rfl
        rw [if_neg (wanted_not (g := 12) (d := 46) (b := false) rfl rfl s46)]
        exact rfl
      · intro a wx hS hb hf
        have s1 : a.eval (.tmp 1) = .slice sa sl sc := (hf 1 (by kernel_rfl)).trans rfl
        have s46 : a.eval (.tmp 46) = .bool true := slot hb 0 12 46 rfl rfl
        rw [if_neg (wanted_not (g := 12) (d := 46) (b := false) rfl rfl s46)]
        exact rfl
      · intro a wx hS hb hf
        have s47 : a.eval (.tmp 47) = undef := slot hb 0 13 47 rfl rfl
        have s48 : a.eval (.tmp 48) = undef := slot hb 1 14 48 rfl rfl
        have s46 : a.eval (.tmp 46) = .bool true := slot hb 2 12 46 rfl rfl
        rw [if_neg (wanted_not (g := 12) (d := 46) (b := false) rfl rfl s46)]
        exact rfl
      · intro a wx hS hb hf
        have s46 : a.eval (.tmp 46) = .bool true := slot hb 0 12 46 rfl rfl
        have s49 : a.eval (.tmp 49) = undef := slot hb 1 15 49 rfl rfl
        have s41 : a.eval (.tmp 41) = .bool true := slot hb 2 7 41 rfl rfl
        rw [if_pos (wanted_of (g := 7) (d := 41) (b := true) rfl rfl s41)]
        refine does_val (v := .bool true) (w' := wx) ?_ ⟨rfl, Below.refl _ _⟩
        have t46 := (ev_tmp a 46).symm.trans s46
        have t49 := (ev_tmp a 49).symm.trans s49
        simp [execOp, go_sem, t46, t49]
      · intro a wx hS hb hf
        have s41 : a.eval (.tmp 41) = .bool true := slot hb 0 7 41 rfl rfl
        have s50 : a.eval (.tmp 50) = .bool true := slot hb 1 16 50 rfl rfl
        rw [if_pos (wanted_none rfl)]
        refine does_val (v := .bool true) (w' := wx) ?_ ⟨rfl, Below.refl _ _⟩
        have t41 := (ev_tmp a 41).symm.trans s41
        have t50 := (ev_tmp a 50).symm.trans s50
        simp [execOp, go_sem, t41, t50]
      · intro a wx hS hb hf
        have s51 : a.eval (.tmp 51) = .bool true := slot hb 0 17 51 rfl rfl
        rw [if_pos (wanted_none rfl)]
        refine does_val (v := .bool true) (w' := wx) ?_ ⟨rfl, Below.refl _ _⟩
        have t51 := (ev_tmp a 51).symm.trans s51
        simp [execOp, go_sem, t51]
      · intro a wx hS hb hf
        have s10 : a.eval (.tmp 10) = .pointer (some ⟨w1.heap.size + 1 + 1 + 1 + 1, 0, none⟩) := (hf 10 (by kernel_rfl)).trans rfl
        have s52 : a.eval (.tmp 52) = .bool true := slot hb 0 18 52 rfl rfl
        rw [if_pos (wanted_of (g := 18) (d := 52) (b := true) rfl rfl s52)]
        obtain ⟨_, d0, d1, d2, d3⟩ := HF.out.c10.below hS
        simp only [Nat.zero_add] at d1 d2 d3
        refine does_val (v := .agg #[.string f.n, .string ⟨#[]⟩, .bool true, .bool false]) (w' := wx) ?_ ⟨rfl, Below.refl _ _⟩
        have t10 := (ev_tmp a 10).symm.trans s10
        simp [execOp, go_sem, t10, d0, d1, d2, d3]
      · intro a wx hS hb hf
        have s1 : a.eval (.tmp 1) = .slice sa sl sc := (hf 1 (by kernel_rfl)).trans rfl
        have s52 : a.eval (.tmp 52) = .bool true := slot hb 0 18 52 rfl rfl
        rw [if_pos (wanted_of (g := 18) (d := 52) (b := true) rfl rfl s52)]
        refine does_val (v := .slice sa sl sc) (w' := wx) ?_ ⟨rfl, Below.refl _ _⟩
        have t1 := (ev_tmp a 1).symm.trans s1
        simp [execOp, go_sem, t1]
      · intro a wx hS hb hf
        have s53 : a.eval (.tmp 53) = .agg #[.string f.n, .string ⟨#[]⟩, .bool true, .bool false] := slot hb 0 19 53 rfl rfl
        have s54 : a.eval (.tmp 54) = .slice sa sl sc := slot hb 1 20 54 rfl rfl
        have s52 : a.eval (.tmp 52) = .bool true := slot hb 2 18 52 rfl rfl
        rw [if_pos (wanted_of (g := 18) (d := 52) (b := true) rfl rfl s52)]
        have t53 := (ev_tmp a 53).symm.trans s53
        have t54 := (ev_tmp a 54).symm.trans s54
        refine does_call (f := 10) (args := #[.agg #[.string f.n, .string ⟨#[]⟩, .bool true, .bool false], .slice sa sl sc]) (w' := wx) (by simp [go_sem, t53, t54]) ?_
        refine Calls.mono (HO.out ⟨f.n, ⟨#[]⟩, true, false⟩ wx hS) ?_
        rintro r w' ⟨rfl, hb'⟩
        exact ⟨_, rfl, congrArg Value.bool HR.out.2.2.2.2.1, hb'⟩
      · intro a wx hS hb hf
        have s52 : a.eval (.tmp 52) = .bool true := slot hb 0 18 52 rfl rfl
        have s55 : a.eval (.tmp 55) = .bool true := slot hb 1 21 55 rfl rfl
        rw [if_pos (wanted_none rfl)]
        refine does_val (v := .bool true) (w' := wx) ?_ ⟨rfl, Below.refl _ _⟩
        have t52 := (ev_tmp a 52).symm.trans s52
        have t55 := (ev_tmp a 55).symm.trans s55
        simp [execOp, go_sem, t52, t55]
      · intro a wx hS hb hf
        have s56 : a.eval (.tmp 56) = .bool true := slot hb 0 22 56 rfl rfl
        rw [if_pos (wanted_none rfl)]
        refine does_val (v := .bool true) (w' := wx) ?_ ⟨rfl, Below.refl _ _⟩
        have t56 := (ev_tmp a 56).symm.trans s56
        simp [execOp, go_sem, t56]
      · intro a wx hS hb hf
        have s2 : a.eval (.tmp 2) = .pointer (some ⟨w.heap.size, 0, none⟩) := (hf 2 (by kernel_rfl)).trans rfl
        have s57 : a.eval (.tmp 57) = .bool true := slot hb 0 23 57 rfl rfl
        rw [if_pos (wanted_of (g := 23) (d := 57) (b := true) rfl rfl s57)]
        obtain ⟨_, d0, d1, d2, d3⟩ := HF.out.c2.below hS
        simp only [Nat.zero_add] at d1 d2 d3
        refine does_val (v := .agg #[.string f.n, .string f.v, .bool f.p, .bool f.t]) (w' := wx) ?_ ⟨rfl, Below.refl _ _⟩
        have t2 := (ev_tmp a 2).symm.trans s2
        simp [execOp, go_sem, t2, d0, d1, d2, d3]
      · intro a wx hS hb hf
        have s7 : a.eval (.tmp 7) = .pointer (some ⟨w1.heap.size + 1, 0, none⟩) := (hf 7 (by kernel_rfl)).trans rfl
        have s57 : a.eval (.tmp 57) = .bool true := slot hb 0 23 57 rfl rfl
        rw [if_pos (wanted_of (g := 23) (d := 57) (b := true) rfl rfl s57)]
        obtain ⟨_, d0, d1, d2, d3⟩ := HF.out.c7.below hS
        simp only [Nat.zero_add] at d1 d2 d3
        refine does_val (v := .agg #[.string f.n, .string f.v, .bool f.p, .bool (!f.t)]) (w' := wx) ?_ ⟨rfl, Below.refl _ _⟩
        have t7 := (ev_tmp a 7).symm.trans s7
        simp [execOp, go_sem, t7, d0, d1, d2, d3]
      · intro a wx hS hb hf
        have s58 : a.eval (.tmp 58) = .agg #[.string f.n, .string f.v, .bool f.p, .bool f.t] := slot hb 0 24 58 rfl rfl
        have s59 : a.eval (.tmp 59) = .agg #[.string f.n, .string f.v, .bool f.p, .bool (!f.t)] := slot hb 1 25 59 rfl rfl
        have s57 : a.eval (.tmp 57) = .bool true := slot hb 2 23 57 rfl rfl
        rw [if_pos (wanted_of (g := 23) (d := 57) (b := true) rfl rfl s57)]
        have t58 := (ev_tmp a 58).symm.trans s58
        have t59 := (ev_tmp a 59).symm.trans s59
        refine does_val (v := .slice (some ⟨wx.heap.size, 0, none⟩) 2 2) (w' := wx.alloc (.cells #[.string f.n, .string f.v, .bool f.p, .bool f.t, .string f.n, .string f.v, .bool f.p, .bool (!f.t)] 28)) ?_ ⟨⟨_, rfl, isF_two wx f ⟨f.n, f.v, f.p, !f.t⟩⟩, (Below.refl _ _).alloc (Nat.le_refl _) _⟩
        simp [execOp, go_sem, t58, t59]
      · intro a wx hS hb hf
        have s1 : a.eval (.tmp 1) = .slice sa sl sc := (hf 1 (by kernel_rfl)).trans rfl
        have s57 : a.eval (.tmp 57) = .bool true := slot hb 0 23 57 rfl rfl
        rw [if_pos (wanted_of (g := 23) (d := 57) (b := true) rfl rfl s57)]
        refine does_val (v := .slice sa sl sc) (w' := wx) ?_ ⟨rfl, Below.refl _ _⟩
        have t1 := (ev_tmp a 1).symm.trans s1
        simp [execOp, go_sem, t1]
      · intro a wx hS hb hf
        have s61 : a.eval (.tmp 61) = .slice sa sl sc := slot hb 1 27 61 rfl rfl
        have s57 : a.eval (.tmp 57) = .bool true := slot hb 2 23 57 rfl rfl
        rw [if_pos (wanted_of (g := 23) (d := 57) (b := true) rfl rfl s57)]
        obtain ⟨g', e', hI'⟩ : ∃ g, a.eval (.tmp 60) = .slice (some ⟨g, 0, none⟩) 2 2 ∧ IsF wx (some ⟨g, 0, none⟩) 2 2 [f, ⟨f.n, f.v, f.p, !f.t⟩] := slot hb 0 26 60 rfl rfl
        have t60 := (ev_tmp a 60).symm.trans e'
        have t61 := (ev_tmp a 61).symm.trans s61
        refine does_call (f := 14) (args := #[.slice (some ⟨g', 0, none⟩) 2 2, .slice sa sl sc]) (w' := wx) (by simp [go_sem, t60, t61]) ?_
        refine Calls.mono (all_any _ 2 2 [f, ⟨f.n, f.v, f.p, !f.t⟩] sa sl sc ls wx hI' HW.out (HL.out wx hS)) ?_
        rintro r' w' ⟨rfl, hb'⟩
        exact ⟨_, rfl, congrArg Value.bool HR.out.2.2.2.2.2, hb'⟩
      · intro a wx hS hb hf
        have s62 : a.eval (.tmp 62) = .bool false := slot hb 0 28 62 rfl rfl
        have s57 : a.eval (.tmp 57) = .bool true := slot hb 1 23 57 rfl rfl
        rw [if_pos (wanted_of (g := 23) (d := 57) (b := true) rfl rfl s57)]
        refine does_val (v := .bool true) (w' := wx) ?_ ⟨rfl, Below.refl _ _⟩
        have t62 := (ev_tmp a 62).symm.trans s62
        simp [execOp, go_sem, t62]
      · intro a wx hS hb hf
        have s57 : a.eval (.tmp 57) = .bool true := slot hb 0 23 57 rfl rfl
        have s63 : a.eval (.tmp 63) = .bool true := slot hb 1 29 63 rfl rfl
        rw [if_pos (wanted_none rfl)]
        refine does_val (v := .bool true) (w' := wx) ?_ ⟨rfl, Below.refl _ _⟩
        have t57 := (ev_tmp a 57).symm.trans s57
        have t63 := (ev_tmp a 63).symm.trans s63
        simp [execOp, go_sem, t57, t63]
      · intro a wx hS hb hf
        have s64 : a.eval (.tmp 64) = .bool true := slot hb 0 30 64 rfl rfl
        rw [if_pos (wanted_none rfl)]
        refine does_val (v := .bool true) (w' := wx) ?_ ⟨rfl, Below.refl _ _⟩
        have t64 := (ev_tmp a 64).symm.trans s64
        simp [execOp, go_sem, t64]
      rename_i hK
      intro a u hbu hts hd hdone hfree
      exact hK _ _ (ret_K (t := 4) rfl hd (done_slot hdone 31 4 rfl) ⟨rfl, HB.out.trans (hbu.mono HB.out.size)⟩)

set_option maxRecDepth 100000 in
theorem filterNot_lifted (os : Os) (started : os.Started) (H : Type) (enc : TypeId × Value → H) :
    ReturnsInHanded {} Try.checked os 5 .any (Rows.filterNotSpec.pre6 enc Try.prog Try.f5 Rows.filterNotRow.domain false) (Rows.filterNotSpec.post enc Try.prog Try.f5 false true false false) := by
  refine returnsInHanded_of_change (C := Try.checked) own started (by kernel_rfl) Try.func5
    (ChangeSpec.witness6 (enc := enc) (C := Try.checked) false ⟨#[], #[.agg #[.string ⟨#[]⟩, .string ⟨#[]⟩, .bool false, .bool false], .slice none 0 0], []⟩ 8 (by kernel_rfl) (by kernel_rfl) (by kernel_rfl) (by kernel_rfl)) ?_
  intro W base args ds gs before hval0 hW hcnd _
  have hval : ∀ (j : Nat) t v, Try.f5.params[j]? = some t → args[j]? = some v → Value.okWide Try.prog W .any base t v := hval0
  have hW' := hW
  obtain ⟨p, q, hA0, hV, rfl, hfz, hnd⟩ := hW
  have hA : DataW.TrodAll enc Try.prog W 0 (fun _ => true) true Try.f5.params.toList args.toList ds p := hA0
  rw [Try.params5] at hA hval
  obtain ⟨v0, vs0, d0, ds0, p0, q0, hargs, rfl, rfl, h0, r0⟩ := trodAll_cons hA
  obtain ⟨v1, vs1, d1, ds1, p1, q1, rfl, rfl, rfl, h1, r1⟩ := trodAll_cons r0
  obtain ⟨rfl, rfl, rfl⟩ := trodAll_nil r1
  obtain rfl : args = #[v0, v1] := by cases args; simp_all
  obtain ⟨rfl, rfl⟩ := trodVars_none hV
  obtain ⟨f0, rfl, rfl, w0, sh0⟩ := open_f (hval 0 28 v0 rfl rfl) h0
  obtain ⟨a1, len1, cap1, rfl⟩ := okWide_slice Try.underlying23 (hval 1 23 v1 rfl rfl)
  have k1 := h1
  have lt1 : ∀ x ∈ p1, x.block < W.heap.size := by obtain ⟨m, hm⟩ := k1; exact DataW.trod_lt m _ _ _ hm
  obtain ⟨vl1, w1, wf1⟩ : ∃ ls, IsL W a1 len1 cap1 ls ∧ WfL ls := by obtain ⟨fuel, hf⟩ := h1; exact isL_of hf
  clear hA0 hval0
  refine (filterNot_walk f0 w0 a1 len1 cap1 vl1 w1 wf1 rfl).mono fun e W' ⟨he, hb⟩ => ?_
  subst he
  exact ⟨_, rfl, _, _, _, [], _, [], hW', trodAll_mk1 (shut_bool Try.underlying4 _), (trodAll_cons_mk (sh0 _ _ _ _) (trodAll_cons_mk (Below.trod laidOut (by kernel_rfl) (of_decide_eq_true (by kernel_rfl)) k1 hb lt1) trodAll_mk0)), rfl, hb.frame _, fun h => by cases h⟩

theorem filterNot_holds : Rows.FilterNotSaid :=
  OpenClaim.holds_of_wide 5 Try.f5 rfl rfl rfl rfl rfl rfl rfl ⟨rfl, rfl, rfl, rfl, rfl⟩ rfl rfl rfl rfl rfl (by kernel_rfl) Try.func5 (by kernel_rfl)
    (of_decide_eq_true (by kernel_rfl)) (by unfold Func.isWrapper; first | (rw [if_pos (by decide +kernel)]; kernel_rfl) | (rw [if_neg (by decide +kernel)]; exact ⟨rfl, rfl⟩))
    (fun os started H enc _ => filterNot_lifted os started H enc)
#print axioms filterNot_holds
end Go.Proofs.Ytejdpelolihpeaa
