/- For every row and kind, the row's code by that kind, the kind that is chosen, and the code by that are the document's: CodecEncodes returns true, and its arguments read as before. Conditions: the listed package variable starts as the program's text lays it (the card ties it). -/
import Derived.Test.YtbgipenonngccaaDoorRc
namespace Go.Proofs.YtbgipenonngccaaDoor
open Go.ChangeShapes Go.WideShapes Go.ChangeAt Go.RowKit Go.Lib

def Kd.rdn (cs : List Int) : Kd := ⟨fun v w => ∃ a c, v = .slice a cs.length c ∧ Rd .u8 w a cs, fun _ _ _ h hb => by
  obtain ⟨a, c, h1, h2⟩ := h
  exact ⟨a, c, h1, h2.below hb⟩⟩

set_option linter.unusedSimpArgs false in
set_option maxRecDepth 100000 in
set_option maxHeartbeats 6400000 in
theorem codecEncodes_walk {w : World} (a0 : Option Addr) (len cap : Nat) (ms : List Int) (hv : IsI .i64 w a0 len cap ms) (hwf : ∀ n ∈ ms, (Lit.int .i64 n).wf = true) (k : Int) (_ : -9223372036854775808 ≤ k ∧ k ≤ 9223372036854775807) (hF : Fw w) :
    Calls Tryd.prog 3 #[.slice a0 len cap, .int .i64 k] w fun e w' => e = .returned (.bool true) ∧ Below w.heap.size w w' := by
  have h64 := all64_of hwf
  have HW : Hid (Calls Tryd.prog 8 #[] w fun e w' => e = .returned (.bool true) ∧ Below w.heap.size w w') := awake_any w hF
  have HA : Hid (∀ (k : Int) w', Below w.heap.size w w' → Calls Tryd.prog 9 #[.int .i64 k, .slice a0 len cap] w' (AsIs k ms w')) := fun k w' hb => as_any k a0 len cap ms w' hv.hl hv.hc hv.hm (hv.rd.below hb) h64 (hF.below hb)
  have HCh : Hid (∀ w', Below w.heap.size w w' → Calls Tryd.prog 12 #[.slice a0 len cap] w' fun e w'' => e = .returned (.int .i64 (best ms)) ∧ Below w'.heap.size w' w'') := fun w' hb => choose_any a0 len cap ms w' hv.hl hv.hc hv.hm (hv.rd.below hb) h64 (hF.below hb)
  have HEn : Hid (∀ w', Below w.heap.size w w' → Calls Tryd.prog 13 #[.slice a0 len cap] w' (EncIs ms w')) := fun w' hb => encode_any a0 len cap ms w' hv.hl hv.hc hv.hm (hv.rd.below hb) h64 (hF.below hb)
  by_cases hlen : len ≤ 5000
  rotate_left
  · have h' : (5000 : Int) < (len : Int) := by omega
    clear hv hwf hF h64
    go_enter Tryd.func3, Tryd.ntmps3
    go_wp2_with fail
    refine Calls.mono HW.out ?_
    rintro e w1 ⟨rfl, hb1⟩
    go_wp2_with fail
    go_ret
    exact ⟨rfl, hb1⟩
  have h' : ¬ (5000 : Int) < (len : Int) := by omega
  have HRA : Hid (∀ (k : Int) w', Below w.heap.size w w' → Calls Tryd.prog 10 #[.int .i64 k, .slice a0 len cap] w' (AsIs k ms w')) := fun k w' hb => refas_any k a0 len cap ms w' hv.hl hlen hv.hc (hv.rd.below hb) h64
  have HRC : Hid (∀ w', Below w.heap.size w w' → Calls Tryd.prog 11 #[.slice a0 len cap] w' fun e w'' => e = .returned (.int .i64 (best ms)) ∧ Below w'.heap.size w' w'') := fun w' hb => refchoose_any a0 len cap ms w' hv.hl hlen hv.hc (hv.rd.below hb) h64
  clear hv hwf hF h64
  go_enter Tryd.func3, Tryd.ntmps3
  go_wp2_with fail
  refine Calls.mono HW.out ?_
  rintro e w1 ⟨rfl, hb1⟩
  go_wp2_with fail
  refine (HA.out k w1 hb1).mono ?_
  intro e w2 he
  obtain ⟨aA, cA, rfl, hrA, hb2⟩ := as_read he
  clear he
  have hbw2 : Below w.heap.size w w2 := hb1.trans (hb2.mono hb1.size)
  have HRdA : Hid _ := hrA
  clear hrA
  obtain ⟨q, hq⟩ : ∃ q, Hid (q = (codeI k ms).isSome) := ⟨_, rfl⟩
  obtain ⟨nA, hnA⟩ : ∃ q : Nat, Hid (q = ((codeI k ms).getD []).length) := ⟨_, rfl⟩
  rw [← hq.out, ← hnA.out]
  go_wp2_with fail
  refine (HRA.out k w2 hbw2).mono ?_
  intro e w3 he
  obtain ⟨aB, cB, rfl, hrB, hb3⟩ := as_read he
  clear he
  have hbw3 : Below w.heap.size w w3 := hbw2.trans (hb3.mono hbw2.size)
  have HRdB : Hid _ := hrB
  clear hrB
  rw [← hq.out, ← hnA.out]
  go_wp2_with fail
  refine (HRC.out w3 hbw3).mono ?_
  rintro e w4 ⟨rfl, hb4⟩
  have hbw4 : Below w.heap.size w w4 := hbw3.trans (hb4.mono hbw3.size)
  go_wp2_with fail
  refine (HRA.out (best ms) w4 hbw4).mono ?_
  intro e w5 he
  obtain ⟨aX, cX, rfl, hrX, hb5⟩ := as_read he
  clear he
  have hbw5 : Below w.heap.size w w5 := hbw4.trans (hb5.mono hbw4.size)
  have HRdX : Hid (Rd .u8 w5 aX ((codeI (best ms) ms).getD [])) := hrX
  clear hrX
  obtain ⟨qX, hqX⟩ : ∃ q, Hid (q = (codeI (best ms) ms).isSome) := ⟨_, rfl⟩
  obtain ⟨nX, hnX⟩ : ∃ q : Nat, Hid (q = ((codeI (best ms) ms).getD []).length) := ⟨_, rfl⟩
  rw [← hqX.out, ← hnX.out]
  obtain ⟨s, hs⟩ : ∃ s, Hid (s = strOfNums ((codeI k ms).getD [])) := ⟨_, rfl⟩
  obtain ⟨s2, hs2⟩ : ∃ s, Hid (s = strOfNums ((codeI (best ms) ms).getD [])) := ⟨_, rfl⟩
  have b35 : Below w3.heap.size w3 w5 := hb4.trans (hb5.mono hb4.size)
  have b25 : Below w2.heap.size w2 w5 := hb3.trans (b35.mono hb3.size)
  have HVA : Hid (∀ wx, Below w5.heap.size w5 wx → Sem.run Tryd.prog (convert 24 9 (.slice aA nA cA)) wx = .ok (.string s) wx) := fun wx hbx => by
    rw [hs.out]; exact conv_rd wx aA cA nA _ hnA.out.symm (Rd.below (Rd.below HRdA.out b25) hbx)
  have HVB : Hid (∀ wx, Below w5.heap.size w5 wx → Sem.run Tryd.prog (convert 24 9 (.slice aB nA cB)) wx = .ok (.string s) wx) := fun wx hbx => by
    rw [hs.out]; exact conv_rd wx aB cB nA _ hnA.out.symm (Rd.below (Rd.below HRdB.out b35) hbx)
  have HVX : Hid (∀ wx, Below w5.heap.size w5 wx → Sem.run Tryd.prog (convert 24 9 (.slice aX nX cX)) wx = .ok (.string s2) wx) := fun wx hbx => by
    rw [hs2.out]; exact conv_rd wx aX cX nX _ hnX.out.symm (HRdX.out.below hbx)
  clear hb2 hb3 hb4 hb5
  go_wp2_with fail
  refine wp_region_K (by kernel_rfl) (by kernel_rfl) [.eq (.bool q), .eq (.bool q), .eq (.bool true), .eq (.bool true), .eq (.slice aA nA cA), .eq (.string s), .eq (.slice aB nA cB), .eq (.string s), .eq (.bool true), .eq (.bool true), .eq (.bool true), .eq (.slice a0 len cap), .eq (.int .i64 (best ms)), .eq (.int .i64 (best ms)), .eq (.bool true), .eq (.bool true), .eq (.bool true), .eq (.slice a0 len cap), Kd.rdn ((codeI (best ms) ms).getD []), .eq (.string s2), .eq (.slice aX nX cX), .eq (.string s2), .eq (.bool true), .eq (.bool true), .eq (.bool true)] w5 (Below.refl _ _) (allOps_cons ?_ (allOps_cons ?_ (allOps_cons ?_ (allOps_cons ?_ (allOps_cons ?_ (allOps_cons ?_ (allOps_cons ?_ (allOps_cons ?_ (allOps_cons ?_ (allOps_cons ?_ (allOps_cons ?_ (allOps_cons ?_ (allOps_cons ?_ (allOps_cons ?_ (allOps_cons ?_ (allOps_cons ?_ (allOps_cons ?_ (allOps_cons ?_ (allOps_cons ?_ (allOps_cons ?_ (allOps_cons ?_ (allOps_cons ?_ (allOps_cons ?_ (allOps_cons ?_ (allOps_cons ?_ allOps_nil))))))))))))))))))))))))) ?_
  · intro a wx hS hb hf
    have s7 : a.eval (.tmp 7) = .bool q := (hf 7 (by kernel_rfl)).trans rfl
    rw [if_pos (wanted_none rfl)]
    refine does_val (v := .bool q) (w' := wx) ?_ ⟨rfl, Below.refl _ _⟩
    have t7 := (ev_tmp a 7).symm.trans s7
    simp [execOp, go_sem, t7]
  · intro a wx hS hb hf
    have s9 : a.eval (.tmp 9) = .bool q := (hf 9 (by kernel_rfl)).trans rfl
    rw [if_pos (wanted_none rfl)]
    refine does_val (v := .bool q) (w' := wx) ?_ ⟨rfl, Below.refl _ _⟩
    have t9 := (ev_tmp a 9).symm.trans s9
    simp [execOp, go_sem, t9]
  · intro a wx hS hb hf
    have s39 : a.eval (.tmp 39) = .bool q := slot hb 0 0 39 rfl rfl
    have s40 : a.eval (.tmp 40) = .bool q := slot hb 1 1 40 rfl rfl
    rw [if_pos (wanted_none rfl)]
    refine does_val (v := .bool true) (w' := wx) ?_ ⟨rfl, Below.refl _ _⟩
    have t39 := (ev_tmp a 39).symm.trans s39
    have t40 := (ev_tmp a 40).symm.trans s40
    simp [execOp, go_sem, t39, t40]
  · intro a wx hS hb hf
    have s41 : a.eval (.tmp 41) = .bool true := slot hb 0 2 41 rfl rfl
    rw [if_pos (wanted_none rfl)]
    refine does_val (v := .bool true) (w' := wx) ?_ ⟨rfl, Below.refl _ _⟩
    have t41 := (ev_tmp a 41).symm.trans s41
    simp [execOp, go_sem, t41]
  · intro a wx hS hb hf
    have s6 : a.eval (.tmp 6) = .slice aA nA cA := (hf 6 (by kernel_rfl)).trans rfl
    have s42 : a.eval (.tmp 42) = .bool true := slot hb 0 3 42 rfl rfl
    rw [if_pos (wanted_of (g := 3) (d := 42) (b := true) rfl rfl s42)]
    refine does_val (v := .slice aA nA cA) (w' := wx) ?_ ⟨rfl, Below.refl _ _⟩
    have t6 := (ev_tmp a 6).symm.trans s6
    simp [execOp, go_sem, t6]
  · intro a wx hS hb hf
    have s43 : a.eval (.tmp 43) = .slice aA nA cA := slot hb 0 4 43 rfl rfl
    have s42 : a.eval (.tmp 42) = .bool true := slot hb 1 3 42 rfl rfl
    rw [if_pos (wanted_of (g := 3) (d := 42) (b := true) rfl rfl s42)]
    refine does_val (v := .string s) (w' := wx) ?_ ⟨rfl, Below.refl _ _⟩
    have t43 := (ev_tmp a 43).symm.trans s43
    have hcv := HVA.out wx hS
    simp [execOp, go_sem, t43, hcv]
  · intro a wx hS hb hf
    have s8 : a.eval (.tmp 8) = .slice aB nA cB := (hf 8 (by kernel_rfl)).trans rfl
    have s42 : a.eval (.tmp 42) = .bool true := slot hb 0 3 42 rfl rfl
    rw [if_pos (wanted_of (g := 3) (d := 42) (b := true) rfl rfl s42)]
    refine does_val (v := .slice aB nA cB) (w' := wx) ?_ ⟨rfl, Below.refl _ _⟩
    have t8 := (ev_tmp a 8).symm.trans s8
    simp [execOp, go_sem, t8]
  · intro a wx hS hb hf
    have s45 : a.eval (.tmp 45) = .slice aB nA cB := slot hb 0 6 45 rfl rfl
    have s42 : a.eval (.tmp 42) = .bool true := slot hb 1 3 42 rfl rfl
    rw [if_pos (wanted_of (g := 3) (d := 42) (b := true) rfl rfl s42)]
    refine does_val (v := .string s) (w' := wx) ?_ ⟨rfl, Below.refl _ _⟩
    have t45 := (ev_tmp a 45).symm.trans s45
    have hcv := HVB.out wx hS
    simp [execOp, go_sem, t45, hcv]
  · intro a wx hS hb hf
    have s44 : a.eval (.tmp 44) = .string s := slot hb 0 5 44 rfl rfl
    have s46 : a.eval (.tmp 46) = .string s := slot hb 1 7 46 rfl rfl
    have s42 : a.eval (.tmp 42) = .bool true := slot hb 2 3 42 rfl rfl
    rw [if_pos (wanted_of (g := 3) (d := 42) (b := true) rfl rfl s42)]
    refine does_val (v := .bool true) (w' := wx) ?_ ⟨rfl, Below.refl _ _⟩
    have t44 := (ev_tmp a 44).symm.trans s44
    have t46 := (ev_tmp a 46).symm.trans s46
    simp [execOp, go_sem, t44, t46]
  · intro a wx hS hb hf
    have s42 : a.eval (.tmp 42) = .bool true := slot hb 0 3 42 rfl rfl
    have s47 : a.eval (.tmp 47) = .bool true := slot hb 1 8 47 rfl rfl
    rw [if_pos (wanted_none rfl)]
    refine does_val (v := .bool true) (w' := wx) ?_ ⟨rfl, Below.refl _ _⟩
    have t42 := (ev_tmp a 42).symm.trans s42
    have t47 := (ev_tmp a 47).symm.trans s47
    simp [execOp, go_sem, t42, t47]
  · intro a wx hS hb hf
    have s48 : a.eval (.tmp 48) = .bool true := slot hb 0 9 48 rfl rfl
    rw [if_pos (wanted_none rfl)]
    refine does_val (v := .bool true) (w' := wx) ?_ ⟨rfl, Below.refl _ _⟩
    have t48 := (ev_tmp a 48).symm.trans s48
    simp [execOp, go_sem, t48]
  · intro a wx hS hb hf
    have s0 : a.eval (.tmp 0) = .slice a0 len cap := (hf 0 (by kernel_rfl)).trans rfl
    have s49 : a.eval (.tmp 49) = .bool true := slot hb 0 10 49 rfl rfl
    rw [if_pos (wanted_of (g := 10) (d := 49) (b := true) rfl rfl s49)]
    refine does_val (v := .slice a0 len cap) (w' := wx) ?_ ⟨rfl, Below.refl _ _⟩
    have t0 := (ev_tmp a 0).symm.trans s0
    simp [execOp, go_sem, t0]
  · intro a wx hS hb hf
    have s50 : a.eval (.tmp 50) = .slice a0 len cap := slot hb 0 11 50 rfl rfl
    have s49 : a.eval (.tmp 49) = .bool true := slot hb 1 10 49 rfl rfl
    rw [if_pos (wanted_of (g := 10) (d := 49) (b := true) rfl rfl s49)]
    have t50 := (ev_tmp a 50).symm.trans s50
    refine does_call (f := 12) (args := #[.slice a0 len cap]) (w' := wx) (by simp [execOp, resolve, invoke, go_sem, t50]) ?_
    refine (HCh.out wx (hbw5.trans (hS.mono hbw5.size))).mono ?_
    rintro e w' ⟨rfl, hb'⟩
    exact ⟨_, rfl, rfl, hb'⟩
  · intro a wx hS hb hf
    have s10 : a.eval (.tmp 10) = .int .i64 (best ms) := (hf 10 (by kernel_rfl)).trans rfl
    have s49 : a.eval (.tmp 49) = .bool true := slot hb 0 10 49 rfl rfl
    rw [if_pos (wanted_of (g := 10) (d := 49) (b := true) rfl rfl s49)]
    refine does_val (v := .int .i64 (best ms)) (w' := wx) ?_ ⟨rfl, Below.refl _ _⟩
    have t10 := (ev_tmp a 10).symm.trans s10
    simp [execOp, go_sem, t10]
  · intro a wx hS hb hf
    have s51 : a.eval (.tmp 51) = .int .i64 (best ms) := slot hb 0 12 51 rfl rfl
    have s52 : a.eval (.tmp 52) = .int .i64 (best ms) := slot hb 1 13 52 rfl rfl
    have s49 : a.eval (.tmp 49) = .bool true := slot hb 2 10 49 rfl rfl
    rw [if_pos (wanted_of (g := 10) (d := 49) (b := true) rfl rfl s49)]
    refine does_val (v := .bool true) (w' := wx) ?_ ⟨rfl, Below.refl _ _⟩
    have t51 := (ev_tmp a 51).symm.trans s51
    have t52 := (ev_tmp a 52).symm.trans s52
    simp [execOp, go_sem, t51, t52]
  · intro a wx hS hb hf
    have s49 : a.eval (.tmp 49) = .bool true := slot hb 0 10 49 rfl rfl
    have s53 : a.eval (.tmp 53) = .bool true := slot hb 1 14 53 rfl rfl
    rw [if_pos (wanted_none rfl)]
    refine does_val (v := .bool true) (w' := wx) ?_ ⟨rfl, Below.refl _ _⟩
    have t49 := (ev_tmp a 49).symm.trans s49
    have t53 := (ev_tmp a 53).symm.trans s53
    simp [execOp, go_sem, t49, t53]
  · intro a wx hS hb hf
    have s54 : a.eval (.tmp 54) = .bool true := slot hb 0 15 54 rfl rfl
    rw [if_pos (wanted_none rfl)]
    refine does_val (v := .bool true) (w' := wx) ?_ ⟨rfl, Below.refl _ _⟩
    have t54 := (ev_tmp a 54).symm.trans s54
    simp [execOp, go_sem, t54]
  · intro a wx hS hb hf
    have s0 : a.eval (.tmp 0) = .slice a0 len cap := (hf 0 (by kernel_rfl)).trans rfl
    have s55 : a.eval (.tmp 55) = .bool true := slot hb 0 16 55 rfl rfl
    rw [if_pos (wanted_of (g := 16) (d := 55) (b := true) rfl rfl s55)]
    refine does_val (v := .slice a0 len cap) (w' := wx) ?_ ⟨rfl, Below.refl _ _⟩
    have t0 := (ev_tmp a 0).symm.trans s0
    simp [execOp, go_sem, t0]
  · intro a wx hS hb hf
    have s56 : a.eval (.tmp 56) = .slice a0 len cap := slot hb 0 17 56 rfl rfl
    have s55 : a.eval (.tmp 55) = .bool true := slot hb 1 16 55 rfl rfl
    rw [if_pos (wanted_of (g := 16) (d := 55) (b := true) rfl rfl s55)]
    have t56 := (ev_tmp a 56).symm.trans s56
    refine does_call (f := 13) (args := #[.slice a0 len cap]) (w' := wx) (by simp [execOp, resolve, invoke, go_sem, t56]) ?_
    refine (HEn.out wx (hbw5.trans (hS.mono hbw5.size))).mono ?_
    intro e w' he
    obtain ⟨ae, ce, rfl, hre, hb'⟩ := enc_read he
    exact ⟨_, rfl, ⟨ae, ce, rfl, hre⟩, hb'⟩
  · intro a wx hS hb hf
    have s55 : a.eval (.tmp 55) = .bool true := slot hb 1 16 55 rfl rfl
    rw [if_pos (wanted_of (g := 16) (d := 55) (b := true) rfl rfl s55)]
    obtain ⟨ae, ce, e57, hre⟩ : ∃ ae ce, a.eval (.tmp 57) = .slice ae ((codeI (best ms) ms).getD []).length ce ∧ Rd .u8 wx ae ((codeI (best ms) ms).getD []) := slot hb 0 18 57 rfl rfl
    refine does_val (v := .string s2) (w' := wx) ?_ ⟨rfl, Below.refl _ _⟩
    have t57 := (ev_tmp a 57).symm.trans e57
    have hcv := conv_rd wx ae ce _ _ rfl hre
    rw [← hs2.out] at hcv
    simp [execOp, go_sem, t57, hcv]
  · intro a wx hS hb hf
    have s11 : a.eval (.tmp 11) = .slice aX nX cX := (hf 11 (by kernel_rfl)).trans rfl
    have s55 : a.eval (.tmp 55) = .bool true := slot hb 0 16 55 rfl rfl
    rw [if_pos (wanted_of (g := 16) (d := 55) (b := true) rfl rfl s55)]
    refine does_val (v := .slice aX nX cX) (w' := wx) ?_ ⟨rfl, Below.refl _ _⟩
    have t11 := (ev_tmp a 11).symm.trans s11
    simp [execOp, go_sem, t11]
  · intro a wx hS hb hf
    have s59 : a.eval (.tmp 59) = .slice aX nX cX := slot hb 0 20 59 rfl rfl
    have s55 : a.eval (.tmp 55) = .bool true := slot hb 1 16 55 rfl rfl
    rw [if_pos (wanted_of (g := 16) (d := 55) (b := true) rfl rfl s55)]
    refine does_val (v := .string s2) (w' := wx) ?_ ⟨rfl, Below.refl _ _⟩
    have t59 := (ev_tmp a 59).symm.trans s59
    have hcv := HVX.out wx hS
    simp [execOp, go_sem, t59, hcv]
  · intro a wx hS hb hf
    have s58 : a.eval (.tmp 58) = .string s2 := slot hb 0 19 58 rfl rfl
    have s60 : a.eval (.tmp 60) = .string s2 := slot hb 1 21 60 rfl rfl
    have s55 : a.eval (.tmp 55) = .bool true := slot hb 2 16 55 rfl rfl
    rw [if_pos (wanted_of (g := 16) (d := 55) (b := true) rfl rfl s55)]
    refine does_val (v := .bool true) (w' := wx) ?_ ⟨rfl, Below.refl _ _⟩
    have t58 := (ev_tmp a 58).symm.trans s58
    have t60 := (ev_tmp a 60).symm.trans s60
    simp [execOp, go_sem, t58, t60]
  · intro a wx hS hb hf
    have s55 : a.eval (.tmp 55) = .bool true := slot hb 0 16 55 rfl rfl
    have s61 : a.eval (.tmp 61) = .bool true := slot hb 1 22 61 rfl rfl
    rw [if_pos (wanted_none rfl)]
    refine does_val (v := .bool true) (w' := wx) ?_ ⟨rfl, Below.refl _ _⟩
    have t55 := (ev_tmp a 55).symm.trans s55
    have t61 := (ev_tmp a 61).symm.trans s61
    simp [execOp, go_sem, t55, t61]
  · intro a wx hS hb hf
    have s62 : a.eval (.tmp 62) = .bool true := slot hb 0 23 62 rfl rfl
    rw [if_pos (wanted_none rfl)]
    refine does_val (v := .bool true) (w' := wx) ?_ ⟨rfl, Below.refl _ _⟩
    have t62 := (ev_tmp a 62).symm.trans s62
    simp [execOp, go_sem, t62]
  rename_i hK
  intro a w' hb6 _ hdef hdone _
  refine hK _ _ (ret_K rfl hdef (done_slot hdone 24 4 rfl) ⟨rfl, hbw5.trans (hb6.mono hbw5.size)⟩)

set_option maxRecDepth 100000 in
theorem codecEncodes_lifted (os : Os) (started : os.Started) (H : Type) (enc : TypeId × Value → H) :
    ReturnsInHanded {} Tryd.checked os 3 .any (fun w args => (Rows.codecEncodesSpec.pre enc Tryd.prog Tryd.f3 [] false w args ∧ laidMetH Tryd.prog Rows.codecEncodesRow.laid w) ∧ sizedMet enc Tryd.prog Tryd.f3 (OpenSpec.ofChange Rows.codecEncodesSpec) false w args)
      (Rows.codecEncodesSpec.post enc Tryd.prog Tryd.f3 false true false false) := by
  refine returns_and_shaped (C := Tryd.checked) (X := fun w _ => laidMetH Tryd.prog Rows.codecEncodesRow.laid w) (fun _ _ _ hh h => h.of_heap hh) own started (by kernel_rfl) Tryd.func3
    (ChangeSpec.witness_shaped (enc := enc) (C := Tryd.checked) (os := os) (X := fun w _ => laidMetH Tryd.prog Rows.codecEncodesRow.laid w) false (World.laidAll Tryd.prog os Rows.codecEncodesRow.laid) #[.slice none 0 0, .int .i64 0] 8 (World.laidAll_os _ _ _)
      (World.shaped_of_ZipB (by kernel_rfl) (by kernel_rfl)) (by kernel_rfl) (by kernel_rfl) (by kernel_rfl)
      (by rw [MakeChecks.laidMetH_plain _ _ _ (by kernel_rfl)]; exact laidMet_laidAll _ (by kernel_rfl) (by kernel_rfl))) ?_
  intro W base args ds gs before hval0 hW hL hsh
  have hval : ∀ (j : Nat) t v, Tryd.f3.params[j]? = some t → args[j]? = some v → Value.okWide Tryd.prog W .any base t v := hval0
  have hW' := hW
  obtain ⟨p, q, hA0, hV, rfl, _, _⟩ := hW
  have hA : DataW.TrodAll enc Tryd.prog W 0 (fun _ => true) true Tryd.f3.params.toList args.toList ds p := hA0
  rw [Tryd.params3] at hA hval
  obtain ⟨v0, vs0, d0, ds0, p0, q0, hargs, rfl, rfl, h0, r0⟩ := trodAll_cons hA
  obtain ⟨v1, vs1, d1, ds1, p1, q1, rfl, rfl, rfl, h1, r1⟩ := trodAll_cons r0
  obtain ⟨rfl, rfl, rfl⟩ := trodAll_nil r1
  obtain rfl : args = #[v0, v1] := by cases args; simp_all
  obtain ⟨rfl, rfl⟩ := trodVars_none hV
  obtain ⟨a0, len0, cap0, rfl⟩ := okWide_slice Tryd.underlying22 (hval 0 22 v0 rfl rfl)
  have k0 := h0
  have lt0 : ∀ x ∈ p0, x.block < W.heap.size := by obtain ⟨m, hm⟩ := k0; exact DataW.trod_lt m _ _ _ hm
  obtain ⟨vl0, w0, wf0⟩ : ∃ ms, IsI .i64 W a0 len0 cap0 ms ∧ ∀ n ∈ ms, (Lit.int .i64 n).wf = true := by obtain ⟨fuel, hf⟩ := h0; exact isI_22 hf
  obtain ⟨a1, rfl, rfl, rfl, w1⟩ := open_int Tryd.underlying3 (hval 1 3 v1 rfl rfl) h1
  have hx1 : -9223372036854775808 ≤ a1 ∧ a1 ≤ 9223372036854775807 := by simpa [Lit.wf, IntKind.min, IntKind.max, IntKind.signed, IntKind.bits] using w1
  clear hA0 hval0
  rw [MakeChecks.laidMetH_plain _ _ _ (by kernel_rfl)] at hL
  refine (codecEncodes_walk (w := W) a0 len0 cap0 vl0 w0 wf0 a1 hx1 (fw_of (laidMet.reads hL (by simp [Rows.codecEncodesRow])))).mono fun e W' ⟨he, hb⟩ => ?_
  subst he
  exact ⟨_, rfl, _, _, _, [], _, [], hW', trodAll_mk1 (shut_bool Tryd.underlying4 _), (trodAll_cons_mk (Below.trod laidOut (by kernel_rfl) (of_decide_eq_true (by kernel_rfl)) k0 hb lt0) (trodAll_cons_mk (shut_int Tryd.underlying3 w1) trodAll_mk0)), rfl, hb.frame _, fun h => by cases h⟩

theorem codecEncodes_row : Rows.CodecEncodesSaid :=
  OpenClaim.holds_of_wide 3 Tryd.f3 rfl rfl rfl rfl rfl rfl rfl ⟨rfl, rfl, rfl, rfl, rfl⟩ rfl rfl rfl rfl rfl (by kernel_rfl) Tryd.func3 (by kernel_rfl)
    (of_decide_eq_true (by kernel_rfl)) (by unfold Func.isWrapper; first | (rw [if_pos (by decide +kernel)]; kernel_rfl) | (rw [if_neg (by decide +kernel)]; exact ⟨rfl, rfl⟩))
    (fun os started H enc _ => codecEncodes_lifted os started H enc)

theorem codecEncodes_holds : Rows.CodecEncodesCardSaid :=
  Claim7.holds_tied_plain_at .later [] [.data] true (true, "268070590a5cdbedef29cc263c966a7d9eccac97f001ce0c2ffcf9837f493a1d") false codecEncodes_row (fun _ h => by cases h) (by kernel_rfl) (fun _ h => by cases h) codecEncodes_row_tie rfl ⟨rfl, rfl⟩ (by kernel_rfl) rfl
    (fun f fn hf hfn => by
      obtain rfl : f = 3 := Option.some.inj ((show Tryd.prog.funcNamed Rows.codecEncodesRow.func = some 3 by kernel_rfl).symm.trans hf) |>.symm
      obtain rfl : fn = Tryd.f3 := (Option.some.inj (Tryd.func3.symm.trans hfn)).symm
      exact ⟨by kernel_rfl, fun j t ht => by
        rw [Tryd.params3] at ht
        have hm : t ∈ [22, 3] := by simpa using Array.mem_of_getElem? ht
        have hall : ([22, 3].all fun u => !Tryd.prog.wantsStandIn u) = true := by kernel_rfl
        exact (show Tryd.prog.wantsStandIn t = false by simpa using List.all_eq_true.1 hall t hm)⟩)
    (by kernel_rfl)
#print axioms codecEncodes_holds
end Go.Proofs.YtbgipenonngccaaDoor
