/- The contracts of Append where there is no room, and where there is. Conditions: those of each theorem. -/
import Derived.Test.YtkipcblbadkjnaaR
import Derived.Test.YtkipcblbadkjnaaRk
namespace Go.Proofs.Ytkipcblbadkjnaa
open Go.RowKit

set_option linter.unusedSimpArgs false in
set_option maxRecDepth 100000 in
set_option maxHeartbeats 4000000 in
theorem append_full (b : Nat) (x y : X) (s : ByteArray) (ad : Option Addr) (len cap : Nat) (w : World) (h : FW w b x) (he : ent x = (0, y)) (hs : s.size ≤ maxLen) (g : Nat) (hg : y.pm s = some g) (hl : (y.bs g).length + len ≤ 1048576) (h0 : 0 < (len : Int)) (n : Nat) (ys : List { g : Nat // y.K g }) (hH : Held y.pm n ys) (hn : n ≤ 1000000) (hrm : y.room < lens y.bs ys + (len : Int)) :
    Calls Try.prog 25 #[.pointer (some ⟨b, 0, none⟩), .string s, .slice ad len cap] w fun e w' => e = .returned (.int .i64 62) ∧ Mv b w x w' y := by
  have H : Hid (FW w b x) := h
  have HE : Hid (ent x = (0, y)) := he
  have HS : Hid (s.size ≤ maxLen) := hs
  have HG : Hid (y.pm s = some g) := hg
  have HH : Hid (Held y.pm n ys) := hH
  obtain ⟨us, hus⟩ : ∃ us, us = lens y.bs ys := ⟨_, rfl⟩
  have HU : Hid (us = lens y.bs ys) := hus
  rw [← hus] at hrm
  clear h he hs hg hH hus
  go_enter Try.func25, Try.ntmps25
  go_wp2_with (go_at_call 51; refine (enter_ok b x y w H.out HE.out).mono ?_; rintro e w1 ⟨rfl, hMv⟩; have c0 := hMv.fw.fc.c0; have c2 := hMv.fw.fc.c2; have lk := hMv.fw.pw.look s HS.out; rw [HG.out] at lk; simp only [pv] at lk; have hK := hMv.fw.pk s g HG.out; obtain ⟨_, d1, _, _⟩ := hMv.fw.cells hK; obtain ⟨ra, rc, hrv, _, _⟩ := own_rd (hMv.fw.fl.fr g hK); rw [hrv] at d1; have hst := (hMv.fw.fl.st0 g hK).2.2; have hwr : wrap64 (((y.bs g).length : Int) + (len : Int)) = ((y.bs g).length : Int) + (len : Int) := (by unfold wrap64; omega); have hgt : ¬ (1048576 : Int) < ((y.bs g).length : Int) + (len : Int) := (by omega); have HMv : Hid _ := hMv; have HK : Hid (y.K g) := hK; have HRV : Hid (y.rv g = _) := hrv; clear hMv hK hrv)
  have hbd : 0 ≤ us ∧ us ≤ 1048576000000 := by
    rw [HU.out]
    have h1 := lens_bd (fun g hg => (HMv.out.fw.fl.st0 g hg).2.2) ys
    have h2 := HH.out.2.2
    omega
  have wk1 : RowKit.wrap64 (us + (len : Int)) = us + (len : Int) := by unfold RowKit.wrap64; omega
  have wk2 : IntKind.i64.wrap (us + (len : Int)) = us + (len : Int) := by rw [IntKind.wrap_i64]; omega
  refine wp_region_K (by kernel_rfl) (by kernel_rfl) [.eq (.slice ad len cap), .eq (.int .i64 (len : Int)), .eq (.bool true), .eq (.bool true), .eq (.pointer (some ⟨b, 0, none⟩)), .eq (.int .i64 us), .eq (.slice ad len cap), .eq (.int .i64 (len : Int)), .eq (.int .i64 (us + (len : Int))), .eq (.pointer (some ⟨b, 0, none⟩)), .eq (.pointer (some ⟨b, 0, none⟩)), .eq (.pointer (some ⟨b, 0, none⟩)), .eq (.int .i64 y.room), .eq (.bool true), .eq (.bool true), .eq (.bool true)] w1 (Below.refl _ _) (allOps_cons ?_ (allOps_cons ?_ (allOps_cons ?_ (allOps_cons ?_ (allOps_cons ?_ (allOps_cons ?_ (allOps_cons ?_ (allOps_cons ?_ (allOps_cons ?_ (allOps_cons ?_ (allOps_cons ?_ (allOps_cons ?_ (allOps_cons ?_ (allOps_cons ?_ (allOps_cons ?_ (allOps_cons ?_ allOps_nil)))))))))))))))) ?_
  · intro a wx hS hb hf
    have s2 : a.eval (.tmp 2) = .slice ad len cap := (hf 2 (by kernel_rfl)).trans rfl
    rw [if_pos (wanted_none rfl)]
    refine does_val (v := .slice ad len cap) (w' := wx) ?_ ⟨rfl, Below.refl _ _⟩
    have t2 := (ev_tmp a 2).symm.trans s2
    simp [execOp, go_sem, t2]
  · intro a wx hS hb hf
    have s34 : a.eval (.tmp 34) = .slice ad len cap := slot hb 0 0 34 rfl rfl
    rw [if_pos (wanted_none rfl)]
    refine does_val (v := .int .i64 (len : Int)) (w' := wx) ?_ ⟨rfl, Below.refl _ _⟩
    have t34 := (ev_tmp a 34).symm.trans s34
    simp [execOp, go_sem, t34]
  · intro a wx hS hb hf
    have s35 : a.eval (.tmp 35) = .int .i64 (len : Int) := slot hb 0 1 35 rfl rfl
    rw [if_pos (wanted_none rfl)]
    refine does_val (v := .bool true) (w' := wx) ?_ ⟨rfl, Below.refl _ _⟩
    have t35 := (ev_tmp a 35).symm.trans s35
    simp [execOp, go_sem, t35]
    omega
  · intro a wx hS hb hf
    have s36 : a.eval (.tmp 36) = .bool true := slot hb 0 2 36 rfl rfl
    rw [if_pos (wanted_none rfl)]
    refine does_val (v := .bool true) (w' := wx) ?_ ⟨rfl, Below.refl _ _⟩
    have t36 := (ev_tmp a 36).symm.trans s36
    simp [execOp, go_sem, t36]
  · intro a wx hS hb hf
    have s0 : a.eval (.tmp 0) = .pointer (some ⟨b, 0, none⟩) := (hf 0 (by kernel_rfl)).trans rfl
    have s37 : a.eval (.tmp 37) = .bool true := slot hb 0 3 37 rfl rfl
    rw [if_pos (wanted_of (g := 3) (d := 37) (b := true) rfl rfl s37)]
    refine does_val (v := .pointer (some ⟨b, 0, none⟩)) (w' := wx) ?_ ⟨rfl, Below.refl _ _⟩
    have t0 := (ev_tmp a 0).symm.trans s0
    simp [execOp, go_sem, t0]
  · intro a wx hS hb hf
    have s38 : a.eval (.tmp 38) = .pointer (some ⟨b, 0, none⟩) := slot hb 0 4 38 rfl rfl
    have s37 : a.eval (.tmp 37) = .bool true := slot hb 1 3 37 rfl rfl
    rw [if_pos (wanted_of (g := 3) (d := 37) (b := true) rfl rfl s37)]
    have t38 := (ev_tmp a 38).symm.trans s38
    refine does_call (f := 17) (args := #[.pointer (some ⟨b, 0, none⟩)]) (w' := wx) (by simp [execOp, resolve, invoke, go_sem, t38]) ?_
    refine (used_any b y wx (HMv.out.fw.below hS)).mono ?_
    rintro r w' ⟨zs', hH', rfl, hb'⟩
    exact ⟨_, rfl, by rw [HU.out, lens_perm y.bs HH.out hH']; rfl, hb'⟩
  · intro a wx hS hb hf
    have s2 : a.eval (.tmp 2) = .slice ad len cap := (hf 2 (by kernel_rfl)).trans rfl
    have s37 : a.eval (.tmp 37) = .bool true := slot hb 0 3 37 rfl rfl
    rw [if_pos (wanted_of (g := 3) (d := 37) (b := true) rfl rfl s37)]
    refine does_val (v := .slice ad len cap) (w' := wx) ?_ ⟨rfl, Below.refl _ _⟩
    have t2 := (ev_tmp a 2).symm.trans s2
    simp [execOp, go_sem, t2]
  · intro a wx hS hb hf
    have s40 : a.eval (.tmp 40) = .slice ad len cap := slot hb 0 6 40 rfl rfl
    have s37 : a.eval (.tmp 37) = .bool true := slot hb 1 3 37 rfl rfl
    rw [if_pos (wanted_of (g := 3) (d := 37) (b := true) rfl rfl s37)]
    refine does_val (v := .int .i64 (len : Int)) (w' := wx) ?_ ⟨rfl, Below.refl _ _⟩
    have t40 := (ev_tmp a 40).symm.trans s40
    simp [execOp, go_sem, t40]
  · intro a wx hS hb hf
    have s39 : a.eval (.tmp 39) = .int .i64 us := slot hb 0 5 39 rfl rfl
    have s41 : a.eval (.tmp 41) = .int .i64 (len : Int) := slot hb 1 7 41 rfl rfl
    have s37 : a.eval (.tmp 37) = .bool true := slot hb 2 3 37 rfl rfl
    rw [if_pos (wanted_of (g := 3) (d := 37) (b := true) rfl rfl s37)]
    refine does_val (v := .int .i64 (us + (len : Int))) (w' := wx) ?_ ⟨rfl, Below.refl _ _⟩
    have t39 := (ev_tmp a 39).symm.trans s39
    have t41 := (ev_tmp a 41).symm.trans s41
    simp [execOp, go_sem, t39, t41, wk1, wk2]
  · intro a wx hS hb hf
    have s0 : a.eval (.tmp 0) = .pointer (some ⟨b, 0, none⟩) := (hf 0 (by kernel_rfl)).trans rfl
    have s37 : a.eval (.tmp 37) = .bool true := slot hb 0 3 37 rfl rfl
    rw [if_pos (wanted_of (g := 3) (d := 37) (b := true) rfl rfl s37)]
    refine does_val (v := .pointer (some ⟨b, 0, none⟩)) (w' := wx) ?_ ⟨rfl, Below.refl _ _⟩
    have t0 := (ev_tmp a 0).symm.trans s0
    simp [execOp, go_sem, t0]
  · intro a wx hS hb hf
    have s43 : a.eval (.tmp 43) = .pointer (some ⟨b, 0, none⟩) := slot hb 0 9 43 rfl rfl
    have s37 : a.eval (.tmp 37) = .bool true := slot hb 1 3 37 rfl rfl
    rw [if_pos (wanted_of (g := 3) (d := 37) (b := true) rfl rfl s37)]
    refine does_val (v := .pointer (some ⟨b, 0, none⟩)) (w' := wx) ?_ ⟨rfl, Below.refl _ _⟩
    have t43 := (ev_tmp a 43).symm.trans s43
    simp [execOp, go_sem, t43]
  · intro a wx hS hb hf
    have s44 : a.eval (.tmp 44) = .pointer (some ⟨b, 0, none⟩) := slot hb 0 10 44 rfl rfl
    have s37 : a.eval (.tmp 37) = .bool true := slot hb 1 3 37 rfl rfl
    rw [if_pos (wanted_of (g := 3) (d := 37) (b := true) rfl rfl s37)]
    refine does_val (v := .pointer (some ⟨b, 0, none⟩)) (w' := wx) ?_ ⟨rfl, Below.refl _ _⟩
    have t44 := (ev_tmp a 44).symm.trans s44
    simp [execOp, go_sem, t44]
  · intro a wx hS hb hf
    have s45 : a.eval (.tmp 45) = .pointer (some ⟨b, 0, none⟩) := slot hb 0 11 45 rfl rfl
    have s37 : a.eval (.tmp 37) = .bool true := slot hb 1 3 37 rfl rfl
    rw [if_pos (wanted_of (g := 3) (d := 37) (b := true) rfl rfl s37)]
    have d0 := (hS.cell (p := ⟨b, 0, none⟩) (tg_lt HMv.out.fw.tb)).trans c0
    refine does_val (v := .int .i64 y.room) (w' := wx) ?_ ⟨rfl, Below.refl _ _⟩
    have t45 := (ev_tmp a 45).symm.trans s45
    simp [execOp, go_sem, t45, d0]
  · intro a wx hS hb hf
    have s42 : a.eval (.tmp 42) = .int .i64 (us + (len : Int)) := slot hb 0 8 42 rfl rfl
    have s46 : a.eval (.tmp 46) = .int .i64 y.room := slot hb 1 12 46 rfl rfl
    have s37 : a.eval (.tmp 37) = .bool true := slot hb 2 3 37 rfl rfl
    rw [if_pos (wanted_of (g := 3) (d := 37) (b := true) rfl rfl s37)]
    refine does_val (v := .bool true) (w' := wx) ?_ ⟨rfl, Below.refl _ _⟩
    have t42 := (ev_tmp a 42).symm.trans s42
    have t46 := (ev_tmp a 46).symm.trans s46
    simp [execOp, go_sem, t42, t46, hrm]
  · intro a wx hS hb hf
    have s37 : a.eval (.tmp 37) = .bool true := slot hb 0 3 37 rfl rfl
    have s47 : a.eval (.tmp 47) = .bool true := slot hb 1 13 47 rfl rfl
    rw [if_pos (wanted_none rfl)]
    refine does_val (v := .bool true) (w' := wx) ?_ ⟨rfl, Below.refl _ _⟩
    have t37 := (ev_tmp a 37).symm.trans s37
    have t47 := (ev_tmp a 47).symm.trans s47
    simp [execOp, go_sem, t37, t47]
  · intro a wx hS hb hf
    have s48 : a.eval (.tmp 48) = .bool true := slot hb 0 14 48 rfl rfl
    rw [if_pos (wanted_none rfl)]
    refine does_val (v := .bool true) (w' := wx) ?_ ⟨rfl, Below.refl _ _⟩
    have t48 := (ev_tmp a 48).symm.trans s48
    simp [execOp, go_sem, t48]
  intro a u hbu hts hd hdone hfree
  have e33 : a.eval (.tmp 33) = .bool true := done_slot hdone 15 33 rfl
  obtain ⟨x34, ex34⟩ : ∃ x, a.eval (.tmp 34) = x := ⟨_, rfl⟩
  obtain ⟨x35, ex35⟩ : ∃ x, a.eval (.tmp 35) = x := ⟨_, rfl⟩
  obtain ⟨x36, ex36⟩ : ∃ x, a.eval (.tmp 36) = x := ⟨_, rfl⟩
  obtain ⟨x37, ex37⟩ : ∃ x, a.eval (.tmp 37) = x := ⟨_, rfl⟩
  obtain ⟨x38, ex38⟩ : ∃ x, a.eval (.tmp 38) = x := ⟨_, rfl⟩
  obtain ⟨x39, ex39⟩ : ∃ x, a.eval (.tmp 39) = x := ⟨_, rfl⟩
  obtain ⟨x40, ex40⟩ : ∃ x, a.eval (.tmp 40) = x := ⟨_, rfl⟩
  obtain ⟨x41, ex41⟩ : ∃ x, a.eval (.tmp 41) = x := ⟨_, rfl⟩
  obtain ⟨x42, ex42⟩ : ∃ x, a.eval (.tmp 42) = x := ⟨_, rfl⟩
  obtain ⟨x43, ex43⟩ : ∃ x, a.eval (.tmp 43) = x := ⟨_, rfl⟩
  obtain ⟨x44, ex44⟩ : ∃ x, a.eval (.tmp 44) = x := ⟨_, rfl⟩
  obtain ⟨x45, ex45⟩ : ∃ x, a.eval (.tmp 45) = x := ⟨_, rfl⟩
  obtain ⟨x46, ex46⟩ : ∃ x, a.eval (.tmp 46) = x := ⟨_, rfl⟩
  obtain ⟨x47, ex47⟩ : ∃ x, a.eval (.tmp 47) = x := ⟨_, rfl⟩
  obtain ⟨x48, ex48⟩ : ∃ x, a.eval (.tmp 48) = x := ⟨_, rfl⟩
  have hact := act_puts hts hd hfree
  simp only [putAll, List.foldl_cons, List.foldl_nil, ex34, ex35, ex36, ex37, ex38, ex39, ex40, ex41, ex42, ex43, ex44, ex45, ex46, ex47, ex48, e33, Act.put] at hact
  simp at hact
  clear ex34 ex35 ex36 ex37 ex38 ex39 ex40 ex41 ex42 ex43 ex44 ex45 ex46 ex47 ex48 e33 hts hd hdone hfree
  subst hact
  have HB : Hid (Below w1.heap.size w1 u) := hbu
  clear hbu
  go_wp2_with fail
  go_ret
  exact ⟨rfl, HMv.out.trans (Mv.below HMv.out.fw HB.out)⟩
end Go.Proofs.Ytkipcblbadkjnaa
