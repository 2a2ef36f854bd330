/- The contract of Append where there is room. Conditions: those of each theorem. -/
import Derived.Test.YtkipcblbadkjnaaR
import Derived.Test.YtkipcblbadkjnaaRk
namespace Go.Proofs.Ytkipcblbadkjnaa
open Go.RowKit

theorem Rd.kp' {k : IntKind} {P : Nat → Prop} {w w' : World} {a : Option Addr} {zs : List Int} (h : Rd k w a zs) (hb : Kp P w w') (hn : zs ≠ [] → Out P a) : Rd k w' a zs := by
  by_cases e : zs = []
  · exact .inl e
  · exact h.kp hb (hn e)

set_option linter.unusedSimpArgs false in
set_option maxRecDepth 100000 in
set_option maxHeartbeats 4000000 in
theorem append_ok_pos (b : Nat) (x y : X) (s : ByteArray) (ad : Option Addr) (len cap : Nat) (w : World) (h : FW w b x) (he : ent x = (0, y)) (hs : s.size ≤ maxLen) (g : Nat) (hg : y.pm s = some g) (hl : (y.bs g).length + len ≤ 1048576) (zs : List Int) (hz : zs.length = len) (hrd : Rd .u8 w ad zs) (hout : zs ≠ [] → Out (foot b x) ad) (hnone : ad = none → cap = 0 ∧ len = 0) (h0 : 0 < (len : Int)) (n : Nat) (ys : List { g : Nat // y.K g }) (hH : Held y.pm n ys) (hn : n ≤ 1000000) (hrm : ¬ y.room < lens y.bs ys + (len : Int)) :
    Calls Try.prog 25 #[.pointer (some ⟨b, 0, none⟩), .string s, .slice ad len cap] w fun e w' => e = .returned (.int .i64 0) ∧ ∃ v', Mv b w x w' (setF y g v' (y.bs g ++ zs) (y.st g)) := by
  have H : Hid (FW w b x) := h
  have HE : Hid (ent x = (0, y)) := he
  have HS : Hid (s.size ≤ maxLen) := hs
  have HG : Hid (y.pm s = some g) := hg
  have HR : Hid (Rd .u8 w ad zs) := hrd
  have HZ : Hid (zs.length = len) := hz
  have HOUT : Hid (zs ≠ [] → Out (foot b x) ad) := hout
  have HNN : Hid (ad = none → cap = 0 ∧ len = 0) := hnone
  have HLEN : Hid ((y.bs g).length + len ≤ 1048576) := hl
  have HH : Hid (Held y.pm n ys) := hH
  obtain ⟨us, hus⟩ : ∃ us, us = lens y.bs ys := ⟨_, rfl⟩
  have HU : Hid (us = lens y.bs ys) := hus
  rw [← hus] at hrm
  clear h he hs hg hz hrd hout hnone hH hus
  obtain ⟨i0, hi, hz0, hz1, hz2⟩ := info_parts Try.info5
  go_enter Try.func25, Try.ntmps25
  go_wp2_with (go_at_call 51; refine (enter_ok b x y w H.out HE.out).mono ?_; rintro e w1 ⟨rfl, hMv⟩; have c0 := hMv.fw.fc.c0; have c2 := hMv.fw.fc.c2; have lk := hMv.fw.pw.look s HS.out; rw [HG.out] at lk; simp only [pv] at lk; have hK := hMv.fw.pk s g HG.out; obtain ⟨_, d1, _, _⟩ := hMv.fw.cells hK; obtain ⟨ra, rc, hrv, _, _⟩ := own_rd (hMv.fw.fl.fr g hK); rw [hrv] at d1; have hst := (hMv.fw.fl.st0 g hK).2.2; have hwr : wrap64 (((y.bs g).length : Int) + (len : Int)) = ((y.bs g).length : Int) + (len : Int) := (by unfold wrap64; omega); have hgt : ¬ (1048576 : Int) < ((y.bs g).length : Int) + (len : Int) := (by omega); have HMv : Hid _ := hMv; have HK : Hid (y.K g) := hK; have HRV : Hid (y.rv g = _) := hrv; clear hMv hK hrv)
  have hbd : 0 ≤ us ∧ us ≤ 1048576000000 := by
    rw [HU.out]
    have h1 := lens_bd (fun g hg => (HMv.out.fw.fl.st0 g hg).2.2) ys
    have h2 := HH.out.2.2
    omega
  have wk1 : RowKit.wrap64 (us + (len : Int)) = us + (len : Int) := by unfold RowKit.wrap64; omega
  have wk2 : IntKind.i64.wrap (us + (len : Int)) = us + (len : Int) := by rw [IntKind.wrap_i64]; omega
  refine wp_region_K (by kernel_rfl) (by kernel_rfl) [.eq (.slice ad len cap), .eq (.int .i64 (len : Int)), .eq (.bool true), .eq (.bool true), .eq (.pointer (some ⟨b, 0, none⟩)), .eq (.int .i64 us), .eq (.slice ad len cap), .eq (.int .i64 (len : Int)), .eq (.int .i64 (us + (len : Int))), .eq (.pointer (some ⟨b, 0, none⟩)), .eq (.pointer (some ⟨b, 0, none⟩)), .eq (.pointer (some ⟨b, 0, none⟩)), .eq (.int .i64 y.room), .eq (.bool false), .eq (.bool false), .eq (.bool false)] w1 (Below.refl _ _) (allOps_cons ?_ (allOps_cons ?_ (allOps_cons ?_ (allOps_cons ?_ (allOps_cons ?_ (allOps_cons ?_ (allOps_cons ?_ (allOps_cons ?_ (allOps_cons ?_ (allOps_cons ?_ (allOps_cons ?_ (allOps_cons ?_ (allOps_cons ?_ (allOps_cons ?_ (allOps_cons ?_ (allOps_cons ?_ allOps_nil)))))))))))))))) ?_
  · intro a wx hS hb hf
    have s2 : a.eval (.tmp 2) = .slice ad len cap := (hf 2 (by kernel_rfl)).trans rfl
    rw [if_pos (wanted_none rfl)]
    refine does_val (v := .slice ad len cap) (w' := wx) ?_ ⟨rfl, Below.refl _ _⟩
    have t2 := (ev_tmp a 2).symm.trans s2
    simp [execOp, go_sem, t2]
  · intro a wx hS hb hf
    have s34 : a.eval (.tmp 34) = .slice ad len cap := slot hb 0 0 34 rfl rfl
    rw [if_pos (wanted_none rfl)]
    refine does_val (v := .int .i64 (len : Int)) (w' := wx) ?_ ⟨rfl, Below.refl _ _⟩
    have t34 := (ev_tmp a 34).symm.trans s34
    simp [execOp, go_sem, t34]
  · intro a wx hS hb hf
    have s35 : a.eval (.tmp 35) = .int .i64 (len : Int) := slot hb 0 1 35 rfl rfl
    rw [if_pos (wanted_none rfl)]
    refine does_val (v := .bool true) (w' := wx) ?_ ⟨rfl, Below.refl _ _⟩
    have t35 := (ev_tmp a 35).symm.trans s35
    simp [execOp, go_sem, t35]
    omega
  · intro a wx hS hb hf
    have s36 : a.eval (.tmp 36) = .bool true := slot hb 0 2 36 rfl rfl
    rw [if_pos (wanted_none rfl)]
    refine does_val (v := .bool true) (w' := wx) ?_ ⟨rfl, Below.refl _ _⟩
    have t36 := (ev_tmp a 36).symm.trans s36
    simp [execOp, go_sem, t36]
  · intro a wx hS hb hf
    have s0 : a.eval (.tmp 0) = .pointer (some ⟨b, 0, none⟩) := (hf 0 (by kernel_rfl)).trans rfl
    have s37 : a.eval (.tmp 37) = .bool true := slot hb 0 3 37 rfl rfl
    rw [if_pos (wanted_of (g := 3) (d := 37) (b := true) rfl rfl s37)]
    refine does_val (v := .pointer (some ⟨b, 0, none⟩)) (w' := wx) ?_ ⟨rfl, Below.refl _ _⟩
    have t0 := (ev_tmp a 0).symm.trans s0
    simp [execOp, go_sem, t0]
  · intro a wx hS hb hf
    have s38 : a.eval (.tmp 38) = .pointer (some ⟨b, 0, none⟩) := slot hb 0 4 38 rfl rfl
    have s37 : a.eval (.tmp 37) = .bool true := slot hb 1 3 37 rfl rfl
    rw [if_pos (wanted_of (g := 3) (d := 37) (b := true) rfl rfl s37)]
    have t38 := (ev_tmp a 38).symm.trans s38
    refine does_call (f := 17) (args := #[.pointer (some ⟨b, 0, none⟩)]) (w' := wx) (by simp [execOp, resolve, invoke, go_sem, t38]) ?_
    refine (used_any b y wx (HMv.out.fw.below hS)).mono ?_
    rintro r w' ⟨zs', hH', rfl, hb'⟩
    exact ⟨_, rfl, by rw [HU.out, lens_perm y.bs HH.out hH']; rfl, hb'⟩
  · intro a wx hS hb hf
    have s2 : a.eval (.tmp 2) = .slice ad len cap := (hf 2 (by kernel_rfl)).trans rfl
    have s37 : a.eval (.tmp 37) = .bool true := slot hb 0 3 37 rfl rfl
    rw [if_pos (wanted_of (g := 3) (d := 37) (b := true) rfl rfl s37)]
    refine does_val (v := .slice ad len cap) (w' := wx) ?_ ⟨rfl, Below.refl _ _⟩
    have t2 := (ev_tmp a 2).symm.trans s2
    simp [execOp, go_sem, t2]
  · intro a wx hS hb hf
    have s40 : a.eval (.tmp 40) = .slice ad len cap := slot hb 0 6 40 rfl rfl
    have s37 : a.eval (.tmp 37) = .bool true := slot hb 1 3 37 rfl rfl
    rw [if_pos (wanted_of (g := 3) (d := 37) (b := true) rfl rfl s37)]
    refine does_val (v := .int .i64 (len : Int)) (w' := wx) ?_ ⟨rfl, Below.refl _ _⟩
    have t40 := (ev_tmp a 40).symm.trans s40
    simp [execOp, go_sem, t40]
  · intro a wx hS hb hf
    have s39 : a.eval (.tmp 39) = .int .i64 us := slot hb 0 5 39 rfl rfl
    have s41 : a.eval (.tmp 41) = .int .i64 (len : Int) := slot hb 1 7 41 rfl rfl
    have s37 : a.eval (.tmp 37) = .bool true := slot hb 2 3 37 rfl rfl
    rw [if_pos (wanted_of (g := 3) (d := 37) (b := true) rfl rfl s37)]
    refine does_val (v := .int .i64 (us + (len : Int))) (w' := wx) ?_ ⟨rfl, Below.refl _ _⟩
    have t39 := (ev_tmp a 39).symm.trans s39
    have t41 := (ev_tmp a 41).symm.trans s41
    simp [execOp, go_sem, t39, t41, wk1, wk2]
  · intro a wx hS hb hf
    have s0 : a.eval (.tmp 0) = .pointer (some ⟨b, 0, none⟩) := (hf 0 (by kernel_rfl)).trans rfl
    have s37 : a.eval (.tmp 37) = .bool true := slot hb 0 3 37 rfl rfl
    rw [if_pos (wanted_of (g := 3) (d := 37) (b := true) rfl rfl s37)]
    refine does_val (v := .pointer (some ⟨b, 0, none⟩)) (w' := wx) ?_ ⟨rfl, Below.refl _ _⟩
    have t0 := (ev_tmp a 0).symm.trans s0
    simp [execOp, go_sem, t0]
  · intro a wx hS hb hf
    have s43 : a.eval (.tmp 43) = .pointer (some ⟨b, 0, none⟩) := slot hb 0 9 43 rfl rfl
    have s37 : a.eval (.tmp 37) = .bool true := slot hb 1 3 37 rfl rfl
    rw [if_pos (wanted_of (g := 3) (d := 37) (b := true) rfl rfl s37)]
    refine does_val (v := .pointer (some ⟨b, 0, none⟩)) (w' := wx) ?_ ⟨rfl, Below.refl _ _⟩
    have t43 := (ev_tmp a 43).symm.trans s43
    simp [execOp, go_sem, t43]
  · intro a wx hS hb hf
    have s44 : a.eval (.tmp 44) = .pointer (some ⟨b, 0, none⟩) := slot hb 0 10 44 rfl rfl
    have s37 : a.eval (.tmp 37) = .bool true := slot hb 1 3 37 rfl rfl
    rw [if_pos (wanted_of (g := 3) (d := 37) (b := true) rfl rfl s37)]
    refine does_val (v := .pointer (some ⟨b, 0, none⟩)) (w' := wx) ?_ ⟨rfl, Below.refl _ _⟩
    have t44 := (ev_tmp a 44).symm.trans s44
    simp [execOp, go_sem, t44]
  · intro a wx hS hb hf
    have s45 : a.eval (.tmp 45) = .pointer (some ⟨b, 0, none⟩) := slot hb 0 11 45 rfl rfl
    have s37 : a.eval (.tmp 37) = .bool true := slot hb 1 3 37 rfl rfl
    rw [if_pos (wanted_of (g := 3) (d := 37) (b := true) rfl rfl s37)]
    have d0 := (hS.cell (p := ⟨b, 0, none⟩) (tg_lt HMv.out.fw.tb)).trans c0
    refine does_val (v := .int .i64 y.room) (w' := wx) ?_ ⟨rfl, Below.refl _ _⟩
    have t45 := (ev_tmp a 45).symm.trans s45
    simp [execOp, go_sem, t45, d0]
  · intro a wx hS hb hf
    have s42 : a.eval (.tmp 42) = .int .i64 (us + (len : Int)) := slot hb 0 8 42 rfl rfl
    have s46 : a.eval (.tmp 46) = .int .i64 y.room := slot hb 1 12 46 rfl rfl
    have s37 : a.eval (.tmp 37) = .bool true := slot hb 2 3 37 rfl rfl
    rw [if_pos (wanted_of (g := 3) (d := 37) (b := true) rfl rfl s37)]
    refine does_val (v := .bool false) (w' := wx) ?_ ⟨rfl, Below.refl _ _⟩
    have t42 := (ev_tmp a 42).symm.trans s42
    have t46 := (ev_tmp a 46).symm.trans s46
    simp [execOp, go_sem, t42, t46, hrm]
  · intro a wx hS hb hf
    have s37 : a.eval (.tmp 37) = .bool true := slot hb 0 3 37 rfl rfl
    have s47 : a.eval (.tmp 47) = .bool false := slot hb 1 13 47 rfl rfl
    rw [if_pos (wanted_none rfl)]
    refine does_val (v := .bool false) (w' := wx) ?_ ⟨rfl, Below.refl _ _⟩
    have t37 := (ev_tmp a 37).symm.trans s37
    have t47 := (ev_tmp a 47).symm.trans s47
    simp [execOp, go_sem, t37, t47]
  · intro a wx hS hb hf
    have s48 : a.eval (.tmp 48) = .bool false := slot hb 0 14 48 rfl rfl
    rw [if_pos (wanted_none rfl)]
    refine does_val (v := .bool false) (w' := wx) ?_ ⟨rfl, Below.refl _ _⟩
    have t48 := (ev_tmp a 48).symm.trans s48
    simp [execOp, go_sem, t48]
  intro a u hbu hts hd hdone hfree
  have e33 : a.eval (.tmp 33) = .bool false := done_slot hdone 15 33 rfl
  obtain ⟨x34, ex34⟩ : ∃ x, a.eval (.tmp 34) = x := ⟨_, rfl⟩
  obtain ⟨x35, ex35⟩ : ∃ x, a.eval (.tmp 35) = x := ⟨_, rfl⟩
  obtain ⟨x36, ex36⟩ : ∃ x, a.eval (.tmp 36) = x := ⟨_, rfl⟩
  obtain ⟨x37, ex37⟩ : ∃ x, a.eval (.tmp 37) = x := ⟨_, rfl⟩
  obtain ⟨x38, ex38⟩ : ∃ x, a.eval (.tmp 38) = x := ⟨_, rfl⟩
  obtain ⟨x39, ex39⟩ : ∃ x, a.eval (.tmp 39) = x := ⟨_, rfl⟩
  obtain ⟨x40, ex40⟩ : ∃ x, a.eval (.tmp 40) = x := ⟨_, rfl⟩
  obtain ⟨x41, ex41⟩ : ∃ x, a.eval (.tmp 41) = x := ⟨_, rfl⟩
  obtain ⟨x42, ex42⟩ : ∃ x, a.eval (.tmp 42) = x := ⟨_, rfl⟩
  obtain ⟨x43, ex43⟩ : ∃ x, a.eval (.tmp 43) = x := ⟨_, rfl⟩
  obtain ⟨x44, ex44⟩ : ∃ x, a.eval (.tmp 44) = x := ⟨_, rfl⟩
  obtain ⟨x45, ex45⟩ : ∃ x, a.eval (.tmp 45) = x := ⟨_, rfl⟩
  obtain ⟨x46, ex46⟩ : ∃ x, a.eval (.tmp 46) = x := ⟨_, rfl⟩
  obtain ⟨x47, ex47⟩ : ∃ x, a.eval (.tmp 47) = x := ⟨_, rfl⟩
  obtain ⟨x48, ex48⟩ : ∃ x, a.eval (.tmp 48) = x := ⟨_, rfl⟩
  have hact := act_puts hts hd hfree
  simp only [putAll, List.foldl_cons, List.foldl_nil, ex34, ex35, ex36, ex37, ex38, ex39, ex40, ex41, ex42, ex43, ex44, ex45, ex46, ex47, ex48, e33, Act.put] at hact
  simp at hact
  clear ex34 ex35 ex36 ex37 ex38 ex39 ex40 ex41 ex42 ex43 ex44 ex45 ex46 ex47 ex48 e33 hts hd hdone hfree
  subst hact
  have HB : Hid (Below w1.heap.size w1 u) := hbu
  clear hbu
  have hF := HMv.out.fw.below HB.out
  obtain ⟨_, e1, _, ez⟩ := hF.cells HK.out
  rw [HRV.out] at e1
  have ez1 := ez 1
  have hro := hF.fl.fr g HK.out
  rw [HRV.out] at hro
  have HOW : Hid (World.ownsRow u 0 5 1 (.slice ra (y.bs g).length rc) (y.bs g).length ((y.bs g).map (Value.int .u8))) := hro
  have HNW : Hid (∀ A, ad = some A → ∀ j v, (zs.map (Value.int .u8))[j]? = some v → u.cell? (A.add j) = some v) := rd_news ((HR.out.kp' HMv.out.kp HOUT.out).below HB.out)
  have HFL : Hid (u.heap[g]? = _) := hF.fl.fl g HK.out
  have HT : Hid (∀ k, (y.rv g).ownBlock = some k → g ≠ k) := fun k e => tg_ne (hF.tf HK.out) (hF.tr HK.out e) (by decide)
  have HTL : Hid (g < u.heap.size) := tg_lt (hF.tf HK.out)
  clear hF ez hro
  have HM1 : Hid ((y.bs g).length + len ≤ maxLen) := by show _ ≤ maxLen; unfold maxLen; have := HLEN.out; omega
  have HM2 : Hid (((y.bs g).length + len) * 1 ≤ 140737488355328) := by show _ ≤ _; have := HLEN.out; omega
  go_wp2_with (refine wpList_append_here u rfl (.tmp 53) (.tmp 54) 32 rfl 5 i0 _ 1 1 Try.underlying32 hi hz0 hz1 hz2 rfl (by decide) (.slice ra (y.bs g).length rc) (y.bs g).length ((y.bs g).map (Value.int .u8)) rfl HOW.out ad len cap (zs.map (Value.int .u8)) rfl (by rw [List.length_map, HZ.out, Nat.mul_one]) HNN.out HNW.out (ints_oneCell _ _) HM1.out HM2.out ?_; intro v' w2 hown hgrow hat; obtain ⟨va, vc, rfl, _, _⟩ := own_rd (k := .u8) (zs := y.bs g ++ zs) (by rw [List.map_append]; exact hown); rw [← HRV.out] at hgrow hat; have hg2 := (hgrow.block g HTL.out (fun e => HT.out g e.symm rfl)).trans HFL.out; have q1 : w2.cell? ⟨g, 1, none⟩ = some (y.rv g) := (by simp [World.cell?, hg2]); have q2 : w2.frozen? ⟨g, 1, none⟩ = false := (by simp [World.frozen?, hg2]); rw [HRV.out] at q1; have HOWN : Hid _ := hown; have HGR : Hid _ := hgrow; have HAT : Hid _ := hat; clear hown hgrow hat hg2)
  go_ret
  refine ⟨rfl, .slice va ((y.bs g).length + len) vc, HMv.out.trans ((Mv.below HMv.out.fw HB.out).trans ?_)⟩
  exact append_fin (HMv.out.fw.below HB.out) HK.out HZ.out HOWN.out HGR.out HAT.out (by have := HLEN.out; omega)
set_option linter.unusedSimpArgs false in
set_option maxRecDepth 100000 in
set_option maxHeartbeats 4000000 in
theorem append_ok_zero (b : Nat) (x y : X) (s : ByteArray) (ad : Option Addr) (len cap : Nat) (w : World) (h : FW w b x) (he : ent x = (0, y)) (hs : s.size ≤ maxLen) (g : Nat) (hg : y.pm s = some g) (hl : (y.bs g).length + len ≤ 1048576) (zs : List Int) (hz : zs.length = len) (hrd : Rd .u8 w ad zs) (hout : zs ≠ [] → Out (foot b x) ad) (hnone : ad = none → cap = 0 ∧ len = 0) (h0 : ¬ 0 < (len : Int)) :
    Calls Try.prog 25 #[.pointer (some ⟨b, 0, none⟩), .string s, .slice ad len cap] w fun e w' => e = .returned (.int .i64 0) ∧ ∃ v', Mv b w x w' (setF y g v' (y.bs g ++ zs) (y.st g)) := by
  have H : Hid (FW w b x) := h
  have HE : Hid (ent x = (0, y)) := he
  have HS : Hid (s.size ≤ maxLen) := hs
  have HG : Hid (y.pm s = some g) := hg
  have HR : Hid (Rd .u8 w ad zs) := hrd
  have HZ : Hid (zs.length = len) := hz
  have HOUT : Hid (zs ≠ [] → Out (foot b x) ad) := hout
  have HNN : Hid (ad = none → cap = 0 ∧ len = 0) := hnone
  have HLEN : Hid ((y.bs g).length + len ≤ 1048576) := hl
  clear h he hs hg hz hrd hout hnone
  obtain ⟨i0, hi, hz0, hz1, hz2⟩ := info_parts Try.info5
  go_enter Try.func25, Try.ntmps25
  go_wp2_with (go_at_call 51; refine (enter_ok b x y w H.out HE.out).mono ?_; rintro e w1 ⟨rfl, hMv⟩; have c0 := hMv.fw.fc.c0; have c2 := hMv.fw.fc.c2; have lk := hMv.fw.pw.look s HS.out; rw [HG.out] at lk; simp only [pv] at lk; have hK := hMv.fw.pk s g HG.out; obtain ⟨_, d1, _, _⟩ := hMv.fw.cells hK; obtain ⟨ra, rc, hrv, _, _⟩ := own_rd (hMv.fw.fl.fr g hK); rw [hrv] at d1; have hst := (hMv.fw.fl.st0 g hK).2.2; have hwr : wrap64 (((y.bs g).length : Int) + (len : Int)) = ((y.bs g).length : Int) + (len : Int) := (by unfold wrap64; omega); have hgt : ¬ (1048576 : Int) < ((y.bs g).length : Int) + (len : Int) := (by omega); have HMv : Hid _ := hMv; have HK : Hid (y.K g) := hK; have HRV : Hid (y.rv g = _) := hrv; clear hMv hK hrv)
  refine wp_region_K (by kernel_rfl) (by kernel_rfl) [.eq (.slice ad len cap), .eq (.int .i64 (len : Int)), .eq (.bool false), .eq (.bool false), .eq (undef), .eq (undef), .eq (undef), .eq (undef), .eq (undef), .eq (undef), .eq (undef), .eq (undef), .eq (undef), .eq (undef), .eq (.bool false), .eq (.bool false)] w1 (Below.refl _ _) (allOps_cons ?_ (allOps_cons ?_ (allOps_cons ?_ (allOps_cons ?_ (allOps_cons ?_ (allOps_cons ?_ (allOps_cons ?_ (allOps_cons ?_ (allOps_cons ?_ (allOps_cons ?_ (allOps_cons ?_ (allOps_cons ?_ (allOps_cons ?_ (allOps_cons ?_ (allOps_cons ?_ (allOps_cons ?_ allOps_nil)))))))))))))))) ?_
  · intro a wx hS hb hf
    have s2 : a.eval (.tmp 2) = .slice ad len cap := (hf 2 (by kernel_rfl)).trans rfl
    rw [if_pos (wanted_none rfl)]
    refine does_val (v := .slice ad len cap) (w' := wx) ?_ ⟨rfl, Below.refl _ _⟩
    have t2 := (ev_tmp a 2).symm.trans s2
    simp [execOp, go_sem, t2]
  · intro a wx hS hb hf
    have s34 : a.eval (.tmp 34) = .slice ad len cap := slot hb 0 0 34 rfl rfl
    rw [if_pos (wanted_none rfl)]
    refine does_val (v := .int .i64 (len : Int)) (w' := wx) ?_ ⟨rfl, Below.refl _ _⟩
    have t34 := (ev_tmp a 34).symm.trans s34
    simp [execOp, go_sem, t34]
  · intro a wx hS hb hf
    have s35 : a.eval (.tmp 35) = .int .i64 (len : Int) := slot hb 0 1 35 rfl rfl
    rw [if_pos (wanted_none rfl)]
    refine does_val (v := .bool false) (w' := wx) ?_ ⟨rfl, Below.refl _ _⟩
    have t35 := (ev_tmp a 35).symm.trans s35
    simp [execOp, go_sem, t35]
    omega
  · intro a wx hS hb hf
    have s36 : a.eval (.tmp 36) = .bool false := slot hb 0 2 36 rfl rfl
    rw [if_pos (wanted_none rfl)]
    refine does_val (v := .bool false) (w' := wx) ?_ ⟨rfl, Below.refl _ _⟩
    have t36 := (ev_tmp a 36).symm.trans s36
    simp [execOp, go_sem, t36]
  · intro a wx hS hb hf
    have s0 : a.eval (.tmp 0) = .pointer (some ⟨b, 0, none⟩) := (hf 0 (by kernel_rfl)).trans rfl
    have s37 : a.eval (.tmp 37) = .bool false := slot hb 0 3 37 rfl rfl
    rw [if_neg (wanted_not (g := 3) (d := 37) (b := true) rfl rfl s37)]
    exact rfl
  · intro a wx hS hb hf
    have s38 : a.eval (.tmp 38) = undef := slot hb 0 4 38 rfl rfl
    have s37 : a.eval (.tmp 37) = .bool false := slot hb 1 3 37 rfl rfl
    rw [if_neg (wanted_not (g := 3) (d := 37) (b := true) rfl rfl s37)]
    exact rfl
  · intro a wx hS hb hf
    have s2 : a.eval (.tmp 2) = .slice ad len cap := (hf 2 (by kernel_rfl)).trans rfl
    have s37 : a.eval (.tmp 37) = .bool false := slot hb 0 3 37 rfl rfl
    rw [if_neg (wanted_not (g := 3) (d := 37) (b := true) rfl rfl s37)]
    exact rfl
  · intro a wx hS hb hf
    have s40 : a.eval (.tmp 40) = undef := slot hb 0 6 40 rfl rfl
    have s37 : a.eval (.tmp 37) = .bool false := slot hb 1 3 37 rfl rfl
    rw [if_neg (wanted_not (g := 3) (d := 37) (b := true) rfl rfl s37)]
    exact rfl
  · intro a wx hS hb hf
    have s39 : a.eval (.tmp 39) = undef := slot hb 0 5 39 rfl rfl
    have s41 : a.eval (.tmp 41) = undef := slot hb 1 7 41 rfl rfl
    have s37 : a.eval (.tmp 37) = .bool false := slot hb 2 3 37 rfl rfl
    rw [if_neg (wanted_not (g := 3) (d := 37) (b := true) rfl rfl s37)]
    exact rfl
  · intro a wx hS hb hf
    have s0 : a.eval (.tmp 0) = .pointer (some ⟨b, 0, none⟩) := (hf 0 (by kernel_rfl)).trans rfl
    have s37 : a.eval (.tmp 37) = .bool false := slot hb 0 3 37 rfl rfl
    rw [if_neg (wanted_not (g := 3) (d := 37) (b := true) rfl rfl s37)]
    exact rfl
  · intro a wx hS hb hf
    have s43 : a.eval (.tmp 43) = undef := slot hb 0 9 43 rfl rfl
    have s37 : a.eval (.tmp 37) = .bool false := slot hb 1 3 37 rfl rfl
    rw [if_neg (wanted_not (g := 3) (d := 37) (b := true) rfl rfl s37)]
    exact rfl
  · intro a wx hS hb hf
    have s44 : a.eval (.tmp 44) = undef := slot hb 0 10 44 rfl rfl
    have s37 : a.eval (.tmp 37) = .bool false := slot hb 1 3 37 rfl rfl
    rw [if_neg (wanted_not (g := 3) (d := 37) (b := true) rfl rfl s37)]
    exact rfl
  · intro a wx hS hb hf
    have s45 : a.eval (.tmp 45) = undef := slot hb 0 11 45 rfl rfl
    have s37 : a.eval (.tmp 37) = .bool false := slot hb 1 3 37 rfl rfl
    rw [if_neg (wanted_not (g := 3) (d := 37) (b := true) rfl rfl s37)]
    exact rfl
  · intro a wx hS hb hf
    have s42 : a.eval (.tmp 42) = undef := slot hb 0 8 42 rfl rfl
    have s46 : a.eval (.tmp 46) = undef := slot hb 1 12 46 rfl rfl
    have s37 : a.eval (.tmp 37) = .bool false := slot hb 2 3 37 rfl rfl
    rw [if_neg (wanted_not (g := 3) (d := 37) (b := true) rfl rfl s37)]
    exact rfl
  · intro a wx hS hb hf
    have s37 : a.eval (.tmp 37) = .bool false := slot hb 0 3 37 rfl rfl
    have s47 : a.eval (.tmp 47) = undef := slot hb 1 13 47 rfl rfl
    rw [if_pos (wanted_none rfl)]
    refine does_val (v := .bool false) (w' := wx) ?_ ⟨rfl, Below.refl _ _⟩
    have t37 := (ev_tmp a 37).symm.trans s37
    have t47 := (ev_tmp a 47).symm.trans s47
    simp [execOp, go_sem, t37, t47]
  · intro a wx hS hb hf
    have s48 : a.eval (.tmp 48) = .bool false := slot hb 0 14 48 rfl rfl
    rw [if_pos (wanted_none rfl)]
    refine does_val (v := .bool false) (w' := wx) ?_ ⟨rfl, Below.refl _ _⟩
    have t48 := (ev_tmp a 48).symm.trans s48
    simp [execOp, go_sem, t48]
  intro a u hbu hts hd hdone hfree
  have e33 : a.eval (.tmp 33) = .bool false := done_slot hdone 15 33 rfl
  obtain ⟨x34, ex34⟩ : ∃ x, a.eval (.tmp 34) = x := ⟨_, rfl⟩
  obtain ⟨x35, ex35⟩ : ∃ x, a.eval (.tmp 35) = x := ⟨_, rfl⟩
  obtain ⟨x36, ex36⟩ : ∃ x, a.eval (.tmp 36) = x := ⟨_, rfl⟩
  obtain ⟨x37, ex37⟩ : ∃ x, a.eval (.tmp 37) = x := ⟨_, rfl⟩
  obtain ⟨x38, ex38⟩ : ∃ x, a.eval (.tmp 38) = x := ⟨_, rfl⟩
  obtain ⟨x39, ex39⟩ : ∃ x, a.eval (.tmp 39) = x := ⟨_, rfl⟩
  obtain ⟨x40, ex40⟩ : ∃ x, a.eval (.tmp 40) = x := ⟨_, rfl⟩
  obtain ⟨x41, ex41⟩ : ∃ x, a.eval (.tmp 41) = x := ⟨_, rfl⟩
  obtain ⟨x42, ex42⟩ : ∃ x, a.eval (.tmp 42) = x := ⟨_, rfl⟩
  obtain ⟨x43, ex43⟩ : ∃ x, a.eval (.tmp 43) = x := ⟨_, rfl⟩
  obtain ⟨x44, ex44⟩ : ∃ x, a.eval (.tmp 44) = x := ⟨_, rfl⟩
  obtain ⟨x45, ex45⟩ : ∃ x, a.eval (.tmp 45) = x := ⟨_, rfl⟩
  obtain ⟨x46, ex46⟩ : ∃ x, a.eval (.tmp 46) = x := ⟨_, rfl⟩
  obtain ⟨x47, ex47⟩ : ∃ x, a.eval (.tmp 47) = x := ⟨_, rfl⟩
  obtain ⟨x48, ex48⟩ : ∃ x, a.eval (.tmp 48) = x := ⟨_, rfl⟩
  have hact := act_puts hts hd hfree
  simp only [putAll, List.foldl_cons, List.foldl_nil, ex34, ex35, ex36, ex37, ex38, ex39, ex40, ex41, ex42, ex43, ex44, ex45, ex46, ex47, ex48, e33, Act.put] at hact
  simp at hact
  clear ex34 ex35 ex36 ex37 ex38 ex39 ex40 ex41 ex42 ex43 ex44 ex45 ex46 ex47 ex48 e33 hts hd hdone hfree
  subst hact
  have HB : Hid (Below w1.heap.size w1 u) := hbu
  clear hbu
  have hF := HMv.out.fw.below HB.out
  obtain ⟨_, e1, _, ez⟩ := hF.cells HK.out
  rw [HRV.out] at e1
  have ez1 := ez 1
  have hro := hF.fl.fr g HK.out
  rw [HRV.out] at hro
  have HOW : Hid (World.ownsRow u 0 5 1 (.slice ra (y.bs g).length rc) (y.bs g).length ((y.bs g).map (Value.int .u8))) := hro
  have HNW : Hid (∀ A, ad = some A → ∀ j v, (zs.map (Value.int .u8))[j]? = some v → u.cell? (A.add j) = some v) := rd_news ((HR.out.kp' HMv.out.kp HOUT.out).below HB.out)
  have HFL : Hid (u.heap[g]? = _) := hF.fl.fl g HK.out
  have HT : Hid (∀ k, (y.rv g).ownBlock = some k → g ≠ k) := fun k e => tg_ne (hF.tf HK.out) (hF.tr HK.out e) (by decide)
  have HTL : Hid (g < u.heap.size) := tg_lt (hF.tf HK.out)
  clear hF ez hro
  have HM1 : Hid ((y.bs g).length + len ≤ maxLen) := by show _ ≤ maxLen; unfold maxLen; have := HLEN.out; omega
  have HM2 : Hid (((y.bs g).length + len) * 1 ≤ 140737488355328) := by show _ ≤ _; have := HLEN.out; omega
  go_wp2_with (refine wpList_append_here u rfl (.tmp 53) (.tmp 54) 32 rfl 5 i0 _ 1 1 Try.underlying32 hi hz0 hz1 hz2 rfl (by decide) (.slice ra (y.bs g).length rc) (y.bs g).length ((y.bs g).map (Value.int .u8)) rfl HOW.out ad len cap (zs.map (Value.int .u8)) rfl (by rw [List.length_map, HZ.out, Nat.mul_one]) HNN.out HNW.out (ints_oneCell _ _) HM1.out HM2.out ?_; intro v' w2 hown hgrow hat; obtain ⟨va, vc, rfl, _, _⟩ := own_rd (k := .u8) (zs := y.bs g ++ zs) (by rw [List.map_append]; exact hown); rw [← HRV.out] at hgrow hat; have hg2 := (hgrow.block g HTL.out (fun e => HT.out g e.symm rfl)).trans HFL.out; have q1 : w2.cell? ⟨g, 1, none⟩ = some (y.rv g) := (by simp [World.cell?, hg2]); have q2 : w2.frozen? ⟨g, 1, none⟩ = false := (by simp [World.frozen?, hg2]); rw [HRV.out] at q1; have HOWN : Hid _ := hown; have HGR : Hid _ := hgrow; have HAT : Hid _ := hat; clear hown hgrow hat hg2)
  go_ret
  refine ⟨rfl, .slice va ((y.bs g).length + len) vc, HMv.out.trans ((Mv.below HMv.out.fw HB.out).trans ?_)⟩
  exact append_fin (HMv.out.fw.below HB.out) HK.out HZ.out HOWN.out HGR.out HAT.out (by have := HLEN.out; omega)
theorem append_ok (b : Nat) (x y : X) (s : ByteArray) (ad : Option Addr) (len cap : Nat) (w : World) (h : FW w b x) (he : ent x = (0, y)) (hs : s.size ≤ maxLen) (g : Nat) (hg : y.pm s = some g) (hl : (y.bs g).length + len ≤ 1048576) (zs : List Int) (hz : zs.length = len) (hrd : Rd .u8 w ad zs) (hout : zs ≠ [] → Out (foot b x) ad) (hnone : ad = none → cap = 0 ∧ len = 0) (n : Nat) (ys : List { g : Nat // y.K g }) (hH : Held y.pm n ys) (hn : n ≤ 1000000) (hrm : len = 0 ∨ lens y.bs ys + (len : Int) ≤ y.room) :
    Calls Try.prog 25 #[.pointer (some ⟨b, 0, none⟩), .string s, .slice ad len cap] w fun e w' => e = .returned (.int .i64 0) ∧ ∃ v', Mv b w x w' (setF y g v' (y.bs g ++ zs) (y.st g)) := by
  by_cases h0 : 0 < (len : Int)
  · exact append_ok_pos b x y s ad len cap w h he hs g hg hl zs hz hrd hout hnone h0 n ys hH hn (by omega)
  · exact append_ok_zero b x y s ad len cap w h he hs g hg hl zs hz hrd hout hnone h0
end Go.Proofs.Ytkipcblbadkjnaa
