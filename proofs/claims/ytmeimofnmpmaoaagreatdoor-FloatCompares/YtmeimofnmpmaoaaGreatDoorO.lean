/- What read tells of the two texts, and Of of their bits. Conditions: the package variables hold what they are laid with. -/
import Derived.Test.YtmeimofnmpmaoaaGreatDoorB
import Derived.Test.YtmeimofnmpmaoaaGreatDoorH
import Derived.Lib.AtoiErrMem
import Derived.ScopeJumps
namespace Go.Proofs.YtmeimofnmpmaoaaGreatDoor
open Go.RowKit Go.Shelf

theorem cut_v (s h p : ByteArray) (w : World) (hG : Ground w) (hs : s.size < 1000) (h1 : Hid ((Lib.cut s.data.toList [101]) = (h.data.toList, p.data.toList, true))) :
    Calls Tryz.prog 33 #[.string s, .string ⟨#[101]⟩] w fun e w' => e = .returned (.tuple #[.string h, .string p, .bool true]) ∧ ∃ n, w' = w.drewN n := by
  obtain ⟨m, hm⟩ := hG.maxLen
  have := Any.strings_Cut Tryz.laysCut s ⟨#[101]⟩ m w (by omega) hm
  rw [show (⟨#[101]⟩ : ByteArray).data.toList = [101] from rfl, h1.out] at this
  exact this

theorem trim_v (s r : ByteArray) (w : World) (h : Hid (Lib.trimPrefix s.data.toList [45] = r.data.toList)) :
    Calls Tryz.prog 35 #[.string s, .string ⟨#[45]⟩] w fun e w' => e = .returned (.string r) ∧ w' = w := by
  have := Any.strings_TrimPrefix Tryz.laysTrimPrefix s ⟨#[45]⟩ w
  rw [show (⟨#[45]⟩ : ByteArray).data.toList = [45] from rfl, h.out] at this
  exact this

theorem atoi_v (s : ByteArray) (v : Int) (w : World) (hs : s.size ≤ 100) (h : Hid (Lib.atoiAll s.data.toList = .ok v)) :
    Calls Tryz.prog 34 #[.string s] w fun e w' => e = .returned (.tuple #[.int .i64 v, .nilIface]) ∧ Below w.heap.size w w' := by
  refine (Any.strconv_Atoi_ok Tryz.laysAtoi s (by omega) v h w).mono ?_
  rintro e w' ⟨rfl, hw⟩
  refine ⟨rfl, ?_⟩
  rcases hw with rfl | ⟨t, rfl⟩
  · exact Below.refl _ _
  · exact Lib.bytesWorld_below _ _ _

def head_half : ByteArray := ⟨#[49, 46, 53]⟩
set_option maxRecDepth 40000 in
set_option maxHeartbeats 2000000 in
theorem read_half (w : World) (hG : Ground w) :
    Calls Tryz.prog 22 #[.string ⟨#[49, 46, 53, 101, 43, 48, 48]⟩] w fun e w' => e = .returned (.tuple #[val 15 (-1) 0, .bool true]) ∧ Below w.heap.size w w' := by
  have b0 : Below w.heap.size w (w.alloc (.cells #[.int .i64 0, .int .i64 0, .int .i64 0] 23)) := (Below.refl _ _).alloc (Nat.le_refl _) _
  obtain ⟨hd, Hhd⟩ : ∃ hd : ByteArray, Hid (hd = ⟨#[49, 46, 53]⟩) := ⟨_, rfl⟩
  obtain ⟨tl, Htl⟩ : ∃ tl : ByteArray, Hid (tl = ⟨#[43, 48, 48]⟩) := ⟨_, rfl⟩
  go_enter Tryz.func22, Tryz.ntmps22
  go_wp2_with fail
  go_step3
  go_wp2_with fail
  refine (cut_v _ hd tl _ (hG.below b0) (by decide) (show _ = _ by rw [Hhd.out, Htl.out]; decide +kernel)).mono ?_
  rintro e w' ⟨rfl, n1, hw'⟩; rw [hw']; clear hw' w'
  go_wp2_with fail
  refine (atoi_v tl 0 _ (by rw [Htl.out]; decide) (show _ = _ by rw [Htl.out]; decide +kernel)).mono ?_
  rintro e w2 ⟨rfl, b2⟩
  have hcell : ∀ i, i < 3 → w2.cell? ⟨w.heap.size, i, none⟩ = some (.int .i64 0) ∧ w2.frozen? ⟨w.heap.size, i, none⟩ = false := fun i hi => by
    rw [b2.cell (show w.heap.size < (w.alloc (.cells #[.int .i64 0, .int .i64 0, .int .i64 0] 23)).heap.size by simp), b2.frozen (show w.heap.size < (w.alloc (.cells #[.int .i64 0, .int .i64 0, .int .i64 0] 23)).heap.size by simp)]
    show (w.alloc (.cells #[.int .i64 0, .int .i64 0, .int .i64 0] 23)).cell? _ = _ ∧ (w.alloc (.cells #[.int .i64 0, .int .i64 0, .int .i64 0] 23)).frozen? _ = _
    match i, hi with
    | 0, _ => simp
    | 1, _ => simp
    | 2, _ => simp
  have b2' := Below.mono (B' := w.heap.size) b2 (by show w.heap.size ≤ (w.alloc (.cells #[.int .i64 0, .int .i64 0, .int .i64 0] 23)).heap.size; simp)
  have bw2 : Below w.heap.size w w2 := (b0.trans ⟨rfl, rfl, rfl, Nat.le_refl _, fun _ _ => rfl⟩ : Below w.heap.size w ((w.alloc (.cells #[.int .i64 0, .int .i64 0, .int .i64 0] 23)).drewN n1)).trans b2'
  have lw2 : w.heap.size < w2.heap.size := by have := b2.size; have e : ((w.alloc (.cells #[.int .i64 0, .int .i64 0, .int .i64 0] 23)).drewN n1).heap.size = w.heap.size + 1 := by show (w.alloc _).heap.size = _; simp
                                              omega
  go_wp2_with fail
  refine (trim_v hd hd _ (show _ = _ by rw [Hhd.out]; decide +kernel)).mono ?_
  rintro e w' ⟨rfl, hw'⟩; rw [hw']; clear hw' w'
  have hsz : hd.size = 3 := by rw [Hhd.out]; rfl
  obtain ⟨z0, f0⟩ := hcell 0 (by decide)
  obtain ⟨z1, f1⟩ := hcell 1 (by decide)
  obtain ⟨z2, f2⟩ := hcell 2 (by decide)
  clear hcell
  go_wp2_with fail
  go_loop [29, 4, 5] (fun i m d => (i = .int .i64 0 ∧ m = .int .i64 0 ∧ d = .int .i64 0) ∨ (i = .int .i64 1 ∧ m = .int .i64 1 ∧ d = .int .i64 1) ∨ (i = .int .i64 2 ∧ m = .int .i64 1 ∧ d = .int .i64 1) ∨ (i = .int .i64 3 ∧ m = .int .i64 15 ∧ d = .int .i64 2)) (fun i _ _ => 4 - (intOf i).toNat)
  case atStart => exact .inl ⟨rfl, rfl, rfl⟩
  case round =>
    rcases hrel with ⟨rfl, rfl, rfl⟩ | ⟨rfl, rfl, rfl⟩ | ⟨rfl, rfl, rfl⟩ | ⟨rfl, rfl, rfl⟩
    · have hi : ((hd[0]'(by rw [hsz]; decide)).toNat : Int) = 49 := by simp only [Hhd.out]; rfl
      go_wp2_with fail
      exact ⟨.inr (.inl ⟨rfl, rfl, rfl⟩), by simp [intOf]⟩
    · have hi : ((hd[1]'(by rw [hsz]; decide)).toNat : Int) = 46 := by simp only [Hhd.out]; rfl
      go_wp2_with fail
      exact ⟨.inr (.inr (.inl ⟨rfl, rfl, rfl⟩)), by simp [intOf]⟩
    · have hi : ((hd[2]'(by rw [hsz]; decide)).toNat : Int) = 53 := by simp only [Hhd.out]; rfl
      go_wp2_with fail
      exact ⟨.inr (.inr (.inr ⟨rfl, rfl, rfl⟩)), by simp [intOf]⟩
    · skip
      go_wp2_with fail
      refine (clean_any 15 (-1) 15 0 true (by decide) (by decide) (by decide) (by decide) (by decide) (by decide) (by decide) (show _ = _ by decide) _).mono ?_
      rintro e w3 ⟨rfl, b3⟩
      have z0' := (b3.cell (show w.heap.size < w2.heap.size from lw2) (p := ⟨w.heap.size, 0, none⟩)).trans z0
      have z1' := (b3.cell (show w.heap.size < w2.heap.size from lw2) (p := ⟨w.heap.size, 1, none⟩)).trans z1
      have z2' := (b3.cell (show w.heap.size < w2.heap.size from lw2) (p := ⟨w.heap.size, 2, none⟩)).trans z2
      have f0' := (b3.frozen (show w.heap.size < w2.heap.size from lw2) (p := ⟨w.heap.size, 0, none⟩)).trans f0
      have f1' := (b3.frozen (show w.heap.size < w2.heap.size from lw2) (p := ⟨w.heap.size, 1, none⟩)).trans f1
      have f2' := (b3.frozen (show w.heap.size < w2.heap.size from lw2) (p := ⟨w.heap.size, 2, none⟩)).trans f2
      go_wp2_with fail
      try rw [Exit.noGoto_ret]
      refine bodyPost_ret (by simp [results, Tryz.results22, go_sem, World.cell?_setCell_other, z0', z1', z2']; try rfl) rfl ?_
      exact ⟨rfl, ((((bw2.trans (b3.mono (Nat.le_of_lt lw2))).setCell (p := ⟨w.heap.size, 0, none⟩) (Nat.le_refl _) _).setCell (p := ⟨w.heap.size, 1, none⟩) (Nat.le_refl _) _).setCell (p := ⟨w.heap.size, 2, none⟩) (Nat.le_refl _) _)⟩

def head_third : ByteArray := ⟨#[51, 46, 51, 51, 51, 51, 51, 51, 51, 51, 51, 51, 51, 51, 51, 51, 51]⟩
set_option maxRecDepth 40000 in
set_option maxHeartbeats 2000000 in
theorem read_third (w : World) (hG : Ground w) :
    Calls Tryz.prog 22 #[.string ⟨#[51, 46, 51, 51, 51, 51, 51, 51, 51, 51, 51, 51, 51, 51, 51, 51, 51, 101, 45, 48, 49]⟩] w fun e w' => e = .returned (.tuple #[val 0 0 0, .bool false]) ∧ Below w.heap.size w w' := by
  have b0 : Below w.heap.size w (w.alloc (.cells #[.int .i64 0, .int .i64 0, .int .i64 0] 23)) := (Below.refl _ _).alloc (Nat.le_refl _) _
  obtain ⟨hd, Hhd⟩ : ∃ hd : ByteArray, Hid (hd = ⟨#[51, 46, 51, 51, 51, 51, 51, 51, 51, 51, 51, 51, 51, 51, 51, 51, 51]⟩) := ⟨_, rfl⟩
  obtain ⟨tl, Htl⟩ : ∃ tl : ByteArray, Hid (tl = ⟨#[45, 48, 49]⟩) := ⟨_, rfl⟩
  go_enter Tryz.func22, Tryz.ntmps22
  go_wp2_with fail
  refine wp_scope_jumps 0 (fun a' w' => Below w.heap.size w w' ∧ w.heap.size < w'.heap.size ∧ w'.cell? ⟨w.heap.size, 0, none⟩ = some (.int .i64 0) ∧ w'.cell? ⟨w.heap.size, 1, none⟩ = some (.int .i64 0) ∧ w'.cell? ⟨w.heap.size, 2, none⟩ = some (.int .i64 0) ∧ w'.frozen? ⟨w.heap.size, 0, none⟩ = false ∧ w'.frozen? ⟨w.heap.size, 1, none⟩ = false ∧ w'.frozen? ⟨w.heap.size, 2, none⟩ = false ∧ ∃ u0 u1 u3 u4 u5 u6 u7 u8 u9 u10 u11 u12 u13 u14 u15 u16 u17 u18 u19 u20 u21 u22 u23 u24 u25 u26 u27 u28 u29 u30 u31 u32 u33 u34 u35 u36 u37 u38 u39 u40 u41 u42 u43 u44 u45 u46 u47 u48 u49 u50 u51 u52 u53 u54 u55 u56 u57 u58 u59 u60 u61 u62 u63 : Value, a' = { tmps := #[u0, u1, .pointer (some ⟨w.heap.size, 0, none⟩), u3, u4, u5, u6, u7, u8, u9, u10, u11, u12, u13, u14, u15, u16, u17, u18, u19, u20, u21, u22, u23, u24, u25, u26, u27, u28, u29, u30, u31, u32, u33, u34, u35, u36, u37, u38, u39, u40, u41, u42, u43, u44, u45, u46, u47, u48, u49, u50, u51, u52, u53, u54, u55, u56, u57, u58, u59, u60, u61, u62, u63], defers := [] }) (fun _ _ => 0) rfl ?_ ?_
  · go_wp2_with fail
    refine (cut_v _ hd tl _ (hG.below b0) (by decide) (show _ = _ by rw [Hhd.out, Htl.out]; decide +kernel)).mono ?_
    rintro e w' ⟨rfl, n1, hw'⟩; rw [hw']; clear hw' w'
    go_wp2_with fail
    refine (atoi_v tl (-1) _ (by rw [Htl.out]; decide) (show _ = _ by rw [Htl.out]; decide +kernel)).mono ?_
    rintro e w2 ⟨rfl, b2⟩
    have hcell : ∀ i, i < 3 → w2.cell? ⟨w.heap.size, i, none⟩ = some (.int .i64 0) ∧ w2.frozen? ⟨w.heap.size, i, none⟩ = false := fun i hi => by
      rw [b2.cell (show w.heap.size < (w.alloc (.cells #[.int .i64 0, .int .i64 0, .int .i64 0] 23)).heap.size by simp), b2.frozen (show w.heap.size < (w.alloc (.cells #[.int .i64 0, .int .i64 0, .int .i64 0] 23)).heap.size by simp)]
      show (w.alloc (.cells #[.int .i64 0, .int .i64 0, .int .i64 0] 23)).cell? _ = _ ∧ (w.alloc (.cells #[.int .i64 0, .int .i64 0, .int .i64 0] 23)).frozen? _ = _
      match i, hi with
      | 0, _ => simp
      | 1, _ => simp
      | 2, _ => simp
    have b2' := Below.mono (B' := w.heap.size) b2 (by show w.heap.size ≤ (w.alloc (.cells #[.int .i64 0, .int .i64 0, .int .i64 0] 23)).heap.size; simp)
    have bw2 : Below w.heap.size w w2 := (b0.trans ⟨rfl, rfl, rfl, Nat.le_refl _, fun _ _ => rfl⟩ : Below w.heap.size w ((w.alloc (.cells #[.int .i64 0, .int .i64 0, .int .i64 0] 23)).drewN n1)).trans b2'
    have lw2 : w.heap.size < w2.heap.size := by have := b2.size; have e : ((w.alloc (.cells #[.int .i64 0, .int .i64 0, .int .i64 0] 23)).drewN n1).heap.size = w.heap.size + 1 := by show (w.alloc _).heap.size = _; simp
                                                omega
    go_wp2_with fail
    refine (trim_v hd hd _ (show _ = _ by rw [Hhd.out]; decide +kernel)).mono ?_
    rintro e w' ⟨rfl, hw'⟩; rw [hw']; clear hw' w'
    have hsz : hd.size = 17 := by rw [Hhd.out]; rfl
    obtain ⟨z0, f0⟩ := hcell 0 (by decide)
    obtain ⟨z1, f1⟩ := hcell 1 (by decide)
    obtain ⟨z2, f2⟩ := hcell 2 (by decide)
    clear hcell
    go_wp2_with fail
    go_loop [29, 4, 5] (fun i m d => (i = .int .i64 0 ∧ m = .int .i64 0 ∧ d = .int .i64 0) ∨ (i = .int .i64 1 ∧ m = .int .i64 3 ∧ d = .int .i64 1) ∨ (i = .int .i64 2 ∧ m = .int .i64 3 ∧ d = .int .i64 1) ∨ (i = .int .i64 3 ∧ m = .int .i64 33 ∧ d = .int .i64 2) ∨ (i = .int .i64 4 ∧ m = .int .i64 333 ∧ d = .int .i64 3) ∨ (i = .int .i64 5 ∧ m = .int .i64 3333 ∧ d = .int .i64 4) ∨ (i = .int .i64 6 ∧ m = .int .i64 33333 ∧ d = .int .i64 5) ∨ (i = .int .i64 7 ∧ m = .int .i64 333333 ∧ d = .int .i64 6) ∨ (i = .int .i64 8 ∧ m = .int .i64 3333333 ∧ d = .int .i64 7) ∨ (i = .int .i64 9 ∧ m = .int .i64 33333333 ∧ d = .int .i64 8) ∨ (i = .int .i64 10 ∧ m = .int .i64 333333333 ∧ d = .int .i64 9) ∨ (i = .int .i64 11 ∧ m = .int .i64 3333333333 ∧ d = .int .i64 10) ∨ (i = .int .i64 12 ∧ m = .int .i64 33333333333 ∧ d = .int .i64 11) ∨ (i = .int .i64 13 ∧ m = .int .i64 333333333333 ∧ d = .int .i64 12) ∨ (i = .int .i64 14 ∧ m = .int .i64 3333333333333 ∧ d = .int .i64 13) ∨ (i = .int .i64 15 ∧ m = .int .i64 33333333333333 ∧ d = .int .i64 14) ∨ (i = .int .i64 16 ∧ m = .int .i64 333333333333333 ∧ d = .int .i64 15)) (fun i _ _ => 18 - (intOf i).toNat)
    case atStart => exact .inl ⟨rfl, rfl, rfl⟩
    case round =>
      rcases hrel with ⟨rfl, rfl, rfl⟩ | ⟨rfl, rfl, rfl⟩ | ⟨rfl, rfl, rfl⟩ | ⟨rfl, rfl, rfl⟩ | ⟨rfl, rfl, rfl⟩ | ⟨rfl, rfl, rfl⟩ | ⟨rfl, rfl, rfl⟩ | ⟨rfl, rfl, rfl⟩ | ⟨rfl, rfl, rfl⟩ | ⟨rfl, rfl, rfl⟩ | ⟨rfl, rfl, rfl⟩ | ⟨rfl, rfl, rfl⟩ | ⟨rfl, rfl, rfl⟩ | ⟨rfl, rfl, rfl⟩ | ⟨rfl, rfl, rfl⟩ | ⟨rfl, rfl, rfl⟩ | ⟨rfl, rfl, rfl⟩
      · have hi : ((hd[0]'(by rw [hsz]; decide)).toNat : Int) = 51 := by simp only [Hhd.out]; rfl
        go_wp2_with fail
        exact ⟨.inr (.inl ⟨rfl, rfl, rfl⟩), by simp [intOf]⟩
      · have hi : ((hd[1]'(by rw [hsz]; decide)).toNat : Int) = 46 := by simp only [Hhd.out]; rfl
        go_wp2_with fail
        exact ⟨.inr (.inr (.inl ⟨rfl, rfl, rfl⟩)), by simp [intOf]⟩
      · have hi : ((hd[2]'(by rw [hsz]; decide)).toNat : Int) = 51 := by simp only [Hhd.out]; rfl
        go_wp2_with fail
        exact ⟨.inr (.inr (.inr (.inl ⟨rfl, rfl, rfl⟩))), by simp [intOf]⟩
      · have hi : ((hd[3]'(by rw [hsz]; decide)).toNat : Int) = 51 := by simp only [Hhd.out]; rfl
        go_wp2_with fail
        exact ⟨.inr (.inr (.inr (.inr (.inl ⟨rfl, rfl, rfl⟩)))), by simp [intOf]⟩
      · have hi : ((hd[4]'(by rw [hsz]; decide)).toNat : Int) = 51 := by simp only [Hhd.out]; rfl
        go_wp2_with fail
        exact ⟨.inr (.inr (.inr (.inr (.inr (.inl ⟨rfl, rfl, rfl⟩))))), by simp [intOf]⟩
      · have hi : ((hd[5]'(by rw [hsz]; decide)).toNat : Int) = 51 := by simp only [Hhd.out]; rfl
        go_wp2_with fail
        exact ⟨.inr (.inr (.inr (.inr (.inr (.inr (.inl ⟨rfl, rfl, rfl⟩)))))), by simp [intOf]⟩
      · have hi : ((hd[6]'(by rw [hsz]; decide)).toNat : Int) = 51 := by simp only [Hhd.out]; rfl
        go_wp2_with fail
        exact ⟨.inr (.inr (.inr (.inr (.inr (.inr (.inr (.inl ⟨rfl, rfl, rfl⟩))))))), by simp [intOf]⟩
      · have hi : ((hd[7]'(by rw [hsz]; decide)).toNat : Int) = 51 := by simp only [Hhd.out]; rfl
        go_wp2_with fail
        exact ⟨.inr (.inr (.inr (.inr (.inr (.inr (.inr (.inr (.inl ⟨rfl, rfl, rfl⟩)))))))), by simp [intOf]⟩
      · have hi : ((hd[8]'(by rw [hsz]; decide)).toNat : Int) = 51 := by simp only [Hhd.out]; rfl
        go_wp2_with fail
        exact ⟨.inr (.inr (.inr (.inr (.inr (.inr (.inr (.inr (.inr (.inl ⟨rfl, rfl, rfl⟩))))))))), by simp [intOf]⟩
      · have hi : ((hd[9]'(by rw [hsz]; decide)).toNat : Int) = 51 := by simp only [Hhd.out]; rfl
        go_wp2_with fail
        exact ⟨.inr (.inr (.inr (.inr (.inr (.inr (.inr (.inr (.inr (.inr (.inl ⟨rfl, rfl, rfl⟩)))))))))), by simp [intOf]⟩
      · have hi : ((hd[10]'(by rw [hsz]; decide)).toNat : Int) = 51 := by simp only [Hhd.out]; rfl
        go_wp2_with fail
        exact ⟨.inr (.inr (.inr (.inr (.inr (.inr (.inr (.inr (.inr (.inr (.inr (.inl ⟨rfl, rfl, rfl⟩))))))))))), by simp [intOf]⟩
      · have hi : ((hd[11]'(by rw [hsz]; decide)).toNat : Int) = 51 := by simp only [Hhd.out]; rfl
        go_wp2_with fail
        exact ⟨.inr (.inr (.inr (.inr (.inr (.inr (.inr (.inr (.inr (.inr (.inr (.inr (.inl ⟨rfl, rfl, rfl⟩)))))))))))), by simp [intOf]⟩
      · have hi : ((hd[12]'(by rw [hsz]; decide)).toNat : Int) = 51 := by simp only [Hhd.out]; rfl
        go_wp2_with fail
        exact ⟨.inr (.inr (.inr (.inr (.inr (.inr (.inr (.inr (.inr (.inr (.inr (.inr (.inr (.inl ⟨rfl, rfl, rfl⟩))))))))))))), by simp [intOf]⟩
      · have hi : ((hd[13]'(by rw [hsz]; decide)).toNat : Int) = 51 := by simp only [Hhd.out]; rfl
        go_wp2_with fail
        exact ⟨.inr (.inr (.inr (.inr (.inr (.inr (.inr (.inr (.inr (.inr (.inr (.inr (.inr (.inr (.inl ⟨rfl, rfl, rfl⟩)))))))))))))), by simp [intOf]⟩
      · have hi : ((hd[14]'(by rw [hsz]; decide)).toNat : Int) = 51 := by simp only [Hhd.out]; rfl
        go_wp2_with fail
        exact ⟨.inr (.inr (.inr (.inr (.inr (.inr (.inr (.inr (.inr (.inr (.inr (.inr (.inr (.inr (.inr (.inl ⟨rfl, rfl, rfl⟩))))))))))))))), by simp [intOf]⟩
      · have hi : ((hd[15]'(by rw [hsz]; decide)).toNat : Int) = 51 := by simp only [Hhd.out]; rfl
        go_wp2_with fail
        exact ⟨.inr (.inr (.inr (.inr (.inr (.inr (.inr (.inr (.inr (.inr (.inr (.inr (.inr (.inr (.inr (.inr ⟨rfl, rfl, rfl⟩))))))))))))))), by simp [intOf]⟩
      · have hi : ((hd[16]'(by rw [hsz]; decide)).toNat : Int) = 51 := by simp only [Hhd.out]; rfl
        go_wp2_with fail
        go_step3
        exact ⟨rfl, bw2, lw2, z0, z1, z2, f0, f1, f2, _, _, _, _, _, _, _, _, _, _, _, _, _, _, _, _, _, _, _, _, _, _, _, _, _, _, _, _, _, _, _, _, _, _, _, _, _, _, _, _, _, _, _, _, _, _, _, _, _, _, _, _, _, _, _, _, _, _, _, _, _, _, _, rfl⟩
  · rintro a' w' ⟨bw, lw, z0, z1, z2, f0, f1, f2, u0, u1, u3, u4, u5, u6, u7, u8, u9, u10, u11, u12, u13, u14, u15, u16, u17, u18, u19, u20, u21, u22, u23, u24, u25, u26, u27, u28, u29, u30, u31, u32, u33, u34, u35, u36, u37, u38, u39, u40, u41, u42, u43, u44, u45, u46, u47, u48, u49, u50, u51, u52, u53, u54, u55, u56, u57, u58, u59, u60, u61, u62, u63, rfl⟩
    go_wp2_with fail
    simp only [Exit.jump]
    refine bodyPost_ret (by simp [results, Tryz.results22, go_sem, World.cell?_setCell_other, z0, z1, z2]; try rfl) rfl ?_
    exact ⟨rfl, (((bw.setCell (p := ⟨w.heap.size, 0, none⟩) (Nat.le_refl _) _).setCell (p := ⟨w.heap.size, 1, none⟩) (Nat.le_refl _) _).setCell (p := ⟨w.heap.size, 2, none⟩) (Nat.le_refl _) _)⟩

end Go.Proofs.YtmeimofnmpmaoaaGreatDoor
