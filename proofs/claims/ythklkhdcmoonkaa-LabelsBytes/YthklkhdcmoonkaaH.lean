/- The contract of Canon. Conditions: each text's length fits. -/
import Derived.Test.YthklkhdcmoonkaaG
import Derived.Test.YthklkhdcmoonkaaK
namespace Go.Proofs.Ythklkhdcmoonkaa
open Go.RowKit

/-- A slice of labels in new memory that may be written. -/
def NewL (base : Nat) (w : World) (v : Value) (ls : List Lb) : Prop :=
  ∃ a c, v = .slice a ls.length c ∧ IsL w a ls.length c ls ∧ (0 < ls.length → ∃ g, a = some ⟨g, 0, none⟩ ∧ base ≤ g ∧ ∀ j, j < ls.length * 2 → w.frozen? ⟨g, j, none⟩ = false)
theorem newL_nil (base : Nat) (w : World) : NewL base w (.slice none 0 0) [] := ⟨none, 0, rfl, isL_nil w, fun h => by simp at h⟩
/-- What Canon tells. -/
def Cnd (w : World) (ls : List Lb) (e : Ending) (w' : World) : Prop :=
  ∃ v, e = .returned (.tuple #[v, .int .i64 (cne ls)]) ∧ NewL w.heap.size w' v (cnl ls) ∧ Below w.heap.size w w'
theorem cne_not {ls : List Lb} (h : ¬ May ls) : cne ls = 70 := if_neg h
theorem cnl_not {ls : List Lb} (h : ¬ May ls) : cnl ls = [] := if_neg h
theorem cne_may {ls : List Lb} (h : May ls) : cne ls = 0 := if_pos h
theorem cnl_may {ls : List Lb} (h : May ls) : cnl ls = canon ls := if_pos h

set_option linter.unusedSimpArgs false in
set_option maxRecDepth 20000 in
set_option maxHeartbeats 4000000 in
theorem canon_any (a : Option Addr) (len cap : Nat) (ls : List Lb) (w : World) (hI : IsL w a len cap ls) (hwf : WfL ls) : Calls Try.prog 11 #[.slice a len cap] w (Cnd w ls) := by
  have hm := hI.hm
  have hc := hI.hc
  unfold maxLen at hm
  have HI : Hid (IsL w a len cap ls ∧ WfL ls) := ⟨hI, hwf⟩
  clear hI hwf
  by_cases h1 : len < 1
  · have h' : (len : Int) < 1 := by omega
    have hn : Hid (¬ May ls) := fun h => by have := h.1; rw [HI.out.1.hl] at this; omega
    go_enter Try.func11, Try.ntmps11
    go_wp2
    go_ret2
    exact ⟨_, by rw [cne_not hn.out]; rfl, by rw [cnl_not hn.out]; exact newL_nil _ _, Below.refl _ _⟩
  by_cases h6 : 6 < len
  · have h' : ¬ (len : Int) < 1 := by omega
    have h'' : (6 : Int) < (len : Int) := by omega
    have hn : Hid (¬ May ls) := fun h => by have := h.2.1; rw [HI.out.1.hl] at this; omega
    go_enter Try.func11, Try.ntmps11
    go_wp2
    go_ret2
    exact ⟨_, by rw [cne_not hn.out]; rfl, by rw [cnl_not hn.out]; exact newL_nil _ _, Below.refl _ _⟩
  have h' : ¬ (len : Int) < 1 := by omega
  have h'' : ¬ (6 : Int) < (len : Int) := by omega
  go_enter Try.func11, Try.ntmps11
  go_wp2_with fail
  refine (clone_any a len cap ls w HI.out.1 (by omega)).mono ?_
  rintro e w1 ⟨v1, rfl, ho1, hb1⟩
  obtain ⟨g, cc, rfl, hg1, hg2, h4, h5, hcell, hfroz⟩ := own_cell ho1 (by omega)
  have H1 : Hid ((∀ j x, (cls ls)[j]? = some x → w1.cell? ⟨g, j, none⟩ = some x) ∧ (∀ j, w1.frozen? ⟨g, j, none⟩ = false) ∧ Below w.heap.size w w1) := ⟨hcell, hfroz, hb1⟩
  clear ho1 hcell hfroz hb1
  go_wp2_with fail
  have hbA : Below w1.heap.size w1 (w1.alloc (.cells #[.slice (some ⟨g, 0, none⟩) len cc] 22)) := (Below.refl _ _).alloc (Nat.le_refl _) _
  refine (sort_any g cc w1.heap.size ls len HI.out.1.hl (by omega) (by omega) _ (fun j x hx => (hbA.cell (p := ⟨g, j, none⟩) hg2).trans (H1.out.1 j x hx)) (fun j => (hbA.frozen (p := ⟨g, j, none⟩) hg2).trans (H1.out.2.1 j)) (by simp; omega) (by simp) (by simp) (by omega)).mono ?_
  rintro e w2 ⟨rfl, ds, hp, hso, hrd, hfz, hbs, hbx⟩
  have hdl : ds.length = len := by rw [hp.length_eq, HI.out.1.hl]
  have hB2 : Below w.heap.size w w2 := (H1.out.2.2.alloc H1.out.2.2.size _).trans (hbs _ hg1 (by simp; have := H1.out.2.2.size; omega))
  have hw2 : w1.heap.size + 1 ≤ w2.heap.size := by have := (hbs 0 (Nat.zero_le _) (Nat.zero_le _)).size; simpa using this
  have hbx' : w2.cell? ⟨w1.heap.size, 0, none⟩ = some (.slice (some ⟨g, 0, none⟩) len cc) := by rw [hbx]; simp
  have H2 : Hid (ds.Perm ls ∧ ds.Pairwise (fun x y => ltl y x = false) ∧ RdL w2 (some ⟨g, 0, none⟩) ds ∧ (∀ j, j < ds.length * 2 → w2.frozen? ⟨g, j, none⟩ = false) ∧ Below w.heap.size w w2 ∧ ds.length = len) := ⟨hp, hso, hrd, hfz, hB2, hdl⟩
  have hwd : Hid (WfL ds) := fun x hx => HI.out.2 x (hp.subset hx)
  clear hp hso hrd hfz hbs hbx hB2 hdl hbA
  have hbsz := H2.out.2.2.2.2.1.size
  go_wp2_with fail
  go_loopw [5, 6, 23] (fun _ _ i wr => ∃ k : Nat, i = .int .i64 (k : Int) ∧ k ≤ len ∧ Hid (∀ j, j < k → okl (ds.getD j l0) = true ∧ (0 < j → (ds.getD j l0).1 ≠ (ds.getD (j - 1) l0).1)) ∧ Below w2.heap.size w2 wr) (fun _ _ i _ => len - (intOf i).toNat)
  case atStart => exact ⟨0, rfl, Nat.zero_le _, (fun j hj => by omega), Below.refl _ _⟩
  case round =>
    obtain ⟨k, rfl, hk, HA, hbw⟩ := hrel
    have hs2 := hbw.size
    have bxr : wr.cell? ⟨w1.heap.size, 0, none⟩ = some (.slice (some ⟨g, 0, none⟩) len cc) := (hbw.cell (p := ⟨w1.heap.size, 0, none⟩) (by show w1.heap.size < w2.heap.size; omega)).trans hbx'
    by_cases hlt : k < len
    · have hlt' : (k : Int) < (len : Int) := by omega
      have hkl : k < ds.length := by rw [H2.out.2.2.2.2.2]; exact hlt
      obtain ⟨g', off', eg, hg', c0, c1⟩ := (H2.out.2.2.1.below hbw).at hkl
      cases eg
      simp only [Nat.zero_add] at c0 c1
      have hsz := hwd.out _ (getD_memL hkl)
      obtain ⟨x, hx⟩ : ∃ x, Hid (x = ds.getD k l0) := ⟨_, rfl⟩
      rw [← hx.out] at c0 c1 hsz
      have HM : Hid (∀ W, Calls Try.prog 31 #[.agg #[.string x.1, .string x.2]] W fun e w' => e = .returned (.bool (okl x)) ∧ Below W.heap.size W w') := fun W => mayBe_any x W hsz.1 hsz.2
      obtain ⟨n, v⟩ := x
      simp only at c0 c1 hsz HM
      have nc0 : (wr.alloc (.cells #[.string n, .string v] 44)).cell? ⟨wr.heap.size, 0, none⟩ = some (.string n) := by simp
      have nc1 : (wr.alloc (.cells #[.string n, .string v] 44)).cell? ⟨wr.heap.size, 1, none⟩ = some (.string v) := by simp
      cases hok : okl (n, v) with
      | false =>
        have HN : Hid (¬ May ls) := by
          refine may_not H2.out.1 hkl (.inl ?_)
          rw [← getD_eqL hkl, ← hx.out]; exact hok
        rw [hok] at HM
        clear hok
        go_wp2_with fail
        refine wp_region_K (by kernel_rfl) (by kernel_rfl) [.eq (.agg #[.string n, .string v]), .eq (.bool false), .eq (.bool true), .eq (.bool true), .eq (undef), .eq (undef), .eq (undef), .eq (undef), .eq (undef), .eq (undef), .eq (undef), .eq (undef), .eq (undef), .eq (undef), .eq (undef), .eq (undef), .eq (undef), .eq (.bool true)] (wr.alloc (.cells #[.string n, .string v] 44)) (Below.refl _ _) (allOps_cons ?_ (allOps_cons ?_ (allOps_cons ?_ (allOps_cons ?_ (allOps_cons ?_ (allOps_cons ?_ (allOps_cons ?_ (allOps_cons ?_ (allOps_cons ?_ (allOps_cons ?_ (allOps_cons ?_ (allOps_cons ?_ (allOps_cons ?_ (allOps_cons ?_ (allOps_cons ?_ (allOps_cons ?_ (allOps_cons ?_ (allOps_cons ?_ allOps_nil)))))))))))))))))) ?_
        · intro a wx hS hb hf
          have s6 : a.eval (.tmp 6) = .pointer (some ⟨wr.heap.size, 0, none⟩) := (hf 6 (by kernel_rfl)).trans rfl
          rw [if_pos (wanted_none rfl)]
          have d0 := (hS.cell (p := ⟨wr.heap.size, 0, none⟩) (by simp)).trans nc0
          have d1 := (hS.cell (p := ⟨wr.heap.size, 1, none⟩) (by simp)).trans nc1
          refine does_val (v := .agg #[.string n, .string v]) (w' := wx) ?_ ⟨rfl, Below.refl _ _⟩
          have t6 := (ev_tmp a 6).symm.trans s6
          simp [execOp, go_sem, t6, d0, d1]
        · intro a wx hS hb hf
          have s28 : a.eval (.tmp 28) = .agg #[.string n, .string v] := slot hb 0 0 28 rfl rfl
          rw [if_pos (wanted_none rfl)]
          have t28 := (ev_tmp a 28).symm.trans s28
          refine does_call (f := 31) (args := #[.agg #[.string n, .string v]]) (w' := wx) (by simp [execOp, resolve, invoke, go_sem, t28]) ?_
          refine (HM.out wx).mono ?_
          rintro r w' ⟨rfl, hb'⟩
          exact ⟨_, rfl, rfl, hb'⟩
        · intro a wx hS hb hf
          have s29 : a.eval (.tmp 29) = .bool false := slot hb 0 1 29 rfl rfl
          rw [if_pos (wanted_none rfl)]
          refine does_val (v := .bool true) (w' := wx) ?_ ⟨rfl, Below.refl _ _⟩
          have t29 := (ev_tmp a 29).symm.trans s29
          simp [execOp, go_sem, t29]
        · intro a wx hS hb hf
          have s30 : a.eval (.tmp 30) = .bool true := slot hb 0 2 30 rfl rfl
          rw [if_pos (wanted_none rfl)]
          refine does_val (v := .bool true) (w' := wx) ?_ ⟨rfl, Below.refl _ _⟩
          have t30 := (ev_tmp a 30).symm.trans s30
          simp [execOp, go_sem, t30]
        · intro a wx hS hb hf
          have s5 : a.eval (.tmp 5) = .int .i64 (k : Int) := (hf 5 (by kernel_rfl)).trans rfl
          have s31 : a.eval (.tmp 31) = .bool true := slot hb 0 3 31 rfl rfl
          rw [if_neg (wanted_not (g := 3) (d := 31) (b := false) rfl rfl s31)]
          exact rfl
        · intro a wx hS hb hf
          have s32 : a.eval (.tmp 32) = undef := slot hb 0 4 32 rfl rfl
          have s31 : a.eval (.tmp 31) = .bool true := slot hb 1 3 31 rfl rfl
          rw [if_neg (wanted_not (g := 3) (d := 31) (b := false) rfl rfl s31)]
          exact rfl
        · intro a wx hS hb hf
          have s33 : a.eval (.tmp 33) = undef := slot hb 0 5 33 rfl rfl
          have s31 : a.eval (.tmp 31) = .bool true := slot hb 1 3 31 rfl rfl
          rw [if_neg (wanted_not (g := 3) (d := 31) (b := false) rfl rfl s31)]
          exact rfl
        · intro a wx hS hb hf
          have s6 : a.eval (.tmp 6) = .pointer (some ⟨wr.heap.size, 0, none⟩) := (hf 6 (by kernel_rfl)).trans rfl
          have s34 : a.eval (.tmp 34) = undef := slot hb 0 6 34 rfl rfl
          rw [if_neg (wanted_undef (g := 6) (d := 34) (b := true) rfl rfl s34)]
          exact rfl
        · intro a wx hS hb hf
          have s35 : a.eval (.tmp 35) = undef := slot hb 0 7 35 rfl rfl
          have s34 : a.eval (.tmp 34) = undef := slot hb 1 6 34 rfl rfl
          rw [if_neg (wanted_undef (g := 6) (d := 34) (b := true) rfl rfl s34)]
          exact rfl
        · intro a wx hS hb hf
          have s4 : a.eval (.tmp 4) = .pointer (some ⟨w1.heap.size, 0, none⟩) := (hf 4 (by kernel_rfl)).trans rfl
          have s34 : a.eval (.tmp 34) = undef := slot hb 0 6 34 rfl rfl
          rw [if_neg (wanted_undef (g := 6) (d := 34) (b := true) rfl rfl s34)]
          exact rfl
        · intro a wx hS hb hf
          have s5 : a.eval (.tmp 5) = .int .i64 (k : Int) := (hf 5 (by kernel_rfl)).trans rfl
          have s34 : a.eval (.tmp 34) = undef := slot hb 0 6 34 rfl rfl
          rw [if_neg (wanted_undef (g := 6) (d := 34) (b := true) rfl rfl s34)]
          exact rfl
        · intro a wx hS hb hf
          have s38 : a.eval (.tmp 38) = undef := slot hb 0 10 38 rfl rfl
          have s34 : a.eval (.tmp 34) = undef := slot hb 1 6 34 rfl rfl
          rw [if_neg (wanted_undef (g := 6) (d := 34) (b := true) rfl rfl s34)]
          exact rfl
        · intro a wx hS hb hf
          have s37 : a.eval (.tmp 37) = undef := slot hb 0 9 37 rfl rfl
          have s39 : a.eval (.tmp 39) = undef := slot hb 1 11 39 rfl rfl
          have s34 : a.eval (.tmp 34) = undef := slot hb 2 6 34 rfl rfl
          rw [if_neg (wanted_undef (g := 6) (d := 34) (b := true) rfl rfl s34)]
          exact rfl
        · intro a wx hS hb hf
          have s40 : a.eval (.tmp 40) = undef := slot hb 0 12 40 rfl rfl
          have s34 : a.eval (.tmp 34) = undef := slot hb 1 6 34 rfl rfl
          rw [if_neg (wanted_undef (g := 6) (d := 34) (b := true) rfl rfl s34)]
          exact rfl
        · intro a wx hS hb hf
          have s41 : a.eval (.tmp 41) = undef := slot hb 0 13 41 rfl rfl
          have s34 : a.eval (.tmp 34) = undef := slot hb 1 6 34 rfl rfl
          rw [if_neg (wanted_undef (g := 6) (d := 34) (b := true) rfl rfl s34)]
          exact rfl
        · intro a wx hS hb hf
          have s36 : a.eval (.tmp 36) = undef := slot hb 0 8 36 rfl rfl
          have s42 : a.eval (.tmp 42) = undef := slot hb 1 14 42 rfl rfl
          have s34 : a.eval (.tmp 34) = undef := slot hb 2 6 34 rfl rfl
          rw [if_neg (wanted_undef (g := 6) (d := 34) (b := true) rfl rfl s34)]
          exact rfl
        · intro a wx hS hb hf
          have s34 : a.eval (.tmp 34) = undef := slot hb 0 6 34 rfl rfl
          have s43 : a.eval (.tmp 43) = undef := slot hb 1 15 43 rfl rfl
          have s31 : a.eval (.tmp 31) = .bool true := slot hb 2 3 31 rfl rfl
          rw [if_neg (wanted_not (g := 3) (d := 31) (b := false) rfl rfl s31)]
          exact rfl
        · intro a wx hS hb hf
          have s31 : a.eval (.tmp 31) = .bool true := slot hb 0 3 31 rfl rfl
          have s44 : a.eval (.tmp 44) = undef := slot hb 1 16 44 rfl rfl
          rw [if_pos (wanted_none rfl)]
          refine does_val (v := .bool true) (w' := wx) ?_ ⟨rfl, Below.refl _ _⟩
          have t31 := (ev_tmp a 31).symm.trans s31
          have t44 := (ev_tmp a 44).symm.trans s44
          simp [execOp, go_sem, t31, t44]
        intro a u hbu hts hd hdone hfree
        have e45 : a.eval (.tmp 45) = .bool true := done_slot hdone 17 45 rfl
        obtain ⟨x28, ex28⟩ : ∃ x, a.eval (.tmp 28) = x := ⟨_, rfl⟩
        obtain ⟨x29, ex29⟩ : ∃ x, a.eval (.tmp 29) = x := ⟨_, rfl⟩
        obtain ⟨x30, ex30⟩ : ∃ x, a.eval (.tmp 30) = x := ⟨_, rfl⟩
        obtain ⟨x31, ex31⟩ : ∃ x, a.eval (.tmp 31) = x := ⟨_, rfl⟩
        obtain ⟨x32, ex32⟩ : ∃ x, a.eval (.tmp 32) = x := ⟨_, rfl⟩
        obtain ⟨x33, ex33⟩ : ∃ x, a.eval (.tmp 33) = x := ⟨_, rfl⟩
        obtain ⟨x34, ex34⟩ : ∃ x, a.eval (.tmp 34) = x := ⟨_, rfl⟩
        obtain ⟨x35, ex35⟩ : ∃ x, a.eval (.tmp 35) = x := ⟨_, rfl⟩
        obtain ⟨x36, ex36⟩ : ∃ x, a.eval (.tmp 36) = x := ⟨_, rfl⟩
        obtain ⟨x37, ex37⟩ : ∃ x, a.eval (.tmp 37) = x := ⟨_, rfl⟩
        obtain ⟨x38, ex38⟩ : ∃ x, a.eval (.tmp 38) = x := ⟨_, rfl⟩
        obtain ⟨x39, ex39⟩ : ∃ x, a.eval (.tmp 39) = x := ⟨_, rfl⟩
        obtain ⟨x40, ex40⟩ : ∃ x, a.eval (.tmp 40) = x := ⟨_, rfl⟩
        obtain ⟨x41, ex41⟩ : ∃ x, a.eval (.tmp 41) = x := ⟨_, rfl⟩
        obtain ⟨x42, ex42⟩ : ∃ x, a.eval (.tmp 42) = x := ⟨_, rfl⟩
        obtain ⟨x43, ex43⟩ : ∃ x, a.eval (.tmp 43) = x := ⟨_, rfl⟩
        obtain ⟨x44, ex44⟩ : ∃ x, a.eval (.tmp 44) = x := ⟨_, rfl⟩
        have hact := act_puts hts hd hfree
        simp only [putAll, List.foldl_cons, List.foldl_nil, ex28, ex29, ex30, ex31, ex32, ex33, ex34, ex35, ex36, ex37, ex38, ex39, ex40, ex41, ex42, ex43, ex44, e45, Act.put] at hact
        simp at hact
        clear ex28 ex29 ex30 ex31 ex32 ex33 ex34 ex35 ex36 ex37 ex38 ex39 ex40 ex41 ex42 ex43 ex44 e45 hts hd hdone hfree
        subst hact
        have hs3 := hbu.size
        simp only [World.size_alloc] at hs3
        have hbn : Below w2.heap.size w2 u := (hbw.alloc hs2 _).trans (hbu.mono (by simp; omega))
        clear hbu
        go_wp2_with fail
        go_ret2
        exact ⟨_, by rw [cne_not HN.out]; rfl, by rw [cnl_not HN.out]; exact newL_nil _ _, H2.out.2.2.2.2.1.trans (hbn.mono hbsz)⟩
      | true =>
        have HO : Hid (okl (n, v) = true) := hok
        rw [hok] at HM
        clear hok
        by_cases hk0 : k = 0
        · have hk0' : ¬ (0 : Int) < (k : Int) := by omega
          have HK0 : Hid (k = 0) := hk0
          clear hk0
          go_wp2_with fail
          refine wp_region_K (by kernel_rfl) (by kernel_rfl) [.eq (.agg #[.string n, .string v]), .eq (.bool true), .eq (.bool false), .eq (.bool false), .eq (.int .i64 (k : Int)), .eq (.bool false), .eq (.bool false), .eq (undef), .eq (undef), .eq (undef), .eq (undef), .eq (undef), .eq (undef), .eq (undef), .eq (undef), .eq (undef), .eq (.bool false), .eq (.bool false)] (wr.alloc (.cells #[.string n, .string v] 44)) (Below.refl _ _) (allOps_cons ?_ (allOps_cons ?_ (allOps_cons ?_ (allOps_cons ?_ (allOps_cons ?_ (allOps_cons ?_ (allOps_cons ?_ (allOps_cons ?_ (allOps_cons ?_ (allOps_cons ?_ (allOps_cons ?_ (allOps_cons ?_ (allOps_cons ?_ (allOps_cons ?_ (allOps_cons ?_ (allOps_cons ?_ (allOps_cons ?_ (allOps_cons ?_ allOps_nil)))))))))))))))))) ?_
          · intro a wx hS hb hf
            have s6 : a.eval (.tmp 6) = .pointer (some ⟨wr.heap.size, 0, none⟩) := (hf 6 (by kernel_rfl)).trans rfl
            rw [if_pos (wanted_none rfl)]
            have d0 := (hS.cell (p := ⟨wr.heap.size, 0, none⟩) (by simp)).trans nc0
            have d1 := (hS.cell (p := ⟨wr.heap.size, 1, none⟩) (by simp)).trans nc1
            refine does_val (v := .agg #[.string n, .string v]) (w' := wx) ?_ ⟨rfl, Below.refl _ _⟩
            have t6 := (ev_tmp a 6).symm.trans s6
            simp [execOp, go_sem, t6, d0, d1]
          · intro a wx hS hb hf
            have s28 : a.eval (.tmp 28) = .agg #[.string n, .string v] := slot hb 0 0 28 rfl rfl
            rw [if_pos (wanted_none rfl)]
            have t28 := (ev_tmp a 28).symm.trans s28
            refine does_call (f := 31) (args := #[.agg #[.string n, .string v]]) (w' := wx) (by simp [execOp, resolve, invoke, go_sem, t28]) ?_
            refine (HM.out wx).mono ?_
            rintro r w' ⟨rfl, hb'⟩
            exact ⟨_, rfl, rfl, hb'⟩
          · intro a wx hS hb hf
            have s29 : a.eval (.tmp 29) = .bool true := slot hb 0 1 29 rfl rfl
            rw [if_pos (wanted_none rfl)]
            refine does_val (v := .bool false) (w' := wx) ?_ ⟨rfl, Below.refl _ _⟩
            have t29 := (ev_tmp a 29).symm.trans s29
            simp [execOp, go_sem, t29]
          · intro a wx hS hb hf
            have s30 : a.eval (.tmp 30) = .bool false := slot hb 0 2 30 rfl rfl
            rw [if_pos (wanted_none rfl)]
            refine does_val (v := .bool false) (w' := wx) ?_ ⟨rfl, Below.refl _ _⟩
            have t30 := (ev_tmp a 30).symm.trans s30
            simp [execOp, go_sem, t30]
          · intro a wx hS hb hf
            have s5 : a.eval (.tmp 5) = .int .i64 (k : Int) := (hf 5 (by kernel_rfl)).trans rfl
            have s31 : a.eval (.tmp 31) = .bool false := slot hb 0 3 31 rfl rfl
            rw [if_pos (wanted_of (g := 3) (d := 31) (b := false) rfl rfl s31)]
            refine does_val (v := .int .i64 (k : Int)) (w' := wx) ?_ ⟨rfl, Below.refl _ _⟩
            have t5 := (ev_tmp a 5).symm.trans s5
            simp [execOp, go_sem, t5]
          · intro a wx hS hb hf
            have s32 : a.eval (.tmp 32) = .int .i64 (k : Int) := slot hb 0 4 32 rfl rfl
            have s31 : a.eval (.tmp 31) = .bool false := slot hb 1 3 31 rfl rfl
            rw [if_pos (wanted_of (g := 3) (d := 31) (b := false) rfl rfl s31)]
            refine does_val (v := .bool false) (w' := wx) ?_ ⟨rfl, Below.refl _ _⟩
            have t32 := (ev_tmp a 32).symm.trans s32
            simp [execOp, go_sem, t32]
            omega
          · intro a wx hS hb hf
            have s33 : a.eval (.tmp 33) = .bool false := slot hb 0 5 33 rfl rfl
            have s31 : a.eval (.tmp 31) = .bool false := slot hb 1 3 31 rfl rfl
            rw [if_pos (wanted_of (g := 3) (d := 31) (b := false) rfl rfl s31)]
            refine does_val (v := .bool false) (w' := wx) ?_ ⟨rfl, Below.refl _ _⟩
            have t33 := (ev_tmp a 33).symm.trans s33
            simp [execOp, go_sem, t33]
          · intro a wx hS hb hf
            have s6 : a.eval (.tmp 6) = .pointer (some ⟨wr.heap.size, 0, none⟩) := (hf 6 (by kernel_rfl)).trans rfl
            have s34 : a.eval (.tmp 34) = .bool false := slot hb 0 6 34 rfl rfl
            rw [if_neg (wanted_not (g := 6) (d := 34) (b := true) rfl rfl s34)]
            exact rfl
          · intro a wx hS hb hf
            have s35 : a.eval (.tmp 35) = undef := slot hb 0 7 35 rfl rfl
            have s34 : a.eval (.tmp 34) = .bool false := slot hb 1 6 34 rfl rfl
            rw [if_neg (wanted_not (g := 6) (d := 34) (b := true) rfl rfl s34)]
            exact rfl
          · intro a wx hS hb hf
            have s4 : a.eval (.tmp 4) = .pointer (some ⟨w1.heap.size, 0, none⟩) := (hf 4 (by kernel_rfl)).trans rfl
            have s34 : a.eval (.tmp 34) = .bool false := slot hb 0 6 34 rfl rfl
            rw [if_neg (wanted_not (g := 6) (d := 34) (b := true) rfl rfl s34)]
            exact rfl
          · intro a wx hS hb hf
            have s5 : a.eval (.tmp 5) = .int .i64 (k : Int) := (hf 5 (by kernel_rfl)).trans rfl
            have s34 : a.eval (.tmp 34) = .bool false := slot hb 0 6 34 rfl rfl
            rw [if_neg (wanted_not (g := 6) (d := 34) (b := true) rfl rfl s34)]
            exact rfl
          · intro a wx hS hb hf
            have s38 : a.eval (.tmp 38) = undef := slot hb 0 10 38 rfl rfl
            have s34 : a.eval (.tmp 34) = .bool false := slot hb 1 6 34 rfl rfl
            rw [if_neg (wanted_not (g := 6) (d := 34) (b := true) rfl rfl s34)]
            exact rfl
          · intro a wx hS hb hf
            have s37 : a.eval (.tmp 37) = undef := slot hb 0 9 37 rfl rfl
            have s39 : a.eval (.tmp 39) = undef := slot hb 1 11 39 rfl rfl
            have s34 : a.eval (.tmp 34) = .bool false := slot hb 2 6 34 rfl rfl
            rw [if_neg (wanted_not (g := 6) (d := 34) (b := true) rfl rfl s34)]
            exact rfl
          · intro a wx hS hb hf
            have s40 : a.eval (.tmp 40) = undef := slot hb 0 12 40 rfl rfl
            have s34 : a.eval (.tmp 34) = .bool false := slot hb 1 6 34 rfl rfl
            rw [if_neg (wanted_not (g := 6) (d := 34) (b := true) rfl rfl s34)]
            exact rfl
          · intro a wx hS hb hf
            have s41 : a.eval (.tmp 41) = undef := slot hb 0 13 41 rfl rfl
            have s34 : a.eval (.tmp 34) = .bool false := slot hb 1 6 34 rfl rfl
            rw [if_neg (wanted_not (g := 6) (d := 34) (b := true) rfl rfl s34)]
            exact rfl
          · intro a wx hS hb hf
            have s36 : a.eval (.tmp 36) = undef := slot hb 0 8 36 rfl rfl
            have s42 : a.eval (.tmp 42) = undef := slot hb 1 14 42 rfl rfl
            have s34 : a.eval (.tmp 34) = .bool false := slot hb 2 6 34 rfl rfl
            rw [if_neg (wanted_not (g := 6) (d := 34) (b := true) rfl rfl s34)]
            exact rfl
          · intro a wx hS hb hf
            have s34 : a.eval (.tmp 34) = .bool false := slot hb 0 6 34 rfl rfl
            have s43 : a.eval (.tmp 43) = undef := slot hb 1 15 43 rfl rfl
            have s31 : a.eval (.tmp 31) = .bool false := slot hb 2 3 31 rfl rfl
            rw [if_pos (wanted_of (g := 3) (d := 31) (b := false) rfl rfl s31)]
            refine does_val (v := .bool false) (w' := wx) ?_ ⟨rfl, Below.refl _ _⟩
            have t34 := (ev_tmp a 34).symm.trans s34
            have t43 := (ev_tmp a 43).symm.trans s43
            simp [execOp, go_sem, t34, t43]
          · intro a wx hS hb hf
            have s31 : a.eval (.tmp 31) = .bool false := slot hb 0 3 31 rfl rfl
            have s44 : a.eval (.tmp 44) = .bool false := slot hb 1 16 44 rfl rfl
            rw [if_pos (wanted_none rfl)]
            refine does_val (v := .bool false) (w' := wx) ?_ ⟨rfl, Below.refl _ _⟩
            have t31 := (ev_tmp a 31).symm.trans s31
            have t44 := (ev_tmp a 44).symm.trans s44
            simp [execOp, go_sem, t31, t44]
          intro a u hbu hts hd hdone hfree
          have e45 : a.eval (.tmp 45) = .bool false := done_slot hdone 17 45 rfl
          obtain ⟨x28, ex28⟩ : ∃ x, a.eval (.tmp 28) = x := ⟨_, rfl⟩
          obtain ⟨x29, ex29⟩ : ∃ x, a.eval (.tmp 29) = x := ⟨_, rfl⟩
          obtain ⟨x30, ex30⟩ : ∃ x, a.eval (.tmp 30) = x := ⟨_, rfl⟩
          obtain ⟨x31, ex31⟩ : ∃ x, a.eval (.tmp 31) = x := ⟨_, rfl⟩
          obtain ⟨x32, ex32⟩ : ∃ x, a.eval (.tmp 32) = x := ⟨_, rfl⟩
          obtain ⟨x33, ex33⟩ : ∃ x, a.eval (.tmp 33) = x := ⟨_, rfl⟩
          obtain ⟨x34, ex34⟩ : ∃ x, a.eval (.tmp 34) = x := ⟨_, rfl⟩
          obtain ⟨x35, ex35⟩ : ∃ x, a.eval (.tmp 35) = x := ⟨_, rfl⟩
          obtain ⟨x36, ex36⟩ : ∃ x, a.eval (.tmp 36) = x := ⟨_, rfl⟩
          obtain ⟨x37, ex37⟩ : ∃ x, a.eval (.tmp 37) = x := ⟨_, rfl⟩
          obtain ⟨x38, ex38⟩ : ∃ x, a.eval (.tmp 38) = x := ⟨_, rfl⟩
          obtain ⟨x39, ex39⟩ : ∃ x, a.eval (.tmp 39) = x := ⟨_, rfl⟩
          obtain ⟨x40, ex40⟩ : ∃ x, a.eval (.tmp 40) = x := ⟨_, rfl⟩
          obtain ⟨x41, ex41⟩ : ∃ x, a.eval (.tmp 41) = x := ⟨_, rfl⟩
          obtain ⟨x42, ex42⟩ : ∃ x, a.eval (.tmp 42) = x := ⟨_, rfl⟩
          obtain ⟨x43, ex43⟩ : ∃ x, a.eval (.tmp 43) = x := ⟨_, rfl⟩
          obtain ⟨x44, ex44⟩ : ∃ x, a.eval (.tmp 44) = x := ⟨_, rfl⟩
          have hact := act_puts hts hd hfree
          simp only [putAll, List.foldl_cons, List.foldl_nil, ex28, ex29, ex30, ex31, ex32, ex33, ex34, ex35, ex36, ex37, ex38, ex39, ex40, ex41, ex42, ex43, ex44, e45, Act.put] at hact
          simp at hact
          clear ex28 ex29 ex30 ex31 ex32 ex33 ex34 ex35 ex36 ex37 ex38 ex39 ex40 ex41 ex42 ex43 ex44 e45 hts hd hdone hfree
          subst hact
          have hs3 := hbu.size
          simp only [World.size_alloc] at hs3
          have hbn : Below w2.heap.size w2 u := (hbw.alloc hs2 _).trans (hbu.mono (by simp; omega))
          clear hbu
          go_wp2_with fail
          go_roundw
          case rel =>
            refine ⟨k + 1, by go_num, hlt, fun j hj => ?_, hbn⟩
            have hk0 := HK0.out
            obtain rfl : j = k := by omega
            exact ⟨by rw [← hx.out]; exact HO.out, fun h => by omega⟩
          case measure => simp [intOf]; omega
        · have hk0' : (0 : Int) < (k : Int) := by omega
          obtain ⟨g'', off'', eg, hg'', pc, _⟩ := (H2.out.2.2.1.below hbw).at (k := k - 1) (by omega)
          cases eg
          simp only [Nat.zero_add] at pc
          have pc0 := (((Below.refl wr.heap.size wr).alloc (Nat.le_refl _) (.cells #[.string n, .string v] 44)).cell (p := ⟨g, (k - 1) * 2, none⟩) hg').trans pc
          have bx0 := (((Below.refl wr.heap.size wr).alloc (Nat.le_refl _) (.cells #[.string n, .string v] 44)).cell (p := ⟨w1.heap.size, 0, none⟩) (by show w1.heap.size < wr.heap.size; omega)).trans bxr
          obtain ⟨y, hy⟩ : ∃ y, Hid (y = ds.getD (k - 1) l0) := ⟨_, rfl⟩
          rw [← hy.out] at pc0 pc
          obtain ⟨m, m2⟩ := y
          simp only at pc0 pc
          have wk1 : RowKit.wrap64 ((k : Int) - 1) = (k : Int) - 1 := by unfold RowKit.wrap64; omega
          have wk2 : IntKind.i64.wrap ((k : Int) - 1) = (k : Int) - 1 := by rw [IntKind.wrap_i64]; omega
          obtain ⟨r, HR⟩ : ∃ r, Hid ((n.toList == m.toList) = r) := ⟨_, rfl⟩
          have ia0 : (0 : Int) ≤ (k : Int) - 1 := by omega
          have ia1 : (k : Int) - 1 < (len : Int) := by omega
          have ia2 : ((k : Int) - 1).toNat = k - 1 := by omega
          go_wp2_with fail
          refine wp_region_K (by kernel_rfl) (by kernel_rfl) [.eq (.agg #[.string n, .string v]), .eq (.bool true), .eq (.bool false), .eq (.bool false), .eq (.int .i64 (k : Int)), .eq (.bool true), .eq (.bool true), .eq (.pointer (some ⟨wr.heap.size, 0, none⟩)), .eq (.string n), .eq (.slice (some ⟨g, 0, none⟩) len cc), .eq (.int .i64 (k : Int)), .eq (.int .i64 ((k : Int) - 1)), .eq (.pointer (some ⟨g, (k - 1) * 2, none⟩)), .eq (.pointer (some ⟨g, (k - 1) * 2, none⟩)), .eq (.string m), .eq (.bool r), .eq (.bool r), .eq (.bool r)] (wr.alloc (.cells #[.string n, .string v] 44)) (Below.refl _ _) (allOps_cons ?_ (allOps_cons ?_ (allOps_cons ?_ (allOps_cons ?_ (allOps_cons ?_ (allOps_cons ?_ (allOps_cons ?_ (allOps_cons ?_ (allOps_cons ?_ (allOps_cons ?_ (allOps_cons ?_ (allOps_cons ?_ (allOps_cons ?_ (allOps_cons ?_ (allOps_cons ?_ (allOps_cons ?_ (allOps_cons ?_ (allOps_cons ?_ allOps_nil)))))))))))))))))) ?_
          · intro a wx hS hb hf
            have s6 : a.eval (.tmp 6) = .pointer (some ⟨wr.heap.size, 0, none⟩) := (hf 6 (by kernel_rfl)).trans rfl
            rw [if_pos (wanted_none rfl)]
            have d0 := (hS.cell (p := ⟨wr.heap.size, 0, none⟩) (by simp)).trans nc0
            have d1 := (hS.cell (p := ⟨wr.heap.size, 1, none⟩) (by simp)).trans nc1
            refine does_val (v := .agg #[.string n, .string v]) (w' := wx) ?_ ⟨rfl, Below.refl _ _⟩
            have t6 := (ev_tmp a 6).symm.trans s6
            simp [execOp, go_sem, t6, d0, d1]
          · intro a wx hS hb hf
            have s28 : a.eval (.tmp 28) = .agg #[.string n, .string v] := slot hb 0 0 28 rfl rfl
            rw [if_pos (wanted_none rfl)]
            have t28 := (ev_tmp a 28).symm.trans s28
            refine does_call (f := 31) (args := #[.agg #[.string n, .string v]]) (w' := wx) (by simp [execOp, resolve, invoke, go_sem, t28]) ?_
            refine (HM.out wx).mono ?_
            rintro r w' ⟨rfl, hb'⟩
            exact ⟨_, rfl, rfl, hb'⟩
          · intro a wx hS hb hf
            have s29 : a.eval (.tmp 29) = .bool true := slot hb 0 1 29 rfl rfl
            rw [if_pos (wanted_none rfl)]
            refine does_val (v := .bool false) (w' := wx) ?_ ⟨rfl, Below.refl _ _⟩
            have t29 := (ev_tmp a 29).symm.trans s29
            simp [execOp, go_sem, t29]
          · intro a wx hS hb hf
            have s30 : a.eval (.tmp 30) = .bool false := slot hb 0 2 30 rfl rfl
            rw [if_pos (wanted_none rfl)]
            refine does_val (v := .bool false) (w' := wx) ?_ ⟨rfl, Below.refl _ _⟩
            have t30 := (ev_tmp a 30).symm.trans s30
            simp [execOp, go_sem, t30]
          · intro a wx hS hb hf
            have s5 : a.eval (.tmp 5) = .int .i64 (k : Int) := (hf 5 (by kernel_rfl)).trans rfl
            have s31 : a.eval (.tmp 31) = .bool false := slot hb 0 3 31 rfl rfl
            rw [if_pos (wanted_of (g := 3) (d := 31) (b := false) rfl rfl s31)]
            refine does_val (v := .int .i64 (k : Int)) (w' := wx) ?_ ⟨rfl, Below.refl _ _⟩
            have t5 := (ev_tmp a 5).symm.trans s5
            simp [execOp, go_sem, t5]
          · intro a wx hS hb hf
            have s32 : a.eval (.tmp 32) = .int .i64 (k : Int) := slot hb 0 4 32 rfl rfl
            have s31 : a.eval (.tmp 31) = .bool false := slot hb 1 3 31 rfl rfl
            rw [if_pos (wanted_of (g := 3) (d := 31) (b := false) rfl rfl s31)]
            refine does_val (v := .bool true) (w' := wx) ?_ ⟨rfl, Below.refl _ _⟩
            have t32 := (ev_tmp a 32).symm.trans s32
            simp [execOp, go_sem, t32]
            omega
          · intro a wx hS hb hf
            have s33 : a.eval (.tmp 33) = .bool true := slot hb 0 5 33 rfl rfl
            have s31 : a.eval (.tmp 31) = .bool false := slot hb 1 3 31 rfl rfl
            rw [if_pos (wanted_of (g := 3) (d := 31) (b := false) rfl rfl s31)]
            refine does_val (v := .bool true) (w' := wx) ?_ ⟨rfl, Below.refl _ _⟩
            have t33 := (ev_tmp a 33).symm.trans s33
            simp [execOp, go_sem, t33]
          · intro a wx hS hb hf
            have s6 : a.eval (.tmp 6) = .pointer (some ⟨wr.heap.size, 0, none⟩) := (hf 6 (by kernel_rfl)).trans rfl
            have s34 : a.eval (.tmp 34) = .bool true := slot hb 0 6 34 rfl rfl
            rw [if_pos (wanted_of (g := 6) (d := 34) (b := true) rfl rfl s34)]
            refine does_val (v := .pointer (some ⟨wr.heap.size, 0, none⟩)) (w' := wx) ?_ ⟨rfl, Below.refl _ _⟩
            have t6 := (ev_tmp a 6).symm.trans s6
            simp [execOp, go_sem, t6]
          · intro a wx hS hb hf
            have s35 : a.eval (.tmp 35) = .pointer (some ⟨wr.heap.size, 0, none⟩) := slot hb 0 7 35 rfl rfl
            have s34 : a.eval (.tmp 34) = .bool true := slot hb 1 6 34 rfl rfl
            rw [if_pos (wanted_of (g := 6) (d := 34) (b := true) rfl rfl s34)]
            have d0 := (hS.cell (p := ⟨wr.heap.size, 0, none⟩) (by simp)).trans nc0
            refine does_val (v := .string n) (w' := wx) ?_ ⟨rfl, Below.refl _ _⟩
            have t35 := (ev_tmp a 35).symm.trans s35
            simp [execOp, go_sem, t35, d0]
          · intro a wx hS hb hf
            have s4 : a.eval (.tmp 4) = .pointer (some ⟨w1.heap.size, 0, none⟩) := (hf 4 (by kernel_rfl)).trans rfl
            have s34 : a.eval (.tmp 34) = .bool true := slot hb 0 6 34 rfl rfl
            rw [if_pos (wanted_of (g := 6) (d := 34) (b := true) rfl rfl s34)]
            have d0 := (hS.cell (p := ⟨w1.heap.size, 0, none⟩) (by simp; omega)).trans bx0
            refine does_val (v := .slice (some ⟨g, 0, none⟩) len cc) (w' := wx) ?_ ⟨rfl, Below.refl _ _⟩
            have t4 := (ev_tmp a 4).symm.trans s4
            simp [execOp, go_sem, t4, d0]
          · intro a wx hS hb hf
            have s5 : a.eval (.tmp 5) = .int .i64 (k : Int) := (hf 5 (by kernel_rfl)).trans rfl
            have s34 : a.eval (.tmp 34) = .bool true := slot hb 0 6 34 rfl rfl
            rw [if_pos (wanted_of (g := 6) (d := 34) (b := true) rfl rfl s34)]
            refine does_val (v := .int .i64 (k : Int)) (w' := wx) ?_ ⟨rfl, Below.refl _ _⟩
            have t5 := (ev_tmp a 5).symm.trans s5
            simp [execOp, go_sem, t5]
          · intro a wx hS hb hf
            have s38 : a.eval (.tmp 38) = .int .i64 (k : Int) := slot hb 0 10 38 rfl rfl
            have s34 : a.eval (.tmp 34) = .bool true := slot hb 1 6 34 rfl rfl
            rw [if_pos (wanted_of (g := 6) (d := 34) (b := true) rfl rfl s34)]
            refine does_val (v := .int .i64 ((k : Int) - 1)) (w' := wx) ?_ ⟨rfl, Below.refl _ _⟩
            have t38 := (ev_tmp a 38).symm.trans s38
            simp [execOp, go_sem, t38, wk1, wk2]
          · intro a wx hS hb hf
            have s37 : a.eval (.tmp 37) = .slice (some ⟨g, 0, none⟩) len cc := slot hb 0 9 37 rfl rfl
            have s39 : a.eval (.tmp 39) = .int .i64 ((k : Int) - 1) := slot hb 1 11 39 rfl rfl
            have s34 : a.eval (.tmp 34) = .bool true := slot hb 2 6 34 rfl rfl
            rw [if_pos (wanted_of (g := 6) (d := 34) (b := true) rfl rfl s34)]
            refine does_val (v := .pointer (some ⟨g, (k - 1) * 2, none⟩)) (w' := wx) ?_ ⟨rfl, Below.refl _ _⟩
            have t37 := (ev_tmp a 37).symm.trans s37
            have t39 := (ev_tmp a 39).symm.trans s39
            simp [execOp, go_sem, t37, t39, ia0, ia1, ia2]
            first | done | (intro h; omega)
          · intro a wx hS hb hf
            have s40 : a.eval (.tmp 40) = .pointer (some ⟨g, (k - 1) * 2, none⟩) := slot hb 0 12 40 rfl rfl
            have s34 : a.eval (.tmp 34) = .bool true := slot hb 1 6 34 rfl rfl
            rw [if_pos (wanted_of (g := 6) (d := 34) (b := true) rfl rfl s34)]
            refine does_val (v := .pointer (some ⟨g, (k - 1) * 2, none⟩)) (w' := wx) ?_ ⟨rfl, Below.refl _ _⟩
            have t40 := (ev_tmp a 40).symm.trans s40
            simp [execOp, go_sem, t40]
          · intro a wx hS hb hf
            have s41 : a.eval (.tmp 41) = .pointer (some ⟨g, (k - 1) * 2, none⟩) := slot hb 0 13 41 rfl rfl
            have s34 : a.eval (.tmp 34) = .bool true := slot hb 1 6 34 rfl rfl
            rw [if_pos (wanted_of (g := 6) (d := 34) (b := true) rfl rfl s34)]
            have d0 := (hS.cell (p := ⟨g, (k - 1) * 2, none⟩) (by simp; omega)).trans pc0
            refine does_val (v := .string m) (w' := wx) ?_ ⟨rfl, Below.refl _ _⟩
            have t41 := (ev_tmp a 41).symm.trans s41
            simp [execOp, go_sem, t41, d0]
          · intro a wx hS hb hf
            have s36 : a.eval (.tmp 36) = .string n := slot hb 0 8 36 rfl rfl
            have s42 : a.eval (.tmp 42) = .string m := slot hb 1 14 42 rfl rfl
            have s34 : a.eval (.tmp 34) = .bool true := slot hb 2 6 34 rfl rfl
            rw [if_pos (wanted_of (g := 6) (d := 34) (b := true) rfl rfl s34)]
            refine does_val (v := .bool r) (w' := wx) ?_ ⟨rfl, Below.refl _ _⟩
            have t36 := (ev_tmp a 36).symm.trans s36
            have t42 := (ev_tmp a 42).symm.trans s42
            simp [execOp, go_sem, t36, t42, HR.out]
          · intro a wx hS hb hf
            have s34 : a.eval (.tmp 34) = .bool true := slot hb 0 6 34 rfl rfl
            have s43 : a.eval (.tmp 43) = .bool r := slot hb 1 15 43 rfl rfl
            have s31 : a.eval (.tmp 31) = .bool false := slot hb 2 3 31 rfl rfl
            rw [if_pos (wanted_of (g := 3) (d := 31) (b := false) rfl rfl s31)]
            refine does_val (v := .bool r) (w' := wx) ?_ ⟨rfl, Below.refl _ _⟩
            have t34 := (ev_tmp a 34).symm.trans s34
            have t43 := (ev_tmp a 43).symm.trans s43
            simp [execOp, go_sem, t34, t43]
          · intro a wx hS hb hf
            have s31 : a.eval (.tmp 31) = .bool false := slot hb 0 3 31 rfl rfl
            have s44 : a.eval (.tmp 44) = .bool r := slot hb 1 16 44 rfl rfl
            rw [if_pos (wanted_none rfl)]
            refine does_val (v := .bool r) (w' := wx) ?_ ⟨rfl, Below.refl _ _⟩
            have t31 := (ev_tmp a 31).symm.trans s31
            have t44 := (ev_tmp a 44).symm.trans s44
            simp [execOp, go_sem, t31, t44]
          intro a u hbu hts hd hdone hfree
          have e45 : a.eval (.tmp 45) = .bool r := done_slot hdone 17 45 rfl
          obtain ⟨x28, ex28⟩ : ∃ x, a.eval (.tmp 28) = x := ⟨_, rfl⟩
          obtain ⟨x29, ex29⟩ : ∃ x, a.eval (.tmp 29) = x := ⟨_, rfl⟩
          obtain ⟨x30, ex30⟩ : ∃ x, a.eval (.tmp 30) = x := ⟨_, rfl⟩
          obtain ⟨x31, ex31⟩ : ∃ x, a.eval (.tmp 31) = x := ⟨_, rfl⟩
          obtain ⟨x32, ex32⟩ : ∃ x, a.eval (.tmp 32) = x := ⟨_, rfl⟩
          obtain ⟨x33, ex33⟩ : ∃ x, a.eval (.tmp 33) = x := ⟨_, rfl⟩
          obtain ⟨x34, ex34⟩ : ∃ x, a.eval (.tmp 34) = x := ⟨_, rfl⟩
          obtain ⟨x35, ex35⟩ : ∃ x, a.eval (.tmp 35) = x := ⟨_, rfl⟩
          obtain ⟨x36, ex36⟩ : ∃ x, a.eval (.tmp 36) = x := ⟨_, rfl⟩
          obtain ⟨x37, ex37⟩ : ∃ x, a.eval (.tmp 37) = x := ⟨_, rfl⟩
          obtain ⟨x38, ex38⟩ : ∃ x, a.eval (.tmp 38) = x := ⟨_, rfl⟩
          obtain ⟨x39, ex39⟩ : ∃ x, a.eval (.tmp 39) = x := ⟨_, rfl⟩
          obtain ⟨x40, ex40⟩ : ∃ x, a.eval (.tmp 40) = x := ⟨_, rfl⟩
          obtain ⟨x41, ex41⟩ : ∃ x, a.eval (.tmp 41) = x := ⟨_, rfl⟩
          obtain ⟨x42, ex42⟩ : ∃ x, a.eval (.tmp 42) = x := ⟨_, rfl⟩
          obtain ⟨x43, ex43⟩ : ∃ x, a.eval (.tmp 43) = x := ⟨_, rfl⟩
          obtain ⟨x44, ex44⟩ : ∃ x, a.eval (.tmp 44) = x := ⟨_, rfl⟩
          have hact := act_puts hts hd hfree
          simp only [putAll, List.foldl_cons, List.foldl_nil, ex28, ex29, ex30, ex31, ex32, ex33, ex34, ex35, ex36, ex37, ex38, ex39, ex40, ex41, ex42, ex43, ex44, e45, Act.put] at hact
          simp at hact
          clear ex28 ex29 ex30 ex31 ex32 ex33 ex34 ex35 ex36 ex37 ex38 ex39 ex40 ex41 ex42 ex43 ex44 e45 hts hd hdone hfree
          subst hact
          have hs3 := hbu.size
          simp only [World.size_alloc] at hs3
          have hbn : Below w2.heap.size w2 u := (hbw.alloc hs2 _).trans (hbu.mono (by simp; omega))
          clear hbu
          cases r with
          | true =>
            have hnm : n = m := by have := HR.out; rw [beq_eq] at this; simpa using this
            have HN : Hid (¬ May ls) := by
              refine may_not H2.out.1 hkl (.inr ⟨by omega, ?_⟩)
              rw [← getD_eqL hkl, ← getD_eqL (show k - 1 < ds.length by omega), ← hx.out, ← hy.out]; exact hnm
            clear hnm
            go_wp2_with fail
            go_ret2
            exact ⟨_, by rw [cne_not HN.out]; rfl, by rw [cnl_not HN.out]; exact newL_nil _ _, H2.out.2.2.2.2.1.trans (hbn.mono hbsz)⟩
          | false =>
            have HNM : Hid (¬ n = m) := by have := HR.out; rw [beq_eq] at this; exact of_decide_eq_false this
            go_wp2_with fail
            go_roundw
            case rel =>
              refine ⟨k + 1, by go_num, hlt, fun j hj => ?_, hbn⟩
              by_cases hjk : j = k
              · subst hjk
                exact ⟨by rw [← hx.out]; exact HO.out, fun _ => by rw [← hx.out, ← hy.out]; exact HNM.out⟩
              · exact HA.out j (by omega)
            case measure => simp [intOf]; omega
    · have hlt' : ¬ (k : Int) < (len : Int) := by omega
      obtain rfl : k = len := by omega
      go_wp2_with fail
      go_ret2
      have hfin := may_sorted H2.out.1 H2.out.2.1 (by rw [HI.out.1.hl]; omega) (by rw [HI.out.1.hl]; omega)
        (fun x hx => by
          obtain ⟨j, hj, rfl⟩ := List.getElem_of_mem hx
          rw [← getD_eqL hj]; exact (HA.out j (by rw [← H2.out.2.2.2.2.2]; exact hj)).1)
        (fun j hj => by
          have := (HA.out (j + 1) (by rw [← H2.out.2.2.2.2.2]; exact hj)).2 (by omega)
          rw [getD_eqL hj, Nat.add_sub_cancel, getD_eqL (show j < ds.length by omega)] at this
          exact this)
      have hd2 := H2.out.2.2.2.2.2
      refine ⟨_, by rw [cne_may hfin.1]; rfl, ?_, H2.out.2.2.2.2.1.trans (hbw.mono hbsz)⟩
      rw [cnl_may hfin.1, hfin.2]
      refine ⟨some ⟨g, 0, none⟩, cc, by rw [hd2]; rfl, ⟨rfl, by omega, h5, H2.out.2.2.1.below hbw, fun h => by cases h⟩, fun _ => ⟨g, rfl, hg1, fun j hj => ?_⟩⟩
      obtain ⟨g', off', eg, hg', _⟩ := H2.out.2.2.1.at (k := 0) (by omega)
      cases eg
      exact (hbw.frozen (p := ⟨g, j, none⟩) hg').trans (H2.out.2.2.2.1 j hj)
end Go.Proofs.Ythklkhdcmoonkaa
