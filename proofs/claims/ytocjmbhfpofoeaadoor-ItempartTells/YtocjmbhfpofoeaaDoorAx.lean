/- The contract of awake: the document's example. Conditions: the table of half bytes holds what it is laid with. -/
import Derived.Test.YtocjmbhfpofoeaaDoorAw
namespace Go.Proofs.YtocjmbhfpofoeaaDoor
open Go.RowKit

theorem heap_new (W : World) (o : Obj) (n : Nat) (hn : n = W.heap.size) : (W.alloc o).heap[n]? = some o := by subst hn; exact World.alloc_heap_new W o
theorem cell_blk {W : World} {g : Nat} {C : Array Value} {t : TypeId} {f : Nat × Nat} (h : W.heap[g]? = some (.cells C t f)) (i : Nat) : W.cell? ⟨g, i, none⟩ = C[i]? := by simp [World.cell?, h]
theorem aw_start (w : World) : IsR (((w.alloc (.cells #[.int .u8 97] 5 (1, 2))).alloc (.cells #[.int .u8 98] 5 (1, 2))).alloc (.cells #[.slice (some ⟨w.heap.size, 0, none⟩) 1 1, .slice (some ⟨w.heap.size + 1, 0, none⟩) 1 1] 23)) (some ⟨w.heap.size + 1 + 1, 0, none⟩) 2 2 ex ∧ Below w.heap.size w (((w.alloc (.cells #[.int .u8 97] 5 (1, 2))).alloc (.cells #[.int .u8 98] 5 (1, 2))).alloc (.cells #[.slice (some ⟨w.heap.size, 0, none⟩) 1 1, .slice (some ⟨w.heap.size + 1, 0, none⟩) 1 1] 23)) := by
  have c0 : (((w.alloc (.cells #[.int .u8 97] 5 (1, 2))).alloc (.cells #[.int .u8 98] 5 (1, 2))).alloc (.cells #[.slice (some ⟨w.heap.size, 0, none⟩) 1 1, .slice (some ⟨w.heap.size + 1, 0, none⟩) 1 1] 23)).heap[w.heap.size]? = some (.cells #[.int .u8 97] 5 (1, 2)) := by
    rw [Below.heap_alloc _ _ _ (by first | (simp; done) | (simp; omega)), Below.heap_alloc _ _ _ (by simp)]
    exact heap_new _ _ _ rfl
  have c1 : (((w.alloc (.cells #[.int .u8 97] 5 (1, 2))).alloc (.cells #[.int .u8 98] 5 (1, 2))).alloc (.cells #[.slice (some ⟨w.heap.size, 0, none⟩) 1 1, .slice (some ⟨w.heap.size + 1, 0, none⟩) 1 1] 23)).heap[w.heap.size + 1]? = some (.cells #[.int .u8 98] 5 (1, 2)) := by
    rw [Below.heap_alloc _ _ _ (by simp)]
    exact heap_new _ _ _ (by simp)
  have c2 : (((w.alloc (.cells #[.int .u8 97] 5 (1, 2))).alloc (.cells #[.int .u8 98] 5 (1, 2))).alloc (.cells #[.slice (some ⟨w.heap.size, 0, none⟩) 1 1, .slice (some ⟨w.heap.size + 1, 0, none⟩) 1 1] 23)).heap[w.heap.size + 1 + 1]? = some (.cells #[.slice (some ⟨w.heap.size, 0, none⟩) 1 1, .slice (some ⟨w.heap.size + 1, 0, none⟩) 1 1] 23) := heap_new _ _ _ (by simp)
  refine ⟨⟨rfl, Nat.le_refl _, by decide, .inr ⟨_, 0, rfl, blk_lt c2, fun i hi => ?_⟩, fun h => by cases h⟩, (((Below.refl _ _).alloc (Nat.le_refl _) _).alloc (by simp) _).alloc (by first | (simp; done) | (simp; omega)) _⟩
  match i, hi with
  | 0, _ => exact ⟨_, _, _, cell_blk c2 _, isI_mk _ _ 1 _ [97] rfl c0 (by decide)⟩
  | 1, _ => exact ⟨_, _, _, cell_blk c2 _, isI_mk _ _ 1 _ [98] rfl c1 (by decide)⟩
theorem isI_lit (w : World) (xs : List Int) (m : Nat × Nat) (n : Nat) (hn : xs.length = n) (h : n ≤ 100) : IsI .u8 (w.alloc (.cells (xs.map (Value.int .u8)).toArray 5 m)) (some ⟨w.heap.size, 0, none⟩) n n xs :=
  isI_mk _ _ n m xs hn (World.alloc_heap_new w _) (by unfold maxLen; omega)
theorem byt (xs : List Int) (h : xs.all (fun x => decide (0 ≤ x ∧ x ≤ 255)) = true) : Bytes xs := fun x hx => by
  have := List.all_eq_true.1 h x hx
  have := of_decide_eq_true this
  omega
theorem str_a : strOfNums [97] = { data := #[97] } := by rfl
theorem str_b : strOfNums [98] = { data := #[98] } := by rfl

set_option linter.unusedSimpArgs false in
set_option maxRecDepth 100000 in
set_option maxHeartbeats 4000000 in
theorem awake_any (w : World) (hH : Ha w) : Calls Tryd.prog 9 #[] w fun e w' => e = .returned (.bool true) ∧ Below w.heap.size w w' := by
  have HH : Hid (Ha w) := hH
  clear hH
  have kc := fun (w : World) (C : Array Value) (n c : Nat) => Lib.run_convert_bytes_const (P := Tryd.prog) w 23 5 C n c Tryd.underlying23 Tryd.underlying5
  have k2 := kc (w.alloc (.cells #[.int .u8 97] 5 (1, 2))) #[.int .u8 98] 1 1
  simp only [World.size_alloc] at k2
  have H0 : Hid _ := aw_start w
  go_enter Tryd.func9, Tryd.ntmps9
  go_wp2_with fail
  refine Calls.mono (build_any _ 2 2 ex _ H0.out.1 ex_bytes (HH.out.below H0.out.2) (by decide)) ?_
  rintro e w1 ⟨hb1, v1, rfl, ho1⟩
  rw [ex_bt] at ho1 ⊢
  obtain ⟨a1, c1, rfl, hI1⟩ := own_isI ho1
  have hn1 : ((0 : Int), fil ex).2.length = 27 := ex_len
  rw [hn1] at hI1 ⊢
  have H1 : Hid (IsI .u8 w1 a1 27 c1 (fil ex) ∧ Below w.heap.size w w1) := ⟨hI1, H0.out.2.trans (hb1.mono H0.out.2.size)⟩
  clear ho1 hb1 hI1 hn1 kc k2
  dsimp only
  go_wp2_with fail
  refine Calls.mono (open_any a1 27 c1 (fil ex) w1 H1.out.1 (fil_bytes ex_chk ex_bytes) (HH.out.below H1.out.2) (by decide)) ?_
  rintro e w2 ⟨hb2, (⟨L, p, hL, rfl, hP⟩ | ⟨hno, _⟩)⟩
  case inr => exact absurd ex_bt (hno ex)
  obtain rfl := bt_inj hL ex_bt
  have H2 : Hid (PtI w2 p ex ∧ IsI .u8 w2 a1 27 c1 (fil ex) ∧ Below w.heap.size w w2) := ⟨hP, H1.out.1.below hb2, H1.out.2.trans (hb2.mono H1.out.2.size)⟩
  clear hP hb2 hL H1
  have kc := fun (w : World) (C : Array Value) (n c : Nat) => Lib.run_convert_bytes_const (P := Tryd.prog) w 23 5 C n c Tryd.underlying23 Tryd.underlying5
  have hba : Hid (Below w2.heap.size w2 (w2.alloc (.cells #[.int .u8 97, .int .u8 97] 5 (2, 3)))) := (Below.refl _ _).alloc (Nat.le_refl _) _
  have HF : Hid _ := from_any p (some ⟨w2.heap.size, 0, none⟩) 2 2 [97, 97] ex 5 (w2.alloc (.cells #[.int .u8 97, .int .u8 97] 5 (2, 3))) (H2.out.1.below hba.out) (isI_lit w2 [97, 97] (2, 3) 2 rfl (by decide)) (byt _ (by decide))
  have hR0 : (ex.filter (nl [97, 97])).take (5 : Int).toNat = [[98]] := by decide
  rw [hR0] at HF
  go_wp2_with fail
  refine Calls.mono HF.out ?_
  rintro e w3 ⟨hb3, a3, n3, c3, rfl, hR3, hW3⟩
  obtain rfl : n3 = 1 := hR3.hl.symm
  have H3 : Hid (PtI w3 p ex ∧ IsR w3 a3 1 c3 [[98]] ∧ Below w2.heap.size w2 w3) := ⟨(H2.out.1.below hba.out).below hb3, hR3, hba.out.trans (hb3.mono hba.out.size)⟩
  clear hb3 hR3 hW3 HF hba hR0
  have HLn : Hid _ := len_any p ex w3 H3.out.1
  go_wp2_with fail
  refine Calls.mono HLn.out ?_
  rintro e w4 ⟨rfl, hb4⟩
  have H4 : Hid (PtI w4 p ex ∧ Below w2.heap.size w2 w4 ∧ Below w3.heap.size w3 w4) := ⟨H3.out.1.below hb4, H3.out.2.2.trans (hb4.mono H3.out.2.2.size), hb4⟩
  clear hb4 HLn
  have HBl : Hid _ := blocks_any p ex w4 H4.out.1
  rw [ex_ch] at HBl
  go_wp2_with fail
  refine Calls.mono HBl.out ?_
  rintro e w' ⟨rfl, hw'⟩; rw [hw']; clear hw' w' HBl
  have HFi : Hid _ := first_part p ex w4 H4.out.1
  go_wp2_with fail
  refine Calls.mono HFi.out ?_
  rintro e w5 ⟨hb5, a5, n5, c5, rfl, hI5⟩
  have hv5 := conv_rd w5 a5 c5 n5 _ hI5.hl hI5.rd
  rw [show ex.getD 0 [] = [97] from rfl, str_a] at hv5
  have H5 : Hid (PtI w5 p ex ∧ Below w2.heap.size w2 w5 ∧ Below w3.heap.size w3 w5) := ⟨H4.out.1.below hb5, H4.out.2.1.trans (hb5.mono H4.out.2.1.size), H4.out.2.2.trans (hb5.mono H4.out.2.2.size)⟩
  clear hb5 hI5 HFi
  have HLa : Hid _ := last_part p ex w5 H5.out.1
  go_wp2_with fail
  refine Calls.mono HLa.out ?_
  rintro e w6 ⟨hb6, a6, n6, c6, rfl, hI6⟩
  have hv6 := conv_rd w6 a6 c6 n6 _ hI6.hl hI6.rd
  rw [show ex.getD (ex.length - 1) [] = [98] from rfl, str_b] at hv6
  have H6 : Hid (PtI w6 p ex ∧ Below w2.heap.size w2 w6 ∧ Below w3.heap.size w3 w6) := ⟨H5.out.1.below hb6, H5.out.2.1.trans (hb6.mono H5.out.2.1.size), H5.out.2.2.trans (hb6.mono H5.out.2.2.size)⟩
  clear hb6 hI6 HLa
  have hbb : Hid (Below w6.heap.size w6 (w6.alloc (.cells #[.int .u8 98] 5 (1, 2)))) := (Below.refl _ _).alloc (Nat.le_refl _) _
  have HHs : Hid _ := has_any p (some ⟨w6.heap.size, 0, none⟩) 1 1 [98] ex (w6.alloc (.cells #[.int .u8 98] 5 (1, 2))) (H6.out.1.below hbb.out) (isI_lit w6 [98] (1, 2) 1 rfl (by decide)) (byt _ (by decide))
  rw [show hsd ((ex.filter (nl [98])).take 1) [98] = true by decide] at HHs
  go_wp2_with fail
  refine Calls.mono HHs.out ?_
  rintro e w7 ⟨rfl, hb7⟩
  have hb67 := hbb.out.trans (hb7.mono hbb.out.size)
  have H7 : Hid (PtI w7 p ex ∧ Below w2.heap.size w2 w7 ∧ Below w3.heap.size w3 w7) := ⟨H6.out.1.below hb67, H6.out.2.1.trans (hb67.mono H6.out.2.1.size), H6.out.2.2.trans (hb67.mono H6.out.2.2.size)⟩
  clear hb7 hb67 hbb HHs
  have hR7 := H3.out.2.1.below H7.out.2.2
  obtain ⟨g3, o3, rfl, af, nf, cf, d3, hF3⟩ : ∃ g off, a3 = some ⟨g, off, none⟩ ∧ ∃ af nf cf, w7.cell? ⟨g, off, none⟩ = some (.slice af nf cf) ∧ IsI .u8 w7 af nf cf [98] := by
    rcases hR7.rd with e | ⟨b, o, e1, e2, e3⟩
    · cases e
    · obtain ⟨af, nf, cf, d1, d2⟩ := e3 0 (by decide)
      exact ⟨b, o, e1, af, nf, cf, d1, d2⟩
  have hv7 := conv_rd w7 af cf nf _ hF3.hl hF3.rd
  rw [str_b] at hv7
  clear hR7 hF3
  have hbc : Hid (Below w7.heap.size w7 (w7.alloc (.cells #[.int .u8 97] 5 (1, 2)))) := (Below.refl _ _).alloc (Nat.le_refl _) _
  have HPx : Hid _ := prefixes_any p (some ⟨w7.heap.size, 0, none⟩) 1 1 [97] ex (w7.alloc (.cells #[.int .u8 97] 5 (1, 2))) (H7.out.1.below hbc.out) (isI_lit w7 [97] (1, 2) 1 rfl (by decide)) (byt _ (by decide))
  rw [show tw (fun _ y => pfx y [97]) 0 (ex.filter (nl [97])) = [[97]] by decide] at HPx
  go_wp2_with fail
  refine Calls.mono HPx.out ?_
  rintro e w8 ⟨hb8, a8, n8, c8, rfl, hR8, hW8⟩
  obtain rfl : n8 = 1 := hR8.hl.symm
  have hb78 := hbc.out.trans (hb8.mono hbc.out.size)
  have H8 : Hid (Below w2.heap.size w2 w8) := H7.out.2.1.trans (hb78.mono H7.out.2.1.size)
  clear hb8 hR8 hW8 hb78 hbc HPx
  have hI8 := H2.out.2.1.below H8.out
  obtain ⟨g1, o1, rfl, d1⟩ : ∃ g off, a1 = some ⟨g, off, none⟩ ∧ w8.cell? ⟨g, off + 26, none⟩ = some (.int .u8 13) := by
    have hl := hI8.hl
    rcases hI8.rd with e | ⟨b, o, e1, e2, e3⟩
    · rw [e] at hl; cases hl
    · have := e3 26 (by rw [hl]; decide)
      rw [ex_last] at this
      exact ⟨b, o, e1, this⟩
  have HE : Hid (Below w.heap.size w w8) := H2.out.2.2.trans (H8.out.mono H2.out.2.2.size)
  clear hI8
  go_wp2_with fail
  go_ret
  exact ⟨rfl, HE.out⟩
end Go.Proofs.YtocjmbhfpofoeaaDoor
