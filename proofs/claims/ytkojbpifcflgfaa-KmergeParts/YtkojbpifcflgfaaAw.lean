/- The laws' own example. Conditions: none. -/
import Derived.Test.YtkojbpifcflgfaaMl
import Derived.Test.YtkojbpifcflgfaaIu
import Derived.Test.YtkojbpifcflgfaaAv
import Derived.Lib.SlBytesConst
namespace Go.Proofs.Ytkojbpifcflgfaa
open Go.RowKit Go.Shelf

set_option maxRecDepth 100000 in
set_option maxHeartbeats 4000000 in
theorem awake_any (w : World) : Calls Try.prog 9 #[] w fun e w' => e = .returned (.bool true) ∧ Below w.heap.size w w' := by
  have H0 : Hid (Below w.heap.size w w) := Below.refl _ _
  have kc := fun (w : World) (C : Array Value) (n c : Nat) => Lib.run_convert_bytes_const (P := Try.prog) w 41 5 C n c Try.underlying41 Try.underlying5
  have k1 := kc w #[.int .u8 98] 1 1
  have k2 := kc ((w.alloc (.cells #[.int .u8 98] 5 (1, 2))).alloc (.cells #[.slice (some ⟨w.heap.size, 0, none⟩) 1 1] 41)) #[.int .u8 97] 1 1
  have k3 := kc (((w.alloc (.cells #[.int .u8 98] 5 (1, 2))).alloc (.cells #[.slice (some ⟨w.heap.size, 0, none⟩) 1 1] 41)).alloc (.cells #[.int .u8 97] 5 (1, 2))) #[.int .u8 98] 1 1
  simp only [World.size_alloc] at k1 k2 k3
  go_enter Try.func9, Try.ntmps9
  go_wp2_with fail
  have HI : Hid _ := six_items w
  have HB : Hid (Below w.heap.size w (six w)) := six_below w
  unfold six at HI HB
  refine Calls.mono HI.out ?_
  rintro e w1 ⟨v, xs, rfl, ho, hbs, hb⟩
  obtain ⟨x0, x1, rfl⟩ : ∃ x0 x1, xs = [x0, x1] := by
    match xs, hbs with
    | [x0, x1], _ => exact ⟨x0, x1, rfl⟩
  obtain ⟨a0, c0, rfl, hI0⟩ := own_isI (k := .u8) hbs.1
  obtain ⟨g, cap, rfl, _, _, _, _, hc, _⟩ := own_cell ho (by decide)
  have cg := hc 0 _ rfl
  have HC : Hid (∀ U, Below w1.heap.size w1 U → U.cell? ⟨g, 0, none⟩ = some (.slice a0 1 c0) ∧ IsI .u8 U a0 1 c0 [97]) := fun U hU => ⟨(World.cell?_of_block (hU.block g (World.block_lt_of_cell? w1 _ cg))).trans cg, hI0.below hU⟩
  have HB1 : Hid (Below w.heap.size w w1) := HB.out.trans (hb.mono HB.out.size)
  clear ho hbs hb hI0 hc cg HI k1 k2 k3 kc
  have HBw1 : Hid (Below w1.heap.size w1 w1) := Below.refl _ _
  have HIw2 : Hid _ := ints_two w1 [1, 3] [3, 2, 2] (by decide) (by decide)
  go_wp2_with fail
  change Calls Try.prog 16 #[.slice (some ⟨w1.heap.size + 2, 0, none⟩) 2 2] (two w1 [1, 3] [3, 2, 2]) _
  refine Calls.mono HIw2.out ?_
  rintro e w2 ⟨v, rfl, ho, hb⟩
  rw [show inss ltI ([1, 3] ++ [3, 2, 2]) = [1, 2, 3] by decide] at ho
  obtain ⟨aw2, cw2, rfl, hi⟩ := isI_of_own ho
  have HIw2 : Hid _ := hi
  have HBw2 : Hid (Below w1.heap.size w1 w2) := HBw1.out.trans (((two_below w1 [1, 3] [3, 2, 2]).trans (hb.mono (two_below w1 [1, 3] [3, 2, 2]).size)).mono HBw1.out.size)
  clear ho hb hi
  have hltw3 : Below w2.heap.size w2 (w2.alloc (.cells #[.int .i64 1, .int .i64 2, .int .i64 3] 3)) := (Below.refl _ _).alloc (Nat.le_refl _) _
  have HSw3 : Hid _ := sameI_any _ _ _ _ _ _ [1, 2, 3] [1, 2, 3] (w2.alloc (.cells #[.int .i64 1, .int .i64 2, .int .i64 3] 3)) (HIw2.out.below hltw3) (isI_at (k := .i64) (xs := [1, 2, 3]) (World.alloc_heap_new w2 _) (by decide)) (by decide) (by decide)
  have HBw3 : Hid (Below w1.heap.size w1 (w2.alloc (.cells #[.int .i64 1, .int .i64 2, .int .i64 3] 3))) := HBw2.out.trans (hltw3.mono HBw2.out.size)
  clear hltw3
  go_wp2_with fail
  refine Calls.mono HSw3.out ?_
  rintro e w3 ⟨he, q, hq⟩
  have he2 : e = .returned (.bool true) := by simpa using he
  clear he
  subst he2
  have HBw3 : Hid (Below w1.heap.size w1 w3) := by rw [hq]; exact HBw3.out.trans (below_dr' _ _ q)
  clear hq q HSw3
  have HIw4 : Hid _ := meet_two w3 [1, 3] [3, 2] (by decide) (by decide)
  go_wp2_with fail
  change Calls Try.prog 18 #[.slice (some ⟨w3.heap.size + 2, 0, none⟩) 2 2] (two w3 [1, 3] [3, 2]) _
  refine Calls.mono HIw4.out ?_
  rintro e w4 ⟨v, rfl, ho, hb⟩
  rw [show hads 2 [[1, 3], [3, 2]] = [3] by decide] at ho
  obtain ⟨aw4, cw4, rfl, hi⟩ := isI_of_own ho
  have HIw4 : Hid _ := hi
  have HBw4 : Hid (Below w1.heap.size w1 w4) := HBw3.out.trans (((two_below w3 [1, 3] [3, 2]).trans (hb.mono (two_below w3 [1, 3] [3, 2]).size)).mono HBw3.out.size)
  clear ho hb hi
  have hltw5 : Below w4.heap.size w4 (w4.alloc (.cells #[.int .i64 3] 3)) := (Below.refl _ _).alloc (Nat.le_refl _) _
  have HSw5 : Hid _ := sameI_any _ _ _ _ _ _ [3] [3] (w4.alloc (.cells #[.int .i64 3] 3)) (HIw4.out.below hltw5) (isI_at (k := .i64) (xs := [3]) (World.alloc_heap_new w4 _) (by decide)) (by decide) (by decide)
  have HBw5 : Hid (Below w1.heap.size w1 (w4.alloc (.cells #[.int .i64 3] 3))) := HBw4.out.trans (hltw5.mono HBw4.out.size)
  clear hltw5
  go_wp2_with fail
  refine Calls.mono HSw5.out ?_
  rintro e w5 ⟨he, q, hq⟩
  have he2 : e = .returned (.bool true) := by simpa using he
  clear he
  subst he2
  have HBw5 : Hid (Below w1.heap.size w1 w5) := by rw [hq]; exact HBw5.out.trans (below_dr' _ _ q)
  clear hq q HSw5
  have HIw6 : Hid _ := less_two w5 [3, 1, 3] [1] (by decide) (by decide)
  go_wp2_with fail
  change Calls Try.prog 20 #[.slice (some ⟨w5.heap.size, 0, none⟩) 3 3, .slice (some ⟨w5.heap.size + 1, 0, none⟩) 1 1] (pair w5 [3, 1, 3] [1]) _
  refine Calls.mono HIw6.out ?_
  rintro e w6 ⟨v, rfl, ho, hb⟩
  rw [show hads 1 [[3, 1, 3], hads 2 [[3, 1, 3], [1]]] = [3] by decide] at ho
  obtain ⟨aw6, cw6, rfl, hi⟩ := isI_of_own ho
  have HIw6 : Hid _ := hi
  have HBw6 : Hid (Below w1.heap.size w1 w6) := HBw5.out.trans (((pair_below w5 [3, 1, 3] [1]).trans (hb.mono (pair_below w5 [3, 1, 3] [1]).size)).mono HBw5.out.size)
  clear ho hb hi
  have hltw7 : Below w6.heap.size w6 (w6.alloc (.cells #[.int .i64 3] 3)) := (Below.refl _ _).alloc (Nat.le_refl _) _
  have HSw7 : Hid _ := sameI_any _ _ _ _ _ _ [3] [3] (w6.alloc (.cells #[.int .i64 3] 3)) (HIw6.out.below hltw7) (isI_at (k := .i64) (xs := [3]) (World.alloc_heap_new w6 _) (by decide)) (by decide) (by decide)
  have HBw7 : Hid (Below w1.heap.size w1 (w6.alloc (.cells #[.int .i64 3] 3))) := HBw6.out.trans (hltw7.mono HBw6.out.size)
  clear hltw7
  go_wp2_with fail
  refine Calls.mono HSw7.out ?_
  rintro e w7 ⟨he, q, hq⟩
  have he2 : e = .returned (.bool true) := by simpa using he
  clear he
  subst he2
  have HBw7 : Hid (Below w1.heap.size w1 w7) := by rw [hq]; exact HBw7.out.trans (below_dr' _ _ q)
  clear hq q HSw7
  have hcg := (HC.out w7 HBw7.out).1
  have hcv := conv_rd w7 a0 c0 1 [97] rfl (HC.out w7 HBw7.out).2.rd
  rw [show strOfNums [97] = ⟨#[97]⟩ by rfl] at hcv
  go_wp2_with fail
  go_ret
  exact ⟨rfl, HB1.out.trans (HBw7.out.mono HB1.out.size)⟩
end Go.Proofs.Ytkojbpifcflgfaa
