/- The library's contracts of slices.Sorted over maps.Keys, laid at this program. Conditions: those of each contract. -/
import Derived.Test.YtkipcblbadkjnaaRows
import Derived.Test.YtkipcblbadkjnaaProg
import Derived.Shelf.SlIter.Nil
import Derived.Shelf.SortM.Plain
import Derived.Shelf.SortM.SortNone
import Derived.KernelRfl
namespace Go.Proofs
open Go.RowKit Go.Maps Go.Sort Go.Shelf
def Try.keys67_ren : Go.Shelf.Ren := ⟨fun | 7 => 67 | 10 => 74 | n => n, fun | 23 => 64 | 26 => 9 | 3 => 76 | 28 => 89 | 0 => 0 | 27 => 88 | 33 => 92 | 4 => 4 | n => n, fun | n => n⟩
theorem Try.keys67 : Go.Proofs.SlLaysZ.n7 Try.prog Try.keys67_ren := {
  mixed := by kernel_rfl,
  f7 := ⟨ "maps.Keys[map[string]*esker/simfs.file,string,*esker/simfs.file]", by decide, Try.func67.trans (congrArg some (by kernel_rfl))⟩,
  f10 := ⟨ "maps.Keys[map[string]*esker/simfs.file,string,*esker/simfs.file]$1", by decide, Try.func74.trans (congrArg some (by kernel_rfl))⟩,
  t0 := Try.underlying0,
  a0 := Try.isAgg0,
  z0 := Try.sizeOf0,
  v0 := Try.zeroValue0,
  t4 := Try.underlying4,
  a4 := Try.isAgg4,
  z4 := Try.sizeOf4,
  v4 := Try.zeroValue4,
  t23 := Try.underlying64,
  a23 := Try.isAgg64,
  z23 := Try.sizeOf64,
  v23 := Try.zeroValue64,
  t26 := Try.underlying9,
  a26 := Try.isAgg9,
  z26 := Try.sizeOf9,
  v26 := Try.zeroValue9,
  t27 := Try.underlying88,
  a27 := Try.isAgg88,
  z27 := Try.sizeOf88,
  v27 := Try.zeroValue88,
  t28 := Try.underlying89,
  a28 := Try.isAgg89,
  z28 := Try.sizeOf89,
  v28 := Try.zeroValue89,
  t33 := Try.underlying92,
  a33 := Try.isAgg92,
  z33 := Try.sizeOf92,
  v33 := Try.zeroValue92 }
def Try.sorted66_ren : Go.Shelf.Ren := ⟨fun | 6 => 66 | 8 => 72 | 9 => 73 | 11 => 76 | 13 => 78 | 12 => 77 | 23 => 88 | 24 => 89 | 14 => 79 | 15 => 80 | 16 => 81 | 17 => 82 | 18 => 83 | 19 => 84 | 20 => 85 | 21 => 86 | 22 => 87 | 25 => 90 | 26 => 91 | 27 => 92 | 28 => 93 | 29 => 94 | 30 => 95 | 31 => 96 | n => n, fun | 26 => 9 | 28 => 89 | 24 => 45 | 0 => 0 | 3 => 3 | 37 => 118 | 48 => 128 | 50 => 130 | 4 => 4 | 40 => 121 | 39 => 120 | 45 => 125 | 5 => 5 | 9 => 9 | 51 => 131 | 55 => 135 | 57 => 137 | 58 => 138 | 33 => 92 | n => n, fun | n => n⟩
theorem Try.sorted66 : Go.Proofs.SlLaysZ.n6 Try.prog Try.sorted66_ren := {
  mixed := by kernel_rfl,
  f6 := ⟨ "slices.Sorted[string]", by decide, Try.func66.trans (congrArg some (by kernel_rfl))⟩,
  f8 := ⟨ "slices.Collect[string]", by decide, Try.func72.trans (congrArg some (by kernel_rfl))⟩,
  f11 := ⟨ "slices.AppendSeq[[]string,string]", by decide, Try.func76.trans (congrArg some (by kernel_rfl))⟩,
  t0 := Try.underlying0,
  a0 := Try.isAgg0,
  z0 := Try.sizeOf0,
  v0 := Try.zeroValue0,
  t24 := Try.underlying45,
  a24 := Try.isAgg45,
  z24 := Try.sizeOf45,
  v24 := Try.zeroValue45,
  t26 := Try.underlying9,
  a26 := Try.isAgg9,
  z26 := Try.sizeOf9,
  v26 := Try.zeroValue9,
  t28 := Try.underlying89,
  a28 := Try.isAgg89,
  z28 := Try.sizeOf89,
  v28 := Try.zeroValue89,
  i26 := by kernel_rfl }
def Try.sort73_ren : Go.Shelf.Ren := ⟨fun | 6 => 73 | 8 => 78 | 9 => 77 | 19 => 88 | 20 => 89 | 21 => 79 | 22 => 80 | 23 => 81 | 24 => 82 | 25 => 83 | 26 => 84 | 27 => 85 | 28 => 86 | 29 => 87 | 36 => 90 | 31 => 91 | 32 => 92 | 37 => 93 | 38 => 94 | 39 => 95 | 41 => 96 | n => n, fun | 27 => 45 | 29 => 9 | 3 => 3 | 32 => 118 | 26 => 45 | 0 => 0 | 44 => 128 | 46 => 130 | 4 => 4 | 36 => 121 | 35 => 120 | 41 => 125 | 5 => 5 | 9 => 9 | 53 => 131 | 57 => 135 | 63 => 137 | 64 => 138 | n => n, fun | n => n⟩
theorem Try.sort73 : Go.Proofs.SlLaysM.n6 Try.prog Try.sort73_ren := {
  mixed := by kernel_rfl,
  f6 := ⟨ "slices.Sort[[]string,string]", by decide, Try.func73.trans (congrArg some (by kernel_rfl))⟩,
  f8 := Try.func78.trans (congrArg some (by kernel_rfl)),
  f9 := ⟨ "slices.pdqsortOrdered[string]", by decide, Try.func77.trans (congrArg some (by kernel_rfl))⟩,
  f19 := Try.func88.trans (congrArg some (by kernel_rfl)),
  f20 := Try.func89.trans (congrArg some (by kernel_rfl)),
  f21 := ⟨ "slices.insertionSortOrdered[string]", by decide, Try.func79.trans (congrArg some (by kernel_rfl))⟩,
  f22 := ⟨ "slices.heapSortOrdered[string]", by decide, Try.func80.trans (congrArg some (by kernel_rfl))⟩,
  f23 := ⟨ "slices.breakPatternsOrdered[string]", by decide, Try.func81.trans (congrArg some (by kernel_rfl))⟩,
  f24 := ⟨ "slices.choosePivotOrdered[string]", by decide, Try.func82.trans (congrArg some (by kernel_rfl))⟩,
  f25 := ⟨ "slices.reverseRangeOrdered[string]", by decide, Try.func83.trans (congrArg some (by kernel_rfl))⟩,
  f26 := ⟨ "slices.partialInsertionSortOrdered[string]", by decide, Try.func84.trans (congrArg some (by kernel_rfl))⟩,
  f27 := ⟨ "cmp.Less[string]", by decide, Try.func85.trans (congrArg some (by kernel_rfl))⟩,
  f28 := ⟨ "slices.partitionEqualOrdered[string]", by decide, Try.func86.trans (congrArg some (by kernel_rfl))⟩,
  f29 := ⟨ "slices.partitionOrdered[string]", by decide, Try.func87.trans (congrArg some (by kernel_rfl))⟩,
  f31 := Try.func91.trans (congrArg some (by kernel_rfl)),
  f32 := Try.func92.trans (congrArg some (by kernel_rfl)),
  f36 := ⟨ "slices.siftDownOrdered[string]", by decide, Try.func90.trans (congrArg some (by kernel_rfl))⟩,
  f37 := ⟨ "slices.medianAdjacentOrdered[string]", by decide, Try.func93.trans (congrArg some (by kernel_rfl))⟩,
  f38 := ⟨ "slices.medianOrdered[string]", by decide, Try.func94.trans (congrArg some (by kernel_rfl))⟩,
  f39 := ⟨ "cmp.isNaN[string]", by decide, Try.func95.trans (congrArg some (by kernel_rfl))⟩,
  f41 := ⟨ "slices.order2Ordered[string]", by decide, Try.func96.trans (congrArg some (by kernel_rfl))⟩,
  t0 := Try.underlying0,
  a0 := Try.isAgg0,
  z0 := Try.sizeOf0,
  v0 := Try.zeroValue0,
  t3 := Try.underlying3,
  a3 := Try.isAgg3,
  z3 := Try.sizeOf3,
  v3 := Try.zeroValue3,
  t4 := Try.underlying4,
  a4 := Try.isAgg4,
  z4 := Try.sizeOf4,
  v4 := Try.zeroValue4,
  t5 := Try.underlying5,
  a5 := Try.isAgg5,
  z5 := Try.sizeOf5,
  v5 := Try.zeroValue5,
  t9 := Try.underlying9,
  a9 := Try.isAgg9,
  z9 := Try.sizeOf9,
  v9 := Try.zeroValue9,
  t26 := Try.underlying45,
  a26 := Try.isAgg45,
  z26 := Try.sizeOf45,
  v26 := Try.zeroValue45,
  t27 := Try.underlying45,
  a27 := Try.isAgg45,
  z27 := Try.sizeOf45,
  v27 := Try.zeroValue45,
  t29 := Try.underlying9,
  a29 := Try.isAgg9,
  z29 := Try.sizeOf9,
  v29 := Try.zeroValue9,
  t32 := Try.underlying118,
  a32 := Try.isAgg118,
  z32 := Try.sizeOf118,
  v32 := Try.zeroValue118,
  t35 := Try.underlying120,
  a35 := Try.isAgg120,
  z35 := Try.sizeOf120,
  v35 := Try.zeroValue120,
  t36 := Try.underlying121,
  a36 := Try.isAgg121,
  z36 := Try.sizeOf121,
  v36 := Try.zeroValue121,
  t41 := Try.underlying125,
  a41 := Try.isAgg125,
  z41 := Try.sizeOf125,
  v41 := Try.zeroValue125,
  t44 := Try.underlying128,
  a44 := Try.isAgg128,
  z44 := Try.sizeOf128,
  v44 := Try.zeroValue128,
  t46 := Try.underlying130,
  a46 := Try.isAgg130,
  z46 := Try.sizeOf130,
  v46 := Try.zeroValue130,
  t53 := Try.underlying131,
  a53 := Try.isAgg131,
  z53 := Try.sizeOf131,
  v53 := Try.zeroValue131,
  t57 := Try.underlying135,
  a57 := Try.isAgg135,
  z57 := Try.sizeOf135,
  v57 := Try.zeroValue135,
  t63 := Try.underlying137,
  a63 := Try.isAgg137,
  z63 := Try.sizeOf137,
  v63 := Try.zeroValue137,
  t64 := Try.underlying138,
  a64 := Try.isAgg138,
  z64 := Try.sizeOf138,
  v64 := Try.zeroValue138 }
theorem Try.sorts66 (m : Nat) : AnyZ.SortsIn Try.prog Try.sorted66_ren Fence.wide m :=
  ⟨fun blk off cap ss W hH hblk hsz => callsIn_wide.2 (AnyM.slices_Sort_string Try.sort73 blk off cap ss W hH hblk hsz),
   fun p cap W => callsIn_wide.2 (AnyM.slices_Sort_string_none Try.sort73 p cap W)⟩

theorem Try.maps_Keys_67 (mb : Option Nat) (W : World) : CallsIn Fence.wide 5 Try.prog 67 #[.map mb] W fun e w' => e = .returned (.func (.func 74) #[] #[.pointer (some ⟨W.heap.size, 0, none⟩)]) ∧ w' = W.alloc (.cells #[.map mb] 64) :=
  AnyZ.keys_in Try.keys67 Fence.wide 5 trivial rfl mb W

set_option maxHeartbeats 1000000 in
theorem Try.slices_Sorted_keys_66_67 {H : Type} (b nn : Nat) (D0 : DataW H) (R : Value → Option (DataW H × List MemPlace)) (w : World) (hown : w.ownsMap Try.prog 9 R b nn D0) (hmax : Maps.size D0 ≤ maxLen) (hbytes : Maps.size D0 * 16 ≤ 140737488355328) :
    CallsIn Fence.wide 5 Try.prog 66 #[.func (.func 74) #[] #[.pointer (some ⟨w.heap.size, 0, none⟩)]] (w.alloc (.cells #[.map (some b)] 64)) fun e w' => ∃ (v : Value) (ss : List (List UInt8)), e = .returned v ∧ ss.Perm (strKeys D0) ∧
      w'.ownsRow (w.alloc (.cells #[.map (some b)] 64)).heap.size 9 1 v ss.length ((ss.mergeSort (fun x y => decide (x ≤ y))).map encStr) ∧ (v = .slice none 0 0 ↔ ss = []) ∧ Below (w.alloc (.cells #[.map (some b)] 64)).heap.size (w.alloc (.cells #[.map (some b)] 64)) w' := by
  have hbl := hown.lt
  have hseq : SeqGives Fence.wide 2 Try.prog 74 #[.pointer (some ⟨w.heap.size, 0, none⟩)] encStr (fun ss => ss.Perm (strKeys D0)) (Maps.size D0) (w.alloc (.cells #[.map (some b)] 64)) :=
    AnyZ.keys_gives (ρ := Try.keys67_ren) { Try.keys67 with } Fence.wide _ trivial rfl (by omega) w.heap.size b nn D0 _ (by simp) (by simp) (by
      obtain ⟨es, clock, hb, Ft, hs, hD⟩ := hown
      exact ⟨es, clock, (Below.heap_alloc _ _ b hbl).trans hb, Ft, hs, hD⟩)
  exact AnyZ.sorted_in Try.sorted66 Fence.wide 5 trivial trivial trivial trivial rfl (by omega) (Try.sorts66 _) (enters_of Try.func73 (by kernel_rfl) rfl) 74 #[.pointer (some ⟨w.heap.size, 0, none⟩)] trivial (enters_of Try.func74 (by kernel_rfl) rfl) _ _ hmax hbytes _ hseq

set_option maxHeartbeats 1000000 in
theorem Try.slices_Sorted_keys_nil_66_67 (w : World) :
    CallsIn Fence.wide 5 Try.prog 66 #[.func (.func 74) #[] #[.pointer (some ⟨w.heap.size, 0, none⟩)]] (w.alloc (.cells #[.map none] 64)) fun e w' => ∃ (v : Value) (ss : List (List UInt8)), e = .returned v ∧ ss = [] ∧
      w'.ownsRow (w.alloc (.cells #[.map none] 64)).heap.size 9 1 v ss.length ((ss.mergeSort (fun x y => decide (x ≤ y))).map encStr) ∧ (v = .slice none 0 0 ↔ ss = []) ∧ Below (w.alloc (.cells #[.map none] 64)).heap.size (w.alloc (.cells #[.map none] 64)) w' := by
  have hseq : SeqGives Fence.wide 2 Try.prog 74 #[.pointer (some ⟨w.heap.size, 0, none⟩)] encStr (fun ss : List (List UInt8) => ss = []) 0 (w.alloc (.cells #[.map none] 64)) :=
    AnyZ.keys_gives_nil (ρ := Try.keys67_ren) { Try.keys67 with } Fence.wide _ trivial rfl w.heap.size _ (by simp) (by simp)
  exact AnyZ.sorted_in Try.sorted66 Fence.wide 5 trivial trivial trivial trivial rfl (by omega) (Try.sorts66 _) (enters_of Try.func73 (by kernel_rfl) rfl) 74 #[.pointer (some ⟨w.heap.size, 0, none⟩)] trivial (enters_of Try.func74 (by kernel_rfl) rfl) _ 0 (Nat.zero_le _) (by omega) _ hseq

end Go.Proofs
