/- The contracts of the document's own Zig, Zag and Bytes, and how a slice of bytes becomes a string. Conditions: the argument fits its kind. -/
import Derived.Test.YtifkpimglmncdaaDoorG
namespace Go.Proofs.YtifkpimglmncdaaDoor
open Go.RowKit

set_option maxHeartbeats 800000 in
theorem refbytes_any (u : Nat) (w : World) (hu : u < 18446744073709551616) :
    Calls Tryd.prog 17 #[.int .u64 (u : Int)] w fun e w' => ∃ v', e = .returned v' ∧ w'.ownsRow w.heap.size 5 1 v' (bs u).length ((bs u).map (Value.int .u8)) ∧ Below w.heap.size w w' := by
  obtain ⟨i0, hi, hz0, hz1, hz2⟩ := info_parts Tryd.info5
  have hl := bs_le10 hu
  go_enter Tryd.func17, Tryd.ntmps17
  go_wp2
  go_loopw [0, 3] (fun a s wr => ∃ x k : Nat, ∃ ys : List Int, a = .int .u64 (x : Int) ∧ x < 18446744073709551616 ∧ wr.ownsRow w.heap.size 5 1 s k (ys.map (Value.int .u8)) ∧ ys.length = k ∧ ys ++ bs x = bs u ∧ Below w.heap.size w wr) (fun a _ _ => (intOf a).toNat)
  case atStart => exact ⟨u, 0, [], rfl, hu, World.ownsRow_nil _ _ _ _, rfl, rfl, Below.refl _ _⟩
  case round =>
    obtain ⟨x, k, ys, rfl, hx, ho, hk, hy, hbel⟩ := hrel
    have hkl : k ≤ 10 := by rw [← hy] at hl; simp at hl; omega
    have HY : Hid (ys ++ bs x = bs u ∧ ys.length = k) := ⟨hy, hk⟩
    clear hy hk
    have hbase : w.heap.size ≤ wr.heap.size := hbel.size
    by_cases hlt : x < 128
    · have hlt' : ¬ (128 : Int) ≤ (x : Int) := by omega
      go_wp2_with (at_builtin; refine wpList_append_own _ rfl (.tmp 15) (.tmp 18) 22 rfl w.heap.size 5 i0 (.int .u8 0) 1 1 Tryd.underlying22 hi hz0 hz1 hz2 rfl (by decide) _ k _ rfl (ho.alloc _) ⟨wr.heap.size, 0, none⟩ 1 1 [.int .u8 (x : Int)] rfl rfl (one_at wr _ _) (one_one _) (by unfold maxLen; omega) (by omega) (by simp; omega) ?_; intro v' w1 hown' hgrow _)
      go_ret
      refine ⟨v', rfl, ?_, ?_⟩
      · have e : bs x = [(x : Int)] := bs_small hlt
        obtain ⟨h1, h2⟩ := HY.out
        rw [e] at h1
        rw [← h1, List.length_append, h2, List.map_append]
        exact hown'
      · exact (hbel.alloc hbase _).grown hgrow (by simp; omega) (fun j hj => (ho.lt j hj).1)
    · have hlt' : (128 : Int) ≤ (x : Int) := by omega
      go_wp2_with (at_builtin; refine wpList_append_own _ rfl (.tmp 6) (.tmp 11) 22 rfl w.heap.size 5 i0 (.int .u8 0) 1 1 Tryd.underlying22 hi hz0 hz1 hz2 rfl (by decide) _ k _ rfl (ho.alloc _) ⟨wr.heap.size, 0, none⟩ 1 1 [.int .u8 ((x : Int) % 128 + 128)] rfl rfl (one_at wr _ _) (one_one _) (by unfold maxLen; omega) (by omega) (by simp; omega) ?_; intro v' w1 hown' hgrow _)
      go_roundw
      case rel =>
        obtain ⟨h1, h2⟩ := HY.out
        refine ⟨x / 128, k + 1, ys ++ [((x % 128 + 128 : Nat) : Int)], num_div x, by omega, ?_, by simp [h2], ?_, ?_⟩
        · rw [List.map_append]
          exact hown'
        · rw [← h1, bs_big (u := x) (by omega), List.append_assoc]; rfl
        · exact (hbel.alloc hbase _).grown hgrow (by simp; omega) (fun j hj => (ho.lt j hj).1)
      case measure => simp [intOf]; omega

theorem conv_rd (w : World) (a : Option Addr) (cap n : Nat) (xs : List Int) (hn : xs.length = n) (h : Rd .u8 w a xs) :
    Sem.run Tryd.prog (convert 22 9 (.slice a n cap)) w = .ok (.string (strOfNums xs)) w := by
  rcases h with rfl | ⟨b, off, rfl, _, hc⟩
  · simp at hn; subst hn
    cases a with
    | none => exact run_convert_bytes_nil w 22 5 Tryd.underlying22 Tryd.underlying5 0 cap 9 Tryd.underlying9
    | some x =>
      rw [run_convert_bytes_string w 22 9 5 (some x) 0 cap Tryd.underlying22 Tryd.underlying5 Tryd.underlying9]
      rw [run_bytesToString w x 0 cap [] (by simp [loadCells, loadCellsFrom])]
      rfl
  · exact conv w b off cap n xs hn hc
theorem sl_rd {k : IntKind} {zs : List Int} {v : Value} {w : World} (h : Sl k zs v w) : ∃ a cap, v = .slice a zs.length cap ∧ Rd k w a zs := by
  obtain ⟨g, off, cap, h1, h2, _, _, h5⟩ := h
  exact ⟨_, cap, h1, .inr ⟨g, off, rfl, h2, h5⟩⟩
theorem str_append (xs ys : List Int) : strOfNums xs ++ strOfNums ys = strOfNums (xs ++ ys) := by
  apply ByteArray.ext
  simp [strOfNums]

/-- What is told of a slice of integers that came in: it is nil; or it leads to a row of so many cells, the numbers (the first ones are its elements, the rest its spare room), each fitting its kind. -/
def IsRow (k : IntKind) (w : World) (a : Option Addr) (len cap : Nat) (zs : List Int) : Prop :=
  (a = none ∧ len = 0 ∧ cap = 0 ∧ zs = []) ∨
  ∃ x, a = some x ∧ len ≤ cap ∧ cap ≤ maxLen ∧ zs.length = cap ∧ (∀ i, i < zs.length → w.cell? (x.add i) = some (.int k (zs.getD i 0))) ∧ ∀ n ∈ zs, (Lit.int k n).wf = true

theorem row_rd {k : IntKind} {w : World} {a : Option Addr} {len cap : Nat} {zs : List Int} (h : IsRow k w a len cap zs) :
    Rd k w a (zs.take len) ∧ (zs.take len).length = len ∧ (a = none → cap = 0 ∧ len = 0) ∧ len ≤ cap ∧ cap ≤ maxLen ∧ ∀ n ∈ zs.take len, (Lit.int k n).wf = true := by
  rcases h with ⟨rfl, rfl, rfl, rfl⟩ | ⟨x, rfl, h1, h2, h3, h4, h5⟩
  · exact ⟨.inl rfl, rfl, fun _ => ⟨rfl, rfl⟩, Nat.le_refl _, Nat.zero_le _, fun n hn => by simp at hn⟩
  · refine ⟨?_, by simp; omega, (fun h => by cases h), h1, h2, fun n hn => h5 n (List.mem_of_mem_take hn)⟩
    by_cases h0 : len = 0
    · subst h0; exact .inl rfl
    · obtain ⟨b, off, spot⟩ := x
      have hc := h4 0 (by omega)
      have hspot : spot = none := by simpa [Addr.add] using World.cell?_spot hc
      subst hspot
      have hb : b < w.heap.size := by
        have := World.block_lt_of_cell? w _ hc
        simpa [Addr.add] using this
      refine .inr ⟨b, off, rfl, hb, fun i hi => ?_⟩
      simp only [List.length_take] at hi
      have := h4 i (by omega)
      rw [Addr.add_lit] at this
      rw [this]
      congr 2
      simp [List.getD, show i < len by omega]
end Go.Proofs.YtifkpimglmncdaaDoor
