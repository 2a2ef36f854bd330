/- The contract of the library's sort of labels by their names. Conditions: those of each theorem. -/
import Derived.Test.YthklkhdcmoonkaaF
namespace Go.Proofs.Ythklkhdcmoonkaa
open Go.RowKit Go.Sort

theorem below_sorted {B : Nat} {w0 w : World} {g q : Nat} {F : Array Value} (os : Array Obj) (h : RowKit.Below B w0 w) (hg : B ≤ g) (hB : B ≤ w.heap.size) : RowKit.Below B w0 (grow (putRow id (Sort.ahead w q) g 0 F) os) := by
  have h1 : RowKit.Below B w0 (putRow id (Sort.ahead w q) g 0 F) := Lib.below_putRow h hg
  have hs : (putRow id (Sort.ahead w q) g 0 F).heap.size = w.heap.size := by simp [putRow, mapBlock, Sort.ahead]
  refine ⟨h1.os, h1.tape, h1.output, ?_, fun k hk => ?_⟩
  · rw [size_grow]; exact Nat.le_trans h1.size (Nat.le_add_right _ _)
  · rw [← h1.block k hk]
    simp only [grow]
    rw [Array.getElem?_append_left (by rw [hs]; omega)]

/-- What the sort leaves. -/
def Srt (w : World) (g Bs : Nat) (ls : List Lb) (e : Ending) (w' : World) : Prop :=
  e = .returned (.tuple #[]) ∧ ∃ ds : List Lb, ds.Perm ls ∧ ds.Pairwise (fun x y => ltl y x = false) ∧ RdL w' (some ⟨g, 0, none⟩) ds ∧ (∀ j, j < ds.length * 2 → w'.frozen? ⟨g, j, none⟩ = false) ∧
    (∀ B, B ≤ g → B ≤ w.heap.size → RowKit.Below B w w') ∧ w'.cell? ⟨Bs, 0, none⟩ = w.cell? ⟨Bs, 0, none⟩

theorem holds_of {w : World} {g : Nat} {ls : List Lb} (hc : ∀ j x, (cls ls)[j]? = some x → w.cell? ⟨g, j, none⟩ = some x) (hf : ∀ j, w.frozen? ⟨g, j, none⟩ = false) : HoldsK enl 2 w g 0 ls.toArray := by
  intro j hj
  rw [size_flatK] at hj
  rw [get_flatK _ _ _ _ hj, Nat.zero_add]
  simp only [List.size_toArray] at hj
  obtain ⟨c0, c1⟩ := cls_get ls (j / 2) (by omega)
  have e : ls.toArray[j / 2]! = ls.getD (j / 2) l0 := by
    simp [List.getD, show j / 2 < ls.length by omega]
  refine ⟨?_, hf j⟩
  rw [e]
  have h2 : j = j / 2 * 2 ∨ j = j / 2 * 2 + 1 := by omega
  rcases h2 with h | h
  · rw [h] at c0 ⊢
    rw [show j / 2 * 2 / 2 = j / 2 by omega] at *
    rw [show j / 2 * 2 % 2 = 0 by omega]
    exact hc _ _ c0
  · rw [h, show (j / 2 * 2 + 1) / 2 = j / 2 by omega, show (j / 2 * 2 + 1) % 2 = 1 by omega]
    exact hc _ _ c1
theorem rdL_of_holds {w : World} {g : Nat} {d : Array Lb} (h : HoldsK enl 2 w g 0 d) (hg : g < w.heap.size) : RdL w (some ⟨g, 0, none⟩) d.toList ∧ ∀ j, j < d.toList.length * 2 → w.frozen? ⟨g, j, none⟩ = false := by
  refine ⟨.inr ⟨g, 0, rfl, hg, fun i hi => ?_⟩, fun j hj => ?_⟩
  · have hi' : i < d.size := by simpa using hi
    have e : d[i]! = d.toList.getD i l0 := by simp [List.getD, hi']
    have h0 := (h.cell (i := i) (c := 0) hi' (by omega)).1
    have h1 := (h.cell (i := i) (c := 1) hi' (by omega)).1
    rw [e] at h0 h1
    exact ⟨h0, h1⟩
  · have := (h j (by rw [size_flatK]; simpa using hj)).2
    rw [Nat.zero_add] at this
    exact this

theorem sort_any (g c Bs : Nat) (ls : List Lb) (n : Nat) (hn : ls.length = n) (h1 : 1 ≤ n) (h12 : n ≤ 12) (w : World) (hc : ∀ j x, (cls ls)[j]? = some x → w.cell? ⟨g, j, none⟩ = some x) (hf : ∀ j, w.frozen? ⟨g, j, none⟩ = false) (hg : g < w.heap.size)
    (hBs : w.cell? ⟨Bs, 0, none⟩ = some (.slice (some ⟨g, 0, none⟩) n c)) (hB1 : Bs < w.heap.size) (hB2 : Bs ≠ g) :
    Calls Try.prog 29 #[.iface 22 (.slice (some ⟨g, 0, none⟩) n c), .func (.func 30) #[] #[.pointer (some ⟨Bs, 0, none⟩)]] w (Srt w g Bs ls) := by
  have hH := holds_of hc hf
  by_cases h2 : 2 ≤ n
  · have hsz : ls.toArray.size = n := by simpa using hn
    have hless : LessReadsK Try.prog 30 #[.pointer (some ⟨Bs, 0, none⟩)] enl 2 ltl g 0 n w := by
      intro m os dk hs i j hi hj
      have e : sortWorldK enl 2 w g 0 m dk os = putRowK enl 2 (grow (Sort.ahead w m) os) g 0 dk := by
        unfold sortWorldK; rw [putRowK_grow _ _ (Sort.ahead w m) _ g 0 _ hg]
      have hHg : HoldsK enl 2 (grow (Sort.ahead w m) os) g 0 ls.toArray := holdsK_grow _ _ _ _ g 0 _ hg (holdsK_ahead _ _ _ _ _ _ _ hH)
      refine less_any g 0 c Bs n _ (fun t => dk[t]!.1) ?_ (fun t ht => ?_) i j hi hj
      · rw [e, cell?_putRowK_other _ _ _ g 0 dk _ (by exact hB2), cell?_grow _ _ _ (by exact hB1)]; exact hBs
      · rw [e]; exact ((holdsK_putRowK _ _ _ g 0 ls.toArray dk hHg (by rw [hs, hsz])).cell (i := t) (c := 0) (by omega) (by omega)).1
    have hS := Any.sort_Slice_small_cells_sorted Try.sl6 22 44 svT svE (by kernel_rfl) (by kernel_rfl) (by kernel_rfl) (by kernel_rfl) 25 (fun _ => by kernel_rfl) enl 2 (fun _ => rfl) (by kernel_rfl) (fun _ => by kernel_rfl)
      (fun x v hv => by simp [enl] at hv; rcases hv with rfl | rfl <;> rfl) ltl swo_ltl 30 #[.pointer (some ⟨Bs, 0, none⟩)]
      (enters_of Try.func30 (by kernel_rfl) rfl) g 0 c ls.toArray (by omega) (by omega) 58 (by rw [svK _ (by omega)]; kernel_rfl) false
      (fun args W => run_callFunc_extern Try.func58 (by kernel_rfl) (by kernel_rfl) (by kernel_rfl) (e := Extern.ReflectliteSwapper.swap false) (by kernel_rfl) args W) w (by rw [hsz]; exact hless) hH hg
    rw [hsz] at hS
    change Calls Try.prog 29 _ _ _ at hS
    refine Calls.mono hS ?_
    rintro e w' ⟨rfl, d', q, os, hp, hso, rfl⟩
    obtain ⟨hp1, hp2, hp3⟩ := hp
    have hd' : d'.size = n := by rw [hp1, hsz]
    have hx : ∀ d : Array Lb, d.size = n → (d.extract 0 n).toList = d.toList := fun d hd => by
      rw [← hd]; simp
    rw [hx d' hd', hx _ hsz] at hp3
    have hHd : HoldsK enl 2 (grow (putRowK enl 2 (Sort.ahead w q) g 0 d') os) g 0 d' :=
      holdsK_grow _ _ _ _ g 0 _ (by simp [putRowK, putRow, mapBlock, Sort.ahead]; exact hg) (holdsK_putRowK _ _ _ g 0 ls.toArray d' (holdsK_ahead _ _ _ _ _ _ _ hH) (by rw [hd', hsz]))
    have hgs : g < (grow (putRowK enl 2 (Sort.ahead w q) g 0 d') os).heap.size := by rw [size_grow]; simp [putRowK, putRow, mapBlock, Sort.ahead]; omega
    obtain ⟨hr1, hr2⟩ := rdL_of_holds hHd hgs
    refine ⟨rfl, d'.toList, by simpa using hp3, ?_, hr1, hr2, fun B hB hB' => below_sorted os (RowKit.Below.refl _ _) hB hB', ?_⟩
    · rw [List.pairwise_iff_getElem]
      intro i j hi hj hij
      have hi' : i < d'.size := by simpa using hi
      have hj' : j < d'.size := by simpa using hj
      have := hso i j (Nat.zero_le _) hij (by omega)
      simpa [hi', hj'] using this
    · have e : (grow (putRowK enl 2 (Sort.ahead w q) g 0 d') os).cell? ⟨Bs, 0, none⟩ = (putRowK enl 2 (Sort.ahead w q) g 0 d').cell? ⟨Bs, 0, none⟩ :=
        cell?_grow _ _ _ (by simp [putRowK, putRow, mapBlock, Sort.ahead]; exact hB1)
      rw [e, cell?_putRowK_other _ _ _ g 0 d' _ (by exact hB2)]; rfl
  · obtain rfl : n = 1 := by omega
    have hK : Lib.swapperK 1 svE 25 = 2 := by simp [Lib.swapperK]
    have hS := Any.sort_Slice_tiny Try.sl6 22 44 svT svE (by kernel_rfl) (by kernel_rfl) (by kernel_rfl) (by kernel_rfl) 25 (fun _ => by kernel_rfl) (some ⟨g, 0, none⟩) 1 c (Nat.le_refl _) 51 (by rw [hK]; kernel_rfl) (.func 30) #[] #[.pointer (some ⟨Bs, 0, none⟩)] w
    change Calls Try.prog 29 _ _ _ at hS
    refine Calls.mono hS ?_
    rintro e w' ⟨rfl, os, rfl⟩
    have hHd : HoldsK enl 2 (grow w os) g 0 ls.toArray := holdsK_grow _ _ _ _ g 0 _ hg hH
    obtain ⟨hr1, hr2⟩ := rdL_of_holds hHd (by rw [size_grow]; omega)
    refine ⟨rfl, ls, List.Perm.refl _, ?_, by simpa using hr1, by simpa using hr2, fun B hB hB' => ?_, cell?_grow _ _ _ (by exact hB1)⟩
    · match ls, hn with
      | [x], _ => simp
    · refine ⟨rfl, rfl, rfl, by rw [size_grow]; omega, fun k hk => ?_⟩
      simp only [grow]
      rw [Array.getElem?_append_left (by omega)]
end Go.Proofs.Ythklkhdcmoonkaa
