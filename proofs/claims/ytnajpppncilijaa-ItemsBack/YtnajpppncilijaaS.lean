/- What the arguments read as: slices of items, slices of bytes. -/
import Derived.Test.YtnajpppncilijaaAw
import Derived.OpenShut
import Derived.ShutString
import Derived.ChangeOld
import Derived.ChangeSame
import Derived.ChangeMaps5
import Derived.Deep.Matrix
import Derived.HandedShaped
import Derived.ProofKit
namespace Go.Proofs.Ytnajpppncilijaa
open Go.ChangeShapes Go.WideShapes Go.ChangeAt Go.RowKit Go.Lib
theorem bytes_wf {ms : List Int} (h : ∀ n ∈ ms, Lit.wf (.int .u8 n) = true) : Bytes ms := by
  intro n hn
  simpa [Lit.wf, IntKind.min, IntKind.max, IntKind.signed, IntKind.bits] using h n hn
theorem isI_of {H : Type} {enc : TypeId × Value → H} {W : World} {base : Nat} {spare : Nat → Bool} {held : Bool} {a : Option Addr} {len cap fuel : Nat} {x : DataW H × List MemPlace}
    (h : DataW.trod enc Try.prog W base spare held fuel 23 [.slice a len cap] = some x) : ∃ ms, IsI .u8 W a len cap ms ∧ Bytes ms := by
  rcases open_ints Try.underlying23 Try.underlying5 (by kernel_rfl) h with ⟨hcs, _⟩ | ⟨ad, l, c, zs, hcs, _, hl, hm, hz, _, hcell, hwz⟩
  · simp at hcs
    obtain ⟨rfl, rfl, rfl⟩ := hcs
    exact ⟨[], isI_nil _ _, fun n hn => by simp at hn⟩
  · simp at hcs
    obtain ⟨rfl, rfl, rfl⟩ := hcs
    have hzl : len ≤ zs.length := by rw [hz]; split <;> omega
    refine ⟨zs.take len, ⟨by simp; omega, hl, hm, ?_, fun h => by cases h⟩, bytes_wf fun n hn => hwz n (List.mem_of_mem_take hn)⟩
    by_cases h0 : len = 0
    · subst h0; exact .inl rfl
    · obtain ⟨b, off, spot⟩ := ad
      have hc := hcell 0 (by omega)
      have hspot : spot = none := by simpa [Addr.add] using World.cell?_spot hc
      subst hspot
      have hb : b < W.heap.size := by
        have := World.block_lt_of_cell? W _ hc
        simpa [Addr.add] using this
      refine .inr ⟨b, off, rfl, hb, fun i hi => ?_⟩
      simp only [List.length_take] at hi
      have := hcell i (by omega)
      rw [Addr.add_lit] at this
      rw [this]
      congr 2
      simp [List.getD, show i < len by omega]
theorem own : ownKnob Try.prog.godebug = none := by kernel_rfl
theorem laidOut : laidOutB Try.prog = true := by kernel_rfl
theorem isR_of {H : Type} {enc : TypeId × Value → H} {W : World} {base : Nat} {held : Bool} {a : Option Addr} {len cap fuel : Nat} {x : DataW H × List MemPlace}
    (h : DataW.trod enc Try.prog W base (fun _ => true) held fuel 22 [.slice a len cap] = some x) : ∃ ls, IsR W a len cap ls ∧ WfR ls := by
  rcases Deep.open_int_rows Try.underlying22 Try.underlying23 Try.underlying5 (by kernel_rfl) (by kernel_rfl) h with ⟨hcs, _⟩ | ⟨ad, l, c, A, L, C, Z, hcs, _, hl, hm, _, hr⟩
  · simp at hcs
    obtain ⟨rfl, rfl, rfl⟩ := hcs
    exact ⟨[], isR_nil _, fun l hl => by simp at hl⟩
  · simp at hcs
    obtain ⟨rfl, rfl, rfl⟩ := hcs
    have hgd : ∀ i, i < len → ((List.range len).map fun r => (Z r).take (L r)).getD i [] = (Z i).take (L i) := fun i hi => by simp [List.getD, hi]
    have hI : ∀ r, r < len → IsI .u8 W (A r) (L r) (C r) ((Z r).take (L r)) ∧ Bytes ((Z r).take (L r)) := fun r hr' => by
      obtain ⟨h1, h2, h3, h4, h5, h6, h7⟩ := hr r (by omega)
      refine ⟨⟨by simp; omega, h2, h3, ?_, h6⟩, bytes_wf fun n hn => h5 n (List.mem_of_mem_take hn)⟩
      by_cases hz : L r = 0
      · exact .inl (by simp [hz])
      · cases hA : A r with
        | none => have := h6 hA; omega
        | some a' =>
          obtain ⟨b', off', spot'⟩ := a'
          have hc' := (h7 _ hA).2
          have hc0 := hc' 0 (by omega)
          have hspot' : spot' = none := by simpa [Addr.add] using World.cell?_spot hc0
          subst hspot'
          have hb' : b' < W.heap.size := by
            have := World.block_lt_of_cell? W _ hc0
            simpa [Addr.add] using this
          refine .inr ⟨b', off', rfl, hb', fun i hi => ?_⟩
          simp only [List.length_take] at hi
          have := hc' i (by omega)
          rw [Addr.add_lit] at this
          rw [this]
          congr 2
          simp [List.getD, show i < L r by omega]
    refine ⟨(List.range len).map fun r => (Z r).take (L r), ⟨by simp, hl, hm, ?_, fun h => by cases h⟩, fun l hl' => ?_⟩
    · by_cases h0 : len = 0
      · exact .inl (by simp [h0])
      · obtain ⟨b, off, spot⟩ := ad
        have hc := (hr 0 (by omega)).1
        have hspot : spot = none := by simpa [Addr.add] using World.cell?_spot hc
        subst hspot
        have hb : b < W.heap.size := by
          have := World.block_lt_of_cell? W _ hc
          simpa [Addr.add] using this
        refine .inr ⟨b, off, rfl, hb, fun r hr' => ?_⟩
        simp at hr'
        refine ⟨A r, L r, C r, ?_, ?_⟩
        · have := (hr r (by omega)).1; rw [Addr.add_lit] at this; exact this
        · rw [hgd r hr']; exact (hI r hr').1
    · obtain ⟨r, hr', rfl⟩ := List.mem_map.1 hl'
      exact (hI r (by simpa using hr')).2
end Go.Proofs.Ytnajpppncilijaa
