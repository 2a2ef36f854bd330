/- What the arguments read as: slices of labels, slices of bytes. -/
import Derived.Test.YthklkhdcmoonkaaR
import Derived.OpenShut
import Derived.ShutString
import Derived.ChangeOld
import Derived.ChangeSame
import Derived.ChangeMaps5
import Derived.Deep.Strs
import Derived.HandedShaped
import Derived.ProofKit
namespace Go.Proofs.Ythklkhdcmoonkaa
open Go.ChangeShapes Go.WideShapes Go.ChangeAt Go.RowKit Go.Lib

theorem add_two (a : Addr) (m n : Nat) : (a.add m).add n = a.add (m + n) := by
  simp only [Addr.add]
  by_cases h : m = 0 <;> by_cases h' : n = 0 <;> simp [h, h', Nat.add_assoc]
theorem isL_of {H : Type} {enc : TypeId × Value → H} {W : World} {base : Nat} {spare : Nat → Bool} {held : Bool} {a : Option Addr} {len cap fuel : Nat} {x : DataW H × List MemPlace}
    (h : DataW.trod enc Try.prog W base spare held fuel 22 [.slice a len cap] = some x) : ∃ ls, IsL W a len cap ls ∧ WfL ls := by
  rcases DataW.trod_slice Try.underlying22 h with ⟨hcs, _⟩ | ⟨ad, l, c, el, rs, m, _, hcs, _, _, hlc, hm, hel, helem, _, _⟩
  · simp at hcs
    obtain ⟨rfl, rfl, rfl⟩ := hcs
    exact ⟨[], isL_nil _, fun v hv => by simp at hv⟩
  · simp at hcs
    obtain ⟨rfl, rfl, rfl⟩ := hcs
    have hcell : ∀ i, i < len → ∃ v : Lb, (W.cell? (ad.add (i * 2)) = some (.string v.1) ∧ W.cell? (ad.add (i * 2 + 1)) = some (.string v.2)) ∧ v.1.size ≤ maxLen ∧ v.2.size ≤ maxLen := by
      intro i hi
      have h1 := helem i hi
      rw [show Try.prog.cellsOf 44 = 2 by kernel_rfl] at h1
      obtain ⟨b, hb⟩ : ∃ b, el[i]? = some b := ⟨el[i]'(by omega), List.getElem?_eq_getElem (by omega)⟩
      rw [hb] at h1
      obtain ⟨ce, hce, hte⟩ := Option.bind_eq_some_iff.1 h1
      obtain ⟨_, hl2, hcc⟩ := World.cells?_some hce
      obtain ⟨y0, y1, n, _, _, g0, g1⟩ := trod_struct2 Try.underlying44 hte
      obtain ⟨z0, hz0, _, wf0⟩ := DataW.trod_string Try.underlying9 g0
      obtain ⟨z1, hz1, _, wf1⟩ := DataW.trod_string Try.underlying9 g1
      have q0 := congrArg (·[0]?) hz0
      have q1 := congrArg (·[0]?) hz1
      simp [show Try.prog.cellsOf 9 = 1 by kernel_rfl] at q0 q1
      have k0 := hcc 0 (by decide)
      have k1 := hcc 1 (by decide)
      rw [q0] at k0; rw [q1] at k1
      refine ⟨(z0, z1), ⟨?_, ?_⟩, wf0, wf1⟩
      · rw [← k0]; simp [Addr.add]
      · rw [← k1, add_two]
    have key : ∀ n, n ≤ len → ∃ ls : List Lb, ls.length = n ∧ (∀ i, i < n → W.cell? (ad.add (i * 2)) = some (.string (ls.getD i l0).1) ∧ W.cell? (ad.add (i * 2 + 1)) = some (.string (ls.getD i l0).2)) ∧ WfL ls := by
      intro n
      induction n with
      | zero => intro _; exact ⟨[], rfl, fun i hi => by omega, fun v hv => by simp at hv⟩
      | succ n ih =>
        intro hn
        obtain ⟨vs, h1, h2, h3⟩ := ih (by omega)
        obtain ⟨v, hv, hw⟩ := hcell n (by omega)
        refine ⟨vs ++ [v], by simp [h1], fun i hi => ?_, fun x hx => ?_⟩
        · rw [getD_snocL, h1]
          by_cases hin : i = n
          · subst hin; rw [if_pos rfl]; exact hv
          · rw [if_neg hin]; exact h2 i (by omega)
        · rcases List.mem_append.1 hx with hx | hx
          · exact h3 x hx
          · simp at hx; subst hx; exact hw
    obtain ⟨vs, h1, h2, h3⟩ := key len (Nat.le_refl _)
    refine ⟨vs, ⟨h1, hlc, hm, ?_, fun h => by cases h⟩, h3⟩
    by_cases h0 : len = 0
    · exact .inl (List.eq_nil_of_length_eq_zero (by omega))
    · obtain ⟨b, off, spot⟩ := ad
      have hc := (h2 0 (by omega)).1
      have hspot : spot = none := by simpa [Addr.add] using World.cell?_spot hc
      subst hspot
      have hb : b < W.heap.size := by
        have := World.block_lt_of_cell? W _ hc
        simpa [Addr.add] using this
      refine .inr ⟨b, off, rfl, hb, fun i hi => ?_⟩
      have := h2 i (by omega)
      simp only [Addr.add_lit] at this
      simpa [Nat.add_assoc] using this
theorem bytes_wf {l : List Int} (h : ∀ n ∈ l, (Lit.int .u8 n).wf = true) : Bytes l := by
  intro n hn
  simpa [Lit.wf, IntKind.min, IntKind.max, IntKind.signed, IntKind.bits] using h n hn
theorem isI_of {H : Type} {enc : TypeId × Value → H} {W : World} {base : Nat} {spare : Nat → Bool} {held : Bool} {a : Option Addr} {len cap fuel : Nat} {x : DataW H × List MemPlace}
    (h : DataW.trod enc Try.prog W base spare held fuel 32 [.slice a len cap] = some x) : ∃ ms, IsI .u8 W a len cap ms ∧ Bytes ms := by
  rcases open_ints Try.underlying32 Try.underlying5 (by kernel_rfl) h with ⟨hcs, _⟩ | ⟨ad, l, c, zs, hcs, _, hl, hm, hz, _, hcell, hwz⟩
  · simp at hcs
    obtain ⟨rfl, rfl, rfl⟩ := hcs
    exact ⟨[], isI_nil _ _, fun n hn => by simp at hn⟩
  · simp at hcs
    obtain ⟨rfl, rfl, rfl⟩ := hcs
    have hzl : len ≤ zs.length := by rw [hz]; split <;> omega
    refine ⟨zs.take len, ⟨by simp; omega, hl, hm, ?_, fun h => by cases h⟩, bytes_wf fun n hn => hwz n (List.mem_of_mem_take hn)⟩
    by_cases h0 : len = 0
    · subst h0; exact .inl rfl
    · obtain ⟨b, off, spot⟩ := ad
      have hc := hcell 0 (by omega)
      have hspot : spot = none := by simpa [Addr.add] using World.cell?_spot hc
      subst hspot
      have hb : b < W.heap.size := by
        have := World.block_lt_of_cell? W _ hc
        simpa [Addr.add] using this
      refine .inr ⟨b, off, rfl, hb, fun i hi => ?_⟩
      simp only [List.length_take] at hi
      have := hcell i (by omega)
      rw [Addr.add_lit] at this
      rw [this]
      congr 2
      simp [List.getD, show i < len by omega]
theorem own : ownKnob Try.prog.godebug = none := by kernel_rfl
theorem laidOut : laidOutB Try.prog = true := by kernel_rfl
theorem few_len {w : World} {a : Option Addr} {len cap : Nat} {ls : List Lb} (hI : IsL w a len cap ls) (h : few ls = true) : len ≤ 12 := by rw [← hI.hl]; exact (few_spec h).1
end Go.Proofs.Ythklkhdcmoonkaa
