/- What the arguments read as: slices of labels, slices of filters, a filter. -/
import Derived.Test.YtejdpelolihpeaaR
import Derived.Test.YtejdpelolihpeaaI
import Derived.OpenShut
import Derived.ShutString
import Derived.ChangeOld
import Derived.ChangeSame
import Derived.ChangeMaps5
import Derived.Deep.Strs
import Derived.HandedShaped
import Derived.ProofKit
import Derived.Lib.SmallJoins
namespace Go.Proofs.Ytejdpelolihpeaa
open Go.ChangeShapes Go.WideShapes Go.ChangeAt Go.RowKit Go.Lib

theorem add_two (a : Addr) (m n : Nat) : (a.add m).add n = a.add (m + n) := by
  simp only [Addr.add]
  by_cases h : m = 0 <;> by_cases h' : n = 0 <;> simp [h, h', Nat.add_assoc]
theorem isL_of {H : Type} {enc : TypeId × Value → H} {W : World} {base : Nat} {spare : Nat → Bool} {held : Bool} {a : Option Addr} {len cap fuel : Nat} {x : DataW H × List MemPlace}
    (h : DataW.trod enc Try.prog W base spare held fuel 23 [.slice a len cap] = some x) : ∃ ls, IsL W a len cap ls ∧ WfL ls := by
  rcases DataW.trod_slice Try.underlying23 h with ⟨hcs, _⟩ | ⟨ad, l, c, el, rs, m, _, hcs, _, _, hlc, hm, hel, helem, _, _⟩
  · simp at hcs
    obtain ⟨rfl, rfl, rfl⟩ := hcs
    exact ⟨[], isL_nil _, fun v hv => by simp at hv⟩
  · simp at hcs
    obtain ⟨rfl, rfl, rfl⟩ := hcs
    have hcell : ∀ i, i < len → ∃ v : Lb, (W.cell? (ad.add (i * 2)) = some (.string v.1) ∧ W.cell? (ad.add (i * 2 + 1)) = some (.string v.2)) ∧ v.1.size ≤ maxLen ∧ v.2.size ≤ maxLen := by
      intro i hi
      have h1 := helem i hi
      rw [show Try.prog.cellsOf 34 = 2 by kernel_rfl] at h1
      obtain ⟨b, hb⟩ : ∃ b, el[i]? = some b := ⟨el[i]'(by omega), List.getElem?_eq_getElem (by omega)⟩
      rw [hb] at h1
      obtain ⟨ce, hce, hte⟩ := Option.bind_eq_some_iff.1 h1
      obtain ⟨_, hl2, hcc⟩ := World.cells?_some hce
      obtain ⟨y0, y1, n, _, _, g0, g1⟩ := trod_struct2 Try.underlying34 hte
      obtain ⟨z0, hz0, _, wf0⟩ := DataW.trod_string Try.underlying9 g0
      obtain ⟨z1, hz1, _, wf1⟩ := DataW.trod_string Try.underlying9 g1
      have q0 := congrArg (·[0]?) hz0
      have q1 := congrArg (·[0]?) hz1
      simp [show Try.prog.cellsOf 9 = 1 by kernel_rfl] at q0 q1
      have k0 := hcc 0 (by decide)
      have k1 := hcc 1 (by decide)
      rw [q0] at k0; rw [q1] at k1
      refine ⟨(z0, z1), ⟨?_, ?_⟩, wf0, wf1⟩
      · rw [← k0]; simp [Addr.add]
      · rw [← k1, add_two]
    have key : ∀ n, n ≤ len → ∃ ls : List Lb, ls.length = n ∧ (∀ i, i < n → W.cell? (ad.add (i * 2)) = some (.string (ls.getD i l0).1) ∧ W.cell? (ad.add (i * 2 + 1)) = some (.string (ls.getD i l0).2)) ∧ WfL ls := by
      intro n
      induction n with
      | zero => intro _; exact ⟨[], rfl, fun i hi => by omega, fun v hv => by simp at hv⟩
      | succ n ih =>
        intro hn
        obtain ⟨vs, h1, h2, h3⟩ := ih (by omega)
        obtain ⟨v, hv, hw⟩ := hcell n (by omega)
        refine ⟨vs ++ [v], by simp [h1], fun i hi => ?_, fun x hx => ?_⟩
        · rw [getD_snocL, h1]
          by_cases hin : i = n
          · subst hin; rw [if_pos rfl]; exact hv
          · rw [if_neg hin]; exact h2 i (by omega)
        · rcases List.mem_append.1 hx with hx | hx
          · exact h3 x hx
          · simp at hx; subst hx; exact hw
    obtain ⟨vs, h1, h2, h3⟩ := key len (Nat.le_refl _)
    refine ⟨vs, ⟨h1, hlc, hm, ?_, fun h => by cases h⟩, h3⟩
    by_cases h0 : len = 0
    · exact .inl (List.eq_nil_of_length_eq_zero (by omega))
    · obtain ⟨b, off, spot⟩ := ad
      have hc := (h2 0 (by omega)).1
      have hspot : spot = none := by simpa [Addr.add] using World.cell?_spot hc
      subst hspot
      have hb : b < W.heap.size := by
        have := World.block_lt_of_cell? W _ hc
        simpa [Addr.add] using this
      refine .inr ⟨b, off, rfl, hb, fun i hi => ?_⟩
      have := h2 i (by omega)
      simp only [Addr.add_lit] at this
      simpa [Nat.add_assoc] using this
theorem isF_of {H : Type} {enc : TypeId × Value → H} {W : World} {base : Nat} {spare : Nat → Bool} {held : Bool} {a : Option Addr} {len cap fuel : Nat} {x : DataW H × List MemPlace}
    (h : DataW.trod enc Try.prog W base spare held fuel 22 [.slice a len cap] = some x) : ∃ ls, IsF W a len cap ls ∧ WfF ls := by
  rcases DataW.trod_slice Try.underlying22 h with ⟨hcs, _⟩ | ⟨ad, l, c, el, rs, m, _, hcs, _, _, hlc, hm, hel, helem, _, _⟩
  · simp at hcs
    obtain ⟨rfl, rfl, rfl⟩ := hcs
    exact ⟨[], isF_nil _, fun v hv => by simp at hv⟩
  · simp at hcs
    obtain ⟨rfl, rfl, rfl⟩ := hcs
    have hcell : ∀ i, i < len → ∃ v : Ft, (W.cell? (ad.add (i * 4)) = some (.string v.n) ∧ W.cell? (ad.add (i * 4 + 1)) = some (.string v.v) ∧ W.cell? (ad.add (i * 4 + 2)) = some (.bool v.p) ∧ W.cell? (ad.add (i * 4 + 3)) = some (.bool v.t)) ∧ Wf v := by
      intro i hi
      have h1 := helem i hi
      rw [show Try.prog.cellsOf 28 = 4 by kernel_rfl] at h1
      obtain ⟨b, hb⟩ : ∃ b, el[i]? = some b := ⟨el[i]'(by omega), List.getElem?_eq_getElem (by omega)⟩
      rw [hb] at h1
      obtain ⟨ce, hce, hte⟩ := Option.bind_eq_some_iff.1 h1
      obtain ⟨_, hl2, hcc⟩ := World.cells?_some hce
      obtain ⟨y0, y1, y2, y3, n, _, _, g0, g1, g2, g3⟩ := Joins.trod_struct4 Try.underlying28 hte
      obtain ⟨z0, hz0, _, wf0⟩ := DataW.trod_string Try.underlying9 g0
      obtain ⟨z1, hz1, _, wf1⟩ := DataW.trod_string Try.underlying9 g1
      obtain ⟨z2, hz2, _⟩ := DataW.trod_bool Try.underlying4 g2
      obtain ⟨z3, hz3, _⟩ := DataW.trod_bool Try.underlying4 g3
      have q0 := congrArg (·[0]?) hz0
      have q1 := congrArg (·[0]?) hz1
      have q2 := congrArg (·[0]?) hz2
      have q3 := congrArg (·[0]?) hz3
      simp [show Try.prog.cellsOf 9 = 1 by kernel_rfl] at q0 q1
      simp [show Try.prog.cellsOf 4 = 1 by kernel_rfl] at q2 q3
      have k0 := hcc 0 (by decide)
      have k1 := hcc 1 (by decide)
      have k2 := hcc 2 (by decide)
      have k3 := hcc 3 (by decide)
      rw [q0] at k0; rw [q1] at k1; rw [q2] at k2; rw [q3] at k3
      refine ⟨⟨z0, z1, z2, z3⟩, ⟨?_, ?_, ?_, ?_⟩, wf0, wf1⟩
      · rw [← k0]; simp [Addr.add]
      · rw [← k1, add_two]
      · rw [← k2, add_two]
      · rw [← k3, add_two]
    have key : ∀ n, n ≤ len → ∃ ls : List Ft, ls.length = n ∧ (∀ i, i < n → W.cell? (ad.add (i * 4)) = some (.string (ls.getD i f0).n) ∧ W.cell? (ad.add (i * 4 + 1)) = some (.string (ls.getD i f0).v) ∧ W.cell? (ad.add (i * 4 + 2)) = some (.bool (ls.getD i f0).p) ∧ W.cell? (ad.add (i * 4 + 3)) = some (.bool (ls.getD i f0).t)) ∧ WfF ls := by
      intro n
      induction n with
      | zero => intro _; exact ⟨[], rfl, fun i hi => by omega, fun v hv => by simp at hv⟩
      | succ n ih =>
        intro hn
        obtain ⟨vs, h1, h2, h3⟩ := ih (by omega)
        obtain ⟨v, hv, hw⟩ := hcell n (by omega)
        refine ⟨vs ++ [v], by simp [h1], fun i hi => ?_, fun x hx => ?_⟩
        · rw [getD_snocF, h1]
          by_cases hin : i = n
          · subst hin; rw [if_pos rfl]; exact hv
          · rw [if_neg hin]; exact h2 i (by omega)
        · rcases List.mem_append.1 hx with hx | hx
          · exact h3 x hx
          · simp at hx; subst hx; exact hw
    obtain ⟨vs, h1, h2, h3⟩ := key len (Nat.le_refl _)
    refine ⟨vs, ⟨h1, hlc, hm, ?_, fun h => by cases h⟩, h3⟩
    by_cases h0 : len = 0
    · exact .inl (List.eq_nil_of_length_eq_zero (by omega))
    · obtain ⟨b, off, spot⟩ := ad
      have hc := (h2 0 (by omega)).1
      have hspot : spot = none := by simpa [Addr.add] using World.cell?_spot hc
      subst hspot
      have hb : b < W.heap.size := by
        have := World.block_lt_of_cell? W _ hc
        simpa [Addr.add] using this
      refine .inr ⟨b, off, rfl, hb, fun i hi => ?_⟩
      have := h2 i (by omega)
      simp only [Addr.add_lit] at this
      simpa [At, Nat.add_assoc] using this
/-- A filter that is handed in. -/
theorem open_f {H : Type} {enc : TypeId × Value → H} {W : World} {base b0 : Nat} {spare : Nat → Bool} {held : Bool} {v : Value} {d : DataW H} {p : List MemPlace}
    (hv : Value.okWide Try.prog W .any b0 28 v) (h : DataW.Trod enc Try.prog W base spare held 28 v d p) :
    ∃ f : Ft, v = .agg #[.string f.n, .string f.v, .bool f.p, .bool f.t] ∧ p = [] ∧ Wf f ∧ ∀ (W' : World) (base' : Nat) (spare' : Nat → Bool) (held' : Bool), DataW.Trod enc Try.prog W' base' spare' held' 28 (.agg #[.string f.n, .string f.v, .bool f.p, .bool f.t]) d [] := by
  obtain ⟨c0, c1, c2, c3, y0, y1, y2, y3, n, rfl, rfl, rfl, h0, h1, h2, h3⟩ := Joins.open_agg4 Try.underlying28 (by kernel_rfl) (by kernel_rfl) hv h
  obtain ⟨z0, hz0, e0, w0⟩ := DataW.trod_string Try.underlying9 h0
  obtain ⟨z1, hz1, e1, w1⟩ := DataW.trod_string Try.underlying9 h1
  obtain ⟨z2, hz2, e2⟩ := DataW.trod_bool Try.underlying4 h2
  obtain ⟨z3, hz3, e3⟩ := DataW.trod_bool Try.underlying4 h3
  simp at hz0 hz1 hz2 hz3
  subst hz0; subst hz1; subst hz2; subst hz3
  refine ⟨⟨z0, z1, z2, z3⟩, rfl, by rw [e0, e1, e2, e3]; rfl, ⟨w0, w1⟩, fun W' base' spare' held' => ?_⟩
  have := Joins.shut_agg4 (enc := enc) (w := W') (base := base') (spare := spare') (held := held') (t := 28) (y0 := y0) (y1 := y1) (y2 := y2) (y3 := y3) Try.underlying28 (by kernel_rfl) (by kernel_rfl)
    (by rw [e0]; exact Go.ChangeMaps.shut_string Try.underlying9 w0) (by rw [e1]; exact Go.ChangeMaps.shut_string Try.underlying9 w1) (by rw [e2]; exact shut_bool Try.underlying4 _) (by rw [e3]; exact shut_bool Try.underlying4 _)
  rw [e0, e1, e2, e3] at this ⊢
  exact this
theorem own : ownKnob Try.prog.godebug = none := by kernel_rfl
theorem laidOut : laidOutB Try.prog = true := by kernel_rfl
end Go.Proofs.Ytejdpelolihpeaa
