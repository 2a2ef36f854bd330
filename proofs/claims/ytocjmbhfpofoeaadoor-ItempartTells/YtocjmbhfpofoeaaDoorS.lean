/- What the arguments and the listed variable read as: slices of items, slices of bytes, the table of half bytes. -/
import Derived.Test.YtocjmbhfpofoeaaDoorAx
import Derived.Test.YtocjmbhfpofoeaaDoorTie
import Derived.Test.YtocjmbhfpofoeaaDoorCards
import Derived.Lib.LaidTab
import Derived.Lib.LaidU8
import Derived.OpenShut
import Derived.ShutString
import Derived.ChangeOld
import Derived.ChangeSame
import Derived.ChangeMaps5
import Derived.Deep.Matrix
import Derived.Shelf.Vars
import Derived.HandedShaped
import Derived.Deep.Strs
import Derived.WalkKit
import Derived.ProofKit
import Derived.Lay
import Derived.LaidOnce
import Derived.SevenTiedAt
namespace Go.Proofs.YtocjmbhfpofoeaaDoor
open Go.ChangeShapes Go.WideShapes Go.ChangeAt Go.RowKit Go.Lib

def halves : List Int := [0, 498536548, 997073096, 651767980, 1994146192, 1802195444, 1303535960, 1342533948, 3988292384, 4027552580, 3604390888, 3412177804, 2607071920, 2262029012, 2685067896, 3183342108]
theorem halves_sts : ∀ i, i < 16 → halves[i]? = some ((sts 4 i : Nat) : Int) := by decide +kernel
theorem ha_of {W : World} (h : Lib.VarReads Tryd.prog W "esker/frame.halves" Rows.laid_esker_frame_halves) : Ha W := by
  obtain ⟨g, t, cs, fuel, p, hg, hty, hvar, hd⟩ := h
  obtain rfl := Option.some.inj ((show Tryd.prog.globalNamed "esker/frame.halves" = some 0 by kernel_rfl).symm.trans hg)
  obtain rfl := Option.some.inj ((show (Tryd.prog.globals[0]?).map (·.type) = some 97 by kernel_rfl).symm.trans hty)
  have hc := cells_of_tab (zs := halves) Tryd.underlying97 Tryd.underlying81 (by kernel_rfl) (by kernel_rfl) hd
  have key : ∀ i : Nat, ∀ z, halves[i]? = some z → W.cell? ⟨0, i, none⟩ = some (.int .u32 z) := by
    intro i z hi
    rw [World.var?_cell hg hvar i, ← Array.getElem?_toList, hc, List.getElem?_map, hi]
    rfl
  exact ⟨World.block_lt_of_cell? W _ (key 0 0 rfl), fun i hi => key i _ (halves_sts i hi)⟩

/-- As the kit's, with the laid variables and the world's shape handed on. -/
theorem returns_and_shaped {H : Type} {enc : TypeId × Value → H} {a : Assume} {C : Checked} {os : Os} {f : FuncId} {fn : Func} {s : ChangeSpec} {conds : List PathCond} {apart fresh handsOn again : Bool} {X : World → Array Value → Prop}
    (hX : ∀ (w w' : World) (args : Array Value), w.heap = w'.heap → X w args → X w' args)
    (own : ownKnob C.prog.godebug = none) (started : os.Started) (noInit : C.prog.inits.idxOf? f = none) (hfn : C.prog.funcs[f]? = some fn)
    (witness : ∃ (w : World) (tape : Tape) (i : Input), w.os = os ∧ (w.forCall tape i).Shaped C.prog ∧ i.vars = [] ∧ Input.okWide C.prog (w.forCall tape i) .any w.heap.size f i ∧
      ((s.pre enc C.prog fn conds apart (w.forCall tape i).memory i.args ∧ X (w.forCall tape i).memory i.args) ∧ sizedMet enc C.prog fn (OpenSpec.ofChange s) apart (w.forCall tape i).memory i.args) ∧ a.holds C.prog (lone (Frame.enter C.prog f i.args .normal) [] (w.forCall tape i)))
    (contract : ∀ (W : World) (base : Nat) (args : Array Value) (ds gs : List (DataW H)) (before : List MemPlace),
      (∀ (j : Nat) t v, fn.params[j]? = some t → args[j]? = some v → Value.okWide C.prog W .any base t v) →
      DataW.Whole enc C.prog fn.params.toList s.vars apart W args.toList ds gs before →
      X W args → W.ShapedOpen C.prog →
      Calls C.prog f args W fun e W' => ∃ v, e = .returned v ∧ s.post enc C.prog fn apart fresh handsOn again W args v W') :
    ReturnsInHanded a C os f .any (fun w args => (s.pre enc C.prog fn conds apart w args ∧ X w args) ∧ sizedMet enc C.prog fn (OpenSpec.ofChange s) apart w args) (s.post enc C.prog fn apart fresh handsOn again) := by
  refine returnsInHanded_of_calls own started noInit witness ?_
  intro w tape i _ hsh _ hok hpre hholds
  obtain ⟨_, _, _, fn', hfn', _, _, _, _, hval⟩ := hok
  have e : fn' = fn := Option.some.inj (hfn'.symm.trans hfn)
  subst e
  obtain ⟨⟨⟨ds, gs, before, hw, hc⟩, hx⟩, hz⟩ := hpre
  have hw' := DataW.Whole.of_heap (w' := w.forCall tape i) (by rfl) hw
  refine (contract (w.forCall tape i) w.heap.size i.args ds gs before hval hw' (hX _ _ _ (by rfl) hx) hsh).mono fun e W' ⟨v, he, hp⟩ => ?_
  subst he
  exact ChangeSpec.post_blind hp
theorem bytes_wf {ms : List Int} (h : ∀ n ∈ ms, Lit.wf (.int .u8 n) = true) : Bytes ms := by
  intro n hn
  simpa [Lit.wf, IntKind.min, IntKind.max, IntKind.signed, IntKind.bits] using h n hn
theorem isI_of {H : Type} {enc : TypeId × Value → H} {W : World} {base : Nat} {spare : Nat → Bool} {held : Bool} {a : Option Addr} {len cap fuel : Nat} {x : DataW H × List MemPlace}
    (h : DataW.trod enc Tryd.prog W base spare held fuel 23 [.slice a len cap] = some x) : ∃ ms, IsI .u8 W a len cap ms ∧ Bytes ms := by
  rcases open_ints Tryd.underlying23 Tryd.underlying5 (by kernel_rfl) h with ⟨hcs, _⟩ | ⟨ad, l, c, zs, hcs, _, hl, hm, hz, _, hcell, hwz⟩
  · simp at hcs
    obtain ⟨rfl, rfl, rfl⟩ := hcs
    exact ⟨[], isI_nil _ _, fun n hn => by simp at hn⟩
  · simp at hcs
    obtain ⟨rfl, rfl, rfl⟩ := hcs
    have hzl : len ≤ zs.length := by rw [hz]; split <;> omega
    refine ⟨zs.take len, ⟨by simp; omega, hl, hm, ?_, fun h => by cases h⟩, bytes_wf fun n hn => hwz n (List.mem_of_mem_take hn)⟩
    by_cases h0 : len = 0
    · subst h0; exact .inl rfl
    · obtain ⟨b, off, spot⟩ := ad
      have hc := hcell 0 (by omega)
      have hspot : spot = none := by simpa [Addr.add] using World.cell?_spot hc
      subst hspot
      have hb : b < W.heap.size := by
        have := World.block_lt_of_cell? W _ hc
        simpa [Addr.add] using this
      refine .inr ⟨b, off, rfl, hb, fun i hi => ?_⟩
      simp only [List.length_take] at hi
      have := hcell i (by omega)
      rw [Addr.add_lit] at this
      rw [this]
      congr 2
      simp [List.getD, show i < len by omega]
theorem own : ownKnob Tryd.prog.godebug = none := by kernel_rfl
theorem laidOut : laidOutB Tryd.prog = true := by kernel_rfl
theorem isR_of {H : Type} {enc : TypeId × Value → H} {W : World} {base : Nat} {held : Bool} {a : Option Addr} {len cap fuel : Nat} {x : DataW H × List MemPlace}
    (h : DataW.trod enc Tryd.prog W base (fun _ => true) held fuel 22 [.slice a len cap] = some x) : ∃ ls, IsR W a len cap ls ∧ WfR ls := by
  rcases Deep.open_int_rows Tryd.underlying22 Tryd.underlying23 Tryd.underlying5 (by kernel_rfl) (by kernel_rfl) h with ⟨hcs, _⟩ | ⟨ad, l, c, A, L, C, Z, hcs, _, hl, hm, _, hr⟩
  · simp at hcs
    obtain ⟨rfl, rfl, rfl⟩ := hcs
    exact ⟨[], isR_nil _, fun l hl => by simp at hl⟩
  · simp at hcs
    obtain ⟨rfl, rfl, rfl⟩ := hcs
    have hgd : ∀ i, i < len → ((List.range len).map fun r => (Z r).take (L r)).getD i [] = (Z i).take (L i) := fun i hi => by simp [List.getD, hi]
    have hI : ∀ r, r < len → IsI .u8 W (A r) (L r) (C r) ((Z r).take (L r)) ∧ Bytes ((Z r).take (L r)) := fun r hr' => by
      obtain ⟨h1, h2, h3, h4, h5, h6, h7⟩ := hr r (by omega)
      refine ⟨⟨by simp; omega, h2, h3, ?_, h6⟩, bytes_wf fun n hn => h5 n (List.mem_of_mem_take hn)⟩
      by_cases hz : L r = 0
      · exact .inl (by simp [hz])
      · cases hA : A r with
        | none => have := h6 hA; omega
        | some a' =>
          obtain ⟨b', off', spot'⟩ := a'
          have hc' := (h7 _ hA).2
          have hc0 := hc' 0 (by omega)
          have hspot' : spot' = none := by simpa [Addr.add] using World.cell?_spot hc0
          subst hspot'
          have hb' : b' < W.heap.size := by
            have := World.block_lt_of_cell? W _ hc0
            simpa [Addr.add] using this
          refine .inr ⟨b', off', rfl, hb', fun i hi => ?_⟩
          simp only [List.length_take] at hi
          have := hc' i (by omega)
          rw [Addr.add_lit] at this
          rw [this]
          congr 2
          simp [List.getD, show i < L r by omega]
    refine ⟨(List.range len).map fun r => (Z r).take (L r), ⟨by simp, hl, hm, ?_, fun h => by cases h⟩, fun l hl' => ?_⟩
    · by_cases h0 : len = 0
      · exact .inl (by simp [h0])
      · obtain ⟨b, off, spot⟩ := ad
        have hc := (hr 0 (by omega)).1
        have hspot : spot = none := by simpa [Addr.add] using World.cell?_spot hc
        subst hspot
        have hb : b < W.heap.size := by
          have := World.block_lt_of_cell? W _ hc
          simpa [Addr.add] using this
        refine .inr ⟨b, off, rfl, hb, fun r hr' => ?_⟩
        simp at hr'
        refine ⟨A r, L r, C r, ?_, ?_⟩
        · have := (hr r (by omega)).1; rw [Addr.add_lit] at this; exact this
        · rw [hgd r hr']; exact (hI r hr').1
    · obtain ⟨r, hr', rfl⟩ := List.mem_map.1 hl'
      exact (hI r (by simpa using hr')).2
end Go.Proofs.YtocjmbhfpofoeaaDoor
