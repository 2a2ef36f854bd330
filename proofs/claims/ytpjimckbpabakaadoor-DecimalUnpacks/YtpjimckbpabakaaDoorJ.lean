/- What the arguments and the listed variable read as: a slice of values, the table of powers. -/
import Derived.Test.YtpjimckbpabakaaDoorI
import Derived.Test.YtpjimckbpabakaaDoorTie
import Derived.Lib.LaidTab
import Derived.Lib.LaidU8
import Derived.OpenShut
import Derived.Shelf.Vars
import Derived.HandedShaped
import Derived.Deep.Strs
import Derived.WalkKit
import Derived.ProofKit
import Derived.Lay
import Derived.LaidOnce
import Derived.SevenTiedAt
namespace Go.Proofs.YtpjimckbpabakaaDoor
open Go.ChangeShapes Go.WideShapes Go.ChangeAt Go.RowKit Go.Lib

def tens : List Int := [1, 10, 100, 1000, 10000, 100000, 1000000, 10000000, 100000000, 1000000000, 10000000000, 100000000000, 1000000000000, 10000000000000, 100000000000000, 1000000000000000, 10000000000000000, 100000000000000000, 1000000000000000000]
theorem tens_pow : ∀ i, i < 19 → tens[i]? = some ((10 : Int) ^ i) := by decide
theorem pw_of {W : World} (h : Lib.VarReads Tryd.prog W "esker/decimal.powers" Rows.laid_esker_decimal_powers) : Pw W := by
  obtain ⟨g, t, cs, fuel, p, hg, hty, hvar, hd⟩ := h
  obtain rfl := Option.some.inj ((show Tryd.prog.globalNamed "esker/decimal.powers" = some 0 by kernel_rfl).symm.trans hg)
  obtain rfl := Option.some.inj ((show (Tryd.prog.globals[0]?).map (·.type) = some 47 by kernel_rfl).symm.trans hty)
  have hc := cells_of_tab (zs := tens) Tryd.underlying47 Tryd.underlying2 (by kernel_rfl) (by kernel_rfl) hd
  have key : ∀ i : Nat, i < 19 → W.cell? ⟨0, i, none⟩ = some (.int .i64 (10 ^ i)) := by
    intro i hi
    rw [World.var?_cell hg hvar i, ← Array.getElem?_toList, hc, List.getElem?_map, tens_pow i hi]
    rfl
  exact ⟨World.block_lt_of_cell? W _ (key 0 (by decide)), key⟩

/-- Each number fits. -/
abbrev WfV (vs : List Vl) : Prop := ∀ v ∈ vs, (-9223372036854775808 ≤ v.M ∧ v.M ≤ 9223372036854775807) ∧ (-9223372036854775808 ≤ v.E ∧ v.E ≤ 9223372036854775807) ∧ -9223372036854775808 ≤ v.S ∧ v.S ≤ 9223372036854775807

theorem add_two (a : Addr) (m n : Nat) : (a.add m).add n = a.add (m + n) := by
  simp only [Addr.add]
  by_cases h : m = 0 <;> by_cases h' : n = 0 <;> simp [h, h', Nat.add_assoc]

theorem isV_of {H : Type} {enc : TypeId × Value → H} {W : World} {base : Nat} {spare : Nat → Bool} {held : Bool} {a : Option Addr} {len cap fuel : Nat} {x : DataW H × List MemPlace}
    (h : DataW.trod enc Tryd.prog W base spare held fuel 22 [.slice a len cap] = some x) : ∃ vs, IsV W a len cap vs ∧ WfV vs := by
  rcases DataW.trod_slice Tryd.underlying22 h with ⟨hcs, _⟩ | ⟨ad, l, c, el, rs, m, _, hcs, _, _, hlc, hm, hel, helem, _, _⟩
  · simp at hcs
    obtain ⟨rfl, rfl, rfl⟩ := hcs
    exact ⟨[], ⟨rfl, Nat.le_refl _, Nat.zero_le _, .inl rfl, fun _ => rfl⟩, fun v hv => by simp at hv⟩
  · simp at hcs
    obtain ⟨rfl, rfl, rfl⟩ := hcs
    have hcell : ∀ i, i < len → ∃ v : Vl, (W.cell? (ad.add (i * 3)) = some (.int .i64 v.M) ∧ W.cell? (ad.add (i * 3 + 1)) = some (.int .i64 v.E) ∧ W.cell? (ad.add (i * 3 + 2)) = some (.int .i64 v.S)) ∧
        (-9223372036854775808 ≤ v.M ∧ v.M ≤ 9223372036854775807) ∧ (-9223372036854775808 ≤ v.E ∧ v.E ≤ 9223372036854775807) ∧ -9223372036854775808 ≤ v.S ∧ v.S ≤ 9223372036854775807 := by
      intro i hi
      have h1 := helem i hi
      rw [show Tryd.prog.cellsOf 36 = 3 by kernel_rfl] at h1
      obtain ⟨b, hb⟩ : ∃ b, el[i]? = some b := ⟨el[i]'(by omega), List.getElem?_eq_getElem (by omega)⟩
      rw [hb] at h1
      obtain ⟨ce, hce, hte⟩ := Option.bind_eq_some_iff.1 h1
      obtain ⟨_, hl3, hcc⟩ := World.cells?_some hce
      obtain ⟨y0, y1, y2, n, _, _, g0, g1, g2⟩ := Deep.trod_struct3 Tryd.underlying36 hte
      obtain ⟨z0, hz0, _, wf0⟩ := DataW.trod_int Tryd.underlying2 g0
      obtain ⟨z1, hz1, _, wf1⟩ := DataW.trod_int Tryd.underlying3 g1
      obtain ⟨z2, hz2, _, wf2⟩ := DataW.trod_int Tryd.underlying3 g2
      have q0 := congrArg (·[0]?) hz0
      have q1 := congrArg (·[0]?) hz1
      have q2 := congrArg (·[0]?) hz2
      simp [show Tryd.prog.cellsOf 2 = 1 by kernel_rfl, show Tryd.prog.cellsOf 3 = 1 by kernel_rfl] at q0 q1 q2
      have k0 := hcc 0 (by decide)
      have k1 := hcc 1 (by decide)
      have k2 := hcc 2 (by decide)
      rw [q0] at k0; rw [q1] at k1; rw [q2] at k2
      refine ⟨⟨z0, z1, z2⟩, ⟨?_, ?_, ?_⟩, ?_, ?_, ?_⟩
      · rw [← k0]; simp [Addr.add]
      · rw [← k1, add_two]
      · rw [← k2, add_two]
      · simpa [Lit.wf, IntKind.min, IntKind.max, IntKind.signed, IntKind.bits] using wf0
      · simpa [Lit.wf, IntKind.min, IntKind.max, IntKind.signed, IntKind.bits] using wf1
      · simpa [Lit.wf, IntKind.min, IntKind.max, IntKind.signed, IntKind.bits] using wf2
    have key : ∀ n, n ≤ len → ∃ vs : List Vl, vs.length = n ∧ (∀ i, i < n → W.cell? (ad.add (i * 3)) = some (.int .i64 (vs.getD i v0).M) ∧ W.cell? (ad.add (i * 3 + 1)) = some (.int .i64 (vs.getD i v0).E) ∧ W.cell? (ad.add (i * 3 + 2)) = some (.int .i64 (vs.getD i v0).S)) ∧
        ∀ v ∈ vs, (-9223372036854775808 ≤ v.M ∧ v.M ≤ 9223372036854775807) ∧ (-9223372036854775808 ≤ v.E ∧ v.E ≤ 9223372036854775807) ∧ -9223372036854775808 ≤ v.S ∧ v.S ≤ 9223372036854775807 := by
      intro n
      induction n with
      | zero => intro _; exact ⟨[], rfl, fun i hi => by omega, fun v hv => by simp at hv⟩
      | succ n ih =>
        intro hn
        obtain ⟨vs, h1, h2, h3⟩ := ih (by omega)
        obtain ⟨v, hv, hw⟩ := hcell n (by omega)
        refine ⟨vs ++ [v], by simp [h1], fun i hi => ?_, fun x hx => ?_⟩
        · rw [getD_snoc, h1]
          by_cases hin : i = n
          · subst hin; rw [if_pos rfl]; exact hv
          · rw [if_neg hin]; exact h2 i (by omega)
        · rcases List.mem_append.1 hx with hx | hx
          · exact h3 x hx
          · simp at hx; subst hx; exact hw
    obtain ⟨vs, h1, h2, h3⟩ := key len (Nat.le_refl _)
    refine ⟨vs, ⟨h1, hlc, hm, ?_, fun h => by cases h⟩, h3⟩
    by_cases h0 : len = 0
    · exact .inl (List.eq_nil_of_length_eq_zero (by omega))
    · obtain ⟨b, off, spot⟩ := ad
      have hc := (h2 0 (by omega)).1
      have hspot : spot = none := by simpa [Addr.add] using World.cell?_spot hc
      subst hspot
      have hb : b < W.heap.size := by
        have := World.block_lt_of_cell? W _ hc
        simpa [Addr.add] using this
      refine .inr ⟨b, off, rfl, hb, fun i hi => ?_⟩
      have := h2 i (by omega)
      simp only [Addr.add_lit] at this
      simpa [Nat.add_assoc] using this

theorem RdV.take {w : World} {a : Option Addr} {vs : List Vl} (h : RdV w a vs) (n : Nat) : RdV w a (vs.take n) := by
  rcases h with rfl | ⟨b, off, h1, h2, h3⟩
  · exact .inl (by simp)
  · refine .inr ⟨b, off, h1, h2, fun i hi => ?_⟩
    simp only [List.length_take] at hi
    have := h3 i (by omega)
    have e : (vs.take n).getD i v0 = vs.getD i v0 := by simp [List.getD, show i < n by omega]
    rw [e]; exact this

/-- As the kit's, with the laid variables and the world's shape handed on. -/
theorem returns_and_shaped {H : Type} {enc : TypeId × Value → H} {a : Assume} {C : Checked} {os : Os} {f : FuncId} {fn : Func} {s : ChangeSpec} {conds : List PathCond} {apart fresh handsOn again : Bool} {X : World → Array Value → Prop}
    (hX : ∀ (w w' : World) (args : Array Value), w.heap = w'.heap → X w args → X w' args)
    (own : ownKnob C.prog.godebug = none) (started : os.Started) (noInit : C.prog.inits.idxOf? f = none) (hfn : C.prog.funcs[f]? = some fn)
    (witness : ∃ (w : World) (tape : Tape) (i : Input), w.os = os ∧ (w.forCall tape i).Shaped C.prog ∧ i.vars = [] ∧ Input.okWide C.prog (w.forCall tape i) .any w.heap.size f i ∧
      ((s.pre enc C.prog fn conds apart (w.forCall tape i).memory i.args ∧ X (w.forCall tape i).memory i.args) ∧ sizedMet enc C.prog fn (OpenSpec.ofChange s) apart (w.forCall tape i).memory i.args) ∧ a.holds C.prog (lone (Frame.enter C.prog f i.args .normal) [] (w.forCall tape i)))
    (contract : ∀ (W : World) (base : Nat) (args : Array Value) (ds gs : List (DataW H)) (before : List MemPlace),
      (∀ (j : Nat) t v, fn.params[j]? = some t → args[j]? = some v → Value.okWide C.prog W .any base t v) →
      DataW.Whole enc C.prog fn.params.toList s.vars apart W args.toList ds gs before →
      X W args → W.ShapedOpen C.prog →
      Calls C.prog f args W fun e W' => ∃ v, e = .returned v ∧ s.post enc C.prog fn apart fresh handsOn again W args v W') :
    ReturnsInHanded a C os f .any (fun w args => (s.pre enc C.prog fn conds apart w args ∧ X w args) ∧ sizedMet enc C.prog fn (OpenSpec.ofChange s) apart w args) (s.post enc C.prog fn apart fresh handsOn again) := by
  refine returnsInHanded_of_calls own started noInit witness ?_
  intro w tape i _ hsh _ hok hpre hholds
  obtain ⟨_, _, _, fn', hfn', _, _, _, _, hval⟩ := hok
  have e : fn' = fn := Option.some.inj (hfn'.symm.trans hfn)
  subst e
  obtain ⟨⟨⟨ds, gs, before, hw, hc⟩, hx⟩, hz⟩ := hpre
  have hw' := DataW.Whole.of_heap (w' := w.forCall tape i) (by rfl) hw
  refine (contract (w.forCall tape i) w.heap.size i.args ds gs before hval hw' (hX _ _ _ (by rfl) hx) hsh).mono fun e W' ⟨v, he, hp⟩ => ?_
  subst he
  exact ChangeSpec.post_blind hp
theorem own : ownKnob Tryd.prog.godebug = none := by kernel_rfl
theorem laidOut : laidOutB Tryd.prog = true := by kernel_rfl
end Go.Proofs.YtpjimckbpabakaaDoor
