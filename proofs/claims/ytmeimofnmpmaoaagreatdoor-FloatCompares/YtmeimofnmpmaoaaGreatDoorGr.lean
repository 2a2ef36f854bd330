/- Where the listed package variables read as they are laid, they hold what the contracts ask for. -/
import Derived.Test.YtmeimofnmpmaoaaGreatDoorW
import Derived.Lib.LaidPrint
import Derived.Lib.LaidU8
import Derived.OpenShut
import Derived.Shelf.Vars
import Derived.HandedShaped
namespace Go.Proofs.YtmeimofnmpmaoaaGreatDoor
open Go.RowKit Go.Shelf Go.Lib

abbrev laidAll : List (String × DataW Unit) := Rows.floatCleansRow.laid

theorem trod_float {H : Type} {enc : TypeId × Value → H} {P : Program} {w : World} {base : Nat} {spare : Nat → Bool} {held : Bool} {fuel : Nat} {t : TypeId} {cs : List Value} {x : DataW H × List MemPlace} {k : FloatKind}
    (ht : P.underlying t = some (.float k)) (h : DataW.trod enc P w base spare held fuel t cs = some x) : ∃ n, cs = [.float k n] ∧ x = (.lit (.float k n), []) := by
  cases fuel with
  | zero => simp [DataW.trod] at h
  | succ n =>
    unfold DataW.trod at h
    rw [ht] at h
    split at h <;> simp_all

theorem c0_of {W : World} (h : VarReads Tryz.prog W "esker/float.marks" Rows.laid_esker_float_marks) : ∀ i x, markBits[i]? = some x → W.cell? ⟨0, i, none⟩ = some (.int .u64 ((x : Nat) : Int)) := by
  obtain ⟨g, t, cs, fuel, p, hg, hty, hvar, hd⟩ := h
  obtain rfl := Option.some.inj ((show Tryz.prog.globalNamed "esker/float.marks" = some 0 by kernel_rfl).symm.trans hg)
  obtain rfl := Option.some.inj ((show (Tryz.prog.globals[0]?).map (·.type) = some 38 by kernel_rfl).symm.trans hty)
  have hc := cells_of_tab (zs := markBits.map fun (n : Nat) => (n : Int)) Tryz.underlying38 Tryz.underlying25 (by kernel_rfl) (by kernel_rfl) hd
  intro i x hx
  rw [World.var?_cell hg hvar i, ← Array.getElem?_toList, hc]
  simp [hx]

theorem tab_of {W : World} (h : VarReads Tryz.prog W "internal/strconv.uint64pow10" Rows.laid_internal_strconv_uint64pow10) : TabIs Tryz.prog W "internal/strconv.uint64pow10" .u64 pow10Tab := by
  obtain ⟨g, t, cs, fuel, p, hg, hty, hvar, hd⟩ := h
  have e : ∃ g', Tryz.prog.globalNamed "internal/strconv.uint64pow10" = some g' ∧ ∃ t' e', (Tryz.prog.globals[g']?).map (·.type) = some t' ∧ Tryz.prog.underlying t' = some (.array 20 e') ∧ Tryz.prog.underlying e' = some (.int .u64) ∧ Tryz.prog.cellsOf e' = 1 ∧ Tryz.prog.cellsOf t' = 20 := by
    refine ⟨3, by kernel_rfl, 105, 25, by kernel_rfl, by kernel_rfl, by kernel_rfl, by kernel_rfl, by kernel_rfl⟩
  obtain ⟨g', hg', t', e', h1, h2, h3, h4, h5⟩ := e
  obtain rfl := Option.some.inj (hg'.symm.trans hg)
  obtain rfl := Option.some.inj (h1.symm.trans hty)
  have hc := cells_of_tab (zs := pow10Tab) h2 h3 h4 h5 hd
  unfold TabIs
  rw [hvar, ← hc]

theorem c2_of {W : World} (h : VarReads Tryz.prog W "internal/strconv.optimize" Rows.laid_internal_strconv_optimize) : W.cell? ⟨2, 0, none⟩ = some (.bool true) := by
  obtain ⟨g, t, cs, fuel, p, hg, hty, hvar, hd⟩ := h
  obtain rfl := Option.some.inj ((show Tryz.prog.globalNamed "internal/strconv.optimize" = some 2 by kernel_rfl).symm.trans hg)
  obtain rfl := Option.some.inj ((show (Tryz.prog.globals[2]?).map (·.type) = some 4 by kernel_rfl).symm.trans hty)
  obtain ⟨b, hc, hx⟩ := DataW.trod_bool Tryz.underlying4 hd
  have : b = true := by
    have := congrArg Prod.fst hx
    simp [Rows.laid_internal_strconv_optimize] at this
    exact this
  rw [World.var?_cell hg hvar 0, ← Array.getElem?_toList, hc, this]
  rfl

theorem c8_of {W : World} (h : VarReads Tryz.prog W "internal/strconv.float64info" Rows.laid_internal_strconv_float64info) : W.cell? ⟨8, 0, none⟩ = some (.int .u64 52) := by
  obtain ⟨g, t, cs, fuel, p, hg, hty, hvar, hd⟩ := h
  obtain rfl := Option.some.inj ((show Tryz.prog.globalNamed "internal/strconv.float64info" = some 8 by kernel_rfl).symm.trans hg)
  obtain rfl := Option.some.inj ((show (Tryz.prog.globals[8]?).map (·.type) = some 143 by kernel_rfl).symm.trans hty)
  obtain ⟨xs, n, _, hx, _, hl, hf⟩ := DataW.trod_struct Tryz.underlying143 hd
  have h0 := hf 0 _ rfl
  have e := congrArg Prod.fst hx
  simp only [Rows.laid_internal_strconv_float64info, DataW.agg.injEq] at e
  have e0 := congrArg (·[0]?) e
  simp only [List.getElem?_cons_zero, List.getElem?_map] at e0
  obtain ⟨b, hb⟩ : ∃ b, xs[0]? = some b := by
    cases hxx : xs[0]? with
    | none => rw [hxx] at e0; cases e0
    | some b => exact ⟨b, rfl⟩
  rw [hb] at h0 e0
  obtain ⟨z, hz, hbz, _⟩ := DataW.trod_int Tryz.underlying108 h0
  rw [hbz] at e0
  simp at e0
  rw [World.var?_cell hg hvar 0, ← Array.getElem?_toList]
  have h1 := congrArg (·[0]?) hz
  simp [show Tryz.prog.cellsOf 108 = 1 by kernel_rfl] at h1
  simp [h1, ← e0]

theorem c9_of {W : World} (h : VarReads Tryz.prog W "internal/strconv.pow10Tab" Rows.laid_internal_strconv_pow10Tab) : ∀ i a b, Pinned.pow10Rows[i]? = some (a, b) → W.cell? ⟨9, i * 2, none⟩ = some (.int .u64 ((a : Nat) : Int)) ∧ W.cell? ⟨9, i * 2 + 1, none⟩ = some (.int .u64 ((b : Nat) : Int)) := by
  obtain ⟨g, t, cs, fuel, p, hg, hty, hvar, hd⟩ := h
  obtain rfl := Option.some.inj ((show Tryz.prog.globalNamed "internal/strconv.pow10Tab" = some 9 by kernel_rfl).symm.trans hg)
  obtain rfl := Option.some.inj ((show (Tryz.prog.globals[9]?).map (·.type) = some 165 by kernel_rfl).symm.trans hty)
  obtain ⟨xs, m, _, hx, _, hl, hf⟩ := DataW.trod_array Tryz.underlying165 hd
  have e := congrArg Prod.fst hx
  simp only [Rows.laid_internal_strconv_pow10Tab, Pinned.pow10Tab, DataW.agg.injEq] at e
  intro i a b hi
  have e0 := congrArg (·[i]?) e
  simp only [List.getElem?_map, hi, Option.map_some] at e0
  obtain ⟨x, hxi⟩ : ∃ x, xs[i]? = some x := by
    cases hxx : xs[i]? with
    | none => rw [hxx] at e0; cases e0
    | some b => exact ⟨b, rfl⟩
  have hlt : i < 696 := by have := (List.getElem?_eq_some_iff.1 hxi).1; omega
  have h1 := hf i hlt
  rw [hxi] at h1 e0
  rw [show Tryz.prog.cellsOf 164 = 2 by kernel_rfl] at h1
  obtain ⟨ys, n, _, hy, _, _, hy2⟩ := DataW.trod_struct Tryz.underlying164 h1
  rw [hy] at e0
  simp only [Option.map_some, Option.some.injEq, DataW.agg.injEq] at e0
  have g0 := hy2 0 _ rfl
  have g1 := hy2 1 _ rfl
  have k0 := congrArg (·[0]?) e0
  have k1 := congrArg (·[1]?) e0
  simp only [List.getElem?_cons_zero, List.getElem?_cons_succ, List.getElem?_map] at k0 k1
  obtain ⟨b0, hb0⟩ : ∃ b, ys[0]? = some b := by
    cases hxx : ys[0]? with
    | none => rw [hxx] at k0; cases k0
    | some b => exact ⟨b, rfl⟩
  obtain ⟨b1, hb1⟩ : ∃ b, ys[1]? = some b := by
    cases hxx : ys[1]? with
    | none => rw [hxx] at k1; cases k1
    | some b => exact ⟨b, rfl⟩
  rw [hb0] at g0 k0
  rw [hb1] at g1 k1
  obtain ⟨z0, hz0, hbz0, _⟩ := DataW.trod_int Tryz.underlying25 g0
  obtain ⟨z1, hz1, hbz1, _⟩ := DataW.trod_int Tryz.underlying25 g1
  rw [hbz0] at k0
  rw [hbz1] at k1
  simp at k0 k1
  have q0 := congrArg (·[0]?) hz0
  have q1 := congrArg (·[0]?) hz1
  simp [List.getElem?_drop, show Tryz.prog.cellsOf 25 = 1 by kernel_rfl] at q0 q1
  rw [World.var?_cell hg hvar (i * 2), World.var?_cell hg hvar (i * 2 + 1), ← Array.getElem?_toList, ← Array.getElem?_toList, Array.getElem?_toList, Array.getElem?_toList, q0, q1, ← k0, ← k1]
  exact ⟨rfl, rfl⟩

theorem c15_of {W : World} (h : VarReads Tryz.prog W "internal/strconv.float64pow10" Rows.laid_internal_strconv_float64pow10) : ∃ tb to tc, tb < W.heap.size ∧ W.cell? ⟨15, 0, none⟩ = some (.slice (some ⟨tb, to, none⟩) 23 tc) ∧ ∀ i x, pow10Bits[i]? = some x → W.cell? ⟨tb, to + i, none⟩ = some (.float .f64 x) := by
  obtain ⟨g, t, cs, fuel, p, hg, hty, hvar, hd⟩ := h
  obtain rfl := Option.some.inj ((show Tryz.prog.globalNamed "internal/strconv.float64pow10" = some 15 by kernel_rfl).symm.trans hg)
  obtain rfl := Option.some.inj ((show (Tryz.prog.globals[15]?).map (·.type) = some 178 by kernel_rfl).symm.trans hty)
  have hdat : (Rows.laid_internal_strconv_float64pow10 : DataW Unit) = .slice (pow10Bits.map fun x => .lit (.float .f64 x)) [] := rfl
  rcases DataW.trod_slice Tryz.underlying178 hd with ⟨_, hx⟩ | ⟨a, len, cap, el, rs, m, _, hcs, hx, _, hlc, _, hel, helem, hsp, _⟩
  · cases hx
  have e0 := congrArg Prod.fst hx
  rw [hdat] at e0
  simp only [DataW.slice.injEq] at e0
  obtain ⟨eE, eR⟩ := e0
  have hlen : len = 23 := by
    have := congrArg List.length eE
    simp [pow10Bits] at this
    omega
  have hcell : ∀ i x, pow10Bits[i]? = some x → W.cell? (a.add i) = some (.float .f64 x) := by
    intro i x hix
    have hi : i < len := by have := (List.getElem?_eq_some_iff.1 hix).1; simp [pow10Bits] at this; omega
    have h1 := helem i hi
    rw [show Tryz.prog.cellsOf 40 = 1 by kernel_rfl] at h1
    obtain ⟨b, hb⟩ : ∃ b, el[i]? = some b := ⟨el[i]'(by omega), List.getElem?_eq_getElem (by omega)⟩
    rw [hb] at h1
    obtain ⟨ce, hce, hte⟩ := Option.bind_eq_some_iff.1 h1
    obtain ⟨z, hz, hbz⟩ := trod_float Tryz.underlying40 hte
    have := congrArg (·[i]?) eE
    simp [hb, hix, hbz] at this
    obtain ⟨_, _, hcc⟩ := World.cells?_some hce
    have hc0 := hcc 0 (by omega)
    rw [hz] at hc0
    simp only [Nat.mul_one] at hc0
    have e1 : (a.add i).add 0 = a.add i := by simp [Addr.add]
    rw [e1] at hc0
    rw [hc0, ← this]
    rfl
  obtain ⟨R, o, sR⟩ := a
  obtain rfl : sR = none := by
    have h00 := hcell 0 _ rfl
    have : (Addr.add ⟨R, o, sR⟩ 0) = ⟨R, o, sR⟩ := by simp [Addr.add]
    rw [this] at h00
    exact Go.Proofs.cell_spot h00
  have hc' : ∀ i x, pow10Bits[i]? = some x → W.cell? ⟨R, o + i, none⟩ = some (.float .f64 x) := fun i x hx => by
    have := hcell i x hx
    rwa [Addr.add_lit] at this
  refine ⟨R, o, cap, ?_, ?_, hc'⟩
  · have := hc' 0 _ rfl
    exact block_lt_of_cell this
  · rw [World.var?_cell hg hvar 0, ← Array.getElem?_toList, hcs, hlen]
    rfl

theorem ground_of {W : World} (hL : laidMet Tryz.prog laidAll W) (hsh : W.ShapedOpen Tryz.prog) : Ground W := by
  have h15 := c15_of (laidMet.reads hL (by simp [laidAll, Rows.floatCleansRow]))
  refine ⟨?_, c2_of (laidMet.reads hL (by simp [laidAll, Rows.floatCleansRow])), c8_of (laidMet.reads hL (by simp [laidAll, Rows.floatCleansRow])), c9_of (laidMet.reads hL (by simp [laidAll, Rows.floatCleansRow])), h15,
    c0_of (laidMet.reads hL (by simp [laidAll, Rows.floatCleansRow])), tab_of (laidMet.reads hL (by simp [laidAll, Rows.floatCleansRow])), ?_⟩
  · obtain ⟨tb, to, tc, _, h, _⟩ := h15
    exact block_lt_of_cell h
  · exact Tryz.laysCutM.s1_3 W hsh

/-- As the kit's, with the world's shape handed on. -/
theorem returns_and_shaped {H : Type} {enc : TypeId × Value → H} {a : Assume} {C : Checked} {os : Os} {f : FuncId} {fn : Func} {s : ChangeSpec} {conds : List PathCond} {apart fresh handsOn again : Bool} {X : World → Array Value → Prop}
    (hX : ∀ (w w' : World) (args : Array Value), w.heap = w'.heap → X w args → X w' args)
    (own : ownKnob C.prog.godebug = none) (started : os.Started) (noInit : C.prog.inits.idxOf? f = none) (hfn : C.prog.funcs[f]? = some fn)
    (witness : ∃ (w : World) (tape : Tape) (i : Input), w.os = os ∧ (w.forCall tape i).Shaped C.prog ∧ i.vars = [] ∧ Input.okWide C.prog (w.forCall tape i) .any w.heap.size f i ∧
      ((s.pre enc C.prog fn conds apart (w.forCall tape i).memory i.args ∧ X (w.forCall tape i).memory i.args) ∧ sizedMet enc C.prog fn (OpenSpec.ofChange s) apart (w.forCall tape i).memory i.args) ∧ a.holds C.prog (lone (Frame.enter C.prog f i.args .normal) [] (w.forCall tape i)))
    (contract : ∀ (W : World) (base : Nat) (args : Array Value) (ds gs : List (DataW H)) (before : List MemPlace),
      (∀ (j : Nat) t v, fn.params[j]? = some t → args[j]? = some v → Value.okWide C.prog W .any base t v) →
      DataW.Whole enc C.prog fn.params.toList s.vars apart W args.toList ds gs before →
      X W args → W.ShapedOpen C.prog →
      Calls C.prog f args W fun e W' => ∃ v, e = .returned v ∧ s.post enc C.prog fn apart fresh handsOn again W args v W') :
    ReturnsInHanded a C os f .any (fun w args => (s.pre enc C.prog fn conds apart w args ∧ X w args) ∧ sizedMet enc C.prog fn (OpenSpec.ofChange s) apart w args) (s.post enc C.prog fn apart fresh handsOn again) := by
  refine returnsInHanded_of_calls own started noInit witness ?_
  intro w tape i _ hsh _ hok hpre hholds
  obtain ⟨_, _, _, fn', hfn', _, _, _, _, hval⟩ := hok
  have e : fn' = fn := Option.some.inj (hfn'.symm.trans hfn)
  subst e
  obtain ⟨⟨⟨ds, gs, before, hw, hc⟩, hx⟩, hz⟩ := hpre
  have hw' := DataW.Whole.of_heap (w' := w.forCall tape i) (by rfl) hw
  refine (contract (w.forCall tape i) w.heap.size i.args ds gs before hval hw' (hX _ _ _ (by rfl) hx) hsh).mono fun e W' ⟨v, he, hp⟩ => ?_
  subst he
  exact ChangeSpec.post_blind hp
end Go.Proofs.YtmeimofnmpmaoaaGreatDoor
