/- held of a nil map of paths; the contract of Used. Conditions: those of each theorem. -/
import Derived.Test.YtkipcblbadkjnaaP
import Derived.Laws.IdiomRangeMap
namespace Go.Proofs.Ytkipcblbadkjnaa
open Go.RowKit Go.Shelf
open Go.Maps (Keyed)
attribute [local go_sem] Oper.semAt_some

set_option maxRecDepth 100000 in
set_option maxHeartbeats 2000000 in
theorem held_nil (n l Bf b pn : Nat) (K : Nat → Prop) (J Jx : List { g : Nat // K g } → World → Prop) (W : World) (hJ : AbidesFrom W.heap.size J)
    (hBf : W.cell? ⟨Bf, 0, none⟩ = some (.pointer (some ⟨b, 0, none⟩))) (hb : W.cell? ⟨b, 2, none⟩ = some (.map none)) (h0 : J [] W) :
    CallsIn Fence.wide n Try.prog 64 #[.func (.yield l) #[] #[], .pointer (some ⟨Bf, 0, none⟩)] W fun e W' => (∃ v, e = .returned v) ∧
      ((∃ ys, Held (fun _ => none) pn ys ∧ J ys W') ∨ (∃ pre : List { g : Nat // K g }, True ∧ Jx pre W')) := by
  have hlen : ∀ ty, (Builtin.len_ #[64] ty #[.map none]).run Try.prog W = .ok (.int .i64 0) W := fun ty => Maps.len_nil Try.underlying64 ty
  have hmk := run_makeMap_hint W 0
  have hBf1 : (W.alloc (.map #[] 0)).cell? ⟨Bf, 0, none⟩ = some (.pointer (some ⟨b, 0, none⟩)) := cell_grown (World.grownBy_alloc W _ none) (by simp) hBf
  have hb1 : (W.alloc (.map #[] 0)).cell? ⟨b, 2, none⟩ = some (.map none) := cell_grown (World.grownBy_alloc W _ none) (by simp) hb
  have hrn := run_range_nilMap (P := Try.prog) (W.alloc (.map #[] 0)) 64 9 76 Try.underlying64
  have hnx := fun ty => run_next_nilMap (P := Try.prog) (W.alloc (.map #[] 0)) ty 0 0 #[]
  simp only [World.size_alloc] at hrn hnx
  simp only [Int.cast_ofNat_Int] at hmk
  have HE : Hid (J [] ((W.alloc (.map #[] 0)).alloc (.mapIter none 0 #[] 0))) := hJ _ _ _ none (hJ _ _ _ none h0 (World.grownBy_alloc W _ none) (by simp)) (World.grownBy_alloc _ _ none) (by simp)
  clear hJ h0
  refine callsIn_of_wp Try.func64 rfl trivial ?_ rfl
  simp only [Try.ntmps64, List.size_toArray, List.length_cons, List.length_nil, Nat.reduceAdd, Nat.reduceSub, Array.replicate_succ, Array.replicate_zero, List.push_toArray, List.append_toArray, List.nil_append, List.cons_append]
  gi_wp2
  gi_loopw [5] (fun _ wr => wr = ((W.alloc (.map #[] 0)).alloc (.mapIter none 0 #[] 0))) (fun _ _ => 0)
  case atStart => rfl
  case round =>
    subst hrel
    gi_wp2
    go_end0
    exact ⟨⟨_, rfl⟩, .inl ⟨[], ⟨List.nodup_nil, fun g => by simp, Nat.zero_le _⟩, HE.out⟩⟩
theorem held_stops (n Bf b : Nat) (x : X) (w : World) (h : FW w b x) (hBf : w.cell? ⟨Bf, 0, none⟩ = some (.pointer (some ⟨b, 0, none⟩))) (hlt : Bf < w.heap.size) :
    SeqStopsK (α := { g : Nat // x.K g }) Fence.wide n Try.prog 64 #[.pointer (some ⟨Bf, 0, none⟩)] encH (Kh x.K) (Held x.pm x.pn) (fun _ => True) x.pn w := fun l J Jx W hW hJ _ hY h0 => by
  have h1 := h.below hW
  have hB := (hW.cell (p := ⟨Bf, 0, none⟩) hlt).trans hBf
  have hp := h1.pw
  have hc := h1.fc.c2
  cases hpb : x.pb with
  | none =>
    rw [hpb] at hp hc
    have e : x.pm = fun _ => none := hp
    rw [e]
    exact held_nil n l Bf b x.pn x.K J Jx W hJ hB hc h0
  | some pb =>
    rw [hpb] at hp hc
    have b1 := h1.b1
    have b5 := h1.b5
    exact held_in n l Bf b pb x.pn x.pm x.K x.num J Jx W hJ hY hB hc hp (by omega) h1.pk (fun g hg => (h1.cells hg).1) h1.fl.num1 (fun g hg => by have := h1.fl.nle g hg; have := h1.b3; omega) h0

/-- How many bytes these files have. -/
def lens {K : Nat → Prop} (bs : Nat → List Int) (ys : List { g : Nat // K g }) : Int := (ys.map fun g => ((bs g.1).length : Int)).sum
theorem lens_snoc {K : Nat → Prop} (bs : Nat → List Int) (ys : List { g : Nat // K g }) (g : { g : Nat // K g }) : lens bs (ys ++ [g]) = lens bs ys + (bs g.1).length := by simp [lens]
theorem lens_bd {K : Nat → Prop} {bs : Nat → List Int} (hb : ∀ g, K g → (bs g).length ≤ 1048576) : ∀ ys : List { g : Nat // K g }, 0 ≤ lens bs ys ∧ lens bs ys ≤ (ys.length : Int) * 1048576
  | [] => by simp [lens]
  | g :: r => by
    have h1 := lens_bd hb r
    have h2 := hb g.1 g.2
    have e : lens bs (g :: r) = (bs g.1).length + lens bs r := by simp [lens]
    rw [e]
    simp only [List.length_cons]
    omega
/-- What Used holds between two rounds. -/
structure Us (b : Nat) (x : X) (w : World) (ys : List { g : Nat // x.K g }) (W : World) : Prop where
  box : Boxed W w.heap.size 3 (.int .i64 (lens x.bs ys))
  fw : FW W b x
  bel : Below w.heap.size w W
theorem Us.own {b : Nat} {x : X} {w : World} {B : Nat} (h0 : FW w b x) (hB : w.heap.size < B) : OwnFrom B (Us b x w) := by
  intro ys W W' row h hg hrow
  refine ⟨h.box.kept hg (fun e => ?_), h.fw.kp (Q := fun k => row = some k) (Kp.grown hg (fun k e => e)) (fun k hf e => ?_), h.bel.grown hg (by have := h.bel.size; omega) (fun r e => by have := (hrow r e).1; omega)⟩
  · have := (hrow _ e.symm).1; omega
  · have := (hrow k e).1
    have := h0.lt hf
    omega
theorem Us.alloc {b : Nat} {x : X} {w W : World} {ys : List { g : Nat // x.K g }} (h : Us b x w ys W) (o : Obj) : Us b x w ys (W.alloc o) :=
  ⟨h.box.alloc o, h.fw.below ((Below.refl _ _).alloc (Nat.le_refl _) _), h.bel.alloc h.bel.size _⟩
theorem Us.drewN {b : Nat} {x : X} {w W : World} {ys : List { g : Nat // x.K g }} (h : Us b x w ys W) (q : Nat) : Us b x w ys (W.drewN q) :=
  ⟨h.box, h.fw.kp (Q := fun _ => False) ⟨rfl, rfl, rfl, Nat.le_refl _, fun _ _ _ => rfl⟩ (fun _ _ h => h), ⟨h.bel.os, h.bel.tape, h.bel.output, h.bel.size, h.bel.block⟩⟩
theorem Us.drew {b : Nat} {x : X} {w W : World} {ys : List { g : Nat // x.K g }} (h : Us b x w ys W) : Us b x w ys W.drew := h.drewN 1
theorem Us.add {b : Nat} {x : X} {w W : World} {ys : List { g : Nat // x.K g }} (h : Us b x w ys W) (h0 : FW w b x) (g : { g : Nat // x.K g }) : Us b x w (ys ++ [g]) (W.setCell ⟨w.heap.size, 0, none⟩ (.int .i64 (lens x.bs ys + (x.bs g.1).length))) := by
  refine ⟨?_, h.fw.kp (kp_set W w.heap.size 0 _) (fun k hf e => ?_), ?_⟩
  · rw [lens_snoc]; exact h.box.set _
  · have := h0.lt hf; omega
  · exact h.bel.setCell (p := ⟨w.heap.size, 0, none⟩) (Nat.le_refl _) _
theorem Kh.drew {K : Nat → Prop} {W W' : World} (h : Kh K W W') : Kh K W W'.drew := ⟨⟨h.walks.size, h.walks.same⟩, h.nums⟩
theorem Us.kh {b : Nat} {x : X} {w W : World} (h0 : FW w b x) (v : Value) : Kh x.K W (W.setCell ⟨w.heap.size, 0, none⟩ v) :=
  ⟨KeepsWalks.setCell _ _ _, fun g hg => World.cell?_of_block (w := W) (Below.heap_setCell _ _ _ _ (by have := tg_lt (h0.tf hg); show g ≠ w.heap.size; omega))⟩

set_option linter.unusedSimpArgs false in
set_option maxRecDepth 100000 in
set_option maxHeartbeats 4000000 in
theorem used_in (b : Nat) (x : X) (w : World) (h : FW w b x) :
    CallsIn Fence.wide 9 Try.prog 17 #[.pointer (some ⟨b, 0, none⟩)] w fun e W' => ∃ ys : List { g : Nat // x.K g }, Held x.pm x.pn ys ∧ e = .returned (.int .i64 (lens x.bs ys)) ∧ Below w.heap.size w W' := by
  have H : Hid (FW w b x) := h
  clear h
  refine callsIn_of_wp_marks Try.func17 rfl trivial ?_ rfl
  simp only [Try.ntmps17, List.size_toArray, List.length_cons, List.length_nil, Nat.reduceAdd, Nat.reduceSub, Array.replicate_succ, Array.replicate_zero, List.push_toArray, List.append_toArray, List.nil_append, List.cons_append]
  gi_wp2_with (refine ⟨trivial, ?_⟩; gi_at_call 48; refine (callsIn_wide.2 (held_any _ _)).mono ?_; rintro e w3 ⟨rfl, rfl⟩)
  have hal : Below w.heap.size w ((w.alloc (.cells #[.int .i64 0] 3)).alloc (.cells #[.pointer (some ⟨b, 0, none⟩)] 24)) := ((Below.refl _ _).alloc (Nat.le_refl _) _).alloc (by simp) _
  have hsz : ((w.alloc (.cells #[.int .i64 0] 3)).alloc (.cells #[.pointer (some ⟨b, 0, none⟩)] 24)).heap.size = w.heap.size + 2 := by simp
  have hus : Us b x w [] ((w.alloc (.cells #[.int .i64 0] 3)).alloc (.cells #[.pointer (some ⟨b, 0, none⟩)] 24)) := ⟨(Boxed.new w 3 (.int .i64 0)).alloc _, H.out.below hal, hal⟩
  have hbf : Boxed ((w.alloc (.cells #[.int .i64 0] 3)).alloc (.cells #[.pointer (some ⟨b, 0, none⟩)] 24)) (w.heap.size + 1) 24 (.pointer (some ⟨b, 0, none⟩)) := by
    have := Boxed.new (w.alloc (.cells #[.int .i64 0] 3)) 24 (.pointer (some ⟨b, 0, none⟩))
    rwa [World.size_alloc] at this
  obtain ⟨W0, hW0⟩ : ∃ W0, W0 = ((w.alloc (.cells #[.int .i64 0] 3)).alloc (.cells #[.pointer (some ⟨b, 0, none⟩)] 24)) := ⟨_, rfl⟩
  rw [← hW0] at hal hsz hus hbf ⊢
  clear hW0
  refine wpIn_rangeFunc_ownG_of_H rfl (by decide) (gf := 64) (lb := #[.pointer (some ⟨w.heap.size + 1, 0, none⟩)]) rfl trivial (enters_of Try.func64 (by kernel_rfl) rfl)
    (held_stops 8 (w.heap.size + 1) b x W0 hus.fw hbf.cell hbf.lt) Kh.trans
    (fun W l o o' hl hk _ hw => ⟨KeepsWalks.putObj o' hk hw, fun g hg => World.cell?_of_block (w := W) (World.putObj_heap_other (by have := tg_lt (H.out.tf hg); show g ≠ l; omega))⟩)
    (Below.refl _ _) (fun _ => rfl) (Us b x w) (fun _ _ _ => False) (Us.own H.out (by omega)) (fun _ _ _ _ _ h _ _ => h) hus
    (fun g => { tmps := #[.pointer (some ⟨b, 0, none⟩), undef, .int .i64 0, .pointer (some ⟨w.heap.size, 0, none⟩), .pointer (some ⟨g.1, 0, none⟩), .pointer (some ⟨b, 0, none⟩), .bool false, .pointer (some ⟨b, 0, none⟩), .func (.func 64) #[] #[.pointer (some ⟨w.heap.size + 1, 0, none⟩)], .pointer (some ⟨g.1, 0, none⟩), undef, undef, undef, undef, undef, undef, undef, undef], defers := [] })
    ?assign ?body ?done ?stop (fun W => ⟨KeepsWalks.refl _, fun _ _ => rfl⟩)
  case assign =>
    intro l g W K hK
    dsimp only [encH]
    gi_wp2
    exact hK
  case body =>
    intro l pre g W hU hlt
    have cB := hU.box.cell
    have fB := hU.box.frozen
    obtain ⟨_, d1, _, _⟩ := hU.fw.cells g.2
    obtain ⟨ra, rc, hrv, _, _⟩ := own_rd (hU.fw.fl.fr g.1 g.2)
    rw [hrv] at d1
    have b5 := hU.fw.b5
    have b1 := hU.fw.b1
    have hbd := lens_bd (fun g hg => (hU.fw.fl.st0 g hg).2.2) pre
    have hb2 := (hU.fw.fl.st0 g.1 g.2).2.2
    have hwr : IntKind.i64.wrap (lens x.bs pre + (x.bs g.1).length) = lens x.bs pre + (x.bs g.1).length := by
      rw [IntKind.wrap_i64]; omega
    have HU : Hid (Us b x w pre W) := hU
    clear hU hrv
    gi_wp2_with fail
    have hmix : Try.prog.follows .mixedOrders = true := by kernel_rfl
    gi_region_o
    all_goals gi_wp2
    all_goals
      exact ⟨((KeepsOthers.setCell W _ _).trans (KeepsOthers.drew _)).from _, (Us.kh H.out _).drew, (HU.out.add H.out g).drew⟩
  case done =>
    intro D ys W hD hH hU hK
    have cB := hU.box.cell
    have HU : Hid (Us b x w ys W) := hU
    have HH : Hid (Held x.pm x.pn ys) := hH
    have HD : Hid (W.heap[D]? = some (.deferred (some []))) := hK
    clear hU hH hK
    gi_wp2_with fail
    refine ⟨by simp, .inl ⟨_, _, rfl, run_takeDeferred HD.out, ?_⟩⟩
    refine ⟨.int .i64 (lens x.bs ys), ?_, ys, HH.out, rfl, ?_⟩
    · simp [results, Try.results17, go_sem]
    · exact HU.out.bel.grown (grownBy_putObj' W D _) (by have := HU.out.bel.size; omega) (fun k e => by cases e; omega)
  case stop =>
    intro D c pre W hD _ hF _
    exact hF.elim
theorem used_any (b : Nat) (x : X) (w : World) (h : FW w b x) :
    Calls Try.prog 17 #[.pointer (some ⟨b, 0, none⟩)] w fun e W' => ∃ ys : List { g : Nat // x.K g }, Held x.pm x.pn ys ∧ e = .returned (.int .i64 (lens x.bs ys)) ∧ Below w.heap.size w W' :=
  (callsIn_wide (n := 9)).1 (used_in b x w h)
theorem sum_perm {l k : List Int} (h : l.Perm k) : l.sum = k.sum := by
  induction h with
  | nil => rfl
  | cons _ _ ih => simp [ih]
  | swap a b _ => simp; omega
  | trans _ _ h1 h2 => exact h1.trans h2
/-- The bytes of all files that have a path. -/
theorem lens_perm {K : Nat → Prop} (bs : Nat → List Int) {pm : ByteArray → Option Nat} {n m : Nat} {ys zs : List { g : Nat // K g }} (h : Held pm n ys) (k : Held pm m zs) : lens bs ys = lens bs zs := by
  have hp : ys.Perm zs := (List.perm_ext_iff_of_nodup h.1 k.1).2 (fun g => (h.2.1 g).trans (k.2.1 g).symm)
  unfold lens
  exact sum_perm (hp.map _)
end Go.Proofs.Ytkipcblbadkjnaa
