/- The contracts of moved and of the library's Clone of changes; a cell of an own row that is written. Conditions: those of each theorem. -/
import Derived.Test.YtkipcblbadkjnaaYc
import Derived.Laws.AppendOwnNone
namespace Go.Proofs.Ytkipcblbadkjnaa
open Go.RowKit
open Go.Maps (Keyed)

set_option maxRecDepth 100000 in
set_option maxHeartbeats 2000000 in
theorem moved_nil (v : Value) (w : World) :
    Calls Try.prog 58 #[.map none, v] w fun e w' => e = .returned (.map (some w.heap.size)) ∧ Mp w' w.heap.size 0 (fun _ => none) ∧ Below w.heap.size w w' := by
  have hlen : ∀ ty, (Builtin.len_ #[64] ty #[.map none]).run Try.prog w = .ok (.int .i64 0) w := fun ty => Maps.len_nil Try.underlying64 ty
  have hmk := run_makeMap64 w 0
  have hrn := run_range_nilMap (P := Try.prog) (w.alloc (.map #[] 0)) 64 9 76 Try.underlying64
  have hnx := fun ty => run_next_nilMap (P := Try.prog) (w.alloc (.map #[] 0)) ty 0 0 #[]
  simp only [World.size_alloc] at hrn hnx
  simp only [Int.cast_ofNat_Int] at hmk
  go_enter Try.func58, Try.ntmps58
  go_wp2
  go_loopw [6, 7] (fun _ _ wr => wr = ((w.alloc (.map #[] 0)).alloc (.mapIter none 0 #[] 0))) (fun _ _ _ => 0)
  case atStart => rfl
  case round =>
    subst hrel
    go_wp2
    go_ret
    exact ⟨rfl, (Mp.made w).kept (Below.heap_alloc _ _ _ (by simp)), ((Below.refl _ _).alloc (Nat.le_refl _) _).alloc (by simp) _⟩

theorem moved_any {x : X} {b B mb n Bc pn : Nat} {o : Option Nat} {pm : ByteArray → Option Nat} {d : Nat → Option Nat} {w : World} (hx : FW w b x) (hfoot : ∀ k, foot b x k → k < B) (hC : Cs x B mb n d w) (hB : B ≤ w.heap.size) (hBc : w.cell? ⟨Bc, 0, none⟩ = some (.map (some mb)))
    (hM : Mo w o pn pm) (hpk : ∀ s g, pm s = some g → x.K g) (hne : ∀ k, o = some k → k ≠ mb) (hn : n + pn ≤ 90000000) :
    Calls Try.prog 58 #[.map o, .func (.func 70) #[] #[.pointer (some ⟨Bc, 0, none⟩)]] w fun e w' => ∃ q n2 d2, e = .returned (.map (some q)) ∧ w.heap.size ≤ q ∧ (∀ i j, d i = some j → d2 i = some j) ∧ n2 ≤ n + pn ∧ Cs x B mb n2 d2 w' ∧ (∀ s g, pm s = some g → ∃ h, d2 g = some h) ∧ Mp w' q pn (fun s => (pm s).bind d2) ∧ Kp (fun k => k = mb) w w' := by
  cases o with
  | some pb => exact moved_some hx hfoot hC hB hBc hM hpk (hne pb rfl) hn
  | none =>
    have e : pm = fun _ => none := hM
    subst e
    refine (moved_nil _ w).mono ?_
    rintro e w' ⟨rfl, h1, h2⟩
    exact ⟨_, n, d, rfl, Nat.le_refl _, (fun _ _ e => e), (by omega), hC.below h2, (fun s g e => (by cases e)), h1.mono (Nat.zero_le _), Kp.of_below h2⟩

theorem own_empty95 (w : World) (base : Nat) (hb : base ≤ w.heap.size) : (w.alloc (.cells #[] 95)).ownsRow base 95 3 (.slice (some ⟨w.heap.size, 0, none⟩) 0 0) 0 (ccs []) :=
  World.ownsRow_made w #[] 0 hb (by decide) rfl
set_option maxRecDepth 100000 in
set_option maxHeartbeats 1600000 in
theorem cclone_any (a : Option Addr) (len cap : Nat) (cs : List Ch) (w : World) (hl : cs.length = len) (hC : RdC w a cs) (hnone : a = none → cap = 0 ∧ len = 0) (hlen : len ≤ 1000000) :
    Calls Try.prog 59 #[.slice a len cap] w fun e w' => ∃ v', e = .returned v' ∧ w'.ownsRow w.heap.size 95 3 v' len (ccs cs) ∧ Below w.heap.size w w' := by
  obtain ⟨i0, hi, hz0, hz1, hz2⟩ := info_parts Try.info95
  have HL : Hid (cs.length = len) := hl
  have HC : Hid (RdC w a cs) := hC
  clear hl hC
  cases a with
  | none =>
    obtain ⟨rfl, rfl⟩ := hnone rfl
    have hnil : ∀ W, (binOp .eql 65 (.slice none 0 0) (.slice none 0 0)).run Try.prog W = .ok (.bool true) W := fun W => run_eql_nil_slice W _ _ none 0 0 0 0 Try.underlying65
    go_enter Try.func59, Try.ntmps59
    go_wp2
    go_ret
    refine ⟨_, rfl, ?_, Below.refl _ _⟩
    have : cs = [] := List.eq_nil_of_length_eq_zero HL.out
    subst this
    exact World.ownsRow_nil _ _ _ _
  | some ad =>
    have hnil : ∀ W, (binOp .eql 65 (.slice (some ad) len cap) (.slice none 0 0)).run Try.prog W = .ok (.bool false) W := fun W => by
      simp only [binOp]
      simp [Op.equal, Op.maxDepth, Lib.run_equalIn_slice_nil W 9999 65 95 (some ad) len cap 0 0 Try.underlying65]
    have hb1 : Below w.heap.size w (w.alloc (.cells #[] 95)) := (Below.refl _ _).alloc (Nat.le_refl _) _
    have HN : Hid (∀ j u, (ccs cs)[j]? = some u → (w.alloc (.cells #[] 95)).cell? (ad.add j) = some u) := rdC_news (HC.out.kp (P := fun _ => False) (Kp.of_below hb1) (fun _ _ e => e)) ad rfl
    go_enter Try.func59, Try.ntmps59
    go_wp2_with (at_builtin; refine wpList_append_own _ rfl (.tmp 5) (.tmp 6) 65 rfl w.heap.size 95 i0 _ 3 40 Try.underlying65 hi hz0 hz1 hz2 rfl (by decide) _ 0 _ rfl (own_empty95 w _ (Nat.le_refl _)) ad len cap (ccs cs) rfl (by rw [ccs_len, HL.out]) HN.out (ccs_one _) (by unfold maxLen; omega) (by omega) (by simp) ?_; intro v' w1 hown' hgrow _)
    go_ret
    refine ⟨v', rfl, ?_, ?_⟩
    · rw [Nat.zero_add] at hown'; exact hown'
    · exact ((Below.refl w.heap.size w).alloc (Nat.le_refl _) _).grown hgrow (by simp) (fun j hj => ((own_empty95 w _ (Nat.le_refl _)).lt j hj).1)

/-- A cell of a row of one's own is written. -/
theorem own_set {w : World} {base : Nat} {e : TypeId} {size : Nat} {g n cap j : Nat} {xs : List Value} {u : Value} (h : w.ownsRow base e size (.slice (some ⟨g, 0, none⟩) n cap) n xs) :
    (w.setCell ⟨g, j, none⟩ u).ownsRow base e size (.slice (some ⟨g, 0, none⟩) n cap) n (xs.set j u) := by
  refine ⟨by rw [List.length_set]; exact h.1, ?_⟩
  rcases h.2 with ⟨h0, _⟩ | ⟨g', cap', cur, h1, h2, h3, h4, h5, h6, h7⟩
  · cases h0
  · cases h1
    refine .inr ⟨g, cap, cur.setIfInBounds j u, rfl, h2, ?_, h4, h5, by rw [Array.size_setIfInBounds]; exact h6, ?_⟩
    · simp [World.setCell, Array.getElem?_modify, h3]
    · rw [Array.toList_setIfInBounds, ← h7, List.take_set]
end Go.Proofs.Ytkipcblbadkjnaa
