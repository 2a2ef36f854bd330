/- Where an item's block stands: the contracts of place and of what it calls. Conditions: sizes. -/
import Derived.Test.YtocjmbhfpofoeaaDoorGi
namespace Go.Proofs.YtocjmbhfpofoeaaDoor
open Go.RowKit

theorem IsH.at {w : World} {a : Option Addr} {len cap : Nat} {H : List (Nat × List Int)} (h : IsH w a len cap H) {k : Nat} (hk : k < len) : ∃ g off, a = some ⟨g, off, none⟩ ∧ g < w.heap.size ∧ ∃ ai ni ci, w.cell? ⟨g, off + k * 2 + 1, none⟩ = some (.slice ai ni ci) ∧ IsI .u8 w ai ni ci (H.getD k (0, [])).2 := by
  have hl := h.hl
  rcases h.rd with e | ⟨b, off, e1, e2, e3⟩
  · rw [e] at hl; simp at hl; omega
  · obtain ⟨_, ai, ni, ci, d1, d2⟩ := e3 k (by omega)
    exact ⟨b, off, e1, e2, ai, ni, ci, d1, d2⟩

set_option maxRecDepth 20000 in
set_option maxHeartbeats 1600000 in
/-- The closure: is the block's first item behind the item? -/
theorem behind_any (B1 B2 p : Nat) (ah : Option Addr) (mh ch' : Nat) (H : List (Nat × List Int)) (hwf : WfH H) (ax : Option Addr) (nx cx : Nat) (x : List Int) (k : Nat) (w : World) (hk : k < mh) (hIH : IsH w ah mh ch' H) (hX : IsI .u8 w ax nx cx x) (hbx : Bytes x)
    (h1 : w.cell? ⟨B1, 0, none⟩ = some (.pointer (some ⟨p, 0, none⟩))) (h2 : w.cell? ⟨B2, 0, none⟩ = some (.slice ax nx cx)) (hp : w.cell? ⟨p, 0, none⟩ = some (.slice ah mh ch')) :
    Calls Tryd.prog 69 #[.int .i64 (k : Int), .pointer (some ⟨B1, 0, none⟩), .pointer (some ⟨B2, 0, none⟩)] w fun e w' => e = .returned (.bool (li x (H.getD k (0, [])).2)) ∧ w' = w.drew := by
  have hl := hIH.hl
  have hbF : Bytes (H.getD k (0, [])).2 := (hwf _ (getD_memH (by omega))).2.1
  obtain ⟨g, off, rfl, hg, af, nf, cf, c1, hF⟩ := hIH.at hk
  obtain ⟨F, hFe⟩ : ∃ F, Hid (F = (H.getD k (0, [])).2) := ⟨_, rfl⟩
  rw [← hFe.out] at hbF hF ⊢
  have HC0 : ∀ W, Below w.heap.size w W → Calls Tryd.prog 67 #[.slice af nf cf, .slice ax nx cx] W fun e w' => e = .returned (.int .i64 (ci F x)) ∧ w' = W := fun W hd => compare_any af ax nf cf nx cx F x W hbF hbx (hF.below hd) (hX.below hd)
  have HC : Hid _ := HC0
  clear HC0
  obtain ⟨z, hz⟩ : ∃ z, Hid (z = ci F x) := ⟨_, rfl⟩
  rw [← hz.out] at HC
  obtain ⟨b, hb⟩ : ∃ b, Hid (b = li x F) := ⟨_, rfl⟩
  rw [← hb.out]
  have hdd : decide (0 < z) = b := by
    rw [hz.out, hb.out]
    have h1 := ci_turn x F
    have h2 := ci_neg (a := x) (b := F)
    cases h : li x F with
    | true => have := h2.2 h; simp; omega
    | false => have : ¬ ci x F < 0 := fun h' => by rw [h2.1 h'] at h; cases h
               simp; omega
  have hk0 : (0 : Int) ≤ (k : Int) := Int.natCast_nonneg _
  have hk1 : (k : Int) < (mh : Int) := by omega
  clear hIH hX hbx hbF hF hFe hz hb hwf hl
  go_enter Tryd.func69, Tryd.ntmps69
  go_wp2_with fail
  go_region_held3 (fun u => u.cell? ⟨B1, 0, none⟩ = some (.pointer (some ⟨p, 0, none⟩)) ∧ u.cell? ⟨p, 0, none⟩ = some (.slice (some ⟨g, off, none⟩) mh ch') ∧ u.cell? ⟨g, off + k * 2 + 1, none⟩ = some (.slice af nf cf) ∧ u.cell? ⟨B2, 0, none⟩ = some (.slice ax nx cx))
    (first
      | exact ⟨h1, hp, c1, h2⟩)
    (first
      | (go_at_call 67; refine (HC.out _ (by first | exact (Below.refl _ _).drew | exact Below.refl _ _)).mono ?_; rintro e w' ⟨rfl, rfl⟩))
  go_wp2_with fail
  go_ret
  exact ⟨rfl, rfl⟩

/-- A place found: no first item ahead of it is behind the item, and the one there is. -/
def Plc (H : List (Nat × List Int)) (x : List Int) (r : Nat) : Prop := r ≤ H.length ∧ (r = 0 ∨ li x (H.getD (r - 1) (0, [])).2 = false) ∧ (r = H.length ∨ li x (H.getD r (0, [])).2 = true)

set_option maxRecDepth 20000 in
set_option maxHeartbeats 1600000 in
theorem search_any (B1 B2 p : Nat) (ah : Option Addr) (mh ch' : Nat) (H : List (Nat × List Int)) (hwf : WfH H) (ax : Option Addr) (nx cx : Nat) (x : List Int) (w : World) (hm : mh ≤ 2000) (hIH : IsH w ah mh ch' H) (hX : IsI .u8 w ax nx cx x) (hbx : Bytes x)
    (h1 : w.cell? ⟨B1, 0, none⟩ = some (.pointer (some ⟨p, 0, none⟩))) (h2 : w.cell? ⟨B2, 0, none⟩ = some (.slice ax nx cx)) (hp : w.cell? ⟨p, 0, none⟩ = some (.slice ah mh ch')) :
    Calls Tryd.prog 68 #[.int .i64 (mh : Int), .func (.func 69) #[] #[.pointer (some ⟨B1, 0, none⟩), .pointer (some ⟨B2, 0, none⟩)]] w fun e w' => (∃ r : Nat, e = .returned (.int .i64 (r : Int)) ∧ Plc H x r) ∧ ∃ q, w' = w.drewN q := by
  have hl := hIH.hl
  have HB : Hid (∀ k q, k < mh → Calls Tryd.prog 69 #[.int .i64 (k : Int), .pointer (some ⟨B1, 0, none⟩), .pointer (some ⟨B2, 0, none⟩)] (w.drewN q) fun e w' => e = .returned (.bool (li x (H.getD k (0, [])).2)) ∧ w' = w.drewN (q + 1)) := fun k q hk => by
    have hb := below_dr w q
    exact behind_any B1 B2 p ah mh ch' H hwf ax nx cx x k (w.drewN q) hk (hIH.below hb) (hX.below hb) hbx ((hb.cell (p := ⟨B1, 0, none⟩) (World.block_lt_of_cell? w _ h1)).trans h1) ((hb.cell (p := ⟨B2, 0, none⟩) (World.block_lt_of_cell? w _ h2)).trans h2) ((hb.cell (p := ⟨p, 0, none⟩) (World.block_lt_of_cell? w _ hp)).trans hp)
  have HL : Hid (H.length = mh) := hl
  clear hIH hX hbx h1 h2 hp hl hwf
  go_enter Tryd.func68, Tryd.ntmps68
  go_wp2_with fail
  go_loopw [5, 6, 7] (fun f t _ wr => ∃ i j q : Nat, f = .int .i64 (i : Int) ∧ t = .int .i64 (j : Int) ∧ i ≤ j ∧ j ≤ mh ∧ Hid ((i = 0 ∨ li x (H.getD (i - 1) (0, [])).2 = false) ∧ (j = mh ∨ li x (H.getD j (0, [])).2 = true)) ∧ Hid (wr = w.drewN q)) (fun f t _ _ => (intOf t).toNat - (intOf f).toNat)
  case atStart => exact ⟨0, mh, 0, rfl, rfl, Nat.zero_le _, Nat.le_refl _, ⟨.inl rfl, .inl rfl⟩, rfl⟩
  case round =>
    obtain ⟨i, j, q, rfl, rfl, hij, hj, HA, HW⟩ := hrel
    rw [HW.out]
    by_cases hlt : i < j
    · have hlt' : (i : Int) < (j : Int) := by omega
      obtain ⟨m, hm'⟩ : ∃ m : Nat, Hid (m = (i + j) / 2) := ⟨_, rfl⟩
      obtain ⟨s, hs⟩ : ∃ s : Nat, Hid (s = i + j) := ⟨_, rfl⟩
      have hmi : i ≤ m := by have := hm'.out; omega
      have hmj : m < j := by have := hm'.out; omega
      have hsl : s ≤ 4000 := by have := hs.out; omega
      have e1 : (i : Int) + (j : Int) = (s : Int) := by have := hs.out; omega
      have e2 : IntKind.u64.wrap (s : Int) = (s : Int) := by rw [IntKind.wrap_u64]; omega
      have e3 : (s : Int) / 2 = (m : Int) := by have := hs.out; have := hm'.out; omega
      have e4 : IntKind.i64.wrap (m : Int) = (m : Int) := by rw [IntKind.wrap_i64]; omega
      have HC : Hid _ := HB.out m q (by omega)
      obtain ⟨r, hr⟩ : ∃ r, Hid (r = li x (H.getD m (0, [])).2) := ⟨_, rfl⟩
      rw [← hr.out] at HC
      cases r with
      | true =>
        go_wp2_with fail
        refine Calls.mono HC.out ?_
        rintro e w' ⟨rfl, hw'⟩; rw [hw']; clear hw' w'
        go_wp2_with fail
        go_roundw
        case rel => exact ⟨i, m, q + 1, rfl, rfl, by omega, by omega, ⟨HA.out.1, .inr hr.out.symm⟩, rfl⟩
        case measure => simp [intOf]; omega
      | false =>
        go_wp2_with fail
        refine Calls.mono HC.out ?_
        rintro e w' ⟨rfl, hw'⟩; rw [hw']; clear hw' w'
        go_wp2_with fail
        go_roundw
        case rel => exact ⟨m + 1, j, q + 1, by go_num, rfl, by omega, by omega, ⟨.inr (by rw [Nat.add_sub_cancel]; exact hr.out.symm), HA.out.2⟩, rfl⟩
        case measure => simp [intOf]; omega
    · have hlt' : ¬ (i : Int) < (j : Int) := by omega
      obtain rfl : i = j := by omega
      go_wp2_with fail
      go_ret
      exact ⟨⟨i, rfl, by rw [HL.out]; exact hj, HA.out.1, by rw [HL.out]; exact HA.out.2⟩, q, rfl⟩

set_option maxRecDepth 20000 in
set_option maxHeartbeats 1600000 in
theorem place_of (p : Nat) (ah : Option Addr) (mh ch' : Nat) (H : List (Nat × List Int)) (hwf : WfH H) (ax : Option Addr) (nx cx : Nat) (x : List Int) (w : World) (hm : mh ≤ 2000) (hIH : IsH w ah mh ch' H) (hX : IsI .u8 w ax nx cx x) (hbx : Bytes x)
    (hp : w.cell? ⟨p, 0, none⟩ = some (.slice ah mh ch')) :
    Calls Tryd.prog 57 #[.pointer (some ⟨p, 0, none⟩), .slice ax nx cx] w fun e w' => (∃ r : Nat, e = .returned (.int .i64 ((r - 1 : Nat) : Int)) ∧ Plc H x r) ∧ Below w.heap.size w w' := by
  have hmf : ∀ (fn : Fn) (first cap : Array Value) (w : World), (Instr.makeFunc fn first cap).run Tryd.prog w = .ok (.func fn first cap) w := fun _ _ _ _ => rfl
  have hpl : p < w.heap.size := World.block_lt_of_cell? w _ hp
  have hb : Below w.heap.size w ((w.alloc (.cells #[.pointer (some ⟨p, 0, none⟩)] 79)).alloc (.cells #[.slice ax nx cx] 23)) := ((Below.refl _ _).alloc (Nat.le_refl _) _).alloc (by simp) _
  have hp2 : ((w.alloc (.cells #[.pointer (some ⟨p, 0, none⟩)] 79)).alloc (.cells #[.slice ax nx cx] 23)).cell? ⟨p, 0, none⟩ = some (.slice ah mh ch') := (hb.cell (p := ⟨p, 0, none⟩) hpl).trans hp
  have HK : Hid _ := size_count p ah mh ch' _ hp2
  have b1 : Boxed ((w.alloc (.cells #[.pointer (some ⟨p, 0, none⟩)] 79)).alloc (.cells #[.slice ax nx cx] 23)) w.heap.size 79 (.pointer (some ⟨p, 0, none⟩)) := (Boxed.new w 79 _).alloc _
  have b2 : Boxed ((w.alloc (.cells #[.pointer (some ⟨p, 0, none⟩)] 79)).alloc (.cells #[.slice ax nx cx] 23)) (w.heap.size + 1) 23 (.slice ax nx cx) := by
    have := Boxed.new (w.alloc (.cells #[.pointer (some ⟨p, 0, none⟩)] 79)) 23 (.slice ax nx cx)
    rwa [World.size_alloc] at this
  have HS : Hid _ := search_any w.heap.size (w.heap.size + 1) p ah mh ch' H hwf ax nx cx x _ hm (hIH.below hb) (hX.below hb) hbx b1.cell b2.cell hp2
  have HB : Hid (Below w.heap.size w ((w.alloc (.cells #[.pointer (some ⟨p, 0, none⟩)] 79)).alloc (.cells #[.slice ax nx cx] 23))) := hb
  have HL : Hid (H.length = mh) := hIH.hl
  clear hb hp2 b1 b2 hIH hX hbx hwf
  go_enter Tryd.func57, Tryd.ntmps57
  go_wp2_with fail
  refine Calls.mono HK.out ?_
  rintro e w' ⟨rfl, hw'⟩; rw [hw']; clear hw' w'
  go_wp2_with fail
  refine Calls.mono HS.out ?_
  rintro e w' ⟨⟨r, rfl, hpl'⟩, q, hw'⟩
  have hrl : r ≤ 2000 := by have := hpl'.1; rw [HL.out] at this; omega
  have HR : Hid (Plc H x r ∧ w' = ((w.alloc (.cells #[.pointer (some ⟨p, 0, none⟩)] 79)).alloc (.cells #[.slice ax nx cx] 23)).drewN q) := ⟨hpl', hw'⟩
  clear hpl' hw'
  have hmx : ∀ ts ty w', Sem.run Tryd.prog (Builtin.max_ ts ty #[.int .i64 ((r : Int) - 1), .int .i64 0]) w' = .ok (.int .i64 ((r - 1 : Nat) : Int)) w' := by
    intro ts ty w'
    rw [run_max_int2]
    congr 2
    split <;> omega
  have hw0 : IntKind.i64.wrap ((r : Int) - 1) = (r : Int) - 1 := by rw [IntKind.wrap_i64]; omega
  obtain ⟨r1, hr1⟩ : ∃ r1, r1 = r - 1 := ⟨_, rfl⟩
  rw [← hr1] at hmx
  have HR1 : Hid (r1 = r - 1) := hr1
  clear hr1
  go_wp2_with fail
  go_ret
  refine ⟨⟨r, by rw [HR1.out]; rfl, HR.out.1⟩, ?_⟩
  rw [HR.out.2]
  exact below_drN HB.out q
end Go.Proofs.YtocjmbhfpofoeaaDoor
