/- The contract of first: a frame and what lies behind it. Conditions: the table of half bytes; sizes. -/
import Derived.Test.YtocjmbhfpofoeaaDoorFi
import Derived.BigQuiet
import Derived.Deep.QuietTactic
namespace Go.Proofs.YtocjmbhfpofoeaaDoor
open Go.RowKit

theorem Vr.drew {w : World} {F : Nat} {k b r : Value} {x : Int} (h : Vr w F k b r x) : Vr w.drew F k b r x := ⟨h.f, h.e⟩
def zagg : Value := .agg #[.int .i64 0, .slice none 0 0, .slice none 0 0]

set_option maxRecDepth 20000 in
set_option maxHeartbeats 4000000 in
/-- The walk up to the length: Take's error. -/
theorem first_take (g off len cap M : Nat) (kind x : Int) (w : World) (hk0 : 0 ≤ kind) (hk1 : kind ≤ 255) (hlen : 1 ≤ len) (hlc : len ≤ cap) (hcap : cap ≤ maxLen) (hg : g < w.heap.size) (hx : (x == 0) = false)
    (hM : Hid (M + 1 = min len 11)) (hk : w.cell? ⟨g, off, none⟩ = some (.int .u8 kind))
    (HT : Hid (∀ w' a c, (¬ cap = 1 → a = some ⟨g, off + 1, none⟩) → Below w.heap.size w w' → Calls Tryd.prog 75 #[.slice a M c] w' fun e w'' => e = .returned (.tuple #[.int .u64 0, .slice none 0 0, .int .i64 x]) ∧ w'' = w')) :
    Calls Tryd.prog 63 #[.slice (some ⟨g, off, none⟩) len cap] w fun e w' => e = .returned (.tuple #[zagg, .int .i64 x]) ∧ Below w.heap.size w w' := by
  have hmf : ∀ (fn : Fn) (first cap : Array Value) (w : World), (Instr.makeFunc fn first cap).run Tryd.prog w = .ok (.func fn first cap) w := fun _ _ _ _ => rfl
  have hM1 : M + 1 ≤ len := by have := hM.out; omega
  have hmin : ∀ ts t w', Sem.run Tryd.prog (Builtin.min_ ts t #[.int .i64 (len : Int), .int .i64 11]) w' = .ok (.int .i64 ((M : Int) + 1)) w' := by
    intro ts t w'
    have := hM.out
    rw [run_min_int2]
    congr 2
    split <;> omega
  have hl0 : ((len : Int) == 0) = false := by simp; omega
  have hl1 : (0 : Int) < (len : Int) := by omega
  unfold maxLen at hcap
  by_cases hc1 : cap = 1
  · subst hc1
    obtain rfl : M = 0 := by omega
    have HT' : Hid (∀ w' a c, Below w.heap.size w w' → Calls Tryd.prog 75 #[.slice a 0 c] w' fun e w'' => e = .returned (.tuple #[.int .u64 0, .slice none 0 0, .int .i64 x]) ∧ w'' = w') := fun w' a c h => HT.out w' a c (fun h => absurd rfl h) h
    clear HT
    go_enter_defers Tryd.func63, Tryd.ntmps63
    go_wp2_with (go_at_call 75; refine (HT'.out _ _ _ (((Below.refl _ _).alloc (Nat.le_refl _) _).alloc (by simp) _)).mono ?_; rintro e w' ⟨rfl, rfl⟩)
    go_region
    all_goals go_wp2
    all_goals refine door_err _ w.heap.size rfl rfl x hx _ _ _ _ (Vr.new w _ _ _ _).drew fun w' hb => ⟨rfl, ?_⟩
    all_goals exact (((Below.refl _ _).alloc (Nat.le_refl _) _).alloc (by simp) _).drew.trans hb
  · have HT' : Hid (∀ w' c, Below w.heap.size w w' → Calls Tryd.prog 75 #[.slice (some ⟨g, off + 1, none⟩) M c] w' fun e w'' => e = .returned (.tuple #[.int .u64 0, .slice none 0 0, .int .i64 x]) ∧ w'' = w') := fun w' c h => HT.out w' _ c (fun _ => rfl) h
    clear HT
    go_enter_defers Tryd.func63, Tryd.ntmps63
    go_wp2_with (go_at_call 75; refine (HT'.out _ _ (((Below.refl _ _).alloc (Nat.le_refl _) _).alloc (by simp) _)).mono ?_; rintro e w' ⟨rfl, rfl⟩)
    go_region
    all_goals go_wp2
    all_goals refine door_err _ w.heap.size rfl rfl x hx _ _ _ _ (Vr.new w _ _ _ _).drew fun w' hb => ⟨rfl, ?_⟩
    all_goals exact (((Below.refl _ _).alloc (Nat.le_refl _) _).alloc (by simp) _).drew.trans hb

set_option maxRecDepth 20000 in
set_option maxHeartbeats 8000000 in
/-- The walk behind the length: too few bytes. -/
theorem first_short (g off len cap M n hl : Nat) (kind : Int) (w : World) (hk0 : 0 ≤ kind) (hk1 : kind ≤ 255) (hlen : 1 ≤ len) (hlc : len ≤ cap) (hg : g < w.heap.size) (hn : n ≤ 65535) (hhl : hl ≤ 10) (hsh : len < 1 + hl + n + 4)
    (hM : Hid (M + 1 = min len 11)) (hk : w.cell? ⟨g, off, none⟩ = some (.int .u8 kind)) (HS : Hid (hl = (bs n).length))
    (hc1 : ¬ cap = 1) (HT : Hid (∀ w', Below w.heap.size w w' → Calls Tryd.prog 75 #[.slice (some ⟨g, off + 1, none⟩) M (cap - 1)] w' fun e w'' => ∃ v, e = .returned (.tuple #[.int .u64 (n : Int), v, .int .i64 0]) ∧ Below w'.heap.size w' w'')) :
    Calls Tryd.prog 63 #[.slice (some ⟨g, off, none⟩) len cap] w fun e w' => e = .returned (.tuple #[zagg, .int .i64 10]) ∧ Below w.heap.size w w' := by
  have hmf : ∀ (fn : Fn) (first cap : Array Value) (w : World), (Instr.makeFunc fn first cap).run Tryd.prog w = .ok (.func fn first cap) w := fun _ _ _ _ => rfl
  have hM1 : M + 1 ≤ len := by have := hM.out; omega
  have hmin : ∀ ts t w', Sem.run Tryd.prog (Builtin.min_ ts t #[.int .i64 (len : Int), .int .i64 11]) w' = .ok (.int .i64 ((M : Int) + 1)) w' := by
    intro ts t w'
    have := hM.out
    rw [run_min_int2]
    congr 2
    split <;> omega
  have hl0 : ((len : Int) == 0) = false := by simp; omega
  have hl1 : (0 : Int) < (len : Int) := by omega
  have hn1 : ¬ (65535 : Int) < (n : Int) := by omega
  have hs1 : (len : Int) < 1 + (hl : Int) + (n : Int) + 4 := by omega
  go_enter_defers Tryd.func63, Tryd.ntmps63
  go_wp2_with (first
    | (go_at_call 75; refine (HT.out _ (((Below.refl _ _).alloc (Nat.le_refl _) _).alloc (by simp) _)).mono ?_
       rintro e w1 ⟨v1, rfl, hb1⟩
       have hv1 := (Vr.new w (.int .i64 kind) (.slice none 0 0) (.slice none 0 0) 0).below hb1 (by simp)
       have HV : Hid (Vr w1 w.heap.size (.int .i64 kind) (.slice none 0 0) (.slice none 0 0) 0 ∧ Below w.heap.size w w1) := ⟨hv1, (((Below.refl _ _).alloc (Nat.le_refl _) _).alloc (by simp) _).trans (hb1.mono (by simp; omega))⟩
       have hz0 := hv1.z 0
       have hz1 := hv1.z 1
       have hz2 := hv1.z 2
       have hze := hv1.ze 0
       have hc0 := hv1.c0
       have hc1 := hv1.c1
       have hc2 := hv1.c2
       have hce := hv1.ce
       clear hv1 hb1)
    | (go_at_call 72; refine (size_any n (by omega) _).mono ?_; rw [← HS.out]; rintro e w2 ⟨rfl, rfl⟩))
  refine door_err _ w.heap.size rfl rfl 10 rfl _ _ _ _ (((((HV.out.1.setE 0).set0 _).set1 _).set2 _).setE 10) fun w' hb => ⟨rfl, ?_⟩
  exact (((((HV.out.2.setCell (by simp) _).setCell (Nat.le_refl _) _).setCell (Nat.le_refl _) _).setCell (Nat.le_refl _) _).setCell (by simp) _).trans hb
end Go.Proofs.YtocjmbhfpofoeaaDoor
