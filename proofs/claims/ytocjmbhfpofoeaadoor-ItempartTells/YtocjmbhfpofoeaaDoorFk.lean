/- The contract of first: a frame and what lies behind it. Conditions: the table of half bytes; sizes. -/
import Derived.Test.YtocjmbhfpofoeaaDoorFj
namespace Go.Proofs.YtocjmbhfpofoeaaDoor
open Go.RowKit

theorem below_drewN' {B : Nat} {w w' : World} (h : Below B w w') (n : Nat) : Below B w (w'.drewN n) := by
  induction n with
  | zero => exact h
  | succ n ih => exact ih.drew
theorem Vr.drewN {w : World} {F : Nat} {k b r : Value} {x : Int} (h : Vr w F k b r x) (n : Nat) : Vr (w.drewN n) F k b r x := by
  induction n with
  | zero => exact h
  | succ n ih => exact ih.drew
set_option maxRecDepth 20000 in
set_option maxHeartbeats 8000000 in
/-- The walk behind the length: all bytes are there. -/
theorem first_walk (g off len cap M n fr en : Nat) (kind sm cs : Int) (eq : Bool) (w : World) (hk0 : 0 ≤ kind) (hk1 : kind ≤ 255) (hlc : len ≤ cap) (hcap : cap ≤ maxLen) (hg : g < w.heap.size) (hn : n ≤ 65535) (hfr : 1 ≤ fr) (hfr4 : fr ≤ 4) (hen : (fr : Int) + (n : Int) = (en : Int)) (hsh : en + 4 ≤ len)
    (hM : Hid (M + 1 = min len 11)) (hk : w.cell? ⟨g, off, none⟩ = some (.int .u8 kind)) (HS : Hid (fr = 1 + (bs n).length))
    (HT : Hid (∀ w', Below w.heap.size w w' → Calls Tryd.prog 75 #[.slice (some ⟨g, off + 1, none⟩) M (cap - 1)] w' fun e w'' => ∃ v, e = .returned (.tuple #[.int .u64 (n : Int), v, .int .i64 0]) ∧ Below w'.heap.size w' w''))
    (HJ : Hid (∀ w' c, Below w.heap.size w w' → Calls Tryd.prog 76 #[.slice (some ⟨g, off + en, none⟩) 4 c] w' fun e w'' => e = .returned (.int .u32 sm) ∧ w'' = w'))
    (HC : Hid (∀ w' c, Below w.heap.size w w' → Calls Tryd.prog 73 #[.slice (some ⟨g, off, none⟩) en c] w' fun e w'' => e = .returned (.int .u32 cs) ∧ w'' = w')) (heq : (sm == cs) = eq) :
    Calls Tryd.prog 63 #[.slice (some ⟨g, off, none⟩) len cap] w fun e w' => Below w.heap.size w w' ∧ (if eq = true then ∃ ar, e = .returned (.tuple #[.agg #[.int .i64 kind, .slice (some ⟨g, off + fr, none⟩) n (cap - fr), .slice ar (len - (en + 4)) (cap - (en + 4))], .int .i64 0]) ∧ (¬ cap = en + 4 → ar = some ⟨g, off + (en + 4), none⟩) else e = .returned (.tuple #[zagg, .int .i64 50])) := by
  have hmf : ∀ (fn : Fn) (first cap : Array Value) (w : World), (Instr.makeFunc fn first cap).run Tryd.prog w = .ok (.func fn first cap) w := fun _ _ _ _ => rfl
  have hM1 : M + 1 ≤ len := by have := hM.out; omega
  have hmin : ∀ ts t w', Sem.run Tryd.prog (Builtin.min_ ts t #[.int .i64 (len : Int), .int .i64 11]) w' = .ok (.int .i64 ((M : Int) + 1)) w' := by
    intro ts t w'
    have := hM.out
    rw [run_min_int2]
    congr 2
    split <;> omega
  have hl0 : ((len : Int) == 0) = false := by simp; omega
  have hl1 : (0 : Int) < (len : Int) := by omega
  have hc1 : ¬ cap = 1 := by omega
  have hcf : ¬ cap = fr := by omega
  have hce : ¬ cap = en := by omega
  have hn1 : ¬ (65535 : Int) < (n : Int) := by omega
  have hs1 : ¬ (len : Int) < (en : Int) + 4 := by omega
  have hfi : 1 + ((fr - 1 : Nat) : Int) = (fr : Int) := by omega
  have HS' : Hid ((bs n).length = fr - 1) := by have := HS.out; show _ = _; omega
  obtain ⟨f1, hf1⟩ : ∃ f1, f1 = fr - 1 := ⟨_, rfl⟩
  rw [← hf1] at hfi HS'
  clear hf1
  unfold maxLen at hcap
  go_enter_defers Tryd.func63, Tryd.ntmps63
  go_wp2_with (first
    | (go_at_call 75; refine (HT.out _ (((Below.refl _ _).alloc (Nat.le_refl _) _).alloc (by simp) _)).mono ?_
       rintro e w1 ⟨v1, rfl, hb1⟩
       have hv1 := (Vr.new w (.int .i64 kind) (.slice none 0 0) (.slice none 0 0) 0).below hb1 (by simp)
       have HV : Hid (Vr w1 w.heap.size (.int .i64 kind) (.slice none 0 0) (.slice none 0 0) 0 ∧ Below w.heap.size w w1) := ⟨hv1, (((Below.refl _ _).alloc (Nat.le_refl _) _).alloc (by simp) _).trans (hb1.mono (by simp; omega))⟩
       have hz0 := hv1.z 0
       have hz1 := hv1.z 1
       have hz2 := hv1.z 2
       have hze := hv1.ze 0
       have hc0 := hv1.c0
       have hc1 := hv1.c1
       have hc2 := hv1.c2
       have hce := hv1.ce
       clear hv1 hb1)
    | (go_at_call 72; refine (size_any n (by omega) _).mono ?_; rw [HS'.out]; rintro e w2 ⟨rfl, rfl⟩))
  go_region
  obtain ⟨ar, har⟩ : ∃ ar : Option Addr, ar = if cap = en + 4 then some ⟨g, off, none⟩ else some ⟨g, off + (en + 4), none⟩ := ⟨_, rfl⟩
  have hv2 := (((HV.out.1.setE 0).set1 (.slice (some ⟨g, off + fr, none⟩) (en - fr) (cap - fr))).set2 (.slice ar (len - (en + 4)) (cap - (en + 4)))).drew
  have hb2 := (((HV.out.2.setCell (p := ⟨w.heap.size + 1, 0, none⟩) (by simp) (.int .i64 0)).setCell (p := ⟨w.heap.size, 1, none⟩) (Nat.le_refl _) (.slice (some ⟨g, off + fr, none⟩) (en - fr) (cap - fr))).setCell (p := ⟨w.heap.size, 2, none⟩) (Nat.le_refl _) (.slice ar (len - (en + 4)) (cap - (en + 4)))).drew
  rw [← har]
  have HAR : Hid (¬ cap = en + 4 → ar = some ⟨g, off + (en + 4), none⟩) := fun h => by rw [har, if_neg h]
  clear har hz0 hz1 hz2 hze hc0 hc1 hc2 hce HV
  generalize World.drew _ = w2 at *
  have HV : Hid (Vr w2 w.heap.size (.int .i64 kind) (.slice (some ⟨g, off + fr, none⟩) (en - fr) (cap - fr)) (.slice ar (len - (en + 4)) (cap - (en + 4))) 0 ∧ Below w.heap.size w w2) := ⟨hv2, hb2⟩
  have hz0 := hv2.z 0
  have hz1 := hv2.z 1
  have hz2 := hv2.z 2
  have hze := hv2.ze 0
  have hc0 := hv2.c0
  have hc1 := hv2.c1
  have hc2 := hv2.c2
  have hce := hv2.ce
  clear hv2 hb2
  go_wp2
  go_quiet (first | (go_at_call 76; exact Calls.quiet_of_same (HJ.out _ _ (below_drewN' HV.out.2 _))) | (go_at_call 73; exact Calls.quiet_of_same (HC.out _ _ (below_drewN' HV.out.2 _))))
  have hen' : en - fr = n := by omega
  cases eq with
  | false =>
    go_wp2
    refine door_err _ w.heap.size rfl rfl 50 rfl _ _ _ _ (((((HV.out.1.drewN _).set0 _).set1 _).set2 _).setE 50) fun w' hb => ⟨?_, rfl⟩
    exact (((((below_drewN' HV.out.2 _).setCell (Nat.le_refl _) _).setCell (Nat.le_refl _) _).setCell (Nat.le_refl _) _).setCell (by simp) _).trans hb
  | true =>
    go_wp2
    refine door_ok _ w.heap.size rfl rfl _ _ _ _ (((((HV.out.1.drewN _).set0 _).set1 _).set2 _).setE 0) ⟨?_, ar, ?_, HAR.out⟩
    · exact (((((below_drewN' HV.out.2 _).setCell (Nat.le_refl _) _).setCell (Nat.le_refl _) _).setCell (Nat.le_refl _) _).setCell (by simp) _)
    · rfl
end Go.Proofs.YtocjmbhfpofoeaaDoor
