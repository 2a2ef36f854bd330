/- The contract of Unpack. Conditions: the table of powers holds what it is laid with; at most 100 mantissas. -/
import Derived.Test.YtpjimckbpabakaaDoorF
namespace Go.Proofs.YtpjimckbpabakaaDoor
open Go.RowKit

/-- What Unpack tells, in memory. -/
def Unpacked (w : World) (ms : List Int) (e : Int) (r : Ending) (w' : World) : Prop :=
  Below w.heap.size w w' ∧ ((∃ vs a c, unl ms e = some vs ∧ r = .returned (.tuple #[.slice a vs.length c, .int .i64 0]) ∧ IsV w' a vs.length c vs) ∨
    (unl ms e = none ∧ r = .returned (.tuple #[.slice none 0 0, .int .i64 20])))

theorem unl_bad {ms : List Int} {e : Int} {k : Nat} {us : List Vl} (hk : k < ms.length) (h1 : uns (ms.take k) e = some us) (h2 : unv (ms.getD k 0) e = none) : unl ms e = none := by
  have h3 : uns (ms.take (k + 1)) e = none := by rw [takeI_snoc ms k hk, uns_snoc, h1, h2]
  have h4 := uns_append_none (ms.take (k + 1)) (ms.drop (k + 1)) e h3
  rw [List.take_append_drop] at h4
  unfold unl; split
  · rfl
  · exact h4

set_option maxHeartbeats 1600000 in
theorem unpack_any (a : Option Addr) (len cap : Nat) (ms : List Int) (e : Int) (w : World) (hl : ms.length = len) (hlen : len ≤ 100) (hrd : RdI w a ms) (h64 : All64 ms) (hP : Pw w) :
    Calls Tryd.prog 13 #[.slice a len cap, .int .i64 e] w (Unpacked w ms e) := by
  by_cases he : e < -1000 ∨ 1000 < e
  · have hu : Hid (unl ms e = none) := by show _ = _; unfold unl; rw [if_pos he]
    clear hrd h64 hP
    by_cases h1 : e < -1000
    · go_enter Tryd.func13, Tryd.ntmps13
      go_wp2
      go_ret2
      exact ⟨Below.refl _ _, .inr ⟨hu.out, rfl⟩⟩
    · have h2 : e > 1000 := by omega
      go_enter Tryd.func13, Tryd.ntmps13
      go_wp2
      go_ret2
      exact ⟨Below.refl _ _, .inr ⟨hu.out, rfl⟩⟩
  · have h1 : ¬ e < -1000 := by omega
    have h2 : ¬ e > 1000 := by omega
    have hu : Hid (unl ms e = uns ms e) := by show _ = _; unfold unl; rw [if_neg he]
    clear he
    have HR : Hid (RdI w a ms ∧ ms.length = len ∧ Pw w ∧ All64 ms) := ⟨hrd, hl, hP, h64⟩
    clear hrd hl hP h64
    have hmk := run_make_vals len hlen
    obtain ⟨o, ho⟩ : ∃ o, Hid (o = Obj.cells (madeCells #[Value.int .i64 0, .int .i64 0, .int .i64 0] (len * 3)) 36) := ⟨_, rfl⟩
    have hrow : Hid ((w.alloc o).rowIs w.heap.size 36 (len * 3) (cellOf [])) := by rw [ho.out]; exact made_row w len
    simp only [← ho.out] at hmk
    go_enter Tryd.func13, Tryd.ntmps13
    go_wp2_with fail
    go_loopw [21] (fun i wr => ∃ k : Nat, i = .int .i64 (k : Int) ∧ k ≤ len ∧ Hid (∃ us : List Vl, us.length = k ∧ uns (ms.take k) e = some us ∧ wr.rowIs w.heap.size 36 (len * 3) (cellOf us)) ∧ Below w.heap.size w wr) (fun i _ => len - (intOf i).toNat)
    case atStart => exact ⟨0, rfl, Nat.zero_le _, ⟨[], rfl, rfl, hrow.out⟩, (Below.refl _ _).alloc (Nat.le_refl _) _⟩
    case round =>
      obtain ⟨k, rfl, hk, hr, hb⟩ := hrel
      obtain ⟨us, hul, hus, hro⟩ := hr.out
      have HU : Hid (us.length = k ∧ uns (ms.take k) e = some us) := ⟨hul, hus⟩
      have HO : Hid (wr.rowIs w.heap.size 36 (len * 3) (cellOf us)) := hro
      clear hr hul hus hro
      by_cases hlt : k < len
      · have hlt' : (k : Int) < (len : Int) := by omega
        obtain ⟨b, off, rfl, hbb, c0⟩ := HR.out.1.at (k := k) (by rw [HR.out.2.1]; exact hlt)
        have d0 := (hb.cell (p := ⟨b, off + k, none⟩) hbb).trans c0
        clear c0
        obtain ⟨m0, m1⟩ := HR.out.2.2.2 k
        obtain ⟨m, hm⟩ : ∃ m, Hid (m = ms.getD k 0) := ⟨_, rfl⟩
        rw [← hm.out] at d0 m0 m1
        have Hv : Hid _ := value_any m e m0 m1
        obtain ⟨c, hc⟩ : ∃ c, Hid (c = unv m e) := ⟨_, rfl⟩
        rw [← hc.out] at Hv
        have hP' : Pw wr := HR.out.2.2.1.below hb
        go_wp2_with fail
        refine (Hv.out _ hP').mono ?_
        rintro r w2 ⟨rfl, b2⟩
        have hs2 := b2.size
        have hlt1 : w.heap.size < wr.heap.size := HO.out.lt
        have hb2 : Hid (Below w.heap.size w w2) := hb.trans (b2.mono (by omega))
        cases c with
        | none =>
          have o1 : ov none = val 0 0 0 := rfl
          go_wp2_with fail
          go_ret2
          refine ⟨hb2.out.alloc (by omega) _, .inr ⟨unl_bad (k := k) (by rw [HR.out.2.1]; exact hlt) HU.out.2 ?_, rfl⟩⟩
          rw [← hm.out]; exact hc.out.symm
        | some v =>
          have hr2 : Hid (w2.rowIs w.heap.size 36 (len * 3) (cellOf us)) := HO.out.of_block (b2.block w.heap.size hlt1)
          have f0 := hr2.out.frozen (k * 3)
          have f1 := hr2.out.frozen (k * 3 + 1)
          have f2 := hr2.out.frozen (k * 3 + 2)
          have e0 := hr2.out.cell (i := k * 3) (by omega)
          have e1 := hr2.out.cell (i := k * 3 + 1) (by omega)
          have e2 := hr2.out.cell (i := k * 3 + 2) (by omega)
          have hsz2 : w.heap.size < w2.heap.size := by omega
          generalize hx0 : cellOf us (k * 3) = x0 at e0
          generalize hx1 : cellOf us (k * 3 + 1) = x1 at e1
          generalize hx2 : cellOf us (k * 3 + 2) = x2 at e2
          clear hx0 hx1 hx2
          have o1 : ov (some v) = val v.M v.E v.S := rfl
          go_wp2_with fail
          go_roundw
          case rel =>
            refine ⟨k + 1, by go_num, hlt, ⟨us ++ [v], by simp [HU.out.1], ?_, ?_⟩, ?_⟩
            · rw [takeI_snoc ms k (by rw [HR.out.2.1]; exact hlt), uns_snoc, HU.out.2, ← hm.out, ← hc.out]
            · refine (((((hr2.out.set (k * 3) _).set (k * 3 + 1) _).set (k * 3 + 2) _)).alloc _).congr fun i _ => ?_
              rw [cellOf_snoc us v k HU.out.1]
            · exact (((hb2.out.setCell (Nat.le_refl _) _).setCell (Nat.le_refl _) _).setCell (Nat.le_refl _) _).alloc (by simp; omega) _
          case measure => simp [intOf]; omega
      · have hlt' : ¬ (k : Int) < (len : Int) := by omega
        obtain rfl : k = len := by omega
        go_wp2_with fail
        go_ret2
        have hus := HU.out.2
        rw [List.take_of_length_le (by rw [HR.out.2.1]; exact Nat.le_refl _)] at hus
        refine ⟨hb, .inl ⟨us, some ⟨w.heap.size, 0, none⟩, k, hu.out.trans hus, ?_, ?_⟩⟩
        · rw [HU.out.1]; rfl
        · exact ⟨rfl, by rw [HU.out.1]; exact Nat.le_refl _, by unfold maxLen; omega, rdv_of_row HO.out HU.out.1, fun h => by cases h⟩
end Go.Proofs.YtpjimckbpabakaaDoor
