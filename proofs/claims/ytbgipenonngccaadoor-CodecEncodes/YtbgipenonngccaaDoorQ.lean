/- The contracts of differences, sums, the closures that they give, and each. Conditions: at most 5000 numbers. -/
import Derived.Test.YtbgipenonngccaaDoorP
import Derived.Deep.OwnRows
import Derived.RangeFuncBox
import Derived.RangeFuncNested
namespace Go.Proofs.YtbgipenonngccaaDoor
open Go.RowKit

theorem Tryd.info2 : (Tryd.prog.info? 2).map (fun i => (i.zero, i.size, i.bytes)) = some (some (.int .i64 0), 1, 8) := by kernel_rfl

theorem differences_any (w : World) :
    Calls Tryd.prog 33 #[] w fun e w' => e = .returned (.func (.func 44) #[] #[.pointer (some ⟨w.heap.size, 0, none⟩)]) ∧ w' = w.alloc (.cells #[.int .i64 0] 2) := by
  go_enter Tryd.func33, Tryd.ntmps33
  go_wp2
  go_ret
  exact ⟨rfl, rfl⟩
theorem sums_any (w : World) :
    Calls Tryd.prog 43 #[] w fun e w' => e = .returned (.func (.func 46) #[] #[.pointer (some ⟨w.heap.size, 0, none⟩)]) ∧ w' = w.alloc (.cells #[.int .i64 0] 2) := by
  go_enter Tryd.func43, Tryd.ntmps43
  go_wp2
  go_ret
  exact ⟨rfl, rfl⟩
theorem dif_any (x p : Int) (B : Nat) (w : World) (hB : Boxed w B 2 (.int .i64 p)) :
    Calls Tryd.prog 44 #[.int .i64 x, .pointer (some ⟨B, 0, none⟩)] w fun e w' => e = .returned (.int .i64 (fD p x).1) ∧ w' = w.setCell ⟨B, 0, none⟩ (.int .i64 (fD p x).2) := by
  have hc := hB.cell
  have hf := hB.frozen
  have HB : Hid (Boxed w B 2 (.int .i64 p)) := hB
  clear hB
  go_enter Tryd.func44, Tryd.ntmps44
  go_wp2
  go_ret
  exact ⟨rfl, rfl⟩
theorem sum_any (x p : Int) (B : Nat) (w : World) (hB : Boxed w B 2 (.int .i64 p)) :
    Calls Tryd.prog 46 #[.int .i64 x, .pointer (some ⟨B, 0, none⟩)] w fun e w' => e = .returned (.int .i64 (fS p x).1) ∧ w' = w.setCell ⟨B, 0, none⟩ (.int .i64 (fS p x).2) := by
  have hc := hB.cell
  have hf := hB.frozen
  have hc2 := (hB.set (.int .i64 (wrap64 (p + x)))).cell
  clear hB
  go_enter Tryd.func46, Tryd.ntmps46
  go_wp2
  go_ret
  exact ⟨rfl, rfl⟩

/-- each, by a closure over a box. -/
theorem each_any (F : Nat) (f : Int → Int → Int × Int) (hcf : ∀ (x : Int) (B : Nat) (w : World), Sem.run Tryd.prog (callFunc F #[.int .i64 x, .pointer (some ⟨B, 0, none⟩)]) w = .ok (.enter F #[.int .i64 x, .pointer (some ⟨B, 0, none⟩)]) w) (HF : ∀ (x p : Int) (B : Nat) (w : World), Boxed w B 2 (.int .i64 p) → Calls Tryd.prog F #[.int .i64 x, .pointer (some ⟨B, 0, none⟩)] w fun e w' => e = .returned (.int .i64 (f p x).1) ∧ w' = w.setCell ⟨B, 0, none⟩ (.int .i64 (f p x).2))
    (B : Nat) (p : Int) (a : Option Addr) (n cap : Nat) (l : List Int) (w0 w : World) (hl : l.length = n) (hn : n ≤ 5000) (hrd : Rd .i64 w0 a l) (hb0 : Below w0.heap.size w0 w) (h0 : w0.heap.size ≤ B) (hB : Boxed w B 2 (.int .i64 p)) :
    Calls Tryd.prog 34 #[.func (.func F) #[] #[.pointer (some ⟨B, 0, none⟩)], .slice a n cap] w fun e w' => e = .returned (.slice (some ⟨w.heap.size, 0, none⟩) n n) ∧
      w'.rowIs w.heap.size 2 n (fun i => .int .i64 ((scan f p l).getD i 0)) ∧ Below B w w' := by
  have HC : Hid (∀ k, k < n → ∃ b off, a = some ⟨b, off, none⟩ ∧ b < w0.heap.size ∧ w0.cell? ⟨b, off + k, none⟩ = some (.int .i64 (l.getD k 0))) := by
    intro k hk
    rcases hrd with rfl | ⟨b, off, e, hb, c⟩
    · simp at hl; omega
    · exact ⟨b, off, e, hb, c k (by omega)⟩
  have HF' : Hid _ := HF
  have HL : Hid (l.length = n) := hl
  have HB : Hid (Boxed w B 2 (.int .i64 p)) := hB
  have hBlt := hB.lt
  have H0 : Hid (Below w0.heap.size w0 w) := hb0
  clear hrd HF hl hB hb0
  have hmk := run_make_row' (P := Tryd.prog) 22 2 (.int .i64 0) 8 Tryd.underlying22 Tryd.info2 rfl .i64 .i64 n (by omega) (by omega)
  have hrow := World.rowIs_made w (.int .i64 0) n 2
  have hrow0 : Hid ((w.alloc (.cells (madeCells #[.int .i64 0] n) 2)).rowIs w.heap.size 2 n (fun i => if i < 0 then .int .i64 ((scan f p l).getD i 0) else .int .i64 0)) := hrow.congr (fun i _ => by simp)
  clear hrow
  obtain ⟨o, ho⟩ : ∃ o, Hid (o = Obj.cells (madeCells #[Value.int .i64 0] n) 2) := ⟨_, rfl⟩
  rw [← ho.out] at hrow0
  simp only [← ho.out] at hmk
  go_enter Tryd.func34, Tryd.ntmps34
  go_wp2_with fail
  go_loopw [13] (fun i wr => ∃ k : Nat, i = .int .i64 (k : Int) ∧ k ≤ n ∧ Hid (wr.rowIs w.heap.size 2 n (fun i => if i < k then .int .i64 ((scan f p l).getD i 0) else .int .i64 0)) ∧ Hid (Boxed wr B 2 (.int .i64 (stt f p (l.take k)))) ∧ Below B w wr ∧ Below w0.heap.size w0 wr) (fun i _ => n - (intOf i).toNat)
  case atStart => exact ⟨0, rfl, Nat.zero_le _, hrow0, HB.out.alloc _, (Below.refl _ _).alloc (by omega) _, H0.out.alloc (by omega) _⟩
  case round =>
    obtain ⟨k, rfl, hk, hr, hbx, hb, hb'⟩ := hrel
    by_cases hlt : k < n
    · have hlt' : (k : Int) < (n : Int) := by omega
      obtain ⟨b, off, rfl, hbb, c0⟩ := HC.out k hlt
      have d0 := (hb'.cell (p := ⟨b, off + k, none⟩) hbb).trans c0
      clear c0
      obtain ⟨e1, e2⟩ := scan_at f l p k (by rw [HL.out]; exact hlt)
      obtain ⟨x, hx⟩ : ∃ x, Hid (x = l.getD k 0) := ⟨_, rfl⟩
      obtain ⟨q, hq⟩ : ∃ q, Hid (q = stt f p (l.take k)) := ⟨_, rfl⟩
      rw [← hx.out] at d0 e1 e2
      rw [← hq.out] at e1 e2 hbx
      have E1 : Hid ((scan f p l).getD k 0 = (f q x).1 ∧ stt f p (l.take (k + 1)) = (f q x).2) := ⟨e1, e2⟩
      clear e1 e2
      go_wp2_with fail
      refine (HF'.out x q B wr hbx.out).mono ?_
      rintro r w2 ⟨rfl, rfl⟩
      have hr2 : Hid ((wr.setCell ⟨B, 0, none⟩ (.int .i64 (f q x).2)).rowIs w.heap.size 2 n (fun i => if i < k then .int .i64 ((scan f p l).getD i 0) else .int .i64 0)) := hr.out.of_block (Below.heap_setCell wr ⟨B, 0, none⟩ _ w.heap.size (by simp; omega))
      have hbx2 : Hid (Boxed (wr.setCell ⟨B, 0, none⟩ (.int .i64 (f q x).2)) B 2 (.int .i64 (f q x).2)) := hbx.out.set _
      have hb2 : Below B w (wr.setCell ⟨B, 0, none⟩ (.int .i64 (f q x).2)) := hb.setCell (by simp) _
      have hb3 : Below w0.heap.size w0 (wr.setCell ⟨B, 0, none⟩ (.int .i64 (f q x).2)) := hb'.setCell (by simp; omega) _
      generalize wr.setCell ⟨B, 0, none⟩ (.int .i64 (f q x).2) = w2 at *
      have hfz := hr2.out.frozen k
      have hcl := hr2.out.cell hlt
      rw [if_neg (Nat.lt_irrefl k)] at hcl
      go_wp2_with fail
      go_roundw
      case rel =>
        refine ⟨k + 1, by go_num, hlt, (hr2.out.set k _).congr fun i _ => ?_, ?_, ?_, ?_⟩
        · by_cases h1 : i = k
          · subst h1
            rw [if_pos rfl, if_pos (by omega), E1.out.1]
          · rw [if_neg h1]
            by_cases h2 : i < k
            · rw [if_pos h2, if_pos (by omega)]
            · rw [if_neg h2, if_neg (by omega)]
        · rw [E1.out.2]
          exact (Below.heap_setCell w2 ⟨w.heap.size, k, none⟩ _ B (by simp; omega)).trans hbx2.out
        · exact hb2.setCell (by simp; omega) _
        · exact hb3.setCell (by simp; omega) _
      case measure => simp [intOf]; omega
    · have hlt' : ¬ (k : Int) < (n : Int) := by omega
      obtain rfl : k = n := by omega
      go_wp2_with fail
      go_ret
      refine ⟨rfl, hr.out.congr fun i hi => by simp [hi], hb⟩
theorem cf44 (x : Int) (B : Nat) (w : World) : Sem.run Tryd.prog (callFunc 44 #[.int .i64 x, .pointer (some ⟨B, 0, none⟩)]) w = .ok (.enter 44 #[.int .i64 x, .pointer (some ⟨B, 0, none⟩)]) w := by simp [go_sem]
theorem cf46 (x : Int) (B : Nat) (w : World) : Sem.run Tryd.prog (callFunc 46 #[.int .i64 x, .pointer (some ⟨B, 0, none⟩)]) w = .ok (.enter 46 #[.int .i64 x, .pointer (some ⟨B, 0, none⟩)]) w := by simp [go_sem]
end Go.Proofs.YtbgipenonngccaaDoor
