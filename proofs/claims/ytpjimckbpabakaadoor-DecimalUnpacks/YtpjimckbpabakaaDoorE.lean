/- The contract of Pack: the mantissas of the longest beginning that has one exponent, in new memory. Conditions: at most 100 values; the table of powers holds what it is laid with. -/
import Derived.Test.YtpjimckbpabakaaDoorD
import Derived.Deep.OwnRows
namespace Go.Proofs.YtpjimckbpabakaaDoor
open Go.RowKit

theorem Tryd.info2 : (Tryd.prog.info? 2).map (fun i => (i.zero, i.size, i.bytes)) = some (some (.int .i64 0), 1, 8) := by kernel_rfl
theorem mem_take_getD {l : List Vl} {n i : Nat} (hi : i < n) (hn : n ≤ l.length) : l.getD i v0 ∈ l.take n := by
  have h : i < (l.take n).length := by simp; omega
  have e : l.getD i v0 = (l.take n)[i] := by simp [List.getD, show i < l.length by omega]
  rw [e]; exact List.getElem_mem h

/-- A slice of values as it comes in or is made: its length fits. -/
structure IsV (w : World) (a : Option Addr) (len cap : Nat) (vs : List Vl) : Prop where
  hl : vs.length = len
  hc : len ≤ cap
  hm : cap ≤ maxLen
  rd : RdV w a vs
  nil : a = none → cap = 0
theorem IsV.below {w w' : World} {a : Option Addr} {len cap : Nat} {vs : List Vl} (h : IsV w a len cap vs) (hb : Below w.heap.size w w') : IsV w' a len cap vs :=
  ⟨h.hl, h.hc, h.hm, h.rd.below hb, h.nil⟩

/-- What Pack tells. -/
def Packed (w : World) (vs : List Vl) (r : Ending) (w' : World) : Prop :=
  ∃ n g : Nat, Longest vs n ∧ r = .returned (.tuple #[.slice (some ⟨g, 0, none⟩) n n, .int .i64 (st (vs.take n)).1, .int .i64 (n : Int)]) ∧ w.heap.size ≤ g ∧
    w'.rowIs g 2 n (fun i => .int .i64 (mant (vs.getD i v0) (st (vs.take n)).1)) ∧ Below w.heap.size w w'

set_option maxHeartbeats 1600000 in
theorem pack_any (a : Option Addr) (len cap : Nat) (vs : List Vl) (w : World) (hv : IsV w a len cap vs) (hlen : len ≤ 100) (hP : Pw w) :
    Calls Tryd.prog 10 #[.slice a len cap] w (Packed w vs) := by
  have hcap := hv.hc
  have hmax := hv.hm
  unfold maxLen at hmax
  have HV : Hid (IsV w a len cap vs) := hv
  clear hv
  go_enter Tryd.func10, Tryd.ntmps10
  go_wp2_with fail
  refine (longest_any a len cap vs w HV.out.hl hlen HV.out.rd hP).mono ?_
  rintro r w1 ⟨n, HL, rfl, b1⟩
  have hn : n ≤ len := by have := HL.1; rw [HV.out.hl] at this; exact this
  have hmk := run_make_row' (P := Tryd.prog) 24 2 (.int .i64 0) 8 Tryd.underlying24 Tryd.info2 rfl .i64 .i64 n (by omega) (by omega)
  obtain ⟨e, he⟩ : ∃ x, Hid (x = (st (vs.take n)).1) := ⟨_, rfl⟩
  rw [← he.out]
  have hrow := World.rowIs_made w1 (.int .i64 0) n 2
  have hrow0 : Hid ((w1.alloc (.cells (madeCells #[.int .i64 0] n) 2)).rowIs w1.heap.size 2 n (fun i => if i < 0 then .int .i64 (mant (vs.getD i v0) e) else .int .i64 0)) := hrow.congr (fun i _ => by simp)
  clear hrow
  have hfit : Hid (∀ i, i < n → fits (vs.getD i v0) e) := fun i hi => by
    have := (good_iff (vs.take n)).1 HL.2.1 (vs.getD i v0) (mem_take_getD hi HL.1)
    rw [he.out]; exact this
  have HL' : Hid (Longest vs n) := HL
  clear HL
  obtain ⟨o, ho⟩ : ∃ o, Hid (o = Obj.cells (madeCells #[Value.int .i64 0] n) 2) := ⟨_, rfl⟩
  rw [← ho.out] at hrow0
  simp only [← ho.out] at hmk
  go_wp2_with fail
  go_loopw [21] (fun i wr => ∃ k : Nat, i = .int .i64 (k : Int) ∧ k ≤ n ∧ Hid (wr.rowIs w1.heap.size 2 n (fun i => if i < k then .int .i64 (mant (vs.getD i v0) e) else .int .i64 0)) ∧ Below w1.heap.size w1 wr) (fun i _ => n - (intOf i).toNat)
  case atStart => exact ⟨0, rfl, Nat.zero_le _, hrow0, (Below.refl _ _).alloc (Nat.le_refl _) _⟩
  case round =>
    obtain ⟨k, rfl, hk, hr, hb⟩ := hrel
    by_cases hlt : k < n
    · have hlt' : (k : Int) < (n : Int) := by omega
      obtain ⟨b, off, rfl, hbb, c0, c1, c2⟩ := HV.out.rd.at (k := k) (by rw [HV.out.hl]; omega)
      have hbw : Below w.heap.size w wr := b1.trans (hb.mono b1.size)
      have d0 := (hbw.cell (p := ⟨b, off + k * 3, none⟩) hbb).trans c0
      have d1 := (hbw.cell (p := ⟨b, off + k * 3 + 1, none⟩) hbb).trans c1
      have d2 := (hbw.cell (p := ⟨b, off + k * 3 + 2, none⟩) hbb).trans c2
      clear c0 c1 c2
      obtain ⟨v, hv⟩ : ∃ x, Hid (x = vs.getD k v0) := ⟨_, rfl⟩
      rw [← hv.out] at d0 d1 d2
      have hP' : Pw wr := hP.below hbw
      have hf := hfit.out k hlt
      rw [← hv.out] at hf
      have Hmt : Hid _ := (mant_any v e hf)
      clear hf
      go_wp2_with fail
      refine (Hmt.out _ (hP'.below ((Below.refl _ _).alloc (Nat.le_refl _) _))).mono ?_
      rintro r w2 ⟨rfl, b2⟩
      have hlt1 : w1.heap.size < wr.heap.size := hr.out.lt
      have hs2 := b2.size
      simp only [World.size_alloc] at hs2
      have hr2 : Hid (w2.rowIs w1.heap.size 2 n (fun i => if i < k then .int .i64 (mant (vs.getD i v0) e) else .int .i64 0)) := (hr.out.alloc _).of_block (b2.block w1.heap.size (by simp; omega))
      have hfz := hr2.out.frozen k
      have hcl := hr2.out.cell hlt
      rw [if_neg (Nat.lt_irrefl k)] at hcl
      have hsz2 : w1.heap.size < w2.heap.size := by omega
      go_wp2_with fail
      go_roundw
      case rel =>
        refine ⟨k + 1, by go_num, hlt, (hr2.out.set k _).congr fun i _ => ?_, ?_⟩
        · by_cases h1 : i = k
          · subst h1
            rw [if_pos rfl, if_pos (by omega), hv.out]
          · rw [if_neg h1]
            by_cases h2 : i < k
            · rw [if_pos h2, if_pos (by omega)]
            · rw [if_neg h2, if_neg (by omega)]
        · exact ((hb.alloc (by omega) _).trans (b2.mono (by simp; omega))).setCell (by simp) _
      case measure => simp [intOf]; omega
    · have hlt' : ¬ (k : Int) < (n : Int) := by omega
      obtain rfl : k = n := by omega
      go_wp2_with fail
      go_ret3
      refine ⟨k, w1.heap.size, HL'.out, by rw [he.out]; rfl, b1.size, ?_, b1.trans (hb.mono b1.size)⟩
      rw [← he.out]
      exact hr.out.congr fun i hi => by rw [if_pos hi]
end Go.Proofs.YtpjimckbpabakaaDoor
