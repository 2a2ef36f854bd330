/- Bits of a number that may be and is not 0 are those of the nearest double. Conditions: the package variables hold what they are laid with. -/
import Derived.Test.YtmeimofnmpmaoaaGreatDoorEx
import Derived.Test.YtmeimofnmpmaoaaGreatDoorTx
import Derived.Test.YtmeimofnmpmaoaaGreatDoorN
namespace Go.Proofs.YtmeimofnmpmaoaaGreatDoor
open Go.RowKit Go.Shelf Fl

theorem special_txt (neg : Bool) (u : Nat) (eneg : Bool) (x : Nat) : SpecialNo ⟨(txt neg u eneg x).toArray⟩ := by
  intro w
  have n1 := Lib.nDigits_pos u
  have lu := Lib.decDigits_length u
  have hd := digits_at u 0 n1
  have hlt := dgt_lt u (Lib.nDigits u) 0
  have hc := chr _ hlt
  cases neg with
  | false =>
    have h0 : (txt false u eneg x)[0]? = some (UInt8.ofNat (48 + dgt u (Lib.nDigits u) 0)) := by
      rw [← hd]; unfold txt
      simp only [Bool.false_eq_true, if_false, List.nil_append]
      rw [List.getElem?_append_left (by simp; omega), List.getElem?_append_left (by simp), List.getElem?_append_left (by omega)]
    have hs : 0 < (⟨(txt false u eneg x).toArray⟩ : ByteArray).size := by
      show 0 < (txt false u eneg x).toArray.size
      have := (List.getElem?_eq_some_iff.1 h0).1
      simpa using this
    exact special_digit _ hs _ (at_list _ _ _ h0 hs) (by rw [hc]; omega) (by rw [hc]; omega) w
  | true =>
    have h0 : (txt true u eneg x)[0]? = some 45 := by unfold txt; rfl
    have h1 : (txt true u eneg x)[1]? = some (UInt8.ofNat (48 + dgt u (Lib.nDigits u) 0)) := by
      rw [← hd]; unfold txt
      simp only [if_true, List.cons_append, List.nil_append, List.getElem?_cons_succ]
      rw [List.getElem?_append_left (by simp; omega), List.getElem?_append_left (by simp), List.getElem?_append_left (by omega)]
    have hs : 1 < (⟨(txt true u eneg x).toArray⟩ : ByteArray).size := by
      show 1 < (txt true u eneg x).toArray.size
      have := (List.getElem?_eq_some_iff.1 h1).1
      simpa using this
    exact special_minus _ hs (at_list _ _ _ h0 _) _ (at_list _ _ _ h1 hs) (by rw [hc]; omega) (by rw [hc]; omega) w

/-- The text of an exponent. -/
theorem parse_txt (q : Nat) (hq : 300 ≤ q) (d : Nat) (p : Int) (d0 : 0 < d) (d1 : d < 1000000000000000) (p0 : -300 ≤ p) (p1 : p ≤ 290) (neg : Bool) (w0 : World) (hG0 : Ground w0) :
    ∃ R, (∀ w, Ground w → Calls Tryz.prog 28 #[.string ⟨(txt neg d (decide (p < 0)) p.natAbs).toArray⟩, .int .i64 64] w fun e w' => e = .returned (.tuple #[.float .f64 ((if neg then 1 else 0) * 9223372036854775808 + R), .nilIface]) ∧ Below w.heap.size w w') ∧ Near (num q d p) (10 ^ q) R ∧ R < 9223372036854775808 := by
  have hS := special_txt neg d (decide (p < 0)) p.natAbs
  have hR := reads_txt neg d (decide (p < 0)) p.natAbs d0 d1 (by omega)
  have hp : (if decide (p < 0) = true then (-1 : Int) else 1) * (p.natAbs : Int) = p := by
    by_cases h : p < 0 <;> simp [h] <;> omega
  rw [hp] at hR
  have key : ∀ w, Ground w → ∃ R, Calls Tryz.prog 28 #[.string ⟨(txt neg d (decide (p < 0)) p.natAbs).toArray⟩, .int .i64 64] w (fun e w' => e = .returned (.tuple #[.float .f64 ((if neg then 1 else 0) * 9223372036854775808 + R), .nilIface]) ∧ Below w.heap.size w w') ∧ Near (num q d p) (10 ^ q) R ∧ R < 9223372036854775808 := by
    intro w hG
    rcases exact_road q hq d p d0 d1 p0 p1 w hG neg with ⟨R, hX, hN, hlt⟩ | ⟨hr, F, hX⟩
    · refine ⟨R, parsefloat _ _ w ((atof_ex _ d p neg _ w hS hR (by omega) (by omega) (by omega) hG.c2 hX).mono ?_), hN, hlt⟩
      rintro e w' ⟨rfl, rfl⟩
      exact ⟨rfl, Below.refl _ _⟩
    · obtain ⟨R, hP, hN, hlt⟩ := scale_road q hq d p d0 d1 hr w hG neg
      exact ⟨R, parsefloat _ _ w (atof_sc _ d p neg F _ w hS hR (by omega) (by omega) (by omega) hG.c2 hX hP), hN, hlt⟩
  obtain ⟨R, _, hN, hlt⟩ := key w0 hG0
  refine ⟨R, fun w hG => ?_, hN, hlt⟩
  obtain ⟨R', hc, hN', _⟩ := key w hG
  rw [near_unique hN hN']; exact hc

theorem itoa_txt (M : Int) : Lib.itoa M = (if M < 0 then [45] else []) ++ Lib.decDigits M.natAbs := by
  unfold Lib.itoa
  by_cases h : M < 0
  · simp [h]
  · rw [if_neg h, if_neg h, show M.toNat = M.natAbs by omega]; rfl

theorem itoa_le (M : Int) (k : Nat) (hk : 1 ≤ k) (h : M.natAbs < 10 ^ k) : (Lib.itoa M).length ≤ k + 1 := by
  have := nd_le M.natAbs k hk h
  rw [itoa_txt, List.length_append, Lib.decDigits_length]
  by_cases hm : M < 0 <;> simp [hm] <;> omega

theorem text_eq (M E : Int) : (⟨(Lib.itoa M).toArray⟩ : ByteArray) ++ ⟨#[101]⟩ ++ ⟨(Lib.itoa E).toArray⟩ = ⟨(txt (decide (M < 0)) M.natAbs (decide (E < 0)) E.natAbs).toArray⟩ := by
  apply ByteArray.ext
  rw [ByteArray.data_append, ByteArray.data_append]
  simp only [itoa_txt, txt, decide_eq_true_eq]
  simp

/-- Bits of a number that may be and is not 0. -/
theorem bits_gen (q : Nat) (hq : 300 ≤ q) (M E : Int) (hm : mayBe M E 0 = true) (hM : M ≠ 0) (w0 : World) (hG0 : Ground w0) :
    ∃ R, (∀ w, Ground w → Calls Tryz.prog 10 #[val M E 0] w fun e w' => e = .returned (.tuple #[.int .u64 (((if decide (M < 0) then 1 else 0) * 9223372036854775808 + R : Nat) : Int), .int .i64 0]) ∧ Below w.heap.size w w') ∧ Near (num q M.natAbs E) (10 ^ q) R ∧ R < 9223372036854775808 := by
  have hb : -1000000000000000 < M ∧ M < 1000000000000000 ∧ ¬ M.tmod 10 = 0 ∧ -300 ≤ E ∧ E ≤ 290 := by simpa [mayBe, hM] using hm
  obtain ⟨R, hP, hN, hlt⟩ := parse_txt q hq M.natAbs E (by omega) (by omega) hb.2.2.2.1 hb.2.2.2.2 (decide (M < 0)) w0 hG0
  refine ⟨R, fun w hG => ?_, hN, hlt⟩
  refine bits_num M E _ hm w fun w' hb' => nearest_any M E 0 (by omega) (by omega) (by omega) (by omega) _ _ rfl rfl ?_ ?_ _ (show _ = _ from (text_eq M E).symm) w' _ (fun w'' h => ((hG.below hb').below h).tab) (fun w'' h => hP w'' ((hG.below hb').below h))
  · show (Lib.itoa M).toArray.size ≤ 100
    have := itoa_le M 15 (by decide) (by omega)
    simp; omega
  · show (Lib.itoa E).toArray.size ≤ 100
    have := itoa_le E 3 (by decide) (by omega)
    simp; omega
end Go.Proofs.YtmeimofnmpmaoaaGreatDoor
