/- The document's own Less and Meet; short. Conditions: how the rows lie; sizes. -/
import Derived.Test.YtkojbpifcflgfaaDc
namespace Go.Proofs.Ytkojbpifcflgfaa
open Go.RowKit Go.Shelf

/-- What the document's Less answers. -/
def rls (xs ys : List Int) : List Int := inss ltI (xs.filter (fun x => !decide (x ∈ ys)))

set_option maxRecDepth 20000 in
set_option maxHeartbeats 4000000 in
theorem rless_any (a b : Option Addr) (n c m d : Nat) (xs ys : List Int) (w : World) (h1 : IsI .i64 w a n c xs) (h2 : IsI .i64 w b m d ys) (hn : n ≤ 100000) (hm : m ≤ 100000) :
    Calls Try.prog 21 #[.slice a n c, .slice b m d] w (New0 w (rls xs ys)) := by
  have H : Hid (IsI .i64 w a n c xs ∧ IsI .i64 w b m d ys) := ⟨h1, h2⟩
  have HL : Hid (xs.length = n) := h1.hl
  clear h1 h2
  go_enter Try.func21, Try.ntmps21
  go_wp2
  go_loopg [5, 6, 7] n (fun gg s5 s6 s7 wr => ∃ (i : Nat) (ao : Option Addr) (no co : Nat), s5 = .slice ao no co ∧ s6 = .int .i64 i ∧ i ≤ n ∧ n - i ≤ gg ∧ Hid (St w wr ao no co (inss ltI ((xs.take i).filter (fun x => !decide (x ∈ ys))))))
  case atStart => exact ⟨0, none, 0, 0, rfl, rfl, Nat.zero_le _, Nat.le_refl _, St.start w⟩
  case round =>
    obtain ⟨i, ao, no, co, rfl, rfl, hi, hg, HS⟩ := hrel
    by_cases hlt : i < n
    · have hII := H.out.1.below HS.out.b
      obtain ⟨g1, o1, rfl, _, c1⟩ := hII.lt (by omega)
      have d1 := c1 i hlt
      have hi0 : (i : Int) < (n : Int) := by omega
      have HX : Hid (xs.take (i + 1) = xs.take i ++ [xs.getD i 0]) := take_snocI _ i (by rw [HL.out]; exact hlt)
      have hno : no ≤ 100000 := by
        have e1 := HS.out.i.hl
        have e2 := inss_le ((xs.take i).filter (fun x => !decide (x ∈ ys)))
        have e3 := List.length_filter_le (fun x => !decide (x ∈ ys)) (xs.take i)
        have e4 := HL.out
        rw [List.length_take] at e3
        omega
      have HI : Hid _ := inI_any b m d (xs.getD i 0) ys _ (H.out.2.below HS.out.b) (by omega)
      have HP : Hid _ := put_any ao no co (xs.getD i 0) _ _ HS.out.i hno HS.out.z
      obtain ⟨x, hx⟩ : ∃ x, x = xs.getD i 0 := ⟨_, rfl⟩
      rw [← hx] at d1 HP HX HI
      clear c1 hII hx
      by_cases hmem : x ∈ ys
      · rw [decide_eq_true hmem] at HI
        have HN : Hid (St w wr ao no co (inss ltI ((xs.take (i + 1)).filter (fun x => !decide (x ∈ ys))))) := by
          show St _ _ _ _ _ _
          rw [HX.out, List.filter_append]
          have : [x].filter (fun x => !decide (x ∈ ys)) = [] := by simp [hmem]
          rw [this, List.append_nil]; exact HS.out
        clear hmem
        go_wp2_with fail
        refine Calls.mono HI.out ?_
        rintro e w3 ⟨rfl, rfl⟩
        go_wp2
        go_roundg (n - (i + 1))
        case measure => omega
        case rel => exact ⟨i + 1, ao, no, co, rfl, by go_num, by omega, Nat.le_refl _, HN.out⟩
      · rw [decide_eq_false hmem] at HI
        have HN : Hid (inss ltI ((xs.take (i + 1)).filter (fun x => !decide (x ∈ ys))) = ins ltI x (inss ltI ((xs.take i).filter (fun x => !decide (x ∈ ys))))) := by
          show _ = _
          rw [HX.out, List.filter_append]
          have : [x].filter (fun x => !decide (x ∈ ys)) = [x] := by simp [hmem]
          rw [this, inss_snoc]
        clear hmem
        go_wp2_with fail
        refine Calls.mono HI.out ?_
        rintro e w3 ⟨rfl, rfl⟩
        go_wp2_with fail
        refine Calls.mono HP.out ?_
        intro e w3 hp
        obtain ⟨a3, n3, c3, rfl, hs3⟩ := HS.out.put hp
        have HS3 : Hid (St w w3 a3 n3 c3 (inss ltI ((xs.take (i + 1)).filter (fun x => !decide (x ∈ ys))))) := by
          show St _ _ _ _ _ _
          rw [HN.out]; exact hs3
        clear hp hs3 HP d1 HI
        go_wp2_with fail
        go_roundg (n - (i + 1))
        case measure => omega
        case rel => exact ⟨i + 1, a3, n3, c3, rfl, by go_num, by omega, Nat.le_refl _, HS3.out⟩
    · have HE : Hid (St w wr ao no co (rls xs ys)) := by
        have h2 := HS.out
        rw [List.take_of_length_le (by rw [HL.out]; omega)] at h2
        exact h2
      have e : i = n := by omega
      subst e
      go_wp2
      go_ret
      exact ⟨ao, no, co, rfl, HE.out.i, HE.out.b⟩

set_option maxRecDepth 20000 in
set_option maxHeartbeats 4000000 in
theorem short_any (a : Option Addr) (n c : Nat) (rows : List (List Int)) (w : World) (h : IsM w a n c rows) :
    Calls Try.prog 14 #[.slice a n c] w fun e w' => ∃ sh : Bool, e = .returned (.bool sh) ∧ w' = w ∧ (sh = true → n ≤ 10 ∧ ∀ i, i < n → (rows.getD i []).length ≤ 100) := by
  have H : Hid (IsM w a n c rows) := h
  clear h
  by_cases h10 : 10 < n
  · have h10' : (10 : Int) < (n : Int) := by omega
    go_enter Try.func14, Try.ntmps14
    go_wp2
    go_ret
    exact ⟨false, rfl, rfl, fun h => by cases h⟩
  · have h10' : ¬ (10 : Int) < (n : Int) := by omega
    go_enter Try.func14, Try.ntmps14
    go_wp2
    go_loopg [3] n (fun gg s3 wr => ∃ k : Nat, s3 = .int .i64 k ∧ k ≤ n ∧ n - k ≤ gg ∧ wr = w ∧ Hid (∀ i, i < k → (rows.getD i []).length ≤ 100))
    case atStart => exact ⟨0, rfl, Nat.zero_le _, Nat.le_refl _, rfl, fun i hi => by omega⟩
    case round =>
      obtain ⟨k, rfl, hk, hg, rfl, HT⟩ := hrel
      by_cases hlt : k < n
      · obtain ⟨b, off, ai, ni, ci, rfl, hb, d0, hI⟩ := H.out.rd k hlt
        have hk0 : (k : Int) < (n : Int) := by omega
        have HLn : Hid ((rows.getD k []).length = ni) := hI.hl
        clear hI
        by_cases h100 : 100 < ni
        · have h100' : (100 : Int) < (ni : Int) := by omega
          go_wp2
          go_ret
          exact ⟨false, rfl, rfl, fun h => by cases h⟩
        · have h100' : ¬ (100 : Int) < (ni : Int) := by omega
          have HE : Hid (∀ i, i < k + 1 → (rows.getD i []).length ≤ 100) := fun i hi => by
            by_cases e : i = k
            · rw [e, HLn.out]; omega
            · exact HT.out i (by omega)
          go_wp2
          go_roundg (n - (k + 1))
          case measure => omega
          case rel => exact ⟨k + 1, by go_num, by omega, Nat.le_refl _, rfl, HE.out⟩
      · have HE : Hid (∀ i, i < n → (rows.getD i []).length ≤ 100) := fun i hi => HT.out i (by omega)
        have e : k = n := by omega
        subst e
        go_wp2
        go_ret
        exact ⟨true, rfl, rfl, fun _ => ⟨by omega, HE.out⟩⟩
end Go.Proofs.Ytkojbpifcflgfaa
