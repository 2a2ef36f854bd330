/- Rows of numbers in memory; the document's own Ints; short. Conditions: how the rows lie; sizes. -/
import Derived.Test.YtkojbpifcflgfaaDb
namespace Go.Proofs.Ytkojbpifcflgfaa
open Go.RowKit Go.Shelf

/-- A slice of slices of numbers. -/
structure IsM (w : World) (a : Option Addr) (n c : Nat) (rows : List (List Int)) : Prop where
  hl : rows.length = n
  hc : n ≤ c
  hm : c ≤ maxLen
  nil : a = none → c = 0
  rd : ∀ i, i < n → ∃ b off ai ni ci, a = some ⟨b, off, none⟩ ∧ b < w.heap.size ∧ w.cell? ⟨b, off + i, none⟩ = some (.slice ai ni ci) ∧ IsI .i64 w ai ni ci (rows.getD i [])
theorem IsM.below {w w' : World} {a : Option Addr} {n c : Nat} {rows : List (List Int)} (h : IsM w a n c rows) (hb : Below w.heap.size w w') : IsM w' a n c rows := ⟨h.hl, h.hc, h.hm, h.nil, fun i hi => by
  obtain ⟨b, off, ai, ni, ci, h1, h2, h3, h4⟩ := h.rd i hi
  exact ⟨b, off, ai, ni, ci, h1, Nat.lt_of_lt_of_le h2 hb.size, (hb.cell (p := ⟨b, off + i, none⟩) h2).trans h3, h4.below hb⟩⟩
theorem IsM.isSS {w0 w : World} {a : Option Addr} {n c : Nat} {rows : List (List Int)} (h : IsM w a n c rows) : I.IsSS (kI w0) w a n c rows := ⟨h.hl, h.hc, fun i hi => by
  obtain ⟨b, off, ai, ni, ci, h1, h2, h3, h4⟩ := h.rd i hi
  exact ⟨b, off, ai, ni, ci, h1, h3, isS_of_isI h4⟩⟩

/-- A row of the call's own so far. -/
structure St (w W : World) (ao : Option Addr) (no co : Nat) (ys : List Int) : Prop where
  i : IsI .i64 W ao no co ys
  z : no = 0 → ao = none
  b : Below w.heap.size w W
theorem St.start (w : World) : St w w none 0 0 [] := ⟨isI_nil _ _, fun _ => rfl, Below.refl _ _⟩
theorem St.put {w W w' : World} {ao : Option Addr} {no co : Nat} {ys : List Int} {x : Int} (h : St w W ao no co ys) {e : Ending} (hp : New0 W (ins ltI x ys) e w') : ∃ a n c, e = .returned (.slice a n c) ∧ St w w' a n c (ins ltI x ys) := by
  obtain ⟨a, n, c, rfl, hi, hb⟩ := hp
  have := ins_pos ltI x ys
  have := hi.hl
  exact ⟨a, n, c, rfl, hi, fun _ => by omega, h.b.trans (hb.mono h.b.size)⟩

theorem inss_snoc (l : List Int) (x : Int) : inss ltI (l ++ [x]) = ins ltI x (inss ltI l) := by simp [inss, List.foldl_append]
theorem flat_snoc (rows : List (List Int)) (i : Nat) (h : i < rows.length) : (rows.take (i + 1)).flatten = (rows.take i).flatten ++ rows.getD i [] := by
  rw [take_snocR rows i h, List.flatten_append]; simp
theorem pre_len (rows : List (List Int)) (i k : Nat) (h : i < rows.length) : ((rows.take i).flatten ++ (rows.getD i []).take k).length ≤ rows.flatten.length := by
  have e : rows.flatten = (rows.take i).flatten ++ (rows.getD i [] ++ (rows.drop (i + 1)).flatten) := by
    rw [← List.flatten_cons, ← drop_consR rows i h, ← List.flatten_append, List.take_append_drop]
  rw [e]
  simp only [List.length_append, List.length_take]
  omega

set_option maxRecDepth 20000 in
set_option maxHeartbeats 4000000 in
theorem rints_any (a : Option Addr) (n c : Nat) (rows : List (List Int)) (w : World) (h : IsM w a n c rows) (hn : n ≤ 100000) (ht : rows.flatten.length ≤ 100000) :
    Calls Try.prog 17 #[.slice a n c] w (New0 w (inss ltI rows.flatten)) := by
  have H : Hid (IsM w a n c rows) := h
  have HT : Hid (rows.flatten.length ≤ 100000 ∧ rows.length = n) := ⟨ht, h.hl⟩
  clear h ht
  go_enter Try.func17, Try.ntmps17
  go_wp2
  go_loopg [3, 4, 5] n (fun gg s3 s4 s5 wr => ∃ (i : Nat) (ao : Option Addr) (no co : Nat), s3 = .slice ao no co ∧ s4 = .int .i64 i ∧ i ≤ n ∧ n - i ≤ gg ∧ Hid (St w wr ao no co (inss ltI (rows.take i).flatten)))
  case atStart => exact ⟨0, none, 0, 0, rfl, rfl, Nat.zero_le _, Nat.le_refl _, St.start w⟩
  case round =>
    obtain ⟨i, ao, no, co, rfl, rfl, hi, hg, HS⟩ := hrel
    by_cases hlt : i < n
    · obtain ⟨b, off, ai, ni, ci, rfl, hb, hc, hI⟩ := H.out.rd i hlt
      have d0 := (HS.out.b.cell (p := ⟨b, off + i, none⟩) hb).trans hc
      have HC : Hid (b < w.heap.size ∧ w.cell? ⟨b, off + i, none⟩ = some (.slice ai ni ci) ∧ IsI .i64 w ai ni ci (rows.getD i [])) := ⟨hb, hc, hI⟩
      have hi0 : (i : Int) < (n : Int) := by omega
      have hni : ni ≤ 100000 := by
        have e1 := hI.hl
        have e3 := pre_len rows i ni (by rw [HT.out.2]; exact hlt)
        have e4 := HT.out.1
        rw [List.take_of_length_le (Nat.le_of_eq e1), List.length_append] at e3
        omega
      clear hb hc hI
      go_wp2
      go_loopg [3, 5] ni (fun gg s3 s5 wq => ∃ (k : Nat) (ao : Option Addr) (no co : Nat), s3 = .slice ao no co ∧ s5 = .int .i64 k ∧ k ≤ ni ∧ ni - k ≤ gg ∧ Hid (St w wq ao no co (inss ltI ((rows.take i).flatten ++ (rows.getD i []).take k))))
      case atStart => exact ⟨0, ao, no, co, rfl, rfl, Nat.zero_le _, Nat.le_refl _, by show St _ _ _ _ _ _; rw [List.take_zero, List.append_nil]; exact HS.out⟩
      case round =>
        obtain ⟨k, ao, no, co, rfl, rfl, hk, hg2, HS⟩ := hrel
        have d0 := (HS.out.b.cell (p := ⟨b, off + i, none⟩) HC.out.1).trans HC.out.2.1
        by_cases hlt2 : k < ni
        · have hII := HC.out.2.2.below HS.out.b
          obtain ⟨g1, o1, rfl, _, c1⟩ := hII.lt (by omega)
          have d1 := c1 k hlt2
          have hk0 : (k : Int) < (ni : Int) := by omega
          have HX : Hid ((rows.getD i []).take (k + 1) = (rows.getD i []).take k ++ [(rows.getD i []).getD k 0]) := take_snocI _ k (by rw [hII.hl]; exact hlt2)
          have hno : no ≤ 100000 := by
            have e1 := HS.out.i.hl
            have e2 := inss_le ((rows.take i).flatten ++ (rows.getD i []).take k)
            have e3 := pre_len rows i k (by rw [HT.out.2]; exact hlt)
            have e4 := HT.out.1
            omega
          have HP : Hid _ := put_any ao no co ((rows.getD i []).getD k 0) _ _ HS.out.i hno HS.out.z
          obtain ⟨x, hx⟩ : ∃ x, x = (rows.getD i []).getD k 0 := ⟨_, rfl⟩
          rw [← hx] at d1 HP HX
          clear c1 hII hx
          go_wp2_with fail
          refine Calls.mono HP.out ?_
          intro e w3 hp
          obtain ⟨a3, n3, c3, rfl, hs3⟩ := HS.out.put hp
          have HS3 : Hid (St w w3 a3 n3 c3 (inss ltI ((rows.take i).flatten ++ (rows.getD i []).take (k + 1)))) := by
            show St _ _ _ _ _ _
            rw [HX.out, ← List.append_assoc, inss_snoc]; exact hs3
          clear hp hs3 HP d1 d0
          go_wp2_with fail
          go_roundg (ni - (k + 1))
          case measure => omega
          case rel => exact ⟨k + 1, a3, n3, c3, rfl, by go_num, by omega, Nat.le_refl _, HS3.out⟩
        · have HE : Hid (St w wr ao no co (inss ltI (rows.take (i + 1)).flatten)) := by
            have h1 := HC.out.2.2.hl
            have h2 := HS.out
            rw [show (rows.getD i []).take k = rows.getD i [] from List.take_of_length_le (by omega), ← flat_snoc rows i (by rw [HT.out.2]; exact hlt)] at h2
            exact h2
          have e : k = ni := by omega
          subst e
          go_wp2
          go_roundg (n - (i + 1))
          case measure => omega
          case rel => exact ⟨i + 1, ao, no, co, rfl, by go_num, by omega, Nat.le_refl _, HE.out⟩
    · have e : i = n := by omega
      subst e
      have HE : Hid (St w wr ao no co (inss ltI rows.flatten)) := by
        have h2 := HS.out
        rw [List.take_of_length_le (by rw [HT.out.2]; omega)] at h2
        exact h2
      go_wp2
      go_ret
      exact ⟨ao, no, co, rfl, HE.out.i, HE.out.b⟩
end Go.Proofs.Ytkojbpifcflgfaa
