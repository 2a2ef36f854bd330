/- The document's own Items; few. Conditions: how the rows lie; sizes. -/
import Derived.Test.YtkojbpifcflgfaaDf
namespace Go.Proofs.Ytkojbpifcflgfaa
open Go.RowKit Go.Shelf

/-- A slice of slices of items. -/
structure IsQ (w : World) (a : Option Addr) (n c : Nat) (rows : List (List (List Int))) : Prop where
  hl : rows.length = n
  hc : n ≤ c
  hm : c ≤ maxLen
  nil : a = none → c = 0
  rd : ∀ i, i < n → ∃ b off ai ni ci, a = some ⟨b, off, none⟩ ∧ b < w.heap.size ∧ w.cell? ⟨b, off + i, none⟩ = some (.slice ai ni ci) ∧ IsR w ai ni ci (rows.getD i []) ∧ WfR (rows.getD i [])
theorem IsQ.below {w w' : World} {a : Option Addr} {n c : Nat} {rows : List (List (List Int))} (h : IsQ w a n c rows) (hb : Below w.heap.size w w') : IsQ w' a n c rows := ⟨h.hl, h.hc, h.hm, h.nil, fun i hi => by
  obtain ⟨b, off, ai, ni, ci, h1, h2, h3, h4, h5⟩ := h.rd i hi
  exact ⟨b, off, ai, ni, ci, h1, Nat.lt_of_lt_of_le h2 hb.size, (hb.cell (p := ⟨b, off + i, none⟩) h2).trans h3, h4.below hb, h5⟩⟩
theorem IsQ.rr {w : World} {a : Option Addr} {n c : Nat} {rows : List (List (List Int))} (h : IsQ w a n c rows) : IsRR w a n c rows := ⟨h.hl, h.hc, fun i hi => by
  obtain ⟨b, off, ai, ni, ci, h1, h2, h3, h4⟩ := h.rd i hi
  exact ⟨b, off, ai, ni, ci, h1, h3, h4⟩⟩

/-- A row of the call's own so far. -/
structure Sq (w W : World) (ao : Option Addr) (no co : Nat) (ys : List (List Int)) : Prop where
  i : IsR W ao no co ys
  z : no = 0 → ao = none
  b : Below w.heap.size w W
theorem Sq.start (w : World) : Sq w w none 0 0 [] := ⟨isR_nil _, fun _ => rfl, Below.refl _ _⟩
theorem Sq.put {w W w' : World} {ao : Option Addr} {no co : Nat} {ys : List (List Int)} {x : List Int} (h : Sq w W ao no co ys) {e : Ending} (hp : NewO W (ins li x ys) e w') : ∃ a n c, e = .returned (.slice a n c) ∧ Sq w w' a n c (ins li x ys) := by
  obtain ⟨a, n, c, rfl, hi, hb⟩ := hp
  have := ins_pos li x ys
  have := hi.hl
  exact ⟨a, n, c, rfl, hi, fun _ => by omega, h.b.trans (hb.mono h.b.size)⟩
theorem insL_snoc (l : List (List Int)) (x : List Int) : inss li (l ++ [x]) = ins li x (inss li l) := by simp [inss, List.foldl_append]
theorem takeQ_snoc (rows : List (List (List Int))) (k : Nat) (h : k < rows.length) : rows.take (k + 1) = rows.take k ++ [rows.getD k []] := by
  rw [List.take_succ_eq_append_getElem h]; simp [List.getD, h]
theorem dropQ_cons (rows : List (List (List Int))) (k : Nat) (h : k < rows.length) : rows.drop k = rows.getD k [] :: rows.drop (k + 1) := by
  rw [List.drop_eq_getElem_cons h]; simp [List.getD, h]
theorem flatQ_snoc (rows : List (List (List Int))) (i : Nat) (h : i < rows.length) : (rows.take (i + 1)).flatten = (rows.take i).flatten ++ rows.getD i [] := by
  rw [takeQ_snoc rows i h, List.flatten_append]; simp
theorem preQ_len (rows : List (List (List Int))) (i k : Nat) (h : i < rows.length) : ((rows.take i).flatten ++ (rows.getD i []).take k).length ≤ rows.flatten.length := by
  have e : rows.flatten = (rows.take i).flatten ++ (rows.getD i [] ++ (rows.drop (i + 1)).flatten) := by
    rw [← List.flatten_cons, ← dropQ_cons rows i h, ← List.flatten_append, List.take_append_drop]
  rw [e]
  simp only [List.length_append, List.length_take]
  omega
theorem inssL_le (xs : List (List Int)) : (inss li xs).length ≤ xs.length := by
  have h : (inss li xs).length ≤ xs.length + 0 := inss_len li xs []
  omega
theorem wf_flat {rows : List (List (List Int))} (h : ∀ i, i < rows.length → WfR (rows.getD i [])) : WfR rows.flatten := fun l hl => by
  obtain ⟨r, hr, hx⟩ := List.mem_flatten.1 hl
  obtain ⟨i, hi, e⟩ := List.mem_iff_getElem.1 hr
  have := h i hi l
  rw [show rows.getD i [] = rows[i] by simp [List.getD, hi], e] at this
  exact this hx
theorem wf_inss {l : List (List Int)} (h : WfR l) : WfR (inss li l) := fun x hx => h x ((mem_inss stoL).1 hx)
theorem pre_mem (rows : List (List (List Int))) (i k : Nat) (h : i < rows.length) : ∀ x ∈ (rows.take i).flatten ++ (rows.getD i []).take k, x ∈ rows.flatten := fun x hx => by
  have e : rows.flatten = (rows.take i).flatten ++ (rows.getD i [] ++ (rows.drop (i + 1)).flatten) := by
    rw [← List.flatten_cons, ← dropQ_cons rows i h, ← List.flatten_append, List.take_append_drop]
  rw [e]
  rcases List.mem_append.1 hx with h1 | h1
  · exact List.mem_append.2 (.inl h1)
  · exact List.mem_append.2 (.inr (List.mem_append.2 (.inl (List.mem_of_mem_take h1))))

set_option maxRecDepth 20000 in
set_option maxHeartbeats 4000000 in
theorem ritems_any (a : Option Addr) (n c : Nat) (rows : List (List (List Int))) (w : World) (h : IsQ w a n c rows) (hn : n ≤ 100000) (ht : rows.flatten.length ≤ 100000) :
    Calls Try.prog 13 #[.slice a n c] w (NewO w (inss li rows.flatten)) := by
  have H : Hid (IsQ w a n c rows) := h
  have HW : Hid (WfR rows.flatten) := wf_flat (fun i hi => by
    obtain ⟨_, _, _, _, _, _, _, _, _, h5⟩ := h.rd i (by rw [← h.hl]; exact hi)
    exact h5)
  have HT : Hid (rows.flatten.length ≤ 100000 ∧ rows.length = n) := ⟨ht, h.hl⟩
  clear h ht
  go_enter Try.func13, Try.ntmps13
  go_wp2
  go_loopg [3, 4, 5] n (fun gg s3 s4 s5 wr => ∃ (i : Nat) (ao : Option Addr) (no co : Nat), s3 = .slice ao no co ∧ s4 = .int .i64 i ∧ i ≤ n ∧ n - i ≤ gg ∧ Hid (Sq w wr ao no co (inss li (rows.take i).flatten)))
  case atStart => exact ⟨0, none, 0, 0, rfl, rfl, Nat.zero_le _, Nat.le_refl _, Sq.start w⟩
  case round =>
    obtain ⟨i, ao, no, co, rfl, rfl, hi, hg, HS⟩ := hrel
    by_cases hlt : i < n
    · obtain ⟨b, off, ai, ni, ci, rfl, hb, hc, hI, hwf⟩ := H.out.rd i hlt
      have d0 := (HS.out.b.cell (p := ⟨b, off + i, none⟩) hb).trans hc
      have HC : Hid (b < w.heap.size ∧ w.cell? ⟨b, off + i, none⟩ = some (.slice ai ni ci) ∧ IsR w ai ni ci (rows.getD i []) ∧ WfR (rows.getD i [])) := ⟨hb, hc, hI, hwf⟩
      have hi0 : (i : Int) < (n : Int) := by omega
      have hni : ni ≤ 100000 := by
        have e1 := hI.hl
        have e3 := preQ_len rows i ni (by rw [HT.out.2]; exact hlt)
        have e4 := HT.out.1
        rw [List.take_of_length_le (Nat.le_of_eq e1), List.length_append] at e3
        omega
      clear hb hc hI hwf
      go_wp2
      go_loopg [3, 5] ni (fun gg s3 s5 wq => ∃ (k : Nat) (ao : Option Addr) (no co : Nat), s3 = .slice ao no co ∧ s5 = .int .i64 k ∧ k ≤ ni ∧ ni - k ≤ gg ∧ Hid (Sq w wq ao no co (inss li ((rows.take i).flatten ++ (rows.getD i []).take k))))
      case atStart => exact ⟨0, ao, no, co, rfl, rfl, Nat.zero_le _, Nat.le_refl _, by show Sq _ _ _ _ _ _; rw [List.take_zero, List.append_nil]; exact HS.out⟩
      case round =>
        obtain ⟨k, ao, no, co, rfl, rfl, hk, hg2, HS⟩ := hrel
        have d0 := (HS.out.b.cell (p := ⟨b, off + i, none⟩) HC.out.1).trans HC.out.2.1
        by_cases hlt2 : k < ni
        · have hII := HC.out.2.2.1.below HS.out.b
          have hkl : k < (rows.getD i []).length := by rw [hII.hl]; exact hlt2
          obtain ⟨g1, o1, ax, nx, cx, rfl, _, d1, hx1⟩ := hII.rd.at hkl
          have hk0 : (k : Int) < (ni : Int) := by omega
          have HX : Hid ((rows.getD i []).take (k + 1) = (rows.getD i []).take k ++ [(rows.getD i []).getD k []]) := take_snocR _ k hkl
          have hno : no ≤ 100000 := by
            have e1 := HS.out.i.hl
            have e2 := inssL_le ((rows.take i).flatten ++ (rows.getD i []).take k)
            have e3 := preQ_len rows i k (by rw [HT.out.2]; exact hlt)
            have e4 := HT.out.1
            omega
          have hwfo : WfR (inss li ((rows.take i).flatten ++ (rows.getD i []).take k)) := wf_inss (fun l hl => HW.out l (pre_mem rows i k (by rw [HT.out.2]; exact hlt) l hl))
          have HP : Hid _ := putB_any ao no co _ ax nx cx ((rows.getD i []).getD k []) _ HS.out.i hwfo hx1 (HC.out.2.2.2 _ (getD_memR hkl)) hno HS.out.z
          obtain ⟨x, hx⟩ : ∃ x, x = (rows.getD i []).getD k [] := ⟨_, rfl⟩
          rw [← hx] at HP HX
          clear hII hx hx1 hwfo hkl
          go_wp2_with fail
          refine Calls.mono HP.out ?_
          intro e w3 hp
          obtain ⟨a3, n3, c3, rfl, hs3⟩ := HS.out.put hp
          have HS3 : Hid (Sq w w3 a3 n3 c3 (inss li ((rows.take i).flatten ++ (rows.getD i []).take (k + 1)))) := by
            show Sq _ _ _ _ _ _
            rw [HX.out, ← List.append_assoc, insL_snoc]; exact hs3
          clear hp hs3 HP d1 d0
          go_wp2_with fail
          go_roundg (ni - (k + 1))
          case measure => omega
          case rel => exact ⟨k + 1, a3, n3, c3, rfl, by go_num, by omega, Nat.le_refl _, HS3.out⟩
        · have HE : Hid (Sq w wr ao no co (inss li (rows.take (i + 1)).flatten)) := by
            have h1 := HC.out.2.2.1.hl
            have h2 := HS.out
            rw [show (rows.getD i []).take k = rows.getD i [] from List.take_of_length_le (by omega), ← flatQ_snoc rows i (by rw [HT.out.2]; exact hlt)] at h2
            exact h2
          have e : k = ni := by omega
          subst e
          go_wp2
          go_roundg (n - (i + 1))
          case measure => omega
          case rel => exact ⟨i + 1, ao, no, co, rfl, by go_num, by omega, Nat.le_refl _, HE.out⟩
    · have e : i = n := by omega
      subst e
      have HE : Hid (Sq w wr ao no co (inss li rows.flatten)) := by
        have h2 := HS.out
        rw [List.take_of_length_le (by rw [HT.out.2]; omega)] at h2
        exact h2
      go_wp2
      go_ret
      exact ⟨ao, no, co, rfl, HE.out.i, HE.out.b⟩

set_option maxRecDepth 20000 in
set_option maxHeartbeats 4000000 in
theorem few_any (a : Option Addr) (n c : Nat) (rows : List (List (List Int))) (w : World) (h : IsQ w a n c rows) :
    Calls Try.prog 10 #[.slice a n c] w fun e w' => ∃ sh : Bool, e = .returned (.bool sh) ∧ w' = w ∧ (sh = true → n ≤ 10 ∧ ∀ i, i < n → (rows.getD i []).length ≤ 60 ∧ ∀ k, k < (rows.getD i []).length → ((rows.getD i []).getD k []).length ≤ 500) := by
  have H : Hid (IsQ w a n c rows) := h
  clear h
  by_cases h10 : 10 < n
  · have h10' : (10 : Int) < (n : Int) := by omega
    go_enter Try.func10, Try.ntmps10
    go_wp2
    go_ret
    exact ⟨false, rfl, rfl, fun h => by cases h⟩
  · have h10' : ¬ (10 : Int) < (n : Int) := by omega
    go_enter Try.func10, Try.ntmps10
    go_wp2
    go_loopg [3, 4] n (fun gg s3 s4 wr => ∃ k : Nat, s3 = .int .i64 k ∧ k ≤ n ∧ n - k ≤ gg ∧ wr = w ∧ Hid (∀ i, i < k → (rows.getD i []).length ≤ 60 ∧ ∀ k, k < (rows.getD i []).length → ((rows.getD i []).getD k []).length ≤ 500))
    case atStart => exact ⟨0, rfl, Nat.zero_le _, Nat.le_refl _, rfl, fun i hi => by omega⟩
    case round =>
      obtain ⟨k, rfl, hk, hg, rfl, HT⟩ := hrel
      by_cases hlt : k < n
      · obtain ⟨b, off, ai, ni, ci, rfl, hb, d0, hI, _⟩ := H.out.rd k hlt
        have hk0 : (k : Int) < (n : Int) := by omega
        have HLn : Hid (IsR wr ai ni ci (rows.getD k [])) := hI
        clear hI
        by_cases h100 : 60 < ni
        · have h100' : (60 : Int) < (ni : Int) := by omega
          go_wp2
          go_ret
          exact ⟨false, rfl, rfl, fun h => by cases h⟩
        · have h100' : ¬ (60 : Int) < (ni : Int) := by omega
          obtain ⟨V, hV⟩ : ∃ V, V = wr := ⟨_, rfl⟩
          subst hV
          go_wp2
          go_loopg [4] ni (fun gg s4 wq => ∃ j : Nat, s4 = .int .i64 j ∧ j ≤ ni ∧ ni - j ≤ gg ∧ wq = V ∧ Hid (∀ i, i < j → ((rows.getD k []).getD i []).length ≤ 500))
          case atStart => exact ⟨0, rfl, Nat.zero_le _, Nat.le_refl _, rfl, fun i hi => by omega⟩
          case round =>
            obtain ⟨j, rfl, hj, hg2, rfl, HT2⟩ := hrel
            by_cases hlt2 : j < ni
            · obtain ⟨g1, o1, ax, nx, cx, rfl, _, d1, hx1⟩ := HLn.out.rd.at (k := j) (by rw [HLn.out.hl]; exact hlt2)
              have HXl : Hid (((rows.getD k []).getD j []).length = nx) := hx1.hl
              have hj0 : (j : Int) < (ni : Int) := by omega
              clear hx1
              by_cases h500 : 500 < nx
              · have h500' : (500 : Int) < (nx : Int) := by omega
                go_wp2
                go_ret
                exact ⟨false, rfl, rfl, fun h => by cases h⟩
              · have h500' : ¬ (500 : Int) < (nx : Int) := by omega
                have HE : Hid (∀ i, i < j + 1 → ((rows.getD k []).getD i []).length ≤ 500) := fun i hi => by
                  by_cases e : i = j
                  · rw [e, HXl.out]; omega
                  · exact HT2.out i (by omega)
                go_wp2
                go_roundg (ni - (j + 1))
                case measure => omega
                case rel => exact ⟨j + 1, by go_num, by omega, Nat.le_refl _, rfl, HE.out⟩
            · have HE : Hid (∀ i, i < k + 1 → (rows.getD i []).length ≤ 60 ∧ ∀ k, k < (rows.getD i []).length → ((rows.getD i []).getD k []).length ≤ 500) := fun i hi => by
                by_cases e : i = k
                · rw [e, HLn.out.hl]
                  exact ⟨by omega, fun m hm => HT2.out m (by omega)⟩
                · exact HT.out i (by omega)
              go_wp2
              go_roundg (n - (k + 1))
              case measure => omega
              case rel => exact ⟨k + 1, by go_num, by omega, Nat.le_refl _, rfl, HE.out⟩
      · have HE : Hid (∀ i, i < n → (rows.getD i []).length ≤ 60 ∧ ∀ k, k < (rows.getD i []).length → ((rows.getD i []).getD k []).length ≤ 500) := fun i hi => HT.out i (by omega)
        have e : k = n := by omega
        subst e
        go_wp2
        go_ret
        exact ⟨true, rfl, rfl, fun _ => ⟨by omega, HE.out⟩⟩
end Go.Proofs.Ytkojbpifcflgfaa
