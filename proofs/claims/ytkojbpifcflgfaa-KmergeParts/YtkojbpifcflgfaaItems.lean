/- The law KmergeItems: Items is the document's. Conditions: none beyond the statement's own. -/
import Derived.Test.YtkojbpifcflgfaaDg
import Derived.Test.YtkojbpifcflgfaaSr
namespace Go.Proofs.Ytkojbpifcflgfaa
open Go.ChangeShapes Go.WideShapes Go.ChangeAt Go.RowKit Go.Lib
theorem bytes_wf {ms : List Int} (h : ∀ n ∈ ms, Lit.wf (.int .u8 n) = true) : Bytes ms := by
  intro n hn
  simpa [Lit.wf, IntKind.min, IntKind.max, IntKind.signed, IntKind.bits] using h n hn
theorem isR_of {H : Type} {enc : TypeId × Value → H} {W : World} {base : Nat} {held : Bool} {a : Option Addr} {len cap fuel : Nat} {x : DataW H × List MemPlace}
    (h : DataW.trod enc Try.prog W base (fun _ => true) held fuel 26 [.slice a len cap] = some x) : ∃ ls, IsR W a len cap ls ∧ WfR ls := by
  rcases Deep.open_int_rows Try.underlying26 Try.underlying41 Try.underlying5 (by kernel_rfl) (by kernel_rfl) h with ⟨hcs, _⟩ | ⟨ad, l, c, A, L, C, Z, hcs, _, hl, hm, _, hr⟩
  · simp at hcs
    obtain ⟨rfl, rfl, rfl⟩ := hcs
    exact ⟨[], isR_nil _, fun l hl => by simp at hl⟩
  · simp at hcs
    obtain ⟨rfl, rfl, rfl⟩ := hcs
    have hgd : ∀ i, i < len → ((List.range len).map fun r => (Z r).take (L r)).getD i [] = (Z i).take (L i) := fun i hi => by simp [List.getD, hi]
    have hI : ∀ r, r < len → IsI .u8 W (A r) (L r) (C r) ((Z r).take (L r)) ∧ Bytes ((Z r).take (L r)) := fun r hr' => by
      obtain ⟨h1, h2, h3, h4, h5, h6, h7⟩ := hr r (by omega)
      refine ⟨⟨by simp; omega, h2, h3, ?_, h6⟩, bytes_wf fun n hn => h5 n (List.mem_of_mem_take hn)⟩
      by_cases hz : L r = 0
      · exact .inl (by simp [hz])
      · cases hA : A r with
        | none => have := h6 hA; omega
        | some a' =>
          obtain ⟨b', off', spot'⟩ := a'
          have hc' := (h7 _ hA).2
          have hc0 := hc' 0 (by omega)
          have hspot' : spot' = none := by simpa [Addr.add] using World.cell?_spot hc0
          subst hspot'
          have hb' : b' < W.heap.size := by
            have := World.block_lt_of_cell? W _ hc0
            simpa [Addr.add] using this
          refine .inr ⟨b', off', rfl, hb', fun i hi => ?_⟩
          simp only [List.length_take] at hi
          have := hc' i (by omega)
          rw [Addr.add_lit] at this
          rw [this]
          congr 2
          simp [List.getD, show i < L r by omega]
    refine ⟨(List.range len).map fun r => (Z r).take (L r), ⟨by simp, hl, hm, ?_, fun h => by cases h⟩, fun l hl' => ?_⟩
    · by_cases h0 : len = 0
      · exact .inl (by simp [h0])
      · obtain ⟨b, off, spot⟩ := ad
        have hc := (hr 0 (by omega)).1
        have hspot : spot = none := by simpa [Addr.add] using World.cell?_spot hc
        subst hspot
        have hb : b < W.heap.size := by
          have := World.block_lt_of_cell? W _ hc
          simpa [Addr.add] using this
        refine .inr ⟨b, off, rfl, hb, fun r hr' => ?_⟩
        simp at hr'
        refine ⟨A r, L r, C r, ?_, ?_⟩
        · have := (hr r (by omega)).1; rw [Addr.add_lit] at this; exact this
        · rw [hgd r hr']; exact (hI r hr').1
    · obtain ⟨r, hr', rfl⟩ := List.mem_map.1 hl'
      exact (hI r (by simpa using hr')).2

theorem isQ_of {H : Type} {enc : TypeId × Value → H} {W : World} {base : Nat} {held : Bool} {a : Option Addr} {len cap fuel : Nat} {x : DataW H × List MemPlace}
    (h : DataW.trod enc Try.prog W base (fun _ => true) held fuel 22 [.slice a len cap] = some x) : ∃ rows, IsQ W a len cap rows := by
  rcases Go.Deep.open_slice1 Try.underlying22 (by kernel_rfl) h with ⟨hcs, _⟩ | ⟨ad, l, c, m, nn, V, D, Pl, hcs, _, hl, hm, hmm, _, hx⟩
  · simp at hcs
    obtain ⟨rfl, rfl, rfl⟩ := hcs
    exact ⟨[], rfl, Nat.le_refl _, Nat.zero_le _, fun _ => rfl, fun i hi => by omega⟩
  · simp at hcs
    obtain ⟨rfl, rfl, rfl⟩ := hcs
    simp only [if_true] at hmm
    subst hmm
    have each : ∀ i, i < len → ∃ y : Option Addr × Nat × Nat × List (List Int), V i = .slice y.1 y.2.1 y.2.2.1 ∧ IsR W y.1 y.2.1 y.2.2.1 y.2.2.2 ∧ WfR y.2.2.2 := fun i hi => by
      have ht := (hx i (by omega)).2
      obtain ⟨ai, ni, ci, e⟩ : ∃ ai ni ci, V i = .slice ai ni ci := by
        rcases Go.Deep.open_slice1 Try.underlying26 (by kernel_rfl) ht with ⟨hcs, _⟩ | ⟨_, _, _, _, _, _, _, _, hcs, _⟩
        · exact ⟨_, _, _, by simpa using hcs⟩
        · exact ⟨_, _, _, by simpa using hcs⟩
      rw [e] at ht
      obtain ⟨ls, h1, h2⟩ := isR_of ht
      exact ⟨(ai, ni, ci, ls), e, h1, h2⟩
    obtain ⟨y, hy⟩ := Go.Deep.choose_lt each
    refine ⟨(List.range len).map (fun r => (y r).2.2.2), by simp, hl, hm, (fun h => by cases h), fun i hi => ?_⟩
    obtain ⟨b, off, spot⟩ := ad
    have cz := (hx 0 (by omega)).1
    have hspot : spot = none := by simpa [Addr.add] using World.cell?_spot cz
    subst hspot
    have hb : b < W.heap.size := by
      have := World.block_lt_of_cell? W _ cz
      simpa [Addr.add] using this
    obtain ⟨e, h1, h2⟩ := hy i hi
    have c1 := (hx i (by omega)).1
    rw [Addr.add_lit, e] at c1
    rw [show ((List.range len).map (fun r => (y r).2.2.2)).getD i [] = (y i).2.2.2 by simp [List.getD, hi]]
    exact ⟨b, off, _, _, _, rfl, hb, c1, h1, h2⟩

theorem fo_own {D : Nat} {W : World} : ∀ {xs : List Value} {ls : List (List Int)}, OwnBs D W xs ls → Fo W xs ls
  | [], [], _ => trivial
  | x :: xs, l :: ls, h => by
    obtain ⟨a, c, e, hi⟩ := own_isI (k := .u8) h.1
    exact ⟨⟨a, _, c, e, hi⟩, fo_own h.2⟩
theorem newO_of {w : World} {ls : List (List Int)} {e : Ending} {w' : World} (h : NewB w ls e w') : NewO w ls e w' := by
  obtain ⟨v, xs, rfl, h1, h2, h3⟩ := h
  exact own_newO h1 (fo_own h2) h3
theorem flatQ_le (m : Nat) : ∀ rows : List (List (List Int)), (∀ i, i < rows.length → (rows.getD i []).length ≤ m) → rows.flatten.length ≤ rows.length * m
  | [], _ => by simp
  | r :: rows, h => by
    have h1 := flatQ_le m rows (fun i hi => by simpa using h (i + 1) (by simp; omega))
    have h2 : r.length ≤ m := by simpa using h 0 (by simp)
    rw [List.flatten_cons, List.length_append, List.length_cons, Nat.add_mul]
    omega

set_option maxRecDepth 100000 in
set_option maxHeartbeats 8000000 in
theorem kmergeItems_walk {w0 : World} (a0 : Option Addr) (n0 c0 : Nat) (rows : List (List (List Int))) (h0 : IsQ w0 a0 n0 c0 rows) {w : World} (hw : w = w0) :
    Calls Try.prog 3 #[.slice a0 n0 c0] w fun e w' => e = .returned (.bool true) ∧ Below w.heap.size w w' := by
  subst hw
  have H : Hid (∀ U, Below w.heap.size w U → IsQ U a0 n0 c0 rows) := fun U hU => h0.below hU
  have HL : Hid (rows.length = n0) := h0.hl
  have HW : Hid (WfR (inss li rows.flatten)) := wf_inss (wf_flat (fun i hi => by
    obtain ⟨_, _, _, _, _, _, _, _, _, h5⟩ := h0.rd i (by rw [← h0.hl]; exact hi)
    exact h5))
  have HA : Hid _ := awake_any w
  clear h0
  go_enter Try.func3, Try.ntmps3
  go_wp2_with fail
  refine Calls.mono HA.out ?_
  rintro e w1 ⟨rfl, hb1⟩
  have B1 : Hid (Below w.heap.size w w1) := hb1
  have K : Hid _ := few_any a0 n0 c0 rows w1 (H.out w1 hb1)
  clear hb1 HA
  go_wp2_with fail
  refine Calls.mono K.out ?_
  rintro e w1 ⟨sh, rfl, rfl, hsh⟩
  have HSh : Hid _ := hsh
  clear K hsh
  cases sh with
  | false =>
    go_wp2
    go_ret
    exact ⟨rfl, B1.out⟩
  | true =>
    have hsm := HSh.out rfl
    have hl60 : ∀ i, (rows.getD i []).length ≤ 60 := fun i => by
      by_cases hi : i < n0
      · exact (hsm.2 i hi).1
      · rw [show rows.getD i [] = [] by simp [List.getD, List.getElem?_eq_none (show rows.length ≤ i by rw [HL.out]; omega)]]
        exact Nat.zero_le _
    have hfl : rows.flatten.length ≤ 600 := by
      have := flatQ_le 60 rows (fun i _ => hl60 i)
      have := HL.out
      have := hsm.1
      omega
    have hb : ∀ r ∈ rows, ∀ x ∈ r, x.length ≤ 1000000 := fun r hr x hx => by
      obtain ⟨i, hi, e⟩ := List.mem_iff_getElem.1 hr
      obtain ⟨k, hk, e2⟩ := List.mem_iff_getElem.1 hx
      have er : rows.getD i [] = r := by rw [← e]; simp [List.getD, hi]
      have h1 := (hsm.2 i (by rw [← HL.out]; exact hi)).2 k (by rw [er]; exact hk)
      rw [er, show r.getD k [] = x by rw [← e2]; simp [List.getD, hk]] at h1
      omega
    have ht : (rows.map List.length).sum ≤ 1000000 := by rw [← List.length_flatten]; omega
    have K : Hid _ := Calls.mono (items_any a0 n0 c0 rows w1 (H.out w1 B1.out).rr (by have := hsm.1; omega) ht (fun i => Nat.le_trans (hl60 i) (by omega)) hb) (fun _ _ h => newO_of h)
    have hfl2 : Hid (rows.flatten.length ≤ 600 ∧ n0 ≤ 10) := ⟨hfl, hsm.1⟩
    clear hsm HSh hl60 hfl hb ht
    go_wp2_with fail
    refine Calls.mono K.out ?_
    rintro e w2 ⟨ao, no, co, rfl, hi, hb⟩
    have B2 : Hid (IsR w2 ao no co (inss li rows.flatten) ∧ Below w.heap.size w w2) := ⟨hi, B1.out.trans (hb.mono B1.out.size)⟩
    clear hi hb K
    have K : Hid _ := ritems_any a0 n0 c0 rows w2 (H.out w2 B2.out.2) (by have := hfl2.out.2; omega) (by have := hfl2.out.1; omega)
    go_wp2_with fail
    refine Calls.mono K.out ?_
    rintro e w3 ⟨ap, np, cp, rfl, hi, hb⟩
    have B3 : Hid (IsR w3 ao no co (inss li rows.flatten) ∧ IsR w3 ap np cp (inss li rows.flatten) ∧ Below w.heap.size w w3) := ⟨B2.out.1.below hb, hi, B2.out.2.trans (hb.mono B2.out.2.size)⟩
    clear hi hb K
    have K : Hid _ := same_any ao no co _ ap np cp _ w3 B3.out.1 HW.out B3.out.2.1 HW.out
    go_wp2_with fail
    refine Calls.mono K.out ?_
    rintro e w4 ⟨he, hb⟩
    have he2 : e = .returned (.bool true) := by rw [he]; simp
    clear he
    subst he2
    have B4 : Hid (Below w.heap.size w w4) := B3.out.2.2.trans (hb.mono B3.out.2.2.size)
    clear hb K
    go_wp2_with fail
    go_ret
    exact ⟨rfl, B4.out⟩
set_option maxRecDepth 100000 in
theorem kmergeItems_lifted (os : Os) (started : os.Started) (H : Type) (enc : TypeId × Value → H) :
    ReturnsInHanded {} Try.checked os 3 .any (Rows.kmergeItemsSpec.pre6 enc Try.prog Try.f3 Rows.kmergeItemsRow.domain false) (Rows.kmergeItemsSpec.post enc Try.prog Try.f3 false true false false) := by
  refine returnsInHanded_of_change (C := Try.checked) own started (by kernel_rfl) Try.func3
    (ChangeSpec.witness6 (enc := enc) (C := Try.checked) false ⟨#[], #[.slice none 0 0], []⟩ 8 (by kernel_rfl) (by kernel_rfl) (by kernel_rfl) (by kernel_rfl)) ?_
  intro W base args ds gs before hval0 hW hcnd _
  have hval : ∀ (j : Nat) t v, Try.f3.params[j]? = some t → args[j]? = some v → Value.okWide Try.prog W .any base t v := hval0
  have hW' := hW
  obtain ⟨p, q, hA0, hV, rfl, hfz, hnd⟩ := hW
  have hA : DataW.TrodAll enc Try.prog W 0 (fun _ => true) true Try.f3.params.toList args.toList ds p := hA0
  rw [Try.params3] at hA hval
  obtain ⟨v0, vs0, d0, ds0, p0, q0, hargs, rfl, rfl, h0, r0⟩ := trodAll_cons hA
  obtain ⟨rfl, rfl, rfl⟩ := trodAll_nil r0
  obtain rfl : args = #[v0] := by cases args; simp_all
  obtain ⟨rfl, rfl⟩ := trodVars_none hV
  obtain ⟨a0, len0, cap0, rfl⟩ := okWide_slice Try.underlying22 (hval 0 22 v0 rfl rfl)
  have k0 := h0
  have lt0 : ∀ x ∈ p0, x.block < W.heap.size := by obtain ⟨m, hm⟩ := k0; exact DataW.trod_lt m _ _ _ hm
  obtain ⟨vl0, w0⟩ : ∃ rows, IsQ W a0 len0 cap0 rows := by obtain ⟨fuel, hf⟩ := h0; exact isQ_of hf
  clear hA0 hval0
  refine (kmergeItems_walk a0 len0 cap0 vl0 w0 rfl).mono fun e W' ⟨he, hb⟩ => ?_
  subst he
  exact ⟨_, rfl, _, _, _, [], _, [], hW', trodAll_mk1 (shut_bool Try.underlying4 _), (trodAll_cons_mk (Below.trod laidOut (by kernel_rfl) (of_decide_eq_true (by kernel_rfl)) k0 hb lt0) trodAll_mk0), rfl, hb.frame _, fun h => by cases h⟩

theorem kmergeItems_holds : Rows.KmergeItemsSaid :=
  OpenClaim.holds_of_wide 3 Try.f3 rfl rfl rfl rfl rfl rfl rfl ⟨rfl, rfl, rfl, rfl, rfl⟩ rfl rfl rfl rfl rfl (by kernel_rfl) Try.func3 (by kernel_rfl)
    (of_decide_eq_true (by kernel_rfl)) (by unfold Func.isWrapper; first | (rw [if_pos (by decide +kernel)]; kernel_rfl) | (rw [if_neg (by decide +kernel)]; exact ⟨rfl, rfl⟩))
    (fun os started H enc _ => kmergeItems_lifted os started H enc)
#print axioms kmergeItems_holds
end Go.Proofs.Ytkojbpifcflgfaa
