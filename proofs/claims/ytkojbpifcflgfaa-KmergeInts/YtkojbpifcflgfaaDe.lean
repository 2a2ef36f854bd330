/- The document's own Meet; what the document's answers are in plain lists. Conditions: how the rows lie; sizes. -/
import Derived.Test.YtkojbpifcflgfaaDc
import Derived.Test.YtkojbpifcflgfaaDd
namespace Go.Proofs.Ytkojbpifcflgfaa
open Go.RowKit Go.Shelf

def allIn (rows : List (List Int)) (x : Int) : Bool := rows.all (fun r => decide (x ∈ r))
/-- What the document's Meet answers. -/
def mts (rows : List (List Int)) : List Int := (inss ltI rows.flatten).filter (allIn rows)
theorem mts_hads (rows : List (List Int)) : mts rows = hads rows.length rows := by
  unfold mts hads
  apply List.filter_congr
  intro x _
  rw [allIn, Bool.eq_iff_iff, List.all_eq_true, beq_iff_eq, List.countP_eq_length]
  constructor
  · intro h r hr
    rw [has_mem]; exact h r hr
  · intro h r hr
    have := h r hr
    rwa [has_mem] at this
theorem rls_lss (a b : List Int) : rls a b = lss a b := ext_inc (inss_inc stoI _) (lss_inc a b) (fun z => by
  rw [rls, mem_inss stoI, List.mem_filter, mem_lss]; simp)
theorem allIn_snoc (rows : List (List Int)) (k : Nat) (x : Int) (h : k < rows.length) : allIn (rows.take (k + 1)) x = (allIn (rows.take k) x && decide (x ∈ rows.getD k [])) := by
  rw [take_snocR rows k h]; simp [allIn]

theorem cell_newD (w : World) (q : Nat) (x : Value) (t : TypeId) : ((w.drewN q).alloc (.cells #[x] t)).cell? ⟨w.heap.size, 0, none⟩ = some x := by
  have h : ((w.drewN q).alloc (.cells #[x] t)).heap[w.heap.size]? = some (.cells #[x] t (0, 0)) := World.alloc_heap_new (w.drewN q) _
  rw [I.cell_of h]; rfl

set_option maxRecDepth 20000 in
set_option maxHeartbeats 8000000 in
theorem rmeet_any (a : Option Addr) (n c : Nat) (rows : List (List Int)) (w : World) (h : IsM w a n c rows) (hn : n ≤ 100000) (ht : rows.flatten.length ≤ 100000) (hr : ∀ i, i < n → (rows.getD i []).length ≤ 100000) :
    Calls Try.prog 19 #[.slice a n c] w (New0 w (mts rows)) := by
  obtain ⟨i0, hi0, hz0, hz1, hz2⟩ := info_parts (show (Try.prog.info? 3).map (fun i => (i.zero, i.size, i.bytes)) = some (some (.int .i64 0), 1, 8) by kernel_rfl)
  have H : Hid (IsM w a n c rows) := h
  have HT : Hid (rows.flatten.length ≤ 100000 ∧ rows.length = n ∧ ∀ i, i < n → (rows.getD i []).length ≤ 100000) := ⟨ht, h.hl, hr⟩
  have HI : Hid _ := rints_any a n c rows w h hn ht
  clear h ht hr
  go_enter Try.func19, Try.ntmps19
  go_wp2_with fail
  refine Calls.mono HI.out ?_
  rintro e w1 ⟨a1, n1, c1, rfl, h1, hb1⟩
  have HL : Hid ((inss ltI rows.flatten).length = n1) := h1.hl
  have hn1 : n1 ≤ 100000 := by
    have e1 := HL.out
    have e2 := inss_le rows.flatten
    have e3 := HT.out.1
    omega
  have HA : Hid (IsI .i64 w1 a1 n1 c1 (inss ltI rows.flatten) ∧ Below w.heap.size w w1) := ⟨h1, hb1⟩
  clear h1 hb1 HI
  go_wp2_with fail
  go_loopg [4, 5, 6, 7, 8] n1 (fun gg s4 s5 s6 s7 s8 wr => ∃ (j no : Nat), s5 = .int .i64 j ∧ j ≤ n1 ∧ n1 - j ≤ gg ∧ Hid (wr.ownsRow w1.heap.size 3 1 s4 no ((((inss ltI rows.flatten).take j).filter (allIn rows)).map (Value.int .i64)) ∧ no ≤ j ∧ Below w1.heap.size w1 wr))
  case atStart => exact ⟨0, 0, rfl, Nat.zero_le _, Nat.le_refl _, World.ownsRow_nil _ _ _ _, Nat.le_refl _, Below.refl _ _⟩
  case round =>
    obtain ⟨j, no, rfl, hj, hg, HO⟩ := hrel
    by_cases hlt : j < n1
    · have hA := HA.out.1.below HO.out.2.2
      obtain ⟨g1, o1, rfl, _, c1⟩ := hA.lt (by omega)
      have d1 := c1 j hlt
      have hj0 : (j : Int) < (n1 : Int) := by omega
      have HX : Hid ((inss ltI rows.flatten).take (j + 1) = (inss ltI rows.flatten).take j ++ [(inss ltI rows.flatten).getD j 0]) := take_snocI _ j (by rw [HL.out]; exact hlt)
      obtain ⟨x, hx⟩ : ∃ x, x = (inss ltI rows.flatten).getD j 0 := ⟨_, rfl⟩
      rw [← hx] at d1 HX
      clear c1 hA hx
      obtain ⟨V, hV⟩ : ∃ V, V = wr := ⟨_, rfl⟩
      subst hV
      go_wp2_with fail
      go_loopg [6, 7, 8] n (fun gg s6 s7 s8 wq => ∃ (k q : Nat), s6 = .bool (allIn (rows.take k) x) ∧ s7 = .int .i64 k ∧ k ≤ n ∧ n - k ≤ gg ∧ wq = V.drewN q)
      case atStart => exact ⟨0, 0, rfl, rfl, Nat.zero_le _, Nat.le_refl _, rfl⟩
      case round =>
        obtain ⟨k, q, rfl, rfl, hk, hg2, rfl⟩ := hrel
        obtain ⟨bb, hbb⟩ : ∃ bb, bb = allIn (rows.take k) x := ⟨_, rfl⟩
        rw [← hbb]
        by_cases hlt2 : k < n
        · obtain ⟨b, off, ai, ni, ci, rfl, hb, hc, hI⟩ := H.out.rd k hlt2
          have hbv : Below w.heap.size w V := HA.out.2.trans (HO.out.2.2.mono HA.out.2.size)
          have d0 := (hbv.cell (p := ⟨b, off + k, none⟩) hb).trans hc
          have hIV := hI.below hbv
          have hni : ni ≤ 1000000 := by
            have e1 := hI.hl
            have e2 := HT.out.2.2 k hlt2
            omega
          have hq : ∀ z, Calls Try.prog 23 #[.slice ai ni ci, .int .i64 x] (V.drewN (q + z)) fun e w' => e = .returned (.bool (decide (x ∈ rows.getD k []))) ∧ ∃ p, w' = V.drewN (q + p) := fun z =>
            (inI_any ai ni ci x (rows.getD k []) (V.drewN (q + z)) (hIV.below (below_dr' _ _ _)) hni).mono fun _ _ ⟨h1, h2⟩ => ⟨h1, z, h2⟩
          have hk0 : (k : Int) < (n : Int) := by omega
          have HS : Hid (allIn (rows.take (k + 1)) x = (bb && decide (x ∈ rows.getD k []))) := by
            show _ = _
            rw [hbb]; exact allIn_snoc rows k x (by rw [HT.out.2.1]; exact hlt2)
          obtain ⟨mm, hmm⟩ : ∃ mm, mm = decide (x ∈ rows.getD k []) := ⟨_, rfl⟩
          rw [← hmm] at HS
          simp only [← hmm] at hq
          have Hq : Hid _ := hq
          clear hb hc hI hbv hIV hq hbb hmm hni
          cases bb with
          | true =>
            go_wp2_with fail
            go_quiet (first | (go_at_call 23; exact Hq.out _))
            go_wp2
            go_roundg (n - (k + 1))
            case measure => omega
            case rel => exact ⟨k + 1, q + nq, by rw [HS.out]; rfl, by go_num, by omega, Nat.le_refl _, rfl⟩
          | false =>
            go_wp2_with fail
            go_quiet (first | (go_at_call 23; exact Hq.out _))
            go_wp2
            go_roundg (n - (k + 1))
            case measure => omega
            case rel => exact ⟨k + 1, q + nq, by rw [HS.out]; rfl, by go_num, by omega, Nat.le_refl _, rfl⟩
        · have e : k = n := by omega
          have HB : Hid (bb = allIn rows x) := by
            show _ = _
            rw [hbb, List.take_of_length_le (by rw [HT.out.2.1]; omega)]
          subst e
          clear hbb
          cases bb with
          | true =>
            have HF : Hid (((inss ltI rows.flatten).take (j + 1)).filter (allIn rows) = ((inss ltI rows.flatten).take j).filter (allIn rows) ++ [x]) := by
              show _ = _
              rw [HX.out, List.filter_append]
              congr 1
              simp [← HB.out]
            have hno : no + 1 ≤ 100001 := by have := HO.out.2.1; omega
            have HB2 : Hid (Below w1.heap.size w1 (V.drewN q)) := HO.out.2.2.trans (below_dr' _ _ q)
            go_wp2_with (first
              | (
                    at_builtin
                    refine wpList_append_any _ rfl (.tmp 37) (.tmp 42) 30 rfl w1.heap.size 3 i0 (.int .i64 0) 1 8 Try.underlying30 hi0 hz0 hz1 hz2 rfl (by decide) u4 no _ rfl ((own_below HO.out.1 (below_dr' _ _ q)).alloc _) (some ⟨V.heap.size, 0, none⟩) 1 1 [.int .i64 x] rfl rfl (fun h => by cases h) (fun ad e j u hu => by cases e; exact I.at_one (cell_newD V q (.int .i64 x) 3) j u hu) (by intro u hu; simp at hu; subst hu; rfl) (by unfold maxLen; omega) (by omega) (Nat.le_trans HB2.out.size (by simp)) ?_
                    intro v2 w2 ho2 hg2
                    have H2 : Hid (w2.ownsRow w1.heap.size 3 1 v2 (no + 1) ((((inss ltI rows.flatten).take (j + 1)).filter (allIn rows)).map (Value.int .i64)) ∧ no + 1 ≤ j + 1 ∧ Below w1.heap.size w1 w2) := ⟨by rw [HF.out, List.map_append]; exact ho2, by have := HO.out.2.1; omega, grown1 (HB2.out.alloc HB2.out.size _) ((own_below HO.out.1 (below_dr' _ _ q)).alloc _) hg2⟩
                    clear ho2 hg2))
            go_roundg (n1 - (j + 1))
            case measure => omega
            case rel => exact ⟨j + 1, no + 1, by go_num, by omega, Nat.le_refl _, H2.out⟩
          | false =>
            have HF : Hid (((inss ltI rows.flatten).take (j + 1)).filter (allIn rows) = ((inss ltI rows.flatten).take j).filter (allIn rows)) := by
              show _ = _
              rw [HX.out, List.filter_append]
              simp [← HB.out]
            have H2 : Hid ((V.drewN q).ownsRow w1.heap.size 3 1 u4 no ((((inss ltI rows.flatten).take (j + 1)).filter (allIn rows)).map (Value.int .i64)) ∧ no ≤ j + 1 ∧ Below w1.heap.size w1 (V.drewN q)) := ⟨by rw [HF.out]; exact own_below HO.out.1 (below_dr' _ _ q), by have := HO.out.2.1; omega, HO.out.2.2.trans (below_dr' _ _ q)⟩
            go_wp2
            go_roundg (n1 - (j + 1))
            case measure => omega
            case rel => exact ⟨j + 1, no, by go_num, by omega, Nat.le_refl _, H2.out⟩
    · have HE : Hid (wr.ownsRow w1.heap.size 3 1 u4 no ((mts rows).map (Value.int .i64)) ∧ Below w1.heap.size w1 wr) := by
        have h2 := HO.out
        rw [List.take_of_length_le (by rw [HL.out]; omega)] at h2
        exact ⟨h2.1, h2.2.2⟩
      obtain ⟨a4, c4, rfl, h4⟩ := own_isI (k := .i64) HE.out.1
      have HR : Hid (IsI .i64 wr a4 no c4 (mts rows) ∧ Below w.heap.size w wr) := ⟨h4, HA.out.2.trans (HE.out.2.mono HA.out.2.size)⟩
      have e : j = n1 := by omega
      subst e
      clear h4 HE
      go_wp2
      go_ret
      exact ⟨a4, no, c4, rfl, HR.out.1, HR.out.2⟩
end Go.Proofs.Ytkojbpifcflgfaa
