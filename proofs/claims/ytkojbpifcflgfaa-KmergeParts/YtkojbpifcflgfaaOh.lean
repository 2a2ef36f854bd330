/- The contracts of had, Meet, Less. Conditions: how the rows lie; sizes. -/
import Derived.Test.YtkojbpifcflgfaaOn
namespace Go.Proofs.Ytkojbpifcflgfaa
open Go.RowKit Go.Shelf
attribute [local go_sem] Oper.semAt_some

theorem isS_w {w w' U : World} {a : Option Addr} {n c : Nat} {xs : List Int} (h : I.IsS (kI w) U a n c xs) : I.IsS (kI w') U a n c xs := ⟨h.len, h.le, h.max, h.nil, h.rd⟩
theorem isSS_w {w w' U : World} {a : Option Addr} {n c : Nat} {rows : List (List Int)} (h : I.IsSS (kI w) U a n c rows) : I.IsSS (kI w') U a n c rows := ⟨h.len, h.le, fun i hi => by
  obtain ⟨b, off, ai, ni, ci, h1, h2, h3⟩ := h.rd i hi
  exact ⟨b, off, ai, ni, ci, h1, h2, isS_w h3⟩⟩
def hasI (x : Int) (r : List Int) : Bool := r.any (fun y => cfI y x == 0)
/-- The numbers that so many rows have. -/
def hads (many : Nat) (rows : List (List Int)) : List Int := (inss ltI rows.flatten).filter (fun x => rows.countP (hasI x) == many)
theorem mt_had {w : World} {rows : List (List Int)} {xs : List (Int × Nat)} (many : Nat) (h : I.Mt (kI w) rows xs) : (xs.filter (fun p => p.2 == many)).map (·.1) = hads many rows := by
  unfold hads
  rw [← mt_ints h]
  have hc : ∀ p ∈ xs, p.2 = rows.countP (hasI p.1) := h.cnt
  clear h
  induction xs with
  | nil => rfl
  | cons p r ih =>
    have h1 := hc p (by simp)
    have h2 := ih (fun q hq => hc q (List.mem_cons_of_mem _ hq))
    rw [List.map_cons, List.filter_cons, List.filter_cons, ← h1]
    split
    · rw [List.map_cons, h2]
    · exact h2

def CiH (w : World) (many : Nat) (D : Nat) (pre : List (Int × Nat)) (W : World) : Prop := Ci w w.heap.size D ((pre.filter (fun p => p.2 == many)).map (·.1)) W

set_option maxRecDepth 100000 in
set_option maxHeartbeats 8000000 in
theorem had_in (many : Nat) (a : Option Addr) (n c : Nat) (rows : List (List Int)) (w : World) (h : I.IsSS (kI w) w a n c rows) (hn : n ≤ 1000) (ht : I.tot rows ≤ 1000000) (hl : ∀ i, (rows.getD i []).length ≤ 1000000) :
    CallsIn Fence.wide 9 Try.prog 31 #[.int .i64 (many : Int), .slice a n c] w fun e w' => ∃ v, e = .returned v ∧ w'.ownsRow w.heap.size 3 1 v (hads many rows).length ((hads many rows).map (Value.int .i64)) ∧ Below w.heap.size w w' := by
  obtain ⟨i0, hi0, hz0, hz1, hz2⟩ := info_parts Try.info3'
  have H : Hid (I.IsSS (kI w) w a n c rows ∧ I.tot rows ≤ 1000000 ∧ ∀ i, (rows.getD i []).length ≤ 1000000) := ⟨h, ht, hl⟩
  have hm : ∀ V, Calls Try.prog 28 #[.func (.func 29) #[] #[], .slice a n c] V fun e w' => e = .returned (.func (.func 39) #[] #[.pointer (some ⟨V.heap.size, 0, none⟩), .pointer (some ⟨V.heap.size + 1, 0, none⟩)]) ∧ w' = (V.alloc (.cells #[.func (.func 29) #[] #[]] 53)).alloc (.cells #[.slice a n c] 29) := fun V => I.merged_any (kI w) a n c V
  have HM : Hid _ := hm
  clear h ht hl hm
  refine callsIn_of_wp_marks Try.func31 rfl trivial ?_ rfl
  simp only [Try.ntmps31, List.size_toArray, List.length_cons, List.length_nil, Nat.reduceAdd, Nat.reduceSub, Array.replicate_succ, Array.replicate_zero, List.push_toArray, List.append_toArray, List.nil_append, List.cons_append]
  gi_wp2_with (refine ⟨trivial, ?_⟩; gi_at_call 28; refine (callsIn_wide.2 (HM.out _)).mono ?_; rintro e w3 ⟨rfl, rfl⟩)
  simp only [Nat.add_assoc, Nat.reduceAdd]
  obtain ⟨w1, hw1⟩ : ∃ w1, w1 = w.alloc (.cells #[.int .i64 (many : Int)] 3) := ⟨_, rfl⟩
  have hs1 : w1.heap.size = w.heap.size + 1 := by rw [hw1]; simp
  have hb1 : Below w.heap.size w w1 := by rw [hw1]; exact (Below.refl _ _).alloc (Nat.le_refl _) _
  have hc1 : Boxed w1 w.heap.size 3 (.int .i64 (many : Int)) := by rw [hw1]; exact Boxed.new _ _ _
  rw [← hw1]
  clear hw1
  have r1 : w.heap.size + 1 = w1.heap.size := hs1.symm
  have r2 : w.heap.size + 2 = w1.heap.size + 1 := by omega
  have r3 : w.heap.size + 3 = w1.heap.size + 2 := by omega
  rw [r3, r2, r1]
  have HS1 : Hid (w1.heap.size = w.heap.size + 1) := hs1
  have HS : Hid (I.IsSS (kI w1) w1 a n c rows) := isSS_w (H.out.1.below hb1 (Nat.le_refl _))
  clear hs1 r1 r2 r3
  have q0 : Boxed (((w1.alloc (.cells #[.slice none 0 0] 30)).alloc (.cells #[.func (.func 29) #[] #[]] 53)).alloc (.cells #[.slice a n c] 29)) w1.heap.size 30 (.slice none 0 0) := ((Boxed.new w1 30 _).alloc _).alloc _
  have q1 : Boxed (((w1.alloc (.cells #[.slice none 0 0] 30)).alloc (.cells #[.func (.func 29) #[] #[]] 53)).alloc (.cells #[.slice a n c] 29)) (w1.heap.size + 1) 53 (.func (.func 29) #[] #[]) := by
    have := (Boxed.new (w1.alloc (.cells #[.slice none 0 0] 30)) 53 (.func (.func 29) #[] #[])).alloc (.cells #[.slice a n c] 29)
    rwa [World.size_alloc] at this
  have q2 : Boxed (((w1.alloc (.cells #[.slice none 0 0] 30)).alloc (.cells #[.func (.func 29) #[] #[]] 53)).alloc (.cells #[.slice a n c] 29)) (w1.heap.size + 2) 29 (.slice a n c) := by
    have := Boxed.new ((w1.alloc (.cells #[.slice none 0 0] 30)).alloc (.cells #[.func (.func 29) #[] #[]] 53)) 29 (.slice a n c)
    rwa [World.size_alloc, World.size_alloc] at this
  have hal : Below w1.heap.size w1 (((w1.alloc (.cells #[.slice none 0 0] 30)).alloc (.cells #[.func (.func 29) #[] #[]] 53)).alloc (.cells #[.slice a n c] 29)) := (((Below.refl _ _).alloc (Nat.le_refl _) _).alloc (by simp) _).alloc (by simp; omega) _
  have hsz : (((w1.alloc (.cells #[.slice none 0 0] 30)).alloc (.cells #[.func (.func 29) #[] #[]] 53)).alloc (.cells #[.slice a n c] 29)).heap.size = w1.heap.size + 3 := by simp
  obtain ⟨W0, hW0⟩ : ∃ W0, W0 = (((w1.alloc (.cells #[.slice none 0 0] 30)).alloc (.cells #[.func (.func 29) #[] #[]] 53)).alloc (.cells #[.slice a n c] 29)) := ⟨_, rfl⟩
  rw [← hW0] at q0 q1 q2 hal hsz ⊢
  clear hW0 HM
  refine wpIn_rangeW (n := 9) (by decide) (gf := 39) (lb := #[.pointer (some ⟨w1.heap.size + 1, 0, none⟩), .pointer (some ⟨w1.heap.size + 2, 0, none⟩)]) rfl (enters_of Try.func39 (by kernel_rfl) rfl)
    (I.merged_in (okI w1) (totI w1) 8 (w1.heap.size + 1) (w1.heap.size + 2) a n c rows W0 q1.cell q2.cell (by omega) (by omega) hal (by show w1.heap.size ≤ _; omega) (fun U hU => HS.out.below hU (Nat.le_refl _)) hn H.out.2.1 H.out.2.2)
    (fun j hj h => by show False; have h' : j < w1.heap.size ∨ j = w1.heap.size + 1 := h; omega) (Below.refl _ _) (fun _ => rfl)
    (CiH w1 many)
    (fun D s U V h _ _ hk => Ci.kept (show Ci _ _ _ _ _ from h) (by omega) hk)
    ?h0
    (fun x => { tmps := #[.int .i64 (many : Int), .slice a n c, .pointer (some ⟨w.heap.size, 0, none⟩), undef, .slice none 0 0, .pointer (some ⟨w1.heap.size, 0, none⟩), .int .i64 x.1, .int .i64 (x.2 : Int), .slice a n c, .func (.func 39) #[] #[.pointer (some ⟨w1.heap.size + 1, 0, none⟩), .pointer (some ⟨w1.heap.size + 2, 0, none⟩)], .int .i64 x.1, .int .i64 (x.2 : Int), undef, undef, undef, undef, undef, undef, undef, undef], defers := [] })
    ?assign ?body ?done
  case h0 =>
    intro V hV hs
    exact ⟨⟨.slice none 0 0, (hV.block _ (by omega)).trans q0, World.ownsRow_nil _ _ _ _⟩, hal.trans (hV.mono (by omega))⟩
  case assign =>
    intro l x W K hK
    dsimp only [I.encP, kI]
    simp only [List.zip_toArray, List.zip_cons_cons, List.zip_nil_right, List.foldl_toArray', List.foldl_cons, List.foldl_nil, List.setIfInBounds_toArray, List.set_cons_succ, List.set_cons_zero, List.size_toArray, List.length_cons, List.length_nil]
    gi_wp2
    exact hK
  case body =>
    intro l D pre x W hI hD hr hsp
    have hI : Ci w1 w1.heap.size D ((pre.filter (fun p => p.2 == many)).map (·.1)) W := hI
    have cm : W.cell? ⟨w.heap.size, 0, none⟩ = some (.int .i64 (many : Int)) := (hI.bl.cell (p := ⟨w.heap.size, 0, none⟩) (by show w.heap.size < w1.heap.size; have := HS1.out; omega)).trans hc1.cell
    by_cases hx : x.2 = many
    · have hx' : (x.2 : Int) = (many : Int) := by omega
      have ef : (pre ++ [x]).filter (fun p => p.2 == many) = pre.filter (fun p => p.2 == many) ++ [x] := by simp [hx]
      obtain ⟨ys, hys⟩ : ∃ ys, ys = (pre.filter (fun p => p.2 == many)).map (·.1) := ⟨_, rfl⟩
      have hyl : ys.length ≤ pre.length := by rw [hys, List.length_map]; exact List.length_filter_le _ _
      have e1 : ((pre ++ [x]).filter (fun p => p.2 == many)).map (·.1) = ys ++ [x.1] := by rw [ef, List.map_append, ← hys]; rfl
      rw [← hys] at hI
      obtain ⟨v, b1, b2⟩ := hI.row
      have HN : Hid _ := fun V h => Ci.next (w := w1) (W := W) (V := V) (B := w1.heap.size) (D := D) (r := w1.heap.size + 3) (n0 := w1.heap.size) (b1 := w1.heap.size + 1) (ys := ys) (v := v) (o := .cells #[.int .i64 x.1] 3) b1 b2 hI.bl (by omega) (by omega) (Nat.le_refl _) (by omega) (by omega) h
      have c0 := b1.cell
      have HO : Hid (W.ownsRow D 3 1 v ys.length (ys.map (Value.int .i64)) ∧ D ≤ W.heap.size) := ⟨b2, hD⟩
      have HL : Hid (ys.length + 1 ≤ 1000000) := by
        have h1 : (pre ++ [x]).length ≤ I.tot rows := hsp.1
        have h2 := H.out.2.1
        rw [List.length_append, List.length_singleton] at h1
        show _ ≤ _
        omega
      obtain ⟨m, hm⟩ : ∃ m, m = ys.length := ⟨_, rfl⟩
      rw [← hm] at HN HO HL
      obtain ⟨L, hL⟩ : ∃ L, L = ys.map (Value.int .i64) := ⟨_, rfl⟩
      rw [← hL] at HN HO
      have hO1 : (W.alloc (.cells #[.int .i64 x.1] 3)).ownsRow D 3 1 v m L := HO.out.1.alloc _
      have hl1 : m + 1 ≤ maxLen := by have := HL.out; unfold maxLen; omega
      have hl2 : (m + 1) * 8 ≤ 140737488355328 := by have := HL.out; omega
      have E1 : Hid _ := e1
      clear b1 b2 hI hsp hm hL e1 ef hys hyl hx
      gi_wp2_with (gi_at_builtin; refine wpListIn_append_own _ rfl (.tmp 15) (.tmp 17) 30 rfl D 3 i0 _ 1 8 Try.underlying30 hi0 hz0 hz1 hz2 rfl (by decide) v m L rfl hO1 ⟨W.heap.size, 0, none⟩ 1 1 [.int .i64 x.1] rfl rfl (I.at_one (by simp)) (by intro u hu; simp at hu; subst hu; rfl) hl1 hl2 (by simp; have := HO.out.2; omega) ?_
                   intro v' w2 hown' hgrow _
                   obtain ⟨cN, zN, hNx⟩ := HN.out _ hgrow
                   have HNx : Hid _ := hNx v' x.1 hown'
                   obtain ⟨a', c', rfl⟩ := I.own_slice hown'
                   clear hNx hown' hgrow)
      exact ⟨by rw [hsz]; exact HNx.out.2.1, by rw [hsz]; exact HNx.out.2.2, by show Ci w1 w1.heap.size D (((pre ++ [x]).filter (fun p => p.2 == many)).map (·.1)) _; rw [E1.out]; exact HNx.out.1⟩
    · have hx' : ¬ (x.2 : Int) = (many : Int) := by omega
      have ef : (pre ++ [x]).filter (fun p => p.2 == many) = pre.filter (fun p => p.2 == many) := by simp [hx]
      have HC : Hid (Ci w1 w1.heap.size D (((pre ++ [x]).filter (fun p => p.2 == many)).map (·.1)) W) := by rw [ef]; exact hI
      clear hI hx ef hsp
      gi_wp2_with fail
      exact ⟨KeepsFrom.refl _ _, ⟨rfl, rfl, rfl, Nat.le_refl _, fun _ _ _ => rfl⟩, HC.out⟩
  case done =>
    intro D xs W hS hI hD hr hK
    obtain ⟨L, hL, hM⟩ := hS
    have hmt := I.mt_of (totI w1) hL hM
    have hI : Ci w1 w1.heap.size D ((xs.filter (fun p => p.2 == many)).map (·.1)) W := hI
    obtain ⟨v, b1, b2⟩ := hI.row
    rw [mt_had many hmt] at b2
    have c0 := b1.cell
    have HF : Hid (W.heap[W0.heap.size]? = some (.deferred (some [])) ∧ W.ownsRow D 3 1 v (hads many rows).length ((hads many rows).map (Value.int .i64)) ∧ Below w.heap.size w W ∧ D ≤ W.heap.size ∧ W0.heap.size + 2 ≤ D) := ⟨hK, b2, hb1.trans (hI.bl.mono (by have := HS1.out; omega)), hD, hr⟩
    clear b1 b2 hI hL hM hmt hK
    gi_wp2_with fail
    refine ⟨by simp, .inl ⟨_, _, rfl, run_takeDeferred HF.out.1, ?_⟩⟩
    refine ⟨v, by simp [results, Try.results31, go_sem], v, rfl, ?_, ?_⟩
    · exact own_mono (ownsRow_putObj HF.out.2.1 _ HF.out.1 rfl) (by have := HF.out.2.2.2.2; have := HS1.out; omega)
    · exact HF.out.2.2.1.grown (grownBy_putObj' _ _ _) (by have := HF.out.2.2.2; have := HS1.out; omega) (fun k e => by cases e; have := HS1.out; omega)
theorem had_any (many : Nat) (a : Option Addr) (n c : Nat) (rows : List (List Int)) (w : World) (h : I.IsSS (kI w) w a n c rows) (hn : n ≤ 1000) (ht : I.tot rows ≤ 1000000) (hl : ∀ i, (rows.getD i []).length ≤ 1000000) :
    Calls Try.prog 31 #[.int .i64 (many : Int), .slice a n c] w fun e w' => ∃ v, e = .returned v ∧ w'.ownsRow w.heap.size 3 1 v (hads many rows).length ((hads many rows).map (Value.int .i64)) ∧ Below w.heap.size w w' :=
  (callsIn_wide (n := 9)).1 (had_in many a n c rows w h hn ht hl)
end Go.Proofs.Ytkojbpifcflgfaa
