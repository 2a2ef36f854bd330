/- The contract of bends: the numbers of Second. Conditions: 2 to 4096 numbers. -/
import Derived.Test.YtbgipenonngccaaDoorR
import Derived.Test.YtbgipenonngccaaDoorK
namespace Go.Proofs.YtbgipenonngccaaDoor
open Go.RowKit

theorem wp_region_M {P : Program} {a0 : Act} {l : List Oper} {Q : Exit → Act → World → Prop} {id : Nat} {w0 : World} (hm : P.follows .mixedOrders = true) (hB : regB l.toArray a0.tmps.size = true)
    (S : (Nat → Bool) → World → Prop) (T : Nat → Value → World → Prop) (hS : S (fun _ => false) w0.drew) (hA : AllL P l.toArray S T a0 0 l)
    (hQ : ∀ a w L, S L w → (∀ j, j < l.toArray.size → L j = true) → a.tmps.size = a0.tmps.size → a.defers = a0.defers → (∀ j, Done l.toArray T a w j) → (∀ s, freeB l.toArray s = true → a.eval (.tmp s) = a0.eval (.tmp s)) → Q .normal a w) :
    (Code.region id l.toArray true).wp P Q a0 w0 := by
  refine wp_region_L hm hB S T hS ?_ hQ
  intro i o hi L a w h1 h2
  have H := allL_get l 0 hA i o (by simpa using hi)
  rw [Nat.zero_add] at H
  exact H L a w h1 h2

/-- 'copy' of a row into a row of its own. -/
theorem copy_row {w : World} {g o n m c h h0 c2 : Nat} {f : Nat → Value} {zs : List Int} (hr : w.rowIs g 2 n f) (hz : zs.length = m) (ho : o + m ≤ n) (hs : ∀ i, i < m → w.cell? ⟨h, h0 + i, none⟩ = some (.int .i64 (zs.getD i 0))) (ty : TypeId) :
    ∃ w', (Builtin.copy_ #[22, 22] ty #[.slice (some ⟨g, o, none⟩) m c, .slice (some ⟨h, h0, none⟩) m c2]).run Tryd.prog w = .ok (.int .i64 (m : Int)) w' ∧
      w'.rowIs g 2 n (fun j => if o ≤ j ∧ j < o + m then .int .i64 (zs.getD (j - o) 0) else f j) ∧ Below g w w' := by
  have hlen : (zs.map (Value.int .i64)).length = m := by simp [hz]
  refine ⟨w.setCells g o (zs.map (Value.int .i64)), ?_, ?_, ?_⟩
  · have := run_copy_cells (P := Tryd.prog) w 22 22 ty 2 g o m c ⟨h, h0, none⟩ m c2 (zs.map (Value.int .i64)) Tryd.underlying22 (by kernel_rfl) (by rw [hlen]; exact (Nat.min_self m).symm) ?_ ?_ ?_ ?_
    · rw [hlen] at this; exact this
    · intro j v hv
      have hj : j < zs.length := by simpa using (List.getElem?_eq_some_iff.1 hv).1
      rw [Addr.add_lit, hs j (by omega)]
      have e : (zs.map (Value.int .i64))[j]? = some (.int .i64 (zs.getD j 0)) := by simp [List.getD, hj]
      rw [e] at hv; exact hv
    · intro j hj
      rw [hlen] at hj
      rw [hr.cell (by omega)]; rfl
    · intro j _; exact hr.frozen _
    · intro v hv
      obtain ⟨x, _, rfl⟩ := List.mem_map.1 hv
      rfl
  · refine (rowIs_setCells _ o w f hr).congr fun j hj => ?_
    rw [hlen]
    by_cases hc : o ≤ j ∧ j < o + m
    · rw [if_pos hc, if_pos hc]
      have : j - o < zs.length := by omega
      simp [List.getD, this]
    · rw [if_neg hc, if_neg hc]
  · exact below_setCells (Nat.le_refl _) _ _ _ (Below.refl _ _)

/-- What lies in memory while 'copy(l[1:], each(.., s[1:]))' is under way. -/
structure Sb (base s g n : Nat) (w w1 : World) (zs ys : List Int) (L : Nat → Bool) (u : World) : Prop where
  bel : Below base w u
  old : L 6 = false → Below s w1 u
  c6 : L 6 = true → L 5 = true
  none : L 2 = false → L 6 = false → u.heap.size = s
  box : L 2 = true → L 5 = false → Boxed u s 2 (.int .i64 0) ∧ u.heap.size = s + 1
  row : L 5 = true → L 6 = false → u.rowIs (s + 1) 2 zs.length (fun i => .int .i64 (zs.getD i 0))
  new : L 6 = true → u.rowIs g 2 n (fun i => .int .i64 (ys.getD i 0))
theorem Sb.same {base s g n : Nat} {w w1 : World} {zs ys : List Int} {L : Nat → Bool} {u : World} (h : Sb base s g n w w1 zs ys L u) (i : Nat) (h2 : i ≠ 2) (h5 : i ≠ 5) (h6 : i ≠ 6) : Sb base s g n w w1 zs ys (upd L i) u := by
  refine ⟨h.bel, ?_, ?_, ?_, ?_, ?_, ?_⟩
  · rw [upd_ne (Ne.symm h6)]; exact h.old
  · rw [upd_ne (Ne.symm h6), upd_ne (Ne.symm h5)]; exact h.c6
  · rw [upd_ne (Ne.symm h2), upd_ne (Ne.symm h6)]; exact h.none
  · rw [upd_ne (Ne.symm h2), upd_ne (Ne.symm h5)]; exact h.box
  · rw [upd_ne (Ne.symm h5), upd_ne (Ne.symm h6)]; exact h.row
  · rw [upd_ne (Ne.symm h6)]; exact h.new

/-- What the operations yield. -/
def Tb (s g n m : Nat) (F : Nat) (src src1 : Value) : Nat → Value → World → Prop
  | 0, v, _ => v = .slice (some ⟨g, 0, .none⟩) n n
  | 1, v, _ => v = .slice (some ⟨g, 1, .none⟩) m m
  | 2, v, _ => v = .func (.func F) #[] #[.pointer (some ⟨s, 0, .none⟩)]
  | 3, v, _ => v = src
  | 4, v, _ => v = src1
  | 5, v, _ => v = .slice (some ⟨s + 1, 0, .none⟩) m m
  | _, _, _ => True
theorem Tb.stay {s g n m F : Nat} {src src1 : Value} {u u' : World} : ∀ (j : Nat) (v : Value), Tb s g n m F src src1 j v u → Tb s g n m F src src1 j v u'
  | 0, _, h => h
  | 1, _, h => h
  | 2, _, h => h
  | 3, _, h => h
  | 4, _, h => h
  | 5, _, h => h
  | _ + 6, _, _ => trivial

theorem bent_at (xs zs : List Int) (hx : zs.length + 1 = xs.length) (i : Nat) (hi : i < xs.length) :
    (if 1 ≤ i ∧ i < 1 + zs.length then Value.int .i64 (zs.getD (i - 1) 0) else .int .i64 (xs.getD i 0)) = .int .i64 ((xs.take 1 ++ zs).getD i 0) := by
  cases xs with
  | nil => simp at hi
  | cons x xs =>
    cases i with
    | zero => simp
    | succ i =>
      simp at hi hx
      rw [if_pos (by omega)]
      simp

set_option maxHeartbeats 3200000 in
theorem bends_any (a : Option Addr) (n cap : Nat) (l : List Int) (w : World) (hl : l.length = n) (h2 : 2 ≤ n) (hn : n ≤ 4096) (hrd : Rd .i64 w a l) :
    Calls Tryd.prog 23 #[.slice a n cap] w (Nm 3 l w) := by
  have HR : Hid (Rd .i64 w a l ∧ l.length = n) := ⟨hrd, hl⟩
  clear hrd hl
  go_enter Tryd.func23, Tryd.ntmps23
  go_wp2_with fail
  refine (differences_any w).mono ?_
  rintro r w1 ⟨rfl, rfl⟩
  have hbx : Hid (Boxed (w.alloc (.cells #[.int .i64 0] 2)) w.heap.size 2 (.int .i64 0)) := Boxed.new _ _ _
  have hb1 : Below w.heap.size w (w.alloc (.cells #[.int .i64 0] 2)) := (Below.refl _ _).alloc (Nat.le_refl _) _
  generalize w.alloc (.cells #[.int .i64 0] 2) = w1 at *
  go_wp2_with fail
  refine (each_any 44 fD cf44 dif_any w.heap.size 0 a n cap l w w1 HR.out.2 (by omega) HR.out.1 hb1 (Nat.le_refl _) hbx.out).mono ?_
  rintro r w2 ⟨rfl, hr, hb2⟩
  obtain ⟨xs, hxs⟩ : ∃ xs, Hid (xs = dfs 0 l) := ⟨_, rfl⟩
  have hr2 : Hid (w2.rowIs w1.heap.size 2 n (fun i => .int .i64 (xs.getD i 0))) := by rw [hxs.out]; exact hr
  have hxl : xs.length = n := by rw [hxs.out, dfs_length]; exact HR.out.2
  have hbw : Below w.heap.size w w2 := hb1.trans hb2
  have hg0 : w.heap.size ≤ w1.heap.size := hb1.size
  have hgs : w1.heap.size < w2.heap.size := hr.lt
  clear hr hb2 hb1 hbx
  generalize w1.heap.size = g at *
  obtain ⟨m, rfl⟩ : ∃ m, n = m + 1 := ⟨n - 1, by omega⟩
  have hzl : (dfs 0 xs.tail).length = m := by rw [dfs_length, List.length_tail, hxl]; rfl
  have HX : Hid (xs.length = m + 1 ∧ (dfs 0 xs.tail).length = m) := ⟨hxl, hzl⟩
  clear hxl hzl
  have hm0 : ¬ m = 0 := by omega
  go_wp2_with fail
  refine wp_region_M (by kernel_rfl) (by kernel_rfl) (Sb w.heap.size w2.heap.size g (m + 1) w w2 (dfs 0 xs.tail) (xs.take 1 ++ dfs 0 xs.tail)) (Tb w2.heap.size g (m + 1) m 44 (.slice (some ⟨g, 0, none⟩) (m + 1) (m + 1)) (.slice (some ⟨g, 1, none⟩) m m))
    ⟨hbw.drew, fun _ => (Below.refl _ _).drew, (fun h => (by cases h)), fun _ _ => rfl, (fun h => (by cases h)), (fun h => (by cases h)), (fun h => (by cases h))⟩
    (allL_cons ?_ (allL_cons ?_ (allL_cons ?_ (allL_cons ?_ (allL_cons ?_ (allL_cons ?_ (allL_cons ?_ allL_nil))))))) ?_
  · intro L a u hS ha
    have t4 := (ev_tmp a 4).symm.trans ((ha.fix 4 (by kernel_rfl)).trans rfl)
    rw [if_pos (wanted_none rfl)]
    refine does_val (v := .slice (some ⟨g, 0, none⟩) (m + 1) (m + 1)) (w' := u) ?_ (stay (hS.same 0 (by decide) (by decide) (by decide)) rfl)
    simp [execOp, go_sem, t4]
  · intro L a u hS ha
    have t8 := (ev_tmp a 8).symm.trans (show a.eval (.tmp 8) = .slice (some ⟨g, 0, none⟩) (m + 1) (m + 1) from ha.slot 0 0 8 rfl rfl)
    rw [if_pos (wanted_none rfl)]
    refine does_val (v := .slice (some ⟨g, 1, none⟩) m m) (w' := u) ?_ (stay (hS.same 1 (by decide) (by decide) (by decide)) rfl)
    simp [execOp, go_sem, t8, hm0]
    intro h; omega
  · intro L a u hS ha
    rw [if_pos (wanted_none rfl)]
    refine does_call (f := 33) (args := #[]) (w' := u) (by simp [go_sem]) ?_
    refine (differences_any u).mono ?_
    rintro e u' ⟨rfl, rfl⟩
    have h5 := ha.off 5 (by kernel_rfl)
    have h6 : L 6 = false := by
      cases h : L 6
      · rfl
      · rw [hS.c6 h] at h5; cases h5
    have hsz := hS.none ha.un h6
    refine ⟨_, rfl, by rw [hsz]; rfl, ⟨?_, ?_, ?_, ?_, ?_, ?_, ?_⟩, fun j v _ h => Tb.stay j v h⟩
    · exact hS.bel.alloc hS.bel.size _
    · intro _
      exact (hS.old h6).alloc (by omega) _
    · rw [upd_ne (by decide), upd_ne (by decide)]; exact hS.c6
    · intro h; rw [upd_same] at h; cases h
    · intro _ _
      refine ⟨?_, by rw [World.size_alloc, hsz]⟩
      have := Boxed.new u 2 (.int .i64 0)
      rw [hsz] at this; exact this
    · intro h
      rw [upd_ne (by decide), h5] at h; cases h
    · intro h
      rw [upd_ne (by decide), h6] at h; cases h
  · intro L a u hS ha
    have t4 := (ev_tmp a 4).symm.trans ((ha.fix 4 (by kernel_rfl)).trans rfl)
    rw [if_pos (wanted_none rfl)]
    refine does_val (v := .slice (some ⟨g, 0, none⟩) (m + 1) (m + 1)) (w' := u) ?_ (stay (hS.same 3 (by decide) (by decide) (by decide)) rfl)
    simp [execOp, go_sem, t4]
  · intro L a u hS ha
    have t11 := (ev_tmp a 11).symm.trans (show a.eval (.tmp 11) = .slice (some ⟨g, 0, none⟩) (m + 1) (m + 1) from ha.slot 0 3 11 rfl rfl)
    rw [if_pos (wanted_none rfl)]
    refine does_val (v := .slice (some ⟨g, 1, none⟩) m m) (w' := u) ?_ (stay (hS.same 4 (by decide) (by decide) (by decide)) rfl)
    simp [execOp, go_sem, t11, hm0]
    intro h; omega
  · intro L a u hS ha
    have t10 := (ev_tmp a 10).symm.trans (show a.eval (.tmp 10) = .func (.func 44) #[] #[.pointer (some ⟨w2.heap.size, 0, none⟩)] from ha.slot 0 2 10 rfl rfl)
    have t12 := (ev_tmp a 12).symm.trans (show a.eval (.tmp 12) = .slice (some ⟨g, 1, none⟩) m m from ha.slot 1 4 12 rfl rfl)
    have h2 := ha.on 0 2 rfl
    have h6 := ha.off 6 (by kernel_rfl)
    obtain ⟨hbx, hsz⟩ := hS.box h2 ha.un
    rw [if_pos (wanted_none rfl)]
    refine does_call (f := 34) (args := #[.func (.func 44) #[] #[.pointer (some ⟨w2.heap.size, 0, none⟩)], .slice (some ⟨g, 1, none⟩) m m]) (w' := u) (by simp [go_sem, t10, t12]) ?_
    refine (each_any 44 fD cf44 dif_any w2.heap.size 0 (some ⟨g, 1, none⟩) m m xs.tail w2 u (by rw [List.length_tail, HX.out.1]; rfl) (by omega) (.inr ⟨g, 1, rfl, hgs, fun i hi => ?_⟩) (hS.old h6) (Nat.le_refl _) hbx).mono ?_
    · rw [List.length_tail, HX.out.1] at hi
      rw [getD_tail, Nat.add_comm 1 i]; exact hr2.out.cell (by omega)
    rintro e u' ⟨rfl, hr', hb'⟩
    refine ⟨_, rfl, by rw [hsz]; rfl, ⟨?_, ?_, ?_, ?_, ?_, ?_, ?_⟩, fun j v _ h => Tb.stay j v h⟩
    · exact hS.bel.trans (hb'.mono hbw.size)
    · intro _; exact (hS.old h6).trans hb'
    · intro _; rw [upd_same]
    · intro h; rw [upd_ne (by decide), h2] at h; cases h
    · intro _ h; rw [upd_same] at h; cases h
    · intro _ _
      rw [hsz, ← HX.out.2] at hr'
      exact hr'
    · intro h; rw [upd_ne (by decide), h6] at h; cases h
  · intro L a u hS ha
    have t9 : a.eval (.tmp 9) = .slice (some ⟨g, 1, none⟩) m m := ha.slot 0 1 9 rfl rfl
    have t13 : a.eval (.tmp 13) = .slice (some ⟨w2.heap.size + 1, 0, none⟩) m m := ha.slot 1 5 13 rfl rfl
    have h5 := ha.on 1 5 rfl
    have hrow := hS.row h5 ha.un
    have hr3 := hr2.out.of_block ((hS.old ha.un).block g hgs)
    obtain ⟨u', hrun, hr4, hb4⟩ := copy_row (c := m) (c2 := m) (h := w2.heap.size + 1) (h0 := 0) (o := 1) (m := m) hr3 HX.out.2 (by omega) (fun i hi => by rw [Nat.zero_add]; exact hrow.cell (by rw [HX.out.2]; exact hi)) 3
    rw [if_pos (wanted_none rfl)]
    refine does_val (v := .int .i64 (m : Int)) (w' := u') ?_ ⟨trivial, ⟨?_, ?_, ?_, ?_, ?_, ?_, ?_⟩, fun j v _ h => Tb.stay j v h⟩
    · simp only [execOp, resolve, invoke, builtin, Sem.run_bind, Sem.run_pure, Result.andThen_ok, List.map_toArray, List.map_cons, List.map_nil, t9, t13, hrun]
    · exact hS.bel.trans (hb4.mono hg0)
    · intro h; rw [upd_same] at h; cases h
    · intro _; rw [upd_ne (by decide)]; exact h5
    · intro _ h; rw [upd_same] at h; cases h
    · intro _ h; rw [upd_ne (by decide), h5] at h; cases h
    · intro _ h; rw [upd_same] at h; cases h
    · intro _
      refine hr4.congr fun i hi => ?_
      have := bent_at xs (dfs 0 xs.tail) (by rw [HX.out.1, HX.out.2]) i (by rw [HX.out.1]; exact hi)
      rw [HX.out.2] at this
      exact this
  · intro a u L hS hL hts hd hdone hfree
    have hnew := hS.new (hL 6 (by decide))
    have hbel := hS.bel
    obtain ⟨x8, e8⟩ : ∃ x, a.eval (.tmp 8) = x := ⟨_, rfl⟩
    obtain ⟨x9, e9⟩ : ∃ x, a.eval (.tmp 9) = x := ⟨_, rfl⟩
    obtain ⟨x10, e10⟩ : ∃ x, a.eval (.tmp 10) = x := ⟨_, rfl⟩
    obtain ⟨x11, e11⟩ : ∃ x, a.eval (.tmp 11) = x := ⟨_, rfl⟩
    obtain ⟨x12, e12⟩ : ∃ x, a.eval (.tmp 12) = x := ⟨_, rfl⟩
    obtain ⟨x13, e13⟩ : ∃ x, a.eval (.tmp 13) = x := ⟨_, rfl⟩
    obtain ⟨x14, e14⟩ : ∃ x, a.eval (.tmp 14) = x := ⟨_, rfl⟩
    have hact := act_puts hts hd hfree
    simp only [putAll, List.foldl_cons, List.foldl_nil, e8, e9, e10, e11, e12, e13, e14, Act.put] at hact
    simp at hact
    clear e8 e9 e10 e11 e12 e13 e14 hts hd hdone hfree hS
    subst hact
    have HN : Hid _ := hnew
    clear hnew
    go_wp2_with fail
    go_ret2
    refine ⟨.inl ⟨xs.take 1 ++ dfs 0 xs.tail, _, ?_, rfl, sl_row ?_ (by omega) HN.out⟩, hbel⟩
    · rw [hxs.out]; exact if_pos (by rw [HR.out.2]; exact h2)
    · rw [List.length_append, List.length_take, HX.out.1, HX.out.2]; omega
end Go.Proofs.YtbgipenonngccaaDoor
