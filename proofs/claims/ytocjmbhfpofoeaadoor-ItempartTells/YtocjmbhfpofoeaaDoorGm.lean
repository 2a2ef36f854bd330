/- The contract of while: items from one on, as long as a closure says so. Conditions: sizes; what the closure keeps. -/
import Derived.Test.YtocjmbhfpofoeaaDoorGl
namespace Go.Proofs.YtocjmbhfpofoeaaDoor
open Go.RowKit Go.Shelf
attribute [local go_sem] Oper.semAt_some

/-- A closure that is asked of items one by one: what it holds behind j of them, what it answers. -/
structure Clo (wp : World) (N Bn cf : Nat) (caps : Array Value) (St : Nat → World → Prop) (dec : Nat → List Int → Bool) : Prop where
  lt : wp.heap.size ≤ Bn ∧ Bn < N
  bx : ∀ j W, St j W → ∃ t v, t ≠ 5 ∧ Boxed W Bn t v
  st : ∀ j U V, St j U → (∀ g, g < N → V.heap[g]? = U.heap[g]?) → St j V
  enter : ∀ args (W : World), (callFunc cf args).run Tryd.prog W = .ok (.enter cf args) W
  call : ∀ (W : World) (j : Nat) (a : Option Addr) (n c : Nat) (y : List Int), j ≤ 2000 → St j W → Below wp.heap.size wp W → IsI .u8 W a n c y → Bytes y → Calls Tryd.prog cf (#[.slice a n c] ++ caps) W fun e W' => e = .returned (.bool (dec j y)) ∧ St (j + 1) W' ∧ W.grownBy W' (some Bn)
/-- What lies ahead of some block is as it was. -/
theorem clo_st {wp : World} {N Bn cf : Nat} {caps : Array Value} {St : Nat → World → Prop} {dec : Nat → List Int → Bool} (h : Clo wp N Bn cf caps St dec) {β : Type} (f : β → Nat) : AbB (N + 4) 29 (N + 6) (fun (s : β) W => N ≤ W.heap.size ∧ St (f s) W) := fun s U U' row hs hg hr =>
  ⟨Nat.le_trans hs.1 hg.size, h.st _ _ _ hs.2 fun g hgN => hg.block g (by have := hs.1; omega) (fun e => by
    rcases hr g e.symm with ⟨h, _⟩ | ⟨h, _⟩ <;> omega)⟩

theorem six (w : World) (o0 o1 o2 o3 o4 o5 : Obj) : ((((((w.alloc o0).alloc o1).alloc o2).alloc o3).alloc o4).alloc o5).heap.size = w.heap.size + 6 ∧
    ((((((w.alloc o0).alloc o1).alloc o2).alloc o3).alloc o4).alloc o5).heap[w.heap.size]? = some o0 ∧ ((((((w.alloc o0).alloc o1).alloc o2).alloc o3).alloc o4).alloc o5).heap[w.heap.size + 1]? = some o1 ∧
    ((((((w.alloc o0).alloc o1).alloc o2).alloc o3).alloc o4).alloc o5).heap[w.heap.size + 2]? = some o2 ∧ ((((((w.alloc o0).alloc o1).alloc o2).alloc o3).alloc o4).alloc o5).heap[w.heap.size + 3]? = some o3 ∧
    ((((((w.alloc o0).alloc o1).alloc o2).alloc o3).alloc o4).alloc o5).heap[w.heap.size + 4]? = some o4 ∧ ((((((w.alloc o0).alloc o1).alloc o2).alloc o3).alloc o4).alloc o5).heap[w.heap.size + 5]? = some o5 := by
  have nw : ∀ (W : World) (o : Obj) (k : Nat), k = W.heap.size → (W.alloc o).heap[k]? = some o := fun W o k h => by subst h; exact World.alloc_heap_new W o
  refine ⟨by simp, ?_, ?_, ?_, ?_, ?_, ?_⟩
  · rw [Below.heap_alloc _ _ _ (by first | (simp; done) | (simp; omega)), Below.heap_alloc _ _ _ (by first | (simp; done) | (simp; omega)), Below.heap_alloc _ _ _ (by first | (simp; done) | (simp; omega)), Below.heap_alloc _ _ _ (by first | (simp; done) | (simp; omega)), Below.heap_alloc _ _ _ (by simp)]
    exact nw _ _ _ rfl
  · rw [Below.heap_alloc _ _ _ (by first | (simp; done) | (simp; omega)), Below.heap_alloc _ _ _ (by first | (simp; done) | (simp; omega)), Below.heap_alloc _ _ _ (by first | (simp; done) | (simp; omega)), Below.heap_alloc _ _ _ (by simp)]
    exact nw _ _ _ (by simp)
  · rw [Below.heap_alloc _ _ _ (by first | (simp; done) | (simp; omega)), Below.heap_alloc _ _ _ (by first | (simp; done) | (simp; omega)), Below.heap_alloc _ _ _ (by simp)]
    exact nw _ _ _ (by simp)
  · rw [Below.heap_alloc _ _ _ (by first | (simp; done) | (simp; omega)), Below.heap_alloc _ _ _ (by simp)]
    exact nw _ _ _ (by simp)
  · rw [Below.heap_alloc _ _ _ (by simp)]
    exact nw _ _ _ (by simp)
  · exact nw _ _ _ (by simp)

/-- 'append' is carried out so. -/
theorem exec_append {P : Program} {o : Oper} {ρ : Operand → Value} {w w' : World} {s x : Operand} {t : TypeId} {v u r : Value}
    (ho : o.op = .call { callee := .builtin .append, args := #[s, x], argTypes := #[t, t] }) (hs : ρ s = v) (hx : ρ x = u) (hr : (Builtin.append_ #[t, t] o.type #[v, u]).run P w = .ok r w') : (execOp ρ o).run P w = .ok (.value r) w' := by
  unfold execOp
  simp only [ho, resolve, invoke, builtin, Sem.run_bind, Sem.run_pure, Result.andThen_ok, List.map_toArray, List.map_cons, List.map_nil, hs, hx, hr]

/-- What while answers. -/
def Whl (R : List (List Int)) (wp : World) (e : Ending) (w' : World) : Prop :=
  Below wp.heap.size wp w' ∧ ∃ a n c, e = .returned (.slice a n c) ∧ IsR w' a n c R ∧ WfR R

/-- One clone more: what the values of the statement are. -/
abbrev T2 (ni : Nat) (Y : List Int) (u : Value) (W : World) : Prop := ∃ a c, u = .slice a ni c ∧ IsT W a ni c Y
abbrev T3 (w2 : World) (ni : Nat) (Y : List Int) (u : Value) (W : World) : Prop := ∃ g a c, u = .slice (some ⟨g, 0, none⟩) 1 1 ∧ w2.heap.size ≤ g ∧ W.heap[g]? = some (.cells #[.slice a ni c] 23) ∧ IsT W a ni c Y
abbrev T4 (N k ni : Nat) (xs : List Value) (Y : List Int) (u : Value) (W : World) : Prop := ∃ g cap a c, u = .slice (some ⟨g, 0, none⟩) (k + 1) cap ∧ W.ownsRow (N + 6) 23 1 u (k + 1) (xs ++ [.slice a ni c]) ∧ IsT W a ni c Y
theorem T2.k5 {ni : Nat} {Y : List Int} {u : Value} {W V : World} (h : T2 ni Y u W) (hk : K5 W V) : T2 ni Y u V := by obtain ⟨a, c, e, t⟩ := h; exact ⟨a, c, e, t.keep hk⟩
theorem T3.keep {w2 : World} {ni : Nat} {Y : List Int} {u : Value} {W V : World} (h : T3 w2 ni Y u W) (hk : K5 W V) (hb : ∀ g, w2.heap.size ≤ g → g < W.heap.size → V.heap[g]? = W.heap[g]?) : T3 w2 ni Y u V := by
  obtain ⟨g, a, c, e, hg, hh, t⟩ := h
  exact ⟨g, a, c, e, hg, (hb g hg (blk_lt hh)).trans hh, t.keep hk⟩

set_option linter.unusedSimpArgs false in
set_option maxRecDepth 100000 in
set_option maxHeartbeats 16000000 in
theorem while_in (p cf Bn : Nat) (caps : Array Value) (ax : Option Addr) (nx cx : Nat) (x : List Int) (L : List (List Int)) (wp w : World) (St : Nat → World → Prop) (dec : Nat → List Int → Bool)
    (hP : PtI wp p L) (hX : IsI .u8 wp ax nx cx x) (hbx : Bytes x) (hbel : Below wp.heap.size wp w) (hC : Clo wp w.heap.size Bn cf caps St dec) (h0 : St 0 w) :
    CallsIn Fence.wide 9 Tryd.prog 35 #[.pointer (some ⟨p, 0, none⟩), .slice ax nx cx, .func (.func cf) #[] caps] w (Whl (tw dec 0 (L.filter (nl x))) wp) := by
  obtain ⟨i0, hi0, hz0, hz1, hz2⟩ := info_parts Tryd.info23
  obtain ⟨N, hN⟩ : ∃ N, N = w.heap.size := ⟨_, rfl⟩
  have H : Hid (PtI wp p L ∧ IsI .u8 wp ax nx cx x ∧ Bytes x ∧ Below wp.heap.size wp w) := ⟨hP, hX, hbx, hbel⟩
  have HC : Hid (Clo wp w.heap.size Bn cf caps St dec ∧ St 0 w) := ⟨hC, h0⟩
  have hcf := hC.enter
  have hBn := hC.lt
  clear hP hX hbx hbel hC h0
  refine callsIn_of_wp_marks Tryd.func35 rfl trivial ?_ rfl
  simp only [Tryd.ntmps35, List.size_toArray, List.length_cons, List.length_nil, Nat.reduceAdd, Nat.reduceSub, Array.replicate_succ, Array.replicate_zero, List.push_toArray, List.append_toArray, List.nil_append, List.cons_append]
  gi_wp2_with (refine ⟨trivial, ?_⟩; gi_at_call 38; refine (callsIn_wide.2 (from_it _ _ _ _ _)).mono ?_; rintro e w3 ⟨rfl, rfl⟩)
  simp only [Nat.add_assoc, Nat.reduceAdd]
  obtain ⟨hsz, q0, q1, q2, q3, q4, q5⟩ := six w (.cells #[.slice ax nx cx] 23) (.cells #[.func (.func cf) #[] caps] 40) (.cells #[.slice none 0 0] 22) (.cells #[.slice none 0 0] 22) (.cells #[.pointer (some ⟨p, 0, none⟩)] 29) (.cells #[.slice ax nx cx] 23)
  have hal : Below w.heap.size w ((((((w.alloc (.cells #[.slice ax nx cx] 23)).alloc (.cells #[.func (.func cf) #[] caps] 40)).alloc (.cells #[.slice none 0 0] 22)).alloc (.cells #[.slice none 0 0] 22)).alloc (.cells #[.pointer (some ⟨p, 0, none⟩)] 29)).alloc (.cells #[.slice ax nx cx] 23)) :=
    (((((((Below.refl _ _).alloc (Nat.le_refl _) _).alloc (by simp) _).alloc (by simp; omega) _).alloc (by simp; omega) _).alloc (by simp; omega) _).alloc (by simp; omega) _)
  obtain ⟨W0, hW0⟩ : ∃ W0, W0 = ((((((w.alloc (.cells #[.slice ax nx cx] 23)).alloc (.cells #[.func (.func cf) #[] caps] 40)).alloc (.cells #[.slice none 0 0] 22)).alloc (.cells #[.slice none 0 0] 22)).alloc (.cells #[.pointer (some ⟨p, 0, none⟩)] 29)).alloc (.cells #[.slice ax nx cx] 23)) := ⟨_, rfl⟩
  rw [← hW0] at hsz q0 q1 q2 q3 q4 q5 hal ⊢
  clear hW0
  have hn0 : wp.heap.size ≤ w.heap.size := H.out.2.2.2.size
  have hiw : Iw wp.heap.size w.heap.size wp (.slice ax nx cx) (.func (.func cf) #[] caps) W0 [] := ⟨⟨_, [], q3, World.ownsRow_nil _ _ _ _, rdX_nil _⟩, fun l hl => by simp at hl, q0, q1, q2, by omega, H.out.2.2.2.trans (hal.mono hn0)⟩
  have hst0 : St 0 W0 := HC.out.1.st 0 w W0 HC.out.2 (fun g hg => hal.block g hg)
  refine wpIn_rangeB (n := 9) (by decide) (gf := 56) (lb := #[.pointer (some ⟨w.heap.size + 4, 0, none⟩), .pointer (some ⟨w.heap.size + 5, 0, none⟩)]) rfl (enters_of Tryd.func56 (by kernel_rfl) rfl)
    (from_in 8 (w.heap.size + 4) p ax nx cx x L wp W0 (by omega) (by omega) (H.out.2.2.2.trans (hal.mono hn0)) H.out.1 H.out.2.1 H.out.2.2.1 q4 q5)
    (fun h k => ⟨h.1.trans k.1, k.2.1.trans h.2.1, k.2.2.trans h.2.2⟩) (fun W l o' h h2 => ⟨below_put (by omega) (by omega), World.putObj_heap_other (by omega), World.putObj_heap_other (by omega)⟩) (Below.refl _ _) (by omega) (fun _ => rfl)
    (fun pre W => (Iw wp.heap.size w.heap.size wp (.slice ax nx cx) (.func (.func cf) #[] caps) W (gl x (pre.map (·.L))) ∧ (w.heap.size ≤ W.heap.size ∧ St (gl x (pre.map (·.L))).length W)) ∧ tw dec 0 (gl x (pre.map (·.L))) = gl x (pre.map (·.L)))
    (fun c pre W => c = .ret ∧ ∃ R, (∃ v xs, Boxed W (w.heap.size + 2) 22 v ∧ W.ownsRow (w.heap.size + 6) 23 1 v R.length xs ∧ RdX W xs R) ∧ WfR R ∧ Below wp.heap.size wp W ∧ w.heap.size + 6 ≤ W.heap.size ∧ ∀ t, tw dec 0 (gl x (pre.map (·.L)) ++ t) = R)
    ?hI ?hIx ?hE ⟨⟨hiw, by omega, hst0⟩, rfl⟩
    (fun y => { tmps := #[.pointer (some ⟨p, 0, none⟩), .slice ax nx cx, .func (.func cf) #[] caps, undef, .pointer (some ⟨w.heap.size, 0, none⟩), .pointer (some ⟨w.heap.size + 1, 0, none⟩), .pointer (some ⟨w.heap.size + 2, 0, none⟩), .pointer (some ⟨w.heap.size + 3, 0, none⟩), .slice y.a y.n y.c, undef, undef, .pointer (some ⟨p, 0, none⟩), .slice ax nx cx, .func (.func 56) #[] #[.pointer (some ⟨w.heap.size + 4, 0, none⟩), .pointer (some ⟨w.heap.size + 5, 0, none⟩)], .slice y.a y.n y.c, undef, undef, undef, undef, undef, undef, undef, undef, undef, undef, undef, undef, undef, undef, undef, undef, undef, undef, undef, undef, undef, undef], defers := [] })
    ?assign ?body ?done ?stop
  case hI =>
    intro s U U' row h hg hr
    have hr' : ∀ r, row = some r → (r = w.heap.size + 4 ∧ ∃ v v', Boxed U (w.heap.size + 4) 29 v ∧ Boxed U' (w.heap.size + 4) 29 v') ∨ (w.heap.size + 6 ≤ r ∧ ∃ o : Obj, U.heap[r]? = some o ∧ o.isCells = false) := fun r e => by rw [← hsz]; exact hr r e
    exact ⟨⟨Iw.ab hn0 (fun pre : List Bk => gl x (pre.map (·.L))) s U U' row h.1.1 hg hr', clo_st HC.out.1 (fun pre : List Bk => (gl x (pre.map (·.L))).length) s U U' row h.1.2 hg hr'⟩, h.2⟩
  case hIx =>
    intro c s U U' row h hg hr
    obtain ⟨hc, R, ⟨v, xs, r1, r2, r3⟩, hw, hb, hs, ht⟩ := h
    refine ⟨hc, R, ⟨v, xs, r1.kept hg (fun e => ?_), r2.kept hg ?_, r3.keep (k5_grown (by decide) hg fun r e => (hr r e).imp id fun h => h.2)⟩, hw, hb.grown hg (by omega) (fun r e => ?_), Nat.le_trans hs hg.size, ht⟩
    · rcases hr _ e.symm with ⟨h, _⟩ | ⟨h, _⟩ <;> omega
    · cases hb' : v.ownBlock with
      | none => exact .inl rfl
      | some g =>
        refine .inr fun e => ?_
        have hl := (r2.lt g hb').1
        rcases hr g e.symm with ⟨h, _⟩ | ⟨_, o, e', c⟩
        · omega
        · obtain ⟨cur, f', q⟩ := own_tag r2 g hb'
          rw [q] at e'; cases e'; cases c
    · rcases hr r e with ⟨h, _⟩ | ⟨h, _⟩ <;> omega
  case hE =>
    exact fun _ _ _ _ h _ _ => h
  case assign =>
    intro l y W K hK
    dsimp only [encB]
    gi_wp2
    exact hK
  case body =>
    intro l pre y W hI hSp hE
    obtain ⟨⟨hiw, hns, hst⟩, htw⟩ := hI
    obtain ⟨hyR, hyW, hyC⟩ := hE
    obtain ⟨ya, yn, yc, yL⟩ := y
    simp only at hyR hyW hyC
    obtain ⟨A, hA⟩ : ∃ A, Hid (A = gl x (pre.map (·.L))) := ⟨_, rfl⟩
    rw [← hA.out] at hiw hst htw
    have hck := chk_zero hyC
    have hyl := hyR.hl
    have hyc := hyR.hc
    have hym := hyR.hm
    unfold maxLen at hym
    have hyp := List.length_pos_iff.2 hck.2.1
    obtain ⟨gy, oy, rfl, hgy, hcy⟩ : ∃ gy oy, ya = some ⟨gy, oy, none⟩ ∧ gy < wp.heap.size ∧ ∀ i, i < yL.length → ∃ ai ni ci, wp.cell? ⟨gy, oy + i, none⟩ = some (.slice ai ni ci) ∧ IsI .u8 wp ai ni ci (yL.getD i []) := by
      rcases hyR.rd with e | ⟨b, o, e1, e2, e3⟩
      · rw [e] at hyp; simp at hyp
      · exact ⟨b, o, e1, e2, e3⟩
    have hRy : IsR W (some ⟨gy, oy, none⟩) yn yc yL := hyR.below hiw.bl
    have hrz := good_rz hck.2.2
    have cit := hiw.it.cell
    have HSk : Hid _ := seek_any (some ⟨gy, oy, none⟩) yn yc yL ax nx cx x W hRy hyW (H.out.2.1.below hiw.bl) H.out.2.2.1 (by omega)
    have hyn : yn ≤ 8 := by omega
    have hAl : (A ++ yL).length ≤ 2000 := by
      obtain ⟨r, t, _, ht⟩ := hSp
      have h1 := congrArg (fun q : List (List (List Int)) => q.flatten.length) ht
      rw [List.map_append, List.flatten_append, List.flatten_append, List.length_append, List.length_append] at h1
      have h2 : ((ch L).drop (r - 1)).flatten.length ≤ L.length := by
        have := ch_flat L
        conv at this => lhs; rw [← List.take_append_drop (r - 1) (ch L)]
        have h3 := congrArg List.length this
        rw [List.flatten_append, List.length_append] at h3
        omega
      have h4 := (chkF_zero H.out.1.ok).1
      have h5 : A.length ≤ (pre.map (·.L)).flatten.length := by
        rw [hA.out]
        have : ∀ Bs : List (List (List Int)), (gl x Bs).length ≤ Bs.flatten.length := by
          intro Bs
          induction Bs with
          | nil => simp [gl]
          | cons B Bs ih =>
            have : gl x (B :: Bs) = B.drop (sk B x) ++ gl x Bs := by simp [gl]
            rw [this, List.flatten_cons, List.length_append, List.length_append, List.length_drop]
            omega
        exact this _
      have h6 : (([(⟨some ⟨gy, oy, none⟩, yn, yc, yL⟩ : Bk)]).map (·.L)).flatten.length = yL.length := by simp
      rw [h6] at h1
      rw [List.length_append]
      omega
    have h400 : ∀ i, i < yL.length → (yL.getD i []).length ≤ 400 := fun i hi => ((good_iff [] yL).1 hck.2.2 i hi).1
    have HW : Hid (Iw wp.heap.size w.heap.size wp (.slice ax nx cx) (.func (.func cf) #[] caps) W A ∧ St A.length W ∧ tw dec 0 A = A) := ⟨hiw, hst, htw⟩
    have HY : Hid (WfR yL ∧ Rz yL ∧ (∀ i, i < yL.length → ∃ ai ni ci, wp.cell? ⟨gy, oy + i, none⟩ = some (.slice ai ni ci) ∧ IsI .u8 wp ai ni ci (yL.getD i [])) ∧ yL.length = yn ∧ (A ++ yL).length ≤ 2000 ∧ ∀ i, i < yL.length → (yL.getD i []).length ≤ 400) := ⟨hyW, hrz, hcy, hyl, hAl, h400⟩
    clear hiw hst htw hyR hyW hyC hck hyp hcy hRy hrz hyl hAl h400 hSp
    gi_wp2_with fail
    refine ⟨trivial, (CallsIn.inRound l (callsIn_wide.2 HSk.out)).mono ?_⟩
    rintro e w1 ⟨r, rfl, hPl, hb1⟩
    have hrn : r ≤ yn := by have := hPl.1; rw [HY.out.2.2.2.1] at this; exact this
    have hsk := pl_sk HY.out.2.1 hPl
    have hrn' : (r : Int) ≤ (yn : Int) := by omega
    obtain ⟨Q, hQ⟩ : ∃ Q, Hid (Q = yL.drop r) := ⟨_, rfl⟩
    have hgs : gl x ((pre ++ [(⟨some ⟨gy, oy, none⟩, yn, yc, yL⟩ : Bk)]).map (·.L)) = A ++ Q := by
      rw [List.map_append, List.map_cons, List.map_nil, gl_snoc, ← hA.out, hQ.out, hsk]
    have hK1 : Ks wp.heap.size w.heap.size W w1 := Ks.of_below hb1 hn0 HW.out.1.bx
    have H1 : Hid (Iw wp.heap.size w.heap.size wp (.slice ax nx cx) (.func (.func cf) #[] caps) w1 A ∧ St A.length w1 ∧ Ks wp.heap.size w.heap.size W w1) :=
      ⟨HW.out.1.below hn0 hb1, HC.out.1.st _ _ _ HW.out.2.1 (fun g hg => hb1.block g (by have := HW.out.1.bx; omega)), hK1⟩
    obtain ⟨M, hM⟩ : ∃ M, M = yn - r := ⟨_, rfl⟩
    have hM' : yn - r = M := hM.symm
    have hQl : Q.length = M := by rw [hQ.out, List.length_drop, HY.out.2.2.2.1, hM]
    have HQ : Hid (gl x ((pre ++ [(⟨some ⟨gy, oy, none⟩, yn, yc, yL⟩ : Bk)]).map (·.L)) = A ++ Q ∧ Q.length = M ∧ M = yn - r) := ⟨hgs, hQl, hM⟩
    have hM8 : M ≤ 8 := by omega
    have hsub : (yn : Int) - (r : Int) = (M : Int) := by omega
    clear hPl hsk hgs hK1 hQl hb1 hM
    by_cases hyr : yc = r
    · have hM0 : M = 0 := by omega
      have HE : Hid (Q = []) := List.eq_nil_of_length_eq_zero (by rw [HQ.out.2.1]; exact hM0)
      subst hM0
      have hyr' : yc - r = 0 := by omega
      gi_wp2_with fail
      gi_loopw [10, 21] (fun _ i wr => i = .int .i64 0 ∧ Hid (wr = w1)) (fun _ _ _ => 0)
      case atStart => exact ⟨rfl, rfl⟩
      case round =>
        obtain ⟨rfl, hw⟩ := hrel
        rw [hw.out]
        gi_wp2_with fail
        have e := HQ.out.1
        rw [HE.out, List.append_nil] at e
        refine ⟨by first | exact H1.out.2.2.kf | (rw [hsz]; exact H1.out.2.2.kf), H1.out.2.2.it, ?_⟩
        dsimp only
        rw [e]
        exact ⟨⟨H1.out.1, by have := H1.out.1.bx; omega, H1.out.2.1⟩, HW.out.2.2⟩
    · have hMc : M ≤ yc - r := by omega
      obtain ⟨cM, hcM⟩ : ∃ cM, yc - r = cM := ⟨_, rfl⟩
      rw [hcM] at hMc
      gi_wp2_with fail
      gi_loopw [10, 21] (fun _ i wr => ∃ k : Nat, k ≤ M ∧ i = .int .i64 (k : Int) ∧ Hid (Iw wp.heap.size w.heap.size wp (.slice ax nx cx) (.func (.func cf) #[] caps) wr (A ++ Q.take k) ∧ St (A ++ Q.take k).length wr ∧ tw dec 0 (A ++ Q.take k) = A ++ Q.take k ∧ Ks wp.heap.size w.heap.size W wr)) (fun _ i _ => M - (intOf i).toNat)
      case atStart =>
        refine ⟨0, Nat.zero_le _, rfl, ?_⟩
        show _ ∧ _ ∧ _ ∧ _
        rw [List.take_zero, List.append_nil]
        exact ⟨H1.out.1, H1.out.2.1, HW.out.2.2, H1.out.2.2⟩
      case round =>
        obtain ⟨k, hk, rfl, HR⟩ := hrel
        by_cases hlt : k < M
        · have hlt' : (k : Int) < (M : Int) := by omega
          obtain ⟨hIw, hSt, hTw, hKs⟩ := HR.out
          obtain ⟨Z, hZ⟩ : ∃ Z, Hid (Z = A ++ Q.take k) := ⟨_, rfl⟩
          rw [← hZ.out] at hIw hSt hTw
          obtain ⟨ai, ni, ci, c0, hIi⟩ := HY.out.2.2.1 (r + k) (by have := HQ.out; have := HY.out.2.2.2.1; omega)
          have c1 : wr.cell? ⟨gy, oy + r + k, none⟩ = some (.slice ai ni ci) := by
            rw [Nat.add_assoc]
            exact (hIw.bl.cell (p := ⟨gy, oy + (r + k), none⟩) hgy).trans c0
          obtain ⟨Y, hY⟩ : ∃ Y, Hid (Y = yL.getD (r + k) []) := ⟨_, rfl⟩
          rw [← hY.out] at hIi
          have hbY : Bytes Y := by
            rw [hY.out]
            exact HY.out.1 _ (getD_memR (by have := HQ.out; have := HY.out.2.2.2.1; omega))
          have hZ1 : A ++ Q.take (k + 1) = Z ++ [Y] := by
            rw [hZ.out, take_snocR _ _ (by rw [HQ.out.2.1]; exact hlt), ← List.append_assoc]
            congr 2
            rw [hY.out, hQ.out]; simp [List.getD]
          have cfn := hIw.fn.cell
          have hZl : Z.length ≤ 2000 := by
            have h1 := HY.out.2.2.2.2.1
            have h2 : Z.length ≤ A.length + Q.length := by rw [hZ.out, List.length_append, List.length_take]; omega
            have h3 : Q.length ≤ yL.length := by rw [hQ.out, List.length_drop]; omega
            rw [List.length_append] at h1
            omega
          have HCall : Hid _ := HC.out.1.call wr Z.length ai ni ci Y hZl hSt hIw.bl (hIi.below hIw.bl) hbY
          obtain ⟨d, hd⟩ : ∃ d, Hid (d = dec Z.length Y) := ⟨_, rfl⟩
          rw [← hd.out] at HCall
          have HZ : Hid (Iw wp.heap.size w.heap.size wp (.slice ax nx cx) (.func (.func cf) #[] caps) wr Z ∧ tw dec 0 Z = Z ∧ Ks wp.heap.size w.heap.size W wr ∧ A ++ Q.take (k + 1) = Z ++ [Y] ∧ (∃ t v, t ≠ 5 ∧ Boxed wr Bn t v) ∧ IsI .u8 wp ai ni ci Y ∧ Bytes Y) := ⟨hIw, hTw, hKs, hZ1, HC.out.1.bx _ _ hSt, hIi, hbY⟩
          have hNr := hIw.bx
          clear hIw hSt hTw hKs c0 hIi hbY hZ1 hZl
          cases d with
          | false =>
            gi_wp2_with fail
            refine ⟨trivial, (CallsIn.inRound l (callsIn_wide.2 HCall.out)).mono ?_⟩
            rintro e w2 ⟨rfl, hst2, hg2⟩
            obtain ⟨tb, vb, htb, hbb⟩ := HZ.out.2.2.2.2.1
            have hI2 := HZ.out.1.far hBn.1 hBn.2 htb hbb hg2
            obtain ⟨v, xs, r1, r2, r3⟩ := hI2.row
            obtain ⟨av, cv, rfl, _⟩ := own_isR r2 r3
            have d0 := r1.cell
            have d1 := hI2.rs.cell
            have d2 := hI2.rs.frozen
            have K2 := HZ.out.2.2.1.trans (Ks.of_far hg2 hBn.1 hBn.2 hNr)
            have H2 : Hid (Iw wp.heap.size w.heap.size wp (.slice ax nx cx) (.func (.func cf) #[] caps) w2 Z ∧ Boxed w2 (w.heap.size + 3) 22 (.slice av Z.length cv) ∧ w2.ownsRow (w.heap.size + 6) 23 1 (.slice av Z.length cv) Z.length xs ∧ RdX w2 xs Z ∧ Ks wp.heap.size w.heap.size W w2) := ⟨hI2, r1, r2, r3, K2⟩
            clear hI2 r1 r2 r3 hst2 hg2 K2 hbb htb
            gi_wp2_with fail
            have hs := grownBy_setCell' w2 (w.heap.size + 2) (.slice av Z.length cv)
            have k5 : K5 w2 (w2.setCell ⟨w.heap.size + 2, 0, none⟩ (.slice av Z.length cv)) := K5.of_set H2.out.1.rs (by decide) _
            refine ⟨by rw [hsz]; exact H2.out.2.2.2.2.kf.trans (KeepsFrom.of_grownBy hs (fun j e => by cases e; omega)), rfl, Z, ⟨.slice av Z.length cv, xs, H2.out.1.rs.set _, own_setlt H2.out.2.2.1 (by omega), H2.out.2.2.2.1.keep k5⟩, H2.out.1.wf, H2.out.1.bl.setCell (p := ⟨w.heap.size + 2, 0, none⟩) (by show wp.heap.size ≤ w.heap.size + 2; omega) _, by rw [World.size_setCell]; exact H2.out.1.bx, fun t => ?_⟩
            have e : gl x ((pre ++ [(⟨some ⟨gy, oy, none⟩, yn, yc, yL⟩ : Bk)]).map (·.L)) ++ t = Z ++ Y :: (Q.drop (k + 1) ++ t) := by
              rw [HQ.out.1]
              conv => lhs; rw [← List.take_append_drop (k + 1) Q]
              rw [← List.append_assoc A, HZ.out.2.2.2.1]
              simp
            rw [e]
            exact tw_stop _ HZ.out.2.1 (by rw [Nat.zero_add]; exact hd.out.symm)
          | true =>
            gi_wp2_with fail
            refine ⟨trivial, (CallsIn.inRound l (callsIn_wide.2 HCall.out)).mono ?_⟩
            rintro e w2 ⟨rfl, hst2, hg2⟩
            obtain ⟨tb, vb, htb, hbb⟩ := HZ.out.2.2.2.2.1
            have hI2 := HZ.out.1.far hBn.1 hBn.2 htb hbb hg2
            obtain ⟨v, xs, r1, r2, r3⟩ := hI2.row
            have K2 := HZ.out.2.2.1.trans (Ks.of_far hg2 hBn.1 hBn.2 hNr)
            have hn2 := hI2.bx
            obtain ⟨kl, hkl⟩ : ∃ kl, kl = Z.length := ⟨_, rfl⟩
            rw [← hkl] at r2
            have H2 : Hid (Iw wp.heap.size w.heap.size wp (.slice ax nx cx) (.func (.func cf) #[] caps) w2 Z ∧ RdX w2 xs Z ∧ Ks wp.heap.size w.heap.size W w2 ∧ St (Z.length + 1) w2 ∧ kl = Z.length) := ⟨hI2, r3, K2, hst2, hkl⟩
            have HOr : Hid (w2.ownsRow (w.heap.size + 6) 23 1 v kl xs) := r2
            have hbx0 : Boxed w2 (w.heap.size + 3) 22 v := r1
            have HYI : Hid (∀ U, Below wp.heap.size w2 U → IsI .u8 U ai ni ci Y) := fun U hU => HZ.out.2.2.2.2.2.1.below (hI2.bl.trans hU)
            have hn3 : wp.heap.size ≤ w.heap.size + 3 := by omega
            have HOb : Hid (∀ g, v.ownBlock = some g → wp.heap.size ≤ g) := fun g hg => by have := (r2.lt g hg).1; omega
            have hni := HZ.out.2.2.2.2.2.1.hl
            have hni4 : ni ≤ 400 := by
              have h1 := HY.out.2.2.2.2.2 (r + k) (by have := HQ.out; have := HY.out.2.2.2.1; omega)
              rw [← hY.out] at h1; omega
            have hkl4 : kl ≤ 2000 := by
              have h1 := HY.out.2.2.2.2.1
              have h2 : Z.length ≤ A.length + Q.length := by rw [hZ.out, List.length_append, List.length_take]; omega
              have h3 : Q.length ≤ yL.length := by rw [hQ.out, List.length_drop]; omega
              rw [List.length_append] at h1
              omega
            have hwn : wp.heap.size ≤ w2.heap.size := by omega
            clear hI2 r1 r2 r3 hst2 hg2 K2 hbb htb
            gi_wp2_with fail
            refine wpIn_region_K (fun _ => trivial) rfl (fun m f args w R h => CallsIn.inRound l (callsIn_wide.2 h)) (by kernel_rfl) (by kernel_rfl) (by kernel_rfl) (fun Lq W => Ob2 (w.heap.size + 3) v.ownBlock w2 W ∧ (Lq 5 = false → Boxed W (w.heap.size + 3) 22 v) ∧ (Lq 4 = false → W.ownsRow (w.heap.size + 6) 23 1 v kl xs) ∧ (Lq 5 = true → ∃ v4, Boxed W (w.heap.size + 3) 22 v4 ∧ T4 w.heap.size kl ni xs Y v4 W)) (TL [Ceq (v), Ceq (.slice ai ni ci), (T2 ni Y), (T3 w2 ni Y), (T4 w.heap.size kl ni xs Y), Ceq (undef)]) ⟨⟨rfl, rfl, rfl, Nat.le_refl _, fun _ _ _ _ => rfl⟩, fun _ => hbx0, fun _ => HOr.out, fun h => by cases h⟩ (allL_cons ?_ (allL_cons ?_ (allL_cons ?_ (allL_cons ?_ (allL_cons ?_ (allL_cons ?_ allL_nil)))))) ?_
            · intro Lq a wx hS h
              have s7 : a.eval (.tmp 7) = .pointer (some ⟨w.heap.size + 3, 0, none⟩) := (h.fix 7 (by kernel_rfl)).trans rfl
              have t7 := (ev_tmp a 7).symm.trans s7
              rw [if_pos (wanted_none rfl)]
              have d0 := (hS.2.1 (h.off 5 (by kernel_rfl))).cell
              refine does_val (v := v) (w' := wx) ?_ ⟨rfl, hS, fun _ _ _ h => h⟩
              simp [execOp, go_sem, t7, d0]
            · intro Lq a wx hS h
              have s10 : a.eval (.tmp 10) = .slice ai ni ci := (h.fix 10 (by kernel_rfl)).trans rfl
              have t10 := (ev_tmp a 10).symm.trans s10
              rw [if_pos (wanted_none rfl)]
              refine does_val (v := .slice ai ni ci) (w' := wx) ?_ ⟨rfl, hS, fun _ _ _ h => h⟩
              simp [execOp, go_sem, t10]
            · intro Lq a wx hS h
              have s31 : a.eval (.tmp 31) = .slice ai ni ci := h.slot 0 1 31 rfl rfl
              have t31 := (ev_tmp a 31).symm.trans s31
              rw [if_pos (wanted_none rfl)]
              have hI2 : IsI .u8 wx ai ni ci Y := HYI.out wx (hS.1.bel hn3 HOb.out hwn)
              refine does_call (f := 40) (args := #[.slice ai ni ci]) (w' := wx) (by simp [go_sem, t31]) ?_
              refine (clone_any ai ni ci Y wx hI2 (by omega)).mono ?_
              rintro r' w' ⟨v2, rfl, ho2, hb'⟩
              obtain ⟨a2, c2, rfl, hT2⟩ := own_isT ho2
              exact ⟨_, rfl, ⟨a2, c2, rfl, hT2⟩, ⟨hS.1.below hb', fun h0 => (hb'.block _ (hS.2.1 (h.off 5 (by kernel_rfl))).lt).trans (hS.2.1 (h.off 5 (by kernel_rfl))), fun h0 => own_below (hS.2.2.1 (h.off 4 (by kernel_rfl))) hb', fun h0 => by have := h.off 5 (by kernel_rfl); simp [updL, this] at h0⟩, fun j u hj hT => tl_stab (w := wx) (w' := w') (List.forall_mem_cons.2 ⟨fun _ h => h, (List.forall_mem_cons.2 ⟨fun _ h => h, (List.forall_mem_cons.2 ⟨fun _ hk => T2.k5 hk (K5.of_below hb'), (List.forall_mem_cons.2 ⟨fun _ hk => T3.keep hk (K5.of_below hb') (fun g _ hg => hb'.block g hg), (List.forall_mem_cons.2 ⟨fun _ ⟨g, cp, a, c, e1, e2, e3⟩ => ⟨g, cp, a, c, e1, own_below e2 hb', e3.keep (K5.of_below hb')⟩, (List.forall_mem_cons.2 ⟨fun _ h => h, (fun _ h => by cases h)⟩)⟩)⟩)⟩)⟩)⟩) hT⟩
            · intro Lq a wx hS h
              rw [if_pos (wanted_none rfl)]
              obtain ⟨a2, c2, e32, hT2⟩ : T2 ni Y (a.eval (.tmp 32)) wx := h.slot 0 2 32 rfl rfl
              have t32 := (ev_tmp a 32).symm.trans e32
              have hb' : Below wx.heap.size wx (wx.alloc (.cells #[.slice a2 ni c2] 23)) := (Below.refl _ _).alloc (Nat.le_refl _) _
              refine does_val (v := .slice (some ⟨wx.heap.size, 0, none⟩) 1 1) (w' := wx.alloc (.cells #[.slice a2 ni c2] 23)) ?_ ⟨⟨_, a2, c2, rfl, hS.1.size, heap_alloc_new wx _, hT2.keep (K5.of_below hb')⟩, ⟨hS.1.below hb', fun h0 => (hb'.block _ (hS.2.1 (h.off 5 (by kernel_rfl))).lt).trans (hS.2.1 (h.off 5 (by kernel_rfl))), fun h0 => own_below (hS.2.2.1 (h.off 4 (by kernel_rfl))) hb', fun h0 => by have := h.off 5 (by kernel_rfl); simp [updL, this] at h0⟩, fun j u hj hT => tl_stab (w := wx) (w' := wx.alloc (.cells #[.slice a2 ni c2] 23)) (List.forall_mem_cons.2 ⟨fun _ h => h, (List.forall_mem_cons.2 ⟨fun _ h => h, (List.forall_mem_cons.2 ⟨fun _ hk => T2.k5 hk (K5.of_below hb'), (List.forall_mem_cons.2 ⟨fun _ hk => T3.keep hk (K5.of_below hb') (fun g _ hg => hb'.block g hg), (List.forall_mem_cons.2 ⟨fun _ ⟨g, cp, a, c, e1, e2, e3⟩ => ⟨g, cp, a, c, e1, own_below e2 hb', e3.keep (K5.of_below hb')⟩, (List.forall_mem_cons.2 ⟨fun _ h => h, (fun _ h => by cases h)⟩)⟩)⟩)⟩)⟩)⟩) hT⟩
              simp [execOp, go_sem, t32]
            · intro Lq a wx hS h
              have s30 : a.eval (.tmp 30) = v := h.slot 0 0 30 rfl rfl
              have t30 := (ev_tmp a 30).symm.trans s30
              rw [if_pos (wanted_none rfl)]
              obtain ⟨g3, a2, c2, e33, hg3, hh3, hT2⟩ : T3 w2 ni Y (a.eval (.tmp 33)) wx := h.slot 1 3 33 rfl rfl
              have t33 := (ev_tmp a 33).symm.trans e33
              have s30 : a.eval (.tmp 30) = v := h.slot 0 0 30 rfl rfl
              have hown := hS.2.2.1 h.un
              have hlt := fun g hg => (HOr.out.lt g hg).2
              obtain ⟨v4, w4, hrun, hown4, hg4, _⟩ := run_append_own (P := Tryd.prog) wx (w.heap.size + 6) 22 22 23 i0 _ 1 24 Tryd.underlying22 hi0 hz0 hz1 hz2 rfl (by decide) v kl xs hown ⟨g3, 0, none⟩ 1 1 [.slice a2 ni c2] rfl (at_one (by simp [World.cell?, hh3])) (by simp [Value.oneCell']) (by unfold maxLen; omega) (by omega) (by have := hS.1.size; omega)
              obtain ⟨g4, c4, rfl⟩ := ownsRow_succ hown4
              have k5 : K5 wx w4 := K5.of_grown hg4 fun g e => by obtain ⟨c, f, q⟩ := own_tag hown g e; exact ⟨c, 23, f, q, by decide⟩
              have hbx := hS.2.1 (h.off 5 (by kernel_rfl))
              refine does_val (v := .slice (some ⟨g4, 0, none⟩) (kl + 1) c4) (w' := w4) (exec_append rfl s30 e33 hrun) ⟨⟨g4, c4, a2, c2, rfl, hown4, hT2.keep k5⟩, ⟨hS.1.grown hg4, fun h0 => hbx.kept hg4 (fun e => by have := (hown.lt _ e.symm).1; omega), fun h0 => by simp [updL] at h0, fun h0 => by have := h.off 5 (by kernel_rfl); simp [updL, this] at h0⟩, fun j u hj hT => ?_⟩
              match j, hj, hT with
              | 0, _, hT => exact hT
              | 1, _, hT => exact hT
              | 2, _, hT => exact T2.k5 hT k5
              | 3, _, hT => exact T3.keep hT k5 (fun g hg hl => hg4.block g hl (fun e => by have := hlt _ e.symm; omega))
              | 4, hj, _ => have := h.un; rw [hj] at this; cases this
              | 5, _, hT => exact hT
              | j + 6, _, _ => exact trivial
            · intro Lq a wx hS h
              have s7 : a.eval (.tmp 7) = .pointer (some ⟨w.heap.size + 3, 0, none⟩) := (h.fix 7 (by kernel_rfl)).trans rfl
              have t7 := (ev_tmp a 7).symm.trans s7
              rw [if_pos (wanted_none rfl)]
              obtain ⟨g4, c4, a2, c2, e34, hown4, hT2⟩ : T4 w.heap.size kl ni xs Y (a.eval (.tmp 34)) wx := h.slot 0 4 34 rfl rfl
              have t34 := (ev_tmp a 34).symm.trans e34
              rw [e34] at hown4
              have hbx := hS.2.1 h.un
              have d0 := hbx.cell
              have d1 := hbx.frozen
              have k5 : K5 wx (wx.setCell ⟨w.heap.size + 3, 0, none⟩ (.slice (some ⟨g4, 0, none⟩) (kl + 1) c4)) := K5.of_set hbx (by decide) _
              have hT4 : T4 w.heap.size kl ni xs Y (.slice (some ⟨g4, 0, none⟩) (kl + 1) c4) (wx.setCell ⟨w.heap.size + 3, 0, none⟩ (.slice (some ⟨g4, 0, none⟩) (kl + 1) c4)) := ⟨g4, c4, a2, c2, rfl, own_setlt hown4 (by omega), hT2.keep k5⟩
              refine does_skip (w' := wx.setCell ⟨w.heap.size + 3, 0, none⟩ (.slice (some ⟨g4, 0, none⟩) (kl + 1) c4)) ?_ ⟨rfl, ⟨hS.1.set _, fun h0 => by simp [updL] at h0, fun h0 => by have := h.on 0 4 rfl; simp [updL, this] at h0, fun _ => ⟨_, hbx.set _, hT4⟩⟩, fun j u hj hT => ?_⟩
              simp [execOp, go_sem, t7, t34, d0, d1]
              match j, hj, hT with
              | 0, _, hT => exact hT
              | 1, _, hT => exact hT
              | 2, _, hT => exact T2.k5 hT k5
              | 3, _, hT => exact T3.keep hT k5 (fun g hg hl => Below.heap_setCell _ _ _ _ (by show g ≠ w.heap.size + 3; omega))
              | 4, _, ⟨g, cp, a3, c3, e1, e2, e3⟩ => exact ⟨g, cp, a3, c3, e1, own_setlt e2 (by omega), e3.keep k5⟩
              | 5, _, hT => exact hT
              | j + 6, _, _ => exact trivial
            intro a u Lq hS hall hts hd hdone hfree
            have hS5 := hS.2.2.2 (hall 5 (by decide))
            obtain ⟨x30, ex30⟩ : ∃ x, a.eval (.tmp 30) = x := ⟨_, rfl⟩
            obtain ⟨x31, ex31⟩ : ∃ x, a.eval (.tmp 31) = x := ⟨_, rfl⟩
            obtain ⟨x32, ex32⟩ : ∃ x, a.eval (.tmp 32) = x := ⟨_, rfl⟩
            obtain ⟨x33, ex33⟩ : ∃ x, a.eval (.tmp 33) = x := ⟨_, rfl⟩
            obtain ⟨x34, ex34⟩ : ∃ x, a.eval (.tmp 34) = x := ⟨_, rfl⟩
            have hact := act_puts hts hd hfree
            simp only [putAll, List.foldl_cons, List.foldl_nil, ex30, ex31, ex32, ex33, ex34, Act.put] at hact
            simp at hact
            clear ex30 ex31 ex32 ex33 ex34 hts hd hdone hfree hall
            subst hact
            obtain ⟨v4, hx4, g4, c4, a2, c2, hv4, hown4, hT2⟩ := hS5
            have hOb := hS.1
            clear hS
            have HF : Hid (Iw wp.heap.size w.heap.size wp (.slice ax nx cx) (.func (.func cf) #[] caps) u (A ++ Q.take (k + 1)) ∧ St (A ++ Q.take (k + 1)).length u ∧ tw dec 0 (A ++ Q.take (k + 1)) = A ++ Q.take (k + 1) ∧ Ks wp.heap.size w.heap.size W u) := by
              show _ ∧ _ ∧ _ ∧ _
              rw [HZ.out.2.2.2.1]
              have k5 : K5 w2 u := ⟨hOb.size, fun g cur f e => (hOb.far g (blk_lt e) (fun e' => by
                subst e'; have := e.symm.trans hbx0; simp at this) (fun e' => by
                obtain ⟨c, f', q⟩ := own_tag HOr.out g e'.symm
                rw [e] at q; cases q)).trans e⟩
              refine ⟨H2.out.1.next (Ls' := Z ++ [Y]) hn0 HOr.out hOb hx4 ?_ ((H2.out.2.1.keep k5).snoc hT2) ?_, ?_, ?_, ?_⟩
              · rw [List.length_append, ← H2.out.2.2.2.2]; exact hown4
              · intro q hq
                rcases List.mem_append.1 hq with h | h
                · exact H2.out.1.wf q h
                · rw [List.mem_singleton.1 h]; exact HZ.out.2.2.2.2.2.2
              · rw [List.length_append]
                refine HC.out.1.st _ _ _ H2.out.2.2.2.1 (fun g hg => hOb.far g (by omega) (by omega) (fun e' => ?_))
                have := (HOr.out.lt g e'.symm).1
                omega
              · exact tw_snoc HZ.out.2.1 (by rw [Nat.zero_add]; exact hd.out.symm)
              · exact H2.out.2.2.1.trans (Ks.of_ob HOr.out hOb hn0 hn2)
            clear hOb hx4 hown4 hT2 hv4
            gi_wp2_with fail
            go_roundw
            case rel => exact ⟨k + 1, by omega, by go_num, HF.out⟩
            case measure => simp [intOf]; omega
        · have hlt' : ¬ (k : Int) < (M : Int) := by omega
          obtain rfl : k = M := by omega
          gi_wp2_with fail
          have hR := HR.out
          have eQ : Q.take k = Q := List.take_of_length_le (by rw [HQ.out.2.1]; exact Nat.le_refl _)
          rw [eQ] at hR
          have e := HQ.out.1
          refine ⟨hR.2.2.2.kf, hR.2.2.2.it, ?_⟩
          dsimp only
          rw [e]
          exact ⟨⟨hR.1, by have := hR.1.bx; omega, hR.2.1⟩, hR.2.2.1⟩
  case done =>
    intro D ys W hD hS hI hK
    obtain ⟨r, hpl, hys⟩ := hS
    obtain ⟨⟨hiw, _, _⟩, htw⟩ := hI
    have hz3 := chkF_zero H.out.1.ok
    rw [hys, gl_from (good_rz hz3.2.2) hpl] at hiw htw
    obtain ⟨R, hR⟩ : ∃ R, Hid (R = L.filter (nl x)) := ⟨_, rfl⟩
    rw [← hR.out] at hiw htw ⊢
    obtain ⟨v, xs, r1, r2, r3⟩ := hiw.row
    obtain ⟨av, cv, rfl, hRl⟩ := own_isR r2 r3
    have d0 := r1.cell
    have d1 := hiw.rs.cell
    have d2 := hiw.rs.frozen
    have hs := grownBy_setCell' W (w.heap.size + 2) (.slice av R.length cv)
    have kc : Kc W (W.setCell ⟨w.heap.size + 2, 0, none⟩ (.slice av R.length cv)) ∨ True := .inr trivial
    have hb2 := hiw.rs.set (.slice av R.length cv)
    have hlt := fun g hg => (r2.lt g hg).1
    have r2' := own_setlt (u := .slice av R.length cv) r2 (show w.heap.size + 2 < w.heap.size + 6 by omega)
    have r3' := r3.keep (K5.of_set hiw.rs (by decide) (.slice av R.length cv))
    obtain ⟨_, _, e', hRl'⟩ := own_isR r2' r3'
    cases e'
    have hK' : (W.setCell ⟨w.heap.size + 2, 0, none⟩ (.slice av R.length cv)).heap[D]? = some (.deferred (some [])) := (Below.heap_setCell _ _ _ _ (by show D ≠ w.heap.size + 2; omega)).trans hK
    have hbl := hiw.bl.setCell (p := ⟨w.heap.size + 2, 0, none⟩) (by show wp.heap.size ≤ w.heap.size + 2; omega) (.slice av R.length cv)
    have HF : Hid ((W.setCell ⟨w.heap.size + 2, 0, none⟩ (.slice av R.length cv)).heap[D]? = some (.deferred (some [])) ∧ (W.setCell ⟨w.heap.size + 2, 0, none⟩ (.slice av R.length cv)).cell? ⟨w.heap.size + 2, 0, none⟩ = some (.slice av R.length cv) ∧ IsR (W.setCell ⟨w.heap.size + 2, 0, none⟩ (.slice av R.length cv)) av R.length cv R ∧ Below wp.heap.size wp (W.setCell ⟨w.heap.size + 2, 0, none⟩ (.slice av R.length cv)) ∧ WfR R ∧ tw dec 0 R = R) := ⟨hK', hb2.cell, hRl', hbl, hiw.wf, htw⟩
    clear hiw htw r1 r2 r3 hRl hs hb2 hlt r2' r3' hRl' hK' hbl hK hys hpl hz3 kc
    gi_wp2_with fail
    have hp0 : ∀ o', Kc (W.setCell ⟨w.heap.size + 2, 0, none⟩ (.slice av R.length cv)) ((W.setCell ⟨w.heap.size + 2, 0, none⟩ (.slice av R.length cv)).putObj D o') := fun o' => Kc.put HF.out.1 rfl
    refine ⟨by simp, .inl ⟨_, _, rfl, run_takeDeferred HF.out.1, ?_⟩⟩
    have y0 := fun o' => (hp0 o').cell HF.out.2.1
    refine ⟨.slice av R.length cv, by simp [results, Tryd.results35, go_sem, y0], ?_, av, R.length, cv, rfl, ?_, ?_⟩
    · exact HF.out.2.2.2.1.grown (grownBy_putObj' _ D _) (by have := HF.out.2.2.2.1.size; omega) (fun k e => by cases e; omega)
    · rw [← hR.out, HF.out.2.2.2.2.2]; exact HF.out.2.2.1.kc (hp0 _)
    · rw [← hR.out, HF.out.2.2.2.2.2]; exact HF.out.2.2.2.2.1
  case stop =>
    intro D c pre W hD hSp hI hK
    obtain ⟨rfl, R, ⟨v, xs, r1, r2, r3⟩, hw, hb, hs, ht⟩ := hI
    obtain ⟨r, t, hpl, hys⟩ := hSp
    have hz3 := chkF_zero H.out.1.ok
    have hR := ht (gl x t)
    rw [← gl_append, hys, gl_from (good_rz hz3.2.2) hpl] at hR
    obtain ⟨av, cv, rfl, hRl⟩ := own_isR r2 r3
    have HF : Hid (W.heap[D]? = some (.deferred (some [])) ∧ W.cell? ⟨w.heap.size + 2, 0, none⟩ = some (.slice av R.length cv) ∧ IsR W av R.length cv R ∧ Below wp.heap.size wp W ∧ WfR R ∧ tw dec 0 (L.filter (nl x)) = R) := ⟨hK, r1.cell, hRl, hb, hw, hR⟩
    clear r1 r2 r3 hRl hb hw hR hK hys hpl hz3 ht
    gi_wp2_with fail
    have hp0 : ∀ o', Kc W (W.putObj D o') := fun o' => Kc.put HF.out.1 rfl
    refine ⟨by simp, .inl ⟨_, _, rfl, run_takeDeferred HF.out.1, ?_⟩⟩
    have y0 := fun o' => (hp0 o').cell HF.out.2.1
    refine ⟨.slice av R.length cv, by simp [results, Tryd.results35, go_sem, y0], ?_, av, R.length, cv, rfl, ?_, ?_⟩
    · exact HF.out.2.2.2.1.grown (grownBy_putObj' _ D _) (by have := HF.out.2.2.2.1.size; omega) (fun k e => by cases e; omega)
    · rw [HF.out.2.2.2.2.2]; exact HF.out.2.2.1.kc (hp0 _)
    · rw [HF.out.2.2.2.2.2]; exact HF.out.2.2.2.2.1
theorem while_any (p cf Bn : Nat) (caps : Array Value) (ax : Option Addr) (nx cx : Nat) (x : List Int) (L : List (List Int)) (wp w : World) (St : Nat → World → Prop) (dec : Nat → List Int → Bool)
    (hP : PtI wp p L) (hX : IsI .u8 wp ax nx cx x) (hbx : Bytes x) (hbel : Below wp.heap.size wp w) (hC : Clo wp w.heap.size Bn cf caps St dec) (h0 : St 0 w) :
    Calls Tryd.prog 35 #[.pointer (some ⟨p, 0, none⟩), .slice ax nx cx, .func (.func cf) #[] caps] w (Whl (tw dec 0 (L.filter (nl x))) wp) :=
  (callsIn_wide (n := 9)).1 (while_in p cf Bn caps ax nx cx x L wp w St dec hP hX hbx hbel hC h0)
end Go.Proofs.YtocjmbhfpofoeaaDoor
