/- The contract of List. Conditions: those of each theorem. -/
import Derived.Test.YtkipcblbadkjnaaXb
import Derived.Test.YtkipcblbadkjnaaWa
import Derived.Lib.SlicesS
import Derived.Lib.Bytealg
import Derived.Laws.BytesArg
import Derived.Laws.Cover1
import Derived.Maps.OwnIn
namespace Go.Proofs.Ytkipcblbadkjnaa
open Go.RowKit Go.Shelf Go.Sort Go.Maps
attribute [local go_sem] Oper.semAt_some

theorem beq_eq (a b : ByteArray) : (a.toList == b.toList) = decide (a = b) := by
  by_cases h : a = b
  · subst h; simp
  · rw [decide_eq_false h]; exact (Lib.bytes_beq_false_iff a b).2 h
/-- Does s begin with q? -/
def beg (s q : ByteArray) : Bool := decide (q.size ≤ s.size) && decide (s.extract 0 q.size = q)
set_option maxHeartbeats 800000 in
theorem pre_lite (s q : ByteArray) (w : World) : Calls Try.prog 68 #[.string s, .string q] w fun e w' => e = .returned (.bool (beg s q)) ∧ w' = w := by
  obtain ⟨b, hb⟩ : ∃ b, Hid (b = beg s q) := ⟨_, rfl⟩
  rw [← hb.out]
  by_cases h : q.size ≤ s.size
  · have h' : (q.size : Int) ≤ (s.size : Int) := by omega
    by_cases e : s.extract 0 q.size = q
    · have e' : ((s.extract 0 q.size).toList == q.toList) = true := by rw [beq_eq]; simpa using e
      have HE : Hid (s.extract 0 q.size = q) := e
      clear e
      go_enter Try.func68, Try.ntmps68
      go_wp2
      go_ret
      refine ⟨ret_bool ?_, rfl⟩
      rw [hb.out, beg]; simp [h, HE.out]
    · have e' : ((s.extract 0 q.size).toList == q.toList) = false := by rw [beq_eq]; simpa using e
      have HE : Hid (¬ s.extract 0 q.size = q) := e
      clear e
      go_enter Try.func68, Try.ntmps68
      go_wp2
      go_ret
      refine ⟨ret_bool ?_, rfl⟩
      rw [hb.out, beg]; simp [HE.out]
  · have h' : ¬ (q.size : Int) ≤ (s.size : Int) := by omega
    go_enter Try.func68, Try.ntmps68
    go_wp2
    go_ret
    refine ⟨ret_bool ?_, rfl⟩
    rw [hb.out, beg]; simp [h]
theorem pre_any (s q : ByteArray) (w : World) : Calls Try.prog 50 #[.string s, .string q] w fun e w' => e = .returned (.bool (beg s q)) ∧ w' = w := by
  have H : Hid _ := pre_lite s q w
  generalize beg s q = b at H ⊢
  go_enter Try.func50, Try.ntmps50
  go_wp2_with (go_at_call 68; refine Calls.mono H.out ?_; rintro e w' ⟨rfl, rfl⟩)
  go_ret
  exact ⟨rfl, rfl⟩
/-- Those of the paths that begin so. -/
def begs (s : ByteArray) (ys : List (List UInt8)) : List (List UInt8) := ys.filter fun p => beg ⟨p.toArray⟩ s
theorem begs_snoc (s : ByteArray) (ys : List (List UInt8)) (p : List UInt8) : begs s (ys ++ [p]) = if beg ⟨p.toArray⟩ s = true then begs s ys ++ [p] else begs s ys := by
  unfold begs
  rw [List.filter_append, List.filter_cons]
  split <;> simp
theorem begs_len (s : ByteArray) (ys : List (List UInt8)) : (begs s ys).length ≤ ys.length := List.length_filter_le _ _

theorem rowOf_eq {W : World} {B : Nat} {v : Value} (h : W.cell? ⟨B, 0, none⟩ = some v) : rowOf W B = v.ownBlock := by
  unfold rowOf Value.ownBlock
  rw [h]
  cases v with
  | slice a _ _ => cases a <;> rfl
  | _ => rfl
theorem rising_stops (n Bf b Bl : Nat) (x : X) (w : World) (h : FW w b x) (hBf : w.cell? ⟨Bf, 0, none⟩ = some (.pointer (some ⟨b, 0, none⟩))) (hlt : Bf < w.heap.size) (hBl : Bl < w.heap.size) (hrow : ∀ k, rowOf w Bl = some k → k < w.heap.size) :
    SeqStopsK (α := List UInt8) Fence.wide n Try.prog 65 #[.pointer (some ⟨Bf, 0, none⟩)] encP (Kr Bl) (Pths x.pm) (fun _ => True) x.pn w := fun l J Jx W hW hJ _ hY h0 => by
  have hro : rowOf W Bl = rowOf w Bl := by
    unfold rowOf
    rw [hW.cell (p := ⟨Bl, 0, none⟩) hBl]
  exact rising_in n l Bf b Bl x J Jx W hJ hY ((hW.cell (p := ⟨Bf, 0, none⟩) hlt).trans hBf) (h.below hW) (Nat.lt_of_lt_of_le hBl hW.size) (fun k e => Nat.lt_of_lt_of_le (hrow k (hro ▸ e)) hW.size) h0

/-- What List holds between two rounds. -/
structure Li (b : Nat) (x : X) (s : ByteArray) (w : World) (ys : List (List UInt8)) (v : Value) (W : World) : Prop where
  bx : Boxed W w.heap.size 9 (.string s)
  vr : Boxed W (w.heap.size + 1) 45 v
  own : W.ownsRow (w.heap.size + 3) 9 1 v (begs s ys).length ((begs s ys).map encStr)
  fw : FW W b x
  bel : Below w.heap.size w W
theorem Li.kept {b : Nat} {x : X} {s : ByteArray} {w : World} {ys : List (List UInt8)} {v : Value} {B : Nat} (h0 : FW w b x) (hB : w.heap.size + 2 ≤ B) {W W' : World} {row : Option Nat} (h : Li b x s w ys v W) (hg : W.grownBy W' row) (hrow : ∀ r, row = some r → B ≤ r ∧ ∃ o : Obj, W.heap[r]? = some o ∧ o.isCells = false) : Li b x s w ys v W' := by
  refine ⟨h.bx.kept hg (fun e => ?_), h.vr.kept hg (fun e => ?_), own_kept h.own (fun k e => hg.block k (tg_lt (own_tg h.own e)) (fun e' => ?_)), h.fw.kp (Q := fun k => row = some k) (Kp.grown hg (fun k e => e)) (fun k hf e => ?_), h.bel.grown hg (by have := h.bel.size; omega) (fun r e => by have := (hrow r e).1; omega)⟩
  · have := (hrow _ e.symm).1; omega
  · have := (hrow _ e.symm).1; omega
  · obtain ⟨_, o, ho, hc⟩ := hrow k e'.symm
    rw [tg_cells (own_tg h.own e) ho] at hc; cases hc
  · have := (hrow k e).1
    have := h0.lt hf
    omega
theorem Try.info9 : (Try.prog.info? 9).map (fun i => (i.zero, i.size, i.bytes)) = some (some (.string ⟨#[]⟩), 1, 16) := by kernel_rfl
theorem kr_cells {B : Nat} {W W' : World} (hs : W.heap.size ≤ W'.heap.size) (hc : ∀ k, k < W.heap.size → k ≠ B → rowOf W B ≠ some k → W'.heap[k]? = W.heap[k]?) (hr : rowOf W' B = rowOf W B ∨ ∀ k, rowOf W' B = some k → W.heap.size ≤ k) : Kr B W W' :=
  ⟨hs, fun k _ ho _ hB hr => (hc k (Array.getElem?_eq_some_iff.1 ho).1 hB hr).trans ho, hr⟩

theorem kr_put {B l : Nat} {W : World} {o o' : Obj} (hne : l ≠ B) (hk : W.heap[l]? = some o) (ho : o.isCells = false) : Kr B W (W.putObj l o') := by
  refine ⟨by simp, fun k p hp hc _ _ => (World.putObj_heap_other (fun e => ?_)).trans hp, .inl ?_⟩
  · subst e
    rw [hk] at hp; cases hp
    rw [ho] at hc; cases hc
  · unfold rowOf
    rw [World.cell?_of_block (w := W) (w' := W.putObj l o') (a := ⟨B, 0, none⟩) (World.putObj_heap_other (Ne.symm hne))]
theorem Li.add {b : Nat} {x : X} {s : ByteArray} {w W w1 : World} {ys : List (List UInt8)} {v v' : Value} {g : List UInt8} (h0 : FW w b x) (h : Li b x s w ys v W) (hg : beg ⟨g.toArray⟩ s = true)
    (hown : w1.ownsRow (w.heap.size + 3) 9 1 v' ((begs s ys).length + 1) ((begs s ys).map encStr ++ [encStr g])) (hgrow : (W.alloc (.cells #[encStr g] 9)).grownBy w1 v.ownBlock) (hat : v'.ownBlock = v.ownBlock ∨ v'.ownBlock = some (W.alloc (.cells #[encStr g] 9)).heap.size) :
    Boxed w1 (w.heap.size + 1) 45 v ∧ KeepsOthers W (w1.setCell ⟨w.heap.size + 1, 0, none⟩ v') ∧ Kr (w.heap.size + 1) W (w1.setCell ⟨w.heap.size + 1, 0, none⟩ v') ∧ Li b x s w (ys ++ [g]) v' (w1.setCell ⟨w.heap.size + 1, 0, none⟩ v') := by
  obtain ⟨hv1, hv2, hr2, hk2, hb2⟩ := h.vr.appended (by decide) (own_base h.own (Nat.le_add_right _ 3)) h.bel.size (Nat.le_succ _) (own_base hown (Nat.le_add_right _ 3)) hgrow
  have hbl : ∀ k, v.ownBlock = some k → w.heap.size + 3 ≤ k := fun k e => (h.own.lt k e).1
  have hsz : w.heap.size + 1 < W.heap.size := h.vr.lt
  have hkp : Kp (fun k => w.heap.size < k) W (w1.setCell ⟨w.heap.size + 1, 0, none⟩ v') := by
    have k1 : Kp (fun k => w.heap.size < k) W (W.alloc (.cells #[encStr g] 9)) := (Kp.refl _ _).alloc _
    have k2 := k1.trans (Q := fun k => w.heap.size < k) (Kp.grown hgrow (fun k e => by have := hbl k e; omega)) (fun _ e => .inl e)
    exact k2.trans (Q := fun k => k = w.heap.size + 1) (kp_set w1 (w.heap.size + 1) 0 v') (fun k e => .inl (by omega))
  refine ⟨hv1, hk2, kr_cells hkp.size (fun k hk hB hr => ?_) ?_, ?_⟩
  · refine (Below.heap_setCell _ _ _ _ hB).trans ((hgrow.block k (by simp; omega) (fun e => hr ?_)).trans (Below.heap_alloc _ _ _ hk))
    rw [rowOf_eq h.vr.cell]; exact e.symm
  · rw [rowOf_eq hv2.cell, rowOf_eq h.vr.cell]
    rcases hat with e | e
    · exact .inl e
    · refine .inr fun k e' => ?_
      rw [e] at e'; cases e'
      simp
  · have e := begs_snoc s ys g
    rw [if_pos hg] at e
    refine ⟨(hkp.block _ h.bx.lt (Nat.lt_irrefl _)).trans h.bx, hv2, ?_, h.fw.kp hkp (fun k hf e' => ?_), h.bel.trans hb2⟩
    · rw [e, List.length_append, List.map_append]
      refine own_kept hown (fun k e' => Below.heap_setCell _ _ _ _ ?_)
      have := (hown.lt k e').1
      show k ≠ w.heap.size + 1
      omega
    · have := h0.lt hf; omega

set_option linter.unusedSimpArgs false in
set_option maxRecDepth 100000 in
set_option maxHeartbeats 4000000 in
theorem list_in (b : Nat) (x : X) (s : ByteArray) (w : World) (h : FW w b x) :
    CallsIn Fence.wide 9 Try.prog 21 #[.pointer (some ⟨b, 0, none⟩), .string s] w fun e W' => ∃ v ys, Pths x.pm ys ∧ e = .returned v ∧ W'.ownsRow w.heap.size 9 1 v (begs s ys).length ((begs s ys).map encStr) ∧ Below w.heap.size w W' := by
  have H : Hid (FW w b x) := h
  obtain ⟨i0, hi, hz0, hz1, hz2⟩ := info_parts Try.info9
  clear h
  refine callsIn_of_wp_marks Try.func21 rfl trivial ?_ rfl
  simp only [Try.ntmps21, List.size_toArray, List.length_cons, List.length_nil, Nat.reduceAdd, Nat.reduceSub, Array.replicate_succ, Array.replicate_zero, List.push_toArray, List.append_toArray, List.nil_append, List.cons_append]
  gi_wp2_with (refine ⟨trivial, ?_⟩; gi_at_call 49; refine (callsIn_wide.2 (rising_any _ _)).mono ?_; rintro e w3 ⟨rfl, rfl⟩)
  have hal : Below w.heap.size w (((w.alloc (.cells #[.string s] 9)).alloc (.cells #[.slice none 0 0] 45)).alloc (.cells #[.pointer (some ⟨b, 0, none⟩)] 24)) := (((Below.refl _ _).alloc (Nat.le_refl _) _).alloc (by simp) _).alloc (by simp; omega) _
  have hb1 : Boxed (((w.alloc (.cells #[.string s] 9)).alloc (.cells #[.slice none 0 0] 45)).alloc (.cells #[.pointer (some ⟨b, 0, none⟩)] 24)) w.heap.size 9 (.string s) := ((Boxed.new w 9 (.string s)).alloc _).alloc _
  have hb2 : Boxed (((w.alloc (.cells #[.string s] 9)).alloc (.cells #[.slice none 0 0] 45)).alloc (.cells #[.pointer (some ⟨b, 0, none⟩)] 24)) (w.heap.size + 1) 45 (.slice none 0 0) := by
    have := (Boxed.new (w.alloc (.cells #[.string s] 9)) 45 (.slice none 0 0)).alloc (.cells #[.pointer (some ⟨b, 0, none⟩)] 24)
    rwa [World.size_alloc] at this
  have hb3 : Boxed (((w.alloc (.cells #[.string s] 9)).alloc (.cells #[.slice none 0 0] 45)).alloc (.cells #[.pointer (some ⟨b, 0, none⟩)] 24)) (w.heap.size + 2) 24 (.pointer (some ⟨b, 0, none⟩)) := by
    have := Boxed.new ((w.alloc (.cells #[.string s] 9)).alloc (.cells #[.slice none 0 0] 45)) 24 (.pointer (some ⟨b, 0, none⟩))
    rwa [World.size_alloc, World.size_alloc] at this
  have hsz : (((w.alloc (.cells #[.string s] 9)).alloc (.cells #[.slice none 0 0] 45)).alloc (.cells #[.pointer (some ⟨b, 0, none⟩)] 24)).heap.size = w.heap.size + 3 := by simp
  obtain ⟨W0, hW0⟩ : ∃ W0, W0 = (((w.alloc (.cells #[.string s] 9)).alloc (.cells #[.slice none 0 0] 45)).alloc (.cells #[.pointer (some ⟨b, 0, none⟩)] 24)) := ⟨_, rfl⟩
  rw [← hW0] at hal hb1 hb2 hb3 hsz ⊢
  clear hW0
  have hfw : FW W0 b x := H.out.below hal
  have HF : Hid (FW W0 b x) := hfw
  have hli : Li b x s w [] (.slice none 0 0) W0 := ⟨hb1, hb2, World.ownsRow_nil _ _ _ _, hfw, hal⟩
  have hrow0 : ∀ k, rowOf W0 (w.heap.size + 1) = some k → k < W0.heap.size := fun k e => by rw [rowOf_eq hb2.cell] at e; cases e
  have hb3' : W0.cell? ⟨w.heap.size + 1 + 1, 0, none⟩ = some (.pointer (some ⟨b, 0, none⟩)) := hb3.cell
  have hpn := H.out.b1
  have hcap := H.out.b5
  refine wpIn_rangeFunc_ownG_of_H rfl (by decide) (gf := 65) (lb := #[.pointer (some ⟨w.heap.size + 1 + 1, 0, none⟩)]) rfl trivial (enters_of Try.func65 (by kernel_rfl) rfl)
    (rising_stops 8 (w.heap.size + 1 + 1) b (w.heap.size + 1) x W0 hfw hb3' (by omega) (by omega) hrow0) Kr.trans
    (fun W l o o' hl hk ho _ => kr_put (by omega) hk ho)
    (Below.refl _ _) (fun _ => rfl) (fun ys W => ∃ v, Li b x s w ys v W) (fun _ _ _ => False)
    (fun ys W W' row ⟨v, hI⟩ hg hrow => ⟨v, hI.kept H.out (B := W0.heap.size) (by omega) hg hrow⟩) (fun _ _ _ _ _ h _ _ => h) ⟨_, hli⟩
    (fun g => { tmps := #[.pointer (some ⟨b, 0, none⟩), .string s, undef, .pointer (some ⟨w.heap.size, 0, none⟩), .slice none 0 0, .pointer (some ⟨w.heap.size + 1, 0, none⟩), encStr g, .pointer (some ⟨b, 0, none⟩), .bool false, .pointer (some ⟨b, 0, none⟩), .func (.func 65) #[] #[.pointer (some ⟨w.heap.size + 1 + 1, 0, none⟩)], encStr g, undef, undef, undef, undef, undef, undef, undef, undef], defers := [] })
    ?assign ?body ?done ?stop (Kr.refl _)
  case assign =>
    intro l g W K hK
    dsimp only [encP]
    gi_wp2
    exact hK
  case body =>
    rintro l pre g W ⟨v, hL⟩ hlt
    have cB := hL.bx.cell
    have cV := hL.vr.cell
    have HL : Hid (Li b x s w pre v W) := hL
    obtain ⟨r, hr⟩ : ∃ r, Hid (r = beg ⟨g.toArray⟩ s) := ⟨_, rfl⟩
    have HP : Hid (∀ W, Calls Try.prog 50 #[.string ⟨g.toArray⟩, .string s] W fun e w' => e = .returned (.bool r) ∧ w' = W) := fun W => by rw [hr.out]; exact pre_any _ _ W
    have hbl := begs_len s pre
    have HBL : Hid ((begs s pre).length + 1 ≤ 1000001) := by show _ ≤ _; omega
    clear hL hbl
    have hs3w : w.heap.size + 3 ≤ (W.alloc (.cells #[encStr g] 9)).heap.size := by simp; have := HL.out.vr.lt; omega
    have HS3 : Hid _ := hs3w
    cases r with
    | false =>
      gi_wp2_with (refine ⟨trivial, ?_⟩; gi_at_call 50; refine (CallsIn.inRound l (callsIn_wide.2 (HP.out _))).mono ?_; rintro e W' ⟨rfl, rfl⟩)
      refine ⟨KeepsFrom.refl _ _, Kr.refl _ _, v, ?_⟩
      have e := begs_snoc s pre g
      rw [if_neg (by rw [← hr.out]; simp)] at e
      have h1 := HL.out
      exact ⟨h1.bx, h1.vr, by rw [e]; exact h1.own, h1.fw, h1.bel⟩
    | true =>
      gi_wp2_with (first
        | (refine ⟨trivial, ?_⟩; gi_at_call 50; refine (CallsIn.inRound l (callsIn_wide.2 (HP.out _))).mono ?_; rintro e W' ⟨rfl, rfl⟩)
        | (gi_at_builtin; refine wpListIn_append_own_at _ rfl _ _ 45 rfl (w.heap.size + 3) 9 i0 _ 1 16 Try.underlying45 hi hz0 hz1 hz2 rfl (by decide) _ _ _ rfl (HL.out.own.alloc _) ⟨W'.heap.size, 0, none⟩ 1 1 [encStr g] rfl rfl (cell_one_new _ _ _) (by simp [Value.oneCell']) (by unfold maxLen; have := HBL.out; omega) (by have := HBL.out; omega) HS3.out ?_; intro v' w1 hown' hgrow _ hat'
           obtain ⟨g', cap', rfl⟩ := ownsRow_succ hown'
           obtain ⟨hv1, hko, hkr, hli'⟩ := Li.add H.out HL.out hr.out.symm hown' hgrow hat'
           have hc1 := hv1.cell; have hf1 := hv1.frozen
           have HKO : Hid _ := hko; have HKR : Hid _ := hkr; have HLI : Hid _ := hli'
           clear hown' hgrow hat' hv1 hko hkr hli'))
      exact ⟨HKO.out.from _, HKR.out, _, HLI.out⟩
  case done =>
    rintro D ys W hD hP ⟨v, hL⟩ hK
    have cV := hL.vr.cell
    have HL : Hid (Li b x s w ys v W) := hL
    have HP : Hid (Pths x.pm ys) := hP
    have HD2 : Hid (W.heap[D]? = some (.deferred (some []))) := hK
    clear hL hP hK
    gi_wp2_with fail
    refine ⟨by simp, .inl ⟨_, _, rfl, run_takeDeferred HD2.out, ?_⟩⟩
    have h2 := HL.out.kept H.out (B := W0.heap.size) (by omega) (grownBy_putObj' W D (.deferred none)) (fun r e => by cases e; exact ⟨hD, _, HD2.out, rfl⟩)
    exact ⟨v, by simp [results, Try.results21, go_sem], v, ys, HP.out, rfl, own_base h2.own (Nat.le_add_right _ 3), h2.bel⟩
  case stop =>
    intro D c pre W hD _ hF _
    exact hF.elim
end Go.Proofs.Ytkipcblbadkjnaa
