/- The contracts of a part's methods. Conditions: sizes. -/
import Derived.Test.YtocjmbhfpofoeaaDoorGm
namespace Go.Proofs.YtocjmbhfpofoeaaDoor
open Go.RowKit Go.Shelf
attribute [local go_sem] Oper.semAt_some

/-- So many, at most. -/
def upto (most : Int) (j : Nat) (_ : List Int) : Bool := decide ((j : Int) + 1 ≤ most)
theorem tw_upto (most : Int) : ∀ (R : List (List Int)) (j : Nat), tw (upto most) j R = R.take (most - j).toNat
  | [], j => by simp [tw]
  | y :: R, j => by
    simp only [tw]
    by_cases h : (j : Int) + 1 ≤ most
    · rw [if_pos (by simp [upto, h]), tw_upto most R (j + 1)]
      have e : (most - (j : Int)).toNat = (most - ((j + 1 : Nat) : Int)).toNat + 1 := by omega
      rw [e, List.take_succ_cons]
    · rw [if_neg (by simp [upto, h])]
      have e : (most - (j : Int)).toNat = 0 := by omega
      rw [e, List.take_zero]
/-- From's closure. -/
theorem from_clo (wp : World) (N Bn Bm : Nat) (most : Int) (h1 : wp.heap.size ≤ Bn) (h2 : Bn < N) (h3 : Bm < N) (hne : Bm ≠ Bn) :
    Clo wp N Bn 36 #[.pointer (some ⟨Bn, 0, none⟩), .pointer (some ⟨Bm, 0, none⟩)] (fun j W => Boxed W Bn 3 (.int .i64 (j : Int)) ∧ Boxed W Bm 3 (.int .i64 most)) (upto most) := by
  refine ⟨⟨h1, h2⟩, fun j W h => ⟨3, _, by decide, h.1⟩, fun j U V h hf => ⟨(hf _ h2).trans h.1, (hf _ h3).trans h.2⟩, enters_of Tryd.func36 (by kernel_rfl) rfl, fun W j a n c y hj hst _ _ _ => ?_⟩
  have c1 := hst.1.cell
  have z1 := hst.1.frozen
  have c2 : (W.setCell ⟨Bn, 0, none⟩ (.int .i64 ((j : Int) + 1))).cell? ⟨Bm, 0, none⟩ = some (.int .i64 most) := (hst.2.other hne _).cell
  have c3 : (W.setCell ⟨Bn, 0, none⟩ (.int .i64 ((j : Int) + 1))).cell? ⟨Bn, 0, none⟩ = some (.int .i64 ((j : Int) + 1)) := (hst.1.set _).cell
  have hw : IntKind.i64.wrap ((j : Int) + 1) = (j : Int) + 1 := by rw [IntKind.wrap_i64]; omega
  have HS : Hid (Boxed W Bn 3 (.int .i64 (j : Int)) ∧ Boxed W Bm 3 (.int .i64 most)) := hst
  obtain ⟨b, hb⟩ : ∃ b, decide ((j : Int) + 1 ≤ most) = b := ⟨_, rfl⟩
  have HB : Hid (b = upto most j y) := hb.symm
  clear hst
  show Calls Tryd.prog 36 #[.slice a n c, .pointer (some ⟨Bn, 0, none⟩), .pointer (some ⟨Bm, 0, none⟩)] W _
  go_enter Tryd.func36, Tryd.ntmps36
  go_wp2_with fail
  go_ret
  refine ⟨by rw [← HB.out]; rfl, ⟨?_, HS.out.2.other hne _⟩, grownBy_setCell' _ _ _⟩
  have := HS.out.1.set (.int .i64 ((j : Int) + 1))
  exact this

set_option maxRecDepth 20000 in
theorem from_any (p : Nat) (ax : Option Addr) (nx cx : Nat) (x : List Int) (L : List (List Int)) (most : Int) (w : World) (hP : PtI w p L) (hX : IsI .u8 w ax nx cx x) (hbx : Bytes x) :
    Calls Tryd.prog 16 #[.pointer (some ⟨p, 0, none⟩), .slice ax nx cx, .int .i64 most] w (Whl ((L.filter (nl x)).take most.toNat) w) := by
  have hmf : ∀ (fn : Fn) (first cap : Array Value) (w : World), (Instr.makeFunc fn first cap).run Tryd.prog w = .ok (.func fn first cap) w := fun _ _ _ _ => rfl
  have hb : Below w.heap.size w ((w.alloc (.cells #[.int .i64 most] 3)).alloc (.cells #[.int .i64 0] 3)) := ((Below.refl _ _).alloc (Nat.le_refl _) _).alloc (by simp) _
  have b0 : Boxed ((w.alloc (.cells #[.int .i64 most] 3)).alloc (.cells #[.int .i64 0] 3)) w.heap.size 3 (.int .i64 most) := (Boxed.new w 3 _).alloc _
  have b1 : Boxed ((w.alloc (.cells #[.int .i64 most] 3)).alloc (.cells #[.int .i64 0] 3)) (w.heap.size + 1) 3 (.int .i64 0) := by
    have := Boxed.new (w.alloc (.cells #[.int .i64 most] 3)) 3 (.int .i64 0)
    rwa [World.size_alloc] at this
  have HW : Hid _ := while_any p 36 (w.heap.size + 1) #[.pointer (some ⟨w.heap.size + 1, 0, none⟩), .pointer (some ⟨w.heap.size, 0, none⟩)] ax nx cx x L w _ _ (upto most) hP hX hbx hb (from_clo w _ (w.heap.size + 1) w.heap.size most (by omega) (by simp) (by simp; omega) (by omega)) ⟨b1, b0⟩
  have HT : Hid (tw (upto most) 0 (L.filter (nl x)) = (L.filter (nl x)).take most.toNat) := by
    show _ = _
    rw [tw_upto]; simp
  rw [HT.out] at HW
  clear hP hX hbx hb b0 b1
  go_enter Tryd.func16, Tryd.ntmps16
  go_wp2_with fail
  refine Calls.mono HW.out ?_
  rintro e w' ⟨hb', a, n, c, rfl, hR, hwf⟩
  have HF : Hid (Below w.heap.size w w' ∧ IsR w' a n c ((L.filter (nl x)).take most.toNat) ∧ WfR ((L.filter (nl x)).take most.toNat)) := ⟨hb', hR, hwf⟩
  clear hb' hR hwf
  go_wp2_with fail
  go_ret
  exact ⟨HF.out.1, a, n, c, rfl, HF.out.2.1, HF.out.2.2⟩

/-- Prefix' closure. -/
theorem prefix_clo (wp : World) (N Bf : Nat) (af : Option Addr) (nf cf : Nat) (f : List Int) (hF : IsI .u8 wp af nf cf f) (hbf : Bytes f) (h1 : wp.heap.size ≤ Bf) (h2 : Bf < N) :
    Clo wp N Bf 41 #[.pointer (some ⟨Bf, 0, none⟩)] (fun _ W => Boxed W Bf 23 (.slice af nf cf)) (fun _ y => pfx y f) := by
  refine ⟨⟨h1, h2⟩, fun j W h => ⟨23, _, by decide, h⟩, fun j U V h hf => (hf _ h2).trans h, enters_of Tryd.func41 (by kernel_rfl) rfl, fun W j a n c y _ hst hbw hI hby => ?_⟩
  have c1 := hst.cell
  have HP : Hid _ := prefix_any a af n c nf cf y f W hby hbf hI (hF.below hbw)
  obtain ⟨b, hb⟩ : ∃ b, Hid (b = pfx y f) := ⟨_, rfl⟩
  rw [← hb.out] at HP ⊢
  have HS : Hid (Boxed W Bf 23 (.slice af nf cf)) := hst
  clear hst hI hby hbw
  show Calls Tryd.prog 41 #[.slice a n c, .pointer (some ⟨Bf, 0, none⟩)] W _
  go_enter Tryd.func41, Tryd.ntmps41
  go_wp2_with fail
  refine Calls.mono HP.out ?_
  rintro e w' ⟨rfl, hw'⟩; rw [hw']; clear hw' w'
  go_wp2_with fail
  go_ret
  exact ⟨rfl, HS.out, rfl, rfl, rfl, Nat.le_refl _, fun _ _ _ => rfl⟩

set_option maxRecDepth 20000 in
theorem prefixes_any (p : Nat) (ax : Option Addr) (nx cx : Nat) (x : List Int) (L : List (List Int)) (w : World) (hP : PtI w p L) (hX : IsI .u8 w ax nx cx x) (hbx : Bytes x) :
    Calls Tryd.prog 24 #[.pointer (some ⟨p, 0, none⟩), .slice ax nx cx] w (Whl (tw (fun _ y => pfx y x) 0 (L.filter (nl x))) w) := by
  have hmf : ∀ (fn : Fn) (first cap : Array Value) (w : World), (Instr.makeFunc fn first cap).run Tryd.prog w = .ok (.func fn first cap) w := fun _ _ _ _ => rfl
  have hb : Below w.heap.size w (w.alloc (.cells #[.slice ax nx cx] 23)) := (Below.refl _ _).alloc (Nat.le_refl _) _
  have HW : Hid _ := while_any p 41 w.heap.size #[.pointer (some ⟨w.heap.size, 0, none⟩)] ax nx cx x L w _ _ (fun _ y => pfx y x) hP hX hbx hb (prefix_clo w _ w.heap.size ax nx cx x hX hbx (Nat.le_refl _) (by simp)) (Boxed.new w 23 (.slice ax nx cx))
  obtain ⟨R, hR'⟩ : ∃ R, Hid (R = tw (fun _ y => pfx y x) 0 (L.filter (nl x))) := ⟨_, rfl⟩
  rw [← hR'.out] at HW ⊢
  clear hP hX hbx hb
  go_enter Tryd.func24, Tryd.ntmps24
  go_wp2_with fail
  refine Calls.mono HW.out ?_
  rintro e w' ⟨hb', a, n, c, rfl, hR, hwf⟩
  have HF : Hid (Below w.heap.size w w' ∧ IsR w' a n c R ∧ WfR R) := ⟨hb', hR, hwf⟩
  clear hb' hR hwf
  go_wp2_with fail
  go_ret
  exact ⟨HF.out.1, a, n, c, rfl, HF.out.2.1, HF.out.2.2⟩

theorem blocks_any (p : Nat) (L : List (List Int)) (w : World) (hP : PtI w p L) :
    Calls Tryd.prog 19 #[.pointer (some ⟨p, 0, none⟩)] w fun e w' => e = .returned (.int .i64 ((ch L).length : Int)) ∧ w' = w := by
  obtain ⟨ah, mh, ch', ab, mb, cb, p0, p1, hIH, hIB⟩ := hP.mem
  have hl := hIH.hl
  rw [hs_len] at hl
  have HK : Hid _ := size_count p ah mh ch' w p0
  obtain ⟨m, hm⟩ : ∃ m, m = mh := ⟨_, rfl⟩
  rw [hl]
  clear hIH hIB hP
  go_enter Tryd.func19, Tryd.ntmps19
  go_wp2_with fail
  refine Calls.mono HK.out ?_
  rintro e w' ⟨rfl, hw'⟩; rw [hw']; clear hw' w'
  go_wp2_with fail
  go_ret
  exact ⟨rfl, rfl⟩
end Go.Proofs.YtocjmbhfpofoeaaDoor
