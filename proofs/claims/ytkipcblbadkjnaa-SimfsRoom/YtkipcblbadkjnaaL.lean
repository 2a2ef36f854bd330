/- The contracts of Create, Remove, Rename, Link, Sync and Read. Conditions: those of each theorem. -/
import Derived.Test.YtkipcblbadkjnaaK
namespace Go.Proofs.Ytkipcblbadkjnaa
open Go.RowKit

/-- A new file in block g. -/
def fresh (y : X) (g : Nat) : X := { y with made := y.made + 1, K := fun k => y.K k ∨ k = g, num := fun k => if k = g then y.made + 1 else y.num k, rv := fun k => if k = g then .slice none 0 0 else y.rv k, bs := fun k => if k = g then [] else y.bs k, st := fun k => if k = g then 0 else y.st k, cap := y.cap + 1 }
theorem FW.newFile {w : World} {b : Nat} {y : X} (h : FW w b y) (hc : y.cap + 1 ≤ 1000000) :
    Mv b w y ((w.setCell ⟨b, 1, none⟩ (.int .i64 (y.made + 1))).alloc (.cells #[.int .i64 (y.made + 1), .slice none 0 0, .int .i64 0] 79)) (fresh y w.heap.size) := by
  have hk : Kp (fun k => k = b) w ((w.setCell ⟨b, 1, none⟩ (.int .i64 (y.made + 1))).alloc (.cells #[.int .i64 (y.made + 1), .slice none 0 0, .int .i64 0] 79)) := (kp_set w b 1 _).alloc _
  have hn : ¬ y.K w.heap.size := fun hg => by have := tg_lt (h.tf hg); omega
  have hne : ∀ {g}, y.K g → g ≠ w.heap.size := fun hg e => hn (e ▸ hg)
  obtain ⟨h1, h2, h3, h4⟩ := h.fcs hk
  have f1 := h.fc.set1 (y.made + 1)
  have hbl : b < w.heap.size := tg_lt h.tb
  refine ⟨⟨f1.kept ?_, h1, h2, h.ps, h3, ⟨?_, ?_, ?_, ?_, ?_, ?_⟩, fun s g e => .inl (h.pk s g e), fun s g e => .inl (h.sk s g e), fun c hc => ⟨(h.ck c hc).1, fun g e => .inl ((h.ck c hc).2 g e)⟩, ?_, ?_, ?_, h.b4, hc⟩, hk.mono (fun k _ e => .inl e), ?_⟩
  · exact (World.grownBy_alloc (w.setCell ⟨b, 1, none⟩ (.int .i64 (y.made + 1))) _ none).block b (by simpa using hbl) (by simp)
  · intro g hg
    by_cases e : g = w.heap.size
    · subst e
      have := heap_alloc_new (w.setCell ⟨b, 1, none⟩ (.int .i64 (y.made + 1))) (.cells #[.int .i64 (y.made + 1), .slice none 0 0, .int .i64 0] 79)
      simpa [fresh] using this
    · have hg : y.K g := hg.resolve_right e
      have := h4.fl g hg
      simpa [fresh, e] using this
  · intro g hg
    by_cases e : g = w.heap.size
    · subst e
      simp only [fresh, if_true]
      exact ⟨rfl, .inl ⟨rfl, rfl⟩⟩
    · have := h4.fr g (hg.resolve_right e)
      simpa [fresh, e] using this
  · intro g g' hg hg' k e e'
    simp only [fresh] at e e'
    split at e
    · cases e
    · split at e'
      · cases e'
      · exact h4.sep g g' (hg.resolve_right ‹_›) (hg'.resolve_right ‹_›) k e e'
  · intro g g' hg hg' e
    simp only [fresh] at e
    by_cases e1 : g = w.heap.size <;> by_cases e2 : g' = w.heap.size
    · rw [e1, e2]
    · have := h.fl.nle g' (hg'.resolve_right e2)
      rw [if_pos e1, if_neg e2] at e; omega
    · have := h.fl.nle g (hg.resolve_right e1)
      rw [if_neg e1, if_pos e2] at e; omega
    · rw [if_neg e1, if_neg e2] at e
      exact h4.num1 g g' (hg.resolve_right e1) (hg'.resolve_right e2) e
  · intro g hg
    have h3 := h.b3
    by_cases e : g = w.heap.size
    · simp only [fresh, if_pos e]; omega
    · have := h.fl.nle g (hg.resolve_right e)
      simp only [fresh, if_neg e]; omega
  · intro g hg
    by_cases e : g = w.heap.size
    · simp only [fresh, if_pos e]; decide
    · have := h.fl.st0 g (hg.resolve_right e)
      simp only [fresh, if_neg e]; exact this
  · have := h.b1; show y.pn ≤ y.cap + 1; omega
  · have := h.b2; show y.sn + y.cs.length ≤ y.cap + 1; omega
  · have := h.b3; show 0 ≤ y.made + 1 ∧ y.made + 1 ≤ ((y.cap + 1 : Nat) : Int); omega
  · intro k hf
    rcases hf with e | e | e | e | e | ⟨g, hg, e⟩
    · exact .inl (.inl e)
    · exact .inl (.inr (.inl e))
    · exact .inl (.inr (.inr (.inl e)))
    · exact .inl (.inr (.inr (.inr (.inl e))))
    · rcases e with e | e
      · exact .inl (.inr (.inr (.inr (.inr (.inl e)))))
      · exact .inr (by omega)
    · simp only [fresh] at e
      split at e
      · cases e
      · exact .inl (.inr (.inr (.inr (.inr (.inr ⟨g, hg.resolve_right ‹_›, e⟩)))))
/-- Files to which changes have been done. -/
def dn (x : X) (ds : List Ch) (pb : Nat) (cv : Value) : X := { x with pb := some pb, pn := x.pn + ds.length, pm := chg x.pm ds, cv := cv, cs := x.cs ++ ds, cap := x.cap + ds.length }
theorem rdC_one (w : World) (c : Ch) : RdC (w.alloc (.cells #[.string c.1, .string c.2.1, pv c.2.2] 95)) (some ⟨w.heap.size, 0, none⟩) [c] := by
  refine .inr ⟨_, _, rfl, by simp, fun i hi => ?_⟩
  have : i = 0 := by simpa using hi
  subst this
  simp
theorem out_new {w : World} {b : Nat} {x : X} (h : FW w b x) : Out (foot b x) (some ⟨w.heap.size, 0, none⟩) := by
  intro ad had hf
  cases had
  exact absurd (h.lt hf) (Nat.lt_irrefl _)
/-- do, of one change that has just been built. -/
theorem do_one (b : Nat) (x : X) (c : Ch) (w : World) (h : FW w b x) (hc : okCh c ∧ ∀ g, c.2.2 = some g → x.K g) (hcap : x.cap + 1 ≤ 1000000) (N : Nat) (hN : w.heap.size = N) :
    Calls Try.prog 53 #[.pointer (some ⟨b, 0, none⟩), .slice (some ⟨N, 0, none⟩) 1 1] (w.alloc (.cells #[.string c.1, .string c.2.1, pv c.2.2] 95)) fun e w' => e = .returned (.tuple #[]) ∧ ∃ pb cv, Mv b w x w' (dn x [c] pb cv) := by
  subst hN
  have hb : Below w.heap.size w (w.alloc (.cells #[.string c.1, .string c.2.1, pv c.2.2] 95)) := (Below.refl _ _).alloc (Nat.le_refl _) _
  refine (do_any b x _ 1 1 [c] _ (h.below hb) rfl (by decide) (rdC_one w c) (out_new h) (fun d hd => by simp at hd; subst hd; exact hc) hcap).mono ?_
  rintro e w' ⟨rfl, pb, cv, hm⟩
  exact ⟨rfl, pb, cv, (Mv.below h hb).trans hm⟩

set_option maxHeartbeats 1600000 in
set_option maxRecDepth 100000 in
theorem create_new (b : Nat) (x y : X) (s : ByteArray) (w : World) (h : FW w b x) (he : ent x = (0, y)) (hs : s.size ≤ maxLen) (hm : mb s = true) (hg : y.pm s = none) (hcap : y.cap + 2 ≤ 1000000) :
    Calls Try.prog 24 #[.pointer (some ⟨b, 0, none⟩), .string s] w fun e w' => e = .returned (.int .i64 0) ∧ ∃ g pb cv, w.heap.size ≤ g ∧ Mv b w x w' (dn (fresh y g) [(⟨#[]⟩, s, some g)] pb cv) := by
  have H : Hid (FW w b x) := h
  have HE : Hid (ent x = (0, y)) := he
  have HS : Hid (s.size ≤ maxLen) := hs
  have HG : Hid (y.pm s = none) := hg
  have HP : Hid (y.cap + 2 ≤ 1000000) := hcap
  clear h he hs hg hcap
  go_enter Try.func24, Try.ntmps24
  go_wp2_with (first
    | (go_at_call 51; refine (enter_ok b x y w H.out HE.out).mono ?_; rintro e w1 ⟨rfl, hMv⟩; have c1 := hMv.fw.fc.c1; have z1 := hMv.fw.fc.fz 1; have c2 := hMv.fw.fc.c2; have lk := hMv.fw.pw.look s HS.out; rw [HG.out] at lk; simp only [pv] at lk
       have b3 := hMv.fw.b3; have b5 := hMv.fw.b5; have hwr : wrap64 (y.made + 1) = y.made + 1 := by (unfold wrap64; omega)
       have HMv : Hid _ := hMv; clear hMv b3 b5)
    | (go_at_call 52; refine (maybe_any s _ HS.out).mono ?_; rintro e w2 ⟨rfl, rfl⟩)
    | (go_at_call 53; refine (do_one b (fresh y w2.heap.size) (⟨#[]⟩, s, some w2.heap.size) _ (HMv.out.fw.newFile (by have := HP.out; omega)).fw ⟨⟨(Nat.zero_le _ : 0 ≤ maxLen), HS.out, fun _ => ⟨_, rfl⟩⟩, fun g e => by cases e; exact .inr rfl⟩ (by have := HP.out; show y.cap + 1 + 1 ≤ _; omega) (w2.heap.size + 1) (by simp)).mono ?_; rintro e w4 ⟨rfl, pb, cv, hMv2⟩; have HMv2 : Hid _ := hMv2; clear hMv2))
  go_ret
  exact ⟨rfl, _, pb, cv, HMv.out.kp.size, HMv.out.trans ((HMv.out.fw.newFile (by have := HP.out; omega)).trans HMv2.out)⟩
set_option maxHeartbeats 1600000 in
set_option maxRecDepth 100000 in
theorem sync_none (b : Nat) (x y : X) (s : ByteArray) (w : World) (h : FW w b x) (he : ent x = (0, y)) (hs : s.size ≤ maxLen) (hg : y.pm s = none) :
    Calls Try.prog 26 #[.pointer (some ⟨b, 0, none⟩), .string s] w fun e w' => e = .returned (.int .i64 60) ∧ Mv b w x w' y := by
  have H : Hid (FW w b x) := h
  have HE : Hid (ent x = (0, y)) := he
  have HS : Hid (s.size ≤ maxLen) := hs
  have HG : Hid (y.pm s = none) := hg
  clear h he hs hg
  go_enter Try.func26, Try.ntmps26
  go_wp2_with (go_at_call 51; refine (enter_ok b x y w H.out HE.out).mono ?_; rintro e w1 ⟨rfl, hMv⟩; have c2 := hMv.fw.fc.c2; have lk := hMv.fw.pw.look s HS.out; rw [HG.out] at lk; simp only [pv] at lk; have HMv : Hid _ := hMv; clear hMv)
  go_ret
  exact ⟨rfl, HMv.out⟩
set_option maxHeartbeats 1600000 in
set_option maxRecDepth 100000 in
theorem remove_none (b : Nat) (x y : X) (s : ByteArray) (w : World) (h : FW w b x) (he : ent x = (0, y)) (hs : s.size ≤ maxLen) (hg : y.pm s = none) :
    Calls Try.prog 30 #[.pointer (some ⟨b, 0, none⟩), .string s] w fun e w' => e = .returned (.int .i64 60) ∧ Mv b w x w' y := by
  have H : Hid (FW w b x) := h
  have HE : Hid (ent x = (0, y)) := he
  have HS : Hid (s.size ≤ maxLen) := hs
  have HG : Hid (y.pm s = none) := hg
  clear h he hs hg
  go_enter Try.func30, Try.ntmps30
  go_wp2_with (go_at_call 51; refine (enter_ok b x y w H.out HE.out).mono ?_; rintro e w1 ⟨rfl, hMv⟩; have c2 := hMv.fw.fc.c2; have lk := hMv.fw.pw.look s HS.out; rw [HG.out] at lk; simp only [pv] at lk; have HMv : Hid _ := hMv; clear hMv)
  go_ret
  exact ⟨rfl, HMv.out⟩
set_option maxHeartbeats 1600000 in
set_option maxRecDepth 100000 in
theorem rename_none (b : Nat) (x y : X) (s : ByteArray) (t : ByteArray) (w : World) (h : FW w b x) (he : ent x = (0, y)) (hs : s.size ≤ maxLen) (hg : y.pm s = none) :
    Calls Try.prog 29 #[.pointer (some ⟨b, 0, none⟩), .string s, .string t] w fun e w' => e = .returned (.int .i64 60) ∧ Mv b w x w' y := by
  have H : Hid (FW w b x) := h
  have HE : Hid (ent x = (0, y)) := he
  have HS : Hid (s.size ≤ maxLen) := hs
  have HG : Hid (y.pm s = none) := hg
  clear h he hs hg
  go_enter Try.func29, Try.ntmps29
  go_wp2_with (go_at_call 51; refine (enter_ok b x y w H.out HE.out).mono ?_; rintro e w1 ⟨rfl, hMv⟩; have c2 := hMv.fw.fc.c2; have lk := hMv.fw.pw.look s HS.out; rw [HG.out] at lk; simp only [pv] at lk; have HMv : Hid _ := hMv; clear hMv)
  go_ret
  exact ⟨rfl, HMv.out⟩
set_option maxHeartbeats 1600000 in
set_option maxRecDepth 100000 in
theorem link_none (b : Nat) (x y : X) (s : ByteArray) (t : ByteArray) (w : World) (h : FW w b x) (he : ent x = (0, y)) (hs : s.size ≤ maxLen) (hg : y.pm s = none) :
    Calls Try.prog 31 #[.pointer (some ⟨b, 0, none⟩), .string s, .string t] w fun e w' => e = .returned (.int .i64 60) ∧ Mv b w x w' y := by
  have H : Hid (FW w b x) := h
  have HE : Hid (ent x = (0, y)) := he
  have HS : Hid (s.size ≤ maxLen) := hs
  have HG : Hid (y.pm s = none) := hg
  clear h he hs hg
  go_enter Try.func31, Try.ntmps31
  go_wp2_with (go_at_call 51; refine (enter_ok b x y w H.out HE.out).mono ?_; rintro e w1 ⟨rfl, hMv⟩; have c2 := hMv.fw.fc.c2; have lk := hMv.fw.pw.look s HS.out; rw [HG.out] at lk; simp only [pv] at lk; have HMv : Hid _ := hMv; clear hMv)
  go_ret
  exact ⟨rfl, HMv.out⟩
set_option maxHeartbeats 1600000 in
set_option maxRecDepth 100000 in
theorem append_none (b : Nat) (x y : X) (s : ByteArray) (v : Value) (w : World) (h : FW w b x) (he : ent x = (0, y)) (hs : s.size ≤ maxLen) (hg : y.pm s = none) :
    Calls Try.prog 25 #[.pointer (some ⟨b, 0, none⟩), .string s, v] w fun e w' => e = .returned (.int .i64 60) ∧ Mv b w x w' y := by
  have H : Hid (FW w b x) := h
  have HE : Hid (ent x = (0, y)) := he
  have HS : Hid (s.size ≤ maxLen) := hs
  have HG : Hid (y.pm s = none) := hg
  clear h he hs hg
  go_enter Try.func25, Try.ntmps25
  go_wp2_with (go_at_call 51; refine (enter_ok b x y w H.out HE.out).mono ?_; rintro e w1 ⟨rfl, hMv⟩; have c2 := hMv.fw.fc.c2; have lk := hMv.fw.pw.look s HS.out; rw [HG.out] at lk; simp only [pv] at lk; have HMv : Hid _ := hMv; clear hMv)
  go_ret
  exact ⟨rfl, HMv.out⟩
set_option maxHeartbeats 1600000 in
set_option maxRecDepth 100000 in
theorem rename_bad (b : Nat) (x y : X) (s t : ByteArray) (w : World) (h : FW w b x) (he : ent x = (0, y)) (hs : s.size ≤ maxLen) (ht : t.size ≤ maxLen) (g : Nat) (hg : y.pm s = some g) (hm : mb t = false) :
    Calls Try.prog 29 #[.pointer (some ⟨b, 0, none⟩), .string s, .string t] w fun e w' => e = .returned (.int .i64 63) ∧ Mv b w x w' y := by
  have H : Hid (FW w b x) := h
  have HE : Hid (ent x = (0, y)) := he
  have HS : Hid (s.size ≤ maxLen) := hs
  have HG : Hid (y.pm s = some g) := hg
  have HT : Hid (t.size ≤ maxLen) := ht
  clear h he hs hg ht
  go_enter Try.func29, Try.ntmps29
  go_wp2_with (first | (go_at_call 51; refine (enter_ok b x y w H.out HE.out).mono ?_; rintro e w1 ⟨rfl, hMv⟩; have c2 := hMv.fw.fc.c2; have lk := hMv.fw.pw.look s HS.out; rw [HG.out] at lk; simp only [pv] at lk; have HMv : Hid _ := hMv; clear hMv) | (go_at_call 52; refine (maybe_any t _ HT.out).mono ?_; rintro e w2 ⟨rfl, rfl⟩))
  go_ret
  exact ⟨rfl, HMv.out⟩
set_option maxHeartbeats 1600000 in
set_option maxRecDepth 100000 in
theorem link_bad (b : Nat) (x y : X) (s t : ByteArray) (w : World) (h : FW w b x) (he : ent x = (0, y)) (hs : s.size ≤ maxLen) (ht : t.size ≤ maxLen) (g : Nat) (hg : y.pm s = some g) (hm : mb t = false) :
    Calls Try.prog 31 #[.pointer (some ⟨b, 0, none⟩), .string s, .string t] w fun e w' => e = .returned (.int .i64 63) ∧ Mv b w x w' y := by
  have H : Hid (FW w b x) := h
  have HE : Hid (ent x = (0, y)) := he
  have HS : Hid (s.size ≤ maxLen) := hs
  have HG : Hid (y.pm s = some g) := hg
  have HT : Hid (t.size ≤ maxLen) := ht
  clear h he hs hg ht
  go_enter Try.func31, Try.ntmps31
  go_wp2_with (first | (go_at_call 51; refine (enter_ok b x y w H.out HE.out).mono ?_; rintro e w1 ⟨rfl, hMv⟩; have c2 := hMv.fw.fc.c2; have lk := hMv.fw.pw.look s HS.out; rw [HG.out] at lk; simp only [pv] at lk; have HMv : Hid _ := hMv; clear hMv) | (go_at_call 52; refine (maybe_any t _ HT.out).mono ?_; rintro e w2 ⟨rfl, rfl⟩))
  go_ret
  exact ⟨rfl, HMv.out⟩
set_option maxHeartbeats 1600000 in
set_option maxRecDepth 100000 in
theorem link_there (b : Nat) (x y : X) (s t : ByteArray) (w : World) (h : FW w b x) (he : ent x = (0, y)) (hs : s.size ≤ maxLen) (ht : t.size ≤ maxLen) (g g' : Nat) (hg : y.pm s = some g) (hm : mb t = true) (hg' : y.pm t = some g') :
    Calls Try.prog 31 #[.pointer (some ⟨b, 0, none⟩), .string s, .string t] w fun e w' => e = .returned (.int .i64 61) ∧ Mv b w x w' y := by
  have H : Hid (FW w b x) := h
  have HE : Hid (ent x = (0, y)) := he
  have HS : Hid (s.size ≤ maxLen) := hs
  have HG : Hid (y.pm s = some g) := hg
  have HT : Hid (t.size ≤ maxLen) := ht
  have HG' : Hid (y.pm t = some g') := hg'
  clear h he hs hg ht hg'
  go_enter Try.func31, Try.ntmps31
  go_wp2_with (first | (go_at_call 51; refine (enter_ok b x y w H.out HE.out).mono ?_; rintro e w1 ⟨rfl, hMv⟩; have c2 := hMv.fw.fc.c2; have lk := hMv.fw.pw.look s HS.out; rw [HG.out] at lk; simp only [pv] at lk; have lk' := hMv.fw.pw.look t HT.out; rw [HG'.out] at lk'; simp only [pv] at lk'; have HMv : Hid _ := hMv; clear hMv) | (go_at_call 52; refine (maybe_any t _ HT.out).mono ?_; rintro e w2 ⟨rfl, rfl⟩))
  go_ret
  exact ⟨rfl, HMv.out⟩
set_option maxHeartbeats 1600000 in
set_option maxRecDepth 100000 in
theorem remove_ok (b : Nat) (x y : X) (s : ByteArray) (w : World) (h : FW w b x) (he : ent x = (0, y)) (hs : s.size ≤ maxLen) (g : Nat) (hg : y.pm s = some g) (hcap : y.cap + 1 ≤ 1000000) :
    Calls Try.prog 30 #[.pointer (some ⟨b, 0, none⟩), .string s] w fun e w' => e = .returned (.int .i64 0) ∧ ∃ pb cv, Mv b w x w' (dn y [(s, ⟨#[]⟩, none)] pb cv) := by
  have H : Hid (FW w b x) := h
  have HE : Hid (ent x = (0, y)) := he
  have HS : Hid (s.size ≤ maxLen) := hs
  have HG : Hid (y.pm s = some g) := hg
  have HP : Hid (y.cap + 1 ≤ 1000000) := hcap
  clear h he hs hg hcap
  go_enter Try.func30, Try.ntmps30
  go_wp2_with (first | (go_at_call 51; refine (enter_ok b x y w H.out HE.out).mono ?_; rintro e w1 ⟨rfl, hMv⟩; have c2 := hMv.fw.fc.c2; have lk := hMv.fw.pw.look s HS.out; rw [HG.out] at lk; simp only [pv] at lk; have HMv : Hid _ := hMv; clear hMv) | (go_at_call 53; refine (do_one b y (s, ⟨#[]⟩, none) _ HMv.out.fw ⟨⟨HS.out, (Nat.zero_le _ : 0 ≤ maxLen), fun h => absurd rfl h⟩, fun g e => by cases e⟩ HP.out _ rfl).mono ?_; rintro e w4 ⟨rfl, pb, cv, hMv2⟩; have HMv2 : Hid _ := hMv2; clear hMv2))
  go_ret
  exact ⟨rfl, pb, cv, HMv.out.trans HMv2.out⟩
set_option maxHeartbeats 1600000 in
set_option maxRecDepth 100000 in
theorem rename_ok (b : Nat) (x y : X) (s t : ByteArray) (w : World) (h : FW w b x) (he : ent x = (0, y)) (hs : s.size ≤ maxLen) (ht : t.size ≤ maxLen) (g : Nat) (hg : y.pm s = some g) (hm : mb t = true) (hcap : y.cap + 1 ≤ 1000000) :
    Calls Try.prog 29 #[.pointer (some ⟨b, 0, none⟩), .string s, .string t] w fun e w' => e = .returned (.int .i64 0) ∧ ∃ pb cv, Mv b w x w' (dn y [(s, t, some g)] pb cv) := by
  have H : Hid (FW w b x) := h
  have HE : Hid (ent x = (0, y)) := he
  have HS : Hid (s.size ≤ maxLen) := hs
  have HG : Hid (y.pm s = some g) := hg
  have HT : Hid (t.size ≤ maxLen) := ht
  have HP : Hid (y.cap + 1 ≤ 1000000) := hcap
  clear h he hs hg ht hcap
  go_enter Try.func29, Try.ntmps29
  go_wp2_with (first | (go_at_call 51; refine (enter_ok b x y w H.out HE.out).mono ?_; rintro e w1 ⟨rfl, hMv⟩; have c2 := hMv.fw.fc.c2; have lk := hMv.fw.pw.look s HS.out; rw [HG.out] at lk; simp only [pv] at lk; have HMv : Hid _ := hMv; clear hMv) | (go_at_call 52; refine (maybe_any t _ HT.out).mono ?_; rintro e w2 ⟨rfl, rfl⟩) | (go_at_call 53; refine (do_one b y (s, t, some g) _ HMv.out.fw ⟨⟨HS.out, HT.out, fun _ => ⟨_, rfl⟩⟩, fun g' e => by cases e; exact HMv.out.fw.pk s g HG.out⟩ HP.out _ rfl).mono ?_; rintro e w4 ⟨rfl, pb, cv, hMv2⟩; have HMv2 : Hid _ := hMv2; clear hMv2))
  go_ret
  exact ⟨rfl, pb, cv, HMv.out.trans HMv2.out⟩
set_option maxHeartbeats 1600000 in
set_option maxRecDepth 100000 in
theorem link_ok (b : Nat) (x y : X) (s t : ByteArray) (w : World) (h : FW w b x) (he : ent x = (0, y)) (hs : s.size ≤ maxLen) (ht : t.size ≤ maxLen) (g : Nat) (hg : y.pm s = some g) (hm : mb t = true) (hg' : y.pm t = none) (hcap : y.cap + 1 ≤ 1000000) :
    Calls Try.prog 31 #[.pointer (some ⟨b, 0, none⟩), .string s, .string t] w fun e w' => e = .returned (.int .i64 0) ∧ ∃ pb cv, Mv b w x w' (dn y [(⟨#[]⟩, t, some g)] pb cv) := by
  have H : Hid (FW w b x) := h
  have HE : Hid (ent x = (0, y)) := he
  have HS : Hid (s.size ≤ maxLen) := hs
  have HG : Hid (y.pm s = some g) := hg
  have HT : Hid (t.size ≤ maxLen) := ht
  have HP : Hid (y.cap + 1 ≤ 1000000) := hcap
  have HG' : Hid (y.pm t = none) := hg'
  clear h he hs hg ht hcap hg'
  go_enter Try.func31, Try.ntmps31
  go_wp2_with (first | (go_at_call 51; refine (enter_ok b x y w H.out HE.out).mono ?_; rintro e w1 ⟨rfl, hMv⟩; have c2 := hMv.fw.fc.c2; have lk := hMv.fw.pw.look s HS.out; rw [HG.out] at lk; simp only [pv] at lk; have lk' := hMv.fw.pw.look t HT.out; rw [HG'.out] at lk'; simp only [pv] at lk'; have HMv : Hid _ := hMv; clear hMv) | (go_at_call 52; refine (maybe_any t _ HT.out).mono ?_; rintro e w2 ⟨rfl, rfl⟩) | (go_at_call 53; refine (do_one b y (⟨#[]⟩, t, some g) _ HMv.out.fw ⟨⟨(Nat.zero_le _ : 0 ≤ maxLen), HT.out, fun _ => ⟨_, rfl⟩⟩, fun g' e => by cases e; exact HMv.out.fw.pk s g HG.out⟩ HP.out _ rfl).mono ?_; rintro e w4 ⟨rfl, pb, cv, hMv2⟩; have HMv2 : Hid _ := hMv2; clear hMv2))
  go_ret
  exact ⟨rfl, pb, cv, HMv.out.trans HMv2.out⟩
end Go.Proofs.Ytkipcblbadkjnaa
