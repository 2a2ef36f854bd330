/- The contracts of maps.Clone, settle and SyncDir. Conditions: those of each theorem. -/
import Derived.Test.YtkipcblbadkjnaaM
import Derived.Shelf.SlMaps.Clone
namespace Go.Proofs.Ytkipcblbadkjnaa
open Go.RowKit

set_option maxHeartbeats 1600000 in
set_option maxRecDepth 100000 in
theorem mclone_some (b : Nat) (es : Array MapEntry) (clock : Nat) (w : World) (hb : w.heap[b]? = some (.map es clock)) :
    Calls Try.prog 69 #[.map (some b)] w fun e w' => e = .returned (.map (some w.heap.size)) ∧ w' = w.alloc (.map es clock) := by
  have hq : (binOp .eql 64 (.map (some b)) (.map none)).run Try.prog w = .ok (.bool false) w := run_eql_map_nil (P := Try.prog) w 64 9 76 (some b) Try.underlying64
  have hc := run_maps_clone_sl (P := Try.prog) w 64 hb
  clear hb
  go_enter Try.func69, Try.ntmps69
  go_wp2
  rw [run_callFunc_extern Try.func75 (by kernel_rfl) (by kernel_rfl) (by kernel_rfl) (e := Extern.MapsClone.clone) (by kernel_rfl), hc]
  simp only [Result.andThen]
  rw [Oper.upon_value]
  go_wp2
  rw [run_typeAssert_map_sl _ 64 20 _ _ _ Try.underlying64]
  simp only [Result.andThen]
  rw [Oper.upon_value]
  go_wp2
  go_ret
  exact ⟨rfl, rfl⟩
set_option maxHeartbeats 1600000 in
set_option maxRecDepth 100000 in
theorem mclone_nil (w : World) : Calls Try.prog 69 #[.map none] w fun e w' => e = .returned (.map none) ∧ w' = w := by
  have hq : (binOp .eql 64 (.map none) (.map none)).run Try.prog w = .ok (.bool true) w := run_eql_map_nil (P := Try.prog) w 64 9 76 none Try.underlying64
  go_enter Try.func69, Try.ntmps69
  go_wp2
  go_ret
  exact ⟨rfl, rfl⟩
theorem mclone_any (o : Option Nat) (n : Nat) (m : ByteArray → Option Nat) (w : World) (h : Mo w o n m) :
    Calls Try.prog 69 #[.map o] w fun e w' => ∃ o', e = .returned (.map o') ∧ Mo w' o' n m ∧ Below w.heap.size w w' ∧ ∀ k, o' = some k → w.heap.size ≤ k := by
  cases o with
  | none =>
    refine (mclone_nil w).mono ?_
    rintro e w' ⟨rfl, rfl⟩
    exact ⟨none, rfl, h, Below.refl _ _, fun k e => by cases e⟩
  | some b =>
    obtain ⟨D, ⟨es, clock, hb, r⟩, h2⟩ := h
    refine (mclone_some b es clock w hb).mono ?_
    rintro e w' ⟨rfl, rfl⟩
    exact ⟨_, rfl, ⟨D, ⟨es, clock, heap_alloc_new w _, r⟩, h2⟩, (Below.refl _ _).alloc (Nat.le_refl _) _, fun k e => by cases e; exact Nat.le_refl _⟩
/-- Files of which all paths stay. -/
def settled (x : X) (sb : Option Nat) : X := { x with sb := sb, sn := x.pn, sm := x.pm, cv := .slice none 0 0, cs := [] }
theorem settle_fin {w w1 : World} {b : Nat} {x : X} {sb : Option Nat} (h : FW w b x) (hM : Mo w1 sb x.pn x.pm) (hb : Below w.heap.size w w1) (hs : ∀ k, sb = some k → w.heap.size ≤ k) :
    Mv b w x ((w1.setCell ⟨b, 3, none⟩ (.map sb)).setCell ⟨b, 4, none⟩ (.slice none 0 0)) (settled x sb) := by
  have h1 := h.below hb
  have hk : Kp (fun k => k = b) w1 ((w1.setCell ⟨b, 3, none⟩ (.map sb)).setCell ⟨b, 4, none⟩ (.slice none 0 0)) := (kp_set w1 b 3 _).setCell (p := ⟨b, 4, none⟩) (.inl rfl) _
  obtain ⟨h2, _, _, h4⟩ := h1.fcs hk
  have hlt := tg_lt h.tb
  refine ⟨⟨(h1.fc.set3 (.map sb)).set4 (.slice none 0 0), h2, hM.kept (fun k e => hk.block k ?_ ?_), ?_, ⟨rfl, .inl ⟨rfl, rfl⟩⟩, h4, h.pk, h.pk, fun c hc => (by cases hc), h.b1, ?_, h.b3, h.b4, h.b5⟩, ?_, ?_⟩
  · exact tg_lt (hM.mp e).tg
  · intro e'; have := hs k e; omega
  · intro k e e'
    have := hs k e'
    have := tg_lt (h.tp e)
    omega
  · have := h.b1; show x.pn + 0 ≤ x.cap; omega
  · exact (Kp.of_below (P := foot b x) hb).trans hk (fun k e => .inl (.inl e))
  · intro k hk
    rcases hk with e | e | e | e | e | e
    · exact .inl (.inl e)
    · exact .inl (.inr (.inl e))
    · exact .inr (hs k e)
    · cases e
    · exact .inl (.inr (.inr (.inr (.inr (.inl e)))))
    · exact .inl (.inr (.inr (.inr (.inr (.inr e)))))
set_option maxHeartbeats 1600000 in
set_option maxRecDepth 100000 in
theorem settle_any (b : Nat) (x : X) (w : World) (h : FW w b x) :
    Calls Try.prog 54 #[.pointer (some ⟨b, 0, none⟩)] w fun e w' => e = .returned (.tuple #[]) ∧ ∃ sb, Mv b w x w' (settled x sb) := by
  have H : Hid (FW w b x) := h
  have c2 := h.fc.c2
  clear h
  go_enter Try.func54, Try.ntmps54
  go_wp2_with (go_at_call 69; refine (mclone_any x.pb x.pn x.pm w H.out.pw).mono ?_; rintro e w1 ⟨sb, rfl, hM, hb, hs⟩; have hf := (H.out.below hb).fc; have z3 := hf.fz 3; have z4 := hf.fz 4; have d3 := hf.c3; have d4 := hf.c4; have HM : Hid _ := hM; have HB : Hid _ := hb; have HS : Hid _ := hs; clear hM hb hs hf)
  go_end0
  exact ⟨rfl, sb, settle_fin H.out HM.out HB.out HS.out⟩
set_option maxHeartbeats 1600000 in
set_option maxRecDepth 100000 in
theorem syncdir_ok (b : Nat) (x y : X) (w : World) (h : FW w b x) (he : ent x = (0, y)) :
    Calls Try.prog 27 #[.pointer (some ⟨b, 0, none⟩)] w fun e w' => e = .returned (.int .i64 0) ∧ ∃ sb, Mv b w x w' (settled y sb) := by
  have H : Hid (FW w b x) := h
  have HE : Hid (ent x = (0, y)) := he
  clear h he
  go_enter Try.func27, Try.ntmps27
  go_wp2_with (first
    | (go_at_call 51; refine (enter_ok b x y w H.out HE.out).mono ?_; rintro e w1 ⟨rfl, hMv⟩; have HMv : Hid _ := hMv; clear hMv)
    | (go_at_call 54; refine (settle_any b y _ HMv.out.fw).mono ?_; rintro e w2 ⟨rfl, sb, hM2⟩; have HM2 : Hid _ := hM2; clear hM2))
  go_ret
  exact ⟨rfl, sb, HMv.out.trans HM2.out⟩
end Go.Proofs.Ytkipcblbadkjnaa
