/- Files that have one path, as the example of the document makes them; Crash and List of nil. Conditions: those of each theorem. -/
import Derived.Test.YtkipcblbadkjnaaYe
import Derived.Test.YtkipcblbadkjnaaXc
import Derived.Test.YtkipcblbadkjnaaT
import Derived.Test.YtkipcblbadkjnaaS
import Derived.Test.YtkipcblbadkjnaaQ
import Derived.Laws.BytesArg
namespace Go.Proofs.Ytkipcblbadkjnaa
open Go.RowKit

theorem list_any (b : Nat) (x : X) (s : ByteArray) (w : World) (h : FW w b x) :
    Calls Try.prog 21 #[.pointer (some ⟨b, 0, none⟩), .string s] w fun e W' => ∃ v ys, Pths x.pm ys ∧ e = .returned v ∧ W'.ownsRow w.heap.size 9 1 v (begs s ys).length ((begs s ys).map encStr) ∧ Below w.heap.size w W' :=
  (callsIn_wide (n := 9)).1 (list_in b x s w h)
/-- The bytes of a slice as a string. -/
theorem conv_rd (w : World) (a : Option Addr) (cap n : Nat) (xs : List Int) (hn : xs.length = n) (h : Rd .u8 w a xs) :
    Sem.run Try.prog (convert 32 9 (.slice a n cap)) w = .ok (.string (strOfNums xs)) w := by
  rcases h with rfl | ⟨b, off, rfl, _, hc⟩
  · simp at hn; subst hn
    cases a with
    | none => exact run_convert_bytes_nil w 32 5 Try.underlying32 Try.underlying5 0 cap 9 Try.underlying9
    | some x =>
      rw [run_convert_bytes_string w 32 9 5 (some x) 0 cap Try.underlying32 Try.underlying5 Try.underlying9]
      rw [run_bytesToString w x 0 cap [] (by simp [loadCells, loadCellsFrom])]
      rfl
  · exact run_convert_bytes_arg w 32 5 Try.underlying32 Try.underlying5 b off n cap xs hn (by rw [← hn]; exact hc) 9 Try.underlying9

/-- Files that are new. -/
def xnew (room : Int) : X := ⟨room, 0, none, 0, fun _ => none, none, 0, fun _ => none, .slice none 0 0, [], false, 0, fun _ => False, fun _ => 0, fun _ => undef, fun _ => [], fun _ => 0, 0⟩
theorem new_fw (room : Int) (w : World) : FW (w.alloc (.cells #[.int .i64 room, .int .i64 0, .map none, .map none, .slice none 0 0, .bool false, .int .i64 0] 67)) w.heap.size (xnew room) :=
  ⟨⟨heap_alloc_new w _⟩, rfl, rfl, (fun _ e => by cases e), World.ownsRow_nil _ _ _ _, ⟨fun _ h => h.elim, fun _ h => h.elim, fun _ _ h => h.elim, fun _ _ h => h.elim, fun _ h => h.elim, fun _ h => h.elim⟩, (fun _ _ e => by cases e), (fun _ _ e => by cases e), (fun _ e => by cases e), Nat.le_refl _, Nat.le_refl _, ⟨Int.le_refl _, Int.le_refl _⟩, ⟨Int.le_refl _, (show (0 : Int) ≤ 9223372036854775807 by decide)⟩, (show (0 : Nat) ≤ 1000000 by decide)⟩

/-- The files lie in blocks that are newer than w0, and what w0 had is as it was. -/
structure Lo (w0 w : World) (b : Nat) (x : X) : Prop where
  ft : ∀ k, foot b x k → w0.heap.size ≤ k
  be : Below w0.heap.size w0 w
theorem Lo.mv {w0 w w' : World} {b : Nat} {x x' : X} (h : Lo w0 w b x) (hM : Mv b w x w' x') : Lo w0 w' b x' :=
  ⟨fun k hk => (hM.ft k hk).elim (h.ft k) (fun e => Nat.le_trans h.be.size e), h.be.trans (hM.kp.below h.ft h.be.size)⟩
theorem Lo.below {w0 w w' : World} {b : Nat} {x : X} (h : Lo w0 w b x) (hb : Below w.heap.size w w') : Lo w0 w' b x := ⟨h.ft, h.be.trans (hb.mono h.be.size)⟩
theorem Lo.new (room : Int) (w : World) : Lo w (w.alloc (.cells #[.int .i64 room, .int .i64 0, .map none, .map none, .slice none 0 0, .bool false, .int .i64 0] 67)) w.heap.size (xnew room) := by
  refine ⟨?_, (Below.refl _ _).alloc (Nat.le_refl _) _⟩
  rintro k (rfl | e | e | e | e | ⟨g, hg, e⟩)
  · exact Nat.le_refl _
  · cases e
  · cases e
  · cases e
  · exact e.elim
  · exact hg.elim
def A1 : ByteArray := ⟨#[97]⟩
/-- Files with the one path a, that nothing else has been done to. -/
structure One (w : World) (b : Nat) (x : X) (g : Nat) (bs : List Int) (st : Int) : Prop where
  fw : FW w b x
  pm : ∀ s, x.pm s = if s = A1 then some g else none
  bs : x.bs g = bs
  st : x.st g = st
  room : x.room = 100
  fused : x.fused = false
  cs : x.cs = [(⟨#[]⟩, A1, some g)]
  sm : ∀ s, x.sm s = none
  cap : x.cap ≤ 10
section
variable {w w' : World} {b g : Nat} {x : X} {bs : List Int} {st : Int}
theorem One.ent (h : One w b x g bs st) : ent x = (0, x) := if_pos h.fused
theorem One.pa (h : One w b x g bs st) : x.pm A1 = some g := by rw [h.pm, if_pos rfl]
theorem One.kg (h : One w b x g bs st) : x.K g := h.fw.pk A1 g h.pa
theorem held_one {K : Nat → Prop} {pm : ByteArray → Option Nat} (hk : K g) (hp : ∀ s, pm s = if s = A1 then some g else none) : Held pm 1 [(⟨g, hk⟩ : { g : Nat // K g })] := by
  refine ⟨by simp, fun k => ?_, by simp⟩
  simp only [List.mem_singleton]
  constructor
  · rintro rfl
    exact ⟨A1, by rw [hp, if_pos rfl]⟩
  · rintro ⟨s, hs⟩
    rw [hp] at hs
    split at hs
    · cases hs; rfl
    · cases hs
theorem One.below (h : One w b x g bs st) (hb : Below w.heap.size w w') : One w' b x g bs st := ⟨h.fw.below hb, h.pm, h.bs, h.st, h.room, h.fused, h.cs, h.sm, h.cap⟩
end
theorem a1_size : A1.size ≤ maxLen := by decide
theorem one_create {b : Nat} {w : World} (h : FW w b (xnew 100)) :
    Calls Try.prog 24 #[.pointer (some ⟨b, 0, none⟩), .string A1] w fun e w' => e = .returned (.int .i64 0) ∧ ∃ x g, Mv b w (xnew 100) w' x ∧ One w' b x g [] 0 := by
  refine (create_new b _ _ A1 w h (if_pos rfl) a1_size (by decide) rfl (by decide)).mono ?_
  rintro e w' ⟨rfl, g, pb, cv, hg, hM⟩
  refine ⟨rfl, _, g, hM, hM.fw, fun s => ?_, ?_, ?_, rfl, rfl, rfl, fun _ => rfl, by show 0 + 1 + 1 ≤ 10; decide⟩
  · show chg (fun _ => none) [(⟨#[]⟩, A1, some g)] s = _
    have : (A1 : ByteArray) ≠ ⟨#[]⟩ := by decide
    simp only [chg, List.foldl_cons, List.foldl_nil, chg1, if_neg this, upd]
    split
    · rfl
    · split <;> rfl
  · show (if g = g then [] else _) = _
    rw [if_pos rfl]
  · show (if g = g then (0 : Int) else _) = _
    rw [if_pos rfl]
theorem one_append {b g : Nat} {x : X} {bs : List Int} {st : Int} {w : World} (h : One w b x g bs st) (zs : List Int) (cap : Nat) (ad : Addr) (hrd : Rd .u8 w (some ad) zs) (hout : ¬ foot b x ad.block) (hl : bs.length + zs.length ≤ 100) (h0 : 0 < zs.length) :
    Calls Try.prog 25 #[.pointer (some ⟨b, 0, none⟩), .string A1, .slice (some ad) zs.length cap] w fun e w' => e = .returned (.int .i64 0) ∧ ∃ x', Mv b w x w' x' ∧ One w' b x' g (bs ++ zs) st := by
  refine (append_ok_pos b x x A1 (some ad) zs.length cap w h.fw h.ent a1_size g h.pa (by rw [h.bs]; omega) zs rfl hrd (fun _ a e => by cases e; exact hout) (fun e => by cases e) (by omega) 1 _ (held_one h.kg h.pm) (by decide) ?_).mono ?_
  · rw [h.room]
    simp [lens, h.bs]
    omega
  · rintro e w' ⟨rfl, v', hM⟩
    refine ⟨rfl, _, hM, hM.fw, h.pm, ?_, ?_, h.room, h.fused, h.cs, h.sm, h.cap⟩
    · show (if g = g then _ else _) = _
      rw [if_pos rfl, h.bs]
    · show (if g = g then _ else _) = _
      rw [if_pos rfl, h.st]
theorem one_sync {b g : Nat} {x : X} {bs : List Int} {st : Int} {w : World} (h : One w b x g bs st) :
    Calls Try.prog 26 #[.pointer (some ⟨b, 0, none⟩), .string A1] w fun e w' => e = .returned (.int .i64 0) ∧ ∃ x', Mv b w x w' x' ∧ One w' b x' g bs bs.length := by
  refine (sync_ok b x x A1 w h.fw h.ent a1_size g h.pa).mono ?_
  rintro e w' ⟨rfl, hM⟩
  refine ⟨rfl, _, hM, hM.fw, h.pm, ?_, ?_, h.room, h.fused, h.cs, h.sm, h.cap⟩
  · show (if g = g then _ else _) = _
    rw [if_pos rfl, h.bs]
  · show (if g = g then _ else _) = _
    rw [if_pos rfl, h.bs]
/-- Such files behind a crash that leaves their path. -/
structure Aft (w : World) (b : Nat) (x : X) (g : Nat) (bs : List Int) : Prop where
  fw : FW w b x
  pm : ∀ s, x.pm s = if s = A1 then some g else none
  bs : x.bs g = bs
  cs : x.cs = []
theorem one_crash {b g : Nat} {x : X} {bs : List Int} {st : Int} {w : World} (h : One w b x g bs st) (by_ : Int) :
    Calls Try.prog 28 #[.pointer (some ⟨b, 0, none⟩), .int .i64 1, .int .i64 by_] w fun e w' => e = .returned (.tuple #[]) ∧ ∃ x', Mv b w x w' x' ∧ Aft w' b x' g (bs.take (cl by_ bs st).toNat) := by
  refine (crash_any b x 1 by_ w h.fw).mono ?_
  rintro e w' ⟨rfl, q, sb, rv, hM⟩
  refine ⟨rfl, _, hM, hM.fw, fun s => ?_, ?_, rfl⟩
  · show chg x.sm (x.cs.take (wi 1 x.cs.length).toNat) s = _
    have e1 : x.cs.take (wi 1 x.cs.length).toNat = [(⟨#[]⟩, A1, some g)] := by rw [h.cs]; rfl
    have e2 : x.sm = fun _ => none := funext h.sm
    rw [e1, e2]
    have : (A1 : ByteArray) ≠ ⟨#[]⟩ := by decide
    simp only [chg, List.foldl_cons, List.foldl_nil, chg1, if_neg this, upd]
    split
    · rfl
    · split <;> rfl
  · show (if true then (x.bs g).take (cl by_ (x.bs g) (x.st g)).toNat else x.bs g) = _
    rw [if_pos rfl, h.bs, h.st]
theorem pending_fw {b : Nat} {x : X} {w : World} (h : FW w b x) :
    Calls Try.prog 19 #[.pointer (some ⟨b, 0, none⟩)] w fun e w' => e = .returned (.int .i64 (x.cs.length : Int)) ∧ w' = w := by
  obtain ⟨a, c, hcv, _, _, _, _⟩ := own_rdC h.cw
  have hf := h.fc
  rw [hcv] at hf
  exact pending_any b _ _ _ _ _ _ a _ c w hf
theorem aft_used {b g : Nat} {x : X} {bs : List Int} {w : World} (h : Aft w b x g bs) :
    Calls Try.prog 17 #[.pointer (some ⟨b, 0, none⟩)] w fun e w' => e = .returned (.int .i64 (bs.length : Int)) ∧ Below w.heap.size w w' := by
  refine (used_any b x w h.fw).mono ?_
  rintro e w' ⟨ys, hH, rfl, hb⟩
  have hk : x.K g := h.fw.pk A1 g (by rw [h.pm, if_pos rfl])
  have h1 := held_one hk h.pm
  have hp : ys.Perm [⟨g, hk⟩] := (List.perm_ext_iff_of_nodup hH.1 h1.1).2 fun k => (hH.2.1 k).trans (h1.2.1 k).symm
  refine ⟨?_, hb⟩
  rw [List.perm_singleton.1 hp]
  simp [lens, h.bs]
theorem list_empty {b : Nat} {x : X} (s : ByteArray) {w : World} (h : FW w b x) (hn : ∀ s, x.pm s = none) :
    Calls Try.prog 21 #[.pointer (some ⟨b, 0, none⟩), .string s] w fun e w' => ∃ a c, e = .returned (.slice a 0 c) ∧ Below w.heap.size w w' := by
  refine (list_any b x s w h).mono ?_
  rintro e w' ⟨v, ys, hP, rfl, ho, hb⟩
  have hy : ys = [] := by
    refine List.eq_nil_iff_forall_not_mem.2 fun z hz => ?_
    have := (hP.2.2 z).1 hz
    rw [hn] at this
    cases this
  subst hy
  rcases ho.2 with ⟨h0, _⟩ | ⟨g', cap', cur, h1, _⟩
  · exact ⟨none, 0, by rw [h0], hb⟩
  · exact ⟨_, cap', by rw [h1]; rfl, hb⟩
theorem clone_gone {b : Nat} {y : X} {w : World} (h : FW w b y) (hn : ∀ s, y.sm s = none) (by_ : Int) :
    Calls Try.prog 28 #[.pointer (some ⟨b, 0, none⟩), .int .i64 0, .int .i64 by_] w fun e w' => e = .returned (.tuple #[]) ∧ ∃ y', Mv b w y w' y' ∧ ∀ s, y'.pm s = none := by
  refine (crash_any b y 0 by_ w h).mono ?_
  rintro e w' ⟨rfl, q, sb, rv, hM⟩
  refine ⟨rfl, _, hM, fun s => ?_⟩
  show chg y.sm (y.cs.take (wi 0 y.cs.length).toNat) s = _
  have : wi 0 (y.cs.length : Int) = 0 := by
    unfold wi
    rw [if_pos (Int.le_refl _), if_pos (by omega)]
  rw [this]
  simp [chg, hn]
end Go.Proofs.Ytkipcblbadkjnaa
