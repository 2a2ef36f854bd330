/- The word for files in memory, and what keeps it. Conditions: those of each theorem. -/
import Derived.Test.YtkipcblbadkjnaaG
namespace Go.Proofs.Ytkipcblbadkjnaa
open Go.RowKit

theorem done_any (mo : Option Nat) (n : Nat) (m : ByteArray → Option Nat) (a : Option Addr) (len cap : Nat) (cs : List Ch) (w : World) (hM : Mo w mo n m) (hl : cs.length = len) (hC : RdC w a cs) (hok : ∀ c ∈ cs, okCh c) (hn : n + len ≤ 4000000) :
    Calls Try.prog 55 #[.map mo, .slice a len cap] w fun e w' => ∃ b, e = .returned (.map (some b)) ∧ (mo = some b ∨ mo = none ∧ b = w.heap.size) ∧ Mp w' b (n + len) (chg m cs) ∧ Kp (fun k => mo = some k) w w' := by
  cases mo with
  | none =>
    obtain rfl : m = fun _ => none := hM
    refine (done_nil n a len cap cs w hl hC hok hn).mono ?_
    rintro e w' ⟨rfl, h1, h2⟩
    exact ⟨_, rfl, .inr ⟨rfl, rfl⟩, h1, h2.mono (fun _ _ h => h.elim)⟩
  | some b =>
    refine (done_some b n m a len cap cs w hM hl hC hok hn).mono ?_
    rintro e w' ⟨rfl, h1, h2⟩
    exact ⟨_, rfl, .inl rfl, h1, h2.mono (fun _ _ h => by rw [h])⟩

/-- What kind of block it is: of a map 0, of cells their type and one. -/
def tg (w : World) (k : Nat) : Option Nat :=
  match w.heap[k]? with
  | some (.cells _ t _) => some (t + 1)
  | some (.map _ _) => some 0
  | _ => none
theorem tg_lt {w : World} {k t : Nat} (h : tg w k = some t) : k < w.heap.size := by
  rcases Nat.lt_or_ge k w.heap.size with h' | h'
  · exact h'
  · simp [tg, Array.getElem?_eq_none h'] at h
theorem tg_ne {w : World} {k j t u : Nat} (h : tg w k = some t) (h' : tg w j = some u) (hn : t ≠ u) : k ≠ j := by
  intro e; subst e; rw [h] at h'; exact hn (Option.some.inj h')
theorem Mp.tg {w : World} {b n : Nat} {m : ByteArray → Option Nat} (h : Mp w b n m) : tg w b = some 0 := by
  obtain ⟨D, ⟨es, clock, hb, _⟩, _⟩ := h
  simp [Ytkipcblbadkjnaa.tg, hb]
theorem own_tg {w : World} {base : Nat} {e : TypeId} {size : Nat} {v : Value} {n : Nat} {xs : List Value} {k : Nat} (h : w.ownsRow base e size v n xs) (hk : v.ownBlock = some k) : tg w k = some (e + 1) := by
  rcases h.2 with ⟨h0, _⟩ | ⟨g, cap, cur, h1, _, h3, _⟩
  · rw [h0] at hk; cases hk
  · rw [h1] at hk; cases hk
    simp [tg, h3]
theorem own_kept {w w' : World} {base : Nat} {e : TypeId} {size : Nat} {v : Value} {n : Nat} {xs : List Value} (h : w.ownsRow base e size v n xs) (hb : ∀ k, v.ownBlock = some k → w'.heap[k]? = w.heap[k]?) : w'.ownsRow base e size v n xs := by
  refine ⟨h.1, ?_⟩
  rcases h.2 with h0 | ⟨g, cap, cur, h1, h2, h3, h4⟩
  · exact .inl h0
  · exact .inr ⟨g, cap, cur, h1, h2, (hb g (by rw [h1]; rfl)).trans h3, h4⟩
theorem own_zero {w : World} {base : Nat} {e : TypeId} {size : Nat} {v : Value} {n : Nat} {xs : List Value} (h : w.ownsRow base e size v n xs) : w.ownsRow 0 e size v n xs := by
  refine ⟨h.1, ?_⟩
  rcases h.2 with h0 | ⟨g, cap, cur, h1, h2, h3⟩
  · exact .inl h0
  · exact .inr ⟨g, cap, cur, h1, Nat.zero_le _, h3⟩
theorem Mo.kept {w w' : World} {o : Option Nat} {n : Nat} {m : ByteArray → Option Nat} (h : Mo w o n m) (hb : ∀ k, o = some k → w'.heap[k]? = w.heap[k]?) : Mo w' o n m := by
  cases o with
  | none => exact h
  | some b => exact Mp.kept h (hb b rfl)
theorem Mo.mp {w : World} {o : Option Nat} {n b : Nat} {m : ByteArray → Option Nat} (h : Mo w o n m) (e : o = some b) : Mp w b n m := by subst e; exact h
theorem Mo.look {w : World} {o : Option Nat} {n : Nat} {m : ByteArray → Option Nat} (h : Mo w o n m) (s : ByteArray) (hs : s.size ≤ maxLen) :
    (Instr.lookup 64 (.map o) (.string s) false).run Try.prog w = .ok (pv (m s)) w := by
  cases o with
  | none =>
    obtain rfl : m = fun _ => none := h
    exact look_nil w s hs
  | some b => exact Mp.look h s hs
theorem Fc.kept {w w' : World} {b room made p s c fused left} (h : Fc w b room made p s c fused left) (hb : w'.heap[b]? = w.heap[b]?) : Fc w' b room made p s c fused left := ⟨hb.trans h.h⟩
theorem Fc.set1 {w b room made p s c fused left} (h : Fc w b room made p s c fused left) (x : Int) : Fc (w.setCell ⟨b, 1, none⟩ (.int .i64 x)) b room x p s c fused left :=
  ⟨by simp [World.setCell, Array.getElem?_modify, h.h]⟩
theorem Fc.set2 {w b room made p s c fused left} (h : Fc w b room made p s c fused left) (x : Value) : Fc (w.setCell ⟨b, 2, none⟩ x) b room made x s c fused left :=
  ⟨by simp [World.setCell, Array.getElem?_modify, h.h]⟩
theorem Fc.set3 {w b room made p s c fused left} (h : Fc w b room made p s c fused left) (x : Value) : Fc (w.setCell ⟨b, 3, none⟩ x) b room made p x c fused left :=
  ⟨by simp [World.setCell, Array.getElem?_modify, h.h]⟩
theorem Fc.set4 {w b room made p s c fused left} (h : Fc w b room made p s c fused left) (x : Value) : Fc (w.setCell ⟨b, 4, none⟩ x) b room made p s x fused left :=
  ⟨by simp [World.setCell, Array.getElem?_modify, h.h]⟩

/-- Files that lie in their blocks: number, row of bytes, how many stay. -/
structure Fls (w : World) (K : Nat → Prop) (num : Nat → Int) (rv : Nat → Value) (bs : Nat → List Int) (st : Nat → Int) (made : Int) : Prop where
  fl : ∀ g, K g → w.heap[g]? = some (.cells #[.int .i64 (num g), rv g, .int .i64 (st g)] 79)
  fr : ∀ g, K g → w.ownsRow 0 5 1 (rv g) (bs g).length ((bs g).map (Value.int .u8))
  sep : ∀ g g', K g → K g' → ∀ k, (rv g).ownBlock = some k → (rv g').ownBlock = some k → g = g'
  num1 : ∀ g g', K g → K g' → num g = num g' → g = g'
  nle : ∀ g, K g → 1 ≤ num g ∧ num g ≤ made
  st0 : ∀ g, K g → 0 ≤ st g ∧ st g ≤ (bs g).length ∧ (bs g).length ≤ 1048576
theorem Fls.kept {w w' : World} {K : Nat → Prop} {num : Nat → Int} {rv : Nat → Value} {bs : Nat → List Int} {st : Nat → Int} {made : Int} (h : Fls w K num rv bs st made)
    (h1 : ∀ g, K g → w'.heap[g]? = w.heap[g]?) (h2 : ∀ g k, K g → (rv g).ownBlock = some k → w'.heap[k]? = w.heap[k]?) : Fls w' K num rv bs st made :=
  ⟨fun g hg => (h1 g hg).trans (h.fl g hg), fun g hg => own_kept (h.fr g hg) (fun k hk => h2 g k hg hk), h.sep, h.num1, h.nle, h.st0⟩
/-- All that is known of files. -/
structure X where
  room : Int
  made : Int
  pb : Option Nat
  pn : Nat
  pm : ByteArray → Option Nat
  sb : Option Nat
  sn : Nat
  sm : ByteArray → Option Nat
  cv : Value
  cs : List Ch
  fused : Bool
  left : Int
  K : Nat → Prop
  num : Nat → Int
  rv : Nat → Value
  bs : Nat → List Int
  st : Nat → Int
  cap : Nat
/-- Block b is files that are x. -/
structure FW (w : World) (b : Nat) (x : X) : Prop where
  fc : Fc w b x.room x.made (.map x.pb) (.map x.sb) x.cv x.fused x.left
  pw : Mo w x.pb x.pn x.pm
  sw : Mo w x.sb x.sn x.sm
  ps : ∀ k, x.pb = some k → x.sb ≠ some k
  cw : w.ownsRow 0 95 3 x.cv x.cs.length (ccs x.cs)
  fl : Fls w x.K x.num x.rv x.bs x.st x.made
  pk : ∀ s g, x.pm s = some g → x.K g
  sk : ∀ s g, x.sm s = some g → x.K g
  ck : ∀ c ∈ x.cs, okCh c ∧ ∀ g, c.2.2 = some g → x.K g
  b1 : x.pn ≤ x.cap
  b2 : x.sn + x.cs.length ≤ x.cap
  b3 : 0 ≤ x.made ∧ x.made ≤ x.cap
  b4 : 0 ≤ x.left ∧ x.left ≤ 9223372036854775807
  b5 : x.cap ≤ 1000000
/-- The blocks that are the files' own. -/
def foot (b : Nat) (x : X) (k : Nat) : Prop := k = b ∨ x.pb = some k ∨ x.sb = some k ∨ x.cv.ownBlock = some k ∨ x.K k ∨ ∃ g, x.K g ∧ (x.rv g).ownBlock = some k
section
variable {w w' : World} {b : Nat} {x x' : X} {Q : Nat → Prop}
theorem FW.tb (h : FW w b x) : tg w b = some 68 := by simp [tg, h.fc.h]
theorem FW.tp (h : FW w b x) {k : Nat} (e : x.pb = some k) : tg w k = some 0 := (h.pw.mp e).tg
theorem FW.ts (h : FW w b x) {k : Nat} (e : x.sb = some k) : tg w k = some 0 := (h.sw.mp e).tg
theorem FW.tc (h : FW w b x) {k : Nat} (e : x.cv.ownBlock = some k) : tg w k = some 96 := own_tg h.cw e
theorem FW.tf (h : FW w b x) {g : Nat} (hg : x.K g) : tg w g = some 80 := by simp [tg, h.fl.fl g hg]
theorem FW.tr (h : FW w b x) {g k : Nat} (hg : x.K g) (e : (x.rv g).ownBlock = some k) : tg w k = some 6 := own_tg (h.fl.fr g hg) e
theorem FW.lt (h : FW w b x) {k : Nat} (hk : foot b x k) : k < w.heap.size := by
  rcases hk with rfl | e | e | e | e | ⟨g, hg, e⟩
  · exact tg_lt h.tb
  · exact tg_lt (h.tp e)
  · exact tg_lt (h.ts e)
  · exact tg_lt (h.tc e)
  · exact tg_lt (h.tf e)
  · exact tg_lt (h.tr hg e)
/-- What changes no block of the files leaves them. -/
theorem FW.kp (h : FW w b x) (hk : Kp Q w w') (hq : ∀ k, foot b x k → ¬ Q k) : FW w' b x := by
  have hb : ∀ k, foot b x k → w'.heap[k]? = w.heap[k]? := fun k hf => hk.block k (h.lt hf) (hq k hf)
  exact ⟨h.fc.kept (hb b (.inl rfl)), h.pw.kept (fun k e => hb k (.inr (.inl e))), h.sw.kept (fun k e => hb k (.inr (.inr (.inl e)))), h.ps, own_kept h.cw (fun k e => hb k (.inr (.inr (.inr (.inl e))))),
    h.fl.kept (fun g hg => hb g (.inr (.inr (.inr (.inr (.inl hg)))))) (fun g k hg e => hb k (.inr (.inr (.inr (.inr (.inr ⟨g, hg, e⟩)))))), h.pk, h.sk, h.ck, h.b1, h.b2, h.b3, h.b4, h.b5⟩
theorem FW.below (h : FW w b x) (hb : Below w.heap.size w w') : FW w' b x := h.kp (Kp.of_below (P := fun _ => False) hb) (fun _ _ h => h)
/-- Files have become others, and nothing else has been changed. -/
structure Mv (b : Nat) (w : World) (x : X) (w' : World) (x' : X) : Prop where
  fw : FW w' b x'
  kp : Kp (foot b x) w w'
  ft : ∀ k, foot b x' k → foot b x k ∨ w.heap.size ≤ k
theorem Mv.refl (h : FW w b x) : Mv b w x w x := ⟨h, Kp.refl _ _, fun _ h => .inl h⟩
theorem Mv.trans {w'' : World} {x'' : X} (h : Mv b w x w' x') (k : Mv b w' x' w'' x'') : Mv b w x w'' x'' :=
  ⟨k.fw, h.kp.trans k.kp h.ft, fun i hi => by
    rcases k.ft i hi with h1 | h1
    · exact h.ft i h1
    · exact .inr (Nat.le_trans h.kp.size h1)⟩
theorem Mv.below (h : FW w b x) (hb : Below w.heap.size w w') : Mv b w x w' x := ⟨h.below hb, Kp.of_below hb, fun _ h => .inl h⟩
/-- Where only the struct has changed. -/
theorem FW.fcs (h : FW w b x) (hk : Kp (fun k => k = b) w w') : Mo w' x.pb x.pn x.pm ∧ Mo w' x.sb x.sn x.sm ∧ w'.ownsRow 0 95 3 x.cv x.cs.length (ccs x.cs) ∧ Fls w' x.K x.num x.rv x.bs x.st x.made := by
  have hb : ∀ k t, tg w k = some t → t ≠ 68 → w'.heap[k]? = w.heap[k]? := fun k t ht hn => hk.block k (tg_lt ht) (tg_ne ht h.tb hn)
  exact ⟨h.pw.kept (fun k e => hb k _ (h.tp e) (by decide)), h.sw.kept (fun k e => hb k _ (h.ts e) (by decide)), own_kept h.cw (fun k e => hb k _ (h.tc e) (by decide)),
    h.fl.kept (fun g hg => hb g _ (h.tf hg) (by decide)) (fun g k hg e => hb k _ (h.tr hg e) (by decide))⟩
theorem kp_set (w : World) (b i : Nat) (v : Value) : Kp (fun k => k = b) w (w.setCell ⟨b, i, none⟩ v) := (Kp.refl (fun k => k = b) w).setCell (p := ⟨b, i, none⟩) (.inl rfl) v
/-- The fuse. -/
theorem FW.fuse (h : FW w b x) (f : Bool) (l : Int) (hl : 0 ≤ l ∧ l ≤ 9223372036854775807) (hk : Kp (fun k => k = b) w w') (hf : Fc w' b x.room x.made (.map x.pb) (.map x.sb) x.cv f l) : Mv b w x w' { x with fused := f, left := l } := by
  obtain ⟨h1, h2, h3, h4⟩ := h.fcs hk
  exact ⟨⟨hf, h1, h2, h.ps, h3, h4, h.pk, h.sk, h.ck, h.b1, h.b2, h.b3, hl, h.b5⟩, hk.mono (fun k _ e => .inl e), fun k hk => .inl hk⟩
end
/-- What enter does: the answer, and the files behind it. -/
def ent (x : X) : Int × X := if x.fused = false then (0, x) else if x.left = 0 then (62, x) else (0, { x with left := x.left - 1 })
theorem enter_any (b : Nat) (x : X) (w : World) (h : FW w b x) :
    Calls Try.prog 51 #[.pointer (some ⟨b, 0, none⟩)] w fun e w' => e = .returned (.int .i64 (ent x).1) ∧ Mv b w x w' (ent x).2 := by
  unfold ent
  have hf := h.fc
  by_cases h1 : x.fused = false
  · rw [if_pos h1]
    rw [h1] at hf
    refine (enter_free b _ _ _ _ _ _ w hf).mono ?_
    rintro e w' ⟨rfl, rfl⟩
    exact ⟨rfl, Mv.refl h⟩
  · rw [if_neg h1]
    have h1 : x.fused = true := by simpa using h1
    rw [h1] at hf
    by_cases h2 : x.left = 0
    · rw [if_pos h2]
      rw [h2] at hf
      refine (enter_spent b _ _ _ _ _ w hf).mono ?_
      rintro e w' ⟨rfl, rfl⟩
      exact ⟨rfl, Mv.refl h⟩
    · rw [if_neg h2]
      have h4 := h.b4
      refine (enter_left b _ _ _ _ _ _ w hf (by omega) h4.2).mono ?_
      rintro e w' ⟨rfl, rfl⟩
      refine ⟨rfl, ?_⟩
      have := h.fuse x.fused (x.left - 1) (by omega) (kp_set w b 6 (.int .i64 (x.left - 1))) (h.fc.set6 _)
      exact this
end Go.Proofs.Ytkipcblbadkjnaa
