/- What a crash makes of files: their paths, and their bytes, one file after the other. Conditions: those of each theorem. -/
import Derived.Test.YtkipcblbadkjnaaV
namespace Go.Proofs.Ytkipcblbadkjnaa
open Go.RowKit

/-- Files whose paths are those that a crash leaves. -/
def back (x : X) (k q : Nat) (sb : Option Nat) : X := { x with pb := some q, pn := x.sn + k, pm := chg x.sm (x.cs.take k), sb := sb, sn := x.sn + k, sm := chg x.sm (x.cs.take k), cv := .slice none 0 0, cs := [], fused := false, left := 0, K := fun g => ∃ s, chg x.sm (x.cs.take k) s = some g }
theorem back_in {w : World} {b : Nat} {x : X} (h : FW w b x) {k g : Nat} {s : ByteArray} (hg : chg x.sm (x.cs.take k) s = some g) : x.K g := by
  rcases chg_in _ hg with h1 | ⟨c, hc, e⟩
  · exact h.sk s g h1
  · exact (h.ck c (List.mem_of_mem_take hc)).2 g e
theorem crash_mid {w wA u w1 : World} {b : Nat} {x : X} {k q : Nat} {sb : Option Nat} (h : FW w b x)
    (hA : Kp (fun i => i = b) w wA) (hFA : Fc wA b x.room x.made (.map x.pb) (.map x.sb) x.cv false 0)
    (hq : x.sb = some q ∨ x.sb = none ∧ wA.heap.size ≤ q) (hk : k ≤ x.cs.length)
    (hM : Mp u q (x.sn + k) (chg x.sm (x.cs.take k))) (hu : Kp (fun i => x.sb = some i) wA u)
    (hM1 : Mo w1 sb (x.sn + k) (chg x.sm (x.cs.take k))) (hb1 : Below (u.setCell ⟨b, 2, none⟩ (.map (some q))).heap.size (u.setCell ⟨b, 2, none⟩ (.map (some q))) w1)
    (hs : ∀ i, sb = some i → (u.setCell ⟨b, 2, none⟩ (.map (some q))).heap.size ≤ i) :
    Mv b w x ((w1.setCell ⟨b, 3, none⟩ (.map sb)).setCell ⟨b, 4, none⟩ (.slice none 0 0)) (back x k q sb) := by
  have tbA : tg wA b = some 68 := by simp [tg, hFA.h]
  have hneb : ∀ i, x.sb = some i → b ≠ i := fun i e => tg_ne h.tb (h.ts e) (by decide)
  have hFu : Fc u b x.room x.made (.map x.pb) (.map x.sb) x.cv false 0 := hFA.kept (hu.block b (tg_lt tbA) (fun e => hneb b e rfl))
  have hF2 := hFu.set2 (.map (some q))
  have hszu : (u.setCell ⟨b, 2, none⟩ (.map (some q))).heap.size = u.heap.size := by simp
  have hbu : b < u.heap.size := (Array.getElem?_eq_some_iff.1 hFu.h).1
  have hF3 : Fc w1 b _ _ _ _ _ _ _ := hF2.kept (hb1.block b (by rw [hszu]; exact hbu))
  have hF4 := (hF3.set3 (.map sb)).set4 (.slice none 0 0)
  have tqu := hM.tg
  have hqb : q ≠ b := tg_ne tqu (show tg u b = some 68 by simp [tg, hFu.h]) (by decide)
  have hqu : q < u.heap.size := tg_lt tqu
  have kT : Kp (fun i => i = b ∨ x.sb = some i) w ((w1.setCell ⟨b, 3, none⟩ (.map sb)).setCell ⟨b, 4, none⟩ (.slice none 0 0)) := by
    have k1 : Kp (fun i => i = b ∨ x.sb = some i) w u := (hA.mono (fun _ _ e => .inl e)).trans (Q := fun i => x.sb = some i) hu (fun i e => .inl (.inr e))
    have k2 := k1.trans (Q := fun i => i = b) (kp_set u b 2 (.map (some q))) (fun i e => .inl (.inl e))
    have k3 := k2.trans (Q := fun _ => False) (Kp.of_below hb1) (fun _ e => e.elim)
    have k4 := k3.trans (Q := fun i => i = b) (kp_set w1 b 3 (.map sb)) (fun i e => .inl (.inl e))
    exact k4.trans (Q := fun i => i = b) (kp_set _ b 4 (.slice none 0 0)) (fun i e => .inl (.inl e))
  have hkb : Kp (fun i => i = b) w1 ((w1.setCell ⟨b, 3, none⟩ (.map sb)).setCell ⟨b, 4, none⟩ (.slice none 0 0)) := (kp_set w1 b 3 (.map sb)).trans (kp_set _ b 4 _) (fun i e => .inl e)
  have far : ∀ i t, tg w i = some t → t ≠ 68 → t ≠ 0 → ((w1.setCell ⟨b, 3, none⟩ (.map sb)).setCell ⟨b, 4, none⟩ (.slice none 0 0)).heap[i]? = w.heap[i]? := fun i t ht n1 n2 =>
    kT.block i (tg_lt ht) (fun hc => by
      rcases hc with e | e
      · exact tg_ne ht h.tb n1 e
      · exact tg_ne ht (h.ts e) n2 rfl)
  have hKK : ∀ g, (back x k q sb).K g → x.K g := fun g ⟨s, e⟩ => back_in h e
  refine ⟨⟨hF4, ?_, ?_, ?_, ⟨rfl, .inl ⟨rfl, rfl⟩⟩, ?_, fun s g e => ⟨s, e⟩, fun s g e => ⟨s, e⟩, fun c hc => (by cases hc), ?_, ?_, h.b3, ⟨Int.le_refl _, show (0 : Int) ≤ 9223372036854775807 by decide⟩, h.b5⟩, ?_, ?_⟩
  · show Mp _ q (x.sn + k) (chg x.sm (x.cs.take k))
    refine Mp.kept (Mp.kept (Mp.kept hM (Below.heap_setCell u ⟨b, 2, none⟩ _ q hqb)) (hb1.block q (by rw [hszu]; exact hqu))) (hkb.block q ?_ hqb)
    exact Nat.lt_of_lt_of_le (by rw [hszu]; exact hqu) hb1.size
  · refine hM1.kept (fun i e => hkb.block i (tg_lt (hM1.mp e).tg) ?_)
    have := hs i e
    rw [hszu] at this
    omega
  · intro i e e'
    cases e
    have := hs q e'
    rw [hszu] at this
    omega
  · have hf := h.fl
    exact ⟨fun g hg => (far g _ (h.tf (hKK g hg)) (by decide) (by decide)).trans (hf.fl g (hKK g hg)), fun g hg => own_kept (hf.fr g (hKK g hg)) (fun i e => far i _ (h.tr (hKK g hg) e) (by decide) (by decide)),
      fun g g' hg hg' => hf.sep g g' (hKK g hg) (hKK g' hg'), fun g g' hg hg' => hf.num1 g g' (hKK g hg) (hKK g' hg'), fun g hg => hf.nle g (hKK g hg), fun g hg => hf.st0 g (hKK g hg)⟩
  · have := h.b2; show x.sn + k ≤ x.cap; omega
  · have := h.b2; show x.sn + k + 0 ≤ x.cap; omega
  · exact kT.mono (fun i _ e => by
      rcases e with e | e
      · exact .inl e
      · exact .inr (.inr (.inl e)))
  · intro i hi
    rcases hi with e | e | e | e | e | ⟨g, hg, e⟩
    · exact .inl (.inl e)
    · cases e
      rcases hq with e | ⟨_, e⟩
      · exact .inl (.inr (.inr (.inl e)))
      · exact .inr (Nat.le_trans hA.size e)
    · refine .inr ?_
      have := hs i e
      rw [hszu] at this
      exact Nat.le_trans (Nat.le_trans hA.size hu.size) this
    · cases e
    · exact .inl (.inr (.inr (.inr (.inr (.inl (hKK i e))))))
    · exact .inl (.inr (.inr (.inr (.inr (.inr ⟨g, hKK g hg, e⟩)))))

/-- Files of which some have been cut. -/
def cutX (x : X) (n : Int) (p : Nat → Bool) (rv : Nat → Value) : X := { x with rv := rv, bs := fun g => if p g then (x.bs g).take (cl n (x.bs g) (x.st g)).toNat else x.bs g, st := fun g => if p g then cl n (x.bs g) (x.st g) else x.st g }
theorem cutX_none (x : X) (n : Int) : cutX x n (fun _ => false) x.rv = x := rfl
theorem cutX_step (x : X) (n : Int) (p : Nat → Bool) (rv : Nat → Value) (g : Nat) (v : Value) (h0 : 0 ≤ x.st g ∧ x.st g ≤ (x.bs g).length) :
    setF (cutX x n p rv) g v (((cutX x n p rv).bs g).take (cl n ((cutX x n p rv).bs g) ((cutX x n p rv).st g)).toNat) (cl n ((cutX x n p rv).bs g) ((cutX x n p rv).st g)) = cutX x n (fun k => p k || k == g) (fun k => if k = g then v else rv k) := by
  have h1 := cl_again n h0
  have h2 : ((cutX x n p rv).bs g).take (cl n ((cutX x n p rv).bs g) ((cutX x n p rv).st g)).toNat = (x.bs g).take (cl n (x.bs g) (x.st g)).toNat ∧ cl n ((cutX x n p rv).bs g) ((cutX x n p rv).st g) = cl n (x.bs g) (x.st g) := by
    simp only [cutX]
    cases p g with
    | false => simp
    | true =>
      simp only [if_true]
      rw [h1]
      refine ⟨?_, rfl⟩
      rw [List.take_take, Nat.min_self]
  rw [h2.1, h2.2]
  simp only [setF, cutX]
  congr 1
  · funext k
    by_cases e : k = g
    · subst e; simp
    · simp [e]
  · funext k
    by_cases e : k = g
    · subst e; simp
    · simp [e]
/-- Is it among these? -/
def inl {K : Nat → Prop} (ys : List { g : Nat // K g }) (k : Nat) : Bool := ys.any (fun y => k == y.1)
theorem inl_snoc {K : Nat → Prop} (ys : List { g : Nat // K g }) (g : { g : Nat // K g }) : inl (ys ++ [g]) = fun k => inl ys k || k == g.1 := by
  funext k; simp [inl]
theorem inl_mem {K : Nat → Prop} {ys : List { g : Nat // K g }} {g : { g : Nat // K g }} (h : g ∈ ys) : inl ys g.1 = true := by
  rw [inl, List.any_eq_true]; exact ⟨g, h, by simp⟩
theorem tg_cells {w : World} {k t : Nat} {o : Obj} (h : tg w k = some (t + 1)) (ho : w.heap[k]? = some o) : o.isCells = true := by
  unfold tg at h
  rw [ho] at h
  cases o <;> simp_all [Obj.isCells]
/-- What Crash holds between two rounds. -/
def Cr (b : Nat) (w : World) (x : X) (n : Int) (ys : List { g : Nat // x.K g }) (W : World) : Prop := ∃ rv, Mv b w x W (cutX x n (inl ys) rv)
theorem Cr.own {b : Nat} {w : World} {x : X} {n : Int} {B : Nat} (h0 : FW w b x) (hB : w.heap.size ≤ B) : OwnFrom B (Cr b w x n) := by
  intro ys W W' row ⟨rv, h⟩ hg hrow
  have hno : ∀ k, foot b (cutX x n (inl ys) rv) k → row ≠ some k := fun k hf e => by
    obtain ⟨h1, o, ho, hc⟩ := hrow k e
    have hcell : ∀ t, tg W k = some (t + 1) → False := fun t ht => by rw [tg_cells ht ho] at hc; cases hc
    rcases hf with e' | e' | e' | e' | e' | ⟨g, hgg, e'⟩
    · subst e'; exact hcell _ h.fw.tb
    · have := tg_lt (h0.tp e'); omega
    · have := tg_lt (h0.ts e'); omega
    · exact hcell _ (h.fw.tc e')
    · exact hcell _ (h.fw.tf e')
    · exact hcell _ (h.fw.tr hgg e')
  refine ⟨rv, h.fw.kp (Q := fun k => row = some k) (Kp.grown hg (fun k e => e)) hno, ?_, h.ft⟩
  exact h.kp.trans (Q := fun k => row = some k) (Kp.grown hg (fun k e => e)) (fun k e => .inr (Nat.le_trans hB (hrow k e).1))
/-- What a crash leaves. -/
def crashed (x : X) (k q : Nat) (sb : Option Nat) (n : Int) (rv : Nat → Value) : X := cutX (back x k q sb) n (fun _ => true) rv
theorem FW.same {w : World} {b : Nat} {x : X} (h : FW w b x) {bs : Nat → List Int} {st : Nat → Int} (h1 : ∀ g, x.K g → bs g = x.bs g) (h2 : ∀ g, x.K g → st g = x.st g) : FW w b { x with bs := bs, st := st } := by
  refine ⟨h.fc, h.pw, h.sw, h.ps, h.cw, ⟨fun g hg => ?_, fun g hg => ?_, h.fl.sep, h.fl.num1, h.fl.nle, fun g hg => ?_⟩, h.pk, h.sk, h.ck, h.b1, h.b2, h.b3, h.b4, h.b5⟩
  · have := h.fl.fl g hg
    rw [← h2 g hg] at this
    exact this
  · have := h.fl.fr g hg
    rw [← h1 g hg] at this
    exact this
  · have := h.fl.st0 g hg
    rw [← h1 g hg, ← h2 g hg] at this
    exact this
theorem Mv.same {w w' : World} {b : Nat} {x y : X} (h : Mv b w x w' y) {bs : Nat → List Int} {st : Nat → Int} (h1 : ∀ g, y.K g → bs g = y.bs g) (h2 : ∀ g, y.K g → st g = y.st g) : Mv b w x w' { y with bs := bs, st := st } :=
  ⟨h.fw.same h1 h2, h.kp, h.ft⟩
end Go.Proofs.Ytkipcblbadkjnaa
