/- Clones of files, as far as they have been made; the contract of cloner's closure in its whole. Conditions: those of each theorem. -/
import Derived.Test.YtkipcblbadkjnaaYa
namespace Go.Proofs.Ytkipcblbadkjnaa
open Go.RowKit

/-- Of some files clones have been made, from B on: d tells which. -/
structure Cn (x : X) (B mb n : Nat) (d : Nat → Option Nat) (K' : Nat → Prop) (num' : Nat → Int) (rv' : Nat → Value) (bs' : Nat → List Int) (st' : Nat → Int) (W : World) : Prop where
  nm : ∃ f, Nm W mb n f ∧ ∀ g, x.K g → f (x.num g) = d g
  fl : Fls W K' num' rv' bs' st' x.made
  dk : ∀ g h, d g = some h → x.K g ∧ K' h ∧ num' h = x.num g ∧ bs' h = x.bs g ∧ st' h = x.st g
  kd : ∀ h, K' h → ∃ g, d g = some h
  nw : ∀ h, K' h → B ≤ h ∧ ∀ k, (rv' h).ownBlock = some k → B ≤ k
  mbB : B ≤ mb
def Cs (x : X) (B mb n : Nat) (d : Nat → Option Nat) (W : World) : Prop := ∃ K' num' rv' bs' st', Cn x B mb n d K' num' rv' bs' st' W
theorem Cn.kp {x : X} {B mb n : Nat} {d : Nat → Option Nat} {K' : Nat → Prop} {num' : Nat → Int} {rv' : Nat → Value} {bs' : Nat → List Int} {st' : Nat → Int} {W W' : World} {P : Nat → Prop} (h : Cn x B mb n d K' num' rv' bs' st' W) (hk : Kp P W W') (hm : ¬ P mb) (hf : ∀ k, tg W k = some 80 → ¬ P k) (hr : ∀ k, tg W k = some 6 → ¬ P k) : Cn x B mb n d K' num' rv' bs' st' W' := by
  obtain ⟨f, hn, h2⟩ := h.nm
  have tf : ∀ g, K' g → tg W g = some 80 := fun g hg => by simp [tg, h.fl.fl g hg]
  exact ⟨⟨f, hn.kept (hk.block mb hn.lt hm), h2⟩, h.fl.kept (fun g hg => hk.block g (tg_lt (tf g hg)) (hf g (tf g hg))) (fun g k hg e => hk.block k (tg_lt (own_tg (h.fl.fr g hg) e)) (hr k (own_tg (h.fl.fr g hg) e))), h.dk, h.kd, h.nw, h.mbB⟩
theorem Cs.kp {x : X} {B mb n : Nat} {d : Nat → Option Nat} {W W' : World} {P : Nat → Prop} (h : Cs x B mb n d W) (hk : Kp P W W') (hm : ¬ P mb) (hf : ∀ k, tg W k = some 80 → ¬ P k) (hr : ∀ k, tg W k = some 6 → ¬ P k) : Cs x B mb n d W' := by
  obtain ⟨K', num', rv', bs', st', hc⟩ := h
  exact ⟨K', num', rv', bs', st', hc.kp hk hm hf hr⟩
theorem Cs.below {x : X} {B mb n : Nat} {d : Nat → Option Nat} {W W' : World} (h : Cs x B mb n d W) (hb : Below W.heap.size W W') : Cs x B mb n d W' :=
  h.kp (P := fun _ => False) (Kp.of_below hb) (fun e => e) (fun _ _ e => e) (fun _ _ e => e)
theorem Cs.tgm {x : X} {B mb n : Nat} {d : Nat → Option Nat} {W : World} (h : Cs x B mb n d W) : tg W mb = some 0 := by
  obtain ⟨_, _, _, _, _, hc⟩ := h
  obtain ⟨f, hn, _⟩ := hc.nm
  exact hn.tg
theorem Cs.mb {x : X} {B mb n : Nat} {d : Nat → Option Nat} {W : World} (h : Cs x B mb n d W) : B ≤ mb := by
  obtain ⟨_, _, _, _, _, hc⟩ := h
  exact hc.mbB

theorem cn_add {x : X} {b B mb n : Nat} {d : Nat → Option Nat} {K' : Nat → Prop} {num' : Nat → Int} {rv' : Nat → Value} {bs' : Nat → List Int} {st' : Nat → Int} {W W' : World} {g h N : Nat}
    (hx : FW W b x) (hC : Cn x B mb n d K' num' rv' bs' st' W) (hB : B ≤ W.heap.size) (hg : x.K g) (hd : d g = none) (hh : W.heap.size ≤ h) (hN : W.heap.size ≤ N)
    (hc : W'.heap[h]? = some (.cells #[.int .i64 (x.num g), .slice (some ⟨N, 0, none⟩) (x.bs g).length (x.bs g).length, .int .i64 (x.st g)] 79))
    (ho : W'.ownsRow W.heap.size 5 1 (.slice (some ⟨N, 0, none⟩) (x.bs g).length (x.bs g).length) (x.bs g).length ((x.bs g).map (Value.int .u8)))
    {f : Int → Option Nat} (hnm : Nm W' mb (n + 1) (fun i => if i = x.num g then some h else f i)) (hf : ∀ g, x.K g → f (x.num g) = d g) (hk : Kp (fun k => k = mb) W W') :
    Cn x B mb (n + 1) (fun i => if i = g then some h else d i) (fun k => K' k ∨ k = h) (fun k => if k = h then x.num g else num' k) (fun k => if k = h then .slice (some ⟨N, 0, none⟩) (x.bs g).length (x.bs g).length else rv' k) (fun k => if k = h then x.bs g else bs' k) (fun k => if k = h then x.st g else st' k) W' := by
  have tmb : tg W mb = some 0 := by obtain ⟨f', hn', _⟩ := hC.nm; exact hn'.tg
  have tf : ∀ k, K' k → tg W k = some 80 := fun k hk => by simp [tg, hC.fl.fl k hk]
  have hold : ∀ k, K' k → k ≠ h := fun k hk => by have := tg_lt (tf k hk); omega
  have f1 : ∀ k, K' k → W'.heap[k]? = W.heap[k]? := fun k hkk => hk.block k (tg_lt (tf k hkk)) (tg_ne (tf k hkk) tmb (by decide))
  have f2 : ∀ k r, K' k → (rv' k).ownBlock = some r → W'.heap[r]? = W.heap[r]? := fun k r hkk e => hk.block r (tg_lt (own_tg (hC.fl.fr k hkk) e)) (tg_ne (own_tg (hC.fl.fr k hkk) e) tmb (by decide))
  have rlt : ∀ k r, K' k → (rv' k).ownBlock = some r → r < W.heap.size := fun k r hkk e => tg_lt (own_tg (hC.fl.fr k hkk) e)
  refine ⟨⟨_, hnm, fun g' hg' => ?_⟩, ⟨?_, ?_, ?_, ?_, ?_, ?_⟩, ?_, ?_, ?_, hC.mbB⟩
  · by_cases e : g' = g
    · subst e; simp
    · have : x.num g' ≠ x.num g := fun e' => e (hx.fl.num1 g' g hg' hg e')
      simp [this, e, hf g' hg']
  · intro k hkk
    by_cases e : k = h
    · subst e; simpa using hc
    · have hkk := hkk.resolve_right e
      have := (f1 k hkk).trans (hC.fl.fl k hkk)
      simpa [e] using this
  · intro k hkk
    by_cases e : k = h
    · subst e; simpa using own_zero ho
    · have hkk := hkk.resolve_right e
      have := own_kept (hC.fl.fr k hkk) (fun r e' => f2 k r hkk e')
      simpa [e] using this
  · intro k k' h1 h2 r e1 e2
    by_cases a1 : k = h <;> by_cases a2 : k' = h
    · rw [a1, a2]
    · rw [if_pos a1] at e1; rw [if_neg a2] at e2
      have := rlt k' r (h2.resolve_right a2) e2
      have e3 : N = r := Option.some.inj e1
      omega
    · rw [if_neg a1] at e1; rw [if_pos a2] at e2
      have := rlt k r (h1.resolve_right a1) e1
      have e3 : N = r := Option.some.inj e2
      omega
    · rw [if_neg a1] at e1; rw [if_neg a2] at e2
      exact hC.fl.sep k k' (h1.resolve_right a1) (h2.resolve_right a2) r e1 e2
  · intro k k' h1 h2 e
    have key : ∀ k, K' k → num' k ≠ x.num g := fun k hkk e' => by
      obtain ⟨g', hg'⟩ := hC.kd k hkk
      obtain ⟨q1, _, q2, _⟩ := hC.dk g' k hg'
      have := hx.fl.num1 g' g q1 hg (q2.symm.trans e')
      subst this
      rw [hd] at hg'; cases hg'
    by_cases a1 : k = h <;> by_cases a2 : k' = h
    · rw [a1, a2]
    · rw [if_pos a1, if_neg a2] at e; exact absurd e.symm (key k' (h2.resolve_right a2))
    · rw [if_neg a1, if_pos a2] at e; exact absurd e (key k (h1.resolve_right a1))
    · rw [if_neg a1, if_neg a2] at e; exact hC.fl.num1 k k' (h1.resolve_right a1) (h2.resolve_right a2) e
  · intro k hkk
    by_cases a1 : k = h
    · simp only [if_pos a1]; exact hx.fl.nle g hg
    · simp only [if_neg a1]; exact hC.fl.nle k (hkk.resolve_right a1)
  · intro k hkk
    by_cases a1 : k = h
    · simp only [if_pos a1]; exact hx.fl.st0 g hg
    · simp only [if_neg a1]; exact hC.fl.st0 k (hkk.resolve_right a1)
  · intro g' h' e
    by_cases a1 : g' = g
    · rw [if_pos a1] at e; cases e
      subst a1
      exact ⟨hg, .inr rfl, by simp, by simp, by simp⟩
    · rw [if_neg a1] at e
      obtain ⟨q1, q2, q3, q4, q5⟩ := hC.dk g' h' e
      have := hold h' q2
      simp only [if_neg this]
      exact ⟨q1, .inl q2, q3, q4, q5⟩
  · intro k hkk
    by_cases a1 : k = h
    · exact ⟨g, by simp [a1]⟩
    · obtain ⟨g', hg'⟩ := hC.kd k (hkk.resolve_right a1)
      refine ⟨g', ?_⟩
      have : g' ≠ g := fun e => by subst e; rw [hd] at hg'; cases hg'
      simp [this, hg']
  · intro k hkk
    by_cases a1 : k = h
    · simp only [if_pos a1]
      exact ⟨by omega, fun r e => by
        have e3 : N = r := Option.some.inj e
        omega⟩
    · simp only [if_neg a1]
      exact hC.nw k (hkk.resolve_right a1)

theorem own_any {x : X} {b B mb n Bc g : Nat} {d : Nat → Option Nat} {w : World} (hx : FW w b x) (hC : Cs x B mb n d w) (hB : B ≤ w.heap.size) (hBc : w.cell? ⟨Bc, 0, none⟩ = some (.map (some mb))) (hg : x.K g) (hn : n < 100000000) :
    Calls Try.prog 70 #[.pointer (some ⟨g, 0, none⟩), .pointer (some ⟨Bc, 0, none⟩)] w fun e w' => ∃ h n2 d2, e = .returned (.pointer (some ⟨h, 0, none⟩)) ∧ d2 g = some h ∧ (∀ i j, d i = some j → d2 i = some j) ∧ n2 ≤ n + 1 ∧ Cs x B mb n2 d2 w' ∧ Kp (fun k => k = mb) w w' := by
  obtain ⟨K', num', rv', bs', st', hc⟩ := hC
  obtain ⟨f, hnm, hf⟩ := hc.nm
  have hb3 := hx.b3
  have hb5 := hx.b5
  have hnl := hx.fl.nle g hg
  cases hd : d g with
  | some h =>
    refine (own_old Bc mb n g (x.num g) f h w hBc hnm (hx.cells hg).1 (by omega) (by rw [hf g hg, hd])).mono ?_
    rintro e w' ⟨rfl, hb⟩
    exact ⟨h, n, d, rfl, hd, fun i j e => e, by omega, Cs.below ⟨K', num', rv', bs', st', hc⟩ hb, Kp.of_below hb⟩
  | none =>
    obtain ⟨ra, rc, hrv, _, hrd⟩ := own_rd (hx.fl.fr g hg)
    have hcell := hx.fl.fl g hg
    rw [hrv] at hcell
    refine (own_new Bc mb n g (x.bs g).length (x.num g) (x.st g) (x.bs g) ra rc f w hBc hnm hcell rfl hrd (hx.fl.st0 g hg).2.2 (by omega) (by rw [hf g hg, hd]) hn).mono ?_
    rintro e w' ⟨h, N, rfl, hh, hN, hc', ho, hnm', hk⟩
    refine ⟨h, n + 1, fun i => if i = g then some h else d i, rfl, by simp, fun i j e => ?_, Nat.le_refl _, ⟨_, _, _, _, _, cn_add hx hc hB hg hd hh hN hc' ho hnm' hf hk⟩, hk⟩
    have : i ≠ g := fun e' => by subst e'; rw [hd] at e; cases e
    simp [this, e]
set_option maxRecDepth 100000 in
theorem own_nil (Bc : Nat) (w : World) : Calls Try.prog 70 #[.pointer none, .pointer (some ⟨Bc, 0, none⟩)] w fun e w' => e = .returned (.pointer none) ∧ w' = w := by
  go_enter Try.func70, Try.ntmps70
  go_wp2
  go_ret
  exact ⟨rfl, rfl⟩
end Go.Proofs.Ytkipcblbadkjnaa
