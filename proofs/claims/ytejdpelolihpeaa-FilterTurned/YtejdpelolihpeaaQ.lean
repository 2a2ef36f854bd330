/- The law for a statement that leaves its order open and appends, with what holds all the way. Conditions: those of each theorem. -/
import Derived.Test.YtejdpelolihpeaaP
namespace Go.Proofs.Ytejdpelolihpeaa
open Go.RowKit

section
variable {G : World → World → Prop}
def Oh (P : Program) (ops : Array Oper) (ks : List (Ka G)) (S : World → Prop) (a0 : Act) (i : Nat) (o : Oper) : Prop :=
  ∀ a w, S w → (∀ e ∈ o.after, Region.binds .any e = true → Done ops (AT ks) a w e.on) → (∀ s, fixedB ops i s = true → a.eval (.tmp s) = a0.eval (.tmp s)) →
    if Region.wanted o (yielded ops a.tmps) = true then does P o a.eval w (fun v w' => AT ks i v w' ∧ G w w') else AT ks i undef w
def AllH (P : Program) (ops : Array Oper) (ks : List (Ka G)) (S : World → Prop) (a0 : Act) : Nat → List Oper → Prop
  | _, [] => True
  | i, o :: rest => Oh P ops ks S a0 i o ∧ AllH P ops ks S a0 (i + 1) rest
theorem allH_nil {P : Program} {ops : Array Oper} {ks : List (Ka G)} {S : World → Prop} {a0 : Act} {i : Nat} : AllH P ops ks S a0 i [] := trivial
theorem allH_cons {P : Program} {ops : Array Oper} {ks : List (Ka G)} {S : World → Prop} {a0 : Act} {i : Nat} {o : Oper} {rest : List Oper} (h : Oh P ops ks S a0 i o) (hr : AllH P ops ks S a0 (i + 1) rest) :
    AllH P ops ks S a0 i (o :: rest) := ⟨h, hr⟩
theorem allH_get {P : Program} {ops : Array Oper} {ks : List (Ka G)} {S : World → Prop} {a0 : Act} : ∀ (l : List Oper) (k : Nat), AllH P ops ks S a0 k l → ∀ i o, l[i]? = some o → Oh P ops ks S a0 (k + i) o
  | [], _, _, i, o, h => by simp at h
  | x :: l, k, hA, 0, o, h => by simp at h; subst h; exact hA.1
  | x :: l, k, hA, i + 1, o, h => by
    have := allH_get l (k + 1) hA.2 i o (by simpa using h)
    rwa [show k + 1 + i = k + (i + 1) by omega] at this
/-- The law, with what holds all the way. -/
theorem wp_region_H {P : Program} {id : Nat} {l : List Oper} {Q : Exit → Act → World → Prop} {a0 : Act} {w0 : World} (hm : P.follows .mixedOrders = true) (hB : regB l.toArray a0.tmps.size = true) (S : World → Prop) (hG : ∀ w w', S w → G w w' → S w') (ks : List (Ka G))
    (hb : S w0.drew) (hA : AllH P l.toArray ks S a0 0 l)
    (hQ : ∀ a w, S w → a.tmps.size = a0.tmps.size → a.defers = a0.defers → (∀ j, Done l.toArray (AT ks) a w j) → (∀ s, freeB l.toArray s = true → a.eval (.tmp s) = a0.eval (.tmp s)) → Q .normal a w) :
    (Code.region id l.toArray true).wp P Q a0 w0 := by
  refine wp_region_T hm hB S G (AT ks) (fun j v w w' h hb => Ka.st _ v w w' h hb) hb ?_ hQ
  intro i o hi a w hS hbef hfix
  have H := allH_get l 0 hA i o (by simpa using hi) a w hS hbef (by simpa using hfix)
  split
  · rename_i hw
    rw [if_pos hw] at H
    refine does_mono H fun v w' ⟨h1, h2⟩ => ?_
    rw [Nat.zero_add] at h1
    exact ⟨h1, h2, hG _ _ hS h2⟩
  · rename_i hw
    rw [if_neg hw] at H
    rwa [Nat.zero_add] at H
end
theorem own_drew {w : World} {base : Nat} {e : TypeId} {size : Nat} {v : Value} {n : Nat} {xs : List Value} (h : w.ownsRow base e size v n xs) : w.drew.ownsRow base e size v n xs := h
/-- How long a slice is that is handed in. -/
theorem slice_data {H : Type} {enc : TypeId × Value → H} {P : Program} {W : World} {base : Nat} {spare : Nat → Bool} {held : Bool} {t e : TypeId} {a : Option Addr} {len cap fuel : Nat} {x : DataW H × List MemPlace} (ht : P.underlying t = some (.slice e))
    (h : DataW.trod enc P W base spare held fuel t [.slice a len cap] = some x) : len = 0 ∨ ∃ el rs, x.1 = .slice el rs ∧ el.length = len := by
  rcases DataW.trod_slice ht h with ⟨hcs, _⟩ | ⟨ad, l, c, el, rs, m, _, hcs, hx, _, _, _, hel, _, _, _⟩
  · simp at hcs
    exact .inl hcs.2.1
  · simp at hcs
    obtain ⟨rfl, rfl, rfl⟩ := hcs
    exact .inr ⟨_, _, by rw [hx], by rw [List.length_map, hel]⟩
end Go.Proofs.Ytejdpelolihpeaa
