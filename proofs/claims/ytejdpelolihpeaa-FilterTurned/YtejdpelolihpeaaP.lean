/- 'append' told block by block, and a law for a statement that leaves its order open and appends to rows of its own. Conditions: those of each theorem. -/
import Derived.Test.YtejdpelolihpeaaK
import Derived.Test.YtejdpelolihpeaaC
import Derived.Laws.OwnMore
namespace Go.Proofs.Ytejdpelolihpeaa
open Go.RowKit

/-- Memory grows; a row of its own may be written behind its first n elements, with news (m elements). -/
structure Gr (base : Nat) (e : TypeId) (size n m : Nat) (news : List Value) (w w' : World) : Prop where
  bl : Below base w w'
  bk : ∀ b, b < w.heap.size → w'.heap[b]? = w.heap[b]? ∨ ∃ cur cur' : Array Value, w.heap[b]? = some (.cells cur e (0, 0)) ∧ w'.heap[b]? = some (.cells cur' e (0, 0)) ∧ cur'.size = cur.size ∧ (n + m) * size ≤ cur.size ∧ cur'.toList.take ((n + m) * size) = cur.toList.take (n * size) ++ news
section
variable {base : Nat} {e : TypeId} {size n m : Nat} {news : List Value} {w w' : World}
theorem Gr.refl : Gr base e size n m news w w := ⟨Below.refl _ _, fun _ _ => .inl rfl⟩
theorem Gr.of (h : Below w.heap.size w w') (hb : base ≤ w.heap.size) : Gr base e size n m news w w' := ⟨h.mono hb, fun b hlt => .inl (h.block b hlt)⟩

/-- A row of its own stays: no more than n elements, or the first n and news. -/
theorem own_gr {k : Nat} {v : Value} {ys : List Value} (h : w.ownsRow base e size v k ys) (hg : Gr base e size n m news w w') (hc : k ≤ n ∨ (k = n + m ∧ ys.drop (n * size) = news)) : w'.ownsRow base e size v k ys := by
  refine ⟨h.1, ?_⟩
  rcases h.2 with h0 | ⟨g, cap, cur, hv, hb, hgg, h4, h5, h6, h7⟩
  · exact .inl h0
  · rcases hg.bk g (Array.getElem?_eq_some_iff.1 hgg).1 with he | ⟨cu, cu', e1, e2, e3, e4, e5⟩
    · exact .inr ⟨g, cap, cur, hv, hb, he.trans hgg, h4, h5, h6, h7⟩
    · rw [e1] at hgg
      cases hgg
      refine .inr ⟨g, cap, cu', hv, hb, e2, h4, h5, e3.trans h6, ?_⟩
      have hl : (cur.toList.take (n * size)).length = n * size := by
        rw [List.length_take, Array.length_toList]
        have : n * size ≤ (n + m) * size := Nat.mul_le_mul_right _ (Nat.le_add_right _ _)
        omega
      rcases hc with hk | ⟨rfl, hd⟩
      · have hk' : k * size ≤ n * size := Nat.mul_le_mul_right _ hk
        have hk2 : k * size ≤ (n + m) * size := Nat.le_trans hk' (Nat.mul_le_mul_right _ (Nat.le_add_right _ _))
        have e6 := congrArg (List.take (k * size)) e5
        rw [List.take_take, Nat.min_eq_left hk2, List.take_append_of_le_length (by omega), List.take_take, Nat.min_eq_left hk'] at e6
        rw [e6, h7]
      · rw [e5]
        have hn' : n * size ≤ (n + m) * size := Nat.mul_le_mul_right _ (Nat.le_add_right _ _)
        have e6 := congrArg (List.take (n * size)) h7
        rw [List.take_take, Nat.min_eq_left hn'] at e6
        rw [e6, ← hd, List.take_append_drop]

/-- A block that holds news alone stays. -/
theorem four_gr {g : Nat} (hl : news.length = m * size) (h : w.heap[g]? = some (.cells news.toArray e (0, 0))) (hg : Gr base e size n m news w w') : w'.heap[g]? = some (.cells news.toArray e (0, 0)) := by
  rcases hg.bk g (Array.getElem?_eq_some_iff.1 h).1 with he | ⟨cu, cu', e1, e2, e3, e4, e5⟩
  · exact he.trans h
  · rw [e1] at h
    cases h
    rw [List.size_toArray, hl, Nat.add_mul] at e4
    have h0 : n * size = 0 := by omega
    rw [Nat.add_mul, h0, Nat.zero_add, List.take_zero, List.nil_append, List.take_of_length_le (by rw [Array.length_toList, e3, List.size_toArray, hl]; omega)] at e5
    rw [e2]
    congr 2
    apply Array.ext'
    rw [e5]

variable {P : Program}
/-- Appended to a row of its own. -/
theorem append_gr (t ty : TypeId) (i : TypeInfo) (z : Value) (bytes : Nat) (ht : P.underlying t = some (.slice e)) (hi : P.info? e = some i) (hz : i.zero = some z)
    (hsize : i.size = size) (hby : i.bytes = bytes) (hzs : z.cells.size = size)
    (v : Value) (xs : List Value) (hown : w.ownsRow base e size v n xs)
    (a : Addr) (c : Nat) (hl : news.length = m * size) (hnews : ∀ j u, news[j]? = some u → w.cell? (a.add j) = some u) (h1 : ∀ u ∈ news, u.oneCell' = true)
    (hm : 0 < m) (h63 : n + m ≤ maxLen) (hbytes : (n + m) * bytes ≤ 140737488355328) (hbase : base ≤ w.heap.size) :
    ∃ v' w', (Builtin.append_ #[t, t] ty #[v, .slice (some a) m c]).run P w = .ok v' w' ∧ w'.ownsRow base e size v' (n + m) (xs ++ news) ∧ Gr base e size n m news w w' := by
  subst hsize
  subst hby
  have hsmall : n + m ≤ 9223372036854775807 := by simp only [maxLen] at h63; omega
  have hlen : (xs ++ news).length = (n + m) * i.size := by rw [List.length_append, hown.1, hl, Nat.add_mul]
  have grown : ∀ (old : Nat), old < n + m →
      (w.drew.alloc (.cells (xs.toArray ++ news.toArray ++ Builtin.zeroCells z.cells (grownCap w (n + m) old e - (n + m))) e)).ownsRow base e i.size
        (.slice (some ⟨w.heap.size, 0, none⟩) (n + m) (grownCap w (n + m) old e)) (n + m) (xs ++ news) ∧
      Gr base e i.size n m news w (w.drew.alloc (.cells (xs.toArray ++ news.toArray ++ Builtin.zeroCells z.cells (grownCap w (n + m) old e - (n + m))) e)) := by
    intro old ho
    have hge := grownCap_ge w (n + m) old e
    have hcm : grownCap w (n + m) old e ≤ maxLen := grownCap_le_maxLen w (n + m) old e h63
    refine ⟨⟨hlen, .inr ⟨w.heap.size, _, _, rfl, hbase, heap_alloc_new w.drew _, hge, hcm, ?_, ?_⟩⟩, Gr.of ((Below.refl w.heap.size w).drew.alloc (Nat.le_refl _) _) hbase⟩
    · simp only [Array.size_append, List.size_toArray, size_zeroCells, hzs, hown.1, hl, ← Nat.add_mul]
      congr 1
      omega
    · simp only [Array.toList_append, List.append_assoc]
      rw [← List.append_assoc, ← hlen]
      exact List.take_left
  rcases hown.2 with ⟨rfl, rfl⟩ | ⟨g, cap, cur, rfl, hbg, hg, hnc, hcm, hcs, htake⟩
  · have hx : xs = [] := List.eq_nil_of_length_eq_zero (by simpa using hown.1)
    subst hx
    have hr := run_append_nil (P := P) w t ty e i z ht hi hz a m c news hl hnews (by omega) (by omega) (by have hb := hbytes; simp only [Nat.zero_add] at hb; omega)
    have hgr := grown 0 (by omega)
    simp only [Nat.zero_add, List.nil_append, Array.empty_append] at hgr ⊢
    exact ⟨_, _, hr, hgr.1, hgr.2⟩
  · by_cases hroom : n + m ≤ cap
    · have hfit : n * i.size + news.length ≤ cur.size := by rw [hl, hcs, ← Nat.add_mul]; exact Nat.mul_le_mul_right _ hroom
      have hr := run_append_room (P := P) w t ty e i ht hi g n cap cur hg a m c news hl hnews h1 hroom hfit
      have hsz2 : (cur.toList.take (n * i.size) ++ news ++ cur.toList.drop (n * i.size + news.length)).length = cur.size := by
        simp only [List.length_append, List.length_take, List.length_drop, Array.length_toList]
        omega
      have htk : (cur.toList.take (n * i.size) ++ news ++ cur.toList.drop (n * i.size + news.length)).take ((n + m) * i.size) = xs ++ news := by
        rw [htake, ← hlen]
        exact List.take_left
      refine ⟨_, _, hr, ⟨hlen, .inr ⟨g, cap, _, rfl, hbg, setRow_heap w g cur _ e _ hg, hroom, hcm, ?_, ?_⟩⟩, ⟨⟨rfl, rfl, rfl, by simp, fun k hk => setRow_other w g k _ (by omega)⟩, fun b hb => ?_⟩⟩
      · rw [List.size_toArray, hsz2, hcs]
      · rw [List.toList_toArray, htake]; rw [htake] at htk; exact htk
      · by_cases hbg' : b = g
        · subst hbg'
          refine .inr ⟨cur, _, hg, setRow_heap w b cur _ e _ hg, by rw [List.size_toArray, hsz2], by rw [hcs]; exact Nat.mul_le_mul_right _ hroom, ?_⟩
          rw [List.toList_toArray, htk, htake]
        · exact .inl (setRow_other w g b _ (by omega))
    · have holds : ∀ j u, xs[j]? = some u → w.cell? ((⟨g, 0, none⟩ : Addr).add j) = some u := hown.cells (g := g) rfl
      have hr := run_append_grow (P := P) w t ty e i z ht hi hz ⟨g, 0, none⟩ n cap xs hown.1 holds a m c news hl hnews (by omega) (by omega) (growslice_fits (by omega) hbytes)
      have hgr := grown cap (by omega)
      exact ⟨_, _, hr, hgr.1, hgr.2⟩

/-- Appended to an empty row without room: old memory stays. -/
theorem append_empty (t ty : TypeId) (i : TypeInfo) (z : Value) (bytes : Nat) (ht : P.underlying t = some (.slice e)) (hi : P.info? e = some i) (hz : i.zero = some z)
    (hsize : i.size = size) (hby : i.bytes = bytes) (hzs : z.cells.size = size)
    (g : Nat) (hown : w.ownsRow base e size (.slice (some ⟨g, 0, none⟩) 0 0) 0 [])
    (ao : Option Addr) (k c : Nat) (xs : List Value) (hl : xs.length = k * size) (hnone : ao = none → c = 0 ∧ k = 0) (hnews : ∀ ad, ao = some ad → ∀ j u, xs[j]? = some u → w.cell? (ad.add j) = some u) (h1 : ∀ u ∈ xs, u.oneCell' = true)
    (h63 : k ≤ maxLen) (hbytes : k * bytes ≤ 140737488355328) (hbase : base ≤ w.heap.size) :
    ∃ v' w', (Builtin.append_ #[t, t] ty #[.slice (some ⟨g, 0, none⟩) 0 0, .slice ao k c]).run P w = .ok v' w' ∧ w'.ownsRow base e size v' k xs ∧ Below w.heap.size w w' := by
  cases ao with
  | none =>
    obtain ⟨rfl, rfl⟩ := hnone rfl
    have hx : xs = [] := List.eq_nil_of_length_eq_zero (by simpa using hl)
    subst hx
    exact ⟨_, w, run_append_owned_none (P := P) w base t ty e i size ht hi _ 0 [] hown, hown, Below.refl _ _⟩
  | some a =>
    by_cases hk : k = 0
    · subst hk
      have hx : xs = [] := List.eq_nil_of_length_eq_zero (by simpa using hl)
      subst hx
      rcases hown.2 with ⟨h0, _⟩ | ⟨g', cap, cur, h0, hbg, hg, _, hcm, hcs, _⟩
      · cases h0
      · cases h0
        have hr := run_append_room (P := P) w t ty e i ht hi g 0 0 cur hg a 0 c [] (by simp) (fun j u hu => by simp at hu) (fun u hu => by cases hu) (Nat.le_refl _) (by simp)
        simp only [Nat.zero_mul, List.take_zero, List.append_nil, List.nil_append, List.length_nil, Nat.add_zero, List.drop_zero] at hr
        have hb : Below w.heap.size w (w.setRow g cur.toList.toArray) := ⟨rfl, rfl, rfl, by simp, fun b hb => by
          by_cases e' : b = g
          · subst e'; rw [setRow_heap w b cur _ e _ hg, hg]
          · exact setRow_other w g b _ (by omega)⟩
        exact ⟨_, _, hr, own_below hown hb, hb⟩
    · have hr := run_append_grow (P := P) w t ty e i z ht hi hz ⟨g, 0, none⟩ 0 0 [] (by simp) (fun j u hu => by simp at hu) a k c xs (by rw [hsize]; exact hl) (hnews a rfl) (by omega) (by unfold maxLen at h63; omega) (by rw [hby]; exact growslice_fits (by omega) (by simpa using hbytes))
      refine ⟨_, _, hr, ?_, (Below.refl w.heap.size w).drew.alloc (Nat.le_refl _) _⟩
      simp only [Nat.zero_add]
      have hge := grownCap_ge w k 0 e
      have hcm : grownCap w k 0 e ≤ maxLen := grownCap_le_maxLen w k 0 e h63
      refine ⟨hl, .inr ⟨w.heap.size, _, _, rfl, hbase, heap_alloc_new w.drew _, hge, hcm, ?_, ?_⟩⟩
      · simp only [Array.size_append, List.size_toArray, size_zeroCells, hzs, hl]
        simp only [List.length_nil, Nat.zero_add]
        rw [← Nat.add_mul]
        congr 1
        omega
      · simp only [Array.toList_append]
        rw [← hl]
        simp
end

theorem news_at {w : World} {g : Nat} {e : TypeId} {xs : List Value} (h : w.heap[g]? = some (.cells xs.toArray e (0, 0))) : ∀ j u, xs[j]? = some u → w.cell? ((⟨g, 0, none⟩ : Addr).add j) = some u := fun j u hu => by
  have hadd : (⟨g, 0, none⟩ : Addr).add j = ⟨g, j, none⟩ := by unfold Addr.add; split <;> simp_all
  rw [hadd, cell_of_row w g j _ e (0, 0) h]
  simpa using hu
/-- A kind of value, that such growth keeps. -/
structure Ka (G : World → World → Prop) where
  T : Value → World → Prop
  st : ∀ v w w', T v w → G w w' → T v w'
section
variable {G : World → World → Prop}
def Ka.eq (G : World → World → Prop) (x : Value) : Ka G := ⟨fun v _ => v = x, fun _ _ _ h _ => h⟩
def Ka.any (G : World → World → Prop) : Ka G := ⟨fun _ _ => True, fun _ _ _ _ _ => trivial⟩
def AT (ks : List (Ka G)) (j : Nat) (v : Value) (w : World) : Prop := (ks.getD j (.any G)).T v w
def Oa (P : Program) (ops : Array Oper) (ks : List (Ka G)) (base : Nat) (wb : World) (a0 : Act) (i : Nat) (o : Oper) : Prop :=
  ∀ a w, Below base wb w → (∀ e ∈ o.after, Region.binds .any e = true → Done ops (AT ks) a w e.on) → (∀ s, fixedB ops i s = true → a.eval (.tmp s) = a0.eval (.tmp s)) →
    if Region.wanted o (yielded ops a.tmps) = true then does P o a.eval w (fun v w' => AT ks i v w' ∧ G w w') else AT ks i undef w
def AllA (P : Program) (ops : Array Oper) (ks : List (Ka G)) (base : Nat) (wb : World) (a0 : Act) : Nat → List Oper → Prop
  | _, [] => True
  | i, o :: rest => Oa P ops ks base wb a0 i o ∧ AllA P ops ks base wb a0 (i + 1) rest
theorem allA_nil {P : Program} {ops : Array Oper} {ks : List (Ka G)} {base : Nat} {wb : World} {a0 : Act} {i : Nat} : AllA P ops ks base wb a0 i [] := trivial
theorem allA_cons {P : Program} {ops : Array Oper} {ks : List (Ka G)} {base : Nat} {wb : World} {a0 : Act} {i : Nat} {o : Oper} {rest : List Oper} (h : Oa P ops ks base wb a0 i o) (hr : AllA P ops ks base wb a0 (i + 1) rest) :
    AllA P ops ks base wb a0 i (o :: rest) := ⟨h, hr⟩
theorem allA_get {P : Program} {ops : Array Oper} {ks : List (Ka G)} {base : Nat} {wb : World} {a0 : Act} : ∀ (l : List Oper) (k : Nat), AllA P ops ks base wb a0 k l → ∀ i o, l[i]? = some o → Oa P ops ks base wb a0 (k + i) o
  | [], _, _, i, o, h => by simp at h
  | x :: l, k, hA, 0, o, h => by simp at h; subst h; exact hA.1
  | x :: l, k, hA, i + 1, o, h => by
    have := allA_get l (k + 1) hA.2 i o (by simpa using h)
    rwa [show k + 1 + i = k + (i + 1) by omega] at this
/-- The law: each operation is proved once. -/
theorem wp_region_A {P : Program} {id : Nat} {l : List Oper} {Q : Exit → Act → World → Prop} {a0 : Act} {w0 : World} (hm : P.follows .mixedOrders = true) (hB : regB l.toArray a0.tmps.size = true) (base : Nat) (hG : ∀ w w', G w w' → Below base w w') (ks : List (Ka G)) (wb : World)
    (hb : Below base wb w0) (hA : AllA P l.toArray ks base wb a0 0 l)
    (hQ : ∀ a w, Below base wb w → a.tmps.size = a0.tmps.size → a.defers = a0.defers → (∀ j, Done l.toArray (AT ks) a w j) → (∀ s, freeB l.toArray s = true → a.eval (.tmp s) = a0.eval (.tmp s)) → Q .normal a w) :
    (Code.region id l.toArray true).wp P Q a0 w0 := by
  refine wp_region_T hm hB (fun w => Below base wb w) G (AT ks) (fun j v w w' h hb => Ka.st _ v w w' h hb) hb.drew ?_ hQ
  intro i o hi a w hS hbef hfix
  have H := allA_get l 0 hA i o (by simpa using hi) a w hS hbef (by simpa using hfix)
  split
  · rename_i hw
    rw [if_pos hw] at H
    refine does_mono H fun v w' ⟨h1, h2⟩ => ?_
    rw [Nat.zero_add] at h1
    exact ⟨h1, h2, hS.trans (hG _ _ h2)⟩
  · rename_i hw
    rw [if_neg hw] at H
    rwa [Nat.zero_add] at H
end
/-- The operation 'append' runs so. -/
theorem exec_append {P : Program} {o : Oper} {ρ : Operand → Value} {w w' : World} {s x : Operand} {t : TypeId} {v u r : Value}
    (ho : o.op = .call { callee := .builtin .append, args := #[s, x], argTypes := #[t, t] }) (hs : ρ s = v) (hx : ρ x = u) (hr : (Builtin.append_ #[t, t] o.type #[v, u]).run P w = .ok r w') : (execOp ρ o).run P w = .ok (.value r) w' := by
  unfold execOp
  simp only [ho, resolve, invoke, builtin, Sem.run_bind, Sem.run_pure, Result.andThen_ok, List.map_toArray, List.map_cons, List.map_nil, hs, hx, hr]
end Go.Proofs.Ytejdpelolihpeaa
