/- Slices of labels and of filters in memory: what they read as, rows of the call's own, append. Conditions: those of each theorem. -/
import Derived.Test.YtejdpelolihpeaaA
import Derived.Test.YtejdpelolihpeaaY
import Derived.Laws.AppendOwn
import Derived.Laws.AppendOwnNone
import Derived.Laws.CopyOwn
import Derived.Laws.BytesArg
import Derived.Laws.Rows
import Derived.OwnWalk
import Derived.Deep.RegionWith
import Derived.Deep.QuietTactic
import Derived.BigQuiet
import Derived.WalkMore
import Derived.WalkKit
namespace Go.Proofs.Ytejdpelolihpeaa
open Go.RowKit

theorem Try.info34 : (Try.prog.info? 34).map (fun i => (i.zero, i.size, i.bytes)) = some (some (.agg #[.string ⟨#[]⟩, .string ⟨#[]⟩]), 2, 32) := by kernel_rfl

/-- A slice of that address reads as these numbers. -/
def Rd (k : IntKind) (w : World) (a : Option Addr) (zs : List Int) : Prop :=
  zs = [] ∨ ∃ b off, a = some ⟨b, off, none⟩ ∧ b < w.heap.size ∧ ∀ i, i < zs.length → w.cell? ⟨b, off + i, none⟩ = some (.int k (zs.getD i 0))
theorem Rd.below {k : IntKind} {w w' : World} {a : Option Addr} {zs : List Int} (h : Rd k w a zs) (hb : Below w.heap.size w w') : Rd k w' a zs := by
  rcases h with h | ⟨b, off, h1, h2, h3⟩
  · exact .inl h
  · exact .inr ⟨b, off, h1, Nat.lt_of_lt_of_le h2 hb.size, fun i hi => (hb.cell (p := ⟨b, off + i, none⟩) h2).trans (h3 i hi)⟩
theorem Rd.cell {k : IntKind} {w : World} {a : Option Addr} {zs : List Int} (h : Rd k w a zs) {j : Nat} (hj : j < zs.length) : ∃ b off, a = some ⟨b, off, none⟩ ∧ b < w.heap.size ∧ w.cell? ⟨b, off + j, none⟩ = some (.int k (zs.getD j 0)) := by
  rcases h with h | ⟨b, off, h1, h2, h3⟩
  · subst h; simp at hj
  · exact ⟨b, off, h1, h2, h3 j hj⟩
theorem rd_any {k : IntKind} {w : World} {a : Option Addr} {zs : List Int} (h : Rd k w a zs) : ∀ ad, a = some ad → ∀ j u, (zs.map (Value.int k))[j]? = some u → w.cell? (ad.add j) = some u := by
  intro ad had j u hu
  have hj : j < zs.length := by simpa using (List.getElem?_eq_some_iff.1 hu).1
  obtain ⟨b, off, h1, h2, h3⟩ := h.cell hj
  rw [had] at h1; cases h1
  rw [Addr.add_lit, h3]
  have e : (zs.map (Value.int k))[j]? = some (.int k (zs.getD j 0)) := by simp [List.getD, hj]
  rw [e] at hu; exact hu
theorem Rd.take {k : IntKind} {w : World} {a : Option Addr} {zs : List Int} (h : Rd k w a zs) (n : Nat) : Rd k w a (zs.take n) := by
  rcases h with rfl | ⟨b, off, h1, h2, h3⟩
  · exact .inl (by simp)
  · refine .inr ⟨b, off, h1, h2, fun i hi => ?_⟩
    simp only [List.length_take] at hi
    rw [h3 i (by omega)]
    congr 2
    simp [List.getD, show i < n by omega]
theorem Rd.drop {k : IntKind} {w : World} {g off n m cap : Nat} {zs : List Int} (h : Rd k w (some ⟨g, off, none⟩) zs) (hz : zs.length = n) (hc : n ≤ cap) (hm : m ≤ n) : Rd k w (if cap = m then some ⟨g, off, none⟩ else some ⟨g, off + m, none⟩) (zs.drop m) := by
  by_cases e : m = n
  · exact .inl (List.eq_nil_of_length_eq_zero (by simp [hz]; omega))
  · rw [if_neg (by omega)]
    rcases h with rfl | ⟨b, off', h1, h2, h3⟩
    · exact .inl (by simp)
    · cases h1
      refine .inr ⟨g, off + m, rfl, h2, fun i hi => ?_⟩
      simp only [List.length_drop] at hi
      rw [show off + m + i = off + (m + i) by omega, h3 (m + i) (by omega)]
      congr 2
      simp [List.getD]
/-- A slice of numbers. -/
structure IsI (k : IntKind) (w : World) (a : Option Addr) (len cap : Nat) (ms : List Int) : Prop where
  hl : ms.length = len
  hc : len ≤ cap
  hm : cap ≤ maxLen
  rd : Rd k w a ms
  nil : a = none → cap = 0
theorem IsI.below {k : IntKind} {w w' : World} {a : Option Addr} {n c : Nat} {zs : List Int} (h : IsI k w a n c zs) (hb : Below w.heap.size w w') : IsI k w' a n c zs := ⟨h.hl, h.hc, h.hm, h.rd.below hb, h.nil⟩
theorem IsI.none {k : IntKind} {w : World} {a : Option Addr} {n c : Nat} {zs : List Int} (h : IsI k w a n c zs) : a = none → c = 0 ∧ n = 0 := fun e => by have := h.nil e; have := h.hc; omega

theorem Try.info28 : (Try.prog.info? 28).map (fun i => (i.zero, i.size, i.bytes)) = some (some (.agg #[.string ⟨#[]⟩, .string ⟨#[]⟩, .bool false, .bool false]), 4, 40) := by kernel_rfl
/-- What an empty label is. -/
def l0 : Lb := (⟨#[]⟩, ⟨#[]⟩)
/-- A slice of that address reads as these labels. -/
def RdL (w : World) (a : Option Addr) (ls : List Lb) : Prop :=
  ls = [] ∨ ∃ b off, a = some ⟨b, off, none⟩ ∧ b < w.heap.size ∧ ∀ i, i < ls.length → w.cell? ⟨b, off + i * 2, none⟩ = some (.string (ls.getD i l0).1) ∧ w.cell? ⟨b, off + i * 2 + 1, none⟩ = some (.string (ls.getD i l0).2)
theorem RdL.below {w w' : World} {a : Option Addr} {ls : List Lb} (h : RdL w a ls) (hb : Below w.heap.size w w') : RdL w' a ls := by
  rcases h with h | ⟨b, off, h1, h2, h3⟩
  · exact .inl h
  · exact .inr ⟨b, off, h1, Nat.lt_of_lt_of_le h2 hb.size, fun i hi => ⟨(hb.cell (p := ⟨b, off + i * 2, Option.none⟩) h2).trans (h3 i hi).1, (hb.cell (p := ⟨b, off + i * 2 + 1, Option.none⟩) h2).trans (h3 i hi).2⟩⟩
theorem RdL.at {w : World} {a : Option Addr} {ls : List Lb} (h : RdL w a ls) {k : Nat} (hk : k < ls.length) : ∃ b off, a = some ⟨b, off, none⟩ ∧ b < w.heap.size ∧ w.cell? ⟨b, off + k * 2, none⟩ = some (.string (ls.getD k l0).1) ∧ w.cell? ⟨b, off + k * 2 + 1, none⟩ = some (.string (ls.getD k l0).2) := by
  rcases h with h | ⟨b, off, h1, h2, h3⟩
  · subst h; simp at hk
  · exact ⟨b, off, h1, h2, h3 k hk⟩
/-- A slice of labels. -/
structure IsL (w : World) (a : Option Addr) (len cap : Nat) (ls : List Lb) : Prop where
  hl : ls.length = len
  hc : len ≤ cap
  hm : cap ≤ maxLen
  rd : RdL w a ls
  nil : a = none → cap = 0
theorem IsL.below {w w' : World} {a : Option Addr} {n c : Nat} {ls : List Lb} (h : IsL w a n c ls) (hb : Below w.heap.size w w') : IsL w' a n c ls := ⟨h.hl, h.hc, h.hm, h.rd.below hb, h.nil⟩
theorem IsL.none {w : World} {a : Option Addr} {n c : Nat} {ls : List Lb} (h : IsL w a n c ls) : a = none → c = 0 ∧ n = 0 := fun e => by have := h.nil e; have := h.hc; omega
theorem isL_nil (w : World) : IsL w none 0 0 [] := ⟨rfl, Nat.le_refl _, Nat.zero_le _, .inl rfl, fun _ => rfl⟩
theorem isI_nil (k : IntKind) (w : World) : IsI k w none 0 0 [] := ⟨rfl, Nat.le_refl _, Nat.zero_le _, .inl rfl, fun _ => rfl⟩

/-- The cells of labels, one behind the other. -/
def cls : List Lb → List Value
  | [] => []
  | x :: r => .string x.1 :: .string x.2 :: cls r
theorem cls_len : ∀ ls : List Lb, (cls ls).length = ls.length * 2
  | [] => rfl
  | v :: r => by simp [cls, cls_len r]; omega
theorem cls_append : ∀ (a b : List Lb), cls (a ++ b) = cls a ++ cls b
  | [], b => rfl
  | v :: r, b => by simp [cls, cls_append r b]
theorem cls_get : ∀ (ls : List Lb) (i : Nat), i < ls.length → (cls ls)[i * 2]? = some (.string (ls.getD i l0).1) ∧ (cls ls)[i * 2 + 1]? = some (.string (ls.getD i l0).2)
  | [], i, h => by simp at h
  | v :: r, 0, _ => by simp [cls]
  | v :: r, i + 1, h => by
    have := cls_get r i (by simpa using h)
    rw [show (i + 1) * 2 = i * 2 + 2 by omega]
    simpa [cls] using this
theorem cls_one (ls : List Lb) : ∀ u ∈ cls ls, u.oneCell' = true := by
  induction ls with
  | nil => intro u hu; simp [cls] at hu
  | cons v r ih =>
    intro u hu
    simp only [cls, List.mem_cons] at hu
    rcases hu with rfl | rfl | hu
    · rfl
    · rfl
    · exact ih u hu
theorem rdL_news {w : World} {a : Option Addr} {ls : List Lb} (h : RdL w a ls) : ∀ ad, a = some ad → ∀ j u, (cls ls)[j]? = some u → w.cell? (ad.add j) = some u := by
  intro ad had j u hu
  have hj : j < ls.length * 2 := by have := (List.getElem?_eq_some_iff.1 hu).1; rw [cls_len] at this; exact this
  obtain ⟨b, off, e, _, c0, c1⟩ := h.at (k := j / 2) (by omega)
  rw [had] at e; cases e
  obtain ⟨d0, d1⟩ := cls_get ls (j / 2) (by omega)
  rw [Addr.add_lit]
  have h2 : j = j / 2 * 2 ∨ j = j / 2 * 2 + 1 := by omega
  rcases h2 with h | h
  · rw [h] at hu ⊢; rw [d0] at hu; cases hu; exact c0
  · rw [h] at hu ⊢; rw [d1] at hu; cases hu; rw [← Nat.add_assoc]; exact c1

theorem own_cell {w : World} {base n size : Nat} {v : Value} {e : TypeId} {xs : List Value} (h : w.ownsRow base e size v n xs) (hn : 0 < n) : ∃ g cap, v = .slice (some ⟨g, 0, none⟩) n cap ∧ base ≤ g ∧ g < w.heap.size ∧ n ≤ cap ∧ cap ≤ maxLen ∧ (∀ j x, xs[j]? = some x → w.cell? ⟨g, j, none⟩ = some x) ∧ ∀ j, w.frozen? ⟨g, j, none⟩ = false := by
  rcases h.2 with ⟨_, h2⟩ | ⟨g, cap, cur, h1, h2, h3, h4, h5, h6, h7⟩
  · omega
  · refine ⟨g, cap, h1, h2, (Array.getElem?_eq_some_iff.1 h3).1, h4, h5, fun j x hx => ?_, fun j => ?_⟩
    · rw [← h7] at hx
      have hj : j < n * size := by
        rcases Nat.lt_or_ge j (n * size) with h | h
        · exact h
        · rw [List.getElem?_take, if_neg (by omega)] at hx; cases hx
      rw [List.getElem?_take, if_pos hj] at hx
      simp [World.cell?, h3]
      simpa using hx
    · simp [World.frozen?, h3]
theorem own_below {u u' : World} {base : Nat} {e : TypeId} {size : Nat} {v : Value} {n : Nat} {xs : List Value} (h : u.ownsRow base e size v n xs) (hb : Below u.heap.size u u') : u'.ownsRow base e size v n xs := by
  refine ⟨h.1, ?_⟩
  rcases h.2 with h0 | ⟨g, cap, cur, h1, h2, h3, h4⟩
  · exact .inl h0
  · exact .inr ⟨g, cap, cur, h1, h2, (hb.block g (Array.getElem?_eq_some_iff.1 h3).1).trans h3, h4⟩
theorem own_mono {w : World} {base base' : Nat} {e : TypeId} {size : Nat} {v : Value} {n : Nat} {xs : List Value} (h : w.ownsRow base e size v n xs) (hb : base' ≤ base) : w.ownsRow base' e size v n xs := by
  refine ⟨h.1, ?_⟩
  rcases h.2 with h0 | ⟨g, cap, cur, h1, h2, h3⟩
  · exact .inl h0
  · exact .inr ⟨g, cap, cur, h1, Nat.le_trans hb h2, h3⟩
/-- A row of labels of the call's own reads so. -/
theorem own_isL {w : World} {base n : Nat} {v : Value} {ls : List Lb} (h : w.ownsRow base 34 2 v n (cls ls)) : ∃ a c, v = .slice a n c ∧ IsL w a n c ls := by
  have hl := h.1
  rw [cls_len] at hl
  by_cases hn : 0 < n
  · obtain ⟨g, cap, h1, h2, h3, h4, h5, h6, _⟩ := own_cell h hn
    refine ⟨_, cap, h1, ⟨by omega, h4, h5, .inr ⟨g, 0, rfl, h3, fun i hi => ?_⟩, fun h => by cases h⟩⟩
    obtain ⟨c0, c1⟩ := cls_get ls i hi
    rw [Nat.zero_add]
    exact ⟨h6 _ _ c0, h6 _ _ c1⟩
  · obtain rfl : n = 0 := by omega
    have hv : ls = [] := List.eq_nil_of_length_eq_zero (by omega)
    rcases h.2 with ⟨h1, _⟩ | ⟨g, cap, cur, h1, _, _, h4, h5, _⟩
    · exact ⟨none, 0, h1, ⟨by omega, Nat.le_refl _, Nat.zero_le _, .inl hv, fun _ => rfl⟩⟩
    · exact ⟨_, cap, h1, ⟨by omega, h4, h5, .inl hv, fun h => by cases h⟩⟩
/-- A row of numbers of the call's own reads so. -/
theorem own_isI {k : IntKind} {e : TypeId} {w : World} {base n : Nat} {v : Value} {zs : List Int} (h : w.ownsRow base e 1 v n (zs.map (Value.int k))) : ∃ a c, v = .slice a n c ∧ IsI k w a n c zs := by
  have hl := h.1
  simp only [List.length_map, Nat.mul_one] at hl
  by_cases hn : 0 < n
  · obtain ⟨g, cap, h1, h2, h3, h4, h5, h6, _⟩ := own_cell h hn
    refine ⟨_, cap, h1, ⟨by omega, h4, h5, .inr ⟨g, 0, rfl, h3, fun i hi => ?_⟩, fun h => by cases h⟩⟩
    rw [Nat.zero_add]
    exact h6 _ _ (by simp [List.getD, hi])
  · obtain rfl : n = 0 := by omega
    have hv : zs = [] := List.eq_nil_of_length_eq_zero (by omega)
    rcases h.2 with ⟨h1, _⟩ | ⟨g, cap, cur, h1, _, _, h4, h5, _⟩
    · exact ⟨none, 0, h1, ⟨by omega, Nat.le_refl _, Nat.zero_le _, .inl hv, fun _ => rfl⟩⟩
    · exact ⟨_, cap, h1, ⟨by omega, h4, h5, .inl hv, fun h => by cases h⟩⟩

/-- 'append' onto a row of the call's own, whatever is appended: nil, empty or not. -/
theorem wpList_append_any {P : Program} (w : World) {ops : Array Oper} {rest : List Oper} {o : Oper} {a : Act} {Q : Exit → Act → World → Prop} (hgd : o.guard = none) (s x : Operand) (t : TypeId)
    (ho : o.op = .call { callee := .builtin .append, args := #[s, x], argTypes := #[t, t] })
    (base : Nat) (e : TypeId) (i : TypeInfo) (z : Value) (size bytes : Nat) (ht : P.underlying t = some (.slice e)) (hi : P.info? e = some i) (hz : i.zero = some z)
    (hsize : i.size = size) (hby : i.bytes = bytes) (hzs : z.cells.size = size) (hpos : 0 < size)
    (v : Value) (n : Nat) (xs : List Value) (hs : a.eval s = v) (hown : w.ownsRow base e size v n xs)
    (ao : Option Addr) (m c : Nat) (news : List Value) (hx : a.eval x = .slice ao m c) (hl : news.length = m * size) (hnone : ao = none → c = 0 ∧ m = 0) (hnews : ∀ ad, ao = some ad → ∀ j u, news[j]? = some u → w.cell? (ad.add j) = some u) (h1 : ∀ u ∈ news, u.oneCell' = true)
    (h63 : n + m ≤ maxLen) (hbytes : (n + m) * bytes ≤ 140737488355328) (hbase : base ≤ w.heap.size)
    (h : ∀ v' w', w'.ownsRow base e size v' (n + m) (xs ++ news) → w.grownBy w' v.ownBlock → wpList P ops Q rest (a.put o.dst v') w') : wpList P ops Q (o :: rest) a w := by
  cases ao with
  | some ad => exact wpList_append_own w hgd s x t ho base e i z size bytes ht hi hz hsize hby hzs hpos v n xs hs hown ad m c news hx hl (hnews ad rfl) h1 h63 hbytes hbase fun v' w' h2 h3 _ => h v' w' h2 h3
  | none =>
    obtain ⟨rfl, rfl⟩ := hnone rfl
    have hn : news = [] := List.eq_nil_of_length_eq_zero (by omega)
    subst hn
    exact wpList_append_own_none hgd s x t ho base e i size ht hi v n xs hs hown hx (h v w (by simpa using hown) (World.grownBy.refl _ _))
theorem one_at (w : World) (x : Value) (t : TypeId) : ∀ j u, [x][j]? = some u → (w.alloc (.cells #[x] t)).cell? ((⟨w.heap.size, 0, none⟩ : Addr).add j) = some u := by
  intro j u hj
  match j, hj with
  | 0, hj => simp at hj; subst hj; simp [Addr.add]
theorem two_at (w : World) (x y : Value) (t : TypeId) : ∀ j v, [x, y][j]? = some v → (w.alloc (.cells #[x, y] t)).cell? ((⟨w.heap.size, 0, none⟩ : Addr).add j) = some v := by
  intro j v hj
  match j, hj with
  | 0, hj => simp at hj; subst hj; simp [Addr.add]
  | 1, hj => simp at hj; subst hj; simp [Addr.add]
theorem one_one {k : IntKind} (n : Int) : ∀ u ∈ [Value.int k n], u.oneCell' = true := by
  intro u hu; simp at hu; subst hu; rfl
theorem own_empty34 (w : World) (base : Nat) (hb : base ≤ w.heap.size) : (w.alloc (.cells #[] 34)).ownsRow base 34 2 (.slice (some ⟨w.heap.size, 0, none⟩) 0 0) 0 (cls []) :=
  World.ownsRow_made w #[] 0 hb (by decide) rfl

theorem getD_snocL (us : List Lb) (v : Lb) (j : Nat) : (us ++ [v]).getD j l0 = if j = us.length then v else us.getD j l0 := by
  by_cases h : j = us.length
  · subst h; simp [List.getD]
  · rw [if_neg h]
    rcases Nat.lt_or_gt_of_ne h with h' | h'
    · simp [List.getD, List.getElem?_append_left h']
    · simp [List.getD, List.getElem?_eq_none (show (us ++ [v]).length ≤ j by simp; omega), List.getElem?_eq_none (show us.length ≤ j by omega)]
theorem getD_eqL {ls : List Lb} {k : Nat} (h : k < ls.length) : ls.getD k l0 = ls[k] := by simp [List.getD, h]
theorem getD_memL {ls : List Lb} {k : Nat} (h : k < ls.length) : ls.getD k l0 ∈ ls := by rw [getD_eqL h]; exact List.getElem_mem h
theorem take_snocL (ls : List Lb) (k : Nat) (h : k < ls.length) : ls.take (k + 1) = ls.take k ++ [ls.getD k l0] := by
  rw [List.take_succ_eq_append_getElem h, getD_eqL h]
theorem drop_consL (ls : List Lb) (k : Nat) (h : k < ls.length) : ls.drop k = ls.getD k l0 :: ls.drop (k + 1) := by
  rw [List.drop_eq_getElem_cons h, getD_eqL h]
theorem drop_consI (zs : List Int) (k : Nat) (h : k < zs.length) : zs.drop k = zs.getD k 0 :: zs.drop (k + 1) := by
  rw [List.drop_eq_getElem_cons h]; simp [List.getD, h]
theorem take_snocI (zs : List Int) (k : Nat) (h : k < zs.length) : zs.take (k + 1) = zs.take k ++ [zs.getD k 0] := by
  rw [List.take_succ_eq_append_getElem h]; simp [List.getD, h]
/-- The four cells of a filter at a place. -/
def At (w : World) (b o : Nat) (f : Ft) : Prop := w.cell? ⟨b, o, none⟩ = some (.string f.n) ∧ w.cell? ⟨b, o + 1, none⟩ = some (.string f.v) ∧ w.cell? ⟨b, o + 2, none⟩ = some (.bool f.p) ∧ w.cell? ⟨b, o + 3, none⟩ = some (.bool f.t)
theorem At.below {w w' : World} {b o : Nat} {f : Ft} (h : At w b o f) (hb : Below w.heap.size w w') (hlt : b < w.heap.size) : At w' b o f :=
  ⟨(hb.cell (p := ⟨b, o, none⟩) hlt).trans h.1, (hb.cell (p := ⟨b, o + 1, none⟩) hlt).trans h.2.1, (hb.cell (p := ⟨b, o + 2, none⟩) hlt).trans h.2.2.1, (hb.cell (p := ⟨b, o + 3, none⟩) hlt).trans h.2.2.2⟩
/-- A slice of that address reads as these filters. -/
def RdF (w : World) (a : Option Addr) (ls : List Ft) : Prop :=
  ls = [] ∨ ∃ b off, a = some ⟨b, off, none⟩ ∧ b < w.heap.size ∧ ∀ i, i < ls.length → At w b (off + i * 4) (ls.getD i f0)
theorem RdF.below {w w' : World} {a : Option Addr} {ls : List Ft} (h : RdF w a ls) (hb : Below w.heap.size w w') : RdF w' a ls := by
  rcases h with h | ⟨b, off, h1, h2, h3⟩
  · exact .inl h
  · exact .inr ⟨b, off, h1, Nat.lt_of_lt_of_le h2 hb.size, fun i hi => (h3 i hi).below hb h2⟩
theorem RdF.at {w : World} {a : Option Addr} {ls : List Ft} (h : RdF w a ls) {k : Nat} (hk : k < ls.length) : ∃ b off, a = some ⟨b, off, none⟩ ∧ b < w.heap.size ∧ At w b (off + k * 4) (ls.getD k f0) := by
  rcases h with h | ⟨b, off, h1, h2, h3⟩
  · subst h; simp at hk
  · exact ⟨b, off, h1, h2, h3 k hk⟩
theorem RdF.take {w : World} {a : Option Addr} {ls : List Ft} (h : RdF w a ls) (n : Nat) : RdF w a (ls.take n) := by
  rcases h with rfl | ⟨b, off, h1, h2, h3⟩
  · exact .inl (by simp)
  · refine .inr ⟨b, off, h1, h2, fun i hi => ?_⟩
    simp only [List.length_take] at hi
    have e : (ls.take n).getD i f0 = ls.getD i f0 := by simp [List.getD, show i < n by omega]
    rw [e]; exact h3 i (by omega)
theorem RdF.drop {w : World} {g off n m cap : Nat} {ls : List Ft} (h : RdF w (some ⟨g, off, none⟩) ls) (hz : ls.length = n) (hc : n ≤ cap) (hm : m ≤ n) : RdF w (if cap = m then some ⟨g, off, none⟩ else some ⟨g, off + m * 4, none⟩) (ls.drop m) := by
  by_cases e : m = n
  · exact .inl (List.eq_nil_of_length_eq_zero (by simp [hz]; omega))
  · rw [if_neg (by omega)]
    rcases h with rfl | ⟨b, off', h1, h2, h3⟩
    · exact .inl (by simp)
    · cases h1
      refine .inr ⟨g, off + m * 4, rfl, h2, fun i hi => ?_⟩
      simp only [List.length_drop] at hi
      have e : (ls.drop m).getD i f0 = ls.getD (m + i) f0 := by simp [List.getD]
      rw [e, show off + m * 4 + i * 4 = off + (m + i) * 4 by omega]; exact h3 (m + i) (by omega)
/-- A slice of filters. -/
structure IsF (w : World) (a : Option Addr) (len cap : Nat) (ls : List Ft) : Prop where
  hl : ls.length = len
  hc : len ≤ cap
  hm : cap ≤ maxLen
  rd : RdF w a ls
  nil : a = none → cap = 0
theorem IsF.below {w w' : World} {a : Option Addr} {n c : Nat} {ls : List Ft} (h : IsF w a n c ls) (hb : Below w.heap.size w w') : IsF w' a n c ls := ⟨h.hl, h.hc, h.hm, h.rd.below hb, h.nil⟩
theorem IsF.none {w : World} {a : Option Addr} {n c : Nat} {ls : List Ft} (h : IsF w a n c ls) : a = none → c = 0 ∧ n = 0 := fun e => by have := h.nil e; have := h.hc; omega
theorem isF_nil (w : World) : IsF w none 0 0 [] := ⟨rfl, Nat.le_refl _, Nat.zero_le _, .inl rfl, fun _ => rfl⟩
/-- The cells of filters, one behind the other. -/
def clf : List Ft → List Value
  | [] => []
  | x :: r => .string x.n :: .string x.v :: .bool x.p :: .bool x.t :: clf r
theorem clf_len : ∀ ls : List Ft, (clf ls).length = ls.length * 4
  | [] => rfl
  | v :: r => by simp [clf, clf_len r]; omega
theorem clf_append : ∀ (a b : List Ft), clf (a ++ b) = clf a ++ clf b
  | [], b => rfl
  | v :: r, b => by simp [clf, clf_append r b]
theorem clf_get : ∀ (ls : List Ft) (i : Nat), i < ls.length → (clf ls)[i * 4]? = some (.string (ls.getD i f0).n) ∧ (clf ls)[i * 4 + 1]? = some (.string (ls.getD i f0).v) ∧ (clf ls)[i * 4 + 2]? = some (.bool (ls.getD i f0).p) ∧ (clf ls)[i * 4 + 3]? = some (.bool (ls.getD i f0).t)
  | [], i, h => by simp at h
  | v :: r, 0, _ => by simp [clf]
  | v :: r, i + 1, h => by
    have := clf_get r i (by simpa using h)
    rw [show (i + 1) * 4 = i * 4 + 4 by omega]
    simpa [clf] using this
theorem clf_one (ls : List Ft) : ∀ u ∈ clf ls, u.oneCell' = true := by
  induction ls with
  | nil => intro u hu; simp [clf] at hu
  | cons v r ih =>
    intro u hu
    simp only [clf, List.mem_cons] at hu
    rcases hu with rfl | rfl | rfl | rfl | hu
    · rfl
    · rfl
    · rfl
    · rfl
    · exact ih u hu
theorem rdF_news {w : World} {a : Option Addr} {ls : List Ft} (h : RdF w a ls) : ∀ ad, a = some ad → ∀ j u, (clf ls)[j]? = some u → w.cell? (ad.add j) = some u := by
  intro ad had j u hu
  have hj : j < ls.length * 4 := by have := (List.getElem?_eq_some_iff.1 hu).1; rw [clf_len] at this; exact this
  obtain ⟨b, off, e, _, c0, c1, c2, c3⟩ := h.at (k := j / 4) (by omega)
  rw [had] at e; cases e
  obtain ⟨d0, d1, d2, d3⟩ := clf_get ls (j / 4) (by omega)
  rw [Addr.add_lit]
  have h2 : j = j / 4 * 4 ∨ j = j / 4 * 4 + 1 ∨ j = j / 4 * 4 + 2 ∨ j = j / 4 * 4 + 3 := by omega
  rcases h2 with h | h | h | h
  · rw [h] at hu ⊢; rw [d0] at hu; cases hu; exact c0
  · rw [h] at hu ⊢; rw [d1] at hu; cases hu; rw [← Nat.add_assoc]; exact c1
  · rw [h] at hu ⊢; rw [d2] at hu; cases hu; rw [← Nat.add_assoc]; exact c2
  · rw [h] at hu ⊢; rw [d3] at hu; cases hu; rw [← Nat.add_assoc]; exact c3
/-- A row of filters of the call's own reads so. -/
theorem own_isF {w : World} {base n : Nat} {v : Value} {ls : List Ft} (h : w.ownsRow base 28 4 v n (clf ls)) : ∃ a c, v = .slice a n c ∧ IsF w a n c ls := by
  have hl := h.1
  rw [clf_len] at hl
  by_cases hn : 0 < n
  · obtain ⟨g, cap, h1, h2, h3, h4, h5, h6, _⟩ := own_cell h hn
    refine ⟨_, cap, h1, ⟨by omega, h4, h5, .inr ⟨g, 0, rfl, h3, fun i hi => ?_⟩, fun h => by cases h⟩⟩
    obtain ⟨c0, c1, c2, c3⟩ := clf_get ls i hi
    rw [Nat.zero_add]
    exact ⟨h6 _ _ c0, h6 _ _ c1, h6 _ _ c2, h6 _ _ c3⟩
  · obtain rfl : n = 0 := by omega
    have hv : ls = [] := List.eq_nil_of_length_eq_zero (by omega)
    rcases h.2 with ⟨h1, _⟩ | ⟨g, cap, cur, h1, _, _, h4, h5, _⟩
    · exact ⟨Option.none, 0, h1, ⟨by omega, Nat.le_refl _, Nat.zero_le _, .inl hv, fun _ => rfl⟩⟩
    · exact ⟨_, cap, h1, ⟨by omega, h4, h5, .inl hv, fun h => by cases h⟩⟩
theorem own_empty28 (w : World) (base : Nat) (hb : base ≤ w.heap.size) : (w.alloc (.cells #[] 28)).ownsRow base 28 4 (.slice (some ⟨w.heap.size, 0, none⟩) 0 0) 0 (clf []) :=
  World.ownsRow_made w #[] 0 hb (by decide) rfl
theorem getD_eqF {ls : List Ft} {k : Nat} (h : k < ls.length) : ls.getD k f0 = ls[k] := by simp [List.getD, h]
theorem getD_memF {ls : List Ft} {k : Nat} (h : k < ls.length) : ls.getD k f0 ∈ ls := by rw [getD_eqF h]; exact List.getElem_mem h
theorem take_snocF (ls : List Ft) (k : Nat) (h : k < ls.length) : ls.take (k + 1) = ls.take k ++ [ls.getD k f0] := by
  rw [List.take_succ_eq_append_getElem h, getD_eqF h]
theorem drop_consF (ls : List Ft) (k : Nat) (h : k < ls.length) : ls.drop k = ls.getD k f0 :: ls.drop (k + 1) := by
  rw [List.drop_eq_getElem_cons h, getD_eqF h]
theorem getD_snocF (us : List Ft) (v : Ft) (j : Nat) : (us ++ [v]).getD j f0 = if j = us.length then v else us.getD j f0 := by
  by_cases h : j = us.length
  · subst h; simp [List.getD]
  · rw [if_neg h]
    rcases Nat.lt_or_gt_of_ne h with h' | h'
    · simp [List.getD, List.getElem?_append_left h']
    · simp [List.getD, List.getElem?_eq_none (show (us ++ [v]).length ≤ j by simp; omega), List.getElem?_eq_none (show us.length ≤ j by omega)]
end Go.Proofs.Ytejdpelolihpeaa
