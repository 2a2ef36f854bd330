/- Slices of bytes and of items in memory: what they read as, rows of the call's own, append; bytes compared. Conditions: those of each theorem. -/
import Derived.Test.YtkojbpifcflgfaaL
import Derived.Test.YtkojbpifcflgfaaH
import Derived.Laws.AppendOwn
import Derived.Laws.AppendOwnNone
import Derived.Laws.CopyOwn
import Derived.Laws.BytesArg
import Derived.Laws.Rows
import Derived.OwnWalk
import Derived.Deep.RegionWith
import Derived.Deep.QuietTactic
import Derived.BigQuiet
import Derived.WalkMore
namespace Go.Proofs.Ytkojbpifcflgfaa
open Go.RowKit

theorem Rd.cell {k : IntKind} {w : World} {a : Option Addr} {zs : List Int} (h : Rd k w a zs) {j : Nat} (hj : j < zs.length) : ∃ b off, a = some ⟨b, off, none⟩ ∧ b < w.heap.size ∧ w.cell? ⟨b, off + j, none⟩ = some (.int k (zs.getD j 0)) := by
  rcases h with h | ⟨b, off, h1, h2, h3⟩
  · subst h; simp at hj
  · exact ⟨b, off, h1, h2, h3 j hj⟩
theorem rd_any {k : IntKind} {w : World} {a : Option Addr} {zs : List Int} (h : Rd k w a zs) : ∀ ad, a = some ad → ∀ j u, (zs.map (Value.int k))[j]? = some u → w.cell? (ad.add j) = some u := by
  intro ad had j u hu
  have hj : j < zs.length := by simpa using (List.getElem?_eq_some_iff.1 hu).1
  obtain ⟨b, off, h1, h2, h3⟩ := h.cell hj
  rw [had] at h1; cases h1
  rw [Addr.add_lit, h3]
  have e : (zs.map (Value.int k))[j]? = some (.int k (zs.getD j 0)) := by simp [List.getD, hj]
  rw [e] at hu; exact hu
theorem Rd.take {k : IntKind} {w : World} {a : Option Addr} {zs : List Int} (h : Rd k w a zs) (n : Nat) : Rd k w a (zs.take n) := by
  rcases h with rfl | ⟨b, off, h1, h2, h3⟩
  · exact .inl (by simp)
  · refine .inr ⟨b, off, h1, h2, fun i hi => ?_⟩
    simp only [List.length_take] at hi
    rw [h3 i (by omega)]
    congr 2
    simp [List.getD, show i < n by omega]
theorem Rd.drop {k : IntKind} {w : World} {g off n m cap : Nat} {zs : List Int} (h : Rd k w (some ⟨g, off, none⟩) zs) (hz : zs.length = n) (hc : n ≤ cap) (hm : m ≤ n) : Rd k w (if cap = m then some ⟨g, off, none⟩ else some ⟨g, off + m, none⟩) (zs.drop m) := by
  by_cases e : m = n
  · exact .inl (List.eq_nil_of_length_eq_zero (by simp [hz]; omega))
  · rw [if_neg (by omega)]
    rcases h with rfl | ⟨b, off', h1, h2, h3⟩
    · exact .inl (by simp)
    · cases h1
      refine .inr ⟨g, off + m, rfl, h2, fun i hi => ?_⟩
      simp only [List.length_drop] at hi
      rw [show off + m + i = off + (m + i) by omega, h3 (m + i) (by omega)]
      congr 2
      simp [List.getD]
/-- A slice of numbers. -/
structure IsI (k : IntKind) (w : World) (a : Option Addr) (len cap : Nat) (ms : List Int) : Prop where
  hl : ms.length = len
  hc : len ≤ cap
  hm : cap ≤ maxLen
  rd : Rd k w a ms
  nil : a = none → cap = 0
theorem IsI.below {k : IntKind} {w w' : World} {a : Option Addr} {n c : Nat} {zs : List Int} (h : IsI k w a n c zs) (hb : Below w.heap.size w w') : IsI k w' a n c zs := ⟨h.hl, h.hc, h.hm, h.rd.below hb, h.nil⟩
theorem IsI.none {k : IntKind} {w : World} {a : Option Addr} {n c : Nat} {zs : List Int} (h : IsI k w a n c zs) : a = none → c = 0 ∧ n = 0 := fun e => by have := h.nil e; have := h.hc; omega

theorem isI_nil (k : IntKind) (w : World) : IsI k w none 0 0 [] := ⟨rfl, Nat.le_refl _, Nat.zero_le _, .inl rfl, fun _ => rfl⟩
theorem IsI.lt {k : IntKind} {w : World} {a : Option Addr} {n c : Nat} {zs : List Int} (h : IsI k w a n c zs) (hn : 0 < n) : ∃ g off, a = some ⟨g, off, Option.none⟩ ∧ g < w.heap.size ∧ ∀ i, i < n → w.cell? ⟨g, off + i, Option.none⟩ = some (.int k (zs.getD i 0)) := by
  rcases h.rd with h' | ⟨b, off, h1, h2, h3⟩
  · have := h.hl; rw [h'] at this; simp at this; omega
  · exact ⟨b, off, h1, h2, fun i hi => h3 i (by rw [h.hl]; exact hi)⟩

/-- A slice of that address reads as these items. -/
def RdR (w : World) (a : Option Addr) (ls : List (List Int)) : Prop :=
  ls = [] ∨ ∃ b off, a = some ⟨b, off, none⟩ ∧ b < w.heap.size ∧ ∀ i, i < ls.length → ∃ ai ni ci, w.cell? ⟨b, off + i, none⟩ = some (.slice ai ni ci) ∧ IsI .u8 w ai ni ci (ls.getD i [])
theorem RdR.below {w w' : World} {a : Option Addr} {ls : List (List Int)} (h : RdR w a ls) (hb : Below w.heap.size w w') : RdR w' a ls := by
  rcases h with h | ⟨b, off, h1, h2, h3⟩
  · exact .inl h
  · refine .inr ⟨b, off, h1, Nat.lt_of_lt_of_le h2 hb.size, fun i hi => ?_⟩
    obtain ⟨ai, ni, ci, c, d⟩ := h3 i hi
    exact ⟨ai, ni, ci, (hb.cell (p := ⟨b, off + i, none⟩) h2).trans c, d.below hb⟩
theorem RdR.at {w : World} {a : Option Addr} {ls : List (List Int)} (h : RdR w a ls) {k : Nat} (hk : k < ls.length) : ∃ b off ai ni ci, a = some ⟨b, off, none⟩ ∧ b < w.heap.size ∧ w.cell? ⟨b, off + k, none⟩ = some (.slice ai ni ci) ∧ IsI .u8 w ai ni ci (ls.getD k []) := by
  rcases h with h | ⟨b, off, h1, h2, h3⟩
  · subst h; simp at hk
  · obtain ⟨ai, ni, ci, c, d⟩ := h3 k hk
    exact ⟨b, off, ai, ni, ci, h1, h2, c, d⟩
/-- A slice of items. -/
structure IsR (w : World) (a : Option Addr) (len cap : Nat) (ls : List (List Int)) : Prop where
  hl : ls.length = len
  hc : len ≤ cap
  hm : cap ≤ maxLen
  rd : RdR w a ls
  nil : a = none → cap = 0
theorem IsR.below {w w' : World} {a : Option Addr} {n c : Nat} {ls : List (List Int)} (h : IsR w a n c ls) (hb : Below w.heap.size w w') : IsR w' a n c ls := ⟨h.hl, h.hc, h.hm, h.rd.below hb, h.nil⟩
theorem isR_nil (w : World) : IsR w none 0 0 [] := ⟨rfl, Nat.le_refl _, Nat.zero_le _, .inl rfl, fun _ => rfl⟩
/-- All items are bytes. -/
def WfR (ls : List (List Int)) : Prop := ∀ l ∈ ls, Bytes l
theorem getD_eqR {ls : List (List Int)} {k : Nat} (h : k < ls.length) : ls.getD k [] = ls[k] := by simp [List.getD, h]
theorem getD_memR {ls : List (List Int)} {k : Nat} (h : k < ls.length) : ls.getD k [] ∈ ls := by rw [getD_eqR h]; exact List.getElem_mem h
theorem take_snocR (ls : List (List Int)) (k : Nat) (h : k < ls.length) : ls.take (k + 1) = ls.take k ++ [ls.getD k []] := by
  rw [List.take_succ_eq_append_getElem h, getD_eqR h]
theorem drop_consR (ls : List (List Int)) (k : Nat) (h : k < ls.length) : ls.drop k = ls.getD k [] :: ls.drop (k + 1) := by
  rw [List.drop_eq_getElem_cons h, getD_eqR h]
theorem drop_consI (zs : List Int) (k : Nat) (h : k < zs.length) : zs.drop k = zs.getD k 0 :: zs.drop (k + 1) := by
  rw [List.drop_eq_getElem_cons h]; simp [List.getD, h]
theorem take_snocI (zs : List Int) (k : Nat) (h : k < zs.length) : zs.take (k + 1) = zs.take k ++ [zs.getD k 0] := by
  rw [List.take_succ_eq_append_getElem h]; simp [List.getD, h]

theorem own_cell {w : World} {base n size : Nat} {v : Value} {e : TypeId} {xs : List Value} (h : w.ownsRow base e size v n xs) (hn : 0 < n) : ∃ g cap, v = .slice (some ⟨g, 0, none⟩) n cap ∧ base ≤ g ∧ g < w.heap.size ∧ n ≤ cap ∧ cap ≤ maxLen ∧ (∀ j x, xs[j]? = some x → w.cell? ⟨g, j, none⟩ = some x) ∧ ∀ j, w.frozen? ⟨g, j, none⟩ = false := by
  rcases h.2 with ⟨_, h2⟩ | ⟨g, cap, cur, h1, h2, h3, h4, h5, h6, h7⟩
  · omega
  · refine ⟨g, cap, h1, h2, (Array.getElem?_eq_some_iff.1 h3).1, h4, h5, fun j x hx => ?_, fun j => ?_⟩
    · rw [← h7] at hx
      have hj : j < n * size := by
        rcases Nat.lt_or_ge j (n * size) with h | h
        · exact h
        · rw [List.getElem?_take, if_neg (by omega)] at hx; cases hx
      rw [List.getElem?_take, if_pos hj] at hx
      simp [World.cell?, h3]
      simpa using hx
    · simp [World.frozen?, h3]
theorem own_below {u u' : World} {base : Nat} {e : TypeId} {size : Nat} {v : Value} {n : Nat} {xs : List Value} (h : u.ownsRow base e size v n xs) (hb : Below u.heap.size u u') : u'.ownsRow base e size v n xs := by
  refine ⟨h.1, ?_⟩
  rcases h.2 with h0 | ⟨g, cap, cur, h1, h2, h3, h4⟩
  · exact .inl h0
  · exact .inr ⟨g, cap, cur, h1, h2, (hb.block g (Array.getElem?_eq_some_iff.1 h3).1).trans h3, h4⟩
/-- A row of numbers of the call's own reads so. -/
theorem own_isI {k : IntKind} {e : TypeId} {w : World} {base n : Nat} {v : Value} {zs : List Int} (h : w.ownsRow base e 1 v n (zs.map (Value.int k))) : ∃ a c, v = .slice a n c ∧ IsI k w a n c zs := by
  have hl := h.1
  simp only [List.length_map, Nat.mul_one] at hl
  by_cases hn : 0 < n
  · obtain ⟨g, cap, h1, h2, h3, h4, h5, h6, _⟩ := own_cell h hn
    refine ⟨_, cap, h1, ⟨by omega, h4, h5, .inr ⟨g, 0, rfl, h3, fun i hi => ?_⟩, fun h => by cases h⟩⟩
    rw [Nat.zero_add]
    exact h6 _ _ (by simp [List.getD, hi])
  · obtain rfl : n = 0 := by omega
    have hv : zs = [] := List.eq_nil_of_length_eq_zero (by omega)
    rcases h.2 with ⟨h1, _⟩ | ⟨g, cap, cur, h1, _, _, h4, h5, _⟩
    · exact ⟨none, 0, h1, ⟨by omega, Nat.le_refl _, Nat.zero_le _, .inl hv, fun _ => rfl⟩⟩
    · exact ⟨_, cap, h1, ⟨by omega, h4, h5, .inl hv, fun h => by cases h⟩⟩

/-- 'append' onto a row of the call's own, whatever is appended: nil, empty or not. -/
theorem wpList_append_any {P : Program} (w : World) {ops : Array Oper} {rest : List Oper} {o : Oper} {a : Act} {Q : Exit → Act → World → Prop} (hgd : o.guard = none) (s x : Operand) (t : TypeId)
    (ho : o.op = .call { callee := .builtin .append, args := #[s, x], argTypes := #[t, t] })
    (base : Nat) (e : TypeId) (i : TypeInfo) (z : Value) (size bytes : Nat) (ht : P.underlying t = some (.slice e)) (hi : P.info? e = some i) (hz : i.zero = some z)
    (hsize : i.size = size) (hby : i.bytes = bytes) (hzs : z.cells.size = size) (hpos : 0 < size)
    (v : Value) (n : Nat) (xs : List Value) (hs : a.eval s = v) (hown : w.ownsRow base e size v n xs)
    (ao : Option Addr) (m c : Nat) (news : List Value) (hx : a.eval x = .slice ao m c) (hl : news.length = m * size) (hnone : ao = none → c = 0 ∧ m = 0) (hnews : ∀ ad, ao = some ad → ∀ j u, news[j]? = some u → w.cell? (ad.add j) = some u) (h1 : ∀ u ∈ news, u.oneCell' = true)
    (h63 : n + m ≤ maxLen) (hbytes : (n + m) * bytes ≤ 140737488355328) (hbase : base ≤ w.heap.size)
    (h : ∀ v' w', w'.ownsRow base e size v' (n + m) (xs ++ news) → w.grownBy w' v.ownBlock → wpList P ops Q rest (a.put o.dst v') w') : wpList P ops Q (o :: rest) a w := by
  cases ao with
  | some ad => exact wpList_append_own w hgd s x t ho base e i z size bytes ht hi hz hsize hby hzs hpos v n xs hs hown ad m c news hx hl (hnews ad rfl) h1 h63 hbytes hbase fun v' w' h2 h3 _ => h v' w' h2 h3
  | none =>
    obtain ⟨rfl, rfl⟩ := hnone rfl
    have hn : news = [] := List.eq_nil_of_length_eq_zero (by omega)
    subst hn
    exact wpList_append_own_none hgd s x t ho base e i size ht hi v n xs hs hown hx (h v w (by simpa using hown) (World.grownBy.refl _ _))
theorem own_empty5 (w : World) (base : Nat) (hb : base ≤ w.heap.size) : (w.alloc (.cells #[] 5)).ownsRow base 5 1 (.slice (some ⟨w.heap.size, 0, none⟩) 0 0) 0 (([] : List Int).map (Value.int .u8)) :=
  World.ownsRow_made w #[] 0 hb (by decide) rfl
theorem own_nil (w : World) (base : Nat) (e : TypeId) : w.ownsRow base e 1 (.slice none 0 0) 0 [] := ⟨rfl, .inl ⟨rfl, rfl⟩⟩

/-- What the comparing of bytes reads: a slice's bytes. -/
theorem run_loadBytes {P : Program} (w : World) (g : Nat) : ∀ (n off : Nat) (zs : List Int) (acc : ByteArray), zs.length = n → Bytes zs → (∀ i, i < n → w.cell? ⟨g, off + i, none⟩ = some (.int .u8 (zs.getD i 0))) →
    (Extern.Bytes.loadBytes ⟨g, off, none⟩ n acc).run P w = .ok ⟨acc.data ++ (strOfNums zs).data⟩ w
  | 0, off, zs, acc, hl, _, _ => by
    obtain rfl : zs = [] := List.eq_nil_of_length_eq_zero hl
    simp [Extern.Bytes.loadBytes, strOfNums]
  | n + 1, off, [], acc, hl, _, _ => by simp at hl
  | n + 1, off, z :: r, acc, hl, hb, hc => by
    have h0 := hc 0 (by omega)
    simp only [Nat.add_zero, List.getD_cons_zero] at h0
    have ih := run_loadBytes (P := P) w g n (off + 1) r (acc.push z.toNat.toUInt8) (by simpa using hl) (fun x hx => hb x (List.mem_cons_of_mem _ hx)) (fun i hi => by
      have := hc (i + 1) (by omega)
      rw [show off + 1 + i = off + (i + 1) by omega]
      simpa using this)
    have hadd : (⟨g, off, none⟩ : Addr).add 1 = ⟨g, off + 1, none⟩ := by simp [Addr.add]
    simp only [Extern.Bytes.loadBytes, Sem.run_bind, run_load, h0, Result.andThen, hadd, ih]
    congr 2
    simp [strOfNums, ByteArray.push]
theorem run_bytesOf {P : Program} (w : World) (a : Option Addr) (n c : Nat) (zs : List Int) (hb : Bytes zs) (h : IsI .u8 w a n c zs) :
    (Extern.Bytes.bytesOf (.slice a n c)).run P w = .ok (strOfNums zs) w := by
  cases a with
  | none =>
    obtain ⟨_, hn⟩ := h.none rfl
    obtain rfl : zs = [] := List.eq_nil_of_length_eq_zero (by rw [h.hl]; exact hn)
    rfl
  | some ad =>
    rcases Nat.eq_zero_or_pos n with hn | hn
    · obtain rfl : zs = [] := List.eq_nil_of_length_eq_zero (by rw [h.hl]; exact hn)
      subst hn
      rfl
    · obtain ⟨g, off, e, _, hc⟩ := h.lt hn
      cases e
      have := run_loadBytes (P := P) w g n off zs .empty h.hl hb hc
      obtain ⟨s, hs⟩ : ∃ s, s = strOfNums zs := ⟨_, rfl⟩
      rw [← hs] at this ⊢
      obtain ⟨d⟩ := s
      have e : (⟨ByteArray.empty.data ++ d⟩ : ByteArray) = ⟨d⟩ := congrArg ByteArray.mk (Array.toList_inj.1 (by rw [Array.toList_append]; rfl))
      rw [e] at this
      exact this
theorem run_compare {P : Program} (w : World) (a b : Option Addr) (n c m d : Nat) (xs ys : List Int) (hx : Bytes xs) (hy : Bytes ys) (h1 : IsI .u8 w a n c xs) (h2 : IsI .u8 w b m d ys) :
    (Extern.BytealgCompare.compare #[.slice a n c, .slice b m d]).run P w = .ok (.int .i64 (ci xs ys)) w := by
  change Sem.run P (do pure (goInt (Extern.BytealgCompare.cmp (← Extern.Bytes.bytesOf (.slice a n c)) (← Extern.Bytes.bytesOf (.slice b m d))))) w = _
  simp only [Sem.run_bind, run_bytesOf w a n c xs hx h1, run_bytesOf w b m d ys hy h2, Result.andThen, Sem.run_pure]
  rw [Lib.cmp_eq, cmp_eq, nums_str hx, nums_str hy]
  rfl

theorem compare_any (a b : Option Addr) (n c m d : Nat) (xs ys : List Int) (w : World) (hx : Bytes xs) (hy : Bytes ys) (h1 : IsI .u8 w a n c xs) (h2 : IsI .u8 w b m d ys) :
    Calls Try.prog 25 #[.slice a n c, .slice b m d] w fun e w' => e = .returned (.int .i64 (ci xs ys)) ∧ w' = w := by
  have hr := run_compare (P := Try.prog) w a b n c m d xs ys hx hy h1 h2
  clear hx hy h1 h2
  go_enter Try.func25, Try.ntmps25
  go_wp2
  rw [run_callFunc_extern Try.func38 (by kernel_rfl) (by kernel_rfl) (by kernel_rfl) (e := Extern.BytealgCompare.compare) (by kernel_rfl), hr]
  simp only [Result.andThen]
  rw [Oper.upon_value]
  go_wp2
  go_ret
  exact ⟨rfl, rfl⟩

end Go.Proofs.Ytkojbpifcflgfaa
