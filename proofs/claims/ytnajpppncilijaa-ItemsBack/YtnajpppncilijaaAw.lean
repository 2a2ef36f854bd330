/- The contract of awake: the document's examples. No conditions. -/
import Derived.Test.YtnajpppncilijaaSp
import Derived.Test.YtnajpppncilijaaRl
import Derived.Test.YtnajpppncilijaaK
import Derived.Lib.SlBytesConst
namespace Go.Proofs.Ytnajpppncilijaa
open Go.RowKit

abbrev iAb : List Int := [97, 98]
abbrev iAbc : List Int := [97, 98, 99]
abbrev iB : List Int := [98]
abbrev iAbd : List Int := [97, 98, 100]
abbrev ex : List (List Int) := [iAb, iAbc, iB]
theorem isI_mk (W : World) (g n : Nat) (f : Nat × Nat) (zs : List Int) (hn : zs.length = n) (h : W.heap[g]? = some (.cells (zs.map (Value.int .u8)).toArray 5 f)) (hm : n ≤ maxLen) : IsI .u8 W (some ⟨g, 0, none⟩) n n zs := by
  refine ⟨hn, Nat.le_refl _, hm, .inr ⟨g, 0, rfl, (Array.getElem?_eq_some_iff.1 h).1, fun i hi => ?_⟩, fun h => by cases h⟩
  rw [Nat.zero_add]
  simp [World.cell?, h, hi, List.getD]
theorem ex_bytes : WfR ex := by
  intro l hl x hx
  simp only [List.mem_cons, List.not_mem_nil, or_false] at hl
  rcases hl with rfl | rfl | rfl <;> (simp at hx; omega)
theorem abd_bytes : Bytes iAbd := by intro x hx; simp at hx; omega
theorem ex_chk : chk ex = 0 := by decide
theorem bs_s {u : Nat} (h : u < 128) : bs u = [(u : Int)] := bs_small h
theorem ex_pk : pk ex = [3, 0, 2, 97, 98, 2, 1, 99, 0, 1, 98] := by
  have e1 : cm [] iAb = 0 := by decide
  have e2 : cm iAb iAbc = 2 := by decide
  have e3 : cm iAbc iB = 0 := by decide
  simp only [pk, pkf, e1, e2, e3, List.length_cons, List.length_nil]
  rw [bs_s (by decide), bs_s (by decide), bs_s (by decide), bs_s (by decide)]
  rfl
theorem ex_rz : Rz ex := by
  intro i hi
  match i, hi with
  | 0, _ => decide
  | 1, _ => decide
theorem ex_sk : sk ex iAbd = 2 := by decide
theorem ex_cm : cm iAb iAbc = 2 := by decide
/-- What awake has made. -/
structure Aw (w W : World) : Prop where
  c0 : W.heap[w.heap.size]? = some (.cells #[.int .u8 97, .int .u8 98] 5 (2, 3))
  c1 : W.heap[w.heap.size + 1]? = some (.cells #[.int .u8 97, .int .u8 98, .int .u8 99] 5 (3, 4))
  c2 : W.heap[w.heap.size + 1 + 1]? = some (.cells #[.int .u8 98] 5 (1, 2))
  c3 : W.heap[w.heap.size + 1 + 1 + 1]? = some (.cells #[.slice (some ⟨w.heap.size, 0, none⟩) 2 2, .slice (some ⟨w.heap.size + 1, 0, none⟩) 3 3, .slice (some ⟨w.heap.size + 1 + 1, 0, none⟩) 1 1] 23 (0, 0))
  bl : Below w.heap.size w W
theorem Aw.below {w W W' : World} (h : Aw w W) (hb : Below W.heap.size W W') : Aw w W' :=
  ⟨(hb.block _ (blk_lt h.c0)).trans h.c0, (hb.block _ (blk_lt h.c1)).trans h.c1, (hb.block _ (blk_lt h.c2)).trans h.c2, (hb.block _ (blk_lt h.c3)).trans h.c3, h.bl.trans (hb.mono h.bl.size)⟩
theorem Aw.i0 {w W : World} (h : Aw w W) : IsI .u8 W (some ⟨w.heap.size, 0, none⟩) 2 2 iAb := isI_mk W _ 2 _ iAb rfl h.c0 (by decide)
theorem Aw.i1 {w W : World} (h : Aw w W) : IsI .u8 W (some ⟨w.heap.size + 1, 0, none⟩) 3 3 iAbc := isI_mk W _ 3 _ iAbc rfl h.c1 (by decide)
theorem Aw.l {w W : World} (h : Aw w W) : IsR W (some ⟨w.heap.size + 1 + 1 + 1, 0, none⟩) 3 3 ex := by
  refine ⟨rfl, Nat.le_refl _, by decide, .inr ⟨_, 0, rfl, blk_lt h.c3, fun i hi => ?_⟩, fun h => by cases h⟩
  match i, hi with
  | 0, _ => exact ⟨_, _, _, by simp [World.cell?, h.c3], h.i0⟩
  | 1, _ => exact ⟨_, _, _, by simp [World.cell?, h.c3], h.i1⟩
  | 2, _ => exact ⟨_, _, _, by simp [World.cell?, h.c3], isI_mk W _ 1 _ iB rfl h.c2 (by decide)⟩
theorem heap_alloc (W : World) (o : Obj) (n : Nat) (hn : n = W.heap.size) : (W.alloc o).heap[n]? = some o := by subst hn; exact World.alloc_heap_new W o
theorem aw_start (w : World) : Aw w ((((w.alloc (.cells #[.int .u8 97, .int .u8 98] 5 (2, 3))).alloc (.cells #[.int .u8 97, .int .u8 98, .int .u8 99] 5 (3, 4))).alloc (.cells #[.int .u8 98] 5 (1, 2))).alloc (.cells #[.slice (some ⟨w.heap.size, 0, none⟩) 2 2, .slice (some ⟨w.heap.size + 1, 0, none⟩) 3 3, .slice (some ⟨w.heap.size + 1 + 1, 0, none⟩) 1 1] 23)) := by
  refine ⟨?_, ?_, ?_, ?_, ?_⟩
  · rw [Below.heap_alloc _ _ _ (by first | (simp; done) | (simp; omega)), Below.heap_alloc _ _ _ (by first | (simp; done) | (simp; omega)), Below.heap_alloc _ _ _ (by simp)]
    exact heap_alloc _ _ _ rfl
  · rw [Below.heap_alloc _ _ _ (by first | (simp; done) | (simp; omega)), Below.heap_alloc _ _ _ (by simp)]
    exact heap_alloc _ _ _ (by simp)
  · rw [Below.heap_alloc _ _ _ (by simp)]
    exact heap_alloc _ _ _ (by simp)
  · exact heap_alloc _ _ _ (by simp)
  · exact ((((Below.refl _ _).alloc (Nat.le_refl _) _).alloc (by simp) _).alloc (by first | (simp; done) | (simp; omega)) _).alloc (by first | (simp; done) | (simp; omega)) _

def Ceq (x : Value) : Value → World → Prop := fun v _ => v = x
def TL (ks : List (Value → World → Prop)) (j : Nat) (v : Value) (w : World) : Prop := (ks.getD j (fun _ _ => True)) v w
theorem tl_stab {ks : List (Value → World → Prop)} {w w' : World} (h : ∀ k ∈ ks, ∀ v, k v w → k v w') {j : Nat} {v : Value} (hT : TL ks j v w) : TL ks j v w' := by
  unfold TL at *
  rcases Nat.lt_or_ge j ks.length with hj | hj
  · have e : ks.getD j (fun _ _ => True) = ks[j] := by simp [List.getD, hj]
    rw [e] at hT ⊢
    exact h _ (List.getElem_mem hj) v hT
  · have e : ks.getD j (fun _ _ => True) = fun _ _ => True := by simp [List.getD, List.getElem?_eq_none hj]
    rw [e]; trivial
/-- Rows of bytes hold what they held. -/
def Gw (w w' : World) : Prop := ∀ (g : Nat) cs f, w.heap[g]? = some (.cells cs 5 f) → ∃ f', w'.heap[g]? = some (.cells cs 5 f')
theorem gw_below {w w' : World} (h : Below w.heap.size w w') : Gw w w' := fun g _ f e => ⟨f, (h.block g (blk_lt e)).trans e⟩
/-- A slice of the bytes "abd". -/
def Ab (b : Nat) (v : Value) (W : World) : Prop := ∃ (g : Nat) (f : Nat × Nat), v = .slice (some ⟨g, 0, none⟩) 3 3 ∧ b ≤ g ∧ W.heap[g]? = some (.cells #[.int .u8 97, .int .u8 98, .int .u8 100] 5 f)
theorem ab_gw {b : Nat} {v : Value} {w w' : World} (hg : Gw w w') (h : Ab b v w) : Ab b v w' := by
  obtain ⟨g, f, h1, h2, h3⟩ := h
  obtain ⟨f', h4⟩ := hg g _ f h3
  exact ⟨g, f', h1, h2, h4⟩
/-- A slice of one element. -/
def Spl (v : Value) (_ : World) : Prop := ∃ a c, v = .slice a 1 c
/-- A row of bytes is marked. -/
theorem freeze_any (w : World) (g : Nat) (C : Array Value) (f : Nat × Nat) (h : w.heap[g]? = some (.cells C 5 f)) : ∃ f', (w.freeze ⟨g, C.size, none⟩ 1).heap[g]? = some (.cells C 5 f') ∧ (w.freeze ⟨g, C.size, none⟩ 1).heap.size = w.heap.size ∧ (∀ k, k ≠ g → (w.freeze ⟨g, C.size, none⟩ 1).heap[k]? = w.heap[k]?) ∧ Below g w (w.freeze ⟨g, C.size, none⟩ 1) := by
  obtain ⟨lo, hi'⟩ := f
  have hh : (w.freeze ⟨g, C.size, none⟩ 1).heap[g]? = some (.cells C 5 (if lo == hi' then (C.size, C.size + 1) else (min lo C.size, max hi' (C.size + 1)))) := by
    unfold World.freeze
    rw [if_neg (by decide)]
    simp [Array.getElem?_modify, h]
  have hs : (w.freeze ⟨g, C.size, none⟩ 1).heap.size = w.heap.size := by unfold World.freeze; rw [if_neg (by decide)]; simp
  have ho : ∀ k, k ≠ g → (w.freeze ⟨g, C.size, none⟩ 1).heap[k]? = w.heap[k]? := fun k hk => by
    unfold World.freeze
    rw [if_neg (by decide)]
    simp [Array.getElem?_modify, Ne.symm hk]
  refine ⟨_, hh, hs, ho, ?_⟩
  refine ⟨?_, ?_, ?_, by rw [hs]; exact Nat.le_refl _, fun k hk => ho k (by omega)⟩ <;> (unfold World.freeze; rw [if_neg (by decide)])
theorem gw_freeze {w w' : World} {g : Nat} {C : Array Value} {f f' : Nat × Nat} (h : w.heap[g]? = some (.cells C 5 f)) (h1 : w'.heap[g]? = some (.cells C 5 f')) (ho : ∀ k, k ≠ g → w'.heap[k]? = w.heap[k]?) : Gw w w' := fun k cs f0 e => by
  by_cases hk : k = g
  · subst hk; rw [h] at e; cases e; exact ⟨_, h1⟩
  · exact ⟨f0, (ho k hk).trans e⟩
theorem run_conv (w : World) (g : Nat) (C : Array Value) (f : Nat × Nat) (h : w.heap[g]? = some (.cells C 5 f)) (n c : Nat) :
    Sem.run Try.prog (convert 23 23 (.slice (some ⟨g, 0, none⟩) n c)) w = .ok (.slice (some ⟨g, 0, none⟩) n c) (w.freeze ⟨g, C.size, none⟩ 1) := by
  have hsh : w.shape? g = some (5, C.size) := by unfold World.shape?; rw [h]
  simp [convert, run_underlying Try.underlying23, run_underlying Try.underlying5, markStringish, hsh]

set_option linter.unusedSimpArgs false in
set_option maxRecDepth 100000 in
set_option maxHeartbeats 4000000 in
theorem awake_any (w : World) : Calls Try.prog 7 #[] w fun e w' => e = .returned (.bool true) ∧ Below w.heap.size w w' := by
  have kc := fun (w : World) (C : Array Value) (n c : Nat) => Lib.run_convert_bytes_const (P := Try.prog) w 23 5 C n c Try.underlying23 Try.underlying5
  have k2 := kc (w.alloc (.cells #[.int .u8 97, .int .u8 98] 5 (2, 3))) #[.int .u8 97, .int .u8 98, .int .u8 99] 3 3
  have k3 := kc ((w.alloc (.cells #[.int .u8 97, .int .u8 98] 5 (2, 3))).alloc (.cells #[.int .u8 97, .int .u8 98, .int .u8 99] 5 (3, 4))) #[.int .u8 98] 1 1
  simp only [World.size_alloc] at k2 k3
  have H0 : Hid _ := aw_start w
  go_enter Try.func7, Try.ntmps7
  go_wp2_with fail
  refine Calls.mono (pack_ok _ 3 3 ex _ H0.out.l ex_bytes ex_chk) ?_
  rintro e w1 ⟨v1, rfl, ho1, hb1⟩
  obtain ⟨a1, c1, rfl, hI1⟩ := own_isI ho1
  rw [ex_pk] at hI1
  have H1 : Hid (Aw w w1 ∧ IsI .u8 w1 a1 11 c1 [3, 0, 2, 97, 98, 2, 1, 99, 0, 1, 98]) := ⟨H0.out.below hb1, hI1⟩
  have hlen : (pk ex).length = 11 := by rw [ex_pk]; rfl
  rw [hlen]
  clear ho1 hb1 hI1 hlen kc k2 k3
  have hby : Hid (Bytes [3, 0, 2, 97, 98, 2, 1, 99, 0, 1, 98]) := by intro x hx; simp at hx; omega
  have hup : Hid (upk [3, 0, 2, 97, 98, 2, 1, 99, 0, 1, 98] = (ex, 0)) := by show _ = _; rw [← ex_pk]; exact upk_pk ex_chk
  go_wp2_with fail
  refine Calls.mono (unpack_any a1 11 c1 _ w1 H1.out.2 hby.out (by decide)) ?_
  rintro e w2 ⟨⟨a2, n2, c2, rfl, hR2, hW2⟩, hb2⟩
  rw [hup.out] at hR2 hW2 ⊢
  obtain rfl : n2 = 3 := hR2.hl.symm
  have H2 : Hid (Aw w w2 ∧ IsI .u8 w2 a1 11 c1 [3, 0, 2, 97, 98, 2, 1, 99, 0, 1, 98] ∧ IsR w2 a2 3 c2 ex) := ⟨H1.out.1.below hb2, H1.out.2.below hb2, hR2⟩
  clear hR2 hW2 hb2 H1
  have hst : strOfNums [3, 0, 2, 97, 98, 2, 1, 99, 0, 1, 98] = ⟨#[3, 0, 2, 97, 98, 2, 1, 99, 0, 1, 98]⟩ := by rfl
  have HV : Hid (∀ W, Below w2.heap.size w2 W → Sem.run Try.prog (convert 23 9 (.slice a1 11 c1)) W = .ok (.string ⟨#[3, 0, 2, 97, 98, 2, 1, 99, 0, 1, 98]⟩) W) := fun W hW => by
    have := conv_rd W a1 c1 11 _ rfl (H2.out.2.1.below hW).rd
    rw [hst] at this; exact this
  have HSm : Hid (∀ W, Below w2.heap.size w2 W → Calls Try.prog 17 #[.slice a2 3 c2, .slice (some ⟨w.heap.size + 1 + 1 + 1, 0, none⟩) 3 3] W fun e w' => e = .returned (.bool true) ∧ Below W.heap.size W w') := fun W hW =>
    (same_any _ _ _ _ _ _ _ _ W (H2.out.2.2.below hW) ex_bytes (H2.out.1.below hW).l ex_bytes).mono fun e w' ⟨h1, h2⟩ => ⟨by rw [h1]; simp, h2⟩
  have HSk : Hid (∀ W (g : Nat) (f : Nat × Nat), Below w2.heap.size w2 W → W.heap[g]? = some (.cells #[.int .u8 97, .int .u8 98, .int .u8 100] 5 f) → Calls Try.prog 11 #[.slice (some ⟨w.heap.size + 1 + 1 + 1, 0, none⟩) 3 3, .slice (some ⟨g, 0, none⟩) 3 3] W fun e w' => e = .returned (.int .i64 2) ∧ Below W.heap.size W w') := fun W g f hW hg =>
    (seek_any _ _ _ _ _ _ _ iAbd W (H2.out.1.below hW).l ex_bytes (isI_mk W g 3 _ iAbd rfl hg (by decide)) abd_bytes (by decide)).mono fun e w' ⟨r, h1, h2, h3⟩ => by
      have := pl_sk ex_rz h2
      rw [ex_sk] at this
      subst this
      exact ⟨h1, h3⟩
  have HCm : Hid (∀ W, Below w2.heap.size w2 W → Calls Try.prog 9 #[.slice (some ⟨w.heap.size, 0, none⟩) 2 2, .slice (some ⟨w.heap.size + 1, 0, none⟩) 3 3] W fun e w' => e = .returned (.int .i64 2) ∧ Below W.heap.size W w') := fun W hW =>
    (common_any _ _ _ _ _ _ _ _ W (H2.out.1.below hW).i0 (H2.out.1.below hW).i1).mono fun e w' ⟨h1, q, h2⟩ => ⟨by rw [h1, ex_cm]; rfl, by rw [h2]; exact below_dr W q⟩
  have HSp : Hid (∀ W, Below w2.heap.size w2 W → Calls Try.prog 18 #[.slice (some ⟨w.heap.size + 1 + 1 + 1, 0, none⟩) 3 3] W fun e w' => (∃ a c, e = .returned (.slice a 1 c)) ∧ Below W.heap.size W w') := fun W hW =>
    (split_few _ _ 3 3 W (by decide) (by decide) (Nat.le_refl _))
  have HCk : Hid (∀ W, Below w2.heap.size w2 W → Calls Try.prog 16 #[.slice (some ⟨w.heap.size + 1 + 1 + 1, 0, none⟩) 3 3] W fun e w' => e = .returned (.int .i64 0) ∧ Below W.heap.size W w') := fun W hW =>
    (check_any _ 3 3 _ W (H2.out.1.below hW).l ex_bytes).mono fun e w' ⟨h1, h2⟩ => ⟨by rw [h1, ex_chk], by rw [h2]; exact Below.refl _ _⟩
  have HL : Hid (∀ W, Below w2.heap.size w2 W → W.cell? ⟨w.heap.size + 1 + 1 + 1, 0, none⟩ = some (.slice (some ⟨w.heap.size, 0, none⟩) 2 2) ∧ W.cell? ⟨w.heap.size + 1 + 1 + 1, 1, none⟩ = some (.slice (some ⟨w.heap.size + 1, 0, none⟩) 3 3)) := fun W hW => by
    have := (H2.out.1.below hW).c3
    exact ⟨by simp [World.cell?, this], by simp [World.cell?, this]⟩
  have HB : Hid (Below w.heap.size w w2) := H2.out.1.bl
  have HST : Hid (∀ W W' : World, Gw W W' → ∀ j v, TL [Ceq (.int .i64 0), Ceq (.bool true), Ceq (.bool true), Ceq (.slice a1 11 c1), Ceq (.string ⟨#[3, 0, 2, 97, 98, 2, 1, 99, 0, 1, 98]⟩), Ceq (.bool true), Ceq (.bool true), Ceq (.bool true), Ceq (.int .i64 0), Ceq (.bool true), Ceq (.bool true), Ceq (.bool true), Ceq (.slice a2 3 c2), Ceq (.slice (some ⟨w.heap.size + 1 + 1 + 1, 0, none⟩) 3 3), Ceq (.bool true), Ceq (.bool true), Ceq (.bool true), Ceq (.slice (some ⟨w.heap.size + 1 + 1 + 1, 0, none⟩) 3 3), Ab w2.heap.size, Ab w2.heap.size, Ceq (.int .i64 2), Ceq (.bool true), Ceq (.bool true), Ceq (.bool true), Ceq (.slice (some ⟨w.heap.size + 1 + 1 + 1, 0, none⟩) 3 3), Ceq (.pointer (some ⟨w.heap.size + 1 + 1 + 1, 0, none⟩)), Ceq (.slice (some ⟨w.heap.size, 0, none⟩) 2 2), Ceq (.slice (some ⟨w.heap.size + 1 + 1 + 1, 0, none⟩) 3 3), Ceq (.pointer (some ⟨w.heap.size + 1 + 1 + 1, 1, none⟩)), Ceq (.slice (some ⟨w.heap.size + 1, 0, none⟩) 3 3), Ceq (.int .i64 2), Ceq (.bool true), Ceq (.bool true), Ceq (.bool true), Ceq (.slice (some ⟨w.heap.size + 1 + 1 + 1, 0, none⟩) 3 3), Spl, Ceq (.int .i64 1), Ceq (.bool true), Ceq (.bool true), Ceq (.bool true), Ceq (.slice (some ⟨w.heap.size + 1 + 1 + 1, 0, none⟩) 3 3), Ceq (.int .i64 0), Ceq (.bool true), Ceq (.bool true), Ceq (.bool true)] j v W → TL [Ceq (.int .i64 0), Ceq (.bool true), Ceq (.bool true), Ceq (.slice a1 11 c1), Ceq (.string ⟨#[3, 0, 2, 97, 98, 2, 1, 99, 0, 1, 98]⟩), Ceq (.bool true), Ceq (.bool true), Ceq (.bool true), Ceq (.int .i64 0), Ceq (.bool true), Ceq (.bool true), Ceq (.bool true), Ceq (.slice a2 3 c2), Ceq (.slice (some ⟨w.heap.size + 1 + 1 + 1, 0, none⟩) 3 3), Ceq (.bool true), Ceq (.bool true), Ceq (.bool true), Ceq (.slice (some ⟨w.heap.size + 1 + 1 + 1, 0, none⟩) 3 3), Ab w2.heap.size, Ab w2.heap.size, Ceq (.int .i64 2), Ceq (.bool true), Ceq (.bool true), Ceq (.bool true), Ceq (.slice (some ⟨w.heap.size + 1 + 1 + 1, 0, none⟩) 3 3), Ceq (.pointer (some ⟨w.heap.size + 1 + 1 + 1, 0, none⟩)), Ceq (.slice (some ⟨w.heap.size, 0, none⟩) 2 2), Ceq (.slice (some ⟨w.heap.size + 1 + 1 + 1, 0, none⟩) 3 3), Ceq (.pointer (some ⟨w.heap.size + 1 + 1 + 1, 1, none⟩)), Ceq (.slice (some ⟨w.heap.size + 1, 0, none⟩) 3 3), Ceq (.int .i64 2), Ceq (.bool true), Ceq (.bool true), Ceq (.bool true), Ceq (.slice (some ⟨w.heap.size + 1 + 1 + 1, 0, none⟩) 3 3), Spl, Ceq (.int .i64 1), Ceq (.bool true), Ceq (.bool true), Ceq (.bool true), Ceq (.slice (some ⟨w.heap.size + 1 + 1 + 1, 0, none⟩) 3 3), Ceq (.int .i64 0), Ceq (.bool true), Ceq (.bool true), Ceq (.bool true)] j v W') := fun W W' hg j v hT => tl_stab (w := W) (w' := W') (List.forall_mem_cons.2 ⟨fun _ h => h, (List.forall_mem_cons.2 ⟨fun _ h => h, (List.forall_mem_cons.2 ⟨fun _ h => h, (List.forall_mem_cons.2 ⟨fun _ h => h, (List.forall_mem_cons.2 ⟨fun _ h => h, (List.forall_mem_cons.2 ⟨fun _ h => h, (List.forall_mem_cons.2 ⟨fun _ h => h, (List.forall_mem_cons.2 ⟨fun _ h => h, (List.forall_mem_cons.2 ⟨fun _ h => h, (List.forall_mem_cons.2 ⟨fun _ h => h, (List.forall_mem_cons.2 ⟨fun _ h => h, (List.forall_mem_cons.2 ⟨fun _ h => h, (List.forall_mem_cons.2 ⟨fun _ h => h, (List.forall_mem_cons.2 ⟨fun _ h => h, (List.forall_mem_cons.2 ⟨fun _ h => h, (List.forall_mem_cons.2 ⟨fun _ h => h, (List.forall_mem_cons.2 ⟨fun _ h => h, (List.forall_mem_cons.2 ⟨fun _ h => h, (List.forall_mem_cons.2 ⟨fun _ h => ab_gw hg h, (List.forall_mem_cons.2 ⟨fun _ h => ab_gw hg h, (List.forall_mem_cons.2 ⟨fun _ h => h, (List.forall_mem_cons.2 ⟨fun _ h => h, (List.forall_mem_cons.2 ⟨fun _ h => h, (List.forall_mem_cons.2 ⟨fun _ h => h, (List.forall_mem_cons.2 ⟨fun _ h => h, (List.forall_mem_cons.2 ⟨fun _ h => h, (List.forall_mem_cons.2 ⟨fun _ h => h, (List.forall_mem_cons.2 ⟨fun _ h => h, (List.forall_mem_cons.2 ⟨fun _ h => h, (List.forall_mem_cons.2 ⟨fun _ h => h, (List.forall_mem_cons.2 ⟨fun _ h => h, (List.forall_mem_cons.2 ⟨fun _ h => h, (List.forall_mem_cons.2 ⟨fun _ h => h, (List.forall_mem_cons.2 ⟨fun _ h => h, (List.forall_mem_cons.2 ⟨fun _ h => h, (List.forall_mem_cons.2 ⟨fun _ h => h, (List.forall_mem_cons.2 ⟨fun _ h => h, (List.forall_mem_cons.2 ⟨fun _ h => h, (List.forall_mem_cons.2 ⟨fun _ h => h, (List.forall_mem_cons.2 ⟨fun _ h => h, (List.forall_mem_cons.2 ⟨fun _ h => h, (List.forall_mem_cons.2 ⟨fun _ h => h, (List.forall_mem_cons.2 ⟨fun _ h => h, (List.forall_mem_cons.2 ⟨fun _ h => h, (List.forall_mem_cons.2 ⟨fun _ h => h, (fun _ h => by cases h)⟩)⟩)⟩)⟩)⟩)⟩)⟩)⟩)⟩)⟩)⟩)⟩)⟩)⟩)⟩)⟩)⟩)⟩)⟩)⟩)⟩)⟩)⟩)⟩)⟩)⟩)⟩)⟩)⟩)⟩)⟩)⟩)⟩)⟩)⟩)⟩)⟩)⟩)⟩)⟩)⟩)⟩)⟩)⟩)⟩) hT
  go_wp2_with fail
  refine wp_region_M (by kernel_rfl) (by kernel_rfl) (fun _ W => Below w2.heap.size w2 W) (TL [Ceq (.int .i64 0), Ceq (.bool true), Ceq (.bool true), Ceq (.slice a1 11 c1), Ceq (.string ⟨#[3, 0, 2, 97, 98, 2, 1, 99, 0, 1, 98]⟩), Ceq (.bool true), Ceq (.bool true), Ceq (.bool true), Ceq (.int .i64 0), Ceq (.bool true), Ceq (.bool true), Ceq (.bool true), Ceq (.slice a2 3 c2), Ceq (.slice (some ⟨w.heap.size + 1 + 1 + 1, 0, none⟩) 3 3), Ceq (.bool true), Ceq (.bool true), Ceq (.bool true), Ceq (.slice (some ⟨w.heap.size + 1 + 1 + 1, 0, none⟩) 3 3), Ab w2.heap.size, Ab w2.heap.size, Ceq (.int .i64 2), Ceq (.bool true), Ceq (.bool true), Ceq (.bool true), Ceq (.slice (some ⟨w.heap.size + 1 + 1 + 1, 0, none⟩) 3 3), Ceq (.pointer (some ⟨w.heap.size + 1 + 1 + 1, 0, none⟩)), Ceq (.slice (some ⟨w.heap.size, 0, none⟩) 2 2), Ceq (.slice (some ⟨w.heap.size + 1 + 1 + 1, 0, none⟩) 3 3), Ceq (.pointer (some ⟨w.heap.size + 1 + 1 + 1, 1, none⟩)), Ceq (.slice (some ⟨w.heap.size + 1, 0, none⟩) 3 3), Ceq (.int .i64 2), Ceq (.bool true), Ceq (.bool true), Ceq (.bool true), Ceq (.slice (some ⟨w.heap.size + 1 + 1 + 1, 0, none⟩) 3 3), Spl, Ceq (.int .i64 1), Ceq (.bool true), Ceq (.bool true), Ceq (.bool true), Ceq (.slice (some ⟨w.heap.size + 1 + 1 + 1, 0, none⟩) 3 3), Ceq (.int .i64 0), Ceq (.bool true), Ceq (.bool true), Ceq (.bool true)]) ((Below.refl _ _).drew) (allL_cons ?_ (allL_cons ?_ (allL_cons ?_ (allL_cons ?_ (allL_cons ?_ (allL_cons ?_ (allL_cons ?_ (allL_cons ?_ (allL_cons ?_ (allL_cons ?_ (allL_cons ?_ (allL_cons ?_ (allL_cons ?_ (allL_cons ?_ (allL_cons ?_ (allL_cons ?_ (allL_cons ?_ (allL_cons ?_ (allL_cons ?_ (allL_cons ?_ (allL_cons ?_ (allL_cons ?_ (allL_cons ?_ (allL_cons ?_ (allL_cons ?_ (allL_cons ?_ (allL_cons ?_ (allL_cons ?_ (allL_cons ?_ (allL_cons ?_ (allL_cons ?_ (allL_cons ?_ (allL_cons ?_ (allL_cons ?_ (allL_cons ?_ (allL_cons ?_ (allL_cons ?_ (allL_cons ?_ (allL_cons ?_ (allL_cons ?_ (allL_cons ?_ (allL_cons ?_ (allL_cons ?_ (allL_cons ?_ (allL_cons ?_ allL_nil))))))))))))))))))))))))))))))))))))))))))))) ?_
  · intro L a wx hS h
    have s3 : a.eval (.tmp 3) = .int .i64 0 := (h.fix 3 (by kernel_rfl)).trans rfl
    have t3 := (ev_tmp a 3).symm.trans s3
    rw [if_pos (wanted_none rfl)]
    refine does_val (v := .int .i64 0) (w' := wx) ?_ ⟨rfl, hS, fun _ _ _ h => h⟩
    simp [execOp, go_sem, t3]
  · intro L a wx hS h
    have s23 : a.eval (.tmp 23) = .int .i64 0 := h.slot 0 0 23 rfl rfl
    have t23 := (ev_tmp a 23).symm.trans s23
    rw [if_pos (wanted_none rfl)]
    refine does_val (v := .bool true) (w' := wx) ?_ ⟨rfl, hS, fun _ _ _ h => h⟩
    simp [execOp, go_sem, t23]
  · intro L a wx hS h
    have s24 : a.eval (.tmp 24) = .bool true := h.slot 0 1 24 rfl rfl
    have t24 := (ev_tmp a 24).symm.trans s24
    rw [if_pos (wanted_none rfl)]
    refine does_val (v := .bool true) (w' := wx) ?_ ⟨rfl, hS, fun _ _ _ h => h⟩
    simp [execOp, go_sem, t24]
  · intro L a wx hS h
    have s2 : a.eval (.tmp 2) = .slice a1 11 c1 := (h.fix 2 (by kernel_rfl)).trans rfl
    have t2 := (ev_tmp a 2).symm.trans s2
    have s25 : a.eval (.tmp 25) = .bool true := h.slot 0 2 25 rfl rfl
    have t25 := (ev_tmp a 25).symm.trans s25
    rw [if_pos (wanted_of (g := 2) (d := 25) (b := true) rfl rfl s25)]
    refine does_val (v := .slice a1 11 c1) (w' := wx) ?_ ⟨rfl, hS, fun _ _ _ h => h⟩
    simp [execOp, go_sem, t2]
  · intro L a wx hS h
    have s26 : a.eval (.tmp 26) = .slice a1 11 c1 := h.slot 0 3 26 rfl rfl
    have t26 := (ev_tmp a 26).symm.trans s26
    have s25 : a.eval (.tmp 25) = .bool true := h.slot 1 2 25 rfl rfl
    have t25 := (ev_tmp a 25).symm.trans s25
    rw [if_pos (wanted_of (g := 2) (d := 25) (b := true) rfl rfl s25)]
    refine does_val (v := .string ⟨#[3, 0, 2, 97, 98, 2, 1, 99, 0, 1, 98]⟩) (w' := wx) ?_ ⟨rfl, hS, fun _ _ _ h => h⟩
    simp [execOp, go_sem, t26, HV.out wx hS]
  · intro L a wx hS h
    have s27 : a.eval (.tmp 27) = .string ⟨#[3, 0, 2, 97, 98, 2, 1, 99, 0, 1, 98]⟩ := h.slot 0 4 27 rfl rfl
    have t27 := (ev_tmp a 27).symm.trans s27
    have s25 : a.eval (.tmp 25) = .bool true := h.slot 1 2 25 rfl rfl
    have t25 := (ev_tmp a 25).symm.trans s25
    rw [if_pos (wanted_of (g := 2) (d := 25) (b := true) rfl rfl s25)]
    refine does_val (v := .bool true) (w' := wx) ?_ ⟨rfl, hS, fun _ _ _ h => h⟩
    simp [execOp, go_sem, t27]
  · intro L a wx hS h
    have s25 : a.eval (.tmp 25) = .bool true := h.slot 0 2 25 rfl rfl
    have t25 := (ev_tmp a 25).symm.trans s25
    have s28 : a.eval (.tmp 28) = .bool true := h.slot 1 5 28 rfl rfl
    have t28 := (ev_tmp a 28).symm.trans s28
    rw [if_pos (wanted_none rfl)]
    refine does_val (v := .bool true) (w' := wx) ?_ ⟨rfl, hS, fun _ _ _ h => h⟩
    simp [execOp, go_sem, t25, t28]
  · intro L a wx hS h
    have s29 : a.eval (.tmp 29) = .bool true := h.slot 0 6 29 rfl rfl
    have t29 := (ev_tmp a 29).symm.trans s29
    rw [if_pos (wanted_none rfl)]
    refine does_val (v := .bool true) (w' := wx) ?_ ⟨rfl, hS, fun _ _ _ h => h⟩
    simp [execOp, go_sem, t29]
  · intro L a wx hS h
    have s5 : a.eval (.tmp 5) = .int .i64 0 := (h.fix 5 (by kernel_rfl)).trans rfl
    have t5 := (ev_tmp a 5).symm.trans s5
    have s30 : a.eval (.tmp 30) = .bool true := h.slot 0 7 30 rfl rfl
    have t30 := (ev_tmp a 30).symm.trans s30
    rw [if_pos (wanted_of (g := 7) (d := 30) (b := true) rfl rfl s30)]
    refine does_val (v := .int .i64 0) (w' := wx) ?_ ⟨rfl, hS, fun _ _ _ h => h⟩
    simp [execOp, go_sem, t5]
  · intro L a wx hS h
    have s31 : a.eval (.tmp 31) = .int .i64 0 := h.slot 0 8 31 rfl rfl
    have t31 := (ev_tmp a 31).symm.trans s31
    have s30 : a.eval (.tmp 30) = .bool true := h.slot 1 7 30 rfl rfl
    have t30 := (ev_tmp a 30).symm.trans s30
    rw [if_pos (wanted_of (g := 7) (d := 30) (b := true) rfl rfl s30)]
    refine does_val (v := .bool true) (w' := wx) ?_ ⟨rfl, hS, fun _ _ _ h => h⟩
    simp [execOp, go_sem, t31]
  · intro L a wx hS h
    have s30 : a.eval (.tmp 30) = .bool true := h.slot 0 7 30 rfl rfl
    have t30 := (ev_tmp a 30).symm.trans s30
    have s32 : a.eval (.tmp 32) = .bool true := h.slot 1 9 32 rfl rfl
    have t32 := (ev_tmp a 32).symm.trans s32
    rw [if_pos (wanted_none rfl)]
    refine does_val (v := .bool true) (w' := wx) ?_ ⟨rfl, hS, fun _ _ _ h => h⟩
    simp [execOp, go_sem, t30, t32]
  · intro L a wx hS h
    have s33 : a.eval (.tmp 33) = .bool true := h.slot 0 10 33 rfl rfl
    have t33 := (ev_tmp a 33).symm.trans s33
    rw [if_pos (wanted_none rfl)]
    refine does_val (v := .bool true) (w' := wx) ?_ ⟨rfl, hS, fun _ _ _ h => h⟩
    simp [execOp, go_sem, t33]
  · intro L a wx hS h
    have s4 : a.eval (.tmp 4) = .slice a2 3 c2 := (h.fix 4 (by kernel_rfl)).trans rfl
    have t4 := (ev_tmp a 4).symm.trans s4
    have s34 : a.eval (.tmp 34) = .bool true := h.slot 0 11 34 rfl rfl
    have t34 := (ev_tmp a 34).symm.trans s34
    rw [if_pos (wanted_of (g := 11) (d := 34) (b := true) rfl rfl s34)]
    refine does_val (v := .slice a2 3 c2) (w' := wx) ?_ ⟨rfl, hS, fun _ _ _ h => h⟩
    simp [execOp, go_sem, t4]
  · intro L a wx hS h
    have s1 : a.eval (.tmp 1) = .slice (some ⟨w.heap.size + 1 + 1 + 1, 0, none⟩) 3 3 := (h.fix 1 (by kernel_rfl)).trans rfl
    have t1 := (ev_tmp a 1).symm.trans s1
    have s34 : a.eval (.tmp 34) = .bool true := h.slot 0 11 34 rfl rfl
    have t34 := (ev_tmp a 34).symm.trans s34
    rw [if_pos (wanted_of (g := 11) (d := 34) (b := true) rfl rfl s34)]
    refine does_val (v := .slice (some ⟨w.heap.size + 1 + 1 + 1, 0, none⟩) 3 3) (w' := wx) ?_ ⟨rfl, hS, fun _ _ _ h => h⟩
    simp [execOp, go_sem, t1]
  · intro L a wx hS h
    have s35 : a.eval (.tmp 35) = .slice a2 3 c2 := h.slot 0 12 35 rfl rfl
    have t35 := (ev_tmp a 35).symm.trans s35
    have s36 : a.eval (.tmp 36) = .slice (some ⟨w.heap.size + 1 + 1 + 1, 0, none⟩) 3 3 := h.slot 1 13 36 rfl rfl
    have t36 := (ev_tmp a 36).symm.trans s36
    have s34 : a.eval (.tmp 34) = .bool true := h.slot 2 11 34 rfl rfl
    have t34 := (ev_tmp a 34).symm.trans s34
    rw [if_pos (wanted_of (g := 11) (d := 34) (b := true) rfl rfl s34)]
    refine does_call (f := 17) (args := #[.slice a2 3 c2, .slice (some ⟨w.heap.size + 1 + 1 + 1, 0, none⟩) 3 3]) (w' := wx) (by simp [go_sem, t35, t36]) ?_
    refine Calls.mono (HSm.out wx hS) ?_
    rintro r w' ⟨rfl, hb⟩
    exact ⟨_, rfl, rfl, hS.trans (hb.mono hS.size), fun j u hj hT => HST.out _ _ (gw_below hb) _ _ hT⟩
  · intro L a wx hS h
    have s34 : a.eval (.tmp 34) = .bool true := h.slot 0 11 34 rfl rfl
    have t34 := (ev_tmp a 34).symm.trans s34
    have s37 : a.eval (.tmp 37) = .bool true := h.slot 1 14 37 rfl rfl
    have t37 := (ev_tmp a 37).symm.trans s37
    rw [if_pos (wanted_none rfl)]
    refine does_val (v := .bool true) (w' := wx) ?_ ⟨rfl, hS, fun _ _ _ h => h⟩
    simp [execOp, go_sem, t34, t37]
  · intro L a wx hS h
    have s38 : a.eval (.tmp 38) = .bool true := h.slot 0 15 38 rfl rfl
    have t38 := (ev_tmp a 38).symm.trans s38
    rw [if_pos (wanted_none rfl)]
    refine does_val (v := .bool true) (w' := wx) ?_ ⟨rfl, hS, fun _ _ _ h => h⟩
    simp [execOp, go_sem, t38]
  · intro L a wx hS h
    have s1 : a.eval (.tmp 1) = .slice (some ⟨w.heap.size + 1 + 1 + 1, 0, none⟩) 3 3 := (h.fix 1 (by kernel_rfl)).trans rfl
    have t1 := (ev_tmp a 1).symm.trans s1
    have s39 : a.eval (.tmp 39) = .bool true := h.slot 0 16 39 rfl rfl
    have t39 := (ev_tmp a 39).symm.trans s39
    rw [if_pos (wanted_of (g := 16) (d := 39) (b := true) rfl rfl s39)]
    refine does_val (v := .slice (some ⟨w.heap.size + 1 + 1 + 1, 0, none⟩) 3 3) (w' := wx) ?_ ⟨rfl, hS, fun _ _ _ h => h⟩
    simp [execOp, go_sem, t1]
  · intro L a wx hS h
    have s39 : a.eval (.tmp 39) = .bool true := h.slot 0 16 39 rfl rfl
    have t39 := (ev_tmp a 39).symm.trans s39
    rw [if_pos (wanted_of (g := 16) (d := 39) (b := true) rfl rfl s39)]
    have hb : Below wx.heap.size wx (wx.alloc (.cells #[.int .u8 97, .int .u8 98, .int .u8 100] 5)) := (Below.refl _ _).alloc (Nat.le_refl _) _
    refine does_val (v := .slice (some ⟨wx.heap.size, 0, none⟩) 3 3) (w' := wx.alloc (.cells #[.int .u8 97, .int .u8 98, .int .u8 100] 5)) ?_ ⟨⟨_, _, rfl, hS.size, World.alloc_heap_new _ _⟩, hS.trans (hb.mono hS.size), fun j u hj hT => HST.out _ _ (gw_below hb) _ _ hT⟩
    simp [execOp, go_sem]
  · intro L a wx hS h
    have s39 : a.eval (.tmp 39) = .bool true := h.slot 1 16 39 rfl rfl
    have t39 := (ev_tmp a 39).symm.trans s39
    rw [if_pos (wanted_of (g := 16) (d := 39) (b := true) rfl rfl s39)]
    obtain ⟨g, f, e41, hg, hc⟩ : Ab w2.heap.size (a.eval (.tmp 41)) wx := h.slot 0 18 41 rfl rfl
    have t41 := (ev_tmp a 41).symm.trans e41
    obtain ⟨f', hf1, hf2, hf3, hf4⟩ := freeze_any wx g #[.int .u8 97, .int .u8 98, .int .u8 100] f hc
    refine does_val (v := .slice (some ⟨g, 0, none⟩) 3 3) (w' := wx.freeze ⟨g, 3, none⟩ 1) ?_ ⟨⟨g, f', rfl, hg, hf1⟩, hS.trans (hf4.mono hg), fun j u hj hT => HST.out _ _ (gw_freeze hc hf1 hf3) _ _ hT⟩
    have hk := run_conv wx g #[.int .u8 97, .int .u8 98, .int .u8 100] f hc 3 3
    simp [execOp, go_sem, t41, hk]
  · intro L a wx hS h
    have s40 : a.eval (.tmp 40) = .slice (some ⟨w.heap.size + 1 + 1 + 1, 0, none⟩) 3 3 := h.slot 0 17 40 rfl rfl
    have t40 := (ev_tmp a 40).symm.trans s40
    have s39 : a.eval (.tmp 39) = .bool true := h.slot 2 16 39 rfl rfl
    have t39 := (ev_tmp a 39).symm.trans s39
    rw [if_pos (wanted_of (g := 16) (d := 39) (b := true) rfl rfl s39)]
    obtain ⟨g, f, e42, hg, hc⟩ : Ab w2.heap.size (a.eval (.tmp 42)) wx := h.slot 1 19 42 rfl rfl
    have t42 := (ev_tmp a 42).symm.trans e42
    refine does_call (f := 11) (args := #[.slice (some ⟨w.heap.size + 1 + 1 + 1, 0, none⟩) 3 3, .slice (some ⟨g, 0, none⟩) 3 3]) (w' := wx) (by simp [go_sem, t40, t42]) ?_
    refine Calls.mono (HSk.out wx g f hS hc) ?_
    rintro r w' ⟨rfl, hb⟩
    exact ⟨_, rfl, rfl, hS.trans (hb.mono hS.size), fun j u hj hT => HST.out _ _ (gw_below hb) _ _ hT⟩
  · intro L a wx hS h
    have s43 : a.eval (.tmp 43) = .int .i64 2 := h.slot 0 20 43 rfl rfl
    have t43 := (ev_tmp a 43).symm.trans s43
    have s39 : a.eval (.tmp 39) = .bool true := h.slot 1 16 39 rfl rfl
    have t39 := (ev_tmp a 39).symm.trans s39
    rw [if_pos (wanted_of (g := 16) (d := 39) (b := true) rfl rfl s39)]
    refine does_val (v := .bool true) (w' := wx) ?_ ⟨rfl, hS, fun _ _ _ h => h⟩
    simp [execOp, go_sem, t43]
  · intro L a wx hS h
    have s39 : a.eval (.tmp 39) = .bool true := h.slot 0 16 39 rfl rfl
    have t39 := (ev_tmp a 39).symm.trans s39
    have s44 : a.eval (.tmp 44) = .bool true := h.slot 1 21 44 rfl rfl
    have t44 := (ev_tmp a 44).symm.trans s44
    rw [if_pos (wanted_none rfl)]
    refine does_val (v := .bool true) (w' := wx) ?_ ⟨rfl, hS, fun _ _ _ h => h⟩
    simp [execOp, go_sem, t39, t44]
  · intro L a wx hS h
    have s45 : a.eval (.tmp 45) = .bool true := h.slot 0 22 45 rfl rfl
    have t45 := (ev_tmp a 45).symm.trans s45
    rw [if_pos (wanted_none rfl)]
    refine does_val (v := .bool true) (w' := wx) ?_ ⟨rfl, hS, fun _ _ _ h => h⟩
    simp [execOp, go_sem, t45]
  · intro L a wx hS h
    have s1 : a.eval (.tmp 1) = .slice (some ⟨w.heap.size + 1 + 1 + 1, 0, none⟩) 3 3 := (h.fix 1 (by kernel_rfl)).trans rfl
    have t1 := (ev_tmp a 1).symm.trans s1
    have s46 : a.eval (.tmp 46) = .bool true := h.slot 0 23 46 rfl rfl
    have t46 := (ev_tmp a 46).symm.trans s46
    rw [if_pos (wanted_of (g := 23) (d := 46) (b := true) rfl rfl s46)]
    refine does_val (v := .slice (some ⟨w.heap.size + 1 + 1 + 1, 0, none⟩) 3 3) (w' := wx) ?_ ⟨rfl, hS, fun _ _ _ h => h⟩
    simp [execOp, go_sem, t1]
  · intro L a wx hS h
    have s47 : a.eval (.tmp 47) = .slice (some ⟨w.heap.size + 1 + 1 + 1, 0, none⟩) 3 3 := h.slot 0 24 47 rfl rfl
    have t47 := (ev_tmp a 47).symm.trans s47
    have s46 : a.eval (.tmp 46) = .bool true := h.slot 1 23 46 rfl rfl
    have t46 := (ev_tmp a 46).symm.trans s46
    rw [if_pos (wanted_of (g := 23) (d := 46) (b := true) rfl rfl s46)]
    refine does_val (v := .pointer (some ⟨w.heap.size + 1 + 1 + 1, 0, none⟩)) (w' := wx) ?_ ⟨rfl, hS, fun _ _ _ h => h⟩
    simp [execOp, go_sem, t47]
  · intro L a wx hS h
    have s48 : a.eval (.tmp 48) = .pointer (some ⟨w.heap.size + 1 + 1 + 1, 0, none⟩) := h.slot 0 25 48 rfl rfl
    have t48 := (ev_tmp a 48).symm.trans s48
    have s46 : a.eval (.tmp 46) = .bool true := h.slot 1 23 46 rfl rfl
    have t46 := (ev_tmp a 46).symm.trans s46
    rw [if_pos (wanted_of (g := 23) (d := 46) (b := true) rfl rfl s46)]
    have cl := (HL.out wx hS).1
    refine does_val (v := .slice (some ⟨w.heap.size, 0, none⟩) 2 2) (w' := wx) ?_ ⟨rfl, hS, fun _ _ _ h => h⟩
    simp [execOp, go_sem, t48, cl]
  · intro L a wx hS h
    have s1 : a.eval (.tmp 1) = .slice (some ⟨w.heap.size + 1 + 1 + 1, 0, none⟩) 3 3 := (h.fix 1 (by kernel_rfl)).trans rfl
    have t1 := (ev_tmp a 1).symm.trans s1
    have s46 : a.eval (.tmp 46) = .bool true := h.slot 0 23 46 rfl rfl
    have t46 := (ev_tmp a 46).symm.trans s46
    rw [if_pos (wanted_of (g := 23) (d := 46) (b := true) rfl rfl s46)]
    refine does_val (v := .slice (some ⟨w.heap.size + 1 + 1 + 1, 0, none⟩) 3 3) (w' := wx) ?_ ⟨rfl, hS, fun _ _ _ h => h⟩
    simp [execOp, go_sem, t1]
  · intro L a wx hS h
    have s50 : a.eval (.tmp 50) = .slice (some ⟨w.heap.size + 1 + 1 + 1, 0, none⟩) 3 3 := h.slot 0 27 50 rfl rfl
    have t50 := (ev_tmp a 50).symm.trans s50
    have s46 : a.eval (.tmp 46) = .bool true := h.slot 1 23 46 rfl rfl
    have t46 := (ev_tmp a 46).symm.trans s46
    rw [if_pos (wanted_of (g := 23) (d := 46) (b := true) rfl rfl s46)]
    refine does_val (v := .pointer (some ⟨w.heap.size + 1 + 1 + 1, 1, none⟩)) (w' := wx) ?_ ⟨rfl, hS, fun _ _ _ h => h⟩
    simp [execOp, go_sem, t50]
  · intro L a wx hS h
    have s51 : a.eval (.tmp 51) = .pointer (some ⟨w.heap.size + 1 + 1 + 1, 1, none⟩) := h.slot 0 28 51 rfl rfl
    have t51 := (ev_tmp a 51).symm.trans s51
    have s46 : a.eval (.tmp 46) = .bool true := h.slot 1 23 46 rfl rfl
    have t46 := (ev_tmp a 46).symm.trans s46
    rw [if_pos (wanted_of (g := 23) (d := 46) (b := true) rfl rfl s46)]
    have cl := (HL.out wx hS).2
    refine does_val (v := .slice (some ⟨w.heap.size + 1, 0, none⟩) 3 3) (w' := wx) ?_ ⟨rfl, hS, fun _ _ _ h => h⟩
    simp [execOp, go_sem, t51, cl]
  · intro L a wx hS h
    have s49 : a.eval (.tmp 49) = .slice (some ⟨w.heap.size, 0, none⟩) 2 2 := h.slot 0 26 49 rfl rfl
    have t49 := (ev_tmp a 49).symm.trans s49
    have s52 : a.eval (.tmp 52) = .slice (some ⟨w.heap.size + 1, 0, none⟩) 3 3 := h.slot 1 29 52 rfl rfl
    have t52 := (ev_tmp a 52).symm.trans s52
    have s46 : a.eval (.tmp 46) = .bool true := h.slot 2 23 46 rfl rfl
    have t46 := (ev_tmp a 46).symm.trans s46
    rw [if_pos (wanted_of (g := 23) (d := 46) (b := true) rfl rfl s46)]
    refine does_call (f := 9) (args := #[.slice (some ⟨w.heap.size, 0, none⟩) 2 2, .slice (some ⟨w.heap.size + 1, 0, none⟩) 3 3]) (w' := wx) (by simp [go_sem, t49, t52]) ?_
    refine Calls.mono (HCm.out wx hS) ?_
    rintro r w' ⟨rfl, hb⟩
    exact ⟨_, rfl, rfl, hS.trans (hb.mono hS.size), fun j u hj hT => HST.out _ _ (gw_below hb) _ _ hT⟩
  · intro L a wx hS h
    have s53 : a.eval (.tmp 53) = .int .i64 2 := h.slot 0 30 53 rfl rfl
    have t53 := (ev_tmp a 53).symm.trans s53
    have s46 : a.eval (.tmp 46) = .bool true := h.slot 1 23 46 rfl rfl
    have t46 := (ev_tmp a 46).symm.trans s46
    rw [if_pos (wanted_of (g := 23) (d := 46) (b := true) rfl rfl s46)]
    refine does_val (v := .bool true) (w' := wx) ?_ ⟨rfl, hS, fun _ _ _ h => h⟩
    simp [execOp, go_sem, t53]
  · intro L a wx hS h
    have s46 : a.eval (.tmp 46) = .bool true := h.slot 0 23 46 rfl rfl
    have t46 := (ev_tmp a 46).symm.trans s46
    have s54 : a.eval (.tmp 54) = .bool true := h.slot 1 31 54 rfl rfl
    have t54 := (ev_tmp a 54).symm.trans s54
    rw [if_pos (wanted_none rfl)]
    refine does_val (v := .bool true) (w' := wx) ?_ ⟨rfl, hS, fun _ _ _ h => h⟩
    simp [execOp, go_sem, t46, t54]
  · intro L a wx hS h
    have s55 : a.eval (.tmp 55) = .bool true := h.slot 0 32 55 rfl rfl
    have t55 := (ev_tmp a 55).symm.trans s55
    rw [if_pos (wanted_none rfl)]
    refine does_val (v := .bool true) (w' := wx) ?_ ⟨rfl, hS, fun _ _ _ h => h⟩
    simp [execOp, go_sem, t55]
  · intro L a wx hS h
    have s1 : a.eval (.tmp 1) = .slice (some ⟨w.heap.size + 1 + 1 + 1, 0, none⟩) 3 3 := (h.fix 1 (by kernel_rfl)).trans rfl
    have t1 := (ev_tmp a 1).symm.trans s1
    have s56 : a.eval (.tmp 56) = .bool true := h.slot 0 33 56 rfl rfl
    have t56 := (ev_tmp a 56).symm.trans s56
    rw [if_pos (wanted_of (g := 33) (d := 56) (b := true) rfl rfl s56)]
    refine does_val (v := .slice (some ⟨w.heap.size + 1 + 1 + 1, 0, none⟩) 3 3) (w' := wx) ?_ ⟨rfl, hS, fun _ _ _ h => h⟩
    simp [execOp, go_sem, t1]
  · intro L a wx hS h
    have s57 : a.eval (.tmp 57) = .slice (some ⟨w.heap.size + 1 + 1 + 1, 0, none⟩) 3 3 := h.slot 0 34 57 rfl rfl
    have t57 := (ev_tmp a 57).symm.trans s57
    have s56 : a.eval (.tmp 56) = .bool true := h.slot 1 33 56 rfl rfl
    have t56 := (ev_tmp a 56).symm.trans s56
    rw [if_pos (wanted_of (g := 33) (d := 56) (b := true) rfl rfl s56)]
    refine does_call (f := 18) (args := #[.slice (some ⟨w.heap.size + 1 + 1 + 1, 0, none⟩) 3 3]) (w' := wx) (by simp [go_sem, t57]) ?_
    refine Calls.mono (HSp.out wx hS) ?_
    rintro r w' ⟨⟨a6, c6, rfl⟩, hb⟩
    exact ⟨_, rfl, ⟨a6, c6, rfl⟩, hS.trans (hb.mono hS.size), fun j u hj hT => HST.out _ _ (gw_below hb) _ _ hT⟩
  · intro L a wx hS h
    have s56 : a.eval (.tmp 56) = .bool true := h.slot 1 33 56 rfl rfl
    have t56 := (ev_tmp a 56).symm.trans s56
    rw [if_pos (wanted_of (g := 33) (d := 56) (b := true) rfl rfl s56)]
    obtain ⟨a6, c6, e58⟩ : Spl (a.eval (.tmp 58)) wx := h.slot 0 35 58 rfl rfl
    have t58 := (ev_tmp a 58).symm.trans e58
    refine does_val (v := .int .i64 1) (w' := wx) ?_ ⟨rfl, hS, fun _ _ _ h => h⟩
    simp [execOp, go_sem, t58]
  · intro L a wx hS h
    have s59 : a.eval (.tmp 59) = .int .i64 1 := h.slot 0 36 59 rfl rfl
    have t59 := (ev_tmp a 59).symm.trans s59
    have s56 : a.eval (.tmp 56) = .bool true := h.slot 1 33 56 rfl rfl
    have t56 := (ev_tmp a 56).symm.trans s56
    rw [if_pos (wanted_of (g := 33) (d := 56) (b := true) rfl rfl s56)]
    refine does_val (v := .bool true) (w' := wx) ?_ ⟨rfl, hS, fun _ _ _ h => h⟩
    simp [execOp, go_sem, t59]
  · intro L a wx hS h
    have s56 : a.eval (.tmp 56) = .bool true := h.slot 0 33 56 rfl rfl
    have t56 := (ev_tmp a 56).symm.trans s56
    have s60 : a.eval (.tmp 60) = .bool true := h.slot 1 37 60 rfl rfl
    have t60 := (ev_tmp a 60).symm.trans s60
    rw [if_pos (wanted_none rfl)]
    refine does_val (v := .bool true) (w' := wx) ?_ ⟨rfl, hS, fun _ _ _ h => h⟩
    simp [execOp, go_sem, t56, t60]
  · intro L a wx hS h
    have s61 : a.eval (.tmp 61) = .bool true := h.slot 0 38 61 rfl rfl
    have t61 := (ev_tmp a 61).symm.trans s61
    rw [if_pos (wanted_none rfl)]
    refine does_val (v := .bool true) (w' := wx) ?_ ⟨rfl, hS, fun _ _ _ h => h⟩
    simp [execOp, go_sem, t61]
  · intro L a wx hS h
    have s1 : a.eval (.tmp 1) = .slice (some ⟨w.heap.size + 1 + 1 + 1, 0, none⟩) 3 3 := (h.fix 1 (by kernel_rfl)).trans rfl
    have t1 := (ev_tmp a 1).symm.trans s1
    have s62 : a.eval (.tmp 62) = .bool true := h.slot 0 39 62 rfl rfl
    have t62 := (ev_tmp a 62).symm.trans s62
    rw [if_pos (wanted_of (g := 39) (d := 62) (b := true) rfl rfl s62)]
    refine does_val (v := .slice (some ⟨w.heap.size + 1 + 1 + 1, 0, none⟩) 3 3) (w' := wx) ?_ ⟨rfl, hS, fun _ _ _ h => h⟩
    simp [execOp, go_sem, t1]
  · intro L a wx hS h
    have s63 : a.eval (.tmp 63) = .slice (some ⟨w.heap.size + 1 + 1 + 1, 0, none⟩) 3 3 := h.slot 0 40 63 rfl rfl
    have t63 := (ev_tmp a 63).symm.trans s63
    have s62 : a.eval (.tmp 62) = .bool true := h.slot 1 39 62 rfl rfl
    have t62 := (ev_tmp a 62).symm.trans s62
    rw [if_pos (wanted_of (g := 39) (d := 62) (b := true) rfl rfl s62)]
    refine does_call (f := 16) (args := #[.slice (some ⟨w.heap.size + 1 + 1 + 1, 0, none⟩) 3 3]) (w' := wx) (by simp [go_sem, t63]) ?_
    refine Calls.mono (HCk.out wx hS) ?_
    rintro r w' ⟨rfl, hb⟩
    exact ⟨_, rfl, rfl, hS.trans (hb.mono hS.size), fun j u hj hT => HST.out _ _ (gw_below hb) _ _ hT⟩
  · intro L a wx hS h
    have s64 : a.eval (.tmp 64) = .int .i64 0 := h.slot 0 41 64 rfl rfl
    have t64 := (ev_tmp a 64).symm.trans s64
    have s62 : a.eval (.tmp 62) = .bool true := h.slot 1 39 62 rfl rfl
    have t62 := (ev_tmp a 62).symm.trans s62
    rw [if_pos (wanted_of (g := 39) (d := 62) (b := true) rfl rfl s62)]
    refine does_val (v := .bool true) (w' := wx) ?_ ⟨rfl, hS, fun _ _ _ h => h⟩
    simp [execOp, go_sem, t64]
  · intro L a wx hS h
    have s62 : a.eval (.tmp 62) = .bool true := h.slot 0 39 62 rfl rfl
    have t62 := (ev_tmp a 62).symm.trans s62
    have s65 : a.eval (.tmp 65) = .bool true := h.slot 1 42 65 rfl rfl
    have t65 := (ev_tmp a 65).symm.trans s65
    rw [if_pos (wanted_none rfl)]
    refine does_val (v := .bool true) (w' := wx) ?_ ⟨rfl, hS, fun _ _ _ h => h⟩
    simp [execOp, go_sem, t62, t65]
  · intro L a wx hS h
    have s66 : a.eval (.tmp 66) = .bool true := h.slot 0 43 66 rfl rfl
    have t66 := (ev_tmp a 66).symm.trans s66
    rw [if_pos (wanted_none rfl)]
    refine does_val (v := .bool true) (w' := wx) ?_ ⟨rfl, hS, fun _ _ _ h => h⟩
    simp [execOp, go_sem, t66]
  · intro a u L hS hall hts hd hdone hfree
    obtain ⟨x23, ex23⟩ : ∃ x, a.eval (.tmp 23) = x := ⟨_, rfl⟩
    obtain ⟨x24, ex24⟩ : ∃ x, a.eval (.tmp 24) = x := ⟨_, rfl⟩
    obtain ⟨x25, ex25⟩ : ∃ x, a.eval (.tmp 25) = x := ⟨_, rfl⟩
    obtain ⟨x26, ex26⟩ : ∃ x, a.eval (.tmp 26) = x := ⟨_, rfl⟩
    obtain ⟨x27, ex27⟩ : ∃ x, a.eval (.tmp 27) = x := ⟨_, rfl⟩
    obtain ⟨x28, ex28⟩ : ∃ x, a.eval (.tmp 28) = x := ⟨_, rfl⟩
    obtain ⟨x29, ex29⟩ : ∃ x, a.eval (.tmp 29) = x := ⟨_, rfl⟩
    obtain ⟨x30, ex30⟩ : ∃ x, a.eval (.tmp 30) = x := ⟨_, rfl⟩
    obtain ⟨x31, ex31⟩ : ∃ x, a.eval (.tmp 31) = x := ⟨_, rfl⟩
    obtain ⟨x32, ex32⟩ : ∃ x, a.eval (.tmp 32) = x := ⟨_, rfl⟩
    obtain ⟨x33, ex33⟩ : ∃ x, a.eval (.tmp 33) = x := ⟨_, rfl⟩
    obtain ⟨x34, ex34⟩ : ∃ x, a.eval (.tmp 34) = x := ⟨_, rfl⟩
    obtain ⟨x35, ex35⟩ : ∃ x, a.eval (.tmp 35) = x := ⟨_, rfl⟩
    obtain ⟨x36, ex36⟩ : ∃ x, a.eval (.tmp 36) = x := ⟨_, rfl⟩
    obtain ⟨x37, ex37⟩ : ∃ x, a.eval (.tmp 37) = x := ⟨_, rfl⟩
    obtain ⟨x38, ex38⟩ : ∃ x, a.eval (.tmp 38) = x := ⟨_, rfl⟩
    obtain ⟨x39, ex39⟩ : ∃ x, a.eval (.tmp 39) = x := ⟨_, rfl⟩
    obtain ⟨x40, ex40⟩ : ∃ x, a.eval (.tmp 40) = x := ⟨_, rfl⟩
    obtain ⟨x41, ex41⟩ : ∃ x, a.eval (.tmp 41) = x := ⟨_, rfl⟩
    obtain ⟨x42, ex42⟩ : ∃ x, a.eval (.tmp 42) = x := ⟨_, rfl⟩
    obtain ⟨x43, ex43⟩ : ∃ x, a.eval (.tmp 43) = x := ⟨_, rfl⟩
    obtain ⟨x44, ex44⟩ : ∃ x, a.eval (.tmp 44) = x := ⟨_, rfl⟩
    obtain ⟨x45, ex45⟩ : ∃ x, a.eval (.tmp 45) = x := ⟨_, rfl⟩
    obtain ⟨x46, ex46⟩ : ∃ x, a.eval (.tmp 46) = x := ⟨_, rfl⟩
    obtain ⟨x47, ex47⟩ : ∃ x, a.eval (.tmp 47) = x := ⟨_, rfl⟩
    obtain ⟨x48, ex48⟩ : ∃ x, a.eval (.tmp 48) = x := ⟨_, rfl⟩
    obtain ⟨x49, ex49⟩ : ∃ x, a.eval (.tmp 49) = x := ⟨_, rfl⟩
    obtain ⟨x50, ex50⟩ : ∃ x, a.eval (.tmp 50) = x := ⟨_, rfl⟩
    obtain ⟨x51, ex51⟩ : ∃ x, a.eval (.tmp 51) = x := ⟨_, rfl⟩
    obtain ⟨x52, ex52⟩ : ∃ x, a.eval (.tmp 52) = x := ⟨_, rfl⟩
    obtain ⟨x53, ex53⟩ : ∃ x, a.eval (.tmp 53) = x := ⟨_, rfl⟩
    obtain ⟨x54, ex54⟩ : ∃ x, a.eval (.tmp 54) = x := ⟨_, rfl⟩
    obtain ⟨x55, ex55⟩ : ∃ x, a.eval (.tmp 55) = x := ⟨_, rfl⟩
    obtain ⟨x56, ex56⟩ : ∃ x, a.eval (.tmp 56) = x := ⟨_, rfl⟩
    obtain ⟨x57, ex57⟩ : ∃ x, a.eval (.tmp 57) = x := ⟨_, rfl⟩
    obtain ⟨x58, ex58⟩ : ∃ x, a.eval (.tmp 58) = x := ⟨_, rfl⟩
    obtain ⟨x59, ex59⟩ : ∃ x, a.eval (.tmp 59) = x := ⟨_, rfl⟩
    obtain ⟨x60, ex60⟩ : ∃ x, a.eval (.tmp 60) = x := ⟨_, rfl⟩
    obtain ⟨x61, ex61⟩ : ∃ x, a.eval (.tmp 61) = x := ⟨_, rfl⟩
    obtain ⟨x62, ex62⟩ : ∃ x, a.eval (.tmp 62) = x := ⟨_, rfl⟩
    obtain ⟨x63, ex63⟩ : ∃ x, a.eval (.tmp 63) = x := ⟨_, rfl⟩
    obtain ⟨x64, ex64⟩ : ∃ x, a.eval (.tmp 64) = x := ⟨_, rfl⟩
    obtain ⟨x65, ex65⟩ : ∃ x, a.eval (.tmp 65) = x := ⟨_, rfl⟩
    obtain ⟨x66, ex66⟩ : ∃ x, a.eval (.tmp 66) = x := ⟨_, rfl⟩
    obtain ⟨x0, ex0⟩ : ∃ x, a.eval (.tmp 0) = x := ⟨_, rfl⟩
    have h0 : a.eval (.tmp 0) = .bool true := by
      obtain ⟨v, hv, hT⟩ := hdone 44 _ rfl
      exact (hv 0 rfl).trans hT
    have hact := act_puts hts hd hfree
    simp only [putAll, List.foldl_cons, List.foldl_nil, ex23, ex24, ex25, ex26, ex27, ex28, ex29, ex30, ex31, ex32, ex33, ex34, ex35, ex36, ex37, ex38, ex39, ex40, ex41, ex42, ex43, ex44, ex45, ex46, ex47, ex48, ex49, ex50, ex51, ex52, ex53, ex54, ex55, ex56, ex57, ex58, ex59, ex60, ex61, ex62, ex63, ex64, ex65, ex66, ex0, Act.put] at hact
    simp at hact
    rw [ex0] at h0
    clear ex23 ex24 ex25 ex26 ex27 ex28 ex29 ex30 ex31 ex32 ex33 ex34 ex35 ex36 ex37 ex38 ex39 ex40 ex41 ex42 ex43 ex44 ex45 ex46 ex47 ex48 ex49 ex50 ex51 ex52 ex53 ex54 ex55 ex56 ex57 ex58 ex59 ex60 ex61 ex62 ex63 ex64 ex65 ex66 ex0 hts hd hdone hfree hall
    subst hact h0
    go_wp2_with fail
    go_ret
    exact ⟨rfl, HB.out.trans (hS.mono HB.out.size)⟩
end Go.Proofs.Ytnajpppncilijaa
