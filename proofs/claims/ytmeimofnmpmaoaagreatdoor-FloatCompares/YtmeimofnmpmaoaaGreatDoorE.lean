/- The contract of fmtEFG's form e, at digits that are there and just as many as are asked for. Conditions: the text's row is the call's own. -/
import Derived.Test.YtmeimofnmpmaoaaGreatDoorX
import Derived.Maps.AppendAt
import Derived.OwnWalk
namespace Go.Proofs.YtmeimofnmpmaoaaGreatDoor
open Go.RowKit Go.Shelf

abbrev u8s (l : List Int) : List Value := l.map (Value.int .u8)
theorem Tryz.info5 : (Tryz.prog.info? 5).map (fun i => (i.zero, i.size, i.bytes)) = some (some (.int .u8 0), 1, 1) := by kernel_rfl

/-- A row of the call's own, and another block beside it. -/
structure Two (base : Nat) (w0 W : World) (v : Value) (xs : List Int) (Bf : Nat) (ds : List Int) : Prop where
  own : W.ownsRow base 5 1 v xs.length (u8s xs)
  buf : ∀ i c, ds[i]? = some c → W.cell? ⟨Bf, i, none⟩ = some (.int .u8 c)
  ne : v.ownBlock ≠ some Bf
  lt : Bf < W.heap.size
  bel : Below base w0 W
  le : base ≤ W.heap.size

theorem Two.alloc {base : Nat} {w0 W : World} {v : Value} {xs : List Int} {Bf : Nat} {ds : List Int} (h : Two base w0 W v xs Bf ds) (o : Obj) : Two base w0 (W.alloc o) v xs Bf ds :=
  ⟨h.own.alloc _, fun i c hc => (World.cell?_alloc_past _ _ _ h.lt).trans (h.buf i c hc), h.ne, by simp; have := h.lt; omega, h.bel.alloc h.le _, by simp; have := h.le; omega⟩

theorem Two.step {base : Nat} {w0 W W' : World} {v v' : Value} {xs ys : List Int} {Bf : Nat} {ds : List Int} (h : Two base w0 W v xs Bf ds) (ho : W'.ownsRow base 5 1 v' (xs.length + ys.length) (u8s xs ++ u8s ys)) (hg : W.grownBy W' v.ownBlock) (hl : v'.ownBlock = v.ownBlock ∨ v'.ownBlock = some W.heap.size) : Two base w0 W' v' (xs ++ ys) Bf ds := by
  refine ⟨by rw [List.length_append, u8s, List.map_append]; exact ho, fun i c hc => ?_, ?_, ?_, h.bel.grown hg h.le (fun j hj => (h.own.lt j hj).1), ?_⟩
  · rw [World.cell?_of_block (w := W) (hg.block Bf h.lt (fun e => h.ne e.symm))]; exact h.buf i c hc
  · rcases hl with e | e
    · rw [e]; exact h.ne
    · rw [e]; intro hh; injection hh with hh; have := h.lt; omega
  · exact Nat.lt_of_lt_of_le h.lt hg.size
  · exact Nat.le_trans h.le hg.size

theorem one_at (w : World) (x : Value) (t : TypeId) : ∀ j u, [x][j]? = some u → (w.alloc (.cells #[x] t)).cell? ((⟨w.heap.size, 0, none⟩ : Addr).add j) = some u := by
  intro j u hj
  match j, hj with
  | 0, hj => simp at hj; subst hj; simp [Addr.add]
theorem two_at (w : World) (x y : Value) (t : TypeId) : ∀ j u, [x, y][j]? = some u → (w.alloc (.cells #[x, y] t)).cell? ((⟨w.heap.size, 0, none⟩ : Addr).add j) = some u := by
  intro j u hj
  match j, hj with
  | 0, hj => simp at hj; subst hj; simp [Addr.add]
  | 1, hj => simp at hj; subst hj; simp [Addr.add]
theorem one_u8 (l : List Int) : ∀ u ∈ u8s l, u.oneCell' = true := by
  intro u hu; simp at hu; obtain ⟨a, _, rfl⟩ := hu; rfl

set_option maxRecDepth 20000 in
set_option maxHeartbeats 4000000 in
theorem efg_pos (base : Nat) (w0 w : World) (v : Value) (Bf : Nat) (d0 : Int) (ds : List Int) (dp ex sgc : Int) (nd : Nat) (h : Two base w0 w v [] Bf (d0 :: ds)) (hnd : Hid (nd = ds.length + 1)) (nd1 : 2 ≤ nd) (nd2 : nd ≤ 32)
    (hdp : (dp - 1 < 0 ∧ sgc = 45 ∧ ex = -(dp - 1)) ∨ (¬ dp - 1 < 0 ∧ sgc = 43 ∧ ex = dp - 1)) (ex0 : 0 ≤ ex) (ex1 : ex < 10) (dp1 : -8 ≤ dp) :
    Calls Tryz.prog 64 #[v, .bool false, .slice (some ⟨Bf, 0, none⟩) 32 32, .int .i64 dp, .int .i64 (nd : Int), .int .i64 ((nd : Int) - 1), .int .u8 101, .bool true] w fun e w' => ∃ v', e = .returned v' ∧ Two base w0 w' v' ([d0, 46] ++ ds ++ [101, sgc, 48, ex + 48]) Bf (d0 :: ds) := by
  obtain ⟨i0, hi, hz0, hz1, hz2⟩ := info_parts Tryz.info5
  have hd0 := h.buf 0 d0 rfl
  have n0 : ¬ (nd : Int) = 0 := by omega
  have n1 : (nd : Int) - 1 > 0 := by omega
  have n2 : min (nd : Int) ((nd : Int) - 1 + 1) = (nd : Int) := by omega
  have n3 : (1 : Int) < (nd : Int) := by omega
  have hbuf : ∀ (W : World), (∀ i c, (d0 :: ds)[i]? = some c → W.cell? ⟨Bf, i, none⟩ = some (.int .u8 c)) → ∀ j u, (u8s ds)[j]? = some u → W.cell? ((⟨Bf, 1, none⟩ : Addr).add j) = some u := fun W hb j u hj => by
    simp [u8s] at hj
    obtain ⟨c, hc, rfl⟩ := hj
    have := hb (j + 1) c (by simpa using hc)
    by_cases hj0 : j = 0
    · subst hj0; simpa [Addr.add] using this
    · simp only [Addr.add, hj0, if_false]; rw [Nat.add_comm 1 j]; exact this
  go_enter Tryz.func64, Tryz.ntmps64
  go_wp2_with (first
    | (at_builtin; refine wpList_append_own_at _ rfl (.tmp 103) (.tmp 107) 67 rfl base 5 i0 (.int .u8 0) 1 1 Tryz.underlying67 hi hz0 hz1 hz2 rfl (by decide) _ _ _ rfl h2.own ⟨Bf, 1, none⟩ (nd - 1) 31 (u8s ds) rfl (by have := hnd.out; simp; omega) (hbuf _ h2.buf) (one_u8 _) (by have := hnd.out; simp [maxLen] <;> omega) (by have := hnd.out; simp <;> omega) h2.le ?_; intro v3 w3 o3 g3 _ l3; have h3 := h2.step (ys := ds) (by have e : nd - 1 = ds.length := (by have := hnd.out; omega); rw [e] at o3; exact o3) g3 l3; clear o3 g3 l3)
    | (at_builtin; refine wpList_append_own_at _ rfl (.tmp 93) (.tmp 94) 67 rfl base 5 i0 (.int .u8 0) 1 1 Tryz.underlying67 hi hz0 hz1 hz2 rfl (by decide) _ _ _ rfl (h1.alloc _).own ⟨w1.heap.size, 0, none⟩ 1 1 (u8s [46]) rfl rfl (one_at w1 _ _) (one_u8 _) (by have := hnd.out; simp [maxLen] <;> omega) (by have := hnd.out; simp <;> omega) (by have := h1.le; simp; omega) ?_; intro v2 w2 o2 g2 _ l2; have h2 := (h1.alloc _).step (ys := [46]) o2 g2 l2; clear o2 g2 l2)
    | (at_builtin; refine wpList_append_own_at _ rfl (.tmp 87) (.tmp 89) 67 rfl base 5 i0 (.int .u8 0) 1 1 Tryz.underlying67 hi hz0 hz1 hz2 rfl (by decide) _ _ _ rfl (h.alloc _).own ⟨w.heap.size, 0, none⟩ 1 1 (u8s [d0]) rfl rfl (one_at w _ _) (one_u8 _) (by have := hnd.out; simp [maxLen] <;> omega) (by have := hnd.out; simp <;> omega) (by have := h.le; simp; omega) ?_; intro v1 w1 o1 g1 _ l1; have h1 := (h.alloc _).step (ys := [d0]) o1 g1 l1; clear o1 g1 l1))
  go_loop [0, 114] (fun d a => d = v3 ∧ a = .int .i64 0) (fun _ _ => 0)
  case atStart => exact ⟨rfl, rfl⟩
  case round =>
    obtain ⟨rfl, rfl⟩ := hrel
    have n4 : ¬ (0 : Int) < (nd : Int) - 1 + 1 - (nd : Int) := by omega
    have n5 : (nd : Int) - 1 + 1 - (nd : Int) = 0 := by omega
    have x1 : IntKind.u8.wrap ex = ex := by rw [IntKind.wrap_u8]; omega
    have x2 : IntKind.u8.wrap (ex + 48) = ex + 48 := by rw [IntKind.wrap_u8]; omega
    rcases hdp with ⟨hdp, hsgc, hex⟩ | ⟨hdp, hsgc, hex⟩
    · subst hsgc
      replace hex := hex.symm
      go_wp2_with (first
        | (at_builtin; refine wpList_append_own_at _ rfl (.tmp 155) (.tmp 159) 67 rfl base 5 i0 (.int .u8 0) 1 1 Tryz.underlying67 hi hz0 hz1 hz2 rfl (by decide) _ _ _ rfl (h5.alloc _).own ⟨w5.heap.size, 0, none⟩ 2 2 (u8s [48, ex + 48]) rfl rfl (two_at w5 _ _ _) (one_u8 _) (by have := hnd.out; simp [maxLen] <;> omega) (by have := hnd.out; simp <;> omega) (by have := h5.le; simp; omega) ?_; intro v6 w6 o6 g6 _ l6; have h6 := (h5.alloc _).step (ys := [48, ex + 48]) o6 g6 l6; clear o6 g6 l6)
        | (at_builtin; refine wpList_append_own_at _ rfl (.tmp 132) (.tmp 134) 67 rfl base 5 i0 (.int .u8 0) 1 1 Tryz.underlying67 hi hz0 hz1 hz2 rfl (by decide) _ _ _ rfl (h4.alloc _).own ⟨w4.heap.size, 0, none⟩ 1 1 (u8s [45]) rfl rfl (one_at w4 _ _) (one_u8 _) (by have := hnd.out; simp [maxLen] <;> omega) (by have := hnd.out; simp <;> omega) (by have := h4.le; simp; omega) ?_; intro v5 w5 o5 g5 _ l5; have h5 := (h4.alloc _).step (ys := [45]) o5 g5 l5; clear o5 g5 l5)
        | (at_builtin; refine wpList_append_own_at _ rfl (.tmp 120) (.tmp 122) 67 rfl base 5 i0 (.int .u8 0) 1 1 Tryz.underlying67 hi hz0 hz1 hz2 rfl (by decide) _ _ _ rfl (h3.alloc _).own ⟨w3.heap.size, 0, none⟩ 1 1 (u8s [101]) rfl rfl (one_at w3 _ _) (one_u8 _) (by have := hnd.out; simp [maxLen] <;> omega) (by have := hnd.out; simp <;> omega) (by have := h3.le; simp; omega) ?_; intro v4 w4 o4 g4 _ l4; have h4 := (h3.alloc _).step (ys := [101]) o4 g4 l4; clear o4 g4 l4))
      go_returns
      refine ⟨_, rfl, ?_⟩
      simpa using h6
    · subst hsgc
      replace hex := hex.symm
      go_wp2_with (first
        | (at_builtin; refine wpList_append_own_at _ rfl (.tmp 155) (.tmp 159) 67 rfl base 5 i0 (.int .u8 0) 1 1 Tryz.underlying67 hi hz0 hz1 hz2 rfl (by decide) _ _ _ rfl (h5.alloc _).own ⟨w5.heap.size, 0, none⟩ 2 2 (u8s [48, ex + 48]) rfl rfl (two_at w5 _ _ _) (one_u8 _) (by have := hnd.out; simp [maxLen] <;> omega) (by have := hnd.out; simp <;> omega) (by have := h5.le; simp; omega) ?_; intro v6 w6 o6 g6 _ l6; have h6 := (h5.alloc _).step (ys := [48, ex + 48]) o6 g6 l6; clear o6 g6 l6)
        | (at_builtin; refine wpList_append_own_at _ rfl (.tmp 132) (.tmp 134) 67 rfl base 5 i0 (.int .u8 0) 1 1 Tryz.underlying67 hi hz0 hz1 hz2 rfl (by decide) _ _ _ rfl (h4.alloc _).own ⟨w4.heap.size, 0, none⟩ 1 1 (u8s [43]) rfl rfl (one_at w4 _ _) (one_u8 _) (by have := hnd.out; simp [maxLen] <;> omega) (by have := hnd.out; simp <;> omega) (by have := h4.le; simp; omega) ?_; intro v5 w5 o5 g5 _ l5; have h5 := (h4.alloc _).step (ys := [43]) o5 g5 l5; clear o5 g5 l5)
        | (at_builtin; refine wpList_append_own_at _ rfl (.tmp 120) (.tmp 122) 67 rfl base 5 i0 (.int .u8 0) 1 1 Tryz.underlying67 hi hz0 hz1 hz2 rfl (by decide) _ _ _ rfl (h3.alloc _).own ⟨w3.heap.size, 0, none⟩ 1 1 (u8s [101]) rfl rfl (one_at w3 _ _) (one_u8 _) (by have := hnd.out; simp [maxLen] <;> omega) (by have := hnd.out; simp <;> omega) (by have := h3.le; simp; omega) ?_; intro v4 w4 o4 g4 _ l4; have h4 := (h3.alloc _).step (ys := [101]) o4 g4 l4; clear o4 g4 l4))
      go_returns
      refine ⟨_, rfl, ?_⟩
      simpa using h6
end Go.Proofs.YtmeimofnmpmaoaaGreatDoor
