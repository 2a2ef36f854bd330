/- The contract of bytes.Clone, and of Items. Conditions: how the rows lie; sizes. -/
import Derived.Test.YtkojbpifcflgfaaOb
import Derived.Test.YtkojbpifcflgfaaVa
import Derived.Lib.SliceRun
namespace Go.Proofs.Ytkojbpifcflgfaa
open Go.RowKit Go.Shelf

set_option maxRecDepth 100000 in
set_option maxHeartbeats 1600000 in
theorem cloneB_any (a : Option Addr) (len cap : Nat) (zs : List Int) (w : World) (hI : IsI .u8 w a len cap zs) (hlen : len ≤ 100000000) :
    Calls Try.prog 26 #[.slice a len cap] w fun e w' => ∃ v', e = .returned v' ∧ w'.ownsRow w.heap.size 5 1 v' len (zs.map (Value.int .u8)) ∧ Below w.heap.size w w' := by
  obtain ⟨i0, hi, hz0, hz1, hz2⟩ := info_parts Try.info5
  have HI : Hid (IsI .u8 w a len cap zs) := hI
  clear hI
  cases a with
  | none =>
    obtain ⟨rfl, rfl⟩ := HI.out.none rfl
    have hnil : ∀ W, (binOp .eql 41 (.slice none 0 0) (.slice none 0 0)).run Try.prog W = .ok (.bool true) W := fun W => run_eql_nil_slice W _ _ none 0 0 0 0 Try.underlying41
    go_enter Try.func26, Try.ntmps26
    go_wp2
    go_ret
    refine ⟨_, rfl, ?_, Below.refl _ _⟩
    have : zs = [] := List.eq_nil_of_length_eq_zero HI.out.hl
    subst this
    exact World.ownsRow_nil _ _ _ _
  | some ad =>
    have hnil : ∀ W, (binOp .eql 41 (.slice (some ad) len cap) (.slice none 0 0)).run Try.prog W = .ok (.bool false) W := fun W => Lib.run_eql_slice_nil W 41 5 (some ad) len cap 0 0 Try.underlying41
    have hl : (zs.map (Value.int .u8)).length = len * 1 := by simp [HI.out.hl]
    have h1 : ∀ u ∈ zs.map (Value.int .u8), u.oneCell' = true := by
      intro u hu
      obtain ⟨x, _, rfl⟩ := List.mem_map.1 hu
      rfl
    have hrd : ∀ j u, (zs.map (Value.int .u8))[j]? = some u → (w.alloc (.cells #[] 5)).cell? (ad.add j) = some u := rd_any (HI.out.rd.below ((Below.refl _ _).alloc (Nat.le_refl _) _)) ad rfl
    generalize zs.map (Value.int .u8) = L at *
    have hm : 0 + len ≤ maxLen := by unfold maxLen; omega
    have hb : (0 + len) * 1 ≤ 140737488355328 := by omega
    have HB : Hid (∀ w', (w.alloc (.cells #[] 5)).grownBy w' (some w.heap.size) → Below w.heap.size w w') := fun w' hg => ⟨hg.os, hg.tape, hg.output, by have := hg.size; simp at this; omega, fun j hj => (hg.block j (by simp; omega) (by simp; omega)).trans (Below.heap_alloc _ _ _ (by omega))⟩
    go_enter Try.func26, Try.ntmps26
    go_wp2_with (refine wpList_append_own _ rfl (.tmp 5) (.tmp 6) 41 rfl w.heap.size 5 i0 _ 1 1 Try.underlying41 hi hz0 hz1 hz2 rfl (by decide) (.slice (some ⟨w.heap.size, 0, none⟩) 0 0) 0 [] rfl (World.ownsRow_made w #[] 0 (Nat.le_refl _) (by decide) rfl) ad len cap L rfl hl hrd h1 hm hb (by simp) ?_; intro v w1 ho hg _)
    go_ret
    rw [Nat.zero_add] at ho
    exact ⟨v, rfl, by simpa using ho, HB.out w1 hg⟩

/-- The operation 'append' runs so. -/
theorem exec_append {P : Program} {o : Oper} {ρ : Operand → Value} {w w' : World} {s x : Operand} {t : TypeId} {v u r : Value}
    (ho : o.op = .call { callee := .builtin .append, args := #[s, x], argTypes := #[t, t] }) (hs : ρ s = v) (hx : ρ x = u) (hr : (Builtin.append_ #[t, t] o.type #[v, u]).run P w = .ok r w') : (execOp ρ o).run P w = .ok (.value r) w' := by
  unfold execOp
  simp only [ho, resolve, invoke, builtin, Sem.run_bind, Sem.run_pure, Result.andThen_ok, List.map_toArray, List.map_cons, List.map_nil, hs, hx, hr]

theorem Try.info41' : (Try.prog.info? 41).map (fun i => (i.zero, i.size, i.bytes)) = some (some (.slice none 0 0), 1, 24) := by kernel_rfl

/-- A row of bytes of the call's own. -/
def OwnB (D : Nat) (W : World) (x : Value) (l : List Int) : Prop := W.ownsRow D 5 1 x l.length (l.map (Value.int .u8))
def OwnBs (D : Nat) (W : World) : List Value → List (List Int) → Prop
  | [], [] => True
  | x :: xs, l :: ls => OwnB D W x l ∧ OwnBs D W xs ls
  | _, _ => False
theorem OwnBs.snoc {D : Nat} {W : World} {x : Value} {l : List Int} (h : OwnB D W x l) : ∀ {xs : List Value} {ls : List (List Int)}, OwnBs D W xs ls → OwnBs D W (xs ++ [x]) (ls ++ [l])
  | [], [], _ => ⟨h, trivial⟩
  | _ :: _, _ :: _, h2 => ⟨h2.1, OwnBs.snoc h h2.2⟩
theorem OwnBs.imp {D D' : Nat} {W W' : World} (h : ∀ x l, OwnB D W x l → OwnB D' W' x l) : ∀ {xs : List Value} {ls : List (List Int)}, OwnBs D W xs ls → OwnBs D' W' xs ls
  | [], [], _ => trivial
  | _ :: _, _ :: _, h2 => ⟨h _ _ h2.1, h2.2.imp h⟩
/-- All stays but the variable's block and the row's own. -/
structure Kr (B : Nat) (rb : Option Nat) (W W' : World) : Prop where
  os : W'.os = W.os
  tape : W'.tape = W.tape
  output : W'.output = W.output
  size : W.heap.size ≤ W'.heap.size
  block : ∀ j, j < W.heap.size → j ≠ B → rb ≠ some j → W'.heap[j]? = W.heap[j]?
theorem Kr.below {B : Nat} {rb : Option Nat} {W X Y : World} (h : Kr B rb W X) (hb : Below X.heap.size X Y) : Kr B rb W Y :=
  ⟨hb.os.trans h.os, hb.tape.trans h.tape, hb.output.trans h.output, Nat.le_trans h.size hb.size, fun j hj h1 h2 => (hb.block j (Nat.lt_of_lt_of_le hj h.size)).trans (h.block j hj h1 h2)⟩
theorem ownB_tag {D : Nat} {W W' : World} {x : Value} {l : List Int} (h : OwnB D W x l) (hk : ∀ g cur, D ≤ g → W.heap[g]? = some (.cells cur 5 (0, 0)) → W'.heap[g]? = W.heap[g]?) : OwnB D W' x l := by
  refine ⟨h.1, ?_⟩
  rcases h.2 with h1 | ⟨g, cap, cur, e1, e2, e3, e4⟩
  · exact .inl h1
  · exact .inr ⟨g, cap, cur, e1, e2, (hk g cur e2 e3).trans e3, e4⟩
end Go.Proofs.Ytkojbpifcflgfaa
