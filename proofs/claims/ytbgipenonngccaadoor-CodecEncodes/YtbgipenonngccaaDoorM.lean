/- The contract of numbers, the iterator over the numbers of a row of bytes: it tells each in turn, and the error of the first bytes that are none. Conditions: what the bytes are; at most 5000 numbers. -/
import Derived.Test.YtbgipenonngccaaDoorI
import Derived.RangeFuncNested
import Derived.RangeFuncBound
import Derived.RangeFuncCalls
import Derived.RangeFuncLeaves
import Derived.Shelf.Abstract
import Derived.Shelf.RegionOpen
import Derived.OwnWalkIn
import Derived.TacticsInMore
import Derived.LoopNIn
import Derived.LoopIn
namespace Go.Proofs.YtbgipenonngccaaDoor
open Go.RowKit Go.Shelf
attribute [local go_sem] Oper.semAt_some

/-- A number that is told: the number, the place behind it, the error. -/
structure Told where
  u : Nat
  hu : u < 18446744073709551616
  en : Int
  er : Int
def encT (t : Told) : Array Value := #[.agg #[.int .u64 (t.u : Int), .int .i64 t.en, .int .i64 t.er]]

theorem numbers_any (a : Option Addr) (len cap : Nat) (n : Int) (w : World) :
    Calls Tryd.prog 41 #[.slice a len cap, .int .i64 n] w fun e w' => e = .returned (.func (.func 45) #[] #[.pointer (some ⟨w.heap.size + 1, 0, none⟩), .pointer (some ⟨w.heap.size, 0, none⟩)]) ∧
      w' = (w.alloc (.cells #[.slice a len cap] 24)).alloc (.cells #[.int .i64 n] 3) := by
  go_enter Tryd.func41, Tryd.ntmps41
  go_wp2
  go_ret
  exact ⟨rfl, rfl⟩

/-- The blocks that the iterator looks at stay as they are. -/
def Kq (n₀ Bb Bn : Nat) (W W' : World) : Prop := ∀ k, (k < n₀ ∨ k = Bb ∨ k = Bn) → W'.heap[k]? = W.heap[k]?
theorem Kq.refl (n₀ Bb Bn : Nat) (W : World) : Kq n₀ Bb Bn W W := fun _ _ => rfl
theorem Kq.trans {n₀ Bb Bn : Nat} {A B C : World} (h : Kq n₀ Bb Bn A B) (k : Kq n₀ Bb Bn B C) : Kq n₀ Bb Bn A C := fun i hi => (k i hi).trans (h i hi)
theorem Kq.cell {n₀ Bb Bn : Nat} {A B : World} (h : Kq n₀ Bb Bn A B) {p : Addr} (hp : p.block < n₀ ∨ p.block = Bb ∨ p.block = Bn) : B.cell? p = A.cell? p := World.cell?_of_block (w := A) (h p.block hp)

/-- Where number k begins. -/
def En (ls : List Int) (k : Nat) : Nat := (zbs (ls.take k)).length
theorem En_zero (ls : List Int) : En ls 0 = 0 := by simp [En, zbs]
theorem En_succ (ls : List Int) (k : Nat) (hk : k < ls.length) : En ls (k + 1) = En ls k + (zb (ls.getD k 0)).length := by
  unfold En; rw [zbs_take_succ ls k hk, List.length_append]
theorem drop_at (ls rest : List Int) (k : Nat) : (zbs ls ++ rest).drop (En ls k) = zbs (ls.drop k) ++ rest := by
  have e : zbs ls = zbs (ls.take k) ++ zbs (ls.drop k) := by rw [← zbs_append, List.take_append_drop]
  unfold En
  rw [e, List.append_assoc, List.drop_left]
theorem drop_num (ls rest : List Int) (k : Nat) (hk : k < ls.length) : (zbs ls ++ rest).drop (En ls k) = zb (ls.getD k 0) ++ (zbs (ls.drop (k + 1)) ++ rest) := by
  rw [drop_at, List.drop_eq_getElem_cons hk]
  simp [zbs, List.getD, hk]
theorem cells_drop {w : World} {g off m : Nat} {zs : List Int} (hc : ∀ i, i < zs.length → w.cell? ⟨g, off + i, none⟩ = some (.int .u8 (zs.getD i 0))) :
    ∀ i, i < (zs.drop m).length → w.cell? ⟨g, off + m + i, none⟩ = some (.int .u8 ((zs.drop m).getD i 0)) := by
  intro i hi
  simp only [List.length_drop] at hi
  rw [Nat.add_assoc, hc (m + i) (by omega)]
  simp [List.getD]

/-- What is told of numbers. -/
def toldAt (ls : List Int) (h : All64 ls) (k : Nat) : Told :=
  ⟨(zz (ls.getD k 0)).toNat, by have := zz_bd (h k).1 (h k).2; omega, (En ls (k + 1) : Int), 0⟩
def tolds (ls : List Int) (h : All64 ls) (k : Nat) : List Told := (List.range k).map (toldAt ls h)
theorem tolds_succ (ls : List Int) (h : All64 ls) (k : Nat) : tolds ls h (k + 1) = tolds ls h k ++ [toldAt ls h k] := by
  simp [tolds, List.range_succ]
/-- The beginning of a number. -/
def Sh (zs : List Int) : Prop := zs.length ≤ 9 ∧ ∀ i, i < zs.length → 128 ≤ zs.getD i 0
theorem sh_nil : Sh [] := ⟨by decide, fun i hi => by simp at hi⟩
def short : Told := ⟨0, by decide, 0, 10⟩

set_option maxRecDepth 100000 in
set_option maxHeartbeats 2000000 in
theorem nums_in (n l Bn Bb n₀ g off cap : Nat) (ls rest : List Int) (h64 : All64 ls) (hls : ls.length ≤ 5000) (J Jx : List Told → World → Prop) (N : Nat) (T : List Told)
    (hN : (N = ls.length ∧ T = tolds ls h64 ls.length) ∨ (N = ls.length + 1 ∧ Sh rest ∧ T = tolds ls h64 ls.length ++ [short]))
    (hY : ∀ pre x W1, J pre W1 → pre.length < T.length → YieldAt Fence.wide (n - 1) Tryd.prog l (encT x) W1 fun e W' =>
      (e = .returned (.bool true) ∧ J (pre ++ [x]) W' ∧ Kq n₀ Bb Bn W1 W') ∨ (e = .returned (.bool false) ∧ Jx (pre ++ [x]) W'))
    (W : World) (hg : g < n₀) (hcap : (zbs ls ++ rest).length ≤ cap) (hlb : (zbs ls ++ rest).length ≤ 140737480000000)
    (hBb : W.cell? ⟨Bb, 0, none⟩ = some (.slice (some ⟨g, off, none⟩) (zbs ls ++ rest).length cap)) (hBn : W.cell? ⟨Bn, 0, none⟩ = some (.int .i64 (N : Int)))
    (hc : ∀ i, i < (zbs ls ++ rest).length → W.cell? ⟨g, off + i, none⟩ = some (.int .u8 ((zbs ls ++ rest).getD i 0))) (h0 : J [] W) :
    CallsIn Fence.wide n Tryd.prog 45 #[.func (.yield l) #[] #[], .pointer (some ⟨Bn, 0, none⟩), .pointer (some ⟨Bb, 0, none⟩)] W fun e W' => (∃ v, e = .returned v) ∧
      ((∃ ys, ys = T ∧ J ys W') ∨ (∃ pre, pre <+: T ∧ Jx pre W')) := by
  obtain ⟨len, hlen⟩ : ∃ len, len = (zbs ls ++ rest).length := ⟨_, rfl⟩
  rw [← hlen] at hcap hBb
  have HC : Hid ((∀ i, i < (zbs ls ++ rest).length → W.cell? ⟨g, off + i, none⟩ = some (.int .u8 ((zbs ls ++ rest).getD i 0))) ∧ len = (zbs ls ++ rest).length) := ⟨hc, hlen⟩
  rw [← hlen] at hlb
  clear hc hlen
  have HN : Hid ((N = ls.length ∧ T = tolds ls h64 ls.length) ∨ (N = ls.length + 1 ∧ Sh rest ∧ T = tolds ls h64 ls.length ++ [short])) := hN
  have HY := (show Hid _ from hY)
  have hNN : N ≤ 5001 := by rcases hN with h | h <;> omega
  clear hN hY
  refine callsIn_of_wp Tryd.func45 rfl trivial ?_ rfl
  simp only [Tryd.ntmps45, List.size_toArray, List.length_cons, List.length_nil, Nat.reduceAdd, Nat.reduceSub, Array.replicate_succ, Array.replicate_zero, List.push_toArray, List.append_toArray, List.nil_append, List.cons_append]
  gi_wp2
  gi_loopw [4, 9] (fun p i wr => ∃ k : Nat, p = .int .i64 (En ls k : Int) ∧ i = .int .i64 (k : Int) ∧ k ≤ ls.length ∧ J (tolds ls h64 k) wr ∧ Kq n₀ Bb Bn W wr) (fun _ i _ => N - (intOf i).toNat)
  case atStart => exact ⟨0, by rw [En_zero]; rfl, rfl, Nat.zero_le _, h0, Kq.refl _ _ _ _⟩
  case round =>
    obtain ⟨k, rfl, rfl, hk, hJ, hq⟩ := hrel
    have hbb : wr.cell? ⟨Bb, 0, none⟩ = some (.slice (some ⟨g, off, none⟩) len cap) := (hq.cell (p := ⟨Bb, 0, none⟩) (.inr (.inl rfl))).trans hBb
    by_cases hlt : k < ls.length
    · obtain ⟨u, hu1, hu2, hu3⟩ := zz_nat (h64 k).1 (h64 k).2
      have hbp := bs_pos u
      have hbl := bs_le10 hu2
      have hE : En ls (k + 1) = En ls k + (bs u).length := by rw [En_succ ls k hlt, hu3]
      have hdn := drop_num ls rest k hlt
      rw [hu3] at hdn
      have hdl : len - En ls k = (bs u ++ (zbs (ls.drop (k + 1)) ++ rest)).length := by rw [← hdn, List.length_drop, HC.out.2]
      have hle : En ls k + (bs u).length ≤ len := by
        have := hdl
        rw [List.length_append] at this
        omega
      have hcd := cells_drop (m := En ls k) HC.out.1
      rw [hdn] at hcd
      have hcd' : ∀ i, i < (bs u ++ (zbs (ls.drop (k + 1)) ++ rest)).length → wr.cell? ⟨g, off + En ls k + i, none⟩ = some (.int .u8 ((bs u ++ (zbs (ls.drop (k + 1)) ++ rest)).getD i 0)) :=
        fun i hi => (hq.cell (p := ⟨g, off + En ls k + i, none⟩) (.inl hg)).trans (hcd i hi)
      obtain ⟨f1, f2, f3, f4, f5⟩ := bs_app hu2 (zbs (ls.drop (k + 1)) ++ rest)
      have HS := (show Hid _ from span_ok g (off + En ls k) (cap - En ls k) _ ((bs u).length - 1) wr hcd' (by omega) (by rw [List.length_append]; omega) (by omega) f1 f2 f3 f4 f5)
      rw [← hdl, show (((bs u).length - 1 : Nat) : Int) + 1 = ((bs u).length : Int) by omega] at HS
      have HJo := (show Hid _ from join_any g (off + En ls k) (cap - En ls k) (bs u) wr (cells_app_left hcd') hbl (bs_getD hu2) (by rw [vl_bs64 hu2]; exact hu2))
      rw [vl_bs64 hu2] at HJo
      have hex : toldAt ls h64 k = ⟨u, hu2, (En ls k : Int) + ((bs u).length : Int), 0⟩ := by
        unfold toldAt
        rw [Told.mk.injEq]
        refine ⟨by omega, ?_, rfl⟩
        rw [hE]; omega
      have HX : Hid (toldAt ls h64 k = ⟨u, hu2, (En ls k : Int) + ((bs u).length : Int), 0⟩ ∧ En ls (k + 1) = En ls k + (bs u).length) := ⟨hex, hE⟩
      obtain ⟨fn, tmps, assign, body, hy, hR⟩ := HY.out (tolds ls h64 k) ⟨u, hu2, (En ls k : Int) + ((bs u).length : Int), 0⟩ wr hJ (by
        have hl : (tolds ls h64 k).length = k := by simp [tolds]
        rw [hl]
        rcases HN.out with ⟨_, e⟩ | ⟨_, _, e⟩ <;> rw [e] <;> simp [tolds] <;> omega)
      dsimp only [encT] at hy
      clear hdn hdl hcd hcd' f1 f2 f3 f4 f5 hu1 hu3 hex hE
      have hkN : (k : Int) < (N : Int) := by rcases HN.out with h | h <;> omega
      have hcn : ¬ cap = En ls k := by omega
      generalize (bs u).length = bl at *
      generalize hA : En ls k = A at *
      have HA : Hid (En ls k = A) := hA
      clear hA
      gi_wp2_with (first
        | (refine ⟨trivial, (fun h => (by cases h)), ?_⟩; gi_at_call 39; refine (callsIn_wide.2 HS.out).mono ?_; rintro e w' ⟨rfl, rfl⟩)
        | (refine ⟨trivial, (fun h => (by cases h)), ?_⟩; gi_at_call 40; refine (callsIn_wide.2 HJo.out).mono ?_; rintro e w' ⟨rfl, rfl⟩))
      refine ⟨(fun h => (by cases h)), hR.mono ?_⟩
      rintro e W3 (⟨rfl, hJ3, hk3⟩ | ⟨rfl, hJx3⟩)
      · clear hy hR
        gi_wp2
        go_roundw
        case rel =>
          refine ⟨k + 1, ?_, by go_num, by omega, ?_, hq.trans hk3⟩
          · rw [HX.out.2]; go_num
          · rw [tolds_succ, HX.out.1]; exact hJ3
        case measure => simp [intOf]; omega
      · clear hy hR
        gi_wp2
        refine bodyPost_ret (results_none rfl _ _ _) rfl ?_
        refine ⟨⟨_, rfl⟩, .inr ⟨_, ?_, hJx3⟩⟩
        rw [← HX.out.1, ← tolds_succ]
        have hpre : tolds ls h64 (k + 1) <+: tolds ls h64 ls.length := by
          unfold tolds
          have e : List.range (k + 1) = (List.range ls.length).take (k + 1) := by rw [List.take_range]; congr 1; omega
          rw [e, List.map_take]
          exact List.take_prefix _ _
        rcases HN.out with ⟨_, e⟩ | ⟨_, _, e⟩
        · rw [e]; exact hpre
        · rw [e]; exact hpre.trans (List.prefix_append _ _)
    · obtain rfl : k = ls.length := by omega
      rcases HN.out with ⟨e1, e2⟩ | ⟨e1, e2, e3⟩
      · have hkN : ¬ ((ls.length : Nat) : Int) < (N : Int) := by omega
        clear e1
        gi_wp2
        go_end0
        exact ⟨⟨_, rfl⟩, .inl hJ⟩
      · have hkN : ((ls.length : Nat) : Int) < (N : Int) := by omega
        have hlr : len - En ls ls.length = rest.length := by
          unfold En
          rw [List.take_length, HC.out.2, List.length_append]; omega
        have hEl : En ls ls.length ≤ len := by
          unfold En
          rw [List.take_length, HC.out.2, List.length_append]; omega
        have hcd := cells_drop (m := En ls ls.length) HC.out.1
        rw [drop_at, List.drop_length, zbs, List.nil_append] at hcd
        have HS : Hid (∀ a c, (¬ cap = En ls ls.length → a = some ⟨g, off + En ls ls.length, none⟩) → Calls Tryd.prog 39 #[.slice a (len - En ls ls.length) c] wr fun e w' => e = .returned (.tuple #[.int .i64 0, .int .i64 10]) ∧ w' = wr) := fun a c ha => by
          rw [hlr]
          refine span_short a c rest wr ?_ e2.1 e2.2
          by_cases hz : rest = []
          · exact .inl hz
          · have hp := List.length_pos_iff.2 hz
            refine .inr ⟨g, off + En ls ls.length, ha (by omega), ?_, fun i hi => (hq.cell (p := ⟨g, off + En ls ls.length + i, none⟩) (.inl hg)).trans (hcd i hi)⟩
            exact World.block_lt_of_cell? wr ⟨g, off + En ls ls.length + 0, none⟩ ((hq.cell (p := ⟨g, off + En ls ls.length + 0, none⟩) (.inl hg)).trans (hcd 0 hp))
        clear hcd hlr
        obtain ⟨fn, tmps, assign, body, hy, hR⟩ := HY.out (tolds ls h64 ls.length) short wr hJ (by rw [e3]; simp)
        have hy2 : (Instr.yield l #[.agg #[.int .u64 0, .int .i64 0, .int .i64 10]]).run Tryd.prog wr = .ok (.round l fn tmps assign body) wr := hy
        clear hy
        have HT : Hid (T = tolds ls h64 ls.length ++ [short]) := e3
        clear e1 e2 e3
        generalize hA : En ls ls.length = A at *
        clear hA
        by_cases hcn : cap = A
        all_goals
          gi_wp2_with (refine ⟨trivial, (fun h => (by cases h)), ?_⟩; gi_at_call 39; refine (callsIn_wide.2 (HS.out _ _ (by intro h; first | exact absurd hcn h | rfl))).mono ?_; rintro e w' ⟨rfl, rfl⟩)
          refine ⟨(fun h => (by cases h)), hR.mono ?_⟩
          rintro e W3 (⟨rfl, hJ3, hk3⟩ | ⟨rfl, hJx3⟩)
          · clear hy2 hR
            gi_wp2
            refine bodyPost_ret (results_none rfl _ _ _) rfl ?_
            exact ⟨⟨_, rfl⟩, .inl ⟨_, HT.out.symm, hJ3⟩⟩
          · clear hy2 hR
            gi_wp2
            refine bodyPost_ret (results_none rfl _ _ _) rfl ?_
            exact ⟨⟨_, rfl⟩, .inr ⟨_, by rw [HT.out]; exact List.prefix_refl _, hJx3⟩⟩
end Go.Proofs.YtbgipenonngccaaDoor
