/- The contract of the document's own Choose: the same kind. Conditions: at most 5000 numbers. -/
import Derived.Test.YtbgipenonngccaaDoorRa
namespace Go.Proofs.YtbgipenonngccaaDoor
open Go.RowKit

def rpick (l : List Int) (k : Nat) (b : Int × Int) : Int × Int :=
  match code k l with
  | some c => if (c.length : Int) < b.2 ∨ ((c.length : Int) = b.2 ∧ (k : Int) < b.1) then ((k : Int), (c.length : Int)) else b
  | none => b
def rps (l : List Int) (m : Nat) : Nat → Int × Int
  | 0 => (2, (m : Int))
  | j + 1 => rpick l (3 - j) (rps l m j)
theorem rpick_some {l : List Int} {k : Nat} {c : List Int} {b m : Int} (h : code k l = some c) (hs : (c.length : Int) < m ∨ ((c.length : Int) = m ∧ (k : Int) < b)) : rpick l k (b, m) = ((k : Int), (c.length : Int)) := by
  unfold rpick; rw [h]; exact if_pos hs
theorem rpick_keep {l : List Int} {k : Nat} {c : List Int} {b m : Int} (h : code k l = some c) (hs : ¬ ((c.length : Int) < m ∨ ((c.length : Int) = m ∧ (k : Int) < b))) : rpick l k (b, m) = (b, m) := by
  unfold rpick; rw [h]; exact if_neg hs
theorem rpick_none {l : List Int} {k : Nat} {b m : Int} (h : code k l = none) : rpick l k (b, m) = (b, m) := by
  unfold rpick; rw [h]

theorem rps_spec {l : List Int} (hl : l.length ≤ 4096) {c2 : List Int} (h2 : code 2 l = some c2) : ∀ j, j ≤ 4 → ∃ (b : Nat) (c : List Int), rps l c2.length j = ((b : Int), (c.length : Int)) ∧ code b l = some c ∧
    ∀ k c', k < 4 → (k = 2 ∨ 4 - j ≤ k) → code k l = some c' → c.length < c'.length ∨ (c.length = c'.length ∧ b ≤ k)
  | 0, _ => ⟨2, c2, rfl, h2, fun k c' hk4 hk hc => by
      rcases hk with rfl | hk
      · rw [h2] at hc; cases hc; exact .inr ⟨rfl, Nat.le_refl _⟩
      · omega⟩
  | j + 1, hj => by
    obtain ⟨b, c, e1, e2, e3⟩ := rps_spec hl h2 j (by omega)
    show ∃ (b : Nat) (c : List Int), rpick l (3 - j) (rps l c2.length j) = _ ∧ _
    rw [e1]
    cases hk : code (3 - j) l with
    | none =>
      refine ⟨b, c, rpick_none hk, e2, fun k c' hk4 hkk hc => ?_⟩
      by_cases he : k = 3 - j
      · rw [he, hk] at hc; cases hc
      · exact e3 k c' hk4 (by omega) hc
    | some ck =>
      by_cases hs : (ck.length : Int) < (c.length : Int) ∨ ((ck.length : Int) = (c.length : Int) ∧ ((3 - j : Nat) : Int) < (b : Int))
      · refine ⟨3 - j, ck, rpick_some hk hs, hk, fun k c' hk4 hkk hc => ?_⟩
        by_cases he : k = 3 - j
        · rw [he, hk] at hc; cases hc; exact .inr ⟨rfl, by omega⟩
        · have := e3 k c' hk4 (by omega) hc
          omega
      · refine ⟨b, c, rpick_keep hk hs, e2, fun k c' hk4 hkk hc => ?_⟩
        by_cases he : k = 3 - j
        · rw [he, hk] at hc; cases hc
          omega
        · exact e3 k c' hk4 (by omega) hc
theorem rps_best {l : List Int} (hl : l.length ≤ 4096) {c2 : List Int} (h2 : code 2 l = some c2) : (rps l c2.length 4).1 = best l := by
  obtain ⟨b, c, e1, e2, e3⟩ := rps_spec hl h2 4 (Nat.le_refl _)
  rw [e1]
  refine (best_is hl e2 (fun j c' hc' => ?_) (fun j c' hj hc' => ?_)).symm
  · rcases Nat.lt_or_ge j 4 with hj | hj
    · have := e3 j c' hj (.inr (by omega)) hc'; omega
    · rw [code_four hj] at hc'; cases hc'
  · have hb4 : b < 4 := by
      rcases Nat.lt_or_ge b 4 with hb | hb
      · exact hb
      · rw [code_four hb] at e2; cases e2
    have := e3 j c' (by omega) (.inr (by omega)) hc'; omega

set_option maxRecDepth 100000 in
set_option maxHeartbeats 3200000 in
theorem refchoose_any (a : Option Addr) (n cap : Nat) (l : List Int) (w : World) (hl : l.length = n) (hn : n ≤ 5000) (hcap : n ≤ cap) (hrd : Rd .i64 w a l) (h64 : All64 l) :
    Calls Tryd.prog 11 #[.slice a n cap] w fun e w' => e = .returned (.int .i64 (best l)) ∧ Below w.heap.size w w' := by
  by_cases h4 : n ≤ 4096
  · have HA : Hid (∀ (k : Int) w', Below w.heap.size w w' → Calls Tryd.prog 10 #[.int .i64 k, .slice a n cap] w' (AsIs k l w')) := fun k w' hb => refas_any k a n cap l w' hl hn hcap (hrd.below hb) h64
    have HL : Hid (l.length ≤ 4096) := by rw [hl]; exact h4
    have hn4 : ¬ (4096 : Int) < (n : Int) := by omega
    clear hl hrd h64 hcap
    go_enter Tryd.func11, Tryd.ntmps11
    go_wp2_with fail
    refine (HA.out 2 w (Below.refl _ _)).mono ?_
    rintro e w1 ⟨⟨c2, g, cp, hc2, rfl, _⟩ | ⟨hc2, _⟩, hb1⟩
    rotate_left
    · have : codeI 2 l = some _ := code_two HL.out
      rw [this] at hc2; cases hc2
    have H2 : Hid (code 2 l = some c2) := hc2
    clear hc2
    obtain ⟨m2, hm2⟩ : ∃ x : Nat, Hid (x = c2.length) := ⟨_, rfl⟩
    rw [← hm2.out]
    go_wp2_with fail
    go_loopw [3, 6, 7] (fun b s i wr => ∃ (j : Nat) (k : Int) (bi si : Int), i = .int .i64 k ∧ b = .int .i64 bi ∧ s = .int .i64 si ∧ j ≤ 4 ∧ k = 3 - (j : Int) ∧ Hid (rps l m2 j = (bi, si)) ∧ Below w.heap.size w wr) (fun _ _ i _ => (RowKit.intOf i + 1).toNat)
    case atStart => exact ⟨0, 3, 2, (m2 : Int), rfl, rfl, rfl, by decide, rfl, rfl, hb1⟩
    case round =>
      obtain ⟨j, k, bi, si, rfl, rfl, rfl, hj, hk, hp, hb⟩ := hrel
      by_cases hlt : j < 4
      · have hlt' : (0 : Int) ≤ k := by omega
        have hkn : k = ((3 - j : Nat) : Int) := by omega
        have HK : Hid (k = ((3 - j : Nat) : Int) ∧ k = 3 - (j : Int)) := ⟨hkn, hk⟩
        have hk3 : k ≤ 3 := by omega
        clear hkn hk
        go_wp2_with fail
        refine (HA.out k wr hb).mono ?_
        rintro e w2 ⟨⟨c, g', cp', hc, rfl, _⟩ | ⟨hc, rfl⟩, hb2⟩
        · have hb12 : Below w.heap.size w w2 := hb.trans (hb2.mono hb.size)
          have HC : Hid (code (3 - j) l = some c) := by rw [← codeI_nat, ← HK.out.1]; exact hc
          obtain ⟨ln, hln⟩ : ∃ x : Nat, Hid (x = c.length) := ⟨_, rfl⟩
          rw [← hln.out]
          clear hc hb2
          by_cases h1 : (ln : Int) < si
          · go_wp2_with fail
            go_roundw
            case rel =>
              refine ⟨j + 1, k - 1, k, (ln : Int), by go_num, rfl, rfl, by omega, by have := HK.out.2; omega, ?_, hb12⟩
              show rpick l (3 - j) (rps l m2 j) = _
              rw [hp.out, rpick_some HC.out (.inl (by rw [← hln.out]; exact h1)), hln.out, HK.out.1]
            case measure => simp [RowKit.intOf]; omega
          · by_cases h2 : (ln : Int) = si
            · have h2b : ((ln : Int) == si) = true := by simp [h2]
              have h2i : ¬ si < si := by omega
              by_cases h3 : k < bi
              · subst h2
                go_wp2_with fail
                go_roundw
                case rel =>
                  refine ⟨j + 1, k - 1, k, (ln : Int), by go_num, rfl, rfl, by omega, by have := HK.out.2; omega, ?_, hb12⟩
                  show rpick l (3 - j) (rps l m2 j) = _
                  rw [hp.out, rpick_some HC.out (.inr ⟨by rw [← hln.out], by rw [← HK.out.1]; exact h3⟩), hln.out, HK.out.1]
                case measure => simp [RowKit.intOf]; omega
              · subst h2
                go_wp2_with fail
                go_roundw
                case rel =>
                  refine ⟨j + 1, k - 1, bi, (ln : Int), by go_num, rfl, rfl, by omega, by have := HK.out.2; omega, ?_, hb12⟩
                  show rpick l (3 - j) (rps l m2 j) = _
                  rw [hp.out, rpick_keep HC.out (by rw [← hln.out, ← HK.out.1]; omega)]
                case measure => simp [RowKit.intOf]; omega
            · have h2b : ((ln : Int) == si) = false := by simp [h2]
              go_wp2_with fail
              go_roundw
              case rel =>
                refine ⟨j + 1, k - 1, bi, si, by go_num, rfl, rfl, by omega, by have := HK.out.2; omega, ?_, hb12⟩
                show rpick l (3 - j) (rps l m2 j) = _
                rw [hp.out, rpick_keep HC.out (by rw [← hln.out]; omega)]
              case measure => simp [RowKit.intOf]; omega
        · have hb12 : Below w.heap.size w w2 := hb.trans (hb2.mono hb.size)
          have HC : Hid (code (3 - j) l = none) := by rw [← codeI_nat, ← HK.out.1]; exact hc
          clear hc hb2
          go_wp2_with fail
          go_roundw
          case rel =>
            refine ⟨j + 1, k - 1, bi, si, by go_num, rfl, rfl, by omega, by have := HK.out.2; omega, ?_, hb12⟩
            show rpick l (3 - j) (rps l m2 j) = _
            rw [hp.out, rpick_none HC.out]
          case measure => simp [RowKit.intOf]; omega
      · have hlt' : ¬ (0 : Int) ≤ k := by omega
        obtain rfl : j = 4 := by omega
        go_wp2_with fail
        go_ret
        refine ⟨?_, hb⟩
        have := rps_best HL.out H2.out
        rw [← hm2.out, hp.out] at this
        rw [← this]; rfl
  · have hn4 : (4096 : Int) < (n : Int) := by omega
    have hbl := best_long (l := l) (by rw [hl]; exact h4)
    rw [hbl.1]
    clear hl hrd h64 hcap hbl
    go_enter Tryd.func11, Tryd.ntmps11
    go_wp2
    go_ret
    exact ⟨rfl, Below.refl _ _⟩

/-- What As and Encode tell, read: a slice that may be nil. -/
theorem as_read {k : Int} {l : List Int} {w : World} {e : Ending} {w' : World} (h : AsIs k l w e w') : ∃ a c, e = .returned (.tuple #[.slice a ((codeI k l).getD []).length c, .bool (codeI k l).isSome]) ∧ Rd .u8 w' a ((codeI k l).getD []) ∧ Below w.heap.size w w' := by
  rcases h with ⟨⟨c, g, cp, hc, rfl, ho⟩ | ⟨hc, rfl⟩, hb⟩
  · rw [hc]; exact ⟨_, cp, rfl, own_rd ho, hb⟩
  · rw [hc]; exact ⟨none, 0, rfl, .inl rfl, hb⟩
theorem enc_read {l : List Int} {w : World} {e : Ending} {w' : World} (h : EncIs l w e w') : ∃ a c, e = .returned (.slice a ((codeI (best l) l).getD []).length c) ∧ Rd .u8 w' a ((codeI (best l) l).getD []) ∧ Below w.heap.size w w' := by
  rcases h with ⟨⟨c, g, cp, hc, rfl, ho⟩ | ⟨hc, rfl⟩, hb⟩
  · rw [hc]; exact ⟨_, cp, rfl, own_rd ho, hb⟩
  · rw [hc]; exact ⟨none, 0, rfl, .inl rfl, hb⟩
end Go.Proofs.YtbgipenonngccaaDoor
