/- The contracts of Choose and Encode: the kind that takes the fewest bytes, and the code by it. Conditions: the table of the fewest holds what it is laid with; the row's numbers fit. -/
import Derived.Test.YtbgipenonngccaaDoorU
namespace Go.Proofs.YtbgipenonngccaaDoor
open Go.RowKit

theorem codeI_nat (k : Nat) (l : List Int) : codeI (k : Int) l = code k l := by
  unfold codeI; rw [if_neg (by omega)]; rfl
theorem pick_some {l : List Int} {k : Nat} {c : List Int} {b s : Int} (h : code k l = some c) (hs : s < 0 ∨ (c.length : Int) < s) : pick l k (b, s) = ((k : Int), (c.length : Int)) := by
  unfold pick; rw [h]; exact if_pos hs
theorem pick_keep {l : List Int} {k : Nat} {c : List Int} {b s : Int} (h : code k l = some c) (hs : ¬ (s < 0 ∨ (c.length : Int) < s)) : pick l k (b, s) = (b, s) := by
  unfold pick; rw [h]; exact if_neg hs
theorem pick_none {l : List Int} {k : Nat} {b s : Int} (h : code k l = none) : pick l k (b, s) = (b, s) := by
  unfold pick; rw [h]

set_option maxHeartbeats 1600000 in
theorem choose_any (a : Option Addr) (n cap : Nat) (l : List Int) (w : World) (hl : l.length = n) (hcap : n ≤ cap) (hmax : cap ≤ maxLen) (hrd : Rd .i64 w a l) (h64 : All64 l) (hF : Fw w) :
    Calls Tryd.prog 12 #[.slice a n cap] w fun e w' => e = .returned (.int .i64 (best l)) ∧ Below w.heap.size w w' := by
  have HA : Hid (∀ (k : Int) w', Below w.heap.size w w' → Calls Tryd.prog 9 #[.int .i64 k, .slice a n cap] w' (AsIs k l w')) := fun k w' hb => as_any k a n cap l w' hl hcap hmax (hrd.below hb) h64 (hF.below hb)
  clear hl hcap hmax hrd h64 hF
  go_enter Tryd.func12, Tryd.ntmps12
  go_wp2
  go_loopw [3, 4, 8] (fun b s i wr => ∃ (k : Nat) (bi si : Int), i = .int .i64 (k : Int) ∧ b = .int .i64 bi ∧ s = .int .i64 si ∧ k ≤ 4 ∧ Hid (picks l k = (bi, si)) ∧ Below w.heap.size w wr) (fun _ _ i _ => 4 - (intOf i).toNat)
  case atStart => exact ⟨0, 2, -1, rfl, rfl, rfl, by decide, rfl, Below.refl _ _⟩
  case round =>
    obtain ⟨k, bi, si, rfl, rfl, rfl, hk, hp, hb⟩ := hrel
    by_cases hlt : k < 4
    · have hlt' : (k : Int) < 4 := by omega
      go_wp2_with fail
      refine (HA.out (k : Int) wr hb).mono ?_
      rintro r w1 ⟨⟨c, g, cp, hc, rfl, ho⟩ | ⟨hc, rfl⟩, hb1⟩
      · clear ho
        have hb2 : Below w.heap.size w w1 := hb.trans (hb1.mono hb.size)
        have HC : Hid (code k l = some c) := by rw [← codeI_nat]; exact hc
        clear hc hb1
        obtain ⟨len, hlen⟩ : ∃ x : Nat, Hid (x = c.length) := ⟨_, rfl⟩
        rw [← hlen.out]
        by_cases h0 : si < 0
        · go_wp2_with fail
          go_roundw
          case rel =>
            refine ⟨k + 1, (k : Int), (len : Int), by go_num, rfl, rfl, by omega, ?_, hb2⟩
            show pick l k (picks l k) = _
            rw [hp.out, pick_some HC.out (.inl h0), hlen.out]
          case measure => simp [intOf]; omega
        · by_cases h1 : (len : Int) < si
          · go_wp2_with fail
            go_roundw
            case rel =>
              refine ⟨k + 1, (k : Int), (len : Int), by go_num, rfl, rfl, by omega, ?_, hb2⟩
              show pick l k (picks l k) = _
              rw [hp.out, pick_some HC.out (.inr (by rw [← hlen.out]; exact h1)), hlen.out]
            case measure => simp [intOf]; omega
          · go_wp2_with fail
            go_roundw
            case rel =>
              refine ⟨k + 1, bi, si, by go_num, rfl, rfl, by omega, ?_, hb2⟩
              show pick l k (picks l k) = _
              rw [hp.out, pick_keep HC.out (by rw [← hlen.out]; omega)]
            case measure => simp [intOf]; omega
      · have hb2 : Below w.heap.size w w1 := hb.trans (hb1.mono hb.size)
        have HC : Hid (code k l = none) := by rw [← codeI_nat]; exact hc
        clear hc hb1
        go_wp2_with fail
        go_roundw
        case rel =>
          refine ⟨k + 1, bi, si, by go_num, rfl, rfl, by omega, ?_, hb2⟩
          show pick l k (picks l k) = _
          rw [hp.out, pick_none HC.out]
        case measure => simp [intOf]; omega
    · have hlt' : ¬ (k : Int) < 4 := by omega
      obtain rfl : k = 4 := by omega
      go_wp2_with fail
      go_ret
      refine ⟨?_, hb⟩
      show _ = Ending.returned (.int .i64 (picks l 4).1)
      rw [hp.out]; rfl

/-- What Encode tells. -/
def EncIs (l : List Int) (w : World) (e : Ending) (w' : World) : Prop :=
  ((∃ c g cp, codeI (best l) l = some c ∧ e = .returned (.slice (some ⟨g, 0, none⟩) c.length cp) ∧ w'.ownsRow w.heap.size 5 1 (.slice (some ⟨g, 0, none⟩) c.length cp) c.length (c.map (Value.int .u8))) ∨
    (codeI (best l) l = none ∧ e = .returned (.slice none 0 0))) ∧ Below w.heap.size w w'
theorem encode_any (a : Option Addr) (n cap : Nat) (l : List Int) (w : World) (hl : l.length = n) (hcap : n ≤ cap) (hmax : cap ≤ maxLen) (hrd : Rd .i64 w a l) (h64 : All64 l) (hF : Fw w) :
    Calls Tryd.prog 13 #[.slice a n cap] w (EncIs l w) := by
  have HA : Hid (∀ (k : Int) w', Below w.heap.size w w' → Calls Tryd.prog 9 #[.int .i64 k, .slice a n cap] w' (AsIs k l w')) := fun k w' hb => as_any k a n cap l w' hl hcap hmax (hrd.below hb) h64 (hF.below hb)
  have HC : Hid _ := choose_any a n cap l w hl hcap hmax hrd h64 hF
  clear hl hcap hmax hrd h64 hF
  go_enter Tryd.func13, Tryd.ntmps13
  go_wp2_with fail
  refine Calls.mono HC.out ?_
  rintro r w1 ⟨rfl, hb⟩
  go_wp2_with fail
  refine (HA.out (best l) w1 hb).mono ?_
  rintro r w2 ⟨⟨c, g, cp, hc, rfl, ho⟩ | ⟨hc, rfl⟩, hb1⟩
  · have HO : Hid _ := ho
    have HK : Hid _ := hc
    clear ho hc
    go_wp2_with fail
    go_ret
    exact ⟨.inl ⟨c, g, cp, HK.out, rfl, own_mono HO.out hb.size⟩, hb.trans (hb1.mono hb.size)⟩
  · have HK : Hid _ := hc
    clear hc
    go_wp2_with fail
    go_ret
    exact ⟨.inr ⟨HK.out, rfl⟩, hb.trans (hb1.mono hb.size)⟩
end Go.Proofs.YtbgipenonngccaaDoor
