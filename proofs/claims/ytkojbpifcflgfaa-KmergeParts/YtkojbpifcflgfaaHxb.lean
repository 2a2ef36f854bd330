/- The library's heap over heads (items): Push, Fix, Pop; take. Conditions: how the heap lies. -/
import Derived.Test.YtkojbpifcflgfaaPpb
import Derived.Test.YtkojbpifcflgfaaHq
namespace Go.Proofs.Ytkojbpifcflgfaa.B
open Go.RowKit Go.Shelf
open Go.Sort (swp SWO PermIn size_swp swp_permIn permIn_refl permIn_trans permIn_mono swp_get)
variable {E : Type} [Inhabited E]

def Ks.ltr (k : Ks E) (r s : Row E) : Bool := k.lt r.hd s.hd
theorem Ok.ltr {k : Ks E} (hk : Ok k) : SWO k.ltr := ⟨fun _ => hk.swo.irrefl _, fun _ _ _ => hk.swo.trans _ _ _, fun _ _ _ => hk.swo.ntrans _ _ _⟩
theorem f_less (hb : Nat) : Finds 57 (.pointer (some ⟨hb, 0, none⟩)) "Less" 104 := ⟨fun _ => by kernel_rfl, enters_of Try.func104 (by kernel_rfl) rfl⟩
theorem f_swap (hb : Nat) : Finds 57 (.pointer (some ⟨hb, 0, none⟩)) "Swap" 107 := ⟨fun _ => by kernel_rfl, enters_of Try.func107 (by kernel_rfl) rfl⟩
theorem f_push (hb : Nat) : Finds 57 (.pointer (some ⟨hb, 0, none⟩)) "Push" 106 := ⟨fun _ => by kernel_rfl, enters_of Try.func106 (by kernel_rfl) rfl⟩
theorem f_pop (hb : Nat) : Finds 57 (.pointer (some ⟨hb, 0, none⟩)) "Pop" 105 := ⟨fun _ => by kernel_rfl, enters_of Try.func105 (by kernel_rfl) rfl⟩
theorem f_len (hb : Nat) : Finds 57 (.pointer (some ⟨hb, 0, none⟩)) "Len" 35 := ⟨fun _ => by kernel_rfl, enters_of Try.func35 (by kernel_rfl) rfl⟩
theorem hif {k : Ks E} (hk : Ok k) (hb : Nat) (v : Value) : HIf k.ltr 57 (.pointer (some ⟨hb, 0, none⟩)) 104 107 (Hd k hb v) (Kw hb v.ownBlock) :=
  ⟨f_less hb, f_swap hb, Kw.refl _ _, Kw.trans,
   fun _ w i j h hi hj => (less_any hk h i j hi hj).mono fun _ _ ⟨he, q, hq⟩ => ⟨he, by rw [hq]; exact h.drewN q, by rw [hq]; exact (Kw.refl _ _ w).drewN q⟩,
   fun _ _ i j h hi hj => swap_any h i j hi hj⟩

theorem Hd.max {k : Ks E} {hb : Nat} {v : Value} {d : Array (Row E)} {w : World} (h : Hd k hb v d w) : ∀ j, v.ownBlock = some j → hb ≤ j := fun j e => (h.own_tag j e).1
theorem Kg.kb {hb : Nat} {rb : Option Nat} {w w' : World} (h : Kg hb rb w w') (h2 : ∀ j, rb = some j → hb ≤ j) (h3 : hb ≤ w.heap.size) : Below hb w w' := h.below (Nat.le_refl _) h2 h3
theorem Hd.hlt {k : Ks E} {hb : Nat} {v : Value} {d : Array (Row E)} {w : World} (h : Hd k hb v d w) : hb < w.heap.size := (Array.getElem?_eq_some_iff.1 h.box).1

set_option maxRecDepth 100000 in
set_option maxHeartbeats 2000000 in
theorem hpush_any {k : Ks E} (hk : Ok k) {hb : Nat} {v : Value} {d : Array (Row E)} {w : World} (h : Hd k hb v d w) (hp : Hp k.ltr d.size d) (r : Row E) (hr : IsW k r w) (hsz : d.size < 1000000) :
    Calls Try.prog 33 #[.iface 57 (.pointer (some ⟨hb, 0, none⟩)), .iface 26 (encR r)] w fun e w' => e = .returned (.tuple #[]) ∧ ∃ v' d', Hd k hb v' d' w' ∧ Hp k.ltr d'.size d' ∧ d'.toList.Perm (d.toList ++ [r]) ∧ Below hb w w' := by
  have mP : ∀ w, Sem.run Try.prog (method 233 57 (.pointer (some ⟨hb, 0, none⟩)) "Push") w = .ok (106, .pointer (some ⟨hb, 0, none⟩)) w := (f_push hb).finds
  have mL : ∀ w, Sem.run Try.prog (method 233 57 (.pointer (some ⟨hb, 0, none⟩)) "Len") w = .ok (35, .pointer (some ⟨hb, 0, none⟩)) w := (f_len hb).finds
  have eP := (f_push hb).enters
  have eL := (f_len hb).enters
  have HP : Hid _ := push_any h r hr hsz
  have HK : Hid (∀ v' d' w', Hd k hb v' d' w' → 0 < d'.size → Calls Try.prog 45 #[.iface 57 (.pointer (some ⟨hb, 0, none⟩)), .int .i64 ((d'.size - 1 : Nat) : Int)] w' fun e w'' => e = .returned (.tuple #[]) ∧ ∃ d'', Hd k hb v' d'' w'' ∧ Kw hb v'.ownBlock w' w'' ∧ PermIn 0 d'.size d' d'' ∧ (HpUp k.ltr d'.size (d'.size - 1) d' → Hp k.ltr d'.size d'')) := fun v' d' w' h' h0 =>
    up_any k.ltr hk.ltr 57 _ 104 107 (Hd k hb v') (Kw hb v'.ownBlock) (hif hk hb v') d' (d'.size - 1) w' h' (by omega) h'.few
  have H0 : Hid (Hp k.ltr d.size d ∧ Hd k hb v d w) := ⟨hp, h⟩
  obtain ⟨x, hx⟩ : ∃ x, x = encR r := ⟨_, rfl⟩
  rw [← hx] at HP ⊢
  clear h hp hr hx
  go_enter Try.func33, Try.ntmps33
  go_wp2_with fail
  refine Calls.mono HP.out ?_
  rintro e w1 ⟨rfl, v1, h1, hk1⟩
  have HL := len_any h1
  have H1 : Hid (Hd k hb v1 (d.push r) w1 ∧ Kg hb v.ownBlock w w1) := ⟨h1, hk1⟩
  have es : (d.push r).size = d.size + 1 := by simp
  rw [es] at HL
  have hup := HK.out v1 (d.push r) w1 h1 (by omega)
  rw [es, Nat.add_sub_cancel] at hup
  have HUP : Hid _ := hup
  have HLh : Hid _ := HL
  obtain ⟨n, hn⟩ : ∃ n, n = d.size := ⟨_, rfl⟩
  rw [← hn] at HLh HUP hsz
  have Hn : Hid (n = d.size) := hn
  clear h1 hk1 HL hup es hn HK HP
  go_wp2_with fail
  refine Calls.mono HLh.out ?_
  rintro e w2 ⟨rfl, e2⟩
  subst e2
  go_wp2_with fail
  refine Calls.mono HUP.out ?_
  rintro e w3 ⟨rfl, d3, h3, hk3, hp3, hh3⟩
  have HR : Hid (∃ v' d', Hd k hb v' d' w3 ∧ Hp k.ltr d'.size d' ∧ d'.toList.Perm (d.toList ++ [r]) ∧ Below hb w w3) := by
    have hn := Hn.out
    subst hn
    have es : (d.push r).size = d.size + 1 := by simp
    have e3 : d3.size = d.size + 1 := hp3.1.trans es
    refine ⟨v1, d3, h3, ?_, ?_, ?_⟩
    · rw [e3]
      refine hh3 (up_start ?_)
      intro q q0 q1
      rw [push_get q1, push_get (by omega)]; exact H0.out.1 q q0 q1
    · rw [← es] at hp3
      have := perm_of_in hp3
      rw [Array.toList_push] at this; exact this
    · exact (H1.out.2.kb H0.out.2.max (Nat.le_of_lt H0.out.2.hlt)).trans (hk3.below (Nat.le_refl _) H1.out.1.max)
  clear h3 hk3 hp3 hh3
  go_wp2_with fail
  go_end0
  exact ⟨rfl, HR.out⟩

theorem Hd.grow {k : Ks E} {hb : Nat} {v : Value} {d : Array (Row E)} {w w' : World} (h : Hd k hb v d w) (hb' : Below w.heap.size w w') (hn : k.n0 ≤ w.heap.size) : Hd k hb v d w' :=
  ⟨(hb'.block _ h.hlt).trans h.box, own_below h.own hb', fun i hi => (by
    obtain ⟨h1, h2, h3, h4, cur, h5, h6⟩ := h.rows i hi
    exact ⟨h1, h2, h3, h4, cur, (hb'.block _ (Array.getElem?_eq_some_iff.1 h5).1).trans h5, h6⟩), h.few, h.old, h.bel.trans (hb'.mono hn)⟩

/-- What is left of a heap, its top being taken down by one. -/
def Left (d d' : Array (Row E)) : Prop := (1 < d[0]!.xs.length ∧ ∃ r, r.xs = d[0]!.xs.tail ∧ r.b = d[0]!.b ∧ d'.toList.Perm (r :: d.toList.tail)) ∨ (d[0]!.xs.length = 1 ∧ d'.toList.Perm d.toList.tail)

set_option maxRecDepth 100000 in
set_option maxHeartbeats 2000000 in
theorem hpop_any {k : Ks E} (hk : Ok k) {hb : Nat} {v : Value} {d : Array (Row E)} {w : World} (h : Hd k hb v d w) (hp : Hp k.ltr d.size d) (h0 : 0 < d.size) :
    Calls Try.prog 51 #[.iface 57 (.pointer (some ⟨hb, 0, none⟩))] w fun e w' => (∃ u, e = .returned u) ∧ ∃ v' d', v'.ownBlock = v.ownBlock ∧ Hd k hb v' d' w' ∧ Hp k.ltr d'.size d' ∧ d'.toList.Perm d.toList.tail ∧ Kw hb v.ownBlock w w' := by
  have mP : ∀ w, Sem.run Try.prog (method 233 57 (.pointer (some ⟨hb, 0, none⟩)) "Pop") w = .ok (105, .pointer (some ⟨hb, 0, none⟩)) w := (f_pop hb).finds
  have mL : ∀ w, Sem.run Try.prog (method 233 57 (.pointer (some ⟨hb, 0, none⟩)) "Len") w = .ok (35, .pointer (some ⟨hb, 0, none⟩)) w := (f_len hb).finds
  have mS : ∀ w, Sem.run Try.prog (method 233 57 (.pointer (some ⟨hb, 0, none⟩)) "Swap") w = .ok (107, .pointer (some ⟨hb, 0, none⟩)) w := (f_swap hb).finds
  have eP := (f_pop hb).enters
  have eL := (f_len hb).enters
  have eS := (f_swap hb).enters
  have HL : Hid _ := len_any h
  obtain ⟨n, hn⟩ : ∃ n, d.size = n + 1 := ⟨d.size - 1, by omega⟩
  have hS := swap_any h 0 n (by omega) (by omega)
  have HD : Hid (∀ d1 w1, Hd k hb v d1 w1 → d1.size = n + 1 → Calls Try.prog 58 #[.iface 57 (.pointer (some ⟨hb, 0, none⟩)), .int .i64 0, .int .i64 (n : Int)] w1 fun e w'' => (∃ b, e = .returned (.bool b)) ∧ ∃ d2, Hd k hb v d2 w'' ∧ Kw hb v.ownBlock w1 w'' ∧ PermIn 0 n d1 d2 ∧ (HpDn k.ltr n 0 d1 → Hp k.ltr n d2)) := fun d1 w1 h' he =>
    down_any k.ltr hk.ltr 57 _ 104 107 (Hd k hb v) (Kw hb v.ownBlock) (hif hk hb v) d1 n w1 h' (by omega) h'.few
  have HPo : Hid (∀ d1 w1, Hd k hb v d1 w1 → d1.size = n + 1 → Calls Try.prog 105 #[.pointer (some ⟨hb, 0, none⟩)] w1 fun e w' => (∃ u, e = .returned u) ∧ ∃ v', v'.ownBlock = v.ownBlock ∧ Hd k hb v' d1.pop w' ∧ Kw hb v.ownBlock w1 w') := fun d1 w1 h' he => pop_any h' (by omega)
  have H0 : Hid (Hp k.ltr d.size d ∧ d.size = n + 1) := ⟨hp, hn⟩
  have hf := h.few
  have HS : Hid _ := hS
  rw [hn] at HL hf
  have ez : ((0 : Nat) : Int) = 0 := rfl
  rw [ez] at HS
  clear h hp hn hS h0 ez
  go_enter Try.func51, Try.ntmps51
  go_wp2_with fail
  refine Calls.mono HL.out ?_
  rintro e w1 ⟨rfl, e1⟩
  rw [e1]
  clear e1 w1 HL
  go_wp2_with fail
  refine Calls.mono HS.out ?_
  rintro e w1 ⟨rfl, h1, k1⟩
  have H1 : Hid (Kw hb v.ownBlock w w1) := k1
  have HD1 : Hid _ := HD.out _ w1 h1 (by rw [size_swp]; exact H0.out.2)
  clear h1 k1 HS HD
  go_wp2_with fail
  refine Calls.mono HD1.out ?_
  rintro e w2 ⟨⟨b, rfl⟩, d2, h2, k2, p2, q2⟩
  have HP2 : Hid _ := HPo.out d2 w2 h2 (by rw [p2.1, size_swp]; exact H0.out.2)
  have H2 : Hid _ := And.intro k2 (And.intro p2 q2)
  clear h2 k2 p2 q2 HD1 HPo
  go_wp2_with fail
  refine Calls.mono HP2.out ?_
  rintro e w3 ⟨⟨u, rfl⟩, v', ev, h3, k3⟩
  have H3 : Hid _ := And.intro ev (And.intro h3 k3)
  clear ev h3 k3 HP2
  go_wp2_with fail
  go_ret
  have e1 := H0.out.2
  have p2 := H2.out.2.1
  have e2 : d2.size = n + 1 := by rw [p2.1, size_swp]; exact e1
  have en : n = d.size - 1 := by omega
  refine ⟨⟨_, rfl⟩, v', d2.pop, H3.out.1, H3.out.2.1, ?_, ?_, (H1.out.trans H2.out.1).trans H3.out.2.2⟩
  · have := H2.out.2.2 (by rw [en]; exact top_start H0.out.1 (by omega))
    have h5 := pop_hp this (by omega)
    have e6 : d2.pop.size = n := by simp; omega
    rw [e6]; exact h5
  · refine top_off (by omega) ?_
    rw [← en]; exact p2

set_option maxRecDepth 100000 in
set_option maxHeartbeats 2000000 in
theorem hfix_any {k : Ks E} (hk : Ok k) {hb : Nat} {v : Value} {d : Array (Row E)} {w : World} (h : Hd k hb v d w) (hp : HpDn k.ltr d.size 0 d) (h0 : 0 < d.size) :
    Calls Try.prog 50 #[.iface 57 (.pointer (some ⟨hb, 0, none⟩)), .int .i64 0] w fun e w' => e = .returned (.tuple #[]) ∧ ∃ d', Hd k hb v d' w' ∧ d'.size = d.size ∧ Hp k.ltr d'.size d' ∧ d'.toList.Perm d.toList ∧ Kw hb v.ownBlock w w' := by
  have mL : ∀ w, Sem.run Try.prog (method 233 57 (.pointer (some ⟨hb, 0, none⟩)) "Len") w = .ok (35, .pointer (some ⟨hb, 0, none⟩)) w := (f_len hb).finds
  have eL := (f_len hb).enters
  have HL : Hid _ := len_any h
  have HD : Hid _ := down_any k.ltr hk.ltr 57 _ 104 107 (Hd k hb v) (Kw hb v.ownBlock) (hif hk hb v) d d.size w h (Nat.le_refl _) h.few
  have HU : Hid (∀ d1 w1, Hd k hb v d1 w1 → 0 < d1.size → Calls Try.prog 45 #[.iface 57 (.pointer (some ⟨hb, 0, none⟩)), .int .i64 0] w1 fun e w'' => e = .returned (.tuple #[]) ∧ ∃ d'', Hd k hb v d'' w'' ∧ Kw hb v.ownBlock w1 w'' ∧ PermIn 0 d1.size d1 d'' ∧ (HpUp k.ltr d1.size 0 d1 → Hp k.ltr d1.size d'')) := fun d1 w1 h' h0' =>
    up_any k.ltr hk.ltr 57 _ 104 107 (Hd k hb v) (Kw hb v.ownBlock) (hif hk hb v) d1 0 w1 h' h0' h'.few
  have H0 : Hid (HpDn k.ltr d.size 0 d ∧ 0 < d.size) := ⟨hp, h0⟩
  clear h hp h0
  go_enter Try.func50, Try.ntmps50
  go_wp2_with fail
  refine Calls.mono HL.out ?_
  rintro e w1 ⟨rfl, e1⟩
  rw [e1]
  clear e1 w1 HL
  go_wp2_with fail
  refine Calls.mono HD.out ?_
  rintro e w1 ⟨⟨b, rfl⟩, d1, h1, k1, p1, q1⟩
  have e1 : d1.size = d.size := p1.1
  have H1 : Hid (Hd k hb v d1 w1 ∧ d1.size = d.size ∧ Hp k.ltr d.size d1 ∧ d1.toList.Perm d.toList ∧ Kw hb v.ownBlock w w1) := ⟨h1, e1, q1 H0.out.1, perm_of_in p1, k1⟩
  have HU1 : Hid _ := HU.out d1 w1 h1 (by have := H0.out.2; omega)
  clear h1 k1 p1 q1 HD HU e1
  cases b with
  | true =>
    go_wp2
    go_end0
    exact ⟨rfl, d1, H1.out.1, H1.out.2.1, by rw [H1.out.2.1]; exact H1.out.2.2.1, H1.out.2.2.2⟩
  | false =>
    go_wp2_with fail
    refine Calls.mono HU1.out ?_
    rintro e w2 ⟨rfl, d2, h2, k2, p2, q2⟩
    have e2 : d2.size = d1.size := p2.1
    have H2 : Hid (Hd k hb v d2 w2 ∧ d2.size = d.size ∧ Hp k.ltr d2.size d2 ∧ d2.toList.Perm d.toList ∧ Kw hb v.ownBlock w w2) := by
      have a1 := H1.out
      refine ⟨h2, e2.trans a1.2.1, ?_, (perm_of_in p2).trans a1.2.2.2.1, a1.2.2.2.2.trans k2⟩
      rw [e2]
      exact q2 ⟨fun q q0 qn qj => by rw [a1.2.1] at qn; exact a1.2.2.1 q q0 qn, fun q q0 qn qj q1 => by omega⟩
    clear h2 k2 p2 q2 e2
    go_wp2_with fail
    go_end0
    exact ⟨rfl, d2, H2.out⟩
end Go.Proofs.Ytkojbpifcflgfaa.B
