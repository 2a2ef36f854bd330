/- Plain: frames taken off bytes, and the blocks that bytes begin with. No conditions but those of each theorem. -/
import Derived.Test.YtocjmbhfpofoeaaDoorGa
namespace Go.Proofs.YtocjmbhfpofoeaaDoor
open Go.RowKit

theorem tkn_inv {z : List Int} {m : Nat} (hz : Bytes z) (h : (tkn z m).2.2 = 0) : z = bs (tkn z m).1 ++ (tkn z m).2.1 ∧ (tkn z m).1 ≤ m := by
  have hzl := hi_le z
  unfold tkn at h ⊢
  by_cases c1 : 10 ≤ hi z
  · rw [if_pos c1] at h; exact absurd h (by decide)
  · rw [if_neg c1] at h ⊢
    by_cases c2 : hi z = z.length
    · rw [if_pos c2] at h; exact absurd h (by decide)
    · rw [if_neg c2] at h ⊢
      by_cases c3 : (hi z = 9 ∧ 1 < z.getD (hi z) 0) ∨ (0 < hi z ∧ z.getD (hi z) 0 = 0)
      · rw [if_pos c3] at h; exact absurd h (by decide)
      · rw [if_neg c3] at h ⊢
        by_cases c4 : m < vl (z.take (hi z + 1))
        · rw [if_pos c4] at h; exact absurd h (by decide)
        · rw [if_neg c4]
          have hlen : (z.take (hi z + 1)).length = hi z + 1 := by simp; omega
          have hh : hi (z.take (hi z + 1)) = hi z := hi_is (by simp; omega) (fun i h => by rw [getD_takeI z (by omega)]; exact hi_lo z i h) (by rw [getD_takeI z (by omega)]; exact hi_at z (by omega))
          have hbu : bs (vl (z.take (hi z + 1))) = z.take (hi z + 1) :=
            (bs_vl _ (fun h => by rw [h] at hlen; simp at hlen) (by rw [hh, hlen]; omega) (by rw [hh, hlen]; omega) (bytes_take hz _) (fun h => by
              rw [hlen, Nat.add_sub_cancel, getD_takeI z (by omega)]
              intro h0
              exact c3 (.inr ⟨by omega, h0⟩))).1
          exact ⟨by rw [hbu, List.take_append_drop], by omega⟩

/-- These bytes begin with this frame. -/
def Dec (z : List Int) (k : Nat) (b r : List Int) : Prop := k ≤ 255 ∧ b.length ≤ 65535 ∧ z = frm k b ++ r
theorem frm_app (k : Nat) (b r : List Int) : frm k b ++ r = (k : Int) :: (bs b.length ++ (b ++ (tl (crc (hd k b)) ++ r))) := by
  simp only [frm]
  rw [show hd k b = (k : Int) :: (bs b.length ++ b) from rfl]
  simp only [List.cons_append, List.append_assoc]
theorem dec_inj {z : List Int} {k k' : Nat} {b b' r r' : List Int} (h : Dec z k b r) (h' : Dec z k' b' r') : k = k' ∧ b = b' ∧ r = r' := by
  obtain ⟨h1, h2, h3⟩ := h
  obtain ⟨g1, g2, g3⟩ := h'
  have e : frm k b ++ r = frm k' b' ++ r' := h3.symm.trans g3
  rw [frm_app, frm_app, List.cons.injEq] at e
  obtain ⟨e1, e2⟩ := e
  have hk : k = k' := by omega
  subst hk
  have t1 := tkn_bs (u := b.length) (m := 65535) h2 (by decide) (b ++ (tl (crc (hd k b)) ++ r))
  rw [e2, tkn_bs g2 (by decide)] at t1
  simp only [Prod.mk.injEq] at t1
  obtain ⟨t1, t2, _⟩ := t1
  have hb : b' = b := by
    have := congrArg (List.take b.length) t2
    rw [List.take_left, ← t1, List.take_left] at this
    exact this
  subst hb
  have t3 := List.append_cancel_left t2
  exact ⟨rfl, rfl, (List.append_cancel_left t3).symm⟩
open Classical in
/-- The frame that bytes begin with: its kind, its body, what is behind it. -/
noncomputable def nx (z : List Int) : Option (Nat × List Int × List Int) := if h : ∃ p : Nat × List Int × List Int, Dec z p.1 p.2.1 p.2.2 then some h.choose else none
theorem nx_some {z : List Int} {k : Nat} {b r : List Int} (h : Dec z k b r) : nx z = some (k, b, r) := by
  have hx : ∃ p : Nat × List Int × List Int, Dec z p.1 p.2.1 p.2.2 := ⟨(k, b, r), h⟩
  unfold nx
  rw [dif_pos hx]
  obtain ⟨e1, e2, e3⟩ := dec_inj hx.choose_spec h
  have : hx.choose = (k, b, r) := Prod.ext e1 (Prod.ext e2 e3)
  rw [this]
theorem nx_none {z : List Int} (h : ∀ k b r, ¬ Dec z k b r) : nx z = none := by
  unfold nx
  rw [dif_neg (fun ⟨p, hp⟩ => h _ _ _ hp)]
theorem nx_is {z : List Int} {k : Nat} {b r : List Int} (h : nx z = some (k, b, r)) : Dec z k b r := by
  unfold nx at h
  split at h
  · rename_i hx
    have e := Option.some.inj h
    have := hx.choose_spec
    rw [e] at this
    exact this
  · cases h
theorem dec_shorter {z : List Int} {k : Nat} {b r : List Int} (h : Dec z k b r) : r.length + 6 ≤ z.length + 1 ∧ z.length = (frm k b).length + r.length := by
  have h1 := bs_pos b.length
  rw [h.2.2, List.length_append, frm_length]; omega
/-- With bytes behind them bytes begin with the same frame. -/
theorem dec_more {z : List Int} {k : Nat} {b r : List Int} (h : Dec z k b r) (t : List Int) : Dec (z ++ t) k b (r ++ t) := ⟨h.1, h.2.1, by rw [h.2.2, List.append_assoc]⟩

/-- The blocks that bytes begin with, one by one. -/
noncomputable def tb : Nat → List Int → List (List (List Int))
  | 0, _ => []
  | n + 1, z => match nx (z.take 3240) with
    | none => []
    | some p => if p.1 = 1 ∧ (upk p.2.1).2 = 0 then (upk p.2.1).1 :: tb n (z.drop (frm 1 p.2.1).length) else []
theorem tb_none {n : Nat} {z : List Int} (h : nx (z.take 3240) = none) : tb (n + 1) z = [] := by simp only [tb]; rw [h]
theorem tb_other {n : Nat} {z : List Int} {k : Nat} {b r : List Int} (h : nx (z.take 3240) = some (k, b, r)) (hk : ¬ (k = 1 ∧ (upk b).2 = 0)) : tb (n + 1) z = [] := by
  simp only [tb]; rw [h]; simp only; rw [if_neg hk]
theorem tb_go {n : Nat} {z : List Int} {b r : List Int} (h : nx (z.take 3240) = some (1, b, r)) (hk : (upk b).2 = 0) : tb (n + 1) z = (upk b).1 :: tb n (z.drop (frm 1 b).length) := by
  simp only [tb]; rw [h]; simp only; rw [if_pos (by simpa using hk)]

/-- Of a file's bytes they are the file's. -/
theorem tb_fb (X t : List Int) (hX : X.length ≤ 65535) : ∀ {Bs : List (List (List Int))}, (∀ B ∈ Bs, chk B = 0) → ∀ n, Bs.length < n → tb n (fb Bs ++ (frm 2 X ++ t)) = Bs
  | [], _, n, hn => by
    obtain ⟨n, rfl⟩ : ∃ q, n = q + 1 := ⟨n - 1, by simp at hn; omega⟩
    rw [fb_nil, List.nil_append]
    cases h : nx ((frm 2 X ++ t).take 3240) with
    | none => exact tb_none h
    | some p =>
      obtain ⟨k, b, r⟩ := p
      refine tb_other h fun hk => ?_
      have h1 := dec_more (nx_is h) ((frm 2 X ++ t).drop 3240)
      rw [List.take_append_drop] at h1
      have h2 : Dec (frm 2 X ++ t) 2 X t := ⟨by decide, hX, rfl⟩
      have := (dec_inj h1 h2).1
      omega
  | B :: Bs, h, n, hn => by
    obtain ⟨n, rfl⟩ : ∃ q, n = q + 1 := ⟨n - 1, by simp at hn; omega⟩
    have hc := h B (List.mem_cons_self ..)
    have hl := blk_le hc
    have hp := pk_le' hc
    rw [fb_cons, List.append_assoc]
    have hd : Dec ((frm 1 (pk B) ++ (fb Bs ++ (frm 2 X ++ t))).take 3240) 1 (pk B) ((fb Bs ++ (frm 2 X ++ t)).take (3240 - (frm 1 (pk B)).length)) :=
      ⟨by decide, by omega, by rw [List.take_append, List.take_of_length_le hl]⟩
    rw [tb_go (nx_some hd) (by rw [upk_pk hc]), upk_pk hc, List.drop_left]
    rw [tb_fb X t hX (fun C hC => h C (List.mem_cons_of_mem _ hC)) n (by simp at hn; omega)]
theorem tb_fil {l : List (List Int)} {z : List Int} (h : bt l = (0, z)) : (tb (z.length + 1) z).flatten = l := by
  obtain ⟨h1, h2, h3⟩ := bt_zero (by rw [h])
  have e : z = fil l := by rw [h3] at h; exact (congrArg Prod.snd h).symm
  subst e
  have hl : (ch l).length < (fil l).length + 1 := by
    have : ∀ Bs : List (List (List Int)), Bs.length ≤ (fb Bs).length := by
      intro Bs
      induction Bs with
      | nil => simp
      | cons B Bs ih =>
        have := blk_pos B
        rw [fb_cons, List.length_append, List.length_cons]; omega
    have := this (ch l)
    simp only [fil, List.length_append]; omega
  have := tb_fb (ix (hs 0 (ch l))) (tl (fb (ch l)).length) h2 (ch_chk_mem h1) ((fil l).length + 1) hl
  rw [← List.append_assoc] at this
  have e : tb ((fil l).length + 1) (fil l) = ch l := this
  rw [e, ch_flat]
theorem bt_inj {l l' : List (List Int)} {z : List Int} (h : bt l = (0, z)) (h' : bt l' = (0, z)) : l = l' := by rw [← tb_fil h, tb_fil h']
theorem tb_wf : ∀ (n : Nat) {z : List Int}, Bytes z → (∀ b, (upk b).2 = 0 → Bytes b → WfR (upk b).1) → ∀ B ∈ tb n z, WfR B
  | 0, _, _, _ => fun B hB => by simp [tb] at hB
  | n + 1, z, hz, hu => fun B hB => by
    cases h : nx (z.take 3240) with
    | none => rw [tb_none h] at hB; simp at hB
    | some p =>
      obtain ⟨k, b, r⟩ := p
      by_cases hk : k = 1 ∧ (upk b).2 = 0
      · obtain ⟨rfl, hk⟩ := hk
        rw [tb_go h hk] at hB
        rcases List.mem_cons.1 hB with e | e
        · subst e
          refine hu b hk fun x hx => ?_
          have hd := (nx_is h).2.2
          exact hz x (List.mem_of_mem_take (by rw [hd, frm_app]; simp [hx]))
        · exact tb_wf n (bytes_drop hz _) hu B e
      · rw [tb_other h hk] at hB; simp at hB
end Go.Proofs.YtocjmbhfpofoeaaDoor
