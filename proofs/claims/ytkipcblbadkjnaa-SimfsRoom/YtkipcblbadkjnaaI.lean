/- The contract of do: changes are done, and kept for a crash. Conditions: those of each theorem. -/
import Derived.Test.YtkipcblbadkjnaaH
namespace Go.Proofs.Ytkipcblbadkjnaa
open Go.RowKit

theorem upd_in {m : ByteArray → Option Nat} {s : ByteArray} {o : Option Nat} {t : ByteArray} {g : Nat} (h : upd m s o t = some g) : m t = some g ∨ o = some g := by
  unfold upd at h
  split at h
  · exact .inr h
  · exact .inl h
theorem chg1_in {m : ByteArray → Option Nat} {c : Ch} {t : ByteArray} {g : Nat} (h : chg1 m c t = some g) : m t = some g ∨ c.2.2 = some g := by
  unfold chg1 at h
  split at h
  · rcases upd_in h with h | h
    · exact .inl h
    · cases h
  · rcases upd_in h with h | h
    · rcases upd_in h with h | h
      · exact .inl h
      · cases h
    · exact .inr h
theorem chg_in : ∀ (ds : List Ch) {m : ByteArray → Option Nat} {t : ByteArray} {g : Nat}, chg m ds t = some g → m t = some g ∨ ∃ c ∈ ds, c.2.2 = some g
  | [], _, _, _, h => .inl h
  | d :: r, m, t, g, h => by
    have h : chg (chg1 m d) r t = some g := h
    rcases chg_in r h with h | ⟨c, hc, e⟩
    · rcases chg1_in h with h | h
      · exact .inl h
      · exact .inr ⟨d, by simp, h⟩
    · exact .inr ⟨c, by simp [hc], e⟩
theorem rdC_news {w : World} {a : Option Addr} {ls : List Ch} (h : RdC w a ls) : ∀ ad, a = some ad → ∀ j u, (ccs ls)[j]? = some u → w.cell? (ad.add j) = some u := by
  intro ad had j u hu
  have hj : j < ls.length * 3 := by have := (List.getElem?_eq_some_iff.1 hu).1; rw [ccs_len] at this; exact this
  obtain ⟨b, off, e, _, c0, c1, c2⟩ := h.at (k := j / 3) (by omega)
  rw [had] at e; cases e
  obtain ⟨d0, d1, d2⟩ := ccs_get ls (j / 3) (by omega)
  rw [Addr.add_lit]
  have h2 : j = j / 3 * 3 ∨ j = j / 3 * 3 + 1 ∨ j = j / 3 * 3 + 2 := by omega
  rcases h2 with h | h | h
  · rw [h] at hu ⊢; rw [d0] at hu; cases hu; exact c0
  · rw [h] at hu ⊢; rw [d1] at hu; cases hu; rw [← Nat.add_assoc]; exact c1
  · rw [h] at hu ⊢; rw [d2] at hu; cases hu; rw [← Nat.add_assoc]; exact c2

theorem do_fin {w w1 w2 : World} {b : Nat} {x : X} {ds : List Ch} {len pb : Nat} {cv : Value} (h : FW w b x) (hl : ds.length = len) (hok : ∀ c ∈ ds, okCh c ∧ ∀ g, c.2.2 = some g → x.K g) (hcap : x.cap + len ≤ 1000000)
    (hpb : x.pb = some pb ∨ x.pb = none ∧ pb = w.heap.size) (hM1 : Mp w1 pb (x.pn + len) (chg x.pm ds)) (hK1 : Kp (fun k => x.pb = some k) w w1)
    (hown : w2.ownsRow 0 95 3 cv (x.cs.length + len) (ccs x.cs ++ ccs ds)) (hgrow : (w1.setCell ⟨b, 2, none⟩ (.map (some pb))).grownBy w2 x.cv.ownBlock) (hat : ∀ k, cv.ownBlock = some k → x.cv.ownBlock = some k ∨ k = w1.heap.size) :
    Mv b w x (w2.setCell ⟨b, 4, none⟩ cv) { x with pb := some pb, pn := x.pn + len, pm := chg x.pm ds, cv := cv, cs := x.cs ++ ds, cap := x.cap + len } := by
  have hb1 : w1.heap[b]? = w.heap[b]? := hK1.block b (tg_lt h.tb) (fun e => tg_ne (h.tp e) h.tb (by decide) rfl)
  have f1 := h.fc.kept hb1
  have f2 := f1.set2 (.map (some pb))
  have hbc : ∀ k, x.cv.ownBlock = some k → w1.heap[k]? = w.heap[k]? := fun k e => hK1.block k (tg_lt (h.tc e)) (fun e' => tg_ne (h.tp e') (h.tc e) (by decide) rfl)
  have t1b : tg w1 b = some 68 := by simp [tg, f1.h]
  have t1c : ∀ k, x.cv.ownBlock = some k → tg w1 k = some 96 := fun k e => by have := h.tc e; unfold tg at this ⊢; rw [hbc k e]; exact this
  have hbne : ∀ k, x.cv.ownBlock = some k → b ≠ k := fun k e => tg_ne h.tb (h.tc e) (by decide)
  have hlt1 : b < w1.heap.size := tg_lt t1b
  have f3 : Fc w2 b x.room x.made (.map (some pb)) (.map x.sb) x.cv x.fused x.left := f2.kept (hgrow.block b (by simpa using hlt1) (fun e => hbne b e.symm rfl))
  have f4 := f3.set4 cv
  have k13 : Kp (fun k => k = b ∨ x.cv.ownBlock = some k) w1 (w2.setCell ⟨b, 4, none⟩ cv) :=
    ((Kp.mono (kp_set w1 b 2 (.map (some pb))) (fun k _ e => .inl e)).trans (Q := fun k => k = b ∨ x.cv.ownBlock = some k) (Kp.grown hgrow (fun k e => .inr e)) (fun k hk => .inl hk)).trans (Q := fun k => k = b) (kp_set w2 b 4 cv) (fun k e => .inl (.inl e))
  have k03 : Kp (fun k => x.pb = some k ∨ k = b ∨ x.cv.ownBlock = some k) w (w2.setCell ⟨b, 4, none⟩ cv) :=
    (Kp.mono hK1 (fun k _ e => .inl e)).trans (Q := fun k => k = b ∨ x.cv.ownBlock = some k) k13 (fun k hk => .inl (.inr hk))
  have far : ∀ k t, tg w k = some t → t ≠ 68 → t ≠ 96 → t ≠ 0 → (w2.setCell ⟨b, 4, none⟩ cv).heap[k]? = w.heap[k]? := fun k t ht n1 n2 n3 =>
    k03.block k (tg_lt ht) (fun hc => by
      rcases hc with e | e | e
      · exact tg_ne ht (h.tp e) n3 rfl
      · exact tg_ne ht h.tb n1 e
      · exact tg_ne ht (h.tc e) n2 rfl)
  have hp1 := hM1.tg
  have hmp : Mp (w2.setCell ⟨b, 4, none⟩ cv) pb (x.pn + len) (chg x.pm ds) := hM1.kp k13 (fun hc => by
    rcases hc with e | e
    · exact tg_ne hp1 t1b (by decide) e
    · exact tg_ne hp1 (t1c _ e) (by decide) rfl)
  have hps : x.sb ≠ some pb := by
    rcases hpb with e | ⟨_, e⟩
    · exact h.ps _ e
    · intro e'; have := tg_lt (h.ts e'); omega
  refine ⟨⟨f4, hmp, ?_, ?_, ?_, ?_, ?_, h.sk, ?_, ?_, ?_, ?_, h.b4, hcap⟩, ?_, ?_⟩
  · exact h.sw.kept (fun k e => k03.block k (tg_lt (h.ts e)) (fun hc => by
      rcases hc with e' | e' | e'
      · exact h.ps _ e' e
      · exact tg_ne (h.ts e) h.tb (by decide) e'
      · exact tg_ne (h.ts e) (h.tc e') (by decide) rfl))
  · intro k e e'
    cases e
    exact hps e'
  · show (w2.setCell ⟨b, 4, none⟩ cv).ownsRow 0 95 3 cv (x.cs ++ ds).length (ccs (x.cs ++ ds))
    rw [ccs_append, List.length_append, hl]
    refine own_kept hown (fun k e => Below.heap_setCell _ _ _ _ ?_)
    have t2 := own_tg hown e
    have t2b : tg w2 b = some 68 := by simp [tg, f3.h]
    exact tg_ne t2 t2b (by decide)
  · exact h.fl.kept (fun g hg => far g _ (h.tf hg) (by decide) (by decide) (by decide)) (fun g k hg e => far k _ (h.tr hg e) (by decide) (by decide) (by decide))
  · intro s g hs
    rcases chg_in ds hs with h' | ⟨c, hc, e⟩
    · exact h.pk s g h'
    · exact (hok c hc).2 g e
  · intro c hc
    rcases List.mem_append.1 hc with hc | hc
    · exact h.ck c hc
    · exact hok c hc
  · have := h.b1; show x.pn + len ≤ x.cap + len; omega
  · have := h.b2; show x.sn + (x.cs ++ ds).length ≤ x.cap + len; rw [List.length_append]; omega
  · have := h.b3; show 0 ≤ x.made ∧ x.made ≤ ((x.cap + len : Nat) : Int); omega
  · exact k03.mono (fun k _ hk => by
      rcases hk with e | e | e
      · exact .inr (.inl e)
      · exact .inl e
      · exact .inr (.inr (.inr (.inl e))))
  · intro k hk
    rcases hk with e | e | e | e | e | e
    · exact .inl (.inl e)
    · cases e
      rcases hpb with e | ⟨_, e⟩
      · exact .inl (.inr (.inl e))
      · exact .inr (by omega)
    · exact .inl (.inr (.inr (.inl e)))
    · rcases hat k e with e | e
      · exact .inl (.inr (.inr (.inr (.inl e))))
      · exact .inr (by rw [e]; exact hK1.size)
    · exact .inl (.inr (.inr (.inr (.inr (.inl e)))))
    · exact .inl (.inr (.inr (.inr (.inr (.inr e)))))
end Go.Proofs.Ytkipcblbadkjnaa
