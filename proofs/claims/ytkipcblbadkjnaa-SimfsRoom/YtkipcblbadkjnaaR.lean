/- The contracts of Append. Conditions: those of each theorem. -/
import Derived.Test.YtkipcblbadkjnaaQ
import Derived.Laws.AppendOwnNone
import Derived.BigQuiet
import Derived.Deep.QuietTactic
namespace Go.Proofs.Ytkipcblbadkjnaa
open Go.RowKit

/-- 'append' onto a row of one's own, whatever is appended, and where the new row lies. -/
theorem wpList_append_here {P : Program} (w : World) {ops : Array Oper} {rest : List Oper} {o : Oper} {a : Act} {Q : Exit → Act → World → Prop} (hgd : o.guard = none) (s x : Operand) (t : TypeId)
    (ho : o.op = .call { callee := .builtin .append, args := #[s, x], argTypes := #[t, t] })
    (e : TypeId) (i : TypeInfo) (z : Value) (size bytes : Nat) (ht : P.underlying t = some (.slice e)) (hi : P.info? e = some i) (hz : i.zero = some z)
    (hsize : i.size = size) (hby : i.bytes = bytes) (hzs : z.cells.size = size) (hpos : 0 < size)
    (v : Value) (n : Nat) (xs : List Value) (hs : a.eval s = v) (hown : w.ownsRow 0 e size v n xs)
    (ao : Option Addr) (m c : Nat) (news : List Value) (hx : a.eval x = .slice ao m c) (hl : news.length = m * size) (hnone : ao = none → c = 0 ∧ m = 0) (hnews : ∀ ad, ao = some ad → ∀ j u, news[j]? = some u → w.cell? (ad.add j) = some u) (h1 : ∀ u ∈ news, u.oneCell' = true)
    (h63 : n + m ≤ maxLen) (hbytes : (n + m) * bytes ≤ 140737488355328)
    (h : ∀ v' w', w'.ownsRow 0 e size v' (n + m) (xs ++ news) → w.grownBy w' v.ownBlock → (v'.ownBlock = v.ownBlock ∨ v'.ownBlock = some w.heap.size) → wpList P ops Q rest (a.put o.dst v') w') : wpList P ops Q (o :: rest) a w := by
  cases ao with
  | some ad => exact wpList_append_own_at w hgd s x t ho 0 e i z size bytes ht hi hz hsize hby hzs hpos v n xs hs hown ad m c news hx hl (hnews ad rfl) h1 h63 hbytes (Nat.zero_le _) fun v' w' h2 h3 _ h4 => h v' w' h2 h3 h4
  | none =>
    obtain ⟨rfl, rfl⟩ := hnone rfl
    have hn : news = [] := List.eq_nil_of_length_eq_zero (by omega)
    subst hn
    exact wpList_append_own_none hgd s x t ho 0 e i size ht hi v n xs hs hown hx (h v w (by simpa using hown) (World.grownBy.refl _ _) (.inl rfl))
theorem rd_news {k : IntKind} {w : World} {a : Option Addr} {zs : List Int} (h : Rd k w a zs) : ∀ ad, a = some ad → ∀ j u, (zs.map (Value.int k))[j]? = some u → w.cell? (ad.add j) = some u := by
  intro ad had j u hu
  have hj : j < zs.length := by simpa using (List.getElem?_eq_some_iff.1 hu).1
  rcases h with rfl | ⟨b, off, h1, h2, h3⟩
  · simp at hj
  · rw [had] at h1; cases h1
    rw [Addr.add_lit, h3 j hj]
    have e : (zs.map (Value.int k))[j]? = some (.int k (zs.getD j 0)) := by simp [List.getD, hj]
    rw [e] at hu; exact hu
theorem append_fin {w w2 : World} {b : Nat} {y : X} {g : Nat} {v : Value} {zs : List Int} {m : Nat} (h : FW w b y) (hg : y.K g) (hm : zs.length = m) (hown : w2.ownsRow 0 5 1 v ((y.bs g).length + m) ((y.bs g).map (Value.int .u8) ++ zs.map (Value.int .u8)))
    (hgrow : w.grownBy w2 (y.rv g).ownBlock) (hat : v.ownBlock = (y.rv g).ownBlock ∨ v.ownBlock = some w.heap.size) (hl : (y.bs g).length + m ≤ 1048576) :
    Mv b w y (w2.setCell ⟨g, 1, none⟩ v) (setF y g v (y.bs g ++ zs) (y.st g)) := by
  have hst := (h.fl.st0 g hg)
  have hne : ∀ k, (y.rv g).ownBlock = some k → g ≠ k := fun k e => tg_ne (h.tf hg) (h.tr hg e) (by decide)
  have hg2 : w2.heap[g]? = some (.cells #[.int .i64 (y.num g), y.rv g, .int .i64 (y.st g)] 79) := (hgrow.block g (tg_lt (h.tf hg)) (fun e => hne g e.symm rfl)).trans (h.fl.fl g hg)
  refine h.setFile hg ((Kp.grown (P := fun k => k = g ∨ (y.rv g).ownBlock = some k) hgrow (fun k e => .inr e)).setCell (p := ⟨g, 1, none⟩) (.inl (.inl rfl)) v) ?_ ?_ ?_ ⟨hst.1, by rw [List.length_append]; omega, by rw [List.length_append]; omega⟩
  · simp [World.setCell, Array.getElem?_modify, hg2]
  · rw [List.map_append, List.length_append, hm]
    refine own_kept hown (fun k e => Below.heap_setCell _ _ _ _ ?_)
    have t2 := own_tg hown e
    have t3 : tg w2 g = some 80 := by simp [tg, hg2]
    exact tg_ne t2 t3 (by decide)
  · intro k e
    rcases hat with h' | h'
    · exact .inl (h' ▸ e)
    · rw [h'] at e; cases e; exact .inr (Nat.le_refl _)

set_option maxHeartbeats 1600000 in
set_option maxRecDepth 100000 in
theorem append_limit (b : Nat) (x y : X) (s : ByteArray) (a : Option Addr) (len cap : Nat) (w : World) (h : FW w b x) (he : ent x = (0, y)) (hs : s.size ≤ maxLen) (g : Nat) (hg : y.pm s = some g) (hl : 1048576 < (y.bs g).length + len) (hlen : len ≤ 1000000000) :
    Calls Try.prog 25 #[.pointer (some ⟨b, 0, none⟩), .string s, .slice a len cap] w fun e w' => e = .returned (.int .i64 2) ∧ Mv b w x w' y := by
  have H : Hid (FW w b x) := h
  have HE : Hid (ent x = (0, y)) := he
  have HS : Hid (s.size ≤ maxLen) := hs
  have HG : Hid (y.pm s = some g) := hg
  clear h he hs hg
  go_enter Try.func25, Try.ntmps25
  go_wp2_with (go_at_call 51; refine (enter_ok b x y w H.out HE.out).mono ?_; rintro e w1 ⟨rfl, hMv⟩; have c2 := hMv.fw.fc.c2; have lk := hMv.fw.pw.look s HS.out; rw [HG.out] at lk; simp only [pv] at lk; have hK := hMv.fw.pk s g HG.out; obtain ⟨_, d1, _, _⟩ := hMv.fw.cells hK; obtain ⟨ra, rc, hrv, _, _⟩ := own_rd (hMv.fw.fl.fr g hK); rw [hrv] at d1; have hst := (hMv.fw.fl.st0 g hK).2.2; have hwr : wrap64 (((y.bs g).length : Int) + (len : Int)) = ((y.bs g).length : Int) + (len : Int) := (by unfold wrap64; omega); have hgt : (1048576 : Int) < ((y.bs g).length : Int) + (len : Int) := (by omega); have HMv : Hid _ := hMv; clear hMv hK hrv)
  go_ret
  exact ⟨rfl, HMv.out⟩
theorem FW.drew {w : World} {b : Nat} {y : X} (h : FW w b y) : FW w.drew b y := h.kp (Q := fun _ => False) ⟨rfl, rfl, rfl, Nat.le_refl _, fun _ _ _ => rfl⟩ (fun _ _ h => h)
end Go.Proofs.Ytkipcblbadkjnaa
