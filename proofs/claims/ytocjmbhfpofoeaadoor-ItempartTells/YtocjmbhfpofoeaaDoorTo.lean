/- The contract of told: the items that bytes begin with. Conditions: those of the theorem. -/
import Derived.Test.YtocjmbhfpofoeaaDoorNa
import Derived.Deep.RegionLaw
namespace Go.Proofs.YtocjmbhfpofoeaaDoor
open Go.RowKit

theorem tkn_le (z : List Int) (m : Nat) : (tkn z m).1 ≤ m := by
  unfold tkn; repeat' split
  all_goals simp
  omega
theorem tkn_len (z : List Int) (m : Nat) : (tkn z m).2.1.length ≤ z.length := by
  unfold tkn; repeat' split
  all_goals simp
theorem tkn_bytes {z : List Int} (h : Bytes z) (m : Nat) : Bytes (tkn z m).2.1 := by
  unfold tkn; repeat' split
  all_goals first | exact bytes_nil | exact bytes_drop h _
theorem tkn_form (z : List Int) (m : Nat) : tkn z m = (0, [], 11) ∨ tkn z m = (0, [], 10) ∨ (tkn z m).2.2 = 0 := by
  unfold tkn; repeat' split
  all_goals simp
theorem tkn_err {z : List Int} {m : Nat} (h : (tkn z m).2.2 ≠ 0) : (tkn z m).1 = 0 ∧ (tkn z m).2.1 = [] := by
  rcases tkn_form z m with e | e | e
  · rw [e]; exact ⟨rfl, rfl⟩
  · rw [e]; exact ⟨rfl, rfl⟩
  · exact absurd e h
theorem tld_e1 {n : Nat} {b ah : List Int} (h : (tkn b (min ah.length 400)).2.2 ≠ 0) : tld (n + 1) b ah = ([], (tkn b (min ah.length 400)).2.2) := by
  simp only [tld]; rw [if_pos h]
theorem tld_e2 {n : Nat} {b ah : List Int} (h1 : (tkn b (min ah.length 400)).2.2 = 0) (h2 : (tkn (tkn b (min ah.length 400)).2.1 400).2.2 ≠ 0) : tld (n + 1) b ah = ([], (tkn (tkn b (min ah.length 400)).2.1 400).2.2) := by
  simp only [tld]; rw [if_neg (by rw [h1]; decide), if_pos h2]

/-- How far the work is: what is left tells the rest. -/
def Lft (z : List Int) (n : Nat) (b A : List Int) (L : List (List Int)) : Prop := (tla z).2 = (tld n b A).2 ∧ ((tla z).2 = 0 → (tla z).1 = L ++ (tld n b A).1)
/-- What told answers. -/
def Tlds (w : World) (z : List Int) (e : Ending) (w' : World) : Prop :=
  (∃ v a n c L, e = .returned (.tuple #[v, .int .i64 (tla z).2]) ∧ v = .slice a n c ∧ IsN w.heap.size w' a n c L ∧ WfR L ∧ ((tla z).2 = 0 → L = (tla z).1)) ∧ Below w.heap.size w w'

theorem at_one {W : World} {g : Nat} {x : Value} (h : W.cell? ⟨g, 0, none⟩ = some x) : ∀ j u, [x][j]? = some u → W.cell? ((⟨g, 0, none⟩ : Addr).add j) = some u := by
  intro j u hj
  match j, hj with
  | 0, hj => simp at hj; subst hj; simpa [Addr.add] using h
/-- 'append' onto a row of the call's own, as one step of a statement that leaves its order open. -/
theorem step_append_own {P : Program} {ops : Array Oper} {o : Oper} {a : Act} {w : World} {K : Act → World → Prop} {Q : Exit → Act → World → Prop} {E : Prop} (hg : o.guard = none) (s x : Operand) (t : TypeId)
    (ho : o.op = .call { callee := .builtin .append, args := #[s, x], argTypes := #[t, t] })
    (base : Nat) (e : TypeId) (i : TypeInfo) (z : Value) (size bytes : Nat) (ht : P.underlying t = some (.slice e)) (hi : P.info? e = some i) (hz : i.zero = some z)
    (hsize : i.size = size) (hby : i.bytes = bytes) (hzs : z.cells.size = size) (hsz : 0 < size)
    (v : Value) (n : Nat) (xs : List Value) (hs : a.eval s = v) (hown : w.ownsRow base e size v n xs)
    (ad : Addr) (m c : Nat) (news : List Value) (hx : a.eval x = .slice (some ad) m c) (hl : news.length = m * size) (hnews : ∀ j u, news[j]? = some u → w.cell? (ad.add j) = some u) (h1 : ∀ u ∈ news, u.oneCell' = true)
    (h63 : n + m ≤ maxLen) (hbytes : (n + m) * bytes ≤ 140737488355328) (hbase : base ≤ w.heap.size)
    (h : ∀ v' w', w'.ownsRow base e size v' (n + m) (xs ++ news) → w.grownBy w' v.ownBlock → K (a.put o.dst v') w') :
    if Region.wanted o (yielded ops a.tmps) = true then Oper.wp P o a w K Q else E := by
  have hw : Region.wanted o (yielded ops a.tmps) = true := by simp [Region.wanted, hg]
  rw [if_pos hw]
  exact wp_append_own w s x t ho base e i z size bytes ht hi hz hsize hby hzs hsz v n xs hs hown ad m c news hx hl hnews h1 h63 hbytes hbase fun v' w' h2 h3 _ => h v' w' h2 h3
theorem num_ok' (B : Nat) (w0 : World) (F G : Nat) (hFG : F ≠ G) (a : Option Addr) (nb cb : Nat) (z : List Int) (S : ∀ W, Below B w0 W → IsI .u8 W a nb cb z) (hz : Bytes z) (M : Int) (m : Nat) (hM : M = (m : Int)) (hm : m ≤ 400) (w : World) (hw : Below B w0 w) (hn : nb ≤ 1000000)
    (hF : Boxed w F 26 (.int .i64 0)) (hG : Boxed w G 23 (.slice a nb cb)) :
    Calls Tryd.prog 77 #[.int .i64 M, .pointer (some ⟨F, 0, none⟩), .pointer (some ⟨G, 0, none⟩)] w fun e w' => e = .returned (.int .i64 ((tkn z m).1 : Int)) ∧ Nm B w0 F G w w' (tkn z m).2.2 (tkn z m).2.1 := by
  subst hM; exact num_ok B w0 F G hFG a nb cb z S hz m hm w hw hn hF hG
theorem tlds_exit {base k : Nat} {w wr : World} {z : List Int} {lv : Value} {xs : List Value} {L : List (List Int)} {x : Int} (ho : wr.ownsRow base 23 1 lv k xs) (hx : RdX wr xs L) (hw : WfR L) (he : x = (tla z).2) (hL : (tla z).2 = 0 → L = (tla z).1) (hb : Below w.heap.size w wr) (q : Nat) (hbase : w.heap.size ≤ base := by first | exact Nat.le_refl _ | exact Nat.le_add_right _ _ | omega) :
    Tlds w z (.returned (.tuple #[lv, .int .i64 x])) (wr.drewN q) := by
  obtain ⟨a, c, hv, hR⟩ := own_isN (own_mono ho hbase) hx
  exact ⟨⟨lv, a, k, c, L, by rw [he], hv, hR.below (below_dr wr q), hw, hL⟩, below_drN hb q⟩

/-- The two variables and what is there of items. -/
structure St (N nb : Nat) (w0 wr : World) (b : List Int) : Prop where
  f : Boxed wr (N + 1) 26 (.int .i64 0)
  g : ∃ a n c, Boxed wr N 23 (.slice a n c) ∧ (∀ W, Below N w0 W → IsI .u8 W a n c b) ∧ PA a
  by' : Bytes b
  le : b.length ≤ nb
structure Ls (N : Nat) (wr : World) (lv : Value) (k : Nat) (xs : List Value) (L : List (List Int)) : Prop where
  own : wr.ownsRow (N + 2) 23 1 lv k xs
  rd : RdX wr xs L
  wf : WfR L
  ln : L.length = k

/-- What holds between the rounds. -/
def Rl (w : World) (nb : Nat) (z : List Int) (n0 k : Nat) (lv : Value) (aa : Option Addr) (na ca : Nat) (wr : World) : Prop :=
  ∃ A L xs b, St w.heap.size nb w wr b ∧ (IsT wr aa na ca A ∧ Bytes A ∧ na ≤ 800) ∧ Ls w.heap.size wr lv k xs L ∧ Lft z (n0 - k) b A L ∧ Below w.heap.size w wr ∧ w.heap.size + 2 ≤ wr.heap.size
/-- One item more. -/
theorem rl_next {w w6 W : World} {nb : Nat} {z b X : List Int} {n0 k : Nat} {v6 u : Value} {ax a' : Option Addr} {nx cx n' c' : Nat} {xs : List Value} {L : List (List Int)}
    (hf : Boxed w6 (w.heap.size + 1) 26 (.int .i64 0)) (hg : Boxed w6 w.heap.size 23 u) (hx : IsT w6 ax nx cx X) (hb : Bytes X) (h8 : nx ≤ 800) (hr : RdX w6 xs L) (hw : WfR L) (hl : L.length = k) (h0 : Below w.heap.size w w6) (h2 : w.heap.size + 2 ≤ w6.heap.size)
    (ho : w6.ownsRow (w.heap.size + 2) 23 1 v6 (k + 1) (xs ++ [.slice ax nx cx])) (hS : ∀ V, Below w.heap.size w V → IsI .u8 V a' n' c' b) (hP : PA a') (hbb : Bytes b) (hbl : b.length ≤ nb) (hL : Lft z (n0 - (k + 1)) b X (L ++ [X]))
    (hW : Below (w6.setCell ⟨w.heap.size, 0, none⟩ (.slice a' n' c')).heap.size (w6.setCell ⟨w.heap.size, 0, none⟩ (.slice a' n' c')) W) : Rl w nb z n0 (k + 1) v6 ax nx cx W := by
  have hsz : (w6.setCell ⟨w.heap.size, 0, none⟩ (.slice a' n' c')).heap.size = w6.heap.size := by simp [World.setCell]
  have k1 : K5 w6 W := (K5.of_set hg (by decide) _).trans (K5.of_below hW)
  have f1 := hf.other (B' := w.heap.size) (by omega) (.slice a' n' c')
  have g1 := hg.set (.slice a' n' c')
  refine ⟨X, L ++ [X], xs ++ [.slice ax nx cx], b, ⟨(hW.block _ (by rw [hsz]; omega)).trans f1, ⟨a', n', c', (hW.block _ (by rw [hsz]; omega)).trans g1, hS, hP⟩, hbb, hbl⟩, ⟨hx.keep k1, hb, h8⟩, ⟨?_, (hr.snoc hx).keep k1, ?_, by simp [hl]⟩, hL, ?_, ?_⟩
  · exact own_below (ownsRow_setCell_below ho (a := ⟨w.heap.size, 0, none⟩) (by simp) _) hW
  · intro l hl'
    rcases List.mem_append.1 hl' with h | h
    · exact hw l h
    · simp at h; subst h; exact hb
  · exact (h0.setCell (p := ⟨w.heap.size, 0, none⟩) (Nat.le_refl _) _).trans (hW.mono (by rw [hsz]; omega))
  · have := hW.size; rw [hsz] at this; omega
/-- What is known behind an append to the items. -/
theorem rl_grown {w w5 W1 w6 : World} {k : Nat} {lv u : Value} {ax : Option Addr} {nx cx : Nat} {X : List Int} {xs : List Value} {L : List (List Int)} (hf : Boxed w5 (w.heap.size + 1) 26 (.int .i64 0)) (hg : Boxed w5 w.heap.size 23 u) (hx : IsT w5 ax nx cx X) (hl : Ls w.heap.size w5 lv k xs L)
    (h0 : Below w.heap.size w w5) (h2 : w.heap.size + 2 ≤ w5.heap.size) (hb : Below w5.heap.size w5 W1) (h6 : W1.grownBy w6 lv.ownBlock) :
    Boxed w6 (w.heap.size + 1) 26 (.int .i64 0) ∧ Boxed w6 w.heap.size 23 u ∧ IsT w6 ax nx cx X ∧ RdX w6 xs L ∧ Below w.heap.size w w6 ∧ w.heap.size + 2 ≤ w6.heap.size := by
  have ho := own_below hl.own hb
  have f1 : Boxed W1 (w.heap.size + 1) 26 (.int .i64 0) := (hb.block _ (by omega)).trans hf
  have g1 : Boxed W1 w.heap.size 23 u := (hb.block _ (by omega)).trans hg
  have k1 : K5 w5 w6 := (K5.of_below hb).trans (K5.of_grown h6 fun g e => by obtain ⟨c, f, e'⟩ := own_tag ho g e; exact ⟨c, 23, f, e', by decide⟩)
  have b1 : Below w.heap.size w W1 := h0.trans (hb.mono (by omega))
  have hs := hb.size
  refine ⟨f1.kept h6 (fun e => ?_), g1.kept h6 (fun e => ?_), hx.keep k1, hl.rd.keep k1, b1.grown h6 (by omega) (fun j hj => ?_), by have := h6.size; omega⟩
  · have := (ho.lt _ e.symm).1; omega
  · have := (ho.lt _ e.symm).1; omega
  · have := (ho.lt _ hj).1; omega

set_option maxRecDepth 20000 in
set_option maxHeartbeats 8000000 in
theorem told_any (a : Option Addr) (nb cb : Nat) (z : List Int) (w : World) (hI : IsI .u8 w a nb cb z) (hz : Bytes z) (hn : nb ≤ 1000000) :
    Calls Tryd.prog 64 #[.slice a nb cb] w (Tlds w z) := by
  obtain ⟨i0, hi0, hz0, hz1, hz2⟩ := info_parts Tryd.info23
  have hmf : ∀ (fn : Fn) (first cap : Array Value) (w : World), (Instr.makeFunc fn first cap).run Tryd.prog w = .ok (.func fn first cap) w := fun _ _ _ _ => rfl
  have HS0 : Hid (∀ W, Below w.heap.size w W → IsI .u8 W a nb cb z) := fun W hW => hI.below hW
  clear hI
  have hs1 : (w.alloc (.cells #[.slice a nb cb] 23)).heap.size = w.heap.size + 1 := by simp
  have bF : Boxed ((w.alloc (.cells #[.slice a nb cb] 23)).alloc (.cells #[.int .i64 0] 26)) (w.heap.size + 1) 26 (.int .i64 0) := by
    have := Boxed.new (w.alloc (.cells #[.slice a nb cb] 23)) 26 (.int .i64 0)
    rw [hs1] at this; exact this
  have bG : Boxed ((w.alloc (.cells #[.slice a nb cb] 23)).alloc (.cells #[.int .i64 0] 26)) w.heap.size 23 (.slice a nb cb) := (Boxed.new w 23 (.slice a nb cb)).alloc _
  have b1 : Below w.heap.size w ((w.alloc (.cells #[.slice a nb cb] 23)).alloc (.cells #[.int .i64 0] 26)) := ((Below.refl _ _).alloc (Nat.le_refl _) _).alloc (by simp) _
  have HK := num_ok' w.heap.size w (w.heap.size + 1) w.heap.size (by omega) a nb cb z HS0.out hz 400 400 rfl (by omega) _ b1 hn bF bG
  have HL : Hid (z.length = nb ∧ ∀ m, tkn z 400 = m → (m.1 ≤ 400 ∧ m.2.1.length ≤ z.length ∧ Bytes m.2.1 ∧ (m.2.2 ≠ 0 → m.1 = 0) ∧ (m.2.2 ≠ 0 → (tla z).2 = m.2.2) ∧ (m.2.2 = 0 → tla z = tld m.1 m.2.1 []))) := by
    refine ⟨(HS0.out w (Below.refl _ _)).hl, fun m hm => ?_⟩
    subst hm
    refine ⟨tkn_le _ _, tkn_len _ _, tkn_bytes hz _, fun h => (tkn_err h).1, fun h => ?_, fun h => ?_⟩
    · unfold tla; rw [if_pos h]
    · unfold tla; rw [if_neg (by rw [h]; decide)]
  obtain ⟨t, ht⟩ : ∃ t, Hid (tkn z 400 = t) := ⟨_, rfl⟩
  have HT := HL.out.2 t ht.out
  rw [ht.out] at HK
  obtain ⟨n0, z0, x0⟩ := t
  simp only at HK HT
  have HK' : Hid _ := HK
  have HT' : Hid _ := HT
  have hzl := HL.out.1
  have hn0 := HT.1
  have H1 : Hid (Below w.heap.size w ((w.alloc (.cells #[.slice a nb cb] 23)).alloc (.cells #[.int .i64 0] 26)) ∧ w.heap.size + 2 ≤ ((w.alloc (.cells #[.slice a nb cb] 23)).alloc (.cells #[.int .i64 0] 26)).heap.size) := ⟨b1, by simp⟩
  clear HK HT HL bF bG b1 hz ht hs1
  obtain ⟨N, hN⟩ : ∃ N, Hid (N = w.heap.size) := ⟨_, rfl⟩
  go_enter Tryd.func64, Tryd.ntmps64
  go_wp2_with fail
  refine Calls.mono HK'.out ?_
  rintro e w2 ⟨rfl, f2, g2, o2⟩
  have H2 : Hid (Boxed w2 (w.heap.size + 1) 26 (.int .i64 x0) ∧ (∃ a n c, Boxed w2 w.heap.size 23 (.slice a n c) ∧ (∀ W, Below w.heap.size w W → IsI .u8 W a n c z0) ∧ PA a) ∧ Below w.heap.size w w2 ∧ w.heap.size + 2 ≤ w2.heap.size) :=
    ⟨f2, g2, H1.out.1.trans (o2.bl _ (by omega) (Nat.le_refl _)), Nat.le_trans H1.out.2 o2.size⟩
  have cf := f2.cell
  clear f2 g2 o2
  by_cases hx : x0 = 0
  · subst hx
    have H3 : Hid (Bytes z0 ∧ z0.length ≤ nb ∧ tla z = tld n0 z0 []) := ⟨HT'.out.2.2.1, by have := HT'.out.2.1; omega, HT'.out.2.2.2.2.2 rfl⟩
    clear HT' HK' cf
    go_wp2_with fail
    go_loopw [6, 7, 8, 9, 13] (fun lv av _ _ i wr => ∃ k : Nat, k ≤ n0 ∧ i = .int .i64 (k : Int) ∧ ∃ aa na ca, av = .slice aa na ca ∧ Hid (Rl w nb z n0 k lv aa na ca wr)) (fun _ _ _ _ i _ => n0 - (intOf i).toNat)
    case atStart =>
      exact ⟨0, Nat.zero_le _, rfl, none, 0, 0, rfl, [], [], [], z0, ⟨H2.out.1, H2.out.2.1, H3.out.1, H3.out.2.1⟩, ⟨isT_nil _, bytes_nil, by omega⟩, ⟨World.ownsRow_nil _ _ _ _, rdX_nil _, (fun l hl => by simp at hl), rfl⟩, ⟨by rw [H3.out.2.2]; rfl, fun _ => by rw [H3.out.2.2]; rfl⟩, H2.out.2.2⟩
    case round =>
      obtain ⟨k, hk, rfl, aa, na, ca, rfl, A, L, xs, b, HSt0, HA0, HL0, HF0, HB0⟩ := hrel
      have HSt : Hid _ := HSt0
      have HA : Hid _ := HA0
      have HL : Hid _ := HL0
      have HF : Hid _ := HF0
      have HB : Hid _ := HB0
      clear HSt0 HA0 HL0 HF0 HB0
      by_cases hlt : k < n0
      · have hlt' : (k : Int) < (n0 : Int) := by omega
        obtain ⟨d, hd⟩ : ∃ d, Hid (n0 - k = d + 1 ∧ n0 - (k + 1) = d) := ⟨n0 - k - 1, by omega, by omega⟩
        have HF1 : Hid (Lft z (d + 1) b A L) := by rw [← hd.out.1]; exact HF.out
        clear HF
        have hna := HA.out.2.2
        have hnl := HA.out.1.1.hl
        have hnc := HA.out.1.1.hc
        have hncm := HA.out.1.1.hm
        unfold maxLen at hncm
        obtain ⟨M, hM⟩ : ∃ M, Hid (M = min A.length 400) := ⟨_, rfl⟩
        have hM4 : M ≤ 400 := by have := hM.out; omega
        have hMn : M ≤ na := by have := hM.out; omega
        have hmin : ∀ ts t w', Sem.run Tryd.prog (Builtin.min_ ts t #[.int .i64 (na : Int), .int .i64 400]) w' = .ok (.int .i64 (M : Int)) w' := by
          intro ts t w'
          have := hM.out
          rw [run_min_int2]
          congr 2
          split <;> omega
        obtain ⟨ab, nbb, cbb, g0, S0, _⟩ := HSt.out.g
        have hbl := (S0 wr HB.out.1).hl
        have hnbb : nbb ≤ 1000000 := by have := HSt.out.le; omega
        have HK1 := num_ok' w.heap.size w (w.heap.size + 1) w.heap.size (by omega) ab nbb cbb b S0 HSt.out.by' (M : Int) M rfl hM4 wr HB.out.1 hnbb HSt.out.f g0
        have HT1 : Hid (∀ m, tkn b M = m → (m.1 ≤ M ∧ m.2.1.length ≤ b.length ∧ Bytes m.2.1 ∧ (m.2.2 ≠ 0 → m.1 = 0 ∧ m.2.1 = []) ∧ (m.2.2 ≠ 0 → (tla z).2 = m.2.2))) := fun m hm => by
          subst hm
          refine ⟨tkn_le _ _, tkn_len _ _, tkn_bytes HSt.out.by' _, tkn_err, fun h => ?_⟩
          rw [hM.out] at h ⊢
          rw [HF1.out.1, tld_e1 h]
        obtain ⟨t, ht⟩ : ∃ t, Hid (tkn b M = t) := ⟨_, rfl⟩
        have HT2 := HT1.out t ht.out
        rw [ht.out] at HK1
        obtain ⟨k1, z1, x1⟩ := t
        simp only at HK1 HT2
        have HK1' : Hid _ := HK1
        have HT3 : Hid _ := HT2
        clear HK1 HT1 HT2 hbl hnbb g0 S0
        go_wp2_with fail
        refine Calls.mono HK1'.out ?_
        rintro e w3 ⟨rfl, f3, ⟨a3, n3, c3, g3, S3, _⟩, o3⟩
        have k3 : K5 wr w3 := by obtain ⟨ab, nbb, cbb, g0, S0, _⟩ := HSt.out.g; exact o3.k5 HSt.out.f g0 (by decide) (by decide)
        have b3 : Below w.heap.size w w3 := HB.out.1.trans (o3.bl _ (by omega) (Nat.le_refl _))
        have H3' : Hid (Boxed w3 (w.heap.size + 1) 26 (.int .i64 x1) ∧ Boxed w3 w.heap.size 23 (.slice a3 n3 c3) ∧ (∀ W, Below w.heap.size w W → IsI .u8 W a3 n3 c3 z1) ∧ IsT w3 aa na ca A ∧ Ls w.heap.size w3 u6 k xs L ∧ Below w.heap.size w w3 ∧ w.heap.size + 2 ≤ w3.heap.size) :=
          ⟨f3, g3, S3, HA.out.1.keep k3, ⟨o3.own HL.out.own (by omega) (by omega), HL.out.rd.keep k3, HL.out.wf, HL.out.ln⟩, b3, Nat.le_trans HB.out.2 o3.size⟩
        have HAy : Hid (Bytes A ∧ na ≤ 800) := HA.out.2
        have cf3 := f3.cell
        have cg3 := g3.cell
        have n3l : n3 = z1.length := (S3 w3 b3).hl.symm
        by_cases hx : x1 = 0
        · subst hx
          have hz1l : z1.length ≤ nb := Nat.le_trans HT3.out.2.1 HSt.out.le
          have HK2 := num_ok' w.heap.size w (w.heap.size + 1) w.heap.size (by omega) a3 n3 c3 z1 S3 HT3.out.2.2.1 400 400 rfl (by omega) w3 b3 (by omega) f3 g3
          have HT4 : Hid (∀ m, tkn z1 400 = m → (m.1 ≤ 400 ∧ m.2.1.length ≤ z1.length ∧ Bytes m.2.1 ∧ (m.2.2 ≠ 0 → m.1 = 0 ∧ m.2.1 = []) ∧ (m.2.2 ≠ 0 → (tla z).2 = m.2.2) ∧
              (m.2.2 = 0 → m.2.1.length < m.1 → (tla z).2 = 10) ∧ (m.2.2 = 0 → ¬ m.2.1.length < m.1 → Lft z d (m.2.1.drop m.1) (A.take k1 ++ m.2.1.take m.1) (L ++ [A.take k1 ++ m.2.1.take m.1])))) := fun m hm => by
            have e1 : tkn b (min A.length 400) = (k1, z1, 0) := by rw [← hM.out]; exact ht.out
            obtain ⟨m1, y1, e⟩ := m
            refine ⟨by rw [← hm]; exact tkn_le _ _, by rw [← hm]; exact tkn_len _ _, by rw [← hm]; exact tkn_bytes HT3.out.2.2.1 _, by rw [← hm]; exact tkn_err, fun h => ?_, fun h h' => ?_, fun h h' => ?_⟩
            · have e1' : (tkn b (min A.length 400)).2.2 = 0 := by rw [e1]
              have e2 : (tkn (tkn b (min A.length 400)).2.1 400).2.2 ≠ 0 := by rw [e1]; simp only [hm]; exact h
              rw [HF1.out.1, tld_e2 e1' e2, e1]; simp only [hm]
            · simp only at h h'
              subst h
              rw [HF1.out.1, tld_step e1 hm, if_pos h']
            · simp only at h h' ⊢
              subst h
              have hs := tld_step (n := d) e1 hm
              rw [if_neg h'] at hs
              have h1 := HF1.out.1
              have h2 := HF1.out.2
              rw [hs] at h1 h2
              exact ⟨h1, fun h => by rw [h2 h, List.append_assoc]; rfl⟩
          obtain ⟨t, ht4⟩ : ∃ t, Hid (tkn z1 400 = t) := ⟨_, rfl⟩
          have HT5 := HT4.out t ht4.out
          rw [ht4.out] at HK2
          obtain ⟨m2, z2, x2⟩ := t
          simp only at HK2 HT5
          have HK2' : Hid _ := HK2
          have HT6 : Hid _ := HT5
          have hk1 : k1 ≤ na := by have := HT3.out.1; omega
          have hm2 : m2 ≤ 400 := HT5.1
          have HZ1 : Hid (z1.length ≤ nb) := hz1l
          clear HK2 HT4 HT5 f3 g3 S3 o3 k3 b3 n3l cf3 cg3 hz1l HSt HA HB HL HF1
          go_wp2_with fail
          refine Calls.mono HK2'.out ?_
          rintro e w4 ⟨rfl, f4, ⟨a4, n4, c4, g4, S4, P4⟩, o4⟩
          have k4 : K5 w3 w4 := o4.k5 H3'.out.1 H3'.out.2.1 (by decide) (by decide)
          have b4 : Below w.heap.size w w4 := H3'.out.2.2.2.2.2.1.trans (o4.bl _ (by omega) (Nat.le_refl _))
          have H4 : Hid (Boxed w4 (w.heap.size + 1) 26 (.int .i64 x2) ∧ Boxed w4 w.heap.size 23 (.slice a4 n4 c4) ∧ (∀ W, Below w.heap.size w W → IsI .u8 W a4 n4 c4 z2) ∧ (IsT w4 aa na ca A ∧ Bytes A ∧ na ≤ 800) ∧ Ls w.heap.size w4 u6 k xs L ∧ Below w.heap.size w w4 ∧ w.heap.size + 2 ≤ w4.heap.size) :=
            ⟨f4, g4, S4, ⟨H3'.out.2.2.2.1.keep k4, HAy.out.1, HAy.out.2⟩, ⟨o4.own H3'.out.2.2.2.2.1.own (by omega) (by omega), H3'.out.2.2.2.2.1.rd.keep k4, H3'.out.2.2.2.2.1.wf, H3'.out.2.2.2.2.1.ln⟩, b4, Nat.le_trans H3'.out.2.2.2.2.2.2 o4.size⟩
          have HP4 : Hid (PA a4) := P4
          have cf4 := f4.cell
          have zf4 := f4.frozen
          have cg4 := g4.cell
          have zg4 := g4.frozen
          have n4l : n4 = z2.length := (S4 w4 b4).hl.symm
          have n4c := (S4 w4 b4).hc
          have n4m := (S4 w4 b4).hm
          unfold maxLen at n4m
          by_cases hx2 : x2 = 0
          · subst hx2
            by_cases hsh : n4 < m2
            · have hsh' : (n4 : Int) < (m2 : Int) := by omega
              have hz10 : (tla z).2 = 10 := HT6.out.2.2.2.2.2.1 rfl (by omega)
              have cs := (f4.set (.int .i64 10)).cell
              have HE : Hid ((tla z).2 = 10) := hz10
              clear hz10 f4 g4 S4 o4 k4 b4 n4l
              go_wp2_with fail
              go_quiet (fail)
              go_wp2_with fail
              go_ret2
              have hg : w4.grownBy (w4.setCell ⟨w.heap.size + 1, 0, none⟩ (.int .i64 10)) (some (w.heap.size + 1)) := grownBy_setCell' _ _ _
              refine tlds_exit (H4.out.2.2.2.2.1.own.kept hg (.inr fun e => ?_)) (H4.out.2.2.2.2.1.rd.keep (K5.of_set H4.out.1 (by decide) _)) H4.out.2.2.2.2.1.wf HE.out.symm (fun h => absurd (HE.out.symm.trans h) (by decide)) (H4.out.2.2.2.2.2.1.setCell (by simp) _) _
              have := (H4.out.2.2.2.2.1.own.lt _ e).1
              omega
            · have hsh' : ¬ (n4 : Int) < (m2 : Int) := by omega
              have hsh2 : (m2 : Int) ≤ (n4 : Int) := by omega
              obtain ⟨X, hX⟩ : ∃ X, Hid (X = A.take k1 ++ z2.take m2) := ⟨_, rfl⟩
              obtain ⟨nx, hnx⟩ : ∃ nx, Hid (nx = X.length) := ⟨_, rfl⟩
              have HX : Hid (Bytes X ∧ nx = k1 + m2 ∧ Lft z d (z2.drop m2) X (L ++ [X])) := by
                have h2 := HT6.out.2.2.2.2.2.2 rfl (by omega)
                rw [← hX.out] at h2
                refine ⟨by rw [hX.out]; exact bytes_append (bytes_take HAy.out.1 _) (bytes_take HT6.out.2.2.1 _), ?_, h2⟩
                rw [hnx.out, hX.out, List.length_append, List.length_take, List.length_take, hnl]; omega
              have HCc : Hid (∀ W1, Below w4.heap.size w4 W1 → W1.heap.size = w4.heap.size + 1 → W1.cell? ⟨w4.heap.size, 0, none⟩ = some (.slice aa k1 ca) → W1.cell? ⟨w4.heap.size, 0 + 1, none⟩ = some (.slice a4 m2 c4) →
                  Calls Tryd.prog 79 #[.slice (some ⟨w4.heap.size, 0, none⟩) 2 2] W1 fun e w' => ∃ ax cx, e = .returned (.slice ax nx cx) ∧ IsT w' ax nx cx X ∧ Below w4.heap.size w4 w') := fun W1 hb hs q0 q1 => by
                have i1 := H4.out.2.2.2.1.1.1.below hb
                have i2 := H4.out.2.2.1 _ (H4.out.2.2.2.2.2.1.trans (hb.mono H4.out.2.2.2.2.2.1.size))
                have hR : IsR W1 (some ⟨w4.heap.size, 0, none⟩) 2 2 [A.take k1, z2.take m2] := by
                  refine ⟨rfl, Nat.le_refl _, by unfold maxLen; omega, .inr ⟨w4.heap.size, 0, rfl, by omega, fun i hi => ?_⟩, fun h => by cases h⟩
                  match i, hi with
                  | 0, _ => exact ⟨aa, k1, ca, q0, ⟨by simp; omega, by have := i1.hc; omega, i1.hm, i1.rd.take _, i1.nil⟩⟩
                  | 1, _ => exact ⟨a4, m2, c4, q1, ⟨by simp; omega, by have := i2.hc; omega, i2.hm, i2.rd.take _, i2.nil⟩⟩
                have hfl : [A.take k1, z2.take m2].flatten = X := by rw [hX.out]; simp
                have hlen : [A.take k1, z2.take m2].flatten.length = nx := by rw [hfl, hnx.out]
                refine (concat_any _ 2 2 _ _ hR (by rw [hlen, HX.out.2.1]; omega)).mono ?_
                rintro e w' ⟨v, rfl, ho, hb2⟩
                rw [hlen, hfl] at ho
                obtain ⟨ax, cx, rfl, ht⟩ := own_isT ho
                exact ⟨ax, cx, rfl, ht, hb.trans (hb2.mono (by omega))⟩
              clear f4 g4 S4 P4 o4 k4 b4 n4l
              go_wp2_with fail
              go_region_with (go_at_call 79; refine Calls.mono (HCc.out _ ?_ ?_ ?_ ?_) ?_
                              · first | exact ((Below.refl _ _).alloc (Nat.le_refl _) _).drew | exact (Below.refl _ _).drew.alloc (Nat.le_refl _) _
                              · simp
                              · simp
                              · simp
                              rintro e w5 ⟨ax, cx, rfl, ht5, hb5⟩)
              all_goals (
                have k5 : K5 w4 w5 := K5.of_below hb5
                have f5 : Boxed w5 (w.heap.size + 1) 26 (.int .i64 0) := (hb5.block _ H4.out.1.lt).trans H4.out.1
                have g5 : Boxed w5 w.heap.size 23 (.slice a4 n4 c4) := (hb5.block _ H4.out.2.1.lt).trans H4.out.2.1
                have H5 : Hid (Boxed w5 (w.heap.size + 1) 26 (.int .i64 0) ∧ Boxed w5 w.heap.size 23 (.slice a4 n4 c4) ∧ IsT w5 ax nx cx X ∧ Ls w.heap.size w5 u6 k xs L ∧ Below w.heap.size w w5 ∧ w.heap.size + 2 ≤ w5.heap.size) :=
                  ⟨f5, g5, ht5, ⟨own_below H4.out.2.2.2.2.1.own hb5, H4.out.2.2.2.2.1.rd.keep k5, H4.out.2.2.2.2.1.wf, H4.out.2.2.2.2.1.ln⟩, H4.out.2.2.2.2.2.1.trans (hb5.mono (by have := H4.out.2.2.2.2.2.2; omega)), Nat.le_trans H4.out.2.2.2.2.2.2 hb5.size⟩
                have cg5 := g5.cell
                have zg5 := g5.frozen
                have cga : ∀ o, (w5.alloc o).cell? ⟨w.heap.size, 0, none⟩ = some (.slice a4 n4 c4) := fun o => (g5.alloc o).cell
                have zga : ∀ o, (w5.alloc o).frozen? ⟨w.heap.size, 0, none⟩ = false := fun o => (g5.alloc o).frozen
                clear k5 f5 g5 ht5 hb5 cg4 zg4 cf4 zf4
                have HN : Hid (∀ (a' : Option Addr) (n' c' : Nat) (v6 : Value) (W1 w6 W : World), Below w5.heap.size w5 W1 → W1.grownBy w6 u6.ownBlock → w6.ownsRow (w.heap.size + 2) 23 1 v6 (k + 1) (xs ++ [.slice ax nx cx]) → (∀ V, Below w.heap.size w V → IsI .u8 V a' n' c' (z2.drop m2)) → PA a' →
                    Below (w6.setCell ⟨w.heap.size, 0, none⟩ (.slice a' n' c')).heap.size (w6.setCell ⟨w.heap.size, 0, none⟩ (.slice a' n' c')) W → Rl w nb z n0 (k + 1) v6 ax nx cx W) := fun a' n' c' v6 W1 w6 W hb h6 ho hS hP hW => by
                  obtain ⟨q1, q2, q3, q4, q5, q6⟩ := rl_grown H5.out.1 H5.out.2.1 H5.out.2.2.1 H5.out.2.2.2.1 H5.out.2.2.2.2.1 H5.out.2.2.2.2.2 hb h6
                  refine rl_next q1 q2 q3 HX.out.1 (by have := HX.out.2.1; have := HT3.out.1; omega) q4 H5.out.2.2.2.1.wf H5.out.2.2.2.1.ln q5 q6 ho hS hP (bytes_drop HT6.out.2.2.1 _) ?_ ?_ hW
                  · have h1 := HT6.out.2.1
                    have h2 := HZ1.out
                    simp only [List.length_drop] at *; omega
                  · rw [hd.out.2]; exact HX.out.2.2
                have HO : Hid (∀ W1, Below w5.heap.size w5 W1 → W1.ownsRow (w.heap.size + 2) 23 1 u6 k xs ∧ w.heap.size + 2 ≤ W1.heap.size) := fun W1 hb => ⟨own_below H5.out.2.2.2.1.own hb, by have := hb.size; have := H5.out.2.2.2.2.2; omega⟩
                have HG : Hid (∀ W1 w6, Below w5.heap.size w5 W1 → W1.grownBy w6 u6.ownBlock → Boxed w6 w.heap.size 23 (.slice a4 n4 c4)) := fun W1 w6 hb h6 => (rl_grown H5.out.1 H5.out.2.1 H5.out.2.2.1 H5.out.2.2.2.1 H5.out.2.2.2.2.1 H5.out.2.2.2.2.2 hb h6).2.1
                have t1 : Hid (k + 1 ≤ maxLen) := by show _ ≤ _; unfold maxLen; omega
                have t2 : Hid ((k + 1) * 24 ≤ 140737488355328) := by show _ ≤ _; omega
                have t5 : Hid (∀ u ∈ [Value.slice ax nx cx], u.oneCell' = true) := rdX_one (RdX.snoc (rdX_nil w5) H5.out.2.2.1)
                by_cases hcm : c4 = m2
                · have HS' : Hid (∀ V, Below w.heap.size w V → IsI .u8 V a4 0 0 (z2.drop m2)) := fun V hV => by
                    have := H4.out.2.2.1 V hV
                    have hl := this.hl
                    have hc := this.hc
                    exact ⟨by simp; omega, Nat.le_refl _, Nat.zero_le _, .inl (List.drop_of_length_le (by omega)), fun _ => rfl⟩
                  obtain rfl : n4 = c4 := by omega
                  obtain rfl : n4 = m2 := hcm
                  go_wp2_with fail
                  go_region_law (refine step_append_own rfl (.tmp 36) (.tmp 38) 22 rfl (w.heap.size + 2) 23 i0 _ 1 24 Tryd.underlying22 hi0 hz0 hz1 hz2 rfl (by decide) u6 k xs (by first | (simp [Act.eval]; done) | simp [Act.eval, Act.put]) (HO.out _ (by first | exact ((Below.refl _ _).alloc (Nat.le_refl _) _).drew | exact (Below.refl _ _).drew.alloc (Nat.le_refl _) _ | exact (Below.refl _ _).alloc (Nat.le_refl _) _)).1 ⟨w5.heap.size, 0, none⟩ 1 1 [.slice ax nx cx] (by first | (simp [Act.eval]; done) | simp [Act.eval, Act.put]) rfl (at_one (by simp)) t5.out t1.out t2.out (HO.out _ (by first | exact ((Below.refl _ _).alloc (Nat.le_refl _) _).drew | exact (Below.refl _ _).drew.alloc (Nat.le_refl _) _ | exact (Below.refl _ _).alloc (Nat.le_refl _) _)).2 ?_
                                 intro v6 w6 ho6 hg6
                                 have g6 := HG.out _ w6 (by first | exact ((Below.refl _ _).alloc (Nat.le_refl _) _).drew | exact (Below.refl _ _).drew.alloc (Nat.le_refl _) _ | exact (Below.refl _ _).alloc (Nat.le_refl _) _) hg6
                                 have cg6 := g6.cell
                                 have zg6 := g6.frozen)
                  all_goals (
                    go_wp2_with fail
                    go_roundw
                    case rel => exact ⟨k + 1, by omega, by go_num, ax, nx, cx, rfl, HN.out _ _ _ v6 _ w6 _ (by first | exact ((Below.refl _ _).alloc (Nat.le_refl _) _).drew | exact (Below.refl _ _).drew.alloc (Nat.le_refl _) _ | exact (Below.refl _ _).alloc (Nat.le_refl _) _) hg6 ho6 HS'.out HP4.out (by first | exact Below.refl _ _ | exact (Below.refl _ _).drew | exact below_dr _ _)⟩
                    case measure => simp [intOf]; omega)
                · obtain ⟨g4', off4, rfl⟩ : ∃ g off, a4 = some ⟨g, off, none⟩ := by
                    have hI := H4.out.2.2.1 _ H4.out.2.2.2.2.2.1
                    rcases HP4.out with h | h
                    · have := hI.nil h; omega
                    · exact h
                  have HS' : Hid (∀ V, Below w.heap.size w V → IsI .u8 V (some ⟨g4', off4 + m2, none⟩) (n4 - m2) (c4 - m2) (z2.drop m2)) := fun V hV => by
                    have := H4.out.2.2.1 V hV
                    have hd := this.rd.drop this.hl this.hc (m := m2) (by omega)
                    rw [if_neg hcm] at hd
                    exact ⟨by have := this.hl; simp; omega, by omega, by have := this.hm; omega, hd, fun h => by cases h⟩
                  go_wp2_with fail
                  go_region_law (refine step_append_own rfl (.tmp 36) (.tmp 38) 22 rfl (w.heap.size + 2) 23 i0 _ 1 24 Tryd.underlying22 hi0 hz0 hz1 hz2 rfl (by decide) u6 k xs (by first | (simp [Act.eval]; done) | simp [Act.eval, Act.put]) (HO.out _ (by first | exact ((Below.refl _ _).alloc (Nat.le_refl _) _).drew | exact (Below.refl _ _).drew.alloc (Nat.le_refl _) _ | exact (Below.refl _ _).alloc (Nat.le_refl _) _)).1 ⟨w5.heap.size, 0, none⟩ 1 1 [.slice ax nx cx] (by first | (simp [Act.eval]; done) | simp [Act.eval, Act.put]) rfl (at_one (by simp)) t5.out t1.out t2.out (HO.out _ (by first | exact ((Below.refl _ _).alloc (Nat.le_refl _) _).drew | exact (Below.refl _ _).drew.alloc (Nat.le_refl _) _ | exact (Below.refl _ _).alloc (Nat.le_refl _) _)).2 ?_
                                 intro v6 w6 ho6 hg6
                                 have g6 := HG.out _ w6 (by first | exact ((Below.refl _ _).alloc (Nat.le_refl _) _).drew | exact (Below.refl _ _).drew.alloc (Nat.le_refl _) _ | exact (Below.refl _ _).alloc (Nat.le_refl _) _) hg6
                                 have cg6 := g6.cell
                                 have zg6 := g6.frozen)
                  all_goals (
                    go_wp2_with fail
                    go_roundw
                    case rel => exact ⟨k + 1, by omega, by go_num, ax, nx, cx, rfl, HN.out _ _ _ v6 _ w6 _ (by first | exact ((Below.refl _ _).alloc (Nat.le_refl _) _).drew | exact (Below.refl _ _).drew.alloc (Nat.le_refl _) _ | exact (Below.refl _ _).alloc (Nat.le_refl _) _) hg6 ho6 HS'.out (.inr ⟨_, _, rfl⟩) (by first | exact Below.refl _ _ | exact (Below.refl _ _).drew | exact below_dr _ _)⟩
                    case measure => simp [intOf]; omega))
          · have hx2' : (x2 == 0) = false := by simpa using hx2
            obtain ⟨hm0, hz0'⟩ := HT6.out.2.2.2.1 hx2
            try simp only at hm0 hz0'
            obtain rfl : n4 = 0 := by rw [n4l, hz0']; rfl
            subst hm0
            clear f4 g4 S4 P4 o4 k4 b4 n4l hz0'
            go_wp2_with fail
            go_quiet (fail)
            go_wp2_with fail
            go_ret2
            exact tlds_exit H4.out.2.2.2.2.1.own H4.out.2.2.2.2.1.rd H4.out.2.2.2.2.1.wf (HT6.out.2.2.2.2.1 hx2).symm (fun h => absurd ((HT6.out.2.2.2.2.1 hx2).symm.trans h) hx2) H4.out.2.2.2.2.2.1 _
        · have hx' : (x1 == 0) = false := by simpa using hx
          have hz1 : z1 = [] := (HT3.out.2.2.2.1 hx).2
          obtain rfl : n3 = 0 := by rw [n3l, hz1]; rfl
          have HK2 : Hid _ := num_err (w.heap.size + 1) w.heap.size 400 x1 hx' w3 f3
          clear f3 g3 S3 o3 k3 b3 n3l hz1
          go_wp2_with fail
          refine Calls.mono HK2.out ?_
          rintro e w4 ⟨rfl, hw4⟩; rw [hw4]; clear hw4 w4
          go_wp2_with fail
          go_quiet (fail)
          go_wp2_with fail
          go_ret2
          exact tlds_exit H3'.out.2.2.2.2.1.own H3'.out.2.2.2.2.1.rd H3'.out.2.2.2.2.1.wf (HT3.out.2.2.2.2 hx).symm (fun h => absurd ((HT3.out.2.2.2.2 hx).symm.trans h) hx) H3'.out.2.2.2.2.2.1 _
      · have hlt' : ¬ (k : Int) < (n0 : Int) := by omega
        obtain rfl : k = n0 := by omega
        have cf := HSt.out.f.cell
        have HF1 : Hid ((tla z).2 = 0 ∧ (tla z).1 = L) := by
          have h := HF.out
          rw [Nat.sub_self] at h
          have h1 : (tla z).2 = 0 := h.1
          exact ⟨h1, by rw [h.2 h1]; simp [tld]⟩
        go_wp2_with fail
        go_quiet (fail)
        go_wp2_with fail
        go_ret2
        exact tlds_exit HL.out.own HL.out.rd HL.out.wf HF1.out.1.symm (fun _ => HF1.out.2.symm) HB.out.1 _
  · have hx' : (x0 == 0) = false := by simpa using hx
    obtain rfl : n0 = 0 := HT'.out.2.2.2.1 hx
    go_wp2_with fail
    refine wp_loop_rounds 1 ?_
    rw [rounds_succ]
    go_wp2_with fail
    go_quiet (fail)
    go_wp2_with fail
    go_ret2
    exact tlds_exit (base := w.heap.size) (k := 0) (xs := []) (L := []) (World.ownsRow_nil _ _ _ _) (rdX_nil _) (fun l hl => by simp at hl) (HT'.out.2.2.2.2.1 hx).symm (fun h => absurd ((HT'.out.2.2.2.2.1 hx).symm.trans h) hx) H2.out.2.2.1 _
end Go.Proofs.YtocjmbhfpofoeaaDoor
