/- Products and quotients of the model's doubles, as the exact road of the parser makes them, are the nearest doubles. -/
import Derived.Test.YtmeimofnmpmaoaaGreatDoorZ
namespace Go.Proofs.YtmeimofnmpmaoaaGreatDoor
namespace Fl

theorem near_ratio {a b a' b' R : Nat} (hb : 0 < b) (hb' : 0 < b') (h : Near a b R) (e : a * b' = a' * b) : Near a' b' R := by
  obtain ⟨u, v, h1, h2, h3, rfl⟩ := h
  have bu : 0 < b * 2 ^ u := Nat.mul_pos hb (Nat.two_pow_pos _)
  have bu' : 0 < b' * 2 ^ u := Nat.mul_pos hb' (Nat.two_pow_pos _)
  have er : a' * 2 ^ v * (b * 2 ^ u) = a * 2 ^ v * (b' * 2 ^ u) := by
    generalize 2 ^ v = x; generalize 2 ^ u = y
    have : a' * x * (b * y) = a' * b * (x * y) := by grind
    have e2 : a * x * (b' * y) = a * b' * (x * y) := by grind
    rw [this, e2, e]
  refine ⟨u, v, ?_, ?_, h3, ?_⟩
  · refine Nat.le_of_mul_le_mul_right (c := b * 2 ^ u) ?_ bu
    rw [er]
    have := Nat.mul_le_mul_right (b' * 2 ^ u) h1
    rwa [Nat.mul_right_comm] at this
  · refine Nat.lt_of_mul_lt_mul_right (a := b * 2 ^ u) ?_
    rw [er]
    have := Nat.mul_lt_mul_of_pos_right h2 bu'
    rw [Nat.mul_right_comm (2 ^ 53) (b' * 2 ^ u)]; exact this
  · rw [rq_ratio bu bu' er.symm]

theorem read_word (neg : Bool) (K m : Nat) (h1 : 4503599627370496 ≤ m) (h2 : m < 9007199254740992) (hK : K < 2045) :
    Ieee.double.read (Ieee.double.word neg (K * 4503599627370496 + m)) = .number neg m ((K : Int) - 1074) := by
  have hsw : Ieee.double.signWeight = 9223372036854775808 := by decide
  have hbin : Ieee.double.binade = 4503599627370496 := by decide
  have hinf : Ieee.double.infRung = 9218868437227405312 := by decide
  have hleast : Ieee.double.leastPlace = -1074 := by decide
  obtain ⟨R, hR⟩ : ∃ R, R = K * 4503599627370496 + m := ⟨_, rfl⟩
  rw [← hR]
  have e1 : (Ieee.double.word neg R / 9223372036854775808 % 2 == 1) = neg := by
    unfold Ieee.Format.word; rw [hsw]; cases neg <;> simp <;> omega
  have e2 : Ieee.double.word neg R % 9223372036854775808 = R := by
    unfold Ieee.Format.word; rw [hsw]; cases neg <;> simp <;> omega
  unfold Ieee.Format.read
  simp only [hsw, hbin, hinf, hleast]
  rw [e1, e2, if_neg (by omega), if_pos (by omega)]
  have e3 : R % 4503599627370496 = m - 4503599627370496 := by omega
  have e4 : R / 4503599627370496 = K + 1 := by omega
  rw [e3, e4, Nat.add_sub_cancel, show (4503599627370496 + (m - 4503599627370496) : Nat) = m by omega, show (-1074 : Int) + (K : Int) = (K : Int) - 1074 by omega]

/-- A whole number below 2^53 as a double. -/
theorem int_word (d : Nat) (h0 : 0 < d) (h1 : d < 9007199254740992) :
    ∃ K m, Ieee.double.nearest false d 0 = K * 4503599627370496 + m ∧ 4503599627370496 ≤ m ∧ m < 9007199254740992 ∧ K < 2045 ∧ 1022 ≤ K ∧ K ≤ 1074 ∧ m = d * 2 ^ (1074 - K) := by
  have hl1 := Nat.log2_self_le (Nat.pos_iff_ne_zero.1 h0)
  have hl2 := Nat.lt_log2_self (n := d)
  obtain ⟨L, hL⟩ : ∃ L, L = d.log2 := ⟨_, rfl⟩
  rw [← hL] at hl1 hl2
  have hL52 : L ≤ 52 := by
    rcases Nat.lt_or_ge 52 L with h | h
    · have := Nat.pow_le_pow_right (by decide : 0 < 2) h
      have e : (2 : Nat) ^ (52 + 1) = 9007199254740992 := by decide
      omega
    · exact h
  have m1 : 4503599627370496 ≤ d * 2 ^ (52 - L) := by
    have := Nat.mul_le_mul_right (2 ^ (52 - L)) hl1
    rw [← Nat.pow_add, show L + (52 - L) = 52 by omega] at this
    exact this
  have m2 : d * 2 ^ (52 - L) < 9007199254740992 := by
    have := Nat.mul_lt_mul_of_pos_right hl2 (Nat.two_pow_pos (52 - L))
    rw [← Nat.pow_add, show L + 1 + (52 - L) = 53 by omega] at this
    exact this
  refine ⟨L + 1022, d * 2 ^ (52 - L), ?_, m1, m2, by omega, by omega, by omega, by rw [show 1074 - (L + 1022) = 52 - L by omega]⟩
  unfold Ieee.Format.nearest
  have hleast : Ieee.double.leastPlace = -1074 := by decide
  have hfb : Ieee.double.fractionBits = 52 := rfl
  have hbin : Ieee.double.binade = 4503599627370496 := by decide
  have hinf : Ieee.double.infRung = 9218868437227405312 := by decide
  have hmax : max ((0 : Int) + (d.log2 : Int) - ((52 : Nat) : Int)) (-1074) = (L : Int) - 52 := by rw [← hL]; omega
  rw [if_neg (Nat.pos_iff_ne_zero.1 h0)]
  simp only [hleast, hfb, hbin, hinf]
  rw [hmax, show ((0 : Int) - ((L : Int) - 52)).toNat = 52 - L by omega, show ((L : Int) - 52 - 0).toNat = 0 by omega, Nat.shiftLeft_eq, cut_rq _ _ _ (Nat.zero_le _)]
  have hrq : rq (d * 2 ^ (52 - L)) (2 ^ 0) = d * 2 ^ (52 - L) := by unfold rq; simp [Nat.mod_one]
  rw [hrq, show ((L : Int) - 52 - -1074).toNat = L + 1022 by omega, Nat.min_eq_left (by omega)]
  rfl

def tens : List Nat := [4607182418800017408, 4621819117588971520, 4636737291354636288, 4652007308841189376, 4666723172467343360, 4681608360884174848, 4696837146684686336, 4711630319722168320, 4726483295884279808, 4741671816366391296, 4756540486875873280, 4771362005757984768, 4786511204640096256, 4801453603149578240, 4816244402031689728, 4831355200913801216, 4846369599423283200, 4861130398305394688, 4876203697187506176, 4891288408196988160, 4906019910204099648, 4921056587992461136, 4936209963552724370]

def tenChk (k : Nat) (d : Ieee.Datum) : Bool := match d with
  | .number false m e => Nat.beq (m * 2 ^ e.toNat) (10 ^ k * 2 ^ (-e).toNat) && Nat.blt 0 m && Nat.blt m (2 ^ 53) && decide (-60 ≤ e) && decide (e ≤ 60)
  | _ => false
theorem tensOk : ((List.range 23).all fun k => tenChk k (Ieee.double.read (tens.getD k 0))) = true := by decide +kernel

theorem ten_at (k : Nat) (hk : k < 23) : ∃ m e, Ieee.double.read (tens.getD k 0) = .number false m e ∧ m * 2 ^ e.toNat = 10 ^ k * 2 ^ (-e).toNat ∧ 0 < m ∧ m < 2 ^ 53 ∧ -60 ≤ e ∧ e ≤ 60 := by
  have h : tenChk k (Ieee.double.read (tens.getD k 0)) = true := List.all_eq_true.1 tensOk k (List.mem_range.2 hk)
  cases hr : Ieee.double.read (tens.getD k 0) with
  | number s m e =>
    rw [hr] at h
    cases s with
    | true => simp [tenChk] at h
    | false =>
      simp only [tenChk, Bool.and_eq_true, Nat.beq_eq, Nat.blt_eq, decide_eq_true_eq] at h
      obtain ⟨⟨⟨⟨h1, h2⟩, h3⟩, h4⟩, h5⟩ := h
      exact ⟨m, e, rfl, h1, h2, h3, h4, h5⟩
  | infinity s => rw [hr] at h; simp [tenChk] at h
  | nan s t => rw [hr] at h; simp [tenChk] at h

theorem log2_lt_of {n k : Nat} (h0 : n ≠ 0) (h : n < 2 ^ k) : n.log2 < k := (Nat.log2_lt h0).2 h

/-- A whole number times a power of ten, by the model's own product. -/
theorem mul_near (d K m k : Nat) (neg : Bool) (h1 : 4503599627370496 ≤ m) (h2 : m < 9007199254740992) (hK1 : 1022 ≤ K) (hK2 : K ≤ 1074) (hm : m = d * 2 ^ (1074 - K)) (hk : k < 23) :
    ∃ R, Ieee.double.mul (Ieee.double.word neg (K * 4503599627370496 + m)) (tens.getD k 0) = some (Ieee.double.word neg R) ∧ Near (d * 10 ^ k) 1 R := by
  obtain ⟨t, e, hr, ht, t0, t1, e0, e1⟩ := ten_at k hk
  have hmt : m * t ≠ 0 := Nat.mul_ne_zero (by omega) (by omega)
  have hlog : (m * t).log2 < 106 := log2_lt_of hmt (by
    have : m * t < 2 ^ 53 * 2 ^ 53 := Nat.mul_lt_mul'' (by omega) t1
    rwa [← Nat.pow_add] at this)
  obtain ⟨R, hR, hN⟩ := nearest_near neg (m * t) ((K : Int) - 1074 + e) (Nat.pos_iff_ne_zero.2 hmt) (by omega) (by omega)
  refine ⟨R, ?_, ?_⟩
  · unfold Ieee.Format.mul
    rw [read_word neg K m h1 h2 (by omega), hr]
    simp only [Ieee.Datum.product, Option.map_some, Ieee.Format.write, Bool.xor_false]
    rw [hR]
  · refine near_ratio (Nat.two_pow_pos _) (by decide) hN ?_
    rw [Nat.mul_one, hm]
    obtain ⟨j, hj⟩ : ∃ j, j = 1074 - K := ⟨_, rfl⟩
    obtain ⟨a, ha⟩ : ∃ a, a = e.toNat := ⟨_, rfl⟩
    obtain ⟨b, hb⟩ : ∃ b, b = (-e).toNat := ⟨_, rfl⟩
    obtain ⟨x, hx⟩ : ∃ x, x = ((K : Int) - 1074 + e).toNat := ⟨_, rfl⟩
    obtain ⟨y, hy⟩ : ∃ y, y = (-((K : Int) - 1074 + e)).toNat := ⟨_, rfl⟩
    rw [← hj, ← hx, ← hy]
    rw [← ha, ← hb] at ht
    have key : j + x + b = a + y := by omega
    refine Nat.eq_of_mul_eq_mul_right (Nat.two_pow_pos b) ?_
    have l : d * 2 ^ j * t * 2 ^ x * 2 ^ b = d * t * 2 ^ (j + x + b) := by rw [Nat.pow_add, Nat.pow_add]; generalize 2 ^ j = p; generalize 2 ^ x = q; generalize 2 ^ b = r; grind
    have r : d * 10 ^ k * 2 ^ y * 2 ^ b = d * (10 ^ k * 2 ^ b) * 2 ^ y := by generalize 2 ^ y = p; generalize 2 ^ b = q; generalize 10 ^ k = z; grind
    rw [l, r, ← ht, key, Nat.pow_add]
    generalize 2 ^ a = p; generalize 2 ^ y = q; grind

theorem rq_sticky (dv n t : Nat) (hn : 0 < n) (ht : 1 ≤ t) : rq (2 * (dv / n) + (if dv % n = 0 then 0 else 1)) (2 ^ (t + 1)) = rq dv (n * 2 ^ t) := by
  obtain ⟨h, hh⟩ : ∃ h, 2 ^ t = 2 * h := ⟨2 ^ (t - 1), by rw [← Nat.pow_succ']; congr 1; omega⟩
  have hP : 0 < 2 * h := by rw [← hh]; exact Nat.two_pow_pos _
  rw [Nat.pow_succ, hh]
  have hr := Nat.mod_lt dv hn
  have e1 : dv / (n * (2 * h)) = dv / n / (2 * h) := (Nat.div_div_eq_div_mul _ _ _).symm
  have e2 : dv % (n * (2 * h)) = dv % n + n * (dv / n % (2 * h)) := Nat.mod_mul
  unfold rq
  rw [e1, e2]
  generalize hq : dv / n = q at *
  generalize hrr : dv % n = r at *
  have hg := Nat.mod_lt q hP
  have hdm := Nat.div_add_mod q (2 * h)
  generalize hgg : q % (2 * h) = g at *
  generalize hcc : q / (2 * h) = c at *
  obtain ⟨st, hst, hst2⟩ : ∃ st, st = (if r = 0 then 0 else 1) ∧ st < 2 := ⟨_, rfl, by split <;> omega⟩
  rw [← hst]
  obtain ⟨hc, hhc⟩ : ∃ hc, hc = 2 * h * c := ⟨_, rfl⟩
  rw [← hhc] at hdm
  have f1 : (2 * q + st) / (2 * h * 2) = c := by
    refine Nat.div_eq_of_lt_le ?_ ?_
    · have : c * (2 * h * 2) = 2 * hc := by rw [hhc]; grind
      omega
    · have : (c + 1) * (2 * h * 2) = 2 * hc + 2 * h * 2 := by rw [hhc]; grind
      omega
  have f2 : (2 * q + st) % (2 * h * 2) = 2 * g + st := by
    have := Nat.div_add_mod (2 * q + st) (2 * h * 2)
    rw [f1] at this
    have e : 2 * h * 2 * c = 2 * hc := by rw [hhc]; grind
    omega
  rw [f1, f2]
  obtain ⟨ng, hng⟩ : ∃ ng, ng = n * g := ⟨_, rfl⟩
  obtain ⟨nh, hnh⟩ : ∃ nh, nh = n * h := ⟨_, rfl⟩
  have e5 : n * (2 * h) = 2 * nh := by rw [hnh]; grind
  rw [e5, ← hng]
  congr 1
  have iff1 : (2 * h * 2 < 2 * (2 * g + st) ∨ 2 * (2 * g + st) = 2 * h * 2 ∧ c % 2 = 1) ↔ (2 * nh < 2 * (r + ng) ∨ 2 * (r + ng) = 2 * nh ∧ c % 2 = 1) := by
    rcases Nat.lt_trichotomy g h with hgh | hgh | hgh
    · have : n * (g + 1) ≤ n * h := Nat.mul_le_mul_left _ hgh
      rw [Nat.mul_add, Nat.mul_one, ← hng, ← hnh] at this
      have s1 : r = 0 → st = 0 := fun h => by rw [hst, if_pos h]
      constructor
      · rintro (h3 | ⟨h3, h4⟩) <;> omega
      · rintro (h3 | ⟨h3, h4⟩) <;> omega
    · have : ng = nh := by rw [hng, hnh, hgh]
      by_cases hr0 : r = 0
      · rw [if_pos hr0] at hst; omega
      · rw [if_neg hr0] at hst; omega
    · have : n * (h + 1) ≤ n * g := Nat.mul_le_mul_left _ hgh
      rw [Nat.mul_add, Nat.mul_one, ← hng, ← hnh] at this
      constructor
      · intro _; left; omega
      · intro _; left; omega
  simp only [iff1]

/-- The model's rounding, where digits are dropped. -/
theorem nearest_form (neg : Bool) (mag : Nat) (place : Int) (L : Nat) (hm : 0 < mag) (hL : L = mag.log2) (h52 : 52 ≤ L) (h0 : -1022 ≤ place + L) (h1 : place + L ≤ 1000) :
    Ieee.double.nearest neg mag place = Ieee.double.word neg ((place + L - 52).toNat * 2 ^ 52 + 1074 * 2 ^ 52 - (-(place + L - 52)).toNat * 2 ^ 52 + rq mag (2 ^ (L - 52))) := by
  have hl2 := Nat.lt_log2_self (n := mag)
  rw [← hL] at hl2
  obtain ⟨last, hlast⟩ : ∃ last : Int, last = place + L - 52 := ⟨_, rfl⟩
  have hmax : max (place + (mag.log2 : Int) - ((52 : Nat) : Int)) (-1074) = last := by rw [← hL, hlast]; omega
  have hleast : Ieee.double.leastPlace = -1074 := by decide
  have hfb : Ieee.double.fractionBits = 52 := rfl
  have hbin : Ieee.double.binade = 2 ^ 52 := rfl
  have hinf : Ieee.double.infRung = 2047 * 2 ^ 52 := by decide
  have hk : rq mag (2 ^ (L - 52)) ≤ 2 ^ 53 := by
    have r := rq_le mag (2 ^ (L - 52))
    have b2 : mag < 2 ^ 53 * 2 ^ (L - 52) := by rw [← Nat.pow_add, show 53 + (L - 52) = L + 1 by omega]; exact hl2
    rcases Nat.lt_or_ge (2 ^ 53) (rq mag (2 ^ (L - 52))) with h | h
    · have := Nat.mul_le_mul_left (2 ^ (L - 52)) h
      have p := Nat.two_pow_pos (L - 52)
      generalize rq mag (2 ^ (L - 52)) = x at *
      generalize 2 ^ (L - 52) * x = z at *
      generalize 2 ^ (L - 52) = t at *
      omega
    · exact h
  rw [← hlast]
  unfold Ieee.Format.nearest
  rw [if_neg (Nat.pos_iff_ne_zero.1 hm)]
  simp only [hleast, hfb, hbin, hinf]
  rw [hmax, show (place - last).toNat = 0 by omega, show (last - place).toNat = L - 52 by omega, Nat.shiftLeft_zero, cut_rq _ _ _ (by rw [← hL]; omega)]
  congr 1
  have e : (last - -1074).toNat * 2 ^ 52 = last.toNat * 2 ^ 52 + 1074 * 2 ^ 52 - (-last).toNat * 2 ^ 52 := by
    rw [← Nat.add_mul, ← Nat.sub_mul]; congr 1; omega
  rw [← e, Nat.min_eq_left]
  have : (last - -1074).toNat ≤ 2044 := by omega
  exact Nat.le_trans (Nat.add_le_add (Nat.mul_le_mul_right (2 ^ 52) this) hk) (by decide)

/-- A whole number by a power of ten, by the model's own quotient. -/
theorem div_near (d K m k : Nat) (neg : Bool) (h1 : 4503599627370496 ≤ m) (h2 : m < 9007199254740992) (hK1 : 1022 ≤ K) (hK2 : K ≤ 1074) (hm : m = d * 2 ^ (1074 - K)) (hk : k < 23) :
    ∃ R, Ieee.double.div (Ieee.double.word neg (K * 4503599627370496 + m)) (tens.getD k 0) = some (Ieee.double.word neg R) ∧ Near d (10 ^ k) R := by
  obtain ⟨t, e, hr, ht, t0, t1, e0, e1⟩ := ten_at k hk
  have hml : m.log2 = 52 := by
    have a := (Nat.le_log2 (by omega : m ≠ 0)).2 (show 2 ^ 52 ≤ m by omega)
    have b := log2_lt_of (by omega : m ≠ 0) (show m < 2 ^ 53 by omega)
    omega
  have tl1 := Nat.log2_self_le (Nat.pos_iff_ne_zero.1 t0)
  have tl2 := Nat.lt_log2_self (n := t)
  have tl3 := log2_lt_of (Nat.pos_iff_ne_zero.1 t0) t1
  obtain ⟨lt, hlt⟩ : ∃ lt, lt = t.log2 := ⟨_, rfl⟩
  rw [← hlt] at tl1 tl2 tl3
  obtain ⟨more, hmore⟩ : ∃ more, more = 52 + 2 + t.log2 - m.log2 := ⟨_, rfl⟩
  have hmore2 : more = 2 + lt := by rw [hmore, hml, ← hlt]; omega
  obtain ⟨dv, hdv⟩ : ∃ dv, dv = m * 2 ^ more := ⟨_, rfl⟩
  obtain ⟨st, hst⟩ : ∃ st, st = (if dv % t = 0 then 0 else 1) := ⟨_, rfl⟩
  have hst2 : st < 2 := by rw [hst]; split <;> omega
  have hb1 : 2 ^ 54 ≤ 2 * (dv / t) + st := by
    have : 2 ^ 53 ≤ dv / t := by
      rw [Nat.le_div_iff_mul_le t0, hdv, hmore2]
      have g1 : 2 ^ 53 * t ≤ 2 ^ 53 * 2 ^ (lt + 1) := Nat.mul_le_mul_left _ (Nat.le_of_lt tl2)
      have g2 : 2 ^ 52 * 2 ^ (2 + lt) ≤ m * 2 ^ (2 + lt) := Nat.mul_le_mul_right _ (by omega)
      have g3 : (2 : Nat) ^ 53 * 2 ^ (lt + 1) = 2 ^ 52 * 2 ^ (2 + lt) := by rw [← Nat.pow_add, ← Nat.pow_add]; congr 1; omega
      omega
    omega
  have hb2 : 2 * (dv / t) + st < 2 ^ 58 := by
    have : dv / t < 2 ^ 55 := by
      rw [Nat.div_lt_iff_lt_mul t0, hdv, hmore2]
      have g1 : 2 ^ 55 * 2 ^ lt ≤ 2 ^ 55 * t := Nat.mul_le_mul_left _ tl1
      have g2 : m * 2 ^ (2 + lt) < 2 ^ 53 * 2 ^ (2 + lt) := Nat.mul_lt_mul_of_pos_right (by omega) (Nat.two_pow_pos _)
      have g3 : (2 : Nat) ^ 55 * 2 ^ lt = 2 ^ 53 * 2 ^ (2 + lt) := by rw [← Nat.pow_add, ← Nat.pow_add]; congr 1; omega
      omega
    omega
  obtain ⟨mag, hmag⟩ : ∃ mag, mag = 2 * (dv / t) + st := ⟨_, rfl⟩
  rw [← hmag] at hb1 hb2
  have hm0 : mag ≠ 0 := by omega
  have l1 := (Nat.le_log2 hm0).2 hb1
  have l2 := log2_lt_of hm0 hb2
  have ml1 := Nat.log2_self_le hm0
  have ml2 := Nat.lt_log2_self (n := mag)
  obtain ⟨L, hL⟩ : ∃ L, L = mag.log2 := ⟨_, rfl⟩
  rw [← hL] at l1 l2 ml1 ml2
  obtain ⟨place, hpl⟩ : ∃ place : Int, place = (K : Int) - 1074 - e - more - 1 := ⟨_, rfl⟩
  have hf := nearest_form neg mag place L (Nat.pos_iff_ne_zero.2 hm0) hL (by omega) (by omega) (by omega)
  obtain ⟨T, hT⟩ : ∃ T, L - 52 = T + 1 := ⟨L - 53, by omega⟩
  rw [hT, hmag, hst, rq_sticky dv t T t0 (by omega)] at hf
  obtain ⟨last, hlast⟩ : ∃ last : Int, last = place + L - 52 := ⟨_, rfl⟩
  rw [← hlast, ← Nat.add_mul, ← Nat.sub_mul] at hf
  obtain ⟨q, hq⟩ : ∃ q, q = dv / t := ⟨_, rfl⟩
  rw [← hq] at hmag
  have q1 : 2 ^ (52 + T) ≤ q := by
    have e5 : 2 ^ L = 2 * 2 ^ (52 + T) := by rw [← Nat.pow_succ']; congr 1; omega
    omega
  have q2 : q + 1 ≤ 2 ^ (53 + T) := by
    have e5 : 2 ^ (L + 1) = 2 * 2 ^ (53 + T) := by rw [← Nat.pow_succ']; congr 1; omega
    omega
  have d1 : q * t ≤ dv := by rw [hq]; exact Nat.div_mul_le_self _ _
  have d2 : dv < (q + 1) * t := by rw [hq]; exact Nat.lt_mul_of_div_lt (Nat.lt_succ_self _) t0
  have n1 : 2 ^ 52 * (t * 2 ^ T) ≤ dv := by
    have : 2 ^ (52 + T) * t ≤ q * t := Nat.mul_le_mul_right _ q1
    have e5 : 2 ^ 52 * (t * 2 ^ T) = 2 ^ (52 + T) * t := by rw [Nat.pow_add]; generalize 2 ^ T = x; grind
    omega
  have n2 : dv < 2 ^ 53 * (t * 2 ^ T) := by
    have : (q + 1) * t ≤ 2 ^ (53 + T) * t := Nat.mul_le_mul_right _ q2
    have e5 : 2 ^ 53 * (t * 2 ^ T) = 2 ^ (53 + T) * t := by rw [Nat.pow_add]; generalize 2 ^ T = x; grind
    omega
  have hcore : d * 2 ^ (-last).toNat * (t * 2 ^ T) = dv * (10 ^ k * 2 ^ last.toNat) := by
    obtain ⟨j, hj⟩ : ∃ j, j = 1074 - K := ⟨_, rfl⟩
    obtain ⟨a, ha⟩ : ∃ a, a = e.toNat := ⟨_, rfl⟩
    obtain ⟨b, hb⟩ : ∃ b, b = (-e).toNat := ⟨_, rfl⟩
    obtain ⟨x, hx⟩ : ∃ x, x = last.toNat := ⟨_, rfl⟩
    obtain ⟨y, hy⟩ : ∃ y, y = (-last).toNat := ⟨_, rfl⟩
    rw [hdv, hm, ← hj, ← hx, ← hy]
    rw [← ha, ← hb] at ht
    have key : y + T + b = j + more + x + a := by omega
    refine Nat.eq_of_mul_eq_mul_right (Nat.two_pow_pos a) ?_
    have l : d * 2 ^ y * (t * 2 ^ T) * 2 ^ a = d * (t * 2 ^ a) * 2 ^ (y + T) := by rw [Nat.pow_add]; generalize 2 ^ y = p; generalize 2 ^ T = q; generalize 2 ^ a = r; grind
    have r : d * 2 ^ j * 2 ^ more * (10 ^ k * 2 ^ x) * 2 ^ a = d * 10 ^ k * 2 ^ (j + more + x + a) := by rw [Nat.pow_add, Nat.pow_add, Nat.pow_add]; generalize 2 ^ j = p; generalize 2 ^ more = q; generalize 2 ^ x = r; generalize 2 ^ a = z; generalize 10 ^ k = w; grind
    rw [l, r, ht, ← key, Nat.pow_add (2) (y + T) b]
    generalize 2 ^ (y + T) = p; generalize 2 ^ b = q; generalize 10 ^ k = w; grind
  have hN := near_core (a := d) (b := 10 ^ k) (Nat.pow_pos (by decide)) (Nat.mul_pos t0 (Nat.two_pow_pos T)) hcore n1 n2 (by omega)
  refine ⟨_, ?_, hN⟩
  unfold Ieee.Format.div
  rw [read_word neg K m h1 h2 (by omega), hr]
  simp only [Ieee.Datum.quotient, if_neg (Nat.pos_iff_ne_zero.1 t0), Option.map_some, Ieee.Format.write, Bool.xor_false]
  rw [show Ieee.double.fractionBits + 2 + t.log2 - m.log2 = more from by rw [hmore]; rfl, Nat.shiftLeft_eq, ← hdv]
  have hsb : (dv % t != 0).toNat = st := by rw [hst]; by_cases h : dv % t = 0 <;> simp [h]
  rw [hsb, hst, show (K : Int) - 1074 - e - (more : Int) - 1 = place from hpl.symm]
  exact congrArg some hf
end Fl
end Go.Proofs.YtmeimofnmpmaoaaGreatDoor
