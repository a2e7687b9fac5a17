/- Plain facts: long division of numbers in words. -/
import Derived.Test.YtmjmcinnbmjpdaaNum3
namespace Go.Proofs.Ytmjmcinnbmjpdaa

/-! a multiple is subtracted in place -/
structure SmInv (zs0 ys : List Nat) (q k : Nat) (zs : List Nat) (cy : Nat) : Prop where
  len : zs.length = zs0.length
  w32 : W32 zs
  hcy : cy < 4294967296
  rest : zs.drop k = zs0.drop k
  eq : val (zs.take k) + val (ys.take k) * q = val (zs0.take k) + 4294967296 ^ k * cy
theorem SmInv.start {zs0 ys : List Nat} {q : Nat} (h : W32 zs0) : SmInv zs0 ys q 0 zs0 0 := ⟨rfl, h, by omega, rfl, by simp [val]⟩
theorem SmInv.at_ {zs0 ys zs : List Nat} {q k cy : Nat} (h : SmInv zs0 ys q k zs cy) (hk : k < zs.length) : zs[k] = zs0.getD k 0 := by
  have := congrArg (fun l : List Nat => l.getD 0 0) h.rest
  simp only [List.getD, List.getElem?_drop, Nat.add_zero] at this
  rw [List.getElem?_eq_getElem hk] at this
  simpa [List.getD] using this
theorem sm_step_eq {p cy y q z d b a c e s lo hi : Nat} (h : a + c * q = e + p * cy) (hs : s = cy + y * q) (hp : p * lo + p * 4294967296 * hi = p * s) (he : d + lo = z + 4294967296 * b) :
    a + p * d + (c + p * y) * q = e + p * z + p * 4294967296 * (hi + b) := by
  subst hs
  have e1 := congrArg (fun n => p * n) he
  simp only [Nat.mul_add, ← Nat.mul_assoc] at e1 hp
  rw [Nat.add_mul, Nat.mul_add (p * 4294967296)]
  omega
theorem SmInv.step {zs0 ys zs : List Nat} {q k cy d b : Nat} (h : SmInv zs0 ys q k zs cy) (hy : W32 ys) (hq : q < 4294967296) (hk : k < zs.length) (hky : k < ys.length) {s : Nat} (hs : s = cy + ys[k] * q) (hd : d < 4294967296) (_hb : b ≤ 1)
    (he : d + s % 4294967296 = zs[k] + 4294967296 * b) : SmInv zs0 ys q (k + 1) (zs.set k d) (s / 4294967296 + b) := by
  have h2 := mul_word (hy.get hky) hq
  have h3 := h.hcy
  refine ⟨by simpa using h.len, h.w32.set _ hd, ?_, ?_, ?_⟩
  · generalize ys[k] * q = t at *
    omega
  · rw [drop_set_succ, ← List.drop_drop, h.rest, List.drop_drop]
  · rw [val_take_set _ hk, val_take_getD zs0, val_take_getD ys, ← h.at_ hk, getD_at hky, Nat.pow_succ]
    have hp := pow_carry k s
    rw [Nat.pow_succ] at hp
    exact sm_step_eq h.eq hs hp he
theorem SmInv.done {zs0 ys zs : List Nat} {q cy d b : Nat} (h : SmInv zs0 ys q ys.length zs cy) (hl : zs0.length = ys.length + 1) (he : d + cy = zs0.getD ys.length 0 + 4294967296 * b) :
    val (zs.set ys.length d) + val ys * q = val zs0 + 4294967296 ^ (ys.length + 1) * b := by
  have hk : ys.length < zs.length := by have := h.len; omega
  have e := h.eq
  rw [List.take_of_length_le (l := ys) (Nat.le_refl _)] at e
  have e1 := val_take_set (zs := zs) (k := ys.length) d hk
  rw [List.take_of_length_le (by simp; have := h.len; omega)] at e1
  have e2 := val_take_getD zs0 ys.length
  rw [List.take_of_length_le (by omega)] at e2
  have e3 := congrArg (fun n => 4294967296 ^ ys.length * n) he
  simp only [Nat.mul_add] at e3
  rw [e1, e2, Nat.pow_succ, Nat.mul_assoc]
  omega

/-! the estimate of a word: v1 and v2 are the two first words of the divisor, top the two first words of the part, u2 the third; E is the unit of the words that follow. -/
structure Est (E v1 v2 u2 top D P : Nat) : Prop where
  d1 : E * (v2 + 4294967296 * v1) ≤ D
  d2 : D < E * (v2 + 4294967296 * v1) + E
  p1 : E * (u2 + 4294967296 * top) ≤ P
  p2 : P < E * (u2 + 4294967296 * top) + E
  hv2 : v2 < 4294967296
  hu2 : u2 < 4294967296
  hv : 2147483648 ≤ v1
  hv1 : v1 < 4294967296
  lt : P < 4294967296 * D
section
variable {E v1 v2 u2 top D P q r : Nat}
theorem Est.first (h : Est E v1 v2 u2 top D P) : P < (top / v1 + 1) * D := by
  have hq : top + 1 ≤ (top / v1 + 1) * v1 := by
    have := Nat.div_add_mod top v1
    have h2 := Nat.mod_lt top (show 0 < v1 by have := h.hv; omega)
    rw [Nat.add_mul, Nat.mul_comm (top / v1)]
    omega
  have h1 : E * (u2 + 4294967296 * top) + E ≤ E * (4294967296 * ((top / v1 + 1) * v1)) := by
    have : u2 + 4294967296 * top + 1 ≤ 4294967296 * ((top / v1 + 1) * v1) := by have := h.hu2; omega
    have := Nat.mul_le_mul_left E this
    rwa [Nat.mul_add, Nat.mul_one] at this
  have h2 : E * (4294967296 * ((top / v1 + 1) * v1)) ≤ (top / v1 + 1) * D := by
    have e : E * (4294967296 * ((top / v1 + 1) * v1)) = (top / v1 + 1) * (E * (4294967296 * v1)) := by
      rw [← Nat.mul_assoc 4294967296, Nat.mul_comm 4294967296, Nat.mul_assoc, Nat.mul_left_comm]
    rw [e]
    refine Nat.mul_le_mul_left _ (Nat.le_trans ?_ h.d1)
    exact Nat.mul_le_mul_left _ (by omega)
  have := h.p2
  omega
theorem Est.big (h : Est E v1 v2 u2 top D P) (hq : 4294967296 ≤ q) : P < (q - 1 + 1) * D := by
  rw [show q - 1 + 1 = q by omega]
  have := Nat.mul_le_mul_right D hq
  have := h.lt
  omega
theorem Est.over (h : Est E v1 v2 u2 top D P) (hr : q * v1 + r = top) (hg : r * 4294967296 + u2 < q * v2) : P < (q - 1 + 1) * D := by
  have hq0 : 0 < q := by
    rcases Nat.eq_zero_or_pos q with rfl | h
    · rw [Nat.zero_mul] at hg; omega
    · exact h
  rw [show q - 1 + 1 = q by omega]
  have h1 : E * (u2 + 4294967296 * top) + E ≤ E * (q * v2 + 4294967296 * (q * v1)) := by
    have : u2 + 4294967296 * top + 1 ≤ q * v2 + 4294967296 * (q * v1) := by rw [← hr]; omega
    have := Nat.mul_le_mul_left E this
    rwa [Nat.mul_add, Nat.mul_one] at this
  have h2 : E * (q * v2 + 4294967296 * (q * v1)) ≤ q * D := by
    have e : E * (q * v2 + 4294967296 * (q * v1)) = q * (E * (v2 + 4294967296 * v1)) := by
      rw [Nat.mul_left_comm 4294967296, ← Nat.mul_add, Nat.mul_left_comm]
    rw [e]
    exact Nat.mul_le_mul_left _ h.d1
  have := h.p2
  omega
theorem Est.last (h : Est E v1 v2 u2 top D P) (hr : q * v1 + r = top) (hq : q < 4294967296) (hg : q * v2 ≤ r * 4294967296 + u2) : q * D ≤ P + D := by
  have h1 : q * D ≤ q * (E * (v2 + 4294967296 * v1)) + q * E := by
    rw [← Nat.mul_add]
    exact Nat.mul_le_mul_left _ (Nat.le_of_lt h.d2)
  have h2 : q * (E * (v2 + 4294967296 * v1)) ≤ E * (u2 + 4294967296 * top) := by
    have e : q * (E * (v2 + 4294967296 * v1)) = E * (q * v2 + 4294967296 * (q * v1)) := by
      rw [Nat.mul_left_comm 4294967296, ← Nat.mul_add, Nat.mul_left_comm]
    rw [e]
    exact Nat.mul_le_mul_left _ (by rw [← hr]; omega)
  have h3 : q * E ≤ D := by
    have : q * E ≤ E * (v2 + 4294967296 * v1) := by
      rw [Nat.mul_comm]
      exact Nat.mul_le_mul_left _ (by have := h.hv; omega)
    have := h.d1
    omega
  have := h.p1
  omega
/-- the first word bounds the estimate once the remainder has grown out of a word. -/
theorem Est.out (h : Est E v1 v2 u2 top D P) (hr : q * v1 + r = top) (hg : 4294967296 ≤ r) : q < 4294967296 ∧ q * v2 ≤ r * 4294967296 + u2 := by
  have hE : 0 < E := by
    rcases Nat.eq_zero_or_pos E with h0 | h0
    · have := h.d2; rw [h0] at this; have := h.d1; rw [h0] at this; omega
    · exact h0
  have h1 : E * (u2 + 4294967296 * top) < E * (4294967296 * (v2 + 4294967296 * v1 + 1)) := by
    refine Nat.lt_of_le_of_lt h.p1 (Nat.lt_of_lt_of_le h.lt ?_)
    rw [Nat.mul_left_comm]
    refine Nat.mul_le_mul_left _ ?_
    rw [Nat.mul_add, Nat.mul_one]
    exact Nat.le_of_lt h.d2
  have h2 := Nat.lt_of_mul_lt_mul_left h1
  have hv2 := h.hv2
  have hv := h.hv
  have hq : q < 4294967296 := by
    rcases Nat.lt_or_ge q 4294967296 with hl | hl
    · exact hl
    · have := Nat.mul_le_mul_right v1 hl
      omega
  refine ⟨hq, ?_⟩
  have h3 : q * v2 ≤ 4294967296 * 4294967296 := Nat.mul_le_mul (by omega) (by omega)
  omega
end
/-- the numbers of a part and of a divisor are as the estimate takes them. -/
theorem Est.of {ps ds : List Nat} {n : Nat} (hp : W32 ps) (hd : W32 ds) (hpl : ps.length = n + 2 + 1) (hdl : ds.length = n + 2) (hv : 2147483648 ≤ ds[n + 1]) (hlt : val ps < 4294967296 * val ds) :
    Est (4294967296 ^ n) ds[n + 1] ds[n] ps[n] (ps[n + 1] + 4294967296 * ps[n + 2]) (val ds) (val ps) := by
  have d1 := val_take_succ ds n (by omega)
  have d2 := val_take_succ ds (n + 1) (by omega)
  rw [List.take_of_length_le (by omega)] at d2
  have p1 := val_take_succ ps n (by omega)
  have p2 := val_take_succ ps (n + 1) (by omega)
  have p3 := val_take_succ ps (n + 2) (by omega)
  rw [List.take_of_length_le (by omega)] at p3
  have ld := val_lt (hd.take n)
  have lp := val_lt (hp.take n)
  rw [List.length_take, Nat.min_eq_left (by omega)] at ld lp
  have hv2 := hd.get (k := n) (by omega)
  have hv1 := hd.get (k := n + 1) (by omega)
  have hu2 := hp.get (k := n) (by omega)
  have e1 : val ds = val (ds.take n) + 4294967296 ^ n * (ds[n] + 4294967296 * ds[n + 1]) := by
    rw [d2, d1, Nat.mul_add, Nat.pow_succ, Nat.mul_assoc]; omega
  have e2 : val ps = val (ps.take n) + 4294967296 ^ n * (ps[n] + 4294967296 * (ps[n + 1] + 4294967296 * ps[n + 2])) := by
    rw [p3, p2, p1]
    simp only [Nat.pow_succ]
    generalize 4294967296 ^ n = p
    grind
  exact ⟨by omega, by omega, by omega, by omega, hv2, hu2, hv, hv1, hlt⟩

theorem Est.ofn {ps ds : List Nat} {n : Nat} (hp : W32 ps) (hd : W32 ds) (h2 : 2 ≤ n) (hpl : ps.length = n + 1) (hdl : ds.length = n) (hv : 2147483648 ≤ ds[n - 1]) (hlt : val ps < 4294967296 * val ds) :
    Est (4294967296 ^ (n - 2)) ds[n - 1] ds[n - 2] ps[n - 2] (ps[n] * 4294967296 + ps[n - 1]) (val ds) (val ps) := by
  obtain ⟨k, rfl⟩ : ∃ k, n = k + 2 := ⟨n - 2, by omega⟩
  have h := Est.of hp hd hpl hdl hv hlt
  have e : ps[k + 2] * 4294967296 + ps[k + 1] = ps[k + 1] + 4294967296 * ps[k + 2] := by omega
  rw [← e] at h
  exact h

/-! the rounds of the division -/
structure LInv (D N L K i : Nat) (R Q : List Nat) : Prop where
  rl : R.length = L
  rw : W32 R
  ql : Q.length = K
  qw : W32 Q
  lt : val (R.drop i) < D
  eq : val R + 4294967296 ^ i * val (Q.drop i) * D = N
theorem val_drop_succ (xs : List Nat) (i : Nat) (h : i < xs.length) : val (xs.drop i) = xs[i] + 4294967296 * val (xs.drop (i + 1)) := by
  rw [List.drop_eq_getElem_cons h]; rfl
theorem LInv.part {D N L K i n : Nat} {R Q : List Nat} (h : LInv D N L K (i + 1) R Q) (hi : i < K) (hL : n + K = L) (hD : D < 4294967296 ^ n) :
    val (R.drop (i + n + 1)) = 0 ∧ val ((R.drop i).take (n + 1)) = val (R.drop i) ∧ val ((R.drop i).take (n + 1)) < 4294967296 * D := by
  have hr := h.rl
  have e1 := val_drop_succ R i (by omega)
  have hx := h.rw.get (k := i) (by omega)
  have hlt := h.lt
  have h1 : val (R.drop i) < 4294967296 * D := by omega
  have e2 := val_split (R.drop i) (n + 1) (by rw [List.length_drop]; omega)
  rw [List.drop_drop, ← Nat.add_assoc, Nat.pow_succ] at e2
  have h0 : val (R.drop (i + n + 1)) = 0 := by
    rcases Nat.eq_zero_or_pos (val (R.drop (i + n + 1))) with h0 | h0
    · exact h0
    · have : 4294967296 ^ (n + 1) * 1 ≤ 4294967296 ^ (n + 1) * val (R.drop (i + n + 1)) := Nat.mul_le_mul_left _ h0
      rw [Nat.pow_succ] at this
      omega
  rw [h0, Nat.mul_zero] at e2
  exact ⟨h0, by omega, by omega⟩
theorem LInv.step {D N L K i n w : Nat} {R Q ps : List Nat} (h : LInv D N L K (i + 1) R Q) (hi : i < K) (hL : n + K = L) (hD : D < 4294967296 ^ n) (hps : ps.length = n + 1) (hpw : W32 ps) (hw : w < 4294967296)
    (hlt : val ps < D) (he : val ps + w * D = val ((R.drop i).take (n + 1))) : LInv D N L K i (R.take i ++ ps ++ R.drop (i + n + 1)) (Q.set i w) := by
  obtain ⟨h0, h1, _⟩ := h.part hi hL hD
  have hr := h.rl
  have hq := h.ql
  have htl : (R.take i).length = i := by rw [List.length_take]; omega
  have hd : val ((R.take i ++ ps ++ R.drop (i + n + 1)).drop i) = val ps := by
    rw [List.append_assoc, List.drop_append_of_le_length (by omega), List.drop_of_length_le (by omega), List.nil_append, val_append, h0, Nat.mul_zero, Nat.add_zero]
  refine ⟨?_, ((h.rw.take _).append hpw).append (h.rw.drop _), by simpa using hq, h.qw.set _ hw, by rw [hd]; exact hlt, ?_⟩
  · simp only [List.length_append, htl, hps, List.length_drop, hr]; omega
  · have e := h.eq
    have eR := val_split R i (by omega)
    have e2 : val (R.take i ++ ps ++ R.drop (i + n + 1)) = val (R.take i) + 4294967296 ^ i * val ps := by
      rw [val_append, h0, Nat.mul_zero, Nat.add_zero, val_append, htl]
    have e3 : val ((Q.set i w).drop i) = w + 4294967296 * val (Q.drop (i + 1)) := by
      rw [val_drop_succ _ i (by simp; omega), drop_set_succ]
      simp
    rw [e2, e3, ← e, eR, ← h1, ← he, Nat.pow_succ]
    generalize 4294967296 ^ i = p
    generalize val (Q.drop (i + 1)) = t
    rw [Nat.mul_add p w, Nat.add_mul, Nat.mul_add p (val ps), ← Nat.mul_assoc p w D, ← Nat.mul_assoc p 4294967296 t]
    omega
theorem LInv.start {a b s la lb : Nat} {R : List Nat} {Q : List Nat} (hR : R.length = la + 1) (hRw : W32 R) (hQ : Q = List.replicate (la - lb + 1) 0) (hv : val R = a * 2 ^ s) (hab : lb ≤ la) (h1 : 0 < lb) (ha : a < 4294967296 ^ la) (hb : 4294967296 ^ (lb - 1) ≤ b) :
    LInv (b * 2 ^ s) (a * 2 ^ s) (la + 1) (la - lb + 1) (la - lb + 1) R Q := by
  subst hQ
  refine ⟨hR, hRw, by simp, W32.replicate _, ?_, ?_⟩
  · rw [val_drop hRw, hv]
    refine Nat.div_lt_of_lt_mul ?_
    rw [← Nat.mul_assoc]
    refine Nat.mul_lt_mul_of_pos_right ?_ (Nat.two_pow_pos s)
    refine Nat.lt_of_lt_of_le ha ?_
    have e : 4294967296 ^ la = 4294967296 ^ (la - lb + 1) * 4294967296 ^ (lb - 1) := by rw [← Nat.pow_add]; congr 1; omega
    rw [e]
    exact Nat.mul_le_mul_left _ hb
  · rw [List.drop_of_length_le (by simp), hv]
    simp [val]
theorem LInv.done {a b s L K : Nat} {R Q : List Nat} (h : LInv (b * 2 ^ s) (a * 2 ^ s) L K 0 R Q) : val Q = a / b ∧ val R / 2 ^ s = a % b := by
  have hp := Nat.two_pow_pos s
  have e := h.eq
  have hl := h.lt
  rw [List.drop_zero] at e hl
  rw [Nat.pow_zero, Nat.one_mul] at e
  have hb : 0 < b * 2 ^ s := by omega
  have e1 : val Q = a * 2 ^ s / (b * 2 ^ s) := by
    rw [← e, Nat.add_mul_div_right _ _ hb, Nat.div_eq_of_lt hl, Nat.zero_add]
  have e2 : val R = a * 2 ^ s % (b * 2 ^ s) := by
    rw [← e, Nat.add_mul_mod_self_right, Nat.mod_eq_of_lt hl]
  refine ⟨by rw [e1, Nat.mul_div_mul_right _ _ hp], ?_⟩
  rw [e2, Nat.mul_mod_mul_right, Nat.mul_div_cancel _ hp]
/-- a subtraction that did not pass 0. -/
theorem sub_fit {P D w p1 : Nat} (h1 : P < (w + 1) * D) (h2 : p1 + D * w = P) : p1 < D ∧ p1 + w * D = P := by
  rw [Nat.add_mul, Nat.one_mul] at h1
  rw [Nat.mul_comm D] at h2
  omega
/-- a subtraction that passed 0 is made good by one addition. -/
theorem sub_back {P D w p1 p2 M c : Nat} (h1 : P < w * D) (h2 : w * D ≤ P + D) (h3 : p1 + D * w = P + M) (h4 : p2 + M * c = p1 + D) (hc : c ≤ 1) (h5 : p2 < M) : 0 < w ∧ p2 < D ∧ p2 + (w - 1) * D = P := by
  have hw : 0 < w := by
    rcases Nat.eq_zero_or_pos w with rfl | h
    · rw [Nat.zero_mul] at h1; omega
    · exact h
  obtain ⟨v, rfl⟩ : ∃ v, w = v + 1 := ⟨w - 1, by omega⟩
  rw [Nat.mul_comm D] at h3
  rw [Nat.add_mul, Nat.one_mul] at h1 h2 h3
  rw [Nat.add_sub_cancel]
  generalize v * D = T at *
  obtain rfl | rfl : c = 0 ∨ c = 1 := by omega
  · rw [Nat.mul_zero] at h4; omega
  · rw [Nat.mul_one] at h4; omega

/-! division by a word -/
structure DwInv (xs zs : List Nat) (v i r : Nat) : Prop where
  len : zs.length = xs.length
  w32 : W32 zs
  lt : r < v
  eq : val (xs.drop i) = val (zs.drop i) * v + r
theorem DwInv.start {xs zs : List Nat} {v : Nat} (hl : zs.length = xs.length) (hw : W32 zs) (hv : 0 < v) : DwInv xs zs v xs.length 0 := by
  refine ⟨hl, hw, hv, ?_⟩
  rw [List.drop_of_length_le (Nat.le_refl _), List.drop_of_length_le (by omega)]
  simp [val]
theorem dw_lt {v r x : Nat} (hr : r < v) (hx : x < 4294967296) : (r * 4294967296 + x) / v < 4294967296 := by
  rw [Nat.div_lt_iff_lt_mul (by omega)]
  have : (r + 1) * 4294967296 ≤ v * 4294967296 := Nat.mul_le_mul_right _ hr
  rw [Nat.mul_comm 4294967296]
  omega
theorem DwInv.step {xs zs : List Nat} {v i r : Nat} (h : DwInv xs zs v (i + 1) r) (hx : W32 xs) (hi : i < xs.length) :
    DwInv xs (zs.set i ((r * 4294967296 + xs[i]) / v)) v i ((r * 4294967296 + xs[i]) % v) := by
  have hl := h.len
  have hlt := h.lt
  have hq := dw_lt hlt (hx.get hi)
  refine ⟨by simpa using hl, h.w32.set _ hq, Nat.mod_lt _ (by omega), ?_⟩
  rw [val_drop_succ xs i hi, val_drop_succ _ i (by simp; omega), drop_set_succ, h.eq]
  simp only [List.getElem_set_self]
  have e := Nat.div_add_mod (r * 4294967296 + xs[i]) v
  rw [Nat.mul_comm v] at e
  rw [Nat.add_mul, Nat.mul_assoc]
  omega
theorem DwInv.done {xs zs : List Nat} {v r : Nat} (h : DwInv xs zs v 0 r) : val zs = val xs / v ∧ r = val xs % v := by
  have e := h.eq
  have hl := h.lt
  rw [List.drop_zero, List.drop_zero] at e
  rw [e, Nat.mul_comm, Nat.mul_add_div (by omega), Nat.div_eq_of_lt hl, Nat.mul_add_mod, Nat.mod_eq_of_lt hl]
  exact ⟨rfl, rfl⟩
end Go.Proofs.Ytmjmcinnbmjpdaa
