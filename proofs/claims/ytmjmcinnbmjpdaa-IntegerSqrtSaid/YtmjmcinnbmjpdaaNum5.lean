/- Plain facts: the square root, digit by digit in doubling steps. -/
import Derived.Test.YtmjmcinnbmjpdaaNum4
namespace Go.Proofs.Ytmjmcinnbmjpdaa

theorem sq_nonneg (x : Int) : 0 ≤ x * x := by
  rcases Int.le_total 0 x with h | h
  · exact Int.mul_nonneg h h
  · exact Int.mul_nonneg_of_nonpos_of_nonpos h h
theorem amgm (x y : Int) : 4 * (x * y) ≤ (x + y) * (x + y) := by
  have := sq_nonneg (x - y)
  grind
/-- the core of the square root's round, in integers. h is half of D. -/
theorem sq_lo {h r q K n : Int} (hh : 1 ≤ h) (hr : 1 ≤ r) (hhr : h ≤ r) (hq : 0 ≤ q) (hK : 1 ≤ K)
    (h1 : q * (4 * K * h * r) ≤ n) (hlo : (r - 1) * (r - 1) * (K * (2 * h * (2 * h))) < n) (hhi : n < (r + 1) * (r + 1) * (K * (2 * h * (2 * h)))) :
    (h * r + q - 1) * (h * r + q - 1) * K < n := by
  refine Int.not_le.1 fun hc => ?_
  have a1 : 4 * h * r * q ≤ (h * r + q - 1) * (h * r + q - 1) := by
    have : (4 * h * r * q) * K ≤ ((h * r + q - 1) * (h * r + q - 1)) * K := by grind
    exact Int.le_of_mul_le_mul_right this (by omega)
  have a2 : (2 * h * (r - 1)) * (2 * h * (r - 1)) < (h * r + q - 1) * (h * r + q - 1) := by
    have : ((2 * h * (r - 1)) * (2 * h * (r - 1))) * K < ((h * r + q - 1) * (h * r + q - 1)) * K := by grind
    exact Int.lt_of_mul_lt_mul_right this (by omega)
  have a3 : q * r < h * ((r + 1) * (r + 1)) := by
    have : (q * r) * (4 * K * h) < (h * ((r + 1) * (r + 1))) * (4 * K * h) := by grind
    exact Int.lt_of_mul_lt_mul_right this (Int.mul_nonneg (by omega) (by omega))
  have hrr : 1 ≤ h * r := by
    have := Int.mul_le_mul hh hr (by omega) (by omega)
    omega
  have a4 : 2 * h * (r - 1) < h * r + q - 1 := by
    refine Int.not_le.1 fun h4 => ?_
    have : (h * r + q - 1) * (h * r + q - 1) ≤ (2 * h * (r - 1)) * (2 * h * (r - 1)) := Int.mul_le_mul h4 h4 (by omega) (Int.mul_nonneg (by omega) (by omega))
    omega
  have a5 : q < h * r + 2 * h + 1 := by
    have : q * r < (h * r + 2 * h + 1) * r := by grind
    exact Int.lt_of_mul_lt_mul_right this (by omega)
  have x1 : -(2 * h - 1) ≤ q - 1 - h * r := by grind
  have x2 : q - 1 - h * r ≤ 2 * h - 1 := by grind
  have a6 : 0 ≤ (2 * h - 1 - (q - 1 - h * r)) * (2 * h - 1 + (q - 1 - h * r)) := Int.mul_nonneg (by omega) (by omega)
  have a7 : h * h ≤ h * r := Int.mul_le_mul_of_nonneg_left hhr (by omega)
  grind
theorem sq_hi {h r q K n : Int} (hK : 0 ≤ K) (h2 : n < (q + 1) * (4 * K * h * r)) : n < (h * r + q + 1) * (h * r + q + 1) * K := by
  have a := amgm (h * r) (q + 1)
  have b := Int.mul_le_mul_of_nonneg_right a hK
  grind
/-- what a root knows: it is right but for the digits from e on to c. -/
structure SqInv (n c e r : Nat) : Prop where
  lo : (r - 1) * (r - 1) * 4 ^ (c - e) < n
  hi : n < (r + 1) * (r + 1) * 4 ^ (c - e)
  ge : 2 ^ e ≤ r
theorem pow4 (k : Nat) : 4 ^ k = 2 ^ k * 2 ^ k := by
  rw [← Nat.mul_pow]
theorem pow_cancel {a b : Nat} (h : 4 ^ a < (b + 1) * (b + 1)) : 2 ^ a ≤ b := by
  rw [pow4] at h
  exact Nat.lt_succ_iff.1 (Nat.mul_self_lt_mul_self_iff.1 h)
theorem SqInv.step {n c e d r : Nat} (hI : SqInv n c e r) (hed : e < d) (hdc : d ≤ c) (hd : d ≤ 2 * e + 1) (hn : 4 ^ c ≤ n) : SqInv n c d (r * 2 ^ (d - e - 1) + n / 2 ^ (2 * c - e - d + 1) / r) := by
  have hr1 : 1 ≤ r := Nat.le_trans (Nat.two_pow_pos e) hI.ge
  have e1 : 4 ^ (c - e) = 4 ^ (c - d) * (2 * 2 ^ (d - e - 1) * (2 * 2 ^ (d - e - 1))) := by
    rw [show c - e = (c - d) + (d - e) by omega, Nat.pow_add, pow4 (d - e), show d - e = (d - e - 1) + 1 by omega, Nat.pow_succ, Nat.add_sub_cancel, Nat.mul_comm _ 2]
  have e2 : 2 ^ (2 * c - e - d + 1) = 4 * 4 ^ (c - d) * 2 ^ (d - e - 1) := by
    rw [show 2 * c - e - d + 1 = 2 + (c - d) + (c - d) + (d - e - 1) by omega, Nat.pow_add, Nat.pow_add, Nat.pow_add, pow4, ← Nat.mul_assoc]
  have hh : 2 ^ (d - e - 1) ≤ r := Nat.le_trans (Nat.pow_le_pow_right (by omega) (by omega)) hI.ge
  have hh1 : 1 ≤ 2 ^ (d - e - 1) := Nat.two_pow_pos _
  have hK1 : 1 ≤ 4 ^ (c - d) := Nat.pow_pos (by omega)
  have hlo := hI.lo
  have hhi := hI.hi
  rw [e1] at hlo hhi
  rw [e2]
  have hcd : 4 ^ c = 4 ^ (c - d) * 4 ^ d := by rw [← Nat.pow_add]; congr 1; omega
  generalize 2 ^ (d - e - 1) = h at *
  generalize hKK : 4 ^ (c - d) = K at *
  rw [Nat.div_div_eq_div_mul]
  have q1 := Nat.div_mul_le_self n (4 * K * h * r)
  have hpos : 0 < 4 * K * h * r := Nat.mul_pos (Nat.mul_pos (by omega) hh1) hr1
  have q2 : n < (n / (4 * K * h * r) + 1) * (4 * K * h * r) := Nat.lt_mul_of_div_lt (Nat.lt_succ_self _) hpos
  generalize n / (4 * K * h * r) = q at *
  have hhr : 1 ≤ h * r := Nat.mul_pos hh1 hr1
  have L := sq_lo (h := h) (r := r) (q := q) (K := K) (n := n) (by omega) (by omega) (by omega) (by omega) (by omega) (by exact_mod_cast q1)
    (by rw [show ((r : Int) - 1) = ((r - 1 : Nat) : Int) by omega]; exact_mod_cast hlo) (by exact_mod_cast hhi)
  have U := sq_hi (h := h) (r := r) (q := q) (K := K) (n := n) (by omega) (by exact_mod_cast q2)
  have eL : ((h : Int) * r + q - 1) = ((r * h + q - 1 : Nat) : Int) := by
    rw [Nat.mul_comm]
    have : ((h * r : Nat) : Int) = (h : Int) * r := Int.natCast_mul h r
    omega
  have eU : ((h : Int) * r + q + 1) = ((r * h + q + 1 : Nat) : Int) := by
    rw [Nat.mul_comm]
    have : ((h * r : Nat) : Int) = (h : Int) * r := Int.natCast_mul h r
    omega
  rw [eL] at L
  rw [eU] at U
  have U2 : n < (r * h + q + 1) * (r * h + q + 1) * K := by exact_mod_cast U
  refine ⟨?_, ?_, ?_⟩
  · rw [hKK]; exact_mod_cast L
  · rw [hKK]; exact U2
  · refine pow_cancel ?_
    have : 4 ^ d * K < (r * h + q + 1) * (r * h + q + 1) * K := by rw [Nat.mul_comm (4 ^ d)]; omega
    exact Nat.lt_of_mul_lt_mul_right this
theorem SqInv.start {n c : Nat} (h0 : 4 ^ c ≤ n) (h1 : n < 4 ^ (c + 1)) : SqInv n c 0 1 := by
  refine ⟨?_, ?_, by simp⟩
  · have : 0 < 4 ^ c := Nat.pow_pos (by omega)
    simp; omega
  · rw [Nat.pow_succ] at h1; simp; omega
theorem SqInv.done {n c r : Nat} (h : SqInv n c c r) : 1 ≤ r ∧ (r - 1) * (r - 1) ≤ n ∧ n < (r + 1) * (r + 1) := by
  have a := h.lo
  have b := h.hi
  have g := h.ge
  have := Nat.two_pow_pos c
  simp only [Nat.sub_self, Nat.pow_zero, Nat.mul_one] at a b
  omega
end Go.Proofs.Ytmjmcinnbmjpdaa
