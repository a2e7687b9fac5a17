/- Walks: square roots. -/
import Derived.Test.YtmjmcinnbmjpdaaVd
import Derived.Test.YtmjmcinnbmjpdaaNum5
import Derived.Test.YtmjmcinnbmjpdaaWv
import Derived.Test.YtmjmcinnbmjpdaaWy
namespace Go.Proofs.Ytmjmcinnbmjpdaa
open Go.RowKit
theorem word_pow (k : Nat) : (4294967296 : Nat) ^ k = 2 ^ (32 * k) := by
  rw [Nat.pow_mul]
theorem bitsN_spec {xs : List Nat} (hw : W32 xs) (hn : Nrm xs) (h : 0 < xs.length) : 1 ≤ bitsN xs ∧ 2 ^ (bitsN xs - 1) ≤ val xs ∧ val xs < 2 ^ bitsN xs ∧ bitsN xs ≤ 32 * xs.length := by
  have hlast := hn.last h
  have hX := hw.get (k := xs.length - 1) (by omega)
  obtain ⟨a, b, c, d⟩ := bitLen_bounds hX hlast
  have e := val_take_succ xs (xs.length - 1) (by omega)
  rw [List.take_of_length_le (by omega)] at e
  have hl := val_lt (hw.take (xs.length - 1))
  rw [List.length_take, Nat.min_eq_left (by omega)] at hl
  have hb : bitsN xs = 32 * (xs.length - 1) + Lib.bitLen (xs[xs.length - 1]'(by omega)) := by unfold bitsN; rw [dif_pos h]
  rw [hb, e]
  generalize xs[xs.length - 1]'(by omega) = X at *
  generalize hk : xs.length - 1 = k at *
  refine ⟨by omega, ?_, ?_, by omega⟩
  · rw [show 32 * k + Lib.bitLen X - 1 = 32 * k + (Lib.bitLen X - 1) by omega, Nat.pow_add, ← word_pow]
    have := Nat.mul_le_mul_left (4294967296 ^ k) c
    omega
  · rw [Nat.pow_add, ← word_pow]
    have := Nat.mul_le_mul_left (4294967296 ^ k) (show X + 1 ≤ 2 ^ Lib.bitLen X from d)
    rw [Nat.mul_add] at this
    omega
theorem four_pow (k : Nat) : (4 : Nat) ^ k = 2 ^ (2 * k) := by rw [Nat.pow_mul]
theorem root_start {v b : Nat} (h1 : 1 ≤ b) (h2 : 2 ^ (b - 1) ≤ v) (h3 : v < 2 ^ b) : 4 ^ ((b - 1) / 2) ≤ v ∧ SqInv v ((b - 1) / 2) 0 1 := by
  have a : 4 ^ ((b - 1) / 2) ≤ v := by
    rw [four_pow]
    exact Nat.le_trans (Nat.pow_le_pow_right (by omega) (by omega)) h2
  refine ⟨a, SqInv.start a ?_⟩
  rw [four_pow]
  exact Nat.lt_of_lt_of_le h3 (Nat.pow_le_pow_right (by omega) (by omega))
theorem known_step {L j b : Nat} (hb : L ≠ 0 → 2 ^ (b - 1) ≤ L) (h0 : L ≠ 0) (hj : j < b) : L / 2 ^ (j + 1) < L / 2 ^ j ∧ L / 2 ^ j ≤ L ∧ L / 2 ^ j ≤ 2 * (L / 2 ^ (j + 1)) + 1 := by
  have h1 : 1 ≤ L / 2 ^ j := by
    rw [Nat.le_div_iff_mul_le (Nat.two_pow_pos j), Nat.one_mul]
    exact Nat.le_trans (Nat.pow_le_pow_right (by omega) (by omega)) (hb h0)
  have h2 : L / 2 ^ (j + 1) = L / 2 ^ j / 2 := by rw [Nat.pow_succ, Nat.div_div_eq_div_mul]
  have h3 := Nat.div_le_self L (2 ^ j)
  omega
theorem root_len {v c e n : Nat} {rs : List Nat} (h : SqInv v c e (val rs)) (hv : v < 4294967296 ^ n) (hn : Nrm rs) : rs.length ≤ n + 1 := by
  rcases Nat.lt_or_ge (n + 1) rs.length with hl | hl
  · have g := hn.ge (by rintro rfl; simp at hl)
    have g2 : 4294967296 ^ (n + 1) ≤ 4294967296 ^ (rs.length - 1) := Nat.pow_le_pow_right (by omega) (by omega)
    have hp : 0 < 4294967296 ^ n := Nat.pow_pos (by omega)
    rw [Nat.pow_succ] at g2
    have hr : 4294967296 ^ n + 1 ≤ val rs := by omega
    have lo := h.lo
    have k1 : val rs - 1 ≤ (val rs - 1) * (val rs - 1) := Nat.le_mul_of_pos_left _ (by omega)
    have k2 : (val rs - 1) * (val rs - 1) * 1 ≤ (val rs - 1) * (val rs - 1) * 4 ^ (c - e) := Nat.mul_le_mul_left _ (Nat.pow_pos (by omega))
    omega
  · exact hl
end Go.Proofs.Ytmjmcinnbmjpdaa
