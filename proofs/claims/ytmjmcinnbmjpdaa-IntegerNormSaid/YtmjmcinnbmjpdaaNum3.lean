/- Plain facts: shifts of numbers in words. -/
import Derived.Test.YtmjmcinnbmjpdaaNum2
import Derived.Laws.BitsAllLaws
namespace Go.Proofs.Ytmjmcinnbmjpdaa

theorem pow32 (b : Nat) (h : b ≤ 32) : 2 ^ b * 2 ^ (32 - b) = 4294967296 := by
  rw [← Nat.pow_add, show b + (32 - b) = 32 by omega]
/-- an or of disjoint parts is a sum. -/
theorem or_parts {x y j : Nat} (h : x < 2 ^ j) : x ||| (2 ^ j * y) = x + 2 ^ j * y := by
  rw [Nat.or_comm, ← Nat.two_pow_add_eq_or_of_lt h, Nat.add_comm]

def shrL (b : Nat) : List Nat → List Nat
  | [] => []
  | x :: xs => ((x + 4294967296 * xs.headD 0) / 2 ^ b % 4294967296) :: shrL b xs
theorem shrL_len (b : Nat) (xs : List Nat) : (shrL b xs).length = xs.length := by
  induction xs with
  | nil => rfl
  | cons x xs ih => simp [shrL, ih]
theorem shrL_w32 (b : Nat) (xs : List Nat) : W32 (shrL b xs) := by
  induction xs with
  | nil => exact W32.nil
  | cons x xs ih => exact W32.cons (Nat.mod_lt _ (by omega)) ih
theorem shrL_at (b : Nat) (xs : List Nat) (i : Nat) (h : i < xs.length) : (shrL b xs)[i]'(by rw [shrL_len]; exact h) = (xs[i] + 4294967296 * xs.getD (i + 1) 0) / 2 ^ b % 4294967296 := by
  induction xs generalizing i with
  | nil => simp at h
  | cons x xs ih =>
    cases i with
    | zero => cases xs <;> simp [shrL]
    | succ i =>
      simp only [shrL, List.getElem_cons_succ]
      rw [ih i (by simpa using h)]
      simp
theorem head_mod {xs : List Nat} (h : W32 xs) : xs.headD 0 = val xs % 4294967296 := by
  cases xs with
  | nil => rfl
  | cons x xs =>
    have := h x (by simp)
    simp only [List.headD_cons, val]
    omega
theorem div_words (x V b : Nat) (hb : b ≤ 32) : (x + 4294967296 * (V % 4294967296)) / 2 ^ b % 4294967296 = (x + 4294967296 * V) / 2 ^ b % 4294967296 := by
  have e : x + 4294967296 * V = x + 4294967296 * (V % 4294967296) + 2 ^ b * (2 ^ (32 - b) * (V / 4294967296) * 4294967296) := by
    have h1 : 2 ^ b * (2 ^ (32 - b) * (V / 4294967296) * 4294967296) = 2 ^ b * 2 ^ (32 - b) * (V / 4294967296) * 4294967296 := by simp only [Nat.mul_assoc]
    rw [h1, pow32 b hb]
    have := Nat.div_add_mod V 4294967296
    omega
  rw [e, Nat.add_mul_div_left _ _ (Nat.two_pow_pos b), Nat.add_mul_mod_self_right]
theorem val_shrL {b : Nat} (hb : b ≤ 32) {xs : List Nat} (h : W32 xs) : val (shrL b xs) = val xs / 2 ^ b := by
  induction xs with
  | nil => simp [shrL, val]
  | cons x xs ih =>
    have hx := h x (by simp)
    have ht : W32 xs := fun z hz => h z (by simp [hz])
    simp only [shrL, val]
    rw [ih ht, head_mod ht, div_words x (val xs) b hb]
    have e2 : (x + 4294967296 * val xs) / 2 ^ b / 4294967296 = val xs / 2 ^ b := by
      rw [Nat.div_div_eq_div_mul, Nat.mul_comm (2 ^ b) 4294967296, ← Nat.div_div_eq_div_mul, show (x + 4294967296 * val xs) / 4294967296 = val xs by omega]
    rw [← e2]
    generalize (x + 4294967296 * val xs) / 2 ^ b = T
    omega
theorem val_drop {xs : List Nat} (h : W32 xs) (q : Nat) : val (xs.drop q) = val xs / 4294967296 ^ q := by
  by_cases hq : q ≤ xs.length
  · have e := val_split xs q hq
    have hl := val_lt (h.take q)
    rw [List.length_take, Nat.min_eq_left hq] at hl
    rw [e, Nat.add_mul_div_left _ _ (Nat.pow_pos (by omega)), Nat.div_eq_of_lt hl, Nat.zero_add]
  · rw [List.drop_eq_nil_of_le (by omega), Nat.div_eq_of_lt]
    · rfl
    · exact Nat.lt_of_lt_of_le (val_lt h) (Nat.pow_le_pow_right (by omega) (by omega))
theorem pow_split (k : Nat) : 2 ^ k = 4294967296 ^ (k / 32) * 2 ^ (k % 32) := by
  have : (4294967296 : Nat) = 2 ^ 32 := by decide
  rw [this, ← Nat.pow_mul, ← Nat.pow_add]
  congr 1
  omega
theorem shr_spec {xs : List Nat} (h : W32 xs) (k : Nat) : val (shrL (k % 32) (xs.drop (k / 32))) = val xs / 2 ^ k := by
  rw [val_shrL (by omega) (h.drop _), val_drop h, Nat.div_div_eq_div_mul, ← pow_split]
theorem shr_word {x y b : Nat} (hx : x < 4294967296) (hb : b ≤ 32) : x / 2 ^ b ||| (y * 2 ^ (32 - b) % 4294967296) = (x + 4294967296 * y) / 2 ^ b % 4294967296 := by
  have hp := pow32 b hb
  have h1 : x / 2 ^ b < 2 ^ (32 - b) := by
    rw [Nat.div_lt_iff_lt_mul (Nat.two_pow_pos b), Nat.mul_comm, hp]
    exact hx
  have e1 : y * 2 ^ (32 - b) % 4294967296 = 2 ^ (32 - b) * (y % 2 ^ b) := by
    rw [← hp, Nat.mul_comm y, Nat.mul_comm (2 ^ b), Nat.mul_mod_mul_left]
  have e2 : (x + 4294967296 * y) / 2 ^ b = x / 2 ^ b + 2 ^ (32 - b) * y := by
    rw [← hp, Nat.mul_assoc, Nat.add_mul_div_left _ _ (Nat.two_pow_pos b)]
  rw [e1, or_parts h1, e2]
  have e3 : 2 ^ (32 - b) * y = 2 ^ (32 - b) * (y % 2 ^ b) + 4294967296 * (y / 2 ^ b) := by
    rw [← hp, Nat.mul_comm (2 ^ b), Nat.mul_assoc, ← Nat.mul_add, Nat.add_comm, Nat.div_add_mod]
  have h2 : y % 2 ^ b < 2 ^ b := Nat.mod_lt _ (Nat.two_pow_pos b)
  have h3 : 2 ^ (32 - b) * (y % 2 ^ b + 1) ≤ 2 ^ (32 - b) * 2 ^ b := Nat.mul_le_mul_left _ h2
  rw [Nat.mul_comm (2 ^ (32 - b)) (2 ^ b), hp, Nat.mul_add, Nat.mul_one] at h3
  rw [e3]
  generalize 2 ^ (32 - b) * (y % 2 ^ b) = P at h3 ⊢
  generalize y / 2 ^ b = R
  generalize 2 ^ (32 - b) = Q at h1 h3
  generalize x / 2 ^ b = X at h1 ⊢
  omega
theorem shr_word0 {x b : Nat} (hx : x < 4294967296) : x / 2 ^ b = (x + 4294967296 * 0) / 2 ^ b % 4294967296 := by
  rw [Nat.mul_zero, Nat.add_zero, Nat.mod_eq_of_lt (Nat.lt_of_le_of_lt (Nat.div_le_self _ _) hx)]
theorem take_shr {b : Nat} {xs zs : List Nat} {i v : Nat} (hi : i < xs.length) (hz : i < zs.length) (h : zs.take i = (shrL b xs).take i) (hv : v = (xs[i] + 4294967296 * xs.getD (i + 1) 0) / 2 ^ b % 4294967296) : (zs.set i v).take (i + 1) = (shrL b xs).take (i + 1) := by
  have hl : i < (shrL b xs).length := by rw [shrL_len]; exact hi
  rw [take_succ' (xs := zs.set i v) (k := i) (by simpa using hz), take_succ' (xs := shrL b xs) (k := i) hl, take_set_self, h, shrL_at b xs i hi]
  simp [hv]
/-! to the left -/
structure ShlInv (xs : List Nat) (b i : Nat) (zs : List Nat) : Prop where
  w32 : W32 zs
  len : zs.length = xs.length + 1
  low : zs.getD i 0 < 2 ^ b
  eq : val (zs.take (i + 1)) = val (xs.take i) * 2 ^ b
theorem ShlInv.start (xs : List Nat) (b : Nat) : ShlInv xs b 0 (List.replicate (xs.length + 1) 0) :=
  ⟨W32.replicate _, by simp, by simp [List.getD]; exact Nat.two_pow_pos b, by simp [List.take_replicate, val]⟩
theorem shl_low {x z b : Nat} (hb : b ≤ 32) (hz : z < 2 ^ b) : z ||| (x * 2 ^ b % 4294967296) = z + x * 2 ^ b % 4294967296 := by
  have hp := pow32 b hb
  have e1 : x * 2 ^ b % 4294967296 = 2 ^ b * (x % 2 ^ (32 - b)) := by rw [← hp, Nat.mul_comm x, Nat.mul_mod_mul_left]
  rw [e1, or_parts hz]
theorem shl_sum {x z b : Nat} (hb : b ≤ 32) (hz : z < 2 ^ b) : z + x * 2 ^ b % 4294967296 < 4294967296 := by
  have hp := pow32 b hb
  have e1 : x * 2 ^ b % 4294967296 = 2 ^ b * (x % 2 ^ (32 - b)) := by rw [← hp, Nat.mul_comm x, Nat.mul_mod_mul_left]
  have h2 : x % 2 ^ (32 - b) < 2 ^ (32 - b) := Nat.mod_lt _ (Nat.two_pow_pos _)
  have h3 : 2 ^ b * (x % 2 ^ (32 - b) + 1) ≤ 2 ^ b * 2 ^ (32 - b) := Nat.mul_le_mul_left _ h2
  rw [hp, Nat.mul_add] at h3
  omega
theorem shl_high {x b : Nat} (hx : x < 4294967296) : x * 2 ^ b / 4294967296 < 2 ^ b := by
  rw [Nat.div_lt_iff_lt_mul (by omega), Nat.mul_comm (2 ^ b)]
  exact Nat.mul_lt_mul_of_pos_right hx (Nat.two_pow_pos b)
theorem ShlInv.step {xs zs : List Nat} {b i : Nat} (h : ShlInv xs b i zs) (hb : b < 32) (hx : W32 xs) (hi : i < xs.length) :
    ShlInv xs b (i + 1) ((zs.set i (zs.getD i 0 + xs[i] * 2 ^ b % 4294967296)).set (i + 1) (xs[i] * 2 ^ b / 4294967296)) := by
  have hl := h.len
  have h1 := shl_sum (x := xs[i]) (by omega : b ≤ 32) h.low
  have h2 := shl_high (b := b) (hx.get hi)
  have hpb : 2 ^ b ≤ 4294967296 := by
    have : 2 ^ b ≤ 2 ^ 32 := Nat.pow_le_pow_right (by omega) (by omega)
    omega
  have hiz : i < zs.length := by omega
  refine ⟨(h.w32.set _ h1).set _ (by omega), by simp [hl], ?_, ?_⟩
  · rw [List.getD_eq_getElem?_getD, List.getElem?_set_self (by simp; omega)]
    exact h2
  · rw [val_take_set _ (by simp; omega), val_take_set _ hiz]
    have e := h.eq
    rw [val_take_succ zs i hiz] at e
    rw [val_take_succ xs i hi, Nat.add_mul, ← e, getD_at hiz, Nat.mul_add]
    have := pow_carry i (xs[i] * 2 ^ b)
    rw [Nat.mul_assoc (4294967296 ^ i) xs[i]]
    omega
theorem shl_val {xs zs : List Nat} {k : Nat} (h : val zs = val xs * 2 ^ (k % 32)) : val (List.replicate (k / 32) 0 ++ zs) = val xs * 2 ^ k := by
  rw [val_append, val_replicate, Nat.zero_add, List.length_replicate, h, pow_split k, Nat.mul_comm, Nat.mul_assoc, Nat.mul_comm (2 ^ (k % 32))]
end Go.Proofs.Ytmjmcinnbmjpdaa
