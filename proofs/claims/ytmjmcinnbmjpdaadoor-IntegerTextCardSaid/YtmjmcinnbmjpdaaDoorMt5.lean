/- Walks and laws, part 5. -/
import Derived.Test.YtmjmcinnbmjpdaaDoorMt1
import Derived.Laws.BitsAllLaws
namespace Go.Proofs.YtmjmcinnbmjpdaaDoor

theorem mul_word {x w : Nat} (hx : x < 4294967296) (hw : w < 4294967296) : x * w ≤ 18446744065119617025 := by
  have : x * w ≤ 4294967295 * 4294967295 := Nat.mul_le_mul (by omega) (by omega)
  omega
theorem mul_word_int {x w : Nat} (hx : x < 4294967296) (hw : w < 4294967296) : (x : Int) * (w : Int) ≤ 18446744065119617025 ∧ 0 ≤ (x : Int) * (w : Int) := by
  have h := mul_word hx hw
  have e : ((x * w : Nat) : Int) = (x : Int) * (w : Int) := Int.natCast_mul x w
  omega
theorem u64_div (a : Nat) {x : Int} (h : x = a) : Value.int .u64 (x / 4294967296) = .int .u64 ((a / 4294967296 : Nat) : Int) := by
  subst h; rw [Int.natCast_ediv]; rfl
theorem u32_mod (a : Nat) {x : Int} (h : x = a) : x % 4294967296 = ((a % 4294967296 : Nat) : Int) := by
  subst h; omega
theorem cast_mac (a x q z : Nat) : (a : Int) + ((x : Int) * (q : Int) + (z : Int)) = ((a + (x * q + z) : Nat) : Int) := by
  rw [Int.natCast_add, Int.natCast_add, Int.natCast_mul]
theorem cast_mac' (a x q z : Nat) : (a : Int) + (z : Int) + (x : Int) * (q : Int) = ((a + (x * q + z) : Nat) : Int) := by
  rw [Int.natCast_add, Int.natCast_add, Int.natCast_mul]; omega
structure MulInv (zs0 xs : List Nat) (w k : Nat) (zs : List Nat) (cy : Nat) : Prop where
  len : zs.length = zs0.length
  w32 : W32 zs
  hcy : cy < 4294967296
  rest : zs.drop k = zs0.drop k
  eq : val (zs.take k) + 4294967296 ^ k * cy = val (zs0.take k) + val (xs.take k) * w
theorem MulInv.start {zs0 xs : List Nat} {w : Nat} (h : W32 zs0) : MulInv zs0 xs w 0 zs0 0 := ⟨rfl, h, by omega, rfl, by simp [val]⟩
theorem MulInv.at_ {zs0 xs zs : List Nat} {w k cy : Nat} (h : MulInv zs0 xs w k zs cy) (hk : k < zs.length) : zs[k] = zs0.getD k 0 := by
  have := congrArg (fun l : List Nat => l.getD 0 0) h.rest
  simp only [List.getD, List.getElem?_drop, Nat.add_zero] at this
  rw [List.getElem?_eq_getElem hk] at this
  simpa [List.getD] using this
theorem mul_step_eq {p cy x w z a b c s : Nat} (h : a + p * cy = b + c * w) (hs : s = cy + (x * w + z)) : a + p * s = b + p * z + (c + p * x) * w := by
  subst hs
  rw [Nat.mul_add, Nat.mul_add, Nat.add_mul, Nat.mul_assoc p x w]
  omega
theorem MulInv.step {zs0 xs zs : List Nat} {w k cy : Nat} (h : MulInv zs0 xs w k zs cy) (hx : W32 xs) (hw : w < 4294967296) (hk : k < zs.length) (hkx : k < xs.length) {s : Nat} (hs : s = cy + (xs[k] * w + zs[k])) :
    MulInv zs0 xs w (k + 1) (zs.set k (s % 4294967296)) (s / 4294967296) := by
  have h1 := h.w32.get hk
  have h2 := mul_word (hx.get hkx) hw
  have h3 := h.hcy
  refine ⟨by simpa using h.len, h.w32.set _ (Nat.mod_lt _ (by omega)), ?_, ?_, ?_⟩
  · generalize xs[k] * w = q at *
    omega
  · rw [drop_set_succ, ← List.drop_drop, h.rest, List.drop_drop]
  · rw [val_take_set _ hk, val_take_getD zs0, val_take_getD xs, Nat.add_assoc, pow_carry, ← h.at_ hk, getD_at hkx]
    exact mul_step_eq h.eq hs
theorem MulInv.done {zs0 xs zs : List Nat} {w cy : Nat} (h : MulInv zs0 xs w xs.length zs cy) (hl : xs.length ≤ zs.length) :
    val zs + 4294967296 ^ xs.length * cy = val zs0 + val xs * w := by
  have e := h.eq
  rw [List.take_of_length_le (l := xs) (Nat.le_refl _)] at e
  have e1 := val_split zs xs.length hl
  have e2 := val_split zs0 xs.length (by have := h.len; omega)
  rw [h.rest] at e1
  omega
/-- what is added behind the words that have been met. -/
theorem mul_tail {zs zs0 zt xs : List Nat} {w cy c2 n : Nat} (hn : zs.length = n) (h : val zs + 4294967296 ^ xs.length * cy = val zs0 + val xs * w) (hl : xs.length ≤ n)
    (ht : val zt + 4294967296 ^ (n - xs.length) * c2 = val (zs.drop xs.length) + cy) (hf : val zs0 + val xs * w < 4294967296 ^ n) : val (zs.take xs.length ++ zt) = val zs0 + val xs * w := by
  rw [val_append, List.length_take, Nat.min_eq_left (by omega)]
  have e1 := val_split zs xs.length (by omega)
  have hp : 4294967296 ^ n = 4294967296 ^ xs.length * 4294967296 ^ (n - xs.length) := by rw [← Nat.pow_add]; congr 1; omega
  rw [hp] at hf
  generalize 4294967296 ^ xs.length = p at *
  generalize 4294967296 ^ (n - xs.length) = q at *
  generalize val zs0 + val xs * w = S at *
  have e : p * (val zt + q * c2) = p * (val (zs.drop xs.length) + cy) := by rw [ht]
  rw [Nat.mul_add, Nat.mul_add, ← Nat.mul_assoc] at e
  cases c2 with
  | zero => rw [Nat.mul_zero] at e; omega
  | succ c =>
    rw [Nat.mul_succ] at e
    generalize p * q * c = r at *
    omega
theorem no_carry {zs zs0 xs : List Nat} {w cy n : Nat} (_hn : zs.length = n) (h : val zs + 4294967296 ^ xs.length * cy = val zs0 + val xs * w) (hl : n ≤ xs.length) (hf : val zs0 + val xs * w < 4294967296 ^ n) : cy = 0 := by
  have : 4294967296 ^ n ≤ 4294967296 ^ xs.length := Nat.pow_le_pow_right (by omega) hl
  generalize 4294967296 ^ xs.length = p at *
  cases cy with
  | zero => rfl
  | succ c =>
    rw [Nat.mul_succ] at h
    generalize p * c = r at *
    omega
/-- the sum of one multiple, behind k words. -/
theorem prod_fits {zs zs0 xs ys : List Nat} {k n : Nat} (hk : k < ys.length) (hkn : k ≤ n) (hn : zs.length = n) (h : val zs = val zs0 + val xs * val (ys.take k)) (hf : val zs0 + val xs * val ys < 4294967296 ^ n) :
    val (zs.drop k) + val xs * ys[k] < 4294967296 ^ (n - k) := by
  have e1 := val_split zs k (by omega)
  have e2 := val_split ys (k + 1) (by omega)
  rw [val_take_succ ys k hk] at e2
  have hp : 4294967296 ^ n = 4294967296 ^ k * 4294967296 ^ (n - k) := by rw [← Nat.pow_add]; congr 1; omega
  rw [hp, e2, Nat.mul_add, Nat.mul_add] at hf
  refine Nat.lt_of_mul_lt_mul_left (a := 4294967296 ^ k) ?_
  rw [Nat.mul_add, ← Nat.mul_assoc, Nat.mul_comm (4294967296 ^ k) (val xs), Nat.mul_assoc]
  omega
theorem prod_step {zs zs0 zt xs ys : List Nat} {k n : Nat} (hk : k < ys.length) (hkn : k ≤ n) (hn : zs.length = n) (h : val zs = val zs0 + val xs * val (ys.take k)) (ht : val zt = val (zs.drop k) + val xs * ys[k]) :
    val (zs.take k ++ zt) = val zs0 + val xs * val (ys.take (k + 1)) := by
  rw [val_append, List.length_take, Nat.min_eq_left (by omega), ht, val_take_succ ys k hk, Nat.mul_add, Nat.mul_add]
  have e1 := val_split zs k (by omega)
  rw [← Nat.mul_assoc, Nat.mul_comm (4294967296 ^ k) (val xs), Nat.mul_assoc]
  omega
theorem prod_lt {xs ys : List Nat} (hx : W32 xs) (hy : W32 ys) : val xs * val ys < 4294967296 ^ (xs.length + ys.length) := by
  rw [Nat.pow_add]
  exact Nat.mul_lt_mul'' (val_lt hx) (val_lt hy)

/-! the school's product, row by row -/
theorem mid_split (zs : List Nat) (i m : Nat) : zs.take i ++ (zs.drop i).take m ++ zs.drop (i + m) = zs := by
  rw [List.append_assoc, ← List.drop_drop, List.take_append_drop, List.take_append_drop]
theorem times_step {zs mid xs ys : List Nat} {i m cy : Nat} (hi : i < xs.length) (hz : i + m < zs.length) (hy : ys.length = m) (hl : mid.length = m) (h : val (zs.take (i + m)) = val (xs.take i) * val ys)
    (he : val mid + 4294967296 ^ m * cy = val ((zs.drop i).take m) + val ys * xs[i]) :
    val (((zs.take i ++ mid ++ zs.drop (i + m)).set (i + m) cy).take (i + 1 + m)) = val (xs.take (i + 1)) * val ys := by
  have hli : (zs.take i).length = i := by rw [List.length_take]; omega
  have hlen : (zs.take i ++ mid).length = i + m := by rw [List.length_append, hli, hl]
  rw [show i + 1 + m = i + m + 1 by omega, val_take_set _ (by rw [List.length_append, hlen, List.length_drop]; omega), List.take_left' hlen, val_append, hli, val_take_succ xs i hi, Nat.add_mul, ← h]
  have e : zs.take (i + m) = zs.take i ++ (zs.drop i).take m := by rw [List.take_add]
  rw [e, val_append, hli, Nat.pow_add, Nat.mul_assoc, Nat.add_assoc, ← Nat.mul_add, he, Nat.mul_add, Nat.mul_comm (val ys) xs[i]]
  rw [Nat.mul_assoc, Nat.add_assoc]
theorem times_start {zs ys : List Nat} {m : Nat} (h : ∀ x ∈ zs, x = 0) : val (zs.take (0 + m)) = val (List.take 0 ([] : List Nat)) * val ys := by
  have : ∀ l : List Nat, (∀ x ∈ l, x = 0) → val l = 0 := by
    intro l hl
    induction l with
    | nil => rfl
    | cons x l ih => simp only [val]; rw [hl x (by simp), ih (fun y hy => hl y (by simp [hy]))]
  rw [this _ (fun x hx => h x (List.mem_of_mem_take hx))]
  simp [val]
theorem cast_mac2 (a x q z : Nat) : (a : Int) + (z : Int) + (x : Int) * (q : Int) = ((a + (q * x + z) : Nat) : Int) := by
  rw [Int.natCast_add, Int.natCast_add, Int.natCast_mul, Int.mul_comm]; omega
end Go.Proofs.YtmjmcinnbmjpdaaDoor
namespace Go.Proofs.YtmjmcinnbmjpdaaDoor

theorem pow32 (b : Nat) (h : b ≤ 32) : 2 ^ b * 2 ^ (32 - b) = 4294967296 := by
  rw [← Nat.pow_add, show b + (32 - b) = 32 by omega]
/-- an or of disjoint parts is a sum. -/
theorem or_parts {x y j : Nat} (h : x < 2 ^ j) : x ||| (2 ^ j * y) = x + 2 ^ j * y := by
  rw [Nat.or_comm, ← Nat.two_pow_add_eq_or_of_lt h, Nat.add_comm]

def shrL (b : Nat) : List Nat → List Nat
  | [] => []
  | x :: xs => ((x + 4294967296 * xs.headD 0) / 2 ^ b % 4294967296) :: shrL b xs
theorem shrL_len (b : Nat) (xs : List Nat) : (shrL b xs).length = xs.length := by
  induction xs with
  | nil => rfl
  | cons x xs ih => simp [shrL, ih]
theorem shrL_w32 (b : Nat) (xs : List Nat) : W32 (shrL b xs) := by
  induction xs with
  | nil => exact W32.nil
  | cons x xs ih => exact W32.cons (Nat.mod_lt _ (by omega)) ih
theorem shrL_at (b : Nat) (xs : List Nat) (i : Nat) (h : i < xs.length) : (shrL b xs)[i]'(by rw [shrL_len]; exact h) = (xs[i] + 4294967296 * xs.getD (i + 1) 0) / 2 ^ b % 4294967296 := by
  induction xs generalizing i with
  | nil => simp at h
  | cons x xs ih =>
    cases i with
    | zero => cases xs <;> simp [shrL]
    | succ i =>
      simp only [shrL, List.getElem_cons_succ]
      rw [ih i (by simpa using h)]
      simp
theorem head_mod {xs : List Nat} (h : W32 xs) : xs.headD 0 = val xs % 4294967296 := by
  cases xs with
  | nil => rfl
  | cons x xs =>
    have := h x (by simp)
    simp only [List.headD_cons, val]
    omega
theorem div_words (x V b : Nat) (hb : b ≤ 32) : (x + 4294967296 * (V % 4294967296)) / 2 ^ b % 4294967296 = (x + 4294967296 * V) / 2 ^ b % 4294967296 := by
  have e : x + 4294967296 * V = x + 4294967296 * (V % 4294967296) + 2 ^ b * (2 ^ (32 - b) * (V / 4294967296) * 4294967296) := by
    have h1 : 2 ^ b * (2 ^ (32 - b) * (V / 4294967296) * 4294967296) = 2 ^ b * 2 ^ (32 - b) * (V / 4294967296) * 4294967296 := by simp only [Nat.mul_assoc]
    rw [h1, pow32 b hb]
    have := Nat.div_add_mod V 4294967296
    omega
  rw [e, Nat.add_mul_div_left _ _ (Nat.two_pow_pos b), Nat.add_mul_mod_self_right]
theorem val_shrL {b : Nat} (hb : b ≤ 32) {xs : List Nat} (h : W32 xs) : val (shrL b xs) = val xs / 2 ^ b := by
  induction xs with
  | nil => simp [shrL, val]
  | cons x xs ih =>
    have hx := h x (by simp)
    have ht : W32 xs := fun z hz => h z (by simp [hz])
    simp only [shrL, val]
    rw [ih ht, head_mod ht, div_words x (val xs) b hb]
    have e2 : (x + 4294967296 * val xs) / 2 ^ b / 4294967296 = val xs / 2 ^ b := by
      rw [Nat.div_div_eq_div_mul, Nat.mul_comm (2 ^ b) 4294967296, ← Nat.div_div_eq_div_mul, show (x + 4294967296 * val xs) / 4294967296 = val xs by omega]
    rw [← e2]
    generalize (x + 4294967296 * val xs) / 2 ^ b = T
    omega
theorem val_drop {xs : List Nat} (h : W32 xs) (q : Nat) : val (xs.drop q) = val xs / 4294967296 ^ q := by
  by_cases hq : q ≤ xs.length
  · have e := val_split xs q hq
    have hl := val_lt (h.take q)
    rw [List.length_take, Nat.min_eq_left hq] at hl
    rw [e, Nat.add_mul_div_left _ _ (Nat.pow_pos (by omega)), Nat.div_eq_of_lt hl, Nat.zero_add]
  · rw [List.drop_eq_nil_of_le (by omega), Nat.div_eq_of_lt]
    · rfl
    · exact Nat.lt_of_lt_of_le (val_lt h) (Nat.pow_le_pow_right (by omega) (by omega))
theorem pow_split (k : Nat) : 2 ^ k = 4294967296 ^ (k / 32) * 2 ^ (k % 32) := by
  have : (4294967296 : Nat) = 2 ^ 32 := by decide
  rw [this, ← Nat.pow_mul, ← Nat.pow_add]
  congr 1
  omega
theorem shr_spec {xs : List Nat} (h : W32 xs) (k : Nat) : val (shrL (k % 32) (xs.drop (k / 32))) = val xs / 2 ^ k := by
  rw [val_shrL (by omega) (h.drop _), val_drop h, Nat.div_div_eq_div_mul, ← pow_split]
theorem shr_word {x y b : Nat} (hx : x < 4294967296) (hb : b ≤ 32) : x / 2 ^ b ||| (y * 2 ^ (32 - b) % 4294967296) = (x + 4294967296 * y) / 2 ^ b % 4294967296 := by
  have hp := pow32 b hb
  have h1 : x / 2 ^ b < 2 ^ (32 - b) := by
    rw [Nat.div_lt_iff_lt_mul (Nat.two_pow_pos b), Nat.mul_comm, hp]
    exact hx
  have e1 : y * 2 ^ (32 - b) % 4294967296 = 2 ^ (32 - b) * (y % 2 ^ b) := by
    rw [← hp, Nat.mul_comm y, Nat.mul_comm (2 ^ b), Nat.mul_mod_mul_left]
  have e2 : (x + 4294967296 * y) / 2 ^ b = x / 2 ^ b + 2 ^ (32 - b) * y := by
    rw [← hp, Nat.mul_assoc, Nat.add_mul_div_left _ _ (Nat.two_pow_pos b)]
  rw [e1, or_parts h1, e2]
  have e3 : 2 ^ (32 - b) * y = 2 ^ (32 - b) * (y % 2 ^ b) + 4294967296 * (y / 2 ^ b) := by
    rw [← hp, Nat.mul_comm (2 ^ b), Nat.mul_assoc, ← Nat.mul_add, Nat.add_comm, Nat.div_add_mod]
  have h2 : y % 2 ^ b < 2 ^ b := Nat.mod_lt _ (Nat.two_pow_pos b)
  have h3 : 2 ^ (32 - b) * (y % 2 ^ b + 1) ≤ 2 ^ (32 - b) * 2 ^ b := Nat.mul_le_mul_left _ h2
  rw [Nat.mul_comm (2 ^ (32 - b)) (2 ^ b), hp, Nat.mul_add, Nat.mul_one] at h3
  rw [e3]
  generalize 2 ^ (32 - b) * (y % 2 ^ b) = P at h3 ⊢
  generalize y / 2 ^ b = R
  generalize 2 ^ (32 - b) = Q at h1 h3
  generalize x / 2 ^ b = X at h1 ⊢
  omega
theorem shr_word0 {x b : Nat} (hx : x < 4294967296) : x / 2 ^ b = (x + 4294967296 * 0) / 2 ^ b % 4294967296 := by
  rw [Nat.mul_zero, Nat.add_zero, Nat.mod_eq_of_lt (Nat.lt_of_le_of_lt (Nat.div_le_self _ _) hx)]
theorem take_shr {b : Nat} {xs zs : List Nat} {i v : Nat} (hi : i < xs.length) (hz : i < zs.length) (h : zs.take i = (shrL b xs).take i) (hv : v = (xs[i] + 4294967296 * xs.getD (i + 1) 0) / 2 ^ b % 4294967296) : (zs.set i v).take (i + 1) = (shrL b xs).take (i + 1) := by
  have hl : i < (shrL b xs).length := by rw [shrL_len]; exact hi
  rw [take_succ' (xs := zs.set i v) (k := i) (by simpa using hz), take_succ' (xs := shrL b xs) (k := i) hl, take_set_self, h, shrL_at b xs i hi]
  simp [hv]
/-! to the left -/
structure ShlInv (xs : List Nat) (b i : Nat) (zs : List Nat) : Prop where
  w32 : W32 zs
  len : zs.length = xs.length + 1
  low : zs.getD i 0 < 2 ^ b
  eq : val (zs.take (i + 1)) = val (xs.take i) * 2 ^ b
theorem ShlInv.start (xs : List Nat) (b : Nat) : ShlInv xs b 0 (List.replicate (xs.length + 1) 0) :=
  ⟨W32.replicate _, by simp, by simp [List.getD]; exact Nat.two_pow_pos b, by simp [List.take_replicate, val]⟩
theorem shl_low {x z b : Nat} (hb : b ≤ 32) (hz : z < 2 ^ b) : z ||| (x * 2 ^ b % 4294967296) = z + x * 2 ^ b % 4294967296 := by
  have hp := pow32 b hb
  have e1 : x * 2 ^ b % 4294967296 = 2 ^ b * (x % 2 ^ (32 - b)) := by rw [← hp, Nat.mul_comm x, Nat.mul_mod_mul_left]
  rw [e1, or_parts hz]
theorem shl_sum {x z b : Nat} (hb : b ≤ 32) (hz : z < 2 ^ b) : z + x * 2 ^ b % 4294967296 < 4294967296 := by
  have hp := pow32 b hb
  have e1 : x * 2 ^ b % 4294967296 = 2 ^ b * (x % 2 ^ (32 - b)) := by rw [← hp, Nat.mul_comm x, Nat.mul_mod_mul_left]
  have h2 : x % 2 ^ (32 - b) < 2 ^ (32 - b) := Nat.mod_lt _ (Nat.two_pow_pos _)
  have h3 : 2 ^ b * (x % 2 ^ (32 - b) + 1) ≤ 2 ^ b * 2 ^ (32 - b) := Nat.mul_le_mul_left _ h2
  rw [hp, Nat.mul_add] at h3
  omega
theorem shl_high {x b : Nat} (hx : x < 4294967296) : x * 2 ^ b / 4294967296 < 2 ^ b := by
  rw [Nat.div_lt_iff_lt_mul (by omega), Nat.mul_comm (2 ^ b)]
  exact Nat.mul_lt_mul_of_pos_right hx (Nat.two_pow_pos b)
theorem ShlInv.step {xs zs : List Nat} {b i : Nat} (h : ShlInv xs b i zs) (hb : b < 32) (hx : W32 xs) (hi : i < xs.length) :
    ShlInv xs b (i + 1) ((zs.set i (zs.getD i 0 + xs[i] * 2 ^ b % 4294967296)).set (i + 1) (xs[i] * 2 ^ b / 4294967296)) := by
  have hl := h.len
  have h1 := shl_sum (x := xs[i]) (by omega : b ≤ 32) h.low
  have h2 := shl_high (b := b) (hx.get hi)
  have hpb : 2 ^ b ≤ 4294967296 := by
    have : 2 ^ b ≤ 2 ^ 32 := Nat.pow_le_pow_right (by omega) (by omega)
    omega
  have hiz : i < zs.length := by omega
  refine ⟨(h.w32.set _ h1).set _ (by omega), by simp [hl], ?_, ?_⟩
  · rw [List.getD_eq_getElem?_getD, List.getElem?_set_self (by simp; omega)]
    exact h2
  · rw [val_take_set _ (by simp; omega), val_take_set _ hiz]
    have e := h.eq
    rw [val_take_succ zs i hiz] at e
    rw [val_take_succ xs i hi, Nat.add_mul, ← e, getD_at hiz, Nat.mul_add]
    have := pow_carry i (xs[i] * 2 ^ b)
    rw [Nat.mul_assoc (4294967296 ^ i) xs[i]]
    omega
theorem shl_val {xs zs : List Nat} {k : Nat} (h : val zs = val xs * 2 ^ (k % 32)) : val (List.replicate (k / 32) 0 ++ zs) = val xs * 2 ^ k := by
  rw [val_append, val_replicate, Nat.zero_add, List.length_replicate, h, pow_split k, Nat.mul_comm, Nat.mul_assoc, Nat.mul_comm (2 ^ (k % 32))]
end Go.Proofs.YtmjmcinnbmjpdaaDoor
namespace Go.Proofs.YtmjmcinnbmjpdaaDoor

/-! a multiple is subtracted in place -/
structure SmInv (zs0 ys : List Nat) (q k : Nat) (zs : List Nat) (cy : Nat) : Prop where
  len : zs.length = zs0.length
  w32 : W32 zs
  hcy : cy < 4294967296
  rest : zs.drop k = zs0.drop k
  eq : val (zs.take k) + val (ys.take k) * q = val (zs0.take k) + 4294967296 ^ k * cy
theorem SmInv.start {zs0 ys : List Nat} {q : Nat} (h : W32 zs0) : SmInv zs0 ys q 0 zs0 0 := ⟨rfl, h, by omega, rfl, by simp [val]⟩
theorem SmInv.at_ {zs0 ys zs : List Nat} {q k cy : Nat} (h : SmInv zs0 ys q k zs cy) (hk : k < zs.length) : zs[k] = zs0.getD k 0 := by
  have := congrArg (fun l : List Nat => l.getD 0 0) h.rest
  simp only [List.getD, List.getElem?_drop, Nat.add_zero] at this
  rw [List.getElem?_eq_getElem hk] at this
  simpa [List.getD] using this
theorem sm_step_eq {p cy y q z d b a c e s lo hi : Nat} (h : a + c * q = e + p * cy) (hs : s = cy + y * q) (hp : p * lo + p * 4294967296 * hi = p * s) (he : d + lo = z + 4294967296 * b) :
    a + p * d + (c + p * y) * q = e + p * z + p * 4294967296 * (hi + b) := by
  subst hs
  have e1 := congrArg (fun n => p * n) he
  simp only [Nat.mul_add, ← Nat.mul_assoc] at e1 hp
  rw [Nat.add_mul, Nat.mul_add (p * 4294967296)]
  omega
theorem SmInv.step {zs0 ys zs : List Nat} {q k cy d b : Nat} (h : SmInv zs0 ys q k zs cy) (hy : W32 ys) (hq : q < 4294967296) (hk : k < zs.length) (hky : k < ys.length) {s : Nat} (hs : s = cy + ys[k] * q) (hd : d < 4294967296) (_hb : b ≤ 1)
    (he : d + s % 4294967296 = zs[k] + 4294967296 * b) : SmInv zs0 ys q (k + 1) (zs.set k d) (s / 4294967296 + b) := by
  have h2 := mul_word (hy.get hky) hq
  have h3 := h.hcy
  refine ⟨by simpa using h.len, h.w32.set _ hd, ?_, ?_, ?_⟩
  · generalize ys[k] * q = t at *
    omega
  · rw [drop_set_succ, ← List.drop_drop, h.rest, List.drop_drop]
  · rw [val_take_set _ hk, val_take_getD zs0, val_take_getD ys, ← h.at_ hk, getD_at hky, Nat.pow_succ]
    have hp := pow_carry k s
    rw [Nat.pow_succ] at hp
    exact sm_step_eq h.eq hs hp he
theorem SmInv.done {zs0 ys zs : List Nat} {q cy d b : Nat} (h : SmInv zs0 ys q ys.length zs cy) (hl : zs0.length = ys.length + 1) (he : d + cy = zs0.getD ys.length 0 + 4294967296 * b) :
    val (zs.set ys.length d) + val ys * q = val zs0 + 4294967296 ^ (ys.length + 1) * b := by
  have hk : ys.length < zs.length := by have := h.len; omega
  have e := h.eq
  rw [List.take_of_length_le (l := ys) (Nat.le_refl _)] at e
  have e1 := val_take_set (zs := zs) (k := ys.length) d hk
  rw [List.take_of_length_le (by simp; have := h.len; omega)] at e1
  have e2 := val_take_getD zs0 ys.length
  rw [List.take_of_length_le (by omega)] at e2
  have e3 := congrArg (fun n => 4294967296 ^ ys.length * n) he
  simp only [Nat.mul_add] at e3
  rw [e1, e2, Nat.pow_succ, Nat.mul_assoc]
  omega

/-! the estimate of a word: v1 and v2 are the two first words of the divisor, top the two first words of the part, u2 the third; E is the unit of the words that follow. -/
structure Est (E v1 v2 u2 top D P : Nat) : Prop where
  d1 : E * (v2 + 4294967296 * v1) ≤ D
  d2 : D < E * (v2 + 4294967296 * v1) + E
  p1 : E * (u2 + 4294967296 * top) ≤ P
  p2 : P < E * (u2 + 4294967296 * top) + E
  hv2 : v2 < 4294967296
  hu2 : u2 < 4294967296
  hv : 2147483648 ≤ v1
  hv1 : v1 < 4294967296
  lt : P < 4294967296 * D
section
variable {E v1 v2 u2 top D P q r : Nat}
theorem Est.first (h : Est E v1 v2 u2 top D P) : P < (top / v1 + 1) * D := by
  have hq : top + 1 ≤ (top / v1 + 1) * v1 := by
    have := Nat.div_add_mod top v1
    have h2 := Nat.mod_lt top (show 0 < v1 by have := h.hv; omega)
    rw [Nat.add_mul, Nat.mul_comm (top / v1)]
    omega
  have h1 : E * (u2 + 4294967296 * top) + E ≤ E * (4294967296 * ((top / v1 + 1) * v1)) := by
    have : u2 + 4294967296 * top + 1 ≤ 4294967296 * ((top / v1 + 1) * v1) := by have := h.hu2; omega
    have := Nat.mul_le_mul_left E this
    rwa [Nat.mul_add, Nat.mul_one] at this
  have h2 : E * (4294967296 * ((top / v1 + 1) * v1)) ≤ (top / v1 + 1) * D := by
    have e : E * (4294967296 * ((top / v1 + 1) * v1)) = (top / v1 + 1) * (E * (4294967296 * v1)) := by
      rw [← Nat.mul_assoc 4294967296, Nat.mul_comm 4294967296, Nat.mul_assoc, Nat.mul_left_comm]
    rw [e]
    refine Nat.mul_le_mul_left _ (Nat.le_trans ?_ h.d1)
    exact Nat.mul_le_mul_left _ (by omega)
  have := h.p2
  omega
theorem Est.big (h : Est E v1 v2 u2 top D P) (hq : 4294967296 ≤ q) : P < (q - 1 + 1) * D := by
  rw [show q - 1 + 1 = q by omega]
  have := Nat.mul_le_mul_right D hq
  have := h.lt
  omega
theorem Est.over (h : Est E v1 v2 u2 top D P) (hr : q * v1 + r = top) (hg : r * 4294967296 + u2 < q * v2) : P < (q - 1 + 1) * D := by
  have hq0 : 0 < q := by
    rcases Nat.eq_zero_or_pos q with rfl | h
    · rw [Nat.zero_mul] at hg; omega
    · exact h
  rw [show q - 1 + 1 = q by omega]
  have h1 : E * (u2 + 4294967296 * top) + E ≤ E * (q * v2 + 4294967296 * (q * v1)) := by
    have : u2 + 4294967296 * top + 1 ≤ q * v2 + 4294967296 * (q * v1) := by rw [← hr]; omega
    have := Nat.mul_le_mul_left E this
    rwa [Nat.mul_add, Nat.mul_one] at this
  have h2 : E * (q * v2 + 4294967296 * (q * v1)) ≤ q * D := by
    have e : E * (q * v2 + 4294967296 * (q * v1)) = q * (E * (v2 + 4294967296 * v1)) := by
      rw [Nat.mul_left_comm 4294967296, ← Nat.mul_add, Nat.mul_left_comm]
    rw [e]
    exact Nat.mul_le_mul_left _ h.d1
  have := h.p2
  omega
theorem Est.last (h : Est E v1 v2 u2 top D P) (hr : q * v1 + r = top) (hq : q < 4294967296) (hg : q * v2 ≤ r * 4294967296 + u2) : q * D ≤ P + D := by
  have h1 : q * D ≤ q * (E * (v2 + 4294967296 * v1)) + q * E := by
    rw [← Nat.mul_add]
    exact Nat.mul_le_mul_left _ (Nat.le_of_lt h.d2)
  have h2 : q * (E * (v2 + 4294967296 * v1)) ≤ E * (u2 + 4294967296 * top) := by
    have e : q * (E * (v2 + 4294967296 * v1)) = E * (q * v2 + 4294967296 * (q * v1)) := by
      rw [Nat.mul_left_comm 4294967296, ← Nat.mul_add, Nat.mul_left_comm]
    rw [e]
    exact Nat.mul_le_mul_left _ (by rw [← hr]; omega)
  have h3 : q * E ≤ D := by
    have : q * E ≤ E * (v2 + 4294967296 * v1) := by
      rw [Nat.mul_comm]
      exact Nat.mul_le_mul_left _ (by have := h.hv; omega)
    have := h.d1
    omega
  have := h.p1
  omega
/-- the first word bounds the estimate once the remainder has grown out of a word. -/
theorem Est.out (h : Est E v1 v2 u2 top D P) (hr : q * v1 + r = top) (hg : 4294967296 ≤ r) : q < 4294967296 ∧ q * v2 ≤ r * 4294967296 + u2 := by
  have hE : 0 < E := by
    rcases Nat.eq_zero_or_pos E with h0 | h0
    · have := h.d2; rw [h0] at this; have := h.d1; rw [h0] at this; omega
    · exact h0
  have h1 : E * (u2 + 4294967296 * top) < E * (4294967296 * (v2 + 4294967296 * v1 + 1)) := by
    refine Nat.lt_of_le_of_lt h.p1 (Nat.lt_of_lt_of_le h.lt ?_)
    rw [Nat.mul_left_comm]
    refine Nat.mul_le_mul_left _ ?_
    rw [Nat.mul_add, Nat.mul_one]
    exact Nat.le_of_lt h.d2
  have h2 := Nat.lt_of_mul_lt_mul_left h1
  have hv2 := h.hv2
  have hv := h.hv
  have hq : q < 4294967296 := by
    rcases Nat.lt_or_ge q 4294967296 with hl | hl
    · exact hl
    · have := Nat.mul_le_mul_right v1 hl
      omega
  refine ⟨hq, ?_⟩
  have h3 : q * v2 ≤ 4294967296 * 4294967296 := Nat.mul_le_mul (by omega) (by omega)
  omega
end
/-- the numbers of a part and of a divisor are as the estimate takes them. -/
theorem Est.of {ps ds : List Nat} {n : Nat} (hp : W32 ps) (hd : W32 ds) (hpl : ps.length = n + 2 + 1) (hdl : ds.length = n + 2) (hv : 2147483648 ≤ ds[n + 1]) (hlt : val ps < 4294967296 * val ds) :
    Est (4294967296 ^ n) ds[n + 1] ds[n] ps[n] (ps[n + 1] + 4294967296 * ps[n + 2]) (val ds) (val ps) := by
  have d1 := val_take_succ ds n (by omega)
  have d2 := val_take_succ ds (n + 1) (by omega)
  rw [List.take_of_length_le (by omega)] at d2
  have p1 := val_take_succ ps n (by omega)
  have p2 := val_take_succ ps (n + 1) (by omega)
  have p3 := val_take_succ ps (n + 2) (by omega)
  rw [List.take_of_length_le (by omega)] at p3
  have ld := val_lt (hd.take n)
  have lp := val_lt (hp.take n)
  rw [List.length_take, Nat.min_eq_left (by omega)] at ld lp
  have hv2 := hd.get (k := n) (by omega)
  have hv1 := hd.get (k := n + 1) (by omega)
  have hu2 := hp.get (k := n) (by omega)
  have e1 : val ds = val (ds.take n) + 4294967296 ^ n * (ds[n] + 4294967296 * ds[n + 1]) := by
    rw [d2, d1, Nat.mul_add, Nat.pow_succ, Nat.mul_assoc]; omega
  have e2 : val ps = val (ps.take n) + 4294967296 ^ n * (ps[n] + 4294967296 * (ps[n + 1] + 4294967296 * ps[n + 2])) := by
    rw [p3, p2, p1]
    simp only [Nat.pow_succ]
    generalize 4294967296 ^ n = p
    grind
  exact ⟨by omega, by omega, by omega, by omega, hv2, hu2, hv, hv1, hlt⟩

theorem Est.ofn {ps ds : List Nat} {n : Nat} (hp : W32 ps) (hd : W32 ds) (h2 : 2 ≤ n) (hpl : ps.length = n + 1) (hdl : ds.length = n) (hv : 2147483648 ≤ ds[n - 1]) (hlt : val ps < 4294967296 * val ds) :
    Est (4294967296 ^ (n - 2)) ds[n - 1] ds[n - 2] ps[n - 2] (ps[n] * 4294967296 + ps[n - 1]) (val ds) (val ps) := by
  obtain ⟨k, rfl⟩ : ∃ k, n = k + 2 := ⟨n - 2, by omega⟩
  have h := Est.of hp hd hpl hdl hv hlt
  have e : ps[k + 2] * 4294967296 + ps[k + 1] = ps[k + 1] + 4294967296 * ps[k + 2] := by omega
  rw [← e] at h
  exact h

/-! the rounds of the division -/
structure LInv (D N L K i : Nat) (R Q : List Nat) : Prop where
  rl : R.length = L
  rw : W32 R
  ql : Q.length = K
  qw : W32 Q
  lt : val (R.drop i) < D
  eq : val R + 4294967296 ^ i * val (Q.drop i) * D = N
theorem val_drop_succ (xs : List Nat) (i : Nat) (h : i < xs.length) : val (xs.drop i) = xs[i] + 4294967296 * val (xs.drop (i + 1)) := by
  rw [List.drop_eq_getElem_cons h]; rfl
theorem LInv.part {D N L K i n : Nat} {R Q : List Nat} (h : LInv D N L K (i + 1) R Q) (hi : i < K) (hL : n + K = L) (hD : D < 4294967296 ^ n) :
    val (R.drop (i + n + 1)) = 0 ∧ val ((R.drop i).take (n + 1)) = val (R.drop i) ∧ val ((R.drop i).take (n + 1)) < 4294967296 * D := by
  have hr := h.rl
  have e1 := val_drop_succ R i (by omega)
  have hx := h.rw.get (k := i) (by omega)
  have hlt := h.lt
  have h1 : val (R.drop i) < 4294967296 * D := by omega
  have e2 := val_split (R.drop i) (n + 1) (by rw [List.length_drop]; omega)
  rw [List.drop_drop, ← Nat.add_assoc, Nat.pow_succ] at e2
  have h0 : val (R.drop (i + n + 1)) = 0 := by
    rcases Nat.eq_zero_or_pos (val (R.drop (i + n + 1))) with h0 | h0
    · exact h0
    · have : 4294967296 ^ (n + 1) * 1 ≤ 4294967296 ^ (n + 1) * val (R.drop (i + n + 1)) := Nat.mul_le_mul_left _ h0
      rw [Nat.pow_succ] at this
      omega
  rw [h0, Nat.mul_zero] at e2
  exact ⟨h0, by omega, by omega⟩
theorem LInv.step {D N L K i n w : Nat} {R Q ps : List Nat} (h : LInv D N L K (i + 1) R Q) (hi : i < K) (hL : n + K = L) (hD : D < 4294967296 ^ n) (hps : ps.length = n + 1) (hpw : W32 ps) (hw : w < 4294967296)
    (hlt : val ps < D) (he : val ps + w * D = val ((R.drop i).take (n + 1))) : LInv D N L K i (R.take i ++ ps ++ R.drop (i + n + 1)) (Q.set i w) := by
  obtain ⟨h0, h1, _⟩ := h.part hi hL hD
  have hr := h.rl
  have hq := h.ql
  have htl : (R.take i).length = i := by rw [List.length_take]; omega
  have hd : val ((R.take i ++ ps ++ R.drop (i + n + 1)).drop i) = val ps := by
    rw [List.append_assoc, List.drop_append_of_le_length (by omega), List.drop_of_length_le (by omega), List.nil_append, val_append, h0, Nat.mul_zero, Nat.add_zero]
  refine ⟨?_, ((h.rw.take _).append hpw).append (h.rw.drop _), by simpa using hq, h.qw.set _ hw, by rw [hd]; exact hlt, ?_⟩
  · simp only [List.length_append, htl, hps, List.length_drop, hr]; omega
  · have e := h.eq
    have eR := val_split R i (by omega)
    have e2 : val (R.take i ++ ps ++ R.drop (i + n + 1)) = val (R.take i) + 4294967296 ^ i * val ps := by
      rw [val_append, h0, Nat.mul_zero, Nat.add_zero, val_append, htl]
    have e3 : val ((Q.set i w).drop i) = w + 4294967296 * val (Q.drop (i + 1)) := by
      rw [val_drop_succ _ i (by simp; omega), drop_set_succ]
      simp
    rw [e2, e3, ← e, eR, ← h1, ← he, Nat.pow_succ]
    generalize 4294967296 ^ i = p
    generalize val (Q.drop (i + 1)) = t
    rw [Nat.mul_add p w, Nat.add_mul, Nat.mul_add p (val ps), ← Nat.mul_assoc p w D, ← Nat.mul_assoc p 4294967296 t]
    omega
theorem LInv.start {a b s la lb : Nat} {R : List Nat} {Q : List Nat} (hR : R.length = la + 1) (hRw : W32 R) (hQ : Q = List.replicate (la - lb + 1) 0) (hv : val R = a * 2 ^ s) (hab : lb ≤ la) (h1 : 0 < lb) (ha : a < 4294967296 ^ la) (hb : 4294967296 ^ (lb - 1) ≤ b) :
    LInv (b * 2 ^ s) (a * 2 ^ s) (la + 1) (la - lb + 1) (la - lb + 1) R Q := by
  subst hQ
  refine ⟨hR, hRw, by simp, W32.replicate _, ?_, ?_⟩
  · rw [val_drop hRw, hv]
    refine Nat.div_lt_of_lt_mul ?_
    rw [← Nat.mul_assoc]
    refine Nat.mul_lt_mul_of_pos_right ?_ (Nat.two_pow_pos s)
    refine Nat.lt_of_lt_of_le ha ?_
    have e : 4294967296 ^ la = 4294967296 ^ (la - lb + 1) * 4294967296 ^ (lb - 1) := by rw [← Nat.pow_add]; congr 1; omega
    rw [e]
    exact Nat.mul_le_mul_left _ hb
  · rw [List.drop_of_length_le (by simp), hv]
    simp [val]
theorem LInv.done {a b s L K : Nat} {R Q : List Nat} (h : LInv (b * 2 ^ s) (a * 2 ^ s) L K 0 R Q) : val Q = a / b ∧ val R / 2 ^ s = a % b := by
  have hp := Nat.two_pow_pos s
  have e := h.eq
  have hl := h.lt
  rw [List.drop_zero] at e hl
  rw [Nat.pow_zero, Nat.one_mul] at e
  have hb : 0 < b * 2 ^ s := by omega
  have e1 : val Q = a * 2 ^ s / (b * 2 ^ s) := by
    rw [← e, Nat.add_mul_div_right _ _ hb, Nat.div_eq_of_lt hl, Nat.zero_add]
  have e2 : val R = a * 2 ^ s % (b * 2 ^ s) := by
    rw [← e, Nat.add_mul_mod_self_right, Nat.mod_eq_of_lt hl]
  refine ⟨by rw [e1, Nat.mul_div_mul_right _ _ hp], ?_⟩
  rw [e2, Nat.mul_mod_mul_right, Nat.mul_div_cancel _ hp]
/-- a subtraction that did not pass 0. -/
theorem sub_fit {P D w p1 : Nat} (h1 : P < (w + 1) * D) (h2 : p1 + D * w = P) : p1 < D ∧ p1 + w * D = P := by
  rw [Nat.add_mul, Nat.one_mul] at h1
  rw [Nat.mul_comm D] at h2
  omega
/-- a subtraction that passed 0 is made good by one addition. -/
theorem sub_back {P D w p1 p2 M c : Nat} (h1 : P < w * D) (h2 : w * D ≤ P + D) (h3 : p1 + D * w = P + M) (h4 : p2 + M * c = p1 + D) (hc : c ≤ 1) (h5 : p2 < M) : 0 < w ∧ p2 < D ∧ p2 + (w - 1) * D = P := by
  have hw : 0 < w := by
    rcases Nat.eq_zero_or_pos w with rfl | h
    · rw [Nat.zero_mul] at h1; omega
    · exact h
  obtain ⟨v, rfl⟩ : ∃ v, w = v + 1 := ⟨w - 1, by omega⟩
  rw [Nat.mul_comm D] at h3
  rw [Nat.add_mul, Nat.one_mul] at h1 h2 h3
  rw [Nat.add_sub_cancel]
  generalize v * D = T at *
  obtain rfl | rfl : c = 0 ∨ c = 1 := by omega
  · rw [Nat.mul_zero] at h4; omega
  · rw [Nat.mul_one] at h4; omega

/-! division by a word -/
structure DwInv (xs zs : List Nat) (v i r : Nat) : Prop where
  len : zs.length = xs.length
  w32 : W32 zs
  lt : r < v
  eq : val (xs.drop i) = val (zs.drop i) * v + r
theorem DwInv.start {xs zs : List Nat} {v : Nat} (hl : zs.length = xs.length) (hw : W32 zs) (hv : 0 < v) : DwInv xs zs v xs.length 0 := by
  refine ⟨hl, hw, hv, ?_⟩
  rw [List.drop_of_length_le (Nat.le_refl _), List.drop_of_length_le (by omega)]
  simp [val]
theorem dw_lt {v r x : Nat} (hr : r < v) (hx : x < 4294967296) : (r * 4294967296 + x) / v < 4294967296 := by
  rw [Nat.div_lt_iff_lt_mul (by omega)]
  have : (r + 1) * 4294967296 ≤ v * 4294967296 := Nat.mul_le_mul_right _ hr
  rw [Nat.mul_comm 4294967296]
  omega
theorem DwInv.step {xs zs : List Nat} {v i r : Nat} (h : DwInv xs zs v (i + 1) r) (hx : W32 xs) (hi : i < xs.length) :
    DwInv xs (zs.set i ((r * 4294967296 + xs[i]) / v)) v i ((r * 4294967296 + xs[i]) % v) := by
  have hl := h.len
  have hlt := h.lt
  have hq := dw_lt hlt (hx.get hi)
  refine ⟨by simpa using hl, h.w32.set _ hq, Nat.mod_lt _ (by omega), ?_⟩
  rw [val_drop_succ xs i hi, val_drop_succ _ i (by simp; omega), drop_set_succ, h.eq]
  simp only [List.getElem_set_self]
  have e := Nat.div_add_mod (r * 4294967296 + xs[i]) v
  rw [Nat.mul_comm v] at e
  rw [Nat.add_mul, Nat.mul_assoc]
  omega
theorem DwInv.done {xs zs : List Nat} {v r : Nat} (h : DwInv xs zs v 0 r) : val zs = val xs / v ∧ r = val xs % v := by
  have e := h.eq
  have hl := h.lt
  rw [List.drop_zero, List.drop_zero] at e
  rw [e, Nat.mul_comm, Nat.mul_add_div (by omega), Nat.div_eq_of_lt hl, Nat.mul_add_mod, Nat.mod_eq_of_lt hl]
  exact ⟨rfl, rfl⟩
end Go.Proofs.YtmjmcinnbmjpdaaDoor
