/- Plain facts: products of words. -/
import Derived.Test.YtmjmcinnbmjpdaaNum
namespace Go.Proofs.Ytmjmcinnbmjpdaa

theorem mul_word {x w : Nat} (hx : x < 4294967296) (hw : w < 4294967296) : x * w ≤ 18446744065119617025 := by
  have : x * w ≤ 4294967295 * 4294967295 := Nat.mul_le_mul (by omega) (by omega)
  omega
theorem mul_word_int {x w : Nat} (hx : x < 4294967296) (hw : w < 4294967296) : (x : Int) * (w : Int) ≤ 18446744065119617025 ∧ 0 ≤ (x : Int) * (w : Int) := by
  have h := mul_word hx hw
  have e : ((x * w : Nat) : Int) = (x : Int) * (w : Int) := Int.natCast_mul x w
  omega
theorem u64_div (a : Nat) {x : Int} (h : x = a) : Value.int .u64 (x / 4294967296) = .int .u64 ((a / 4294967296 : Nat) : Int) := by
  subst h; rw [Int.natCast_ediv]; rfl
theorem u32_mod (a : Nat) {x : Int} (h : x = a) : x % 4294967296 = ((a % 4294967296 : Nat) : Int) := by
  subst h; omega
theorem cast_mac (a x q z : Nat) : (a : Int) + ((x : Int) * (q : Int) + (z : Int)) = ((a + (x * q + z) : Nat) : Int) := by
  rw [Int.natCast_add, Int.natCast_add, Int.natCast_mul]
theorem cast_mac' (a x q z : Nat) : (a : Int) + (z : Int) + (x : Int) * (q : Int) = ((a + (x * q + z) : Nat) : Int) := by
  rw [Int.natCast_add, Int.natCast_add, Int.natCast_mul]; omega
structure MulInv (zs0 xs : List Nat) (w k : Nat) (zs : List Nat) (cy : Nat) : Prop where
  len : zs.length = zs0.length
  w32 : W32 zs
  hcy : cy < 4294967296
  rest : zs.drop k = zs0.drop k
  eq : val (zs.take k) + 4294967296 ^ k * cy = val (zs0.take k) + val (xs.take k) * w
theorem MulInv.start {zs0 xs : List Nat} {w : Nat} (h : W32 zs0) : MulInv zs0 xs w 0 zs0 0 := ⟨rfl, h, by omega, rfl, by simp [val]⟩
theorem MulInv.at_ {zs0 xs zs : List Nat} {w k cy : Nat} (h : MulInv zs0 xs w k zs cy) (hk : k < zs.length) : zs[k] = zs0.getD k 0 := by
  have := congrArg (fun l : List Nat => l.getD 0 0) h.rest
  simp only [List.getD, List.getElem?_drop, Nat.add_zero] at this
  rw [List.getElem?_eq_getElem hk] at this
  simpa [List.getD] using this
theorem mul_step_eq {p cy x w z a b c s : Nat} (h : a + p * cy = b + c * w) (hs : s = cy + (x * w + z)) : a + p * s = b + p * z + (c + p * x) * w := by
  subst hs
  rw [Nat.mul_add, Nat.mul_add, Nat.add_mul, Nat.mul_assoc p x w]
  omega
theorem MulInv.step {zs0 xs zs : List Nat} {w k cy : Nat} (h : MulInv zs0 xs w k zs cy) (hx : W32 xs) (hw : w < 4294967296) (hk : k < zs.length) (hkx : k < xs.length) {s : Nat} (hs : s = cy + (xs[k] * w + zs[k])) :
    MulInv zs0 xs w (k + 1) (zs.set k (s % 4294967296)) (s / 4294967296) := by
  have h1 := h.w32.get hk
  have h2 := mul_word (hx.get hkx) hw
  have h3 := h.hcy
  refine ⟨by simpa using h.len, h.w32.set _ (Nat.mod_lt _ (by omega)), ?_, ?_, ?_⟩
  · generalize xs[k] * w = q at *
    omega
  · rw [drop_set_succ, ← List.drop_drop, h.rest, List.drop_drop]
  · rw [val_take_set _ hk, val_take_getD zs0, val_take_getD xs, Nat.add_assoc, pow_carry, ← h.at_ hk, getD_at hkx]
    exact mul_step_eq h.eq hs
theorem MulInv.done {zs0 xs zs : List Nat} {w cy : Nat} (h : MulInv zs0 xs w xs.length zs cy) (hl : xs.length ≤ zs.length) :
    val zs + 4294967296 ^ xs.length * cy = val zs0 + val xs * w := by
  have e := h.eq
  rw [List.take_of_length_le (l := xs) (Nat.le_refl _)] at e
  have e1 := val_split zs xs.length hl
  have e2 := val_split zs0 xs.length (by have := h.len; omega)
  rw [h.rest] at e1
  omega
/-- what is added behind the words that have been met. -/
theorem mul_tail {zs zs0 zt xs : List Nat} {w cy c2 n : Nat} (hn : zs.length = n) (h : val zs + 4294967296 ^ xs.length * cy = val zs0 + val xs * w) (hl : xs.length ≤ n)
    (ht : val zt + 4294967296 ^ (n - xs.length) * c2 = val (zs.drop xs.length) + cy) (hf : val zs0 + val xs * w < 4294967296 ^ n) : val (zs.take xs.length ++ zt) = val zs0 + val xs * w := by
  rw [val_append, List.length_take, Nat.min_eq_left (by omega)]
  have e1 := val_split zs xs.length (by omega)
  have hp : 4294967296 ^ n = 4294967296 ^ xs.length * 4294967296 ^ (n - xs.length) := by rw [← Nat.pow_add]; congr 1; omega
  rw [hp] at hf
  generalize 4294967296 ^ xs.length = p at *
  generalize 4294967296 ^ (n - xs.length) = q at *
  generalize val zs0 + val xs * w = S at *
  have e : p * (val zt + q * c2) = p * (val (zs.drop xs.length) + cy) := by rw [ht]
  rw [Nat.mul_add, Nat.mul_add, ← Nat.mul_assoc] at e
  cases c2 with
  | zero => rw [Nat.mul_zero] at e; omega
  | succ c =>
    rw [Nat.mul_succ] at e
    generalize p * q * c = r at *
    omega
theorem no_carry {zs zs0 xs : List Nat} {w cy n : Nat} (_hn : zs.length = n) (h : val zs + 4294967296 ^ xs.length * cy = val zs0 + val xs * w) (hl : n ≤ xs.length) (hf : val zs0 + val xs * w < 4294967296 ^ n) : cy = 0 := by
  have : 4294967296 ^ n ≤ 4294967296 ^ xs.length := Nat.pow_le_pow_right (by omega) hl
  generalize 4294967296 ^ xs.length = p at *
  cases cy with
  | zero => rfl
  | succ c =>
    rw [Nat.mul_succ] at h
    generalize p * c = r at *
    omega
/-- the sum of one multiple, behind k words. -/
theorem prod_fits {zs zs0 xs ys : List Nat} {k n : Nat} (hk : k < ys.length) (hkn : k ≤ n) (hn : zs.length = n) (h : val zs = val zs0 + val xs * val (ys.take k)) (hf : val zs0 + val xs * val ys < 4294967296 ^ n) :
    val (zs.drop k) + val xs * ys[k] < 4294967296 ^ (n - k) := by
  have e1 := val_split zs k (by omega)
  have e2 := val_split ys (k + 1) (by omega)
  rw [val_take_succ ys k hk] at e2
  have hp : 4294967296 ^ n = 4294967296 ^ k * 4294967296 ^ (n - k) := by rw [← Nat.pow_add]; congr 1; omega
  rw [hp, e2, Nat.mul_add, Nat.mul_add] at hf
  refine Nat.lt_of_mul_lt_mul_left (a := 4294967296 ^ k) ?_
  rw [Nat.mul_add, ← Nat.mul_assoc, Nat.mul_comm (4294967296 ^ k) (val xs), Nat.mul_assoc]
  omega
theorem prod_step {zs zs0 zt xs ys : List Nat} {k n : Nat} (hk : k < ys.length) (hkn : k ≤ n) (hn : zs.length = n) (h : val zs = val zs0 + val xs * val (ys.take k)) (ht : val zt = val (zs.drop k) + val xs * ys[k]) :
    val (zs.take k ++ zt) = val zs0 + val xs * val (ys.take (k + 1)) := by
  rw [val_append, List.length_take, Nat.min_eq_left (by omega), ht, val_take_succ ys k hk, Nat.mul_add, Nat.mul_add]
  have e1 := val_split zs k (by omega)
  rw [← Nat.mul_assoc, Nat.mul_comm (4294967296 ^ k) (val xs), Nat.mul_assoc]
  omega
theorem prod_lt {xs ys : List Nat} (hx : W32 xs) (hy : W32 ys) : val xs * val ys < 4294967296 ^ (xs.length + ys.length) := by
  rw [Nat.pow_add]
  exact Nat.mul_lt_mul'' (val_lt hx) (val_lt hy)

/-! the school's product, row by row -/
theorem mid_split (zs : List Nat) (i m : Nat) : zs.take i ++ (zs.drop i).take m ++ zs.drop (i + m) = zs := by
  rw [List.append_assoc, ← List.drop_drop, List.take_append_drop, List.take_append_drop]
theorem times_step {zs mid xs ys : List Nat} {i m cy : Nat} (hi : i < xs.length) (hz : i + m < zs.length) (hy : ys.length = m) (hl : mid.length = m) (h : val (zs.take (i + m)) = val (xs.take i) * val ys)
    (he : val mid + 4294967296 ^ m * cy = val ((zs.drop i).take m) + val ys * xs[i]) :
    val (((zs.take i ++ mid ++ zs.drop (i + m)).set (i + m) cy).take (i + 1 + m)) = val (xs.take (i + 1)) * val ys := by
  have hli : (zs.take i).length = i := by rw [List.length_take]; omega
  have hlen : (zs.take i ++ mid).length = i + m := by rw [List.length_append, hli, hl]
  rw [show i + 1 + m = i + m + 1 by omega, val_take_set _ (by rw [List.length_append, hlen, List.length_drop]; omega), List.take_left' hlen, val_append, hli, val_take_succ xs i hi, Nat.add_mul, ← h]
  have e : zs.take (i + m) = zs.take i ++ (zs.drop i).take m := by rw [List.take_add]
  rw [e, val_append, hli, Nat.pow_add, Nat.mul_assoc, Nat.add_assoc, ← Nat.mul_add, he, Nat.mul_add, Nat.mul_comm (val ys) xs[i]]
  rw [Nat.mul_assoc, Nat.add_assoc]
theorem times_start {zs ys : List Nat} {m : Nat} (h : ∀ x ∈ zs, x = 0) : val (zs.take (0 + m)) = val (List.take 0 ([] : List Nat)) * val ys := by
  have : ∀ l : List Nat, (∀ x ∈ l, x = 0) → val l = 0 := by
    intro l hl
    induction l with
    | nil => rfl
    | cons x l ih => simp only [val]; rw [hl x (by simp), ih (fun y hy => hl y (by simp [hy]))]
  rw [this _ (fun x hx => h x (List.mem_of_mem_take hx))]
  simp [val]
theorem cast_mac2 (a x q z : Nat) : (a : Int) + (z : Int) + (x : Int) * (q : Int) = ((a + (q * x + z) : Nat) : Int) := by
  rw [Int.natCast_add, Int.natCast_add, Int.natCast_mul, Int.mul_comm]; omega
end Go.Proofs.Ytmjmcinnbmjpdaa
