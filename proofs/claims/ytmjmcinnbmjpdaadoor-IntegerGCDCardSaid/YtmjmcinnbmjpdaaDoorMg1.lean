/- Walks and laws, part 1. -/
import Derived.Test.YtmjmcinnbmjpdaaDoorMg0
namespace Go.Proofs.YtmjmcinnbmjpdaaDoor

def val : List Nat → Nat
  | [] => 0
  | x :: xs => x + 4294967296 * val xs

theorem val_append (xs ys : List Nat) : val (xs ++ ys) = val xs + 4294967296 ^ xs.length * val ys := by
  induction xs with
  | nil => simp [val]
  | cons x xs ih =>
    simp only [List.cons_append, val, ih, List.length_cons, Nat.pow_succ]
    rw [Nat.mul_add, Nat.mul_comm (4294967296 ^ xs.length) 4294967296, Nat.mul_assoc]; omega
theorem val_one (x : Nat) : val [x] = x := by simp [val]
theorem take_succ' {xs : List Nat} {k : Nat} (h : k < xs.length) : xs.take (k + 1) = xs.take k ++ [xs[k]] := List.take_succ_eq_append_getElem h
theorem val_take_succ (xs : List Nat) (k : Nat) (h : k < xs.length) : val (xs.take (k + 1)) = val (xs.take k) + 4294967296 ^ k * xs[k] := by
  rw [take_succ' h, val_append, val_one, List.length_take, Nat.min_eq_left (by omega)]
theorem val_split (xs : List Nat) (k : Nat) (h : k ≤ xs.length) : val xs = val (xs.take k) + 4294967296 ^ k * val (xs.drop k) := by
  conv => lhs; rw [← List.take_append_drop k xs]
  rw [val_append, List.length_take, Nat.min_eq_left h]
theorem W32.nil : W32 [] := fun _ h => by cases h
theorem W32.append {xs ys : List Nat} (hx : W32 xs) (hy : W32 ys) : W32 (xs ++ ys) := fun z hz => by
  rcases List.mem_append.1 hz with h | h
  · exact hx z h
  · exact hy z h
theorem W32.take {xs : List Nat} (hx : W32 xs) (k : Nat) : W32 (xs.take k) := fun z hz => hx z (List.mem_of_mem_take hz)
theorem W32.drop {xs : List Nat} (hx : W32 xs) (k : Nat) : W32 (xs.drop k) := fun z hz => hx z (List.mem_of_mem_drop hz)
theorem W32.set {xs : List Nat} (hx : W32 xs) (k : Nat) {v : Nat} (hv : v < 4294967296) : W32 (xs.set k v) := fun z hz => by
  rcases List.mem_or_eq_of_mem_set hz with h | h
  · exact hx z h
  · rw [h]; exact hv
theorem W32.replicate (n : Nat) : W32 (List.replicate n 0) := fun z hz => by rw [(List.mem_replicate.1 hz).2]; omega
theorem W32.get {xs : List Nat} (hx : W32 xs) {k : Nat} (h : k < xs.length) : xs[k] < 4294967296 := hx _ (List.getElem_mem h)
theorem W32.cons {x : Nat} {xs : List Nat} (hx : x < 4294967296) (h : W32 xs) : W32 (x :: xs) := fun z hz => by
  rcases List.mem_cons.1 hz with e | e
  · rw [e]; exact hx
  · exact h z e
theorem W32.one {x : Nat} (hx : x < 4294967296) : W32 [x] := W32.cons hx W32.nil
theorem val_lt {xs : List Nat} (h : W32 xs) : val xs < 4294967296 ^ xs.length := by
  induction xs with
  | nil => simp [val]
  | cons x xs ih =>
    have hx := h x (by simp)
    have := ih fun z hz => h z (by simp [hz])
    simp only [val, List.length_cons, Nat.pow_succ]
    have : 4294967296 * (val xs + 1) ≤ 4294967296 * 4294967296 ^ xs.length := Nat.mul_le_mul_left _ (by omega)
    omega
theorem val_replicate (n : Nat) : val (List.replicate n 0) = 0 := by
  induction n with
  | zero => rfl
  | succ n ih => simp [List.replicate_succ, val, ih]

/-! the form without zeros at the end -/
def trimL (xs : List Nat) : List Nat := (xs.reverse.dropWhile (· == 0)).reverse
def Nrm (xs : List Nat) : Prop := trimL xs = xs
theorem trimL_nil : trimL [] = [] := rfl
theorem trimL_snoc_zero (xs : List Nat) : trimL (xs ++ [0]) = trimL xs := by simp [trimL]
theorem trimL_snoc_pos (xs : List Nat) {x : Nat} (h : x ≠ 0) : trimL (xs ++ [x]) = xs ++ [x] := by simp [trimL, h]
theorem trimL_zero (xs : List Nat) (k : Nat) (h : k < xs.length) (h0 : xs[k] = 0) : trimL (xs.take (k+1)) = trimL (xs.take k) := by
  rw [take_succ' h, h0, trimL_snoc_zero]
theorem trimL_pos (xs : List Nat) (k : Nat) (h : k < xs.length) (h0 : xs[k] ≠ 0) : trimL (xs.take (k+1)) = xs.take (k+1) := by
  rw [take_succ' h, trimL_snoc_pos _ h0]
theorem snoc_ind {P : List Nat → Prop} (h0 : P []) (h1 : ∀ xs x, P xs → P (xs ++ [x])) (xs : List Nat) : P xs := by
  have : ∀ ys : List Nat, P ys.reverse := by
    intro ys
    induction ys with
    | nil => exact h0
    | cons y ys ih => rw [List.reverse_cons]; exact h1 _ _ ih
  rw [← List.reverse_reverse xs]
  exact this _
theorem trimL_prefix (xs : List Nat) : ∃ k, k ≤ xs.length ∧ trimL xs = xs.take k := by
  induction xs using snoc_ind with
  | h0 => exact ⟨0, by simp, rfl⟩
  | h1 xs x ih =>
    by_cases hx : x = 0
    · subst hx
      obtain ⟨k, hk, he⟩ := ih
      exact ⟨k, by simp; omega, by rw [trimL_snoc_zero, he, List.take_append_of_le_length hk]⟩
    · exact ⟨xs.length + 1, by simp, by rw [trimL_snoc_pos _ hx, List.take_of_length_le (by simp)]⟩
theorem trimL_len (xs : List Nat) : (trimL xs).length ≤ xs.length := by
  obtain ⟨k, hk, he⟩ := trimL_prefix xs
  rw [he, List.length_take]; omega
theorem trimL_take (xs : List Nat) : trimL xs = xs.take (trimL xs).length := by
  obtain ⟨k, hk, he⟩ := trimL_prefix xs
  rw [he, List.length_take, Nat.min_eq_left hk]
theorem W32.trimL {xs : List Nat} (h : W32 xs) : W32 (trimL xs) := by rw [trimL_take]; exact h.take _
theorem val_trimL (xs : List Nat) : val (trimL xs) = val xs := by
  induction xs using snoc_ind with
  | h0 => rfl
  | h1 xs x ih =>
    by_cases hx : x = 0
    · subst hx; rw [trimL_snoc_zero, ih, val_append]; simp [val]
    · rw [trimL_snoc_pos _ hx]
theorem trimL_trimL (xs : List Nat) : trimL (trimL xs) = trimL xs := by
  induction xs using snoc_ind with
  | h0 => rfl
  | h1 xs x ih =>
    by_cases hx : x = 0
    · subst hx; rw [trimL_snoc_zero, ih]
    · rw [trimL_snoc_pos _ hx, trimL_snoc_pos _ hx]
theorem Nrm.trimL (xs : List Nat) : Nrm (trimL xs) := trimL_trimL xs
theorem Nrm.nil : Nrm [] := rfl
theorem Nrm.snoc (xs : List Nat) {x : Nat} (h : x ≠ 0) : Nrm (xs ++ [x]) := trimL_snoc_pos xs h
theorem Nrm.one {x : Nat} (h : x ≠ 0) : Nrm [x] := Nrm.snoc [] h
theorem Nrm.cases {xs : List Nat} (h : Nrm xs) : xs = [] ∨ ∃ ys x, xs = ys ++ [x] ∧ x ≠ 0 := by
  induction xs using snoc_ind with
  | h0 => exact .inl rfl
  | h1 xs x _ =>
    refine .inr ⟨xs, x, rfl, fun hx => ?_⟩
    subst hx
    unfold Nrm at h
    rw [trimL_snoc_zero] at h
    have := trimL_len xs
    rw [h] at this
    simp at this
    omega
theorem Nrm.last {xs : List Nat} (h : Nrm xs) (hn : 0 < xs.length) : xs[xs.length - 1]'(by omega) ≠ 0 := by
  rcases h.cases with rfl | ⟨ys, x, rfl, hx⟩
  · simp at hn
  · simpa using hx
theorem Nrm.of_last {xs : List Nat} (h : ∀ hn : 0 < xs.length, xs[xs.length - 1]'(by omega) ≠ 0) : Nrm xs := by
  induction xs using snoc_ind with
  | h0 => rfl
  | h1 xs x _ => exact Nrm.snoc xs (by have := h (by simp); simpa using this)
theorem Nrm.ge {xs : List Nat} (h : Nrm xs) (hn : xs ≠ []) : 4294967296 ^ (xs.length - 1) ≤ val xs := by
  rcases h.cases with rfl | ⟨ys, x, rfl, hx⟩
  · exact absurd rfl hn
  · rw [val_append, val_one]
    simp only [List.length_append, List.length_cons, List.length_nil, Nat.zero_add, Nat.add_sub_cancel]
    have : 4294967296 ^ ys.length * 1 ≤ 4294967296 ^ ys.length * x := Nat.mul_le_mul_left _ (by omega)
    omega
theorem Nrm.zero {xs : List Nat} (h : Nrm xs) : val xs = 0 ↔ xs = [] := by
  constructor
  · intro h0
    by_cases hn : xs = []
    · exact hn
    · have := h.ge hn
      have := Nat.pow_pos (n := xs.length - 1) (show 0 < 4294967296 by omega)
      omega
  · rintro rfl; rfl
theorem val_lt_of_len {xs ys : List Nat} (hx : W32 xs) (hy : Nrm ys) (h : xs.length < ys.length) : val xs < val ys := by
  have h1 := val_lt hx
  have h2 := hy.ge (by rintro rfl; simp at h)
  have : 4294967296 ^ xs.length ≤ 4294967296 ^ (ys.length - 1) := Nat.pow_le_pow_right (by omega) (by omega)
  omega
theorem val_inj_len {xs ys : List Nat} (hx : W32 xs) (hy : W32 ys) (hl : xs.length = ys.length) (h : val xs = val ys) : xs = ys := by
  induction xs generalizing ys with
  | nil => cases ys with
    | nil => rfl
    | cons y ys => simp at hl
  | cons x xs ih =>
    cases ys with
    | nil => simp at hl
    | cons y ys =>
      have a := hx x (by simp)
      have b := hy y (by simp)
      simp only [val] at h
      have e1 : x = y := by omega
      have e2 : val xs = val ys := by omega
      rw [e1, ih (fun z hz => hx z (by simp [hz])) (fun z hz => hy z (by simp [hz])) (by simpa using hl) e2]
theorem nrm_inj {xs ys : List Nat} (hx : W32 xs) (hy : W32 ys) (nx : Nrm xs) (ny : Nrm ys) (h : val xs = val ys) : xs = ys := by
  rcases Nat.lt_trichotomy xs.length ys.length with hl | hl | hl
  · have := val_lt_of_len hx ny hl; omega
  · exact val_inj_len hx hy hl h
  · have := val_lt_of_len hy nx hl; omega

/-! comparing -/
def cmpI (a b : Nat) : Int := if a < b then -1 else if b < a then 1 else 0
def cmpL (xs ys : List Nat) : Int := if xs.length = ys.length then cmpI (val xs) (val ys) else cmpI xs.length ys.length
theorem cmpI_self (a : Nat) : cmpI a a = 0 := by simp [cmpI]
theorem cmpL_self (xs : List Nat) : cmpL xs xs = 0 := by simp [cmpL, cmpI_self]
theorem cmpL_nrm {xs ys : List Nat} (hx : W32 xs) (hy : W32 ys) (nx : Nrm xs) (ny : Nrm ys) : cmpL xs ys = cmpI (val xs) (val ys) := by
  unfold cmpL
  split
  · rfl
  · rename_i hne
    rcases Nat.lt_or_ge xs.length ys.length with hl | hl
    · have := val_lt_of_len hx ny hl
      simp [cmpI, hl, this]
    · have hl' : ys.length < xs.length := by omega
      have := val_lt_of_len hy nx hl'
      simp [cmpI, hl', this, show ¬ xs.length < ys.length by omega, show ¬ val xs < val ys by omega]
theorem val_lt_at {xs ys : List Nat} (hx : W32 xs) (k : Nat) (hkx : k < xs.length) (hky : k < ys.length) (ht : xs.drop (k + 1) = ys.drop (k + 1)) (h : xs[k] < ys[k]) : val xs < val ys := by
  rw [val_split xs (k + 1) (by omega), val_split ys (k + 1) (by omega), ht, val_take_succ _ _ hkx, val_take_succ _ _ hky]
  have h1 := val_lt (hx.take k)
  rw [List.length_take, Nat.min_eq_left (by omega)] at h1
  have h2 : 4294967296 ^ k * (xs[k] + 1) ≤ 4294967296 ^ k * ys[k] := Nat.mul_le_mul_left _ (by omega)
  rw [Nat.mul_add] at h2
  omega
theorem cmpL_lt {xs ys : List Nat} (hx : W32 xs) (hl : xs.length = ys.length) (k : Nat) (hkx : k < xs.length) (hky : k < ys.length) (ht : xs.drop (k + 1) = ys.drop (k + 1)) (h : xs[k] < ys[k]) : cmpL xs ys = -1 := by
  simp [cmpL, hl, cmpI, val_lt_at hx k hkx hky ht h]
theorem cmpL_gt {xs ys : List Nat} (hy : W32 ys) (hl : xs.length = ys.length) (k : Nat) (hkx : k < xs.length) (hky : k < ys.length) (ht : xs.drop (k + 1) = ys.drop (k + 1)) (h : ys[k] < xs[k]) : cmpL xs ys = 1 := by
  have := val_lt_at hy k hky hkx ht.symm h
  simp [cmpL, hl, cmpI, this, show ¬ val xs < val ys by omega]
theorem cmpL_len_lt {xs ys : List Nat} (h : xs.length < ys.length) : cmpL xs ys = -1 := by simp [cmpL, cmpI, h, show xs.length ≠ ys.length by omega]
theorem cmpL_len_gt {xs ys : List Nat} (h : ys.length < xs.length) : cmpL xs ys = 1 := by simp [cmpL, cmpI, h, show xs.length ≠ ys.length by omega, show ¬ xs.length < ys.length by omega]
theorem cmpL_len_lt' {xs ys : List Nat} (h : xs.length < ys.length) : cmpL xs ys = cmpI xs.length ys.length := by simp [cmpL, show xs.length ≠ ys.length by omega]
theorem cmpL_len_gt' {xs ys : List Nat} (h : ys.length < xs.length) : cmpL xs ys = cmpI xs.length ys.length := by simp [cmpL, show xs.length ≠ ys.length by omega]
theorem cmpL_at {xs ys : List Nat} (hx : W32 xs) (hy : W32 ys) (hl : xs.length = ys.length) (k : Nat) (hkx : k < xs.length) (hky : k < ys.length) (ht : xs.drop (k + 1) = ys.drop (k + 1)) (h : xs[k] ≠ ys[k]) : cmpL xs ys = cmpI xs[k] ys[k] := by
  rcases Nat.lt_or_ge xs[k] ys[k] with h1 | h1
  · rw [cmpL_lt hx hl k hkx hky ht h1]; simp [cmpI, h1]
  · rw [cmpL_gt hy hl k hkx hky ht (by omega)]; simp [cmpI, show ys[k] < xs[k] by omega]; omega
theorem drop_eq_step {xs ys : List Nat} (k : Nat) (hkx : k < xs.length) (hky : k < ys.length) (ht : xs.drop (k + 1) = ys.drop (k + 1)) (h : xs[k] = ys[k]) : xs.drop k = ys.drop k := by
  rw [List.drop_eq_getElem_cons hkx, List.drop_eq_getElem_cons hky, ht, h]

/-! steps with a carry -/
theorem val_take_getD (xs : List Nat) (k : Nat) : val (xs.take (k + 1)) = val (xs.take k) + 4294967296 ^ k * xs.getD k 0 := by
  by_cases h : k < xs.length
  · rw [val_take_succ xs k h]; simp [List.getD, h]
  · rw [List.take_of_length_le (by omega), List.take_of_length_le (by omega)]; simp [List.getD, h]
theorem take_set_self (zs : List Nat) (k v : Nat) : (zs.set k v).take k = zs.take k := by
  rw [List.take_set]
  exact List.set_eq_of_length_le (by rw [List.length_take]; omega)
theorem val_take_set {zs : List Nat} {k : Nat} (v : Nat) (h : k < zs.length) : val ((zs.set k v).take (k + 1)) = val (zs.take k) + 4294967296 ^ k * v := by
  rw [val_take_succ _ _ (by simpa using h), take_set_self]
  simp
theorem drop_set_succ (zs : List Nat) (k v : Nat) : (zs.set k v).drop (k + 1) = zs.drop (k + 1) := by
  rw [List.drop_set]
  simp
theorem pow_carry (k s : Nat) : 4294967296 ^ k * (s % 4294967296) + 4294967296 ^ (k + 1) * (s / 4294967296) = 4294967296 ^ k * s := by
  rw [Nat.pow_succ, Nat.mul_assoc, ← Nat.mul_add]
  congr 1
  omega
theorem getD_lt {xs : List Nat} (h : W32 xs) (k : Nat) : xs.getD k 0 < 4294967296 := by
  by_cases hk : k < xs.length
  · simpa [List.getD, hk] using h.get hk
  · simp [List.getD, hk]
theorem getD_at {xs : List Nat} {k : Nat} (h : k < xs.length) : xs.getD k 0 = xs[k] := by simp [List.getD, h]
theorem getD_out {xs : List Nat} {k : Nat} (h : ¬ k < xs.length) : xs.getD k 0 = 0 := by simp [List.getD, h]

structure PlusInv (xs ys : List Nat) (k : Nat) (zs : List Nat) (cy : Nat) : Prop where
  len1 : zs.length ≤ xs.length + 1
  len2 : xs.length + 1 ≤ zs.length
  w32 : W32 zs
  hcy : cy ≤ 1
  eq : val (zs.take k) + 4294967296 ^ k * cy = val (xs.take k) + val (ys.take k)
theorem PlusInv.start (xs ys : List Nat) : PlusInv xs ys 0 (List.replicate (xs.length + 1) 0) 0 := ⟨by simp, by simp, W32.replicate _, by omega, by simp [val]⟩
theorem PlusInv.step {xs ys zs : List Nat} {k cy : Nat} (h : PlusInv xs ys k zs cy) (hx : W32 xs) (hy : W32 ys) (hk : k < xs.length) {s : Nat} (hs : s = cy + xs.getD k 0 + ys.getD k 0) :
    PlusInv xs ys (k + 1) (zs.set k (s % 4294967296)) (s / 4294967296) := by
  have h1 := getD_lt hx k
  have h2 := getD_lt hy k
  have h3 := h.hcy
  refine ⟨by simpa using h.len1, by simpa using h.len2, h.w32.set _ (by omega), by omega, ?_⟩
  rw [val_take_set _ (by have := h.len2; omega), val_take_getD xs, val_take_getD ys, Nat.add_assoc, pow_carry]
  have := h.eq
  rw [hs, Nat.mul_add, Nat.mul_add]
  omega
theorem PlusInv.done {xs ys zs : List Nat} {cy : Nat} (h : PlusInv xs ys xs.length zs cy) (hl : ys.length ≤ xs.length) : val (trimL (zs.set xs.length cy)) = val xs + val ys := by
  rw [val_trimL]
  have e := h.eq
  have e2 := val_take_set (zs := zs) (k := xs.length) cy (by have := h.len2; omega)
  rw [List.take_of_length_le (by simp; exact h.len1)] at e2
  rw [List.take_of_length_le (l := xs) (Nat.le_refl _), List.take_of_length_le hl] at e
  omega

/-! in place -/
structure AddInv (zs0 bs : List Nat) (k : Nat) (zs : List Nat) (cy : Nat) : Prop where
  len : zs.length = zs0.length
  w32 : W32 zs
  hcy : cy ≤ 1
  rest : zs.drop k = zs0.drop k
  eq : val (zs.take k) + 4294967296 ^ k * cy = val (zs0.take k) + val (bs.take k)
theorem AddInv.start {zs0 bs : List Nat} (h : W32 zs0) : AddInv zs0 bs 0 zs0 0 := ⟨rfl, h, by omega, rfl, by simp [val]⟩
theorem AddInv.at_ {zs0 bs zs : List Nat} {k cy : Nat} (h : AddInv zs0 bs k zs cy) (hk : k < zs.length) : zs[k] = zs0.getD k 0 := by
  have := congrArg (fun l : List Nat => l.getD 0 0) h.rest
  simp only [List.getD, List.getElem?_drop, Nat.add_zero] at this
  rw [List.getElem?_eq_getElem hk] at this
  simpa [List.getD] using this
theorem AddInv.step {zs0 bs zs : List Nat} {k cy : Nat} (h : AddInv zs0 bs k zs cy) (_h0 : W32 zs0) (hb : W32 bs) (hk : k < zs.length) {s : Nat} (hs : s = cy + zs[k] + bs.getD k 0) :
    AddInv zs0 bs (k + 1) (zs.set k (s % 4294967296)) (s / 4294967296) := by
  have h1 := h.w32.get hk
  have h2 := getD_lt hb k
  have h3 := h.hcy
  refine ⟨by simpa using h.len, h.w32.set _ (by omega), by omega, ?_, ?_⟩
  · rw [drop_set_succ, ← List.drop_drop, h.rest, List.drop_drop]
  · rw [val_take_set _ hk, val_take_getD zs0, val_take_getD bs, Nat.add_assoc, pow_carry, ← h.at_ hk]
    have := h.eq
    rw [hs, Nat.mul_add, Nat.mul_add]
    omega
/-- the end: the carry is 0, or all words have been met. -/
theorem AddInv.done {zs0 bs zs : List Nat} {k cy : Nat} (h : AddInv zs0 bs k zs cy) (hk : bs.length ≤ k) (hkz : k ≤ zs.length) (he : cy = 0 ∨ k = zs.length) :
    ∃ c, c ≤ 1 ∧ val zs + 4294967296 ^ zs.length * c = val zs0 + val bs := by
  have hl := h.len
  have e := h.eq
  rw [List.take_of_length_le hk] at e
  have e1 := val_split zs k hkz
  have e2 := val_split zs0 k (by omega)
  rw [h.rest] at e1
  rcases he with rfl | rfl
  · exact ⟨0, by omega, by omega⟩
  · refine ⟨cy, h.hcy, ?_⟩
    rw [List.drop_of_length_le (by omega)] at e1 e2
    simp only [val] at e1 e2
    omega
theorem carry_zero {z p b cy s : Nat} (h : z + p * b * cy = s) (hs : s < p * b) : cy = 0 := by
  cases cy with
  | zero => rfl
  | succ c =>
    have : p * b ≤ p * b * (c + 1) := Nat.le_mul_of_pos_right _ (Nat.succ_pos c)
    omega
theorem two_lt {a b p q : Nat} (h1 : a < p) (h2 : b < q) (h3 : q ≤ p) (d : Nat) (hd : 2 ≤ d) : a + b < p * d := by
  have : p * 2 ≤ p * d := Nat.mul_le_mul_left _ hd
  omega
theorem add_done {xs ys zs : List Nat} {cy : Nat} (hx : W32 xs) (hy : W32 ys) (hl : ys.length ≤ xs.length)
    (h : val zs + 4294967296 ^ (xs.length + 1) * cy = val (xs ++ (List.replicate (xs.length + 1) 0).drop xs.length) + val ys) : val zs = val xs + val ys := by
  have e : val (xs ++ (List.replicate (xs.length + 1) 0).drop xs.length) = val xs := by
    rw [val_append, List.drop_replicate, val_replicate]
    simp
  rw [e, Nat.pow_succ] at h
  have := carry_zero h (two_lt (val_lt hx) (val_lt hy) (Nat.pow_le_pow_right (by omega) hl) _ (by omega))
  rw [this, Nat.mul_zero, Nat.add_zero] at h
  exact h
theorem borrow_low {z y c : Nat} (hz : z < 4294967296) (hy : y < 4294967296) (hc : c ≤ 1) (h : ¬ y + c ≤ z) :
    IntKind.u64.wrap (IntKind.u64.wrap ((z : Int) - (y : Int)) - (c : Int)) % 4294967296 = ((z + 4294967296 - y - c : Nat) : Int) := by
  rw [IntKind.wrap_u64, IntKind.wrap_u64]; omega
theorem borrow_top {z y c : Nat} (hz : z < 4294967296) (hy : y < 4294967296) (hc : c ≤ 1) (h : ¬ y + c ≤ z) :
    IntKind.u64.wrap (IntKind.u64.wrap ((z : Int) - (y : Int)) - (c : Int)) / 9223372036854775808 = 1 := by
  rw [IntKind.wrap_u64, IntKind.wrap_u64]; omega
theorem borrow_low1 {z : Nat} (hz : z < 4294967296) (h : ¬ 1 ≤ z) : IntKind.u64.wrap ((z : Int) - 1) % 4294967296 = ((z + 4294967296 - 1 : Nat) : Int) := by
  rw [IntKind.wrap_u64]; omega
theorem borrow_top1 {z : Nat} (hz : z < 4294967296) (h : ¬ 1 ≤ z) : IntKind.u64.wrap ((z : Int) - 1) / 9223372036854775808 = 1 := by
  rw [IntKind.wrap_u64]; omega
structure SubInv (zs0 bs : List Nat) (k : Nat) (zs : List Nat) (bw : Nat) : Prop where
  len : zs.length = zs0.length
  w32 : W32 zs
  hbw : bw ≤ 1
  rest : zs.drop k = zs0.drop k
  eq : val (zs.take k) + val (bs.take k) = val (zs0.take k) + 4294967296 ^ k * bw
theorem SubInv.start {zs0 bs : List Nat} (h : W32 zs0) : SubInv zs0 bs 0 zs0 0 := ⟨rfl, h, by omega, rfl, by simp [val]⟩
theorem SubInv.at_ {zs0 bs zs : List Nat} {k bw : Nat} (h : SubInv zs0 bs k zs bw) (hk : k < zs.length) : zs[k] = zs0.getD k 0 := by
  have := congrArg (fun l : List Nat => l.getD 0 0) h.rest
  simp only [List.getD, List.getElem?_drop, Nat.add_zero] at this
  rw [List.getElem?_eq_getElem hk] at this
  simpa [List.getD] using this
theorem SubInv.step {zs0 bs zs : List Nat} {k bw d bw' : Nat} (h : SubInv zs0 bs k zs bw) (hk : k < zs.length) (hd : d < 4294967296) (hbw : bw' ≤ 1) (hs : d + bs.getD k 0 + bw = zs[k] + 4294967296 * bw') :
    SubInv zs0 bs (k + 1) (zs.set k d) bw' := by
  refine ⟨by simpa using h.len, h.w32.set _ hd, hbw, ?_, ?_⟩
  · rw [drop_set_succ, ← List.drop_drop, h.rest, List.drop_drop]
  · rw [val_take_set _ hk, val_take_getD zs0, val_take_getD bs, ← h.at_ hk]
    have := h.eq
    have e := congrArg (fun n => 4294967296 ^ k * n) hs
    simp only [Nat.mul_add] at e
    rw [Nat.pow_succ, Nat.mul_assoc]
    omega
theorem SubInv.lt {zs0 bs zs : List Nat} {k bw : Nat} (h : SubInv zs0 bs k zs bw) (hk : bs.length ≤ k) (hv : val bs ≤ val zs0) (hb : bw ≠ 0) : k < zs.length := by
  rcases Nat.lt_or_ge k zs.length with h1 | h1
  · exact h1
  · have hl := h.len
    have e := h.eq
    have := h.hbw
    have hb1 : bw = 1 := by omega
    subst hb1
    rw [List.take_of_length_le hk, List.take_of_length_le h1, List.take_of_length_le (by omega)] at e
    have h2 := val_lt h.w32
    have : 4294967296 ^ zs.length ≤ 4294967296 ^ k := Nat.pow_le_pow_right (by omega) h1
    omega
theorem SubInv.done {zs0 bs zs : List Nat} {k : Nat} (h : SubInv zs0 bs k zs 0) (hk : bs.length ≤ k) (hkz : k ≤ zs.length) : val zs + val bs = val zs0 := by
  have hl := h.len
  have e := h.eq
  rw [List.take_of_length_le hk] at e
  have e1 := val_split zs k hkz
  have e2 := val_split zs0 k (by omega)
  rw [h.rest] at e1
  omega
/-! a difference in new memory -/
structure MinInv (xs ys : List Nat) (k : Nat) (zs : List Nat) (bw : Nat) : Prop where
  len1 : zs.length ≤ xs.length
  len2 : xs.length ≤ zs.length
  w32 : W32 zs
  hbw : bw ≤ 1
  eq : val (zs.take k) + val (ys.take k) = val (xs.take k) + 4294967296 ^ k * bw
theorem MinInv.start (xs ys : List Nat) : MinInv xs ys 0 (List.replicate xs.length 0) 0 := ⟨by simp, by simp, W32.replicate _, by omega, by simp [val]⟩
theorem MinInv.step {xs ys zs : List Nat} {k bw d bw' : Nat} (h : MinInv xs ys k zs bw) (hk : k < xs.length) (hd : d < 4294967296) (hbw : bw' ≤ 1) (hs : d + ys.getD k 0 + bw = xs.getD k 0 + 4294967296 * bw') :
    MinInv xs ys (k + 1) (zs.set k d) bw' := by
  refine ⟨by simpa using h.len1, by simpa using h.len2, h.w32.set _ hd, hbw, ?_⟩
  rw [val_take_set _ (by have := h.len2; omega), val_take_getD xs, val_take_getD ys]
  have := h.eq
  have e := congrArg (fun n => 4294967296 ^ k * n) hs
  simp only [Nat.mul_add] at e
  rw [Nat.pow_succ, Nat.mul_assoc]
  omega
theorem MinInv.done {xs ys zs : List Nat} {bw : Nat} (h : MinInv xs ys xs.length zs bw) (hl : ys.length ≤ xs.length) (hv : val ys ≤ val xs) : val zs + val ys = val xs := by
  have e := h.eq
  have h2 := val_lt h.w32
  have l1 := h.len1
  have l2 := h.len2
  have hz : zs.length = xs.length := by omega
  rw [List.take_of_length_le l1, List.take_of_length_le hl, List.take_of_length_le (Nat.le_refl _)] at e
  rw [hz] at h2
  have := h.hbw
  have : bw = 0 := by
    rcases Nat.eq_zero_or_pos bw with h0 | h0
    · exact h0
    · have : bw = 1 := by omega
      subst this
      omega
  subst this
  omega
end Go.Proofs.YtmjmcinnbmjpdaaDoor
