/- Decimal digits: the value of a text, the text of a value. -/
import Derived.Test.YtmjmcinnbmjpdaaNum
import Derived.Lib.ItoaNum
import Derived.Lib.Strings
namespace Go.Proofs.Ytmjmcinnbmjpdaa
open Go.RowKit
/-- the value of a text of digits. -/
def dv (l : List UInt8) : Nat := l.foldl (fun a c => 10 * a + (c.toNat - 48)) 0
theorem dv_nil : dv [] = 0 := rfl
theorem dv_snoc (l : List UInt8) (c : UInt8) : dv (l ++ [c]) = 10 * dv l + (c.toNat - 48) := by simp [dv]
def Dig (c : UInt8) : Prop := 48 ≤ c.toNat ∧ c.toNat ≤ 57
def Digs (l : List UInt8) : Prop := ∀ c ∈ l, Dig c
theorem Digs.left {l m : List UInt8} (h : Digs (l ++ m)) : Digs l := fun c hc => h c (List.mem_append.2 (.inl hc))
theorem Digs.right {l m : List UInt8} (h : Digs (l ++ m)) : Digs m := fun c hc => h c (List.mem_append.2 (.inr hc))
theorem snoc_ind8 {P : List UInt8 → Prop} (h0 : P []) (h1 : ∀ xs x, P xs → P (xs ++ [x])) (xs : List UInt8) : P xs := by
  have key : ∀ ys : List UInt8, P ys.reverse := by
    intro ys
    induction ys with
    | nil => exact h0
    | cons y ys ih => rw [List.reverse_cons]; exact h1 _ _ ih
  simpa using key xs.reverse
theorem dv_lt {l : List UInt8} (h : Digs l) : dv l < 10 ^ l.length := by
  induction l using snoc_ind8 with
  | h0 => simp [dv]
  | h1 xs x ih =>
    have h1 := ih h.left
    have h2 := h.right x (by simp)
    obtain ⟨h3, h4⟩ := h2
    rw [dv_snoc, List.length_append, List.length_singleton, Nat.pow_succ]
    omega
theorem u8_48 {c : UInt8} (h : c.toNat = 48) : c = 48 := UInt8.toNat_inj.1 h
theorem ofNat_dig {c : UInt8} (h : Dig c) : UInt8.ofNat (48 + (c.toNat - 48)) = c := by
  have e : 48 + (c.toNat - 48) = c.toNat := by have := h.1; omega
  rw [e]
  exact UInt8.ofNat_toNat
/-- no superfluous zeros. -/
def Canon (l : List UInt8) : Prop := l = [48] ∨ ∃ c t, l = c :: t ∧ c ≠ 48
theorem dec_step {v d : Nat} (hv : 0 < v) (hd : d < 10) : Lib.decDigits (10 * v + d) = Lib.decDigits v ++ [UInt8.ofNat (48 + d)] := by
  rw [Lib.decDigits, dif_neg (by omega)]
  rw [show (10 * v + d) / 10 = v by omega, show (10 * v + d) % 10 = d by omega]
theorem dv_pos {c : UInt8} {t : List UInt8} (h : Digs (c :: t)) (hc : c ≠ 48) : 0 < dv (c :: t) := by
  induction t using snoc_ind8 with
  | h0 =>
    have h1 := h c (by simp)
    have : c.toNat ≠ 48 := fun e => hc (u8_48 e)
    have h2 := h1.1
    simp [dv]
    omega
  | h1 xs x ih =>
    rw [← List.cons_append, dv_snoc]
    have := ih (Digs.left (m := [x]) (by simpa using h))
    omega
theorem dec_dv {c : UInt8} {t : List UInt8} (h : Digs (c :: t)) (hc : c ≠ 48) : Lib.decDigits (dv (c :: t)) = c :: t := by
  induction t using snoc_ind8 with
  | h0 =>
    have h1 := h c (by simp)
    have h2 := h1.2
    rw [show dv [c] = c.toNat - 48 by simp [dv], Lib.decDigits, dif_pos (by omega), ofNat_dig h1]
  | h1 xs x ih =>
    have hl : Digs (c :: xs) := Digs.left (m := [x]) (by simpa using h)
    have hx : Dig x := h x (by simp)
    have hp := dv_pos hl hc
    have hx2 := hx.2
    rw [← List.cons_append, dv_snoc, dec_step hp (by omega), ih hl, ofNat_dig hx]
theorem dec_canon {l : List UInt8} (h : Digs l) (hc : Canon l) : Lib.decDigits (dv l) = l := by
  rcases hc with rfl | ⟨c, t, rfl, hc⟩
  · rw [show dv [48] = 0 by rfl, Lib.decDigits]; rfl
  · exact dec_dv h hc
theorem canon_dec (u : Nat) : Canon (Lib.decDigits u) := by
  induction u using Nat.strongRecOn with
  | ind u ih =>
    by_cases hu : u < 10
    · rw [Lib.decDigits, dif_pos hu]
      by_cases h0 : u = 0
      · subst h0; exact .inl rfl
      · refine .inr ⟨_, [], rfl, fun e => ?_⟩
        have := congrArg UInt8.toNat e
        rw [UInt8.toNat_ofNat_of_lt' (by show 48 + u < 256; omega)] at this
        have h48 : (48 : UInt8).toNat = 48 := rfl
        omega
    · rw [Lib.decDigits, dif_neg hu]
      rcases ih (u / 10) (by omega) with h | ⟨c, t, h, hc⟩
      · have hl := congrArg dv h
        exfalso
        have h1 : 0 < u / 10 := by omega
        have key : ∀ v, 0 < v → Lib.decDigits v ≠ [48] := by
          intro v hv e
          by_cases h10 : v < 10
          · rw [Lib.decDigits, dif_pos h10] at e
            injection e with e
            have := congrArg UInt8.toNat e
            rw [UInt8.toNat_ofNat_of_lt' (by show 48 + v < 256; omega)] at this
            have h48 : (48 : UInt8).toNat = 48 := rfl
            omega
          · rw [Lib.decDigits, dif_neg h10] at e
            have := congrArg List.length e
            rw [List.length_append] at this
            have h2 := Lib.decDigits_length (v / 10)
            have h3 := Lib.nDigits_pos (v / 10)
            simp at this
            rw [this] at h2
            simp at h2
            omega
        exact key _ h1 h
      · rw [h]
        exact .inr ⟨c, t ++ _, rfl, hc⟩
theorem dec_iff {l : List UInt8} (h : Digs l) : Lib.decDigits (dv l) = l ↔ Canon l := ⟨fun e => e ▸ canon_dec (dv l), dec_canon h⟩
theorem dv_zero_canon {l : List UInt8} (h : Digs l) (hc : Canon l) (h0 : dv l = 0) : l = [48] := by
  rcases hc with rfl | ⟨c, t, rfl, hc⟩
  · rfl
  · have := dv_pos h hc; omega
/-- the digits of a value, none for 0. -/
def fd (v : Nat) : List UInt8 := if v = 0 then [] else Lib.decDigits v
theorem fd_zero : fd 0 = [] := rfl
theorem fd_step {v : Nat} (hv : 0 < v) : fd v = fd (v / 10) ++ [UInt8.ofNat (48 + v % 10)] := by
  unfold fd
  rw [if_neg (by omega)]
  by_cases h : v < 10
  · rw [if_pos (by omega), Lib.decDigits, dif_pos h, Nat.mod_eq_of_lt h]; rfl
  · rw [if_neg (by omega)]
    rw [Lib.decDigits, dif_neg h]
theorem fd_len : ∀ (k u : Nat), u < 10 ^ k → (fd u).length ≤ k
  | 0, u, h => by
    rw [Nat.pow_zero] at h
    rw [show u = 0 by omega]; simp [fd]
  | k + 1, u, h => by
    by_cases h0 : u = 0
    · rw [h0]; simp [fd]
    · rw [fd_step (by omega), List.length_append]
      have := fd_len k (u / 10) (by rw [Nat.pow_succ] at h; omega)
      simp only [List.length_singleton]
      omega
theorem fd_len_words {ys : List Nat} (h : W32 ys) : (fd (val ys)).length ≤ 10 * ys.length := by
  refine fd_len _ _ (Nat.lt_of_lt_of_le (val_lt h) ?_)
  rw [Nat.pow_mul]
  exact Nat.pow_le_pow_left (by decide) _
theorem append_toList (a b : ByteArray) : (a ++ b).data.toList = a.data.toList ++ b.data.toList := by
  rw [ByteArray.data_append, Array.toList_append]
theorem itoa_fd (z : Int) : Lib.itoa z = if z = 0 then [48] else if z < 0 then 45 :: fd z.natAbs else fd z.natAbs := by
  unfold Lib.itoa fd
  by_cases h0 : z = 0
  · subst h0; rw [if_pos rfl, if_neg (by omega), show (0 : Int).toNat = 0 by rfl, Lib.decDigits]; rfl
  · rw [if_neg h0]
    by_cases hn : z < 0
    · rw [if_pos hn, if_pos hn, if_neg (by omega)]
    · rw [if_neg hn, if_neg hn, if_neg (by omega)]
      congr 1
      omega
end Go.Proofs.Ytmjmcinnbmjpdaa
