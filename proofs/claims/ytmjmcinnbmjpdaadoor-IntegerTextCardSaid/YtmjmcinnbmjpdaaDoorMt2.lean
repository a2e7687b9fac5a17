/- Walks and laws, part 2. -/
import Derived.Test.YtmjmcinnbmjpdaaDoorMt1
import Derived.Lib.ItoaNum
import Derived.Lib.Strings
import Derived.Lib.TrimByte
import Derived.Test.YtmjmcinnbmjpdaaDoorRows
namespace Go.Proofs.YtmjmcinnbmjpdaaDoor
open Go.RowKit
/-- the value of a text of digits. -/
def dv (l : List UInt8) : Nat := l.foldl (fun a c => 10 * a + (c.toNat - 48)) 0
theorem dv_nil : dv [] = 0 := rfl
theorem dv_snoc (l : List UInt8) (c : UInt8) : dv (l ++ [c]) = 10 * dv l + (c.toNat - 48) := by simp [dv]
def Dig (c : UInt8) : Prop := 48 ≤ c.toNat ∧ c.toNat ≤ 57
def Digs (l : List UInt8) : Prop := ∀ c ∈ l, Dig c
theorem Digs.left {l m : List UInt8} (h : Digs (l ++ m)) : Digs l := fun c hc => h c (List.mem_append.2 (.inl hc))
theorem Digs.right {l m : List UInt8} (h : Digs (l ++ m)) : Digs m := fun c hc => h c (List.mem_append.2 (.inr hc))
theorem snoc_ind8 {P : List UInt8 → Prop} (h0 : P []) (h1 : ∀ xs x, P xs → P (xs ++ [x])) (xs : List UInt8) : P xs := by
  have key : ∀ ys : List UInt8, P ys.reverse := by
    intro ys
    induction ys with
    | nil => exact h0
    | cons y ys ih => rw [List.reverse_cons]; exact h1 _ _ ih
  simpa using key xs.reverse
theorem dv_lt {l : List UInt8} (h : Digs l) : dv l < 10 ^ l.length := by
  induction l using snoc_ind8 with
  | h0 => simp [dv]
  | h1 xs x ih =>
    have h1 := ih h.left
    have h2 := h.right x (by simp)
    obtain ⟨h3, h4⟩ := h2
    rw [dv_snoc, List.length_append, List.length_singleton, Nat.pow_succ]
    omega
theorem u8_48 {c : UInt8} (h : c.toNat = 48) : c = 48 := UInt8.toNat_inj.1 h
theorem ofNat_dig {c : UInt8} (h : Dig c) : UInt8.ofNat (48 + (c.toNat - 48)) = c := by
  have e : 48 + (c.toNat - 48) = c.toNat := by have := h.1; omega
  rw [e]
  exact UInt8.ofNat_toNat
/-- no superfluous zeros. -/
def Canon (l : List UInt8) : Prop := l = [48] ∨ ∃ c t, l = c :: t ∧ c ≠ 48
theorem dec_step {v d : Nat} (hv : 0 < v) (hd : d < 10) : Lib.decDigits (10 * v + d) = Lib.decDigits v ++ [UInt8.ofNat (48 + d)] := by
  rw [Lib.decDigits, dif_neg (by omega)]
  rw [show (10 * v + d) / 10 = v by omega, show (10 * v + d) % 10 = d by omega]
theorem dv_pos {c : UInt8} {t : List UInt8} (h : Digs (c :: t)) (hc : c ≠ 48) : 0 < dv (c :: t) := by
  induction t using snoc_ind8 with
  | h0 =>
    have h1 := h c (by simp)
    have : c.toNat ≠ 48 := fun e => hc (u8_48 e)
    have h2 := h1.1
    simp [dv]
    omega
  | h1 xs x ih =>
    rw [← List.cons_append, dv_snoc]
    have := ih (Digs.left (m := [x]) (by simpa using h))
    omega
theorem dec_dv {c : UInt8} {t : List UInt8} (h : Digs (c :: t)) (hc : c ≠ 48) : Lib.decDigits (dv (c :: t)) = c :: t := by
  induction t using snoc_ind8 with
  | h0 =>
    have h1 := h c (by simp)
    have h2 := h1.2
    rw [show dv [c] = c.toNat - 48 by simp [dv], Lib.decDigits, dif_pos (by omega), ofNat_dig h1]
  | h1 xs x ih =>
    have hl : Digs (c :: xs) := Digs.left (m := [x]) (by simpa using h)
    have hx : Dig x := h x (by simp)
    have hp := dv_pos hl hc
    have hx2 := hx.2
    rw [← List.cons_append, dv_snoc, dec_step hp (by omega), ih hl, ofNat_dig hx]
theorem dec_canon {l : List UInt8} (h : Digs l) (hc : Canon l) : Lib.decDigits (dv l) = l := by
  rcases hc with rfl | ⟨c, t, rfl, hc⟩
  · rw [show dv [48] = 0 by rfl, Lib.decDigits]; rfl
  · exact dec_dv h hc
theorem canon_dec (u : Nat) : Canon (Lib.decDigits u) := by
  induction u using Nat.strongRecOn with
  | ind u ih =>
    by_cases hu : u < 10
    · rw [Lib.decDigits, dif_pos hu]
      by_cases h0 : u = 0
      · subst h0; exact .inl rfl
      · refine .inr ⟨_, [], rfl, fun e => ?_⟩
        have := congrArg UInt8.toNat e
        rw [UInt8.toNat_ofNat_of_lt' (by show 48 + u < 256; omega)] at this
        have h48 : (48 : UInt8).toNat = 48 := rfl
        omega
    · rw [Lib.decDigits, dif_neg hu]
      rcases ih (u / 10) (by omega) with h | ⟨c, t, h, hc⟩
      · have hl := congrArg dv h
        exfalso
        have h1 : 0 < u / 10 := by omega
        have key : ∀ v, 0 < v → Lib.decDigits v ≠ [48] := by
          intro v hv e
          by_cases h10 : v < 10
          · rw [Lib.decDigits, dif_pos h10] at e
            injection e with e
            have := congrArg UInt8.toNat e
            rw [UInt8.toNat_ofNat_of_lt' (by show 48 + v < 256; omega)] at this
            have h48 : (48 : UInt8).toNat = 48 := rfl
            omega
          · rw [Lib.decDigits, dif_neg h10] at e
            have := congrArg List.length e
            rw [List.length_append] at this
            have h2 := Lib.decDigits_length (v / 10)
            have h3 := Lib.nDigits_pos (v / 10)
            simp at this
            rw [this] at h2
            simp at h2
            omega
        exact key _ h1 h
      · rw [h]
        exact .inr ⟨c, t ++ _, rfl, hc⟩
theorem dec_iff {l : List UInt8} (h : Digs l) : Lib.decDigits (dv l) = l ↔ Canon l := ⟨fun e => e ▸ canon_dec (dv l), dec_canon h⟩
theorem dv_zero_canon {l : List UInt8} (h : Digs l) (hc : Canon l) (h0 : dv l = 0) : l = [48] := by
  rcases hc with rfl | ⟨c, t, rfl, hc⟩
  · rfl
  · have := dv_pos h hc; omega
/-- the digits of a value, none for 0. -/
def fd (v : Nat) : List UInt8 := if v = 0 then [] else Lib.decDigits v
theorem fd_zero : fd 0 = [] := rfl
theorem fd_step {v : Nat} (hv : 0 < v) : fd v = fd (v / 10) ++ [UInt8.ofNat (48 + v % 10)] := by
  unfold fd
  rw [if_neg (by omega)]
  by_cases h : v < 10
  · rw [if_pos (by omega), Lib.decDigits, dif_pos h, Nat.mod_eq_of_lt h]; rfl
  · rw [if_neg (by omega)]
    rw [Lib.decDigits, dif_neg h]
theorem fd_len : ∀ (k u : Nat), u < 10 ^ k → (fd u).length ≤ k
  | 0, u, h => by
    rw [Nat.pow_zero] at h
    rw [show u = 0 by omega]; simp [fd]
  | k + 1, u, h => by
    by_cases h0 : u = 0
    · rw [h0]; simp [fd]
    · rw [fd_step (by omega), List.length_append]
      have := fd_len k (u / 10) (by rw [Nat.pow_succ] at h; omega)
      simp only [List.length_singleton]
      omega
theorem fd_len_words {ys : List Nat} (h : W32 ys) : (fd (val ys)).length ≤ 10 * ys.length := by
  refine fd_len _ _ (Nat.lt_of_lt_of_le (val_lt h) ?_)
  rw [Nat.pow_mul]
  exact Nat.pow_le_pow_left (by decide) _
theorem append_toList (a b : ByteArray) : (a ++ b).data.toList = a.data.toList ++ b.data.toList := by
  rw [ByteArray.data_append, Array.toList_append]
theorem itoa_fd (z : Int) : Lib.itoa z = if z = 0 then [48] else if z < 0 then 45 :: fd z.natAbs else fd z.natAbs := by
  unfold Lib.itoa fd
  by_cases h0 : z = 0
  · subst h0; rw [if_pos rfl, if_neg (by omega), show (0 : Int).toNat = 0 by rfl, Lib.decDigits]; rfl
  · rw [if_neg h0]
    by_cases hn : z < 0
    · rw [if_pos hn, if_pos hn, if_neg (by omega)]
    · rw [if_neg hn, if_neg hn, if_neg (by omega)]
      congr 1
      omega
end Go.Proofs.YtmjmcinnbmjpdaaDoor
namespace Go.Proofs.YtmjmcinnbmjpdaaDoor
/-- the k lowest decimal digits of v, the highest ahead. -/
def pd : Nat → Nat → List UInt8
  | 0, _ => []
  | k + 1, v => pd k (v / 10) ++ [UInt8.ofNat (48 + v % 10)]
theorem pd_len : ∀ (k v : Nat), (pd k v).length = k
  | 0, _ => rfl
  | k + 1, v => by rw [pd, List.length_append, pd_len k]; rfl
theorem pd_add (j a : Nat) : ∀ (k b : Nat), b < 10 ^ k → pd (j + k) (a * 10 ^ k + b) = pd j a ++ pd k b
  | 0, b, h => by
    have : b = 0 := by simpa using h
    subst this
    simp [pd]
  | k + 1, b, h => by
    rw [Nat.pow_succ] at h
    have e1 : (a * 10 ^ (k + 1) + b) / 10 = a * 10 ^ k + b / 10 := by
      rw [Nat.pow_succ, ← Nat.mul_assoc]
      omega
    have e2 : (a * 10 ^ (k + 1) + b) % 10 = b % 10 := by
      rw [Nat.pow_succ, ← Nat.mul_assoc]
      omega
    show pd (j + k) ((a * 10 ^ (k + 1) + b) / 10) ++ [UInt8.ofNat (48 + (a * 10 ^ (k + 1) + b) % 10)] = _
    rw [e1, e2, pd_add j a k (b / 10) (by omega), List.append_assoc]
    rfl
theorem pd_one (v : Nat) : pd 1 v = [UInt8.ofNat (48 + v % 10)] := rfl
/-- one digit more ahead. -/
theorem pd_cons (k v : Nat) : pd (k + 1) v = UInt8.ofNat (48 + v / 10 ^ k % 10) :: pd k v := by
  have hlow : ∀ (k v : Nat), pd k v = pd k (v % 10 ^ k) := by
    intro k
    induction k with
    | zero => intro v; rfl
    | succ k ih =>
      intro v
      have e1 : v % 10 ^ (k + 1) % 10 = v % 10 := by
        rw [Nat.pow_succ]; exact Nat.mod_mul_left_mod _ _ _
      have e2 : v % 10 ^ (k + 1) / 10 = v / 10 % 10 ^ k := by
        rw [Nat.pow_succ, Nat.mul_comm]; exact Nat.mod_mul_right_div_self _ _ _
      show pd k (v / 10) ++ _ = pd k (v % 10 ^ (k + 1) / 10) ++ _
      rw [e1, e2, ← ih (v / 10)]
  have hp : 0 < 10 ^ k := Nat.pow_pos (by omega)
  have e : v / 10 ^ k * 10 ^ k + v % 10 ^ k = v := by rw [Nat.mul_comm]; exact Nat.div_add_mod _ _
  have h := pd_add 1 (v / 10 ^ k) k (v % 10 ^ k) (Nat.mod_lt _ hp)
  rw [e, Nat.add_comm, ← hlow k v, pd_one] at h
  exact h
theorem drop_snoc {l : List UInt8} {c : UInt8} (h : l.dropWhile (· == 48) ≠ []) : (l ++ [c]).dropWhile (· == 48) = l.dropWhile (· == 48) ++ [c] := by
  induction l with
  | nil => exact absurd rfl h
  | cons x l ih =>
    rw [List.cons_append, List.dropWhile_cons, List.dropWhile_cons]
    rw [List.dropWhile_cons] at h
    split
    · rename_i hx
      rw [if_pos hx] at h
      exact ih h
    · rfl
theorem drop_snoc0 {l : List UInt8} {c : UInt8} (h : l.dropWhile (· == 48) = []) : (l ++ [c]).dropWhile (· == 48) = [c].dropWhile (· == 48) := by
  induction l with
  | nil => rfl
  | cons x l ih =>
    rw [List.cons_append, List.dropWhile_cons]
    rw [List.dropWhile_cons] at h
    split
    · rename_i hx
      rw [if_pos hx] at h
      exact ih h
    · rename_i hx
      rw [if_neg hx] at h
      cases h
theorem fd_ne {u : Nat} (h : u ≠ 0) : fd u ≠ [] := by
  rw [fd_step (Nat.pos_of_ne_zero h)]
  simp
theorem pd_drop : ∀ (k u : Nat), u < 10 ^ k → (pd k u).dropWhile (· == 48) = fd u
  | 0, u, h => by
    have : u = 0 := by simpa using h
    subst this
    rfl
  | k + 1, u, h => by
    rw [Nat.pow_succ] at h
    have ih := pd_drop k (u / 10) (by omega)
    rw [pd]
    by_cases h0 : u / 10 = 0
    · rw [h0, fd_zero] at ih
      rw [h0, drop_snoc0 ih]
      by_cases hu : u = 0
      · subst hu; rfl
      · rw [fd_step (Nat.pos_of_ne_zero hu), h0, fd_zero, List.nil_append, List.dropWhile_cons, if_neg]
        intro hc
        have h1 := congrArg UInt8.toNat (eq_of_beq hc)
        have h2 : u % 10 < 10 := Nat.mod_lt _ (by omega)
        have h3 : (UInt8.ofNat (48 + u % 10)).toNat = 48 + u % 10 := by
          rw [UInt8.toNat_ofNat']
          exact Nat.mod_eq_of_lt (by omega)
        rw [h3] at h1
        have h4 : (48 : UInt8).toNat = 48 := rfl
        omega
    · have hne : (pd k (u / 10)).dropWhile (· == 48) ≠ [] := by rw [ih]; exact fd_ne h0
      rw [drop_snoc hne, ih, fd_step (v := u) (by omega)]
theorem trim_pd {k u : Nat} (h : u < 10 ^ k) : Lib.trimLeftB (pd k u) 48 = fd u := pd_drop k u h
/-- the digits of a number are digits, and their number is it. -/
theorem digs_dec (u : Nat) : Digs (Lib.decDigits u) ∧ dv (Lib.decDigits u) = u := by
  induction u using Nat.strongRecOn with
  | _ u ih =>
    have hm : u % 10 < 10 := Nat.mod_lt _ (by omega)
    have hd : ∀ d, d < 10 → Dig (UInt8.ofNat (48 + d)) ∧ (UInt8.ofNat (48 + d)).toNat = 48 + d := fun d h => by
      have h3 : (UInt8.ofNat (48 + d)).toNat = 48 + d := by
        rw [UInt8.toNat_ofNat']
        exact Nat.mod_eq_of_lt (by omega)
      exact ⟨⟨by omega, by omega⟩, h3⟩
    by_cases h : u < 10
    · rw [Lib.decDigits, dif_pos h]
      refine ⟨fun c hc => ?_, ?_⟩
      · obtain rfl : c = UInt8.ofNat (48 + u) := by simpa using hc
        exact (hd u h).1
      · have := dv_snoc [] (UInt8.ofNat (48 + u))
        rw [List.nil_append] at this
        rw [this, (hd u h).2, dv_nil]
        omega
    · rw [Lib.decDigits, dif_neg h]
      obtain ⟨h1, h2⟩ := ih (u / 10) (by omega)
      refine ⟨fun c hc => ?_, ?_⟩
      · rcases List.mem_append.1 hc with hc | hc
        · exact h1 c hc
        · obtain rfl : c = UInt8.ofNat (48 + u % 10) := by simpa using hc
          exact (hd _ hm).1
      · rw [dv_snoc, h2, (hd _ hm).2]
        omega
end Go.Proofs.YtmjmcinnbmjpdaaDoor
namespace Go.Proofs.YtmjmcinnbmjpdaaDoor
open Go.RowKit

theorem ret_slice {A : Option Addr} {n m c : Nat} (h : n = m) : Ending.returned (.slice A n c) = .returned (.slice A m c) := by rw [h]
theorem quiet_add_left {P : Program} {f : FuncId} {args : Array Value} {w : World} {a n : Nat} {v : Value}
    (h : Calls P f args (w.drewN (a + n)) fun e w' => e = .returned v ∧ w.drewN (a + n) = w') :
    Calls P f args (w.drewN (a + n)) fun e w'' => e = .returned v ∧ ∃ m, w'' = w.drewN (a + m) :=
  h.mono fun _ _ ⟨he, hm⟩ => ⟨he, n, hm.symm⟩
theorem quiet_left {P : Program} {f : FuncId} {args : Array Value} {w : World} {n : Nat} {v : Value}
    (h : Calls P f args (w.drewN n) fun e w' => e = .returned v ∧ w.drewN n = w') : Calls P f args (w.drewN n) fun e w'' => e = .returned v ∧ ∃ m, w'' = w.drewN m :=
  h.mono fun _ _ ⟨he, hm⟩ => ⟨he, n, hm.symm⟩
theorem ret_int {k : IntKind} {a b : Int} (h : a = b) : Ending.returned (.int k a) = .returned (.int k b) := by rw [h]

section
variable (A : Option Addr) (c : Nat) (xs : List Nat) (w : World)

set_option maxHeartbeats 400000 in
theorem ref_trim (hr : Rd w A xs) (hc : xs.length ≤ c) (hm : c ≤ maxLen) :
    Calls Tryd.prog 28 #[.slice A xs.length c] w fun e w' => e = .returned (.slice A (trimL xs).length c) ∧ w = w' := by
  unfold maxLen at hm
  go_enter Tryd.func28, Tryd.ntmps28
  go_wp2
  go_loop [0] (fun m => ∃ k : Nat, k ≤ xs.length ∧ m = .slice A k c ∧ trimL (xs.take k) = trimL xs) (fun m => lenV m)
  case atStart => exact ⟨xs.length, Nat.le_refl _, rfl, by simp⟩
  case round =>
    obtain ⟨k, hk, rfl, hx⟩ := hrel
    have hx' := Lib.hid hx
    clear hx
    by_cases h0 : k = 0
    · subst h0
      go_wp2
      go_ret
      exact ⟨ret_slice (by have := hx'.out; rw [← this]; rfl), rfl⟩
    · obtain ⟨j, rfl⟩ : ∃ j, k = j + 1 := ⟨k - 1, by omega⟩
      obtain ⟨b, off, rfl, hb, hc1⟩ := hr.at_ (i := j) (by omega)
      have hz' := Lib.hid (trimL_zero xs j (by omega))
      have hp' := Lib.hid (trimL_pos xs j (by omega))
      by_cases hq : xs[j] = 0
      · have ht : (((xs[j] : Nat) : Int) == 0) = true := by simp [hq]
        have Hq := Lib.hid hq
        clear hq
        go_wp2
        exact ⟨⟨j, by omega, rfl, by rw [← hz'.out Hq.out, hx'.out]⟩, by simp [lenV]⟩
      · have ht : (((xs[j] : Nat) : Int) == 0) = false := by simp [hq]
        have Hq := Lib.hid hq
        clear hq
        go_wp2
        go_ret
        exact ⟨ret_slice (by rw [← hx'.out, hp'.out Hq.out, List.length_take]; omega), rfl⟩

set_option maxHeartbeats 400000 in
theorem int_trim (hr : Rd w A xs) (hc : xs.length ≤ c) (hm : c ≤ maxLen) :
    Calls Tryd.prog 26 #[.slice A xs.length c] w fun e w' => e = .returned (.slice A (trimL xs).length c) ∧ w = w' := by
  unfold maxLen at hm
  go_enter Tryd.func26, Tryd.ntmps26
  go_wp2
  go_loop [3] (fun m => ∃ k : Nat, k ≤ xs.length ∧ m = .int .i64 (k : Int) ∧ trimL (xs.take k) = trimL xs) (fun m => (intOf m).toNat)
  case atStart => exact ⟨xs.length, Nat.le_refl _, rfl, by simp⟩
  case round =>
    obtain ⟨k, hk, rfl, hx⟩ := hrel
    have hx' := Lib.hid hx
    clear hx
    by_cases h0 : k = 0
    · subst h0
      go_wp2
      go_ret
      exact ⟨ret_slice (by have := hx'.out; rw [← this]; rfl), rfl⟩
    · obtain ⟨j, rfl⟩ : ∃ j, k = j + 1 := ⟨k - 1, by omega⟩
      obtain ⟨b, off, rfl, hb, hc1⟩ := hr.at_ (i := j) (by omega)
      have hz' := Lib.hid (trimL_zero xs j (by omega))
      have hp' := Lib.hid (trimL_pos xs j (by omega))
      by_cases hq : xs[j] = 0
      · have ht : (((xs[j] : Nat) : Int) == 0) = true := by simp [hq]
        have Hq := Lib.hid hq
        clear hq
        go_wp2
        go_round
        case rel => exact ⟨j, by omega, by go_num, by rw [← hz'.out Hq.out, hx'.out]⟩
        case measure => simp [intOf]
      · have ht : (((xs[j] : Nat) : Int) == 0) = false := by simp [hq]
        have Hq := Lib.hid hq
        clear hq
        go_wp2
        go_ret
        exact ⟨ret_slice (by rw [← hx'.out, hp'.out Hq.out, List.length_take]; omega), rfl⟩
end
theorem ref_trimN {A : Option Addr} {c n : Nat} {xs : List Nat} {w : World} (hn : xs.length = n) (hr : Rd w A xs) (hc : n ≤ c) (hm : c ≤ maxLen) :
    Calls Tryd.prog 28 #[.slice A n c] w fun e w' => e = .returned (.slice A (trimL xs).length c) ∧ w = w' := by
  subst hn; exact ref_trim A c xs w hr hc hm
theorem int_trimN {A : Option Addr} {c n : Nat} {xs : List Nat} {w : World} (hn : xs.length = n) (hr : Rd w A xs) (hc : n ≤ c) (hm : c ≤ maxLen) :
    Calls Tryd.prog 26 #[.slice A n c] w fun e w' => e = .returned (.slice A (trimL xs).length c) ∧ w = w' := by
  subst hn; exact int_trim A c xs w hr hc hm
theorem isnan_int (a : Int) (w : World) : Calls Tryd.prog 91 #[.int .i64 a] w fun e w' => e = .returned (.bool false) ∧ w = w' := by
  go_enter Tryd.func91, Tryd.ntmps91
  go_wp2
  go_ret
  exact ⟨rfl, rfl⟩
theorem isnan_u32 (a : Int) (w : World) : Calls Tryd.prog 92 #[.int .u32 a] w fun e w' => e = .returned (.bool false) ∧ w = w' := by
  go_enter Tryd.func92, Tryd.ntmps92
  go_wp2
  go_ret
  exact ⟨rfl, rfl⟩
theorem ret_cmpI {a b : Nat} {x : Int} (h : x = cmpI a b) : Ending.returned (.int .i64 x) = .returned (.int .i64 (cmpI a b)) := by rw [h]
set_option maxHeartbeats 400000 in
theorem cmp_int (a b : Nat) (w : World) : Calls Tryd.prog 70 #[.int .i64 (a : Int), .int .i64 (b : Int)] w fun e w' => e = .returned (.int .i64 (cmpI a b)) ∧ w = w' := by
  go_enter Tryd.func70, Tryd.ntmps70
  go_wp2_with (go_at_call 91; refine (isnan_int _ _).mono ?_; rintro e w' ⟨rfl, rfl⟩)
  all_goals go_ret
  all_goals (refine ⟨ret_int ?_, rfl⟩; simp [cmpI, *])
set_option maxHeartbeats 400000 in
theorem cmp_u32 (a b : Nat) (w : World) : Calls Tryd.prog 71 #[.int .u32 (a : Int), .int .u32 (b : Int)] w fun e w' => e = .returned (.int .i64 (cmpI a b)) ∧ w = w' := by
  go_enter Tryd.func71, Tryd.ntmps71
  go_wp2_with (go_at_call 92; refine (isnan_u32 _ _).mono ?_; rintro e w' ⟨rfl, rfl⟩)
  all_goals go_ret
  all_goals (refine ⟨ret_int ?_, rfl⟩; simp [cmpI, *])

section
variable (A B : Option Addr) (c d : Nat) (xs ys : List Nat) (w : World)
set_option maxHeartbeats 400000 in
theorem ref_compare (hx : Rd w A xs) (hy : Rd w B ys) (hm : xs.length ≤ maxLen) (_hm' : ys.length ≤ maxLen) :
    Calls Tryd.prog 48 #[.slice A xs.length c, .slice B ys.length d] w fun e w' => e = .returned (.int .i64 (cmpL xs ys)) ∧ Ext w w' := by
  unfold maxLen at hm
  rcases Nat.lt_trichotomy xs.length ys.length with hl | hl | hl
  · have ht : ((xs.length : Int) == (ys.length : Int)) = false := by rw [beq_eq_false_iff_ne]; omega
    have ht' : ((xs.length : Int) != (ys.length : Int)) = true := by rw [bne_iff_ne]; omega
    have hv := Lib.hid (cmpL_len_lt (xs := xs) (ys := ys) hl)
    go_enter Tryd.func48, Tryd.ntmps48
    go_wp2
    go_ret
    exact ⟨ret_int (by rw [hv.out]; try rfl), Ext.refl _⟩
  · have HL := Lib.hid hl
    have hm2 : xs.length ≤ 2 ^ 63 - 1 := hm
    have hl1 : xs.length ≤ ys.length := by omega
    have hl2 : ys.length ≤ xs.length := by omega
    have ht : ((xs.length : Int) == (ys.length : Int)) = true := by rw [beq_iff_eq]; omega
    have ht' : ((xs.length : Int) != (ys.length : Int)) = false := by rw [bne_eq_false_iff_eq]; omega
    clear hl
    go_enter Tryd.func48, Tryd.ntmps48
    go_wp2
    go_loopw [5] (fun i wr => ∃ k : Nat, k ≤ xs.length ∧ i = .int .i64 ((k : Int) - 1) ∧ xs.drop k = ys.drop k ∧ Ext w wr) (fun i _ => (intOf i + 1).toNat)
    case atStart => exact ⟨xs.length, Nat.le_refl _, rfl, by rw [List.drop_eq_nil_of_le (by omega), List.drop_eq_nil_of_le (by omega)], Ext.refl _⟩
    case round =>
      obtain ⟨k, hk, rfl, hdr, hext⟩ := hrel
      have Hd := Lib.hid hdr
      clear hdr
      by_cases h0 : k = 0
      · subst h0
        have he := Lib.hid (show cmpL xs ys = 0 by have := Hd.out; simp at this; rw [this, cmpL_self])
        go_wp2
        go_ret
        exact ⟨ret_int he.out.symm, hext⟩
      · obtain ⟨j, rfl⟩ : ∃ j, k = j + 1 := ⟨k - 1, by omega⟩
        obtain ⟨b, off, rfl, hb, hc1⟩ := (hx.ext hext).at_ (i := j) (by omega)
        obtain ⟨b', off', rfl, hb', hc2⟩ := (hy.ext hext).at_ (i := j) (by omega)
        rw [show (((j + 1 : Nat) : Int) - 1) = (j : Int) by omega]
        have hlt := Lib.hid (cmpL_lt hx.1 HL.out j (by omega) (by omega) Hd.out)
        have hgt := Lib.hid (cmpL_gt hy.1 HL.out j (by omega) (by omega) Hd.out)
        have hst := Lib.hid (drop_eq_step j (by omega) (by omega) Hd.out)
        rcases Nat.lt_trichotomy xs[j] ys[j] with hq | hq | hq
        · have ht1 : decide (xs[j] < ys[j]) = true := by simp [hq]
          have Hq := Lib.hid hq
          clear hq
          go_wp2
          go_quiet (fail)
          go_wp2
          go_ret
          exact ⟨ret_int (hlt.out Hq.out).symm, by first | exact hext.drewN _ | exact (hext.drewN _).drewN _⟩
        · have ht1 : decide (xs[j] < ys[j]) = false := by simp; omega
          have ht2 : decide (ys[j] < xs[j]) = false := by simp; omega
          have Hq := Lib.hid hq
          clear hq
          go_wp2
          go_quiet (fail)
          go_wp2
          go_quiet (fail)
          go_wp2
          go_roundw
          case rel => exact ⟨j, by omega, rfl, hst.out Hq.out, by first | exact hext.drewN _ | exact (hext.drewN _).drewN _⟩
          case measure => simp [intOf]
        · have ht1 : decide (xs[j] < ys[j]) = false := by simp; omega
          have ht2 : decide (ys[j] < xs[j]) = true := by simp; omega
          have Hq := Lib.hid hq
          clear hq
          go_wp2
          go_quiet (fail)
          go_wp2
          go_quiet (fail)
          go_wp2
          go_ret
          exact ⟨ret_int (hgt.out Hq.out).symm, by first | exact hext.drewN _ | exact (hext.drewN _).drewN _⟩
  · have ht : ((xs.length : Int) == (ys.length : Int)) = false := by rw [beq_eq_false_iff_ne]; omega
    have ht' : ((xs.length : Int) != (ys.length : Int)) = true := by rw [bne_iff_ne]; omega
    have hv := Lib.hid (cmpL_len_gt (xs := xs) (ys := ys) hl)
    go_enter Tryd.func48, Tryd.ntmps48
    go_wp2
    go_ret
    exact ⟨ret_int (by rw [hv.out]; try rfl), Ext.refl _⟩

set_option maxHeartbeats 400000 in
theorem int_compare (hx : Rd w A xs) (hy : Rd w B ys) (hm : xs.length ≤ maxLen) (_hm' : ys.length ≤ maxLen) :
    Calls Tryd.prog 43 #[.slice A xs.length c, .slice B ys.length d] w fun e w' => e = .returned (.int .i64 (cmpL xs ys)) ∧ Ext w w' := by
  unfold maxLen at hm
  rcases Nat.lt_trichotomy xs.length ys.length with hl | hl | hl
  · have ht : ((xs.length : Int) == (ys.length : Int)) = false := by rw [beq_eq_false_iff_ne]; omega
    have ht' : ((xs.length : Int) != (ys.length : Int)) = true := by rw [bne_iff_ne]; omega
    have hv := Lib.hid (cmpL_len_lt' (xs := xs) (ys := ys) hl)
    go_enter Tryd.func43, Tryd.ntmps43
    go_wp2_with (go_at_call 70; refine (cmp_int _ _ _).mono ?_; rintro e w' ⟨rfl, rfl⟩)
    go_ret
    exact ⟨ret_int (by rw [hv.out]), Ext.refl _⟩
  · have HL := Lib.hid hl
    have hm2 : xs.length ≤ 2 ^ 63 - 1 := hm
    have hl1 : xs.length ≤ ys.length := by omega
    have hl2 : ys.length ≤ xs.length := by omega
    have ht : ((xs.length : Int) == (ys.length : Int)) = true := by rw [beq_iff_eq]; omega
    have ht' : ((xs.length : Int) != (ys.length : Int)) = false := by rw [bne_eq_false_iff_eq]; omega
    clear hl
    go_enter Tryd.func43, Tryd.ntmps43
    go_wp2
    go_loopw [5] (fun i wr => ∃ k : Nat, k ≤ xs.length ∧ i = .int .i64 ((k : Int) - 1) ∧ xs.drop k = ys.drop k ∧ Ext w wr) (fun i _ => (intOf i + 1).toNat)
    case atStart => exact ⟨xs.length, Nat.le_refl _, rfl, by rw [List.drop_eq_nil_of_le (by omega), List.drop_eq_nil_of_le (by omega)], Ext.refl _⟩
    case round =>
      obtain ⟨k, hk, rfl, hdr, hext⟩ := hrel
      have Hd := Lib.hid hdr
      clear hdr
      by_cases h0 : k = 0
      · subst h0
        have he := Lib.hid (show cmpL xs ys = 0 by have := Hd.out; simp at this; rw [this, cmpL_self])
        go_wp2
        go_ret
        exact ⟨ret_int he.out.symm, hext⟩
      · obtain ⟨j, rfl⟩ : ∃ j, k = j + 1 := ⟨k - 1, by omega⟩
        obtain ⟨b, off, rfl, hb, hc1⟩ := (hx.ext hext).at_ (i := j) (by omega)
        obtain ⟨b', off', rfl, hb', hc2⟩ := (hy.ext hext).at_ (i := j) (by omega)
        rw [show (((j + 1 : Nat) : Int) - 1) = (j : Int) by omega]
        have hne := Lib.hid (cmpL_at hx.1 hy.1 HL.out j (by omega) (by omega) Hd.out)
        have hst := Lib.hid (drop_eq_step j (by omega) (by omega) Hd.out)
        by_cases hq : xs[j] = ys[j]
        · have ht1 : (((xs[j] : Nat) : Int) == ((ys[j] : Nat) : Int)) = true := by rw [beq_iff_eq]; omega
          have ht2 : (((xs[j] : Nat) : Int) != ((ys[j] : Nat) : Int)) = false := by rw [bne_eq_false_iff_eq]; omega
          have Hq := Lib.hid hq
          clear hq
          go_wp2
          go_quiet (fail)
          go_wp2
          go_roundw
          case rel => exact ⟨j, by omega, rfl, hst.out Hq.out, hext.drewN _⟩
          case measure => simp [intOf]
        · have ht1 : (((xs[j] : Nat) : Int) == ((ys[j] : Nat) : Int)) = false := by rw [beq_eq_false_iff_ne]; omega
          have ht2 : (((xs[j] : Nat) : Int) != ((ys[j] : Nat) : Int)) = true := by rw [bne_iff_ne]; omega
          have Hq := Lib.hid hq
          clear hq
          go_wp2
          go_quiet (fail)
          go_wp2
          go_quiet ((go_at_call 71; exact quiet_add_left (cmp_u32 _ _ _)))
          go_wp2
          go_ret
          exact ⟨ret_int (hne.out Hq.out).symm, by first | exact hext.drewN _ | exact (hext.drewN _).drewN _⟩
  · have ht : ((xs.length : Int) == (ys.length : Int)) = false := by rw [beq_eq_false_iff_ne]; omega
    have ht' : ((xs.length : Int) != (ys.length : Int)) = true := by rw [bne_iff_ne]; omega
    have hv := Lib.hid (cmpL_len_gt' (xs := xs) (ys := ys) hl)
    go_enter Tryd.func43, Tryd.ntmps43
    go_wp2_with (go_at_call 70; refine (cmp_int _ _ _).mono ?_; rintro e w' ⟨rfl, rfl⟩)
    go_ret
    exact ⟨ret_int (by rw [hv.out]), Ext.refl _⟩
end
end Go.Proofs.YtmjmcinnbmjpdaaDoor
