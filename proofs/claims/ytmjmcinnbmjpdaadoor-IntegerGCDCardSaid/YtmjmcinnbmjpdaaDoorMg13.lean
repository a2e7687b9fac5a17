/- Walks and laws, part 13. -/
import Derived.Test.YtmjmcinnbmjpdaaDoorMg5
import Derived.Test.YtmjmcinnbmjpdaaDoorMg7
import Derived.Test.YtmjmcinnbmjpdaaDoorMg11
import Derived.Test.YtmjmcinnbmjpdaaDoorMg12
namespace Go.Proofs.YtmjmcinnbmjpdaaDoor
open Go.RowKit
section
variable {A B : Option Addr} {c d n m : Nat} {xs ys : List Nat} {w : World} {s t : Bool}
set_option maxHeartbeats 2000000 in
theorem int_divide_word {y : Nat} (hn : xs.length = n) (hx : Rd w A xs) (hy : Rd w B [y]) (hnx : Nrm xs) (hy0 : y ≠ 0) (h2 : 2 < n) (h1 : n ≤ 100000) :
    Calls Tryd.prog 30 #[.slice A n c, .slice B 1 d] w (Ret2 (fun qs rs => val qs = val xs / y ∧ val rs = val xs % y ∧ Nrm qs ∧ Nrm rs) w) := by
  have hcm1 := Lib.hid (show cmpL xs [y] = 1 from cmpL_len_gt (by simp; omega))
  have hyl := hy.1 y (by simp)
  have hxl := Lib.hid (show xs ≠ [] by rintro rfl; simp at hn; omega)
  have hr32 : val xs % y < 4294967296 := by
    have := Nat.mod_lt (val xs) (show 0 < y by omega)
    omega
  go_enter Tryd.func30, Tryd.ntmps30
  go_wp2_with fail
  subst hn
  refine (int_compare A B c d xs [y] w hx hy (by unfold maxLen; omega) (by unfold maxLen; simp)).mono ?_
  rintro e w1 ⟨rfl, hext1⟩
  rw [hcm1.out]
  go_wp2_with fail
  refine (clone rfl (hx.ext hext1) (by omega)).mono ?_
  rintro e w2 ⟨A2, c2, zs, rfl, ho2, hc2, hm2, rfl, hext2⟩
  obtain ⟨g, rfl, hg, hblk⟩ : ∃ g, A2 = some ⟨g, 0, none⟩ ∧ w1.heap.size ≤ g ∧ BlkN w2 g zs := by
    rcases ho2.2 with h | h
    · exact absurd h hxl.out
    · exact h
  obtain ⟨b1, o1, rfl, hb1, cb⟩ := ((hy.ext hext1).ext hext2).at_ (i := 0) (by simp)
  simp only [Nat.add_zero, List.getElem_cons_zero] at cb
  go_wp2_with fail
  refine (int_divideByWord hblk rfl hx.1 (by omega) hyl (by omega)).mono ?_
  rintro e w3 ⟨qs, rfl, hql, hqw, hqb, hqv, hmod⟩
  have ext3 := hmod.ext hext2 hg
  have Hqv := Lib.hid hqv
  clear hqv cb
  go_wp2_with fail
  refine (int_trimN hql (hqb.rd0 hqw) hc2 hm2).mono ?_
  rintro e w4 ⟨rfl, rfl⟩
  go_wp2_with fail
  refine (int_fromUint (val zs % y) (by omega)).mono ?_
  rintro e w5 ⟨A5, c5, rs, rfl, ho5, hc5, hm5, ⟨hv5, hn5, hl5⟩, hext5⟩
  have Hv5 := Lib.hid hv5
  clear hv5
  go_wp2_with fail
  go_ret2
  have hl := trimL_len qs
  refine ⟨_, _, trimL qs, A5, c5, rs, rfl, ?_, ho5.mono (hext1.trans ext3).size, by omega, hm2, hc5, hm5, ⟨by rw [val_trimL]; exact Hqv.out, Hv5.out, Nrm.trimL _, hn5⟩, hext1.trans (ext3.trans hext5)⟩
  rw [trimL_take]
  exact (Own.of_blk (hqb.ext hext5) hqw (Nat.le_trans hext1.size hg)).take _
set_option maxHeartbeats 2000000 in
theorem int_divide_long (hn : xs.length = n) (hm : ys.length = m) (hx : Rd w A xs) (hy : Rd w B ys) (hnx : Nrm xs) (hny : Nrm ys) (hge : val ys ≤ val xs) (h2 : 2 < n) (hm2 : 2 ≤ m) (h1 : n ≤ 9000) :
    Calls Tryd.prog 30 #[.slice A n c, .slice B m d] w (Ret2 (fun qs rs => val qs = val xs / val ys ∧ val rs = val xs % val ys ∧ Nrm qs ∧ Nrm rs) w) := by
  have hml := len_le hx.1 hny hge
  have hcase : cmpL xs ys = 0 ∨ cmpL xs ys = 1 := by
    rw [cmpL_nrm hx.1 hy.1 hnx hny]
    rcases Nat.lt_or_ge (val ys) (val xs) with h | h
    · exact .inr (cmpI_of_gt h)
    · exact .inl (cmpI_of_eq (by omega))
  have Hml := Lib.hid (show m ≤ n by omega)
  subst hn
  subst hm
  clear hml hge
  rcases hcase with hcm | hcm
  all_goals
    have hcm1 := Lib.hid hcm
    clear hcm
    go_enter Tryd.func30, Tryd.ntmps30
    go_wp2_with fail
    refine (int_compare A B c d xs ys w hx hy (by unfold maxLen; omega) (by have := Hml.out; unfold maxLen; omega)).mono ?_
    rintro e w1 ⟨rfl, hext1⟩
    rw [hcm1.out]
    go_wp2_with fail
    refine (int_divideLong rfl rfl (hx.ext hext1) (hy.ext hext1) hny hm2 Hml.out h1).mono ?_
    rintro e w3 ⟨A3, c3, qs, A4, c4, rs, rfl, ho3, ho4, hc3, hm3, hc4, hm4, hP, hext3⟩
    have HP := Lib.hid hP
    clear hP
    go_wp2_with fail
    go_ret2
    exact ⟨A3, c3, qs, A4, c4, rs, rfl, ho3.mono hext1.size, ho4.mono hext1.size, hc3, hm3, hc4, hm4, HP.out, hext1.trans hext3⟩
theorem Ret2.len {e : Ending} {w' : World} (hx : W32 xs) (h : Ret2 (fun qs rs => val qs = val xs / val ys ∧ val rs = val xs % val ys ∧ Nrm qs ∧ Nrm rs) w e w') :
    Ret2 (fun qs rs => val qs = val xs / val ys ∧ val rs = val xs % val ys ∧ Nrm qs ∧ Nrm rs ∧ qs.length ≤ xs.length ∧ rs.length ≤ xs.length) w e w' := by
  obtain ⟨A3, c3, qs, A4, c4, rs, h0, ho3, ho4, hc3, hm3, hc4, hm4, ⟨p1, p2, p3, p4⟩, hext3⟩ := h
  exact ⟨A3, c3, qs, A4, c4, rs, h0, ho3, ho4, hc3, hm3, hc4, hm4, ⟨p1, p2, p3, p4, nrm_len_le hx p3 (by rw [p1]; exact Nat.div_le_self _ _), nrm_len_le hx p4 (by rw [p2]; exact Nat.mod_le _ _)⟩, hext3⟩
theorem divide_ok : DivideOK 9000 := by
  intro A B c d n m xs ys w hn hm hx hy _ _ _ _ hnx hny h0 h1 h2
  rcases Nat.lt_or_ge (val xs) (val ys) with h | h
  · exact int_divide_lt hn hm hx hy hnx hny h (by omega) h2
  · rcases Nat.lt_or_ge 2 n with h3 | h3
    · rcases Nat.lt_or_ge 1 m with h4 | h4
      · exact (int_divide_long hn hm hx hy hnx hny h h3 (by omega) h1).mono fun e w' hr => hr.len hx.1
      · obtain rfl : m = 1 := by omega
        obtain ⟨y, rfl⟩ : ∃ y, ys = [y] := by
          match ys, hm with
          | [y], _ => exact ⟨y, rfl⟩
        have hy0 : y ≠ 0 := by
          rintro rfl
          have := hny.last (by simp)
          simp at this
        have e := val_one y
        exact (int_divide_word (y := y) hn hx hy hnx hy0 h3 (by omega)).mono fun e w' hr => by
          rw [← val_one y] at hr
          exact hr.len hx.1
    · exact int_divide_two hn hm hx hy hnx hny h h0 h3
end
end Go.Proofs.YtmjmcinnbmjpdaaDoor
namespace Go.Proofs.YtmjmcinnbmjpdaaDoor

theorem sq_nonneg (x : Int) : 0 ≤ x * x := by
  rcases Int.le_total 0 x with h | h
  · exact Int.mul_nonneg h h
  · exact Int.mul_nonneg_of_nonpos_of_nonpos h h
theorem amgm (x y : Int) : 4 * (x * y) ≤ (x + y) * (x + y) := by
  have := sq_nonneg (x - y)
  grind
/-- the core of the square root's round, in integers. h is half of D. -/
theorem sq_lo {h r q K n : Int} (hh : 1 ≤ h) (hr : 1 ≤ r) (hhr : h ≤ r) (hq : 0 ≤ q) (hK : 1 ≤ K)
    (h1 : q * (4 * K * h * r) ≤ n) (hlo : (r - 1) * (r - 1) * (K * (2 * h * (2 * h))) < n) (hhi : n < (r + 1) * (r + 1) * (K * (2 * h * (2 * h)))) :
    (h * r + q - 1) * (h * r + q - 1) * K < n := by
  refine Int.not_le.1 fun hc => ?_
  have a1 : 4 * h * r * q ≤ (h * r + q - 1) * (h * r + q - 1) := by
    have : (4 * h * r * q) * K ≤ ((h * r + q - 1) * (h * r + q - 1)) * K := by grind
    exact Int.le_of_mul_le_mul_right this (by omega)
  have a2 : (2 * h * (r - 1)) * (2 * h * (r - 1)) < (h * r + q - 1) * (h * r + q - 1) := by
    have : ((2 * h * (r - 1)) * (2 * h * (r - 1))) * K < ((h * r + q - 1) * (h * r + q - 1)) * K := by grind
    exact Int.lt_of_mul_lt_mul_right this (by omega)
  have a3 : q * r < h * ((r + 1) * (r + 1)) := by
    have : (q * r) * (4 * K * h) < (h * ((r + 1) * (r + 1))) * (4 * K * h) := by grind
    exact Int.lt_of_mul_lt_mul_right this (Int.mul_nonneg (by omega) (by omega))
  have hrr : 1 ≤ h * r := by
    have := Int.mul_le_mul hh hr (by omega) (by omega)
    omega
  have a4 : 2 * h * (r - 1) < h * r + q - 1 := by
    refine Int.not_le.1 fun h4 => ?_
    have : (h * r + q - 1) * (h * r + q - 1) ≤ (2 * h * (r - 1)) * (2 * h * (r - 1)) := Int.mul_le_mul h4 h4 (by omega) (Int.mul_nonneg (by omega) (by omega))
    omega
  have a5 : q < h * r + 2 * h + 1 := by
    have : q * r < (h * r + 2 * h + 1) * r := by grind
    exact Int.lt_of_mul_lt_mul_right this (by omega)
  have x1 : -(2 * h - 1) ≤ q - 1 - h * r := by grind
  have x2 : q - 1 - h * r ≤ 2 * h - 1 := by grind
  have a6 : 0 ≤ (2 * h - 1 - (q - 1 - h * r)) * (2 * h - 1 + (q - 1 - h * r)) := Int.mul_nonneg (by omega) (by omega)
  have a7 : h * h ≤ h * r := Int.mul_le_mul_of_nonneg_left hhr (by omega)
  grind
theorem sq_hi {h r q K n : Int} (hK : 0 ≤ K) (h2 : n < (q + 1) * (4 * K * h * r)) : n < (h * r + q + 1) * (h * r + q + 1) * K := by
  have a := amgm (h * r) (q + 1)
  have b := Int.mul_le_mul_of_nonneg_right a hK
  grind
/-- what a root knows: it is right but for the digits from e on to c. -/
structure SqInv (n c e r : Nat) : Prop where
  lo : (r - 1) * (r - 1) * 4 ^ (c - e) < n
  hi : n < (r + 1) * (r + 1) * 4 ^ (c - e)
  ge : 2 ^ e ≤ r
theorem pow4 (k : Nat) : 4 ^ k = 2 ^ k * 2 ^ k := by
  rw [← Nat.mul_pow]
theorem pow_cancel {a b : Nat} (h : 4 ^ a < (b + 1) * (b + 1)) : 2 ^ a ≤ b := by
  rw [pow4] at h
  exact Nat.lt_succ_iff.1 (Nat.mul_self_lt_mul_self_iff.1 h)
theorem SqInv.step {n c e d r : Nat} (hI : SqInv n c e r) (hed : e < d) (hdc : d ≤ c) (hd : d ≤ 2 * e + 1) (hn : 4 ^ c ≤ n) : SqInv n c d (r * 2 ^ (d - e - 1) + n / 2 ^ (2 * c - e - d + 1) / r) := by
  have hr1 : 1 ≤ r := Nat.le_trans (Nat.two_pow_pos e) hI.ge
  have e1 : 4 ^ (c - e) = 4 ^ (c - d) * (2 * 2 ^ (d - e - 1) * (2 * 2 ^ (d - e - 1))) := by
    rw [show c - e = (c - d) + (d - e) by omega, Nat.pow_add, pow4 (d - e), show d - e = (d - e - 1) + 1 by omega, Nat.pow_succ, Nat.add_sub_cancel, Nat.mul_comm _ 2]
  have e2 : 2 ^ (2 * c - e - d + 1) = 4 * 4 ^ (c - d) * 2 ^ (d - e - 1) := by
    rw [show 2 * c - e - d + 1 = 2 + (c - d) + (c - d) + (d - e - 1) by omega, Nat.pow_add, Nat.pow_add, Nat.pow_add, pow4, ← Nat.mul_assoc]
  have hh : 2 ^ (d - e - 1) ≤ r := Nat.le_trans (Nat.pow_le_pow_right (by omega) (by omega)) hI.ge
  have hh1 : 1 ≤ 2 ^ (d - e - 1) := Nat.two_pow_pos _
  have hK1 : 1 ≤ 4 ^ (c - d) := Nat.pow_pos (by omega)
  have hlo := hI.lo
  have hhi := hI.hi
  rw [e1] at hlo hhi
  rw [e2]
  have hcd : 4 ^ c = 4 ^ (c - d) * 4 ^ d := by rw [← Nat.pow_add]; congr 1; omega
  generalize 2 ^ (d - e - 1) = h at *
  generalize hKK : 4 ^ (c - d) = K at *
  rw [Nat.div_div_eq_div_mul]
  have q1 := Nat.div_mul_le_self n (4 * K * h * r)
  have hpos : 0 < 4 * K * h * r := Nat.mul_pos (Nat.mul_pos (by omega) hh1) hr1
  have q2 : n < (n / (4 * K * h * r) + 1) * (4 * K * h * r) := Nat.lt_mul_of_div_lt (Nat.lt_succ_self _) hpos
  generalize n / (4 * K * h * r) = q at *
  have hhr : 1 ≤ h * r := Nat.mul_pos hh1 hr1
  have L := sq_lo (h := h) (r := r) (q := q) (K := K) (n := n) (by omega) (by omega) (by omega) (by omega) (by omega) (by exact_mod_cast q1)
    (by rw [show ((r : Int) - 1) = ((r - 1 : Nat) : Int) by omega]; exact_mod_cast hlo) (by exact_mod_cast hhi)
  have U := sq_hi (h := h) (r := r) (q := q) (K := K) (n := n) (by omega) (by exact_mod_cast q2)
  have eL : ((h : Int) * r + q - 1) = ((r * h + q - 1 : Nat) : Int) := by
    rw [Nat.mul_comm]
    have : ((h * r : Nat) : Int) = (h : Int) * r := Int.natCast_mul h r
    omega
  have eU : ((h : Int) * r + q + 1) = ((r * h + q + 1 : Nat) : Int) := by
    rw [Nat.mul_comm]
    have : ((h * r : Nat) : Int) = (h : Int) * r := Int.natCast_mul h r
    omega
  rw [eL] at L
  rw [eU] at U
  have U2 : n < (r * h + q + 1) * (r * h + q + 1) * K := by exact_mod_cast U
  refine ⟨?_, ?_, ?_⟩
  · rw [hKK]; exact_mod_cast L
  · rw [hKK]; exact U2
  · refine pow_cancel ?_
    have : 4 ^ d * K < (r * h + q + 1) * (r * h + q + 1) * K := by rw [Nat.mul_comm (4 ^ d)]; omega
    exact Nat.lt_of_mul_lt_mul_right this
theorem SqInv.start {n c : Nat} (h0 : 4 ^ c ≤ n) (h1 : n < 4 ^ (c + 1)) : SqInv n c 0 1 := by
  refine ⟨?_, ?_, by simp⟩
  · have : 0 < 4 ^ c := Nat.pow_pos (by omega)
    simp; omega
  · rw [Nat.pow_succ] at h1; simp; omega
theorem SqInv.done {n c r : Nat} (h : SqInv n c c r) : 1 ≤ r ∧ (r - 1) * (r - 1) ≤ n ∧ n < (r + 1) * (r + 1) := by
  have a := h.lo
  have b := h.hi
  have g := h.ge
  have := Nat.two_pow_pos c
  simp only [Nat.sub_self, Nat.pow_zero, Nat.mul_one] at a b
  omega
end Go.Proofs.YtmjmcinnbmjpdaaDoor
namespace Go.Proofs.YtmjmcinnbmjpdaaDoor
open Go.RowKit
/-- multiply is right where the two lengths together are at most L. -/
def MultiplyOK (L : Nat) : Prop := ∀ (A B : Option Addr) (c d n m : Nat) (xs ys : List Nat) (w : World), xs.length = n → ys.length = m → Rd w A xs → Rd w B ys → n + m ≤ L → (min n m < 64 ∨ (n = m ∧ 0 < val xs ∧ 0 < val ys ∧ n ≤ c ∧ c ≤ maxLen ∧ m ≤ d ∧ d ≤ maxLen)) →
    Calls Tryd.prog 61 #[.slice A n c, .slice B m d] w (RetN (fun zs => val zs = val xs * val ys ∧ Nrm zs ∧ zs.length ≤ xs.length + ys.length) w)
theorem multiply_127 : MultiplyOK 127 := fun _ _ _ _ _ _ _ _ _ hn hm hx hy h _ => int_multiply_s hn hm hx hy (by omega) (by omega)
theorem sq_side {zs : List Nat} {c : Nat} (hn : Nrm zs) (hc : zs.length ≤ c) (hcm : c ≤ maxLen) : min zs.length zs.length < 64 ∨ (zs.length = zs.length ∧ 0 < val zs ∧ 0 < val zs ∧ zs.length ≤ c ∧ c ≤ maxLen ∧ zs.length ≤ c ∧ c ≤ maxLen) := by
  by_cases h0 : zs = []
  · left; subst h0; simp
  · right
    have h1 : val zs ≠ 0 := fun h => h0 (hn.zero.1 h)
    exact ⟨rfl, by omega, by omega, hc, hcm, hc, hcm⟩
theorem bl_lt (k : Nat) (hk : k < 18446744073709551616) : k < 2 ^ Lib.bitLen k := by
  have key : ∀ (f x : Nat), x < 2 ^ f → x < 2 ^ Lib.bitLenAux f x := by
    intro f
    induction f with
    | zero => intro x hx; simpa [Lib.bitLenAux] using hx
    | succ f ih =>
      intro x hx
      unfold Lib.bitLenAux
      split
      · rename_i h0; subst h0; simp
      · have := ih (x / 2) (by rw [Nat.pow_succ] at hx; omega)
        rw [Nat.add_comm, Nat.pow_succ]
        omega
  exact key 64 k hk
theorem and_one {a : Nat} (ha : a < 9223372036854775808) : bits .and .i64 (a : Int) 1 = ((a % 2 : Nat) : Int) := by
  have e : BitVec.ofInt 64 (a : Int) = BitVec.ofNat 64 a := by rw [BitVec.ofInt_natCast]
  have h : a % 18446744073709551616 = a := Nat.mod_eq_of_lt (by omega)
  show IntKind.i64.wrap ((BitVec.ofInt 64 (a : Int) &&& BitVec.ofInt 64 1).toNat : Int) = _
  rw [e, BitVec.toNat_and, BitVec.toNat_ofNat]
  have e1 : (BitVec.ofInt 64 1).toNat = 1 := by decide
  rw [e1, show (2 : Nat) ^ 64 = 18446744073709551616 from rfl, h, Nat.and_one_is_mod]
  exact IntWalk.i64_in _ (by omega)
theorem bit_int (k i : Nat) : (k : Int) / 2 ^ i = ((k / 2 ^ i : Nat) : Int) := by
  rw [Int.natCast_ediv, Int.natCast_pow]; rfl
theorem bit_yes {k i : Nat} (hk : k ≤ 4096) (h : k / 2 ^ i % 2 = 1) : (bits BinOp.and IntKind.i64 ((k : Int) / 2 ^ i) 1 == 1) = true := by
  have := Nat.div_le_self k (2 ^ i)
  rw [bit_int, and_one (by omega), h]; rfl
theorem bit_no {k i : Nat} (hk : k ≤ 4096) (h : ¬ k / 2 ^ i % 2 = 1) : (bits BinOp.and IntKind.i64 ((k : Int) / 2 ^ i) 1 == 1) = false := by
  have := Nat.div_le_self k (2 ^ i)
  have h0 : k / 2 ^ i % 2 = 0 := by omega
  rw [bit_int, and_one (by omega), h0]; rfl
theorem pow_even (x f : Nat) : x ^ f * x ^ f = x ^ (2 * f) := by rw [← Nat.pow_add, Nat.two_mul]
theorem pow_odd (x f : Nat) : x ^ f * x ^ f * x = x ^ (2 * f + 1) := by rw [pow_even, Nat.pow_succ]
theorem half_step (k i : Nat) : k / 2 ^ (i + 1) = k / 2 ^ i / 2 := by rw [Nat.pow_succ, Nat.div_div_eq_div_mul]
theorem pow_len {xs zs : List Nat} {e : Nat} (hx : W32 xs) (hn : Nrm zs) (h : val zs = val xs ^ e) : zs.length ≤ max 1 (e * xs.length) := by
  rcases Nat.lt_or_ge (max 1 (e * xs.length)) zs.length with hl | hl
  · exfalso
    have hne : zs ≠ [] := by rintro rfl; simp at hl
    have h1 := hn.ge hne
    rw [h] at h1
    have h2 : val xs ^ e ≤ (4294967296 ^ xs.length) ^ e := Nat.pow_le_pow_left (Nat.le_of_lt (val_lt hx)) e
    rw [← Nat.pow_mul] at h2
    rcases Nat.eq_zero_or_pos e with he | he
    · subst he
      have h3 : 4294967296 ^ 1 ≤ 4294967296 ^ (zs.length - 1) := Nat.pow_le_pow_right (by omega) (by omega)
      simp only [Nat.pow_zero] at h1
      omega
    · have h4 : val xs ^ e < (4294967296 ^ xs.length) ^ e := Nat.pow_lt_pow_left (val_lt hx) (by omega)
      rw [← Nat.pow_mul] at h4
      have h5 : 4294967296 ^ (xs.length * e) ≤ 4294967296 ^ (zs.length - 1) := Nat.pow_le_pow_right (by omega) (by rw [Nat.mul_comm]; omega)
      omega
  · exact hl
section
variable {A B : Option Addr} {c d n m L : Nat} {xs ys : List Nat} {w : World} {s t : Bool}
set_option maxHeartbeats 1000000 in
theorem int_power {k : Nat} (hM : MultiplyOK L) (hn : xs.length = n) (hx : Rd w A xs) (hk : k ≤ 4096) (hL : k * n + 2 ≤ L) (hn64 : n < 64) :
    Calls Tryd.prog 39 #[.slice A n c, .int .i64 (k : Int)] w (RetL (fun zs => val zs = val xs ^ k ∧ Nrm zs ∧ zs.length ≤ max 1 (k * xs.length)) w) := by
  have Hn := Lib.hid hn
  have HM := Lib.hid hM
  have HL := Lib.hid hL
  clear hn hM hL
  go_enter Tryd.func39, Tryd.ntmps39
  go_wp2_with fail
  refine (lenU _ _ (by omega) (by omega)).mono ?_
  rintro e w' ⟨rfl, rfl⟩
  rw [Int.toNat_natCast]
  have hb64 := Lib.bitLen_le k 64 (by omega) (by omega)
  have hz0 : k / 2 ^ Lib.bitLen k = 0 := Nat.div_eq_of_lt (bl_lt k (by omega))
  have Hz0 := Lib.hid hz0
  clear hz0
  go_wp2_with fail
  go_loopw [5, 6] (fun p i wr => ∃ (j : Nat) (A' : Option Addr) (c' : Nat) (zs : List Nat), j ≤ Lib.bitLen k ∧ i = .int .i64 ((j : Int) - 1) ∧ p = .slice A' zs.length c' ∧ zs.length ≤ c' ∧ c' ≤ maxLen ∧ Rd wr A' zs ∧ Nrm zs ∧ val zs = val xs ^ (k / 2 ^ j) ∧ Ext w wr) (fun _ i _ => (intOf i + 1).toNat)
  case atStart =>
    exact ⟨Lib.bitLen k, _, _, [1], Nat.le_refl _, rfl, rfl, Nat.le_refl _, by simp [maxLen], (BlkN.lit w [1] #[.int .u32 1] rfl).rd0 (W32.one (by omega)), Nrm.one (by omega), by rw [Hz0.out]; rfl, (Ext.refl w).alloc _⟩
  case round =>
    obtain ⟨j, A', c', zs, hj, rfl, rfl, hc, hcm, hr, hnr, hv, hext⟩ := hrel
    have Hv := Lib.hid hv
    clear hv
    by_cases hj0 : j = 0
    · subst hj0
      go_wp2_with fail
      go_ret
      have hv := Hv.out
      rw [Nat.pow_zero, Nat.div_one] at hv
      exact ⟨A', c', zs, rfl, hr, hc, hcm, ⟨hv, hnr, pow_len hx.1 hnr hv⟩, hext⟩
    · obtain ⟨i, rfl⟩ : ∃ i, j = i + 1 := ⟨j - 1, by omega⟩
      rw [show (((i + 1 : Nat) : Int) - 1) = (i : Int) by omega]
      have hlen := pow_len hx.1 hnr Hv.out
      have hstep := half_step k i
      have hki := Nat.div_le_self k (2 ^ i)
      have hsz : 2 * (k / 2 ^ (i + 1) * xs.length) ≤ k * n ∧ (k / 2 ^ i % 2 = 1 → 2 * (k / 2 ^ (i + 1) * xs.length) + n ≤ k * n) := by
        rw [Hn.out]
        generalize k / 2 ^ i = e at *
        generalize k / 2 ^ (i + 1) = f at *
        have h1 : 2 * (f * n) = (2 * f) * n := by rw [Nat.mul_assoc]
        rw [h1]
        refine ⟨Nat.mul_le_mul_right _ (by omega), fun h => ?_⟩
        have : (2 * f + 1) * n ≤ k * n := Nat.mul_le_mul_right _ (by omega)
        rw [Nat.add_mul, Nat.one_mul] at this
        exact this
      have Hsz := Lib.hid hsz
      have Hstep := Lib.hid hstep
      clear hsz hstep
      by_cases hbit : k / 2 ^ i % 2 = 1
      · have ht := bit_yes hk hbit
        have Hbit := Lib.hid hbit
        clear hbit
        go_wp2_with fail
        refine (HM.out A' A' c' c' _ _ zs zs _ rfl rfl hr hr (by have := Hsz.out.1; have := HL.out; omega) (sq_side hnr hc hcm)).mono ?_
        rintro e w2 ⟨A2, c2, z2, rfl, ho2, hc2, hm2, ⟨hv2, hn2, hl2⟩, hext2⟩
        have Hv2 := Lib.hid hv2
        clear hv2
        go_wp2_with fail
        refine (HM.out A2 A c2 c _ _ z2 xs _ rfl Hn.out ho2.rd ((hx.ext hext).ext hext2) (by have := Hsz.out.2 Hbit.out; have := HL.out; omega) (Or.inl (by omega))).mono ?_
        rintro e w3 ⟨A3, c3, z3, rfl, ho3, hc3, hm3, ⟨hv3, hn3, hl3⟩, hext3⟩
        have Hv3 := Lib.hid hv3
        clear hv3
        go_wp2_with fail
        go_roundw
        case rel =>
          refine ⟨i, A3, c3, z3, by omega, rfl, rfl, hc3, hm3, ho3.rd, hn3, ?_, (hext.trans hext2).trans hext3⟩
          have e : k / 2 ^ i = 2 * (k / 2 ^ (i + 1)) + 1 := by have := Hstep.out; have := Hbit.out; omega
          rw [Hv3.out, Hv2.out, Hv.out, e]
          exact pow_odd _ _
        case measure => simp [intOf]
      · have ht := bit_no hk hbit
        have Hbit := Lib.hid hbit
        clear hbit
        go_wp2_with fail
        refine (HM.out A' A' c' c' _ _ zs zs _ rfl rfl hr hr (by have := Hsz.out.1; have := HL.out; omega) (sq_side hnr hc hcm)).mono ?_
        rintro e w2 ⟨A2, c2, z2, rfl, ho2, hc2, hm2, ⟨hv2, hn2, hl2⟩, hext2⟩
        have Hv2 := Lib.hid hv2
        clear hv2
        go_wp2_with fail
        go_roundw
        case rel =>
          refine ⟨i, A2, c2, z2, by omega, rfl, rfl, hc2, hm2, ho2.rd, hn2, ?_, hext.trans hext2⟩
          have e : k / 2 ^ i = 2 * (k / 2 ^ (i + 1)) := by have := Hstep.out; have := Hbit.out; omega
          rw [Hv2.out, Hv.out, e]
          exact pow_even _ _
        case measure => simp [intOf]
end
end Go.Proofs.YtmjmcinnbmjpdaaDoor
