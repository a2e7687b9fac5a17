/- Walks: Pow. -/
import Derived.Test.YtmjmcinnbmjpdaaWo
import Derived.Test.YtmjmcinnbmjpdaaWg
namespace Go.Proofs.Ytmjmcinnbmjpdaa
open Go.RowKit
attribute [local go_sem ↓] Go.wp_at_zero Go.wp_at_succ
/-- an integer and an error's number. -/
def RetIE (z : Int) (len : Nat) (err : Int) (w : World) (e : Ending) (w' : World) : Prop :=
  ∃ b A c ys, e = .returned (.tuple #[.agg #[.bool b, .slice A (List.length ys) c], .int .i64 err]) ∧ Rd w' A ys ∧ ys.length ≤ c ∧ c ≤ maxLen ∧ IsInt z b ys ∧ ys.length ≤ len ∧ Ext w w'
theorem neg_pow_even (x : Int) (k : Nat) (h : k % 2 = 0) : (-x) ^ k = x ^ k := by
  obtain ⟨j, rfl⟩ : ∃ j, k = 2 * j := ⟨k / 2, by omega⟩
  rw [Int.pow_mul, Int.pow_mul]
  congr 1
  rw [Int.pow_succ, Int.pow_succ, Int.pow_succ, Int.pow_succ, Int.pow_zero, Int.pow_zero, Int.one_mul, Int.one_mul, Int.neg_mul_neg]
theorem neg_pow_odd (x : Int) (k : Nat) (h : k % 2 = 1) : (-x) ^ k = -(x ^ k) := by
  obtain ⟨j, rfl⟩ : ∃ j, k = j + 1 := ⟨k - 1, by omega⟩
  rw [Int.pow_succ, Int.pow_succ, neg_pow_even x j (by omega), Int.mul_neg]
theorem ival_pow {s b : Bool} {xs zs : List Nat} {k : Nat} (h : val zs = val xs ^ k) (hb : b = (s && decide (k % 2 = 1))) : ival b zs = (ival s xs) ^ k := by
  subst hb
  unfold ival
  rw [h, Int.natCast_pow]
  cases s with
  | false => simp
  | true =>
    by_cases hk : k % 2 = 1
    · simp [hk, neg_pow_odd _ _ hk]
    · simp [hk, neg_pow_even _ _ (show k % 2 = 0 by omega)]
section
variable {A B : Option Addr} {c d n m L : Nat} {xs ys : List Nat} {w : World} {s t : Bool}
set_option maxHeartbeats 1000000 in
theorem int_Pow_f {k : Nat} (hM : MultiplyOK L) (hn : xs.length = n) (hx : Rd w A xs) (hc : n ≤ c) (hcm : c ≤ maxLen) (hk : k ≤ 4096) (hL : k * n + 2 ≤ L) (hL2 : n < 64) :
    Calls Try.prog 38 #[.agg #[.bool false, .slice A n c], .int .i64 (k : Int)] w (RetIE ((ival false xs) ^ k) (max 1 (k * xs.length)) 0 w) := by
  have Hn := Lib.hid hn
  have HM := Lib.hid hM
  have HL := Lib.hid hL
  clear hn hM hL
  have lx := trimL_len xs
  have hxt : Rd w A (trimL xs) := by rw [trimL_take]; exact hx.take _
  have t0 : decide ((k : Int) < 0) = false := decide_eq_false (by omega)
  have t1 : decide ((4096 : Int) < (k : Int)) = false := decide_eq_false (by omega)
  go_enter Try.func38, Try.ntmps38
  go_upto_region 1 with (fail)
  obtain ⟨W, hW, extW, bx, bz, hz⟩ := box2 w 24 24 #[.bool false, .slice A n c] #[.bool false, .slice none 0 0]
  rw [← hW]
  clear hW
  have x0 := bx.cell 0 (.bool false) rfl
  have x1 := bx.cell 1 (.slice A n c) rfl
  go_wp2_with fail
  refine (int_trimN Hn.out (hx.ext extW) hc hcm).mono ?_
  rintro e w1 ⟨rfl, rfl⟩
  go_wp2_with fail
  refine (int_power HM.out rfl (hxt.ext extW) hk (by have := HL.out; have h := Nat.mul_le_mul_left k (show (trimL xs).length ≤ n by have := Hn.out; omega); omega) (by have := Hn.out; omega)).mono ?_
  rintro e w2 ⟨A2, c2, zs, rfl, hr2, hc2, hm2, ⟨hv2, hn2, hl2⟩, hext2⟩
  have Hv2 := Lib.hid hv2
  clear hv2
  go_wp2_with fail
  refine (int_signed rfl hr2 hc2 hm2 hn2).mono ?_
  rintro e w3 ⟨b3, A3, c3, rs, rfl, hr3, hc3, hm3, hi3, hl3, hext3⟩
  have ext3 := hext2.trans hext3
  have bz3 := bz.ext ext3
  have z0 := bz3.cell 0 (.bool false) rfl
  have z1 := bz3.cell 1 (.slice none 0 0) rfl
  have f0 := bz3.frozen 0
  have f1 := bz3.frozen 1
  go_wp2_with fail
  obtain ⟨r1, r2, r3, r4⟩ := fin_pair (b := b3) (n := rs.length) (c := c3) (extW.trans ext3) (by omega) bz3 hr3
  refine bodyPost_ret (v := .tuple #[.agg #[.bool b3, .slice A3 rs.length c3], .int .i64 0]) (by simp [results, Try.results38, go_sem, r3, r4]) rfl ⟨b3, A3, c3, rs, rfl, r1, hc3, hm3, ?_, ?_, r2⟩
  · have hv := Hv2.out
    rw [val_trimL] at hv
    rw [ival_pow (s := false) hv (by simp)] at hi3
    exact hi3
  · have h := Nat.mul_le_mul_left k lx
    omega

set_option maxHeartbeats 1000000 in
theorem int_Pow_e {k : Nat} (hM : MultiplyOK L) (hn : xs.length = n) (hx : Rd w A xs) (hc : n ≤ c) (hcm : c ≤ maxLen) (hk : k ≤ 4096) (hL : k * n + 2 ≤ L) (hL2 : n < 64) (he : k % 2 = 0) :
    Calls Try.prog 38 #[.agg #[.bool true, .slice A n c], .int .i64 (k : Int)] w (RetIE ((ival true xs) ^ k) (max 1 (k * xs.length)) 0 w) := by
  have Hn := Lib.hid hn
  have HM := Lib.hid hM
  have HL := Lib.hid hL
  clear hn hM hL
  have lx := trimL_len xs
  have hxt : Rd w A (trimL xs) := by rw [trimL_take]; exact hx.take _
  have t0 : decide ((k : Int) < 0) = false := decide_eq_false (by omega)
  have t1 : decide ((4096 : Int) < (k : Int)) = false := decide_eq_false (by omega)
  have t2 : (((k : Int) % 2) == 1) = false := by rw [beq_eq_false_iff_ne]; omega
  go_enter Try.func38, Try.ntmps38
  go_upto_region 1 with (fail)
  obtain ⟨W, hW, extW, bx, bz, hz⟩ := box2 w 24 24 #[.bool true, .slice A n c] #[.bool false, .slice none 0 0]
  rw [← hW]
  clear hW
  have x0 := bx.cell 0 (.bool true) rfl
  have x1 := bx.cell 1 (.slice A n c) rfl
  go_wp2_with fail
  refine (int_trimN Hn.out (hx.ext extW) hc hcm).mono ?_
  rintro e w1 ⟨rfl, rfl⟩
  go_wp2_with fail
  refine (int_power HM.out rfl (hxt.ext extW) hk (by have := HL.out; have h := Nat.mul_le_mul_left k (show (trimL xs).length ≤ n by have := Hn.out; omega); omega) (by have := Hn.out; omega)).mono ?_
  rintro e w2 ⟨A2, c2, zs, rfl, hr2, hc2, hm2, ⟨hv2, hn2, hl2⟩, hext2⟩
  have Hv2 := Lib.hid hv2
  clear hv2
  go_wp2_with fail
  refine (int_signed rfl hr2 hc2 hm2 hn2).mono ?_
  rintro e w3 ⟨b3, A3, c3, rs, rfl, hr3, hc3, hm3, hi3, hl3, hext3⟩
  have ext3 := hext2.trans hext3
  have bz3 := bz.ext ext3
  have z0 := bz3.cell 0 (.bool false) rfl
  have z1 := bz3.cell 1 (.slice none 0 0) rfl
  have f0 := bz3.frozen 0
  have f1 := bz3.frozen 1
  go_wp2_with fail
  obtain ⟨r1, r2, r3, r4⟩ := fin_pair (b := b3) (n := rs.length) (c := c3) (extW.trans ext3) (by omega) bz3 hr3
  refine bodyPost_ret (v := .tuple #[.agg #[.bool b3, .slice A3 rs.length c3], .int .i64 0]) (by simp [results, Try.results38, go_sem, r3, r4]) rfl ⟨b3, A3, c3, rs, rfl, r1, hc3, hm3, ?_, ?_, r2⟩
  · have hv := Hv2.out
    rw [val_trimL] at hv
    rw [ival_pow (s := true) hv (by simp; omega)] at hi3
    exact hi3
  · have h := Nat.mul_le_mul_left k lx
    omega

set_option maxHeartbeats 1000000 in
theorem int_Pow_o {k : Nat} (hM : MultiplyOK L) (hn : xs.length = n) (hx : Rd w A xs) (hc : n ≤ c) (hcm : c ≤ maxLen) (hk : k ≤ 4096) (hL : k * n + 2 ≤ L) (hL2 : n < 64) (he : k % 2 = 1) :
    Calls Try.prog 38 #[.agg #[.bool true, .slice A n c], .int .i64 (k : Int)] w (RetIE ((ival true xs) ^ k) (max 1 (k * xs.length)) 0 w) := by
  have Hn := Lib.hid hn
  have HM := Lib.hid hM
  have HL := Lib.hid hL
  clear hn hM hL
  have lx := trimL_len xs
  have hxt : Rd w A (trimL xs) := by rw [trimL_take]; exact hx.take _
  have t0 : decide ((k : Int) < 0) = false := decide_eq_false (by omega)
  have t1 : decide ((4096 : Int) < (k : Int)) = false := decide_eq_false (by omega)
  have t2 : (((k : Int) % 2) == 1) = true := by rw [beq_iff_eq]; omega
  go_enter Try.func38, Try.ntmps38
  go_upto_region 1 with (fail)
  obtain ⟨W, hW, extW, bx, bz, hz⟩ := box2 w 24 24 #[.bool true, .slice A n c] #[.bool false, .slice none 0 0]
  rw [← hW]
  clear hW
  have x0 := bx.cell 0 (.bool true) rfl
  have x1 := bx.cell 1 (.slice A n c) rfl
  go_wp2_with fail
  refine (int_trimN Hn.out (hx.ext extW) hc hcm).mono ?_
  rintro e w1 ⟨rfl, rfl⟩
  go_wp2_with fail
  refine (int_power HM.out rfl (hxt.ext extW) hk (by have := HL.out; have h := Nat.mul_le_mul_left k (show (trimL xs).length ≤ n by have := Hn.out; omega); omega) (by have := Hn.out; omega)).mono ?_
  rintro e w2 ⟨A2, c2, zs, rfl, hr2, hc2, hm2, ⟨hv2, hn2, hl2⟩, hext2⟩
  have Hv2 := Lib.hid hv2
  clear hv2
  go_wp2_with fail
  refine (int_signed rfl hr2 hc2 hm2 hn2).mono ?_
  rintro e w3 ⟨b3, A3, c3, rs, rfl, hr3, hc3, hm3, hi3, hl3, hext3⟩
  have ext3 := hext2.trans hext3
  have bz3 := bz.ext ext3
  have z0 := bz3.cell 0 (.bool false) rfl
  have z1 := bz3.cell 1 (.slice none 0 0) rfl
  have f0 := bz3.frozen 0
  have f1 := bz3.frozen 1
  go_wp2_with fail
  obtain ⟨r1, r2, r3, r4⟩ := fin_pair (b := b3) (n := rs.length) (c := c3) (extW.trans ext3) (by omega) bz3 hr3
  refine bodyPost_ret (v := .tuple #[.agg #[.bool b3, .slice A3 rs.length c3], .int .i64 0]) (by simp [results, Try.results38, go_sem, r3, r4]) rfl ⟨b3, A3, c3, rs, rfl, r1, hc3, hm3, ?_, ?_, r2⟩
  · have hv := Hv2.out
    rw [val_trimL] at hv
    rw [ival_pow (s := true) hv (by simp; omega)] at hi3
    exact hi3
  · have h := Nat.mul_le_mul_left k lx
    omega

theorem int_Pow {k : Nat} (hM : MultiplyOK L) (hn : xs.length = n) (hx : Rd w A xs) (hc : n ≤ c) (hcm : c ≤ maxLen) (hk : k ≤ 4096) (hL : k * n + 2 ≤ L) (hL2 : n < 64) : Calls Try.prog 38 #[.agg #[.bool s, .slice A n c], .int .i64 (k : Int)] w (RetIE ((ival s xs) ^ k) (max 1 (k * xs.length)) 0 w) := by
  cases s with
  | false => exact int_Pow_f hM hn hx hc hcm hk hL hL2
  | true =>
    by_cases h : k % 2 = 1
    · exact int_Pow_o hM hn hx hc hcm hk hL hL2 h
    · exact int_Pow_e hM hn hx hc hcm hk hL hL2 (by omega)
end
end Go.Proofs.Ytmjmcinnbmjpdaa
