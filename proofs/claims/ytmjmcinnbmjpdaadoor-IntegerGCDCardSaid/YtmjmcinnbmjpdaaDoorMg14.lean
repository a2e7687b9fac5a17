/- Walks and laws, part 14. -/
import Derived.Test.YtmjmcinnbmjpdaaDoorMg6
import Derived.Test.YtmjmcinnbmjpdaaDoorMg7
import Derived.Test.YtmjmcinnbmjpdaaDoorMg8
import Derived.Test.YtmjmcinnbmjpdaaDoorMg10
import Derived.Test.YtmjmcinnbmjpdaaDoorMg13
namespace Go.Proofs.YtmjmcinnbmjpdaaDoor
open Go.RowKit
attribute [local go_sem ↓] Go.wp_at_zero Go.wp_at_succ
/-- an integer and an error's number. -/
def RetIE (z : Int) (len : Nat) (err : Int) (w : World) (e : Ending) (w' : World) : Prop :=
  ∃ b A c ys, e = .returned (.tuple #[.agg #[.bool b, .slice A (List.length ys) c], .int .i64 err]) ∧ Rd w' A ys ∧ ys.length ≤ c ∧ c ≤ maxLen ∧ IsInt z b ys ∧ ys.length ≤ len ∧ Ext w w'
theorem neg_pow_even (x : Int) (k : Nat) (h : k % 2 = 0) : (-x) ^ k = x ^ k := by
  obtain ⟨j, rfl⟩ : ∃ j, k = 2 * j := ⟨k / 2, by omega⟩
  rw [Int.pow_mul, Int.pow_mul]
  congr 1
  rw [Int.pow_succ, Int.pow_succ, Int.pow_succ, Int.pow_succ, Int.pow_zero, Int.pow_zero, Int.one_mul, Int.one_mul, Int.neg_mul_neg]
theorem neg_pow_odd (x : Int) (k : Nat) (h : k % 2 = 1) : (-x) ^ k = -(x ^ k) := by
  obtain ⟨j, rfl⟩ : ∃ j, k = j + 1 := ⟨k - 1, by omega⟩
  rw [Int.pow_succ, Int.pow_succ, neg_pow_even x j (by omega), Int.mul_neg]
theorem ival_pow {s b : Bool} {xs zs : List Nat} {k : Nat} (h : val zs = val xs ^ k) (hb : b = (s && decide (k % 2 = 1))) : ival b zs = (ival s xs) ^ k := by
  subst hb
  unfold ival
  rw [h, Int.natCast_pow]
  cases s with
  | false => simp
  | true =>
    by_cases hk : k % 2 = 1
    · simp [hk, neg_pow_odd _ _ hk]
    · simp [hk, neg_pow_even _ _ (show k % 2 = 0 by omega)]
section
variable {A B : Option Addr} {c d n m L : Nat} {xs ys : List Nat} {w : World} {s t : Bool}
set_option maxHeartbeats 1000000 in
theorem int_Pow_f {k : Nat} (hM : MultiplyOK L) (hn : xs.length = n) (hx : Rd w A xs) (hc : n ≤ c) (hcm : c ≤ maxLen) (hk : k ≤ 4096) (hL : k * n + 2 ≤ L) (hL2 : n < 64) :
    Calls Tryd.prog 19 #[.agg #[.bool false, .slice A n c], .int .i64 (k : Int)] w (RetIE ((ival false xs) ^ k) (max 1 (k * xs.length)) 0 w) := by
  have Hn := Lib.hid hn
  have HM := Lib.hid hM
  have HL := Lib.hid hL
  clear hn hM hL
  have lx := trimL_len xs
  have hxt : Rd w A (trimL xs) := by rw [trimL_take]; exact hx.take _
  have t0 : decide ((k : Int) < 0) = false := decide_eq_false (by omega)
  have t1 : decide ((4096 : Int) < (k : Int)) = false := decide_eq_false (by omega)
  go_enter Tryd.func19, Tryd.ntmps19
  go_upto_region 1 with (fail)
  obtain ⟨W, hW, extW, bx, bz, hz⟩ := box2 w 24 24 #[.bool false, .slice A n c] #[.bool false, .slice none 0 0]
  rw [← hW]
  clear hW
  have x0 := bx.cell 0 (.bool false) rfl
  have x1 := bx.cell 1 (.slice A n c) rfl
  go_wp2_with fail
  refine (int_trimN Hn.out (hx.ext extW) hc hcm).mono ?_
  rintro e w1 ⟨rfl, rfl⟩
  go_wp2_with fail
  refine (int_power HM.out rfl (hxt.ext extW) hk (by have := HL.out; have h := Nat.mul_le_mul_left k (show (trimL xs).length ≤ n by have := Hn.out; omega); omega) (by have := Hn.out; omega)).mono ?_
  rintro e w2 ⟨A2, c2, zs, rfl, hr2, hc2, hm2, ⟨hv2, hn2, hl2⟩, hext2⟩
  have Hv2 := Lib.hid hv2
  clear hv2
  go_wp2_with fail
  refine (int_signed rfl hr2 hc2 hm2 hn2).mono ?_
  rintro e w3 ⟨b3, A3, c3, rs, rfl, hr3, hc3, hm3, hi3, hl3, hext3⟩
  have ext3 := hext2.trans hext3
  have bz3 := bz.ext ext3
  have z0 := bz3.cell 0 (.bool false) rfl
  have z1 := bz3.cell 1 (.slice none 0 0) rfl
  have f0 := bz3.frozen 0
  have f1 := bz3.frozen 1
  go_wp2_with fail
  obtain ⟨r1, r2, r3, r4⟩ := fin_pair (b := b3) (n := rs.length) (c := c3) (extW.trans ext3) (by omega) bz3 hr3
  refine bodyPost_ret (v := .tuple #[.agg #[.bool b3, .slice A3 rs.length c3], .int .i64 0]) (by simp [results, Tryd.results19, go_sem, r3, r4]) rfl ⟨b3, A3, c3, rs, rfl, r1, hc3, hm3, ?_, ?_, r2⟩
  · have hv := Hv2.out
    rw [val_trimL] at hv
    rw [ival_pow (s := false) hv (by simp)] at hi3
    exact hi3
  · have h := Nat.mul_le_mul_left k lx
    omega

set_option maxHeartbeats 1000000 in
theorem int_Pow_e {k : Nat} (hM : MultiplyOK L) (hn : xs.length = n) (hx : Rd w A xs) (hc : n ≤ c) (hcm : c ≤ maxLen) (hk : k ≤ 4096) (hL : k * n + 2 ≤ L) (hL2 : n < 64) (he : k % 2 = 0) :
    Calls Tryd.prog 19 #[.agg #[.bool true, .slice A n c], .int .i64 (k : Int)] w (RetIE ((ival true xs) ^ k) (max 1 (k * xs.length)) 0 w) := by
  have Hn := Lib.hid hn
  have HM := Lib.hid hM
  have HL := Lib.hid hL
  clear hn hM hL
  have lx := trimL_len xs
  have hxt : Rd w A (trimL xs) := by rw [trimL_take]; exact hx.take _
  have t0 : decide ((k : Int) < 0) = false := decide_eq_false (by omega)
  have t1 : decide ((4096 : Int) < (k : Int)) = false := decide_eq_false (by omega)
  have t2 : (((k : Int) % 2) == 1) = false := by rw [beq_eq_false_iff_ne]; omega
  go_enter Tryd.func19, Tryd.ntmps19
  go_upto_region 1 with (fail)
  obtain ⟨W, hW, extW, bx, bz, hz⟩ := box2 w 24 24 #[.bool true, .slice A n c] #[.bool false, .slice none 0 0]
  rw [← hW]
  clear hW
  have x0 := bx.cell 0 (.bool true) rfl
  have x1 := bx.cell 1 (.slice A n c) rfl
  go_wp2_with fail
  refine (int_trimN Hn.out (hx.ext extW) hc hcm).mono ?_
  rintro e w1 ⟨rfl, rfl⟩
  go_wp2_with fail
  refine (int_power HM.out rfl (hxt.ext extW) hk (by have := HL.out; have h := Nat.mul_le_mul_left k (show (trimL xs).length ≤ n by have := Hn.out; omega); omega) (by have := Hn.out; omega)).mono ?_
  rintro e w2 ⟨A2, c2, zs, rfl, hr2, hc2, hm2, ⟨hv2, hn2, hl2⟩, hext2⟩
  have Hv2 := Lib.hid hv2
  clear hv2
  go_wp2_with fail
  refine (int_signed rfl hr2 hc2 hm2 hn2).mono ?_
  rintro e w3 ⟨b3, A3, c3, rs, rfl, hr3, hc3, hm3, hi3, hl3, hext3⟩
  have ext3 := hext2.trans hext3
  have bz3 := bz.ext ext3
  have z0 := bz3.cell 0 (.bool false) rfl
  have z1 := bz3.cell 1 (.slice none 0 0) rfl
  have f0 := bz3.frozen 0
  have f1 := bz3.frozen 1
  go_wp2_with fail
  obtain ⟨r1, r2, r3, r4⟩ := fin_pair (b := b3) (n := rs.length) (c := c3) (extW.trans ext3) (by omega) bz3 hr3
  refine bodyPost_ret (v := .tuple #[.agg #[.bool b3, .slice A3 rs.length c3], .int .i64 0]) (by simp [results, Tryd.results19, go_sem, r3, r4]) rfl ⟨b3, A3, c3, rs, rfl, r1, hc3, hm3, ?_, ?_, r2⟩
  · have hv := Hv2.out
    rw [val_trimL] at hv
    rw [ival_pow (s := true) hv (by simp; omega)] at hi3
    exact hi3
  · have h := Nat.mul_le_mul_left k lx
    omega

set_option maxHeartbeats 1000000 in
theorem int_Pow_o {k : Nat} (hM : MultiplyOK L) (hn : xs.length = n) (hx : Rd w A xs) (hc : n ≤ c) (hcm : c ≤ maxLen) (hk : k ≤ 4096) (hL : k * n + 2 ≤ L) (hL2 : n < 64) (he : k % 2 = 1) :
    Calls Tryd.prog 19 #[.agg #[.bool true, .slice A n c], .int .i64 (k : Int)] w (RetIE ((ival true xs) ^ k) (max 1 (k * xs.length)) 0 w) := by
  have Hn := Lib.hid hn
  have HM := Lib.hid hM
  have HL := Lib.hid hL
  clear hn hM hL
  have lx := trimL_len xs
  have hxt : Rd w A (trimL xs) := by rw [trimL_take]; exact hx.take _
  have t0 : decide ((k : Int) < 0) = false := decide_eq_false (by omega)
  have t1 : decide ((4096 : Int) < (k : Int)) = false := decide_eq_false (by omega)
  have t2 : (((k : Int) % 2) == 1) = true := by rw [beq_iff_eq]; omega
  go_enter Tryd.func19, Tryd.ntmps19
  go_upto_region 1 with (fail)
  obtain ⟨W, hW, extW, bx, bz, hz⟩ := box2 w 24 24 #[.bool true, .slice A n c] #[.bool false, .slice none 0 0]
  rw [← hW]
  clear hW
  have x0 := bx.cell 0 (.bool true) rfl
  have x1 := bx.cell 1 (.slice A n c) rfl
  go_wp2_with fail
  refine (int_trimN Hn.out (hx.ext extW) hc hcm).mono ?_
  rintro e w1 ⟨rfl, rfl⟩
  go_wp2_with fail
  refine (int_power HM.out rfl (hxt.ext extW) hk (by have := HL.out; have h := Nat.mul_le_mul_left k (show (trimL xs).length ≤ n by have := Hn.out; omega); omega) (by have := Hn.out; omega)).mono ?_
  rintro e w2 ⟨A2, c2, zs, rfl, hr2, hc2, hm2, ⟨hv2, hn2, hl2⟩, hext2⟩
  have Hv2 := Lib.hid hv2
  clear hv2
  go_wp2_with fail
  refine (int_signed rfl hr2 hc2 hm2 hn2).mono ?_
  rintro e w3 ⟨b3, A3, c3, rs, rfl, hr3, hc3, hm3, hi3, hl3, hext3⟩
  have ext3 := hext2.trans hext3
  have bz3 := bz.ext ext3
  have z0 := bz3.cell 0 (.bool false) rfl
  have z1 := bz3.cell 1 (.slice none 0 0) rfl
  have f0 := bz3.frozen 0
  have f1 := bz3.frozen 1
  go_wp2_with fail
  obtain ⟨r1, r2, r3, r4⟩ := fin_pair (b := b3) (n := rs.length) (c := c3) (extW.trans ext3) (by omega) bz3 hr3
  refine bodyPost_ret (v := .tuple #[.agg #[.bool b3, .slice A3 rs.length c3], .int .i64 0]) (by simp [results, Tryd.results19, go_sem, r3, r4]) rfl ⟨b3, A3, c3, rs, rfl, r1, hc3, hm3, ?_, ?_, r2⟩
  · have hv := Hv2.out
    rw [val_trimL] at hv
    rw [ival_pow (s := true) hv (by simp; omega)] at hi3
    exact hi3
  · have h := Nat.mul_le_mul_left k lx
    omega

theorem int_Pow {k : Nat} (hM : MultiplyOK L) (hn : xs.length = n) (hx : Rd w A xs) (hc : n ≤ c) (hcm : c ≤ maxLen) (hk : k ≤ 4096) (hL : k * n + 2 ≤ L) (hL2 : n < 64) : Calls Tryd.prog 19 #[.agg #[.bool s, .slice A n c], .int .i64 (k : Int)] w (RetIE ((ival s xs) ^ k) (max 1 (k * xs.length)) 0 w) := by
  cases s with
  | false => exact int_Pow_f hM hn hx hc hcm hk hL hL2
  | true =>
    by_cases h : k % 2 = 1
    · exact int_Pow_o hM hn hx hc hcm hk hL hL2 h
    · exact int_Pow_e hM hn hx hc hcm hk hL hL2 (by omega)
end
end Go.Proofs.YtmjmcinnbmjpdaaDoor
namespace Go.Proofs.YtmjmcinnbmjpdaaDoor
open Go.RowKit
theorem nrm_small {zs : List Nat} (_hw : W32 zs) (hn : Nrm zs) (h : val zs ≤ 4294967295) : zs.length ≤ 1 :=
  nrm_len_le (xs := [4294967295]) (W32.one (by omega)) hn (by rw [val_one]; exact h)
section
variable {A B : Option Addr} {c d n m : Nat} {xs ys : List Nat} {w : World} {s t : Bool}
theorem bits_99 (hx : Rd w A [99]) : Calls Tryd.prog 67 #[.slice A 1 c] w fun e w' => e = .returned (.int .i64 7) ∧ w = w' := by
  have h := int_binaryDigits (c := c) (n := 1) rfl hx (by omega)
  exact h.mono fun e w' ⟨h1, h2⟩ => ⟨h1, h2⟩
theorem len_3 : Calls Tryd.prog 66 #[.int .u64 3] w fun e w' => e = .returned (.int .i64 2) ∧ w = w' :=
  (lenU 3 w (by omega) (by omega)).mono fun e w' ⟨h1, h2⟩ => ⟨h1, h2⟩
set_option maxHeartbeats 4000000 in
theorem squareRoot_99 (hx : Rd w A [99]) (hc : 1 ≤ c) (hcm : c ≤ maxLen) :
    Calls Tryd.prog 42 #[.slice A 1 c] w (RetN (fun zs => val zs = 9 ∧ Nrm zs ∧ zs.length ≤ 1) w) := by
  go_enter Tryd.func42, Tryd.ntmps42
  have hnew := BlkN.lit w [1] #[.int .u32 1] rfl
  have hrd := hnew.rd0 (W32.one (by omega))
  go_wp2_with (first | (go_at_call 67; refine (bits_99 hx).mono ?_; rintro e w2 ⟨rfl, rfl⟩) | (go_at_call 66; refine len_3.mono ?_; rintro e w2 ⟨rfl, rfl⟩))
  go_loopw [4, 5, 6] (fun r kn i wr => ∃ (A1 : Option Addr) (c1 : Nat) (rs : List Nat), r = .slice A1 rs.length c1 ∧ Rd wr A1 rs ∧ rs.length ≤ c1 ∧ c1 ≤ maxLen ∧ Nrm rs ∧ rs.length ≤ 1 ∧ Ext w wr ∧ ((i = .int .i64 1 ∧ kn = .int .i64 0 ∧ val rs = 1) ∨ (i = .int .i64 0 ∧ kn = .int .i64 1 ∧ val rs = 2) ∨ (i = .int .i64 (-1) ∧ kn = .int .i64 3 ∧ val rs = 10))) (fun _ _ i _ => (intOf i + 1).toNat)
  case atStart => exact ⟨_, 1, [1], rfl, hrd, by simp, by unfold maxLen; omega, Nrm.one (by omega), by simp, (Ext.refl w).alloc _, .inl ⟨rfl, rfl, val_one 1⟩⟩
  case round =>
    obtain ⟨A1, c1, rs, rfl, hr, hc1, hm1, hnr, hl1, hext, hcase⟩ := hrel
    have hpos : 0 < rs.length := by
      rcases Nat.eq_zero_or_pos rs.length with h | h
      · have h0 : rs = [] := List.length_eq_zero_iff.1 h
        subst h0
        have : val [] = 0 := rfl
        omega
      · exact h
    rcases hcase with ⟨rfl, rfl, hv⟩ | ⟨rfl, rfl, hv⟩ | ⟨rfl, rfl, hv⟩
    · replace hv := Lib.hid hv
      go_wp2_with (first | (go_at_call 68; refine (int_shiftRight (k := 6) (xs := [99]) (n := 1) rfl (hx.ext hext) hc hcm (by omega) (by omega)).mono ?_; rintro e w2 ⟨A2, c2, s2, rfl, ho2, hc2, hm2, ⟨hv2, hn2, hl2⟩, hxt2⟩; replace hv2 := Lib.hid hv2) | (go_at_call 30; refine (divide_two _ _ _ _ _ _ _ _ _ rfl rfl ho2.rd (hr.ext hxt2) hc2 hm2 hc1 hm1 hn2 hnr hpos (by omega) (by omega)).mono ?_; rintro e w3 ⟨A3, c3, q3, A4, c4, r4, rfl, ho3, ho4, hc3, hm3, hc4, hm4, ⟨hv3, hv4, hn3, hn4, hl3, hl4⟩, hxt3⟩; replace hv3 := Lib.hid hv3; replace hv4 := Lib.hid hv4) | (go_at_call 69; refine (int_shiftLeft (k := 0) rfl (hr.ext (hxt2.trans hxt3)) (by omega) (by omega)).mono ?_; rintro e w4 ⟨A5, c5, s5, rfl, ho5, hc5, hm5, ⟨hv5, hn5, hl5⟩, hxt5⟩; replace hv5 := Lib.hid hv5) | (go_at_call 31; refine (int_add rfl rfl ho5.rd (ho3.rd.ext hxt5) (by omega) (by omega)).mono ?_; rintro e w5 ⟨A6, c6, s6, rfl, ho6, hc6, hm6, ⟨hv6, hn6, hl6⟩, hxt6⟩; replace hv6 := Lib.hid hv6))
      go_roundw
      case rel =>
        have e2 := hv2.out
        have e3 := hv3.out
        have e5 := hv5.out
        have e6 := hv6.out
        rw [e2, hv.out, val_one] at e3
        rw [hv.out] at e5
        rw [e3, e5] at e6
        refine ⟨A6, c6, s6, rfl, ho6.rd, hc6, hm6, hn6, ?_, hext.trans (hxt2.trans (hxt3.trans (hxt5.trans hxt6))), ?_⟩
        · exact nrm_small ho6.rd.1 hn6 (by rw [e6]; decide)
        · exact .inr (.inl ⟨rfl, rfl, e6⟩)
      case measure => simp [intOf]
    · replace hv := Lib.hid hv
      go_wp2_with (first | (go_at_call 68; refine (int_shiftRight (k := 3) (xs := [99]) (n := 1) rfl (hx.ext hext) hc hcm (by omega) (by omega)).mono ?_; rintro e w2 ⟨A2, c2, s2, rfl, ho2, hc2, hm2, ⟨hv2, hn2, hl2⟩, hxt2⟩; replace hv2 := Lib.hid hv2) | (go_at_call 30; refine (divide_two _ _ _ _ _ _ _ _ _ rfl rfl ho2.rd (hr.ext hxt2) hc2 hm2 hc1 hm1 hn2 hnr hpos (by omega) (by omega)).mono ?_; rintro e w3 ⟨A3, c3, q3, A4, c4, r4, rfl, ho3, ho4, hc3, hm3, hc4, hm4, ⟨hv3, hv4, hn3, hn4, hl3, hl4⟩, hxt3⟩; replace hv3 := Lib.hid hv3; replace hv4 := Lib.hid hv4) | (go_at_call 69; refine (int_shiftLeft (k := 1) rfl (hr.ext (hxt2.trans hxt3)) (by omega) (by omega)).mono ?_; rintro e w4 ⟨A5, c5, s5, rfl, ho5, hc5, hm5, ⟨hv5, hn5, hl5⟩, hxt5⟩; replace hv5 := Lib.hid hv5) | (go_at_call 31; refine (int_add rfl rfl ho5.rd (ho3.rd.ext hxt5) (by omega) (by omega)).mono ?_; rintro e w5 ⟨A6, c6, s6, rfl, ho6, hc6, hm6, ⟨hv6, hn6, hl6⟩, hxt6⟩; replace hv6 := Lib.hid hv6))
      go_roundw
      case rel =>
        have e2 := hv2.out
        have e3 := hv3.out
        have e5 := hv5.out
        have e6 := hv6.out
        rw [e2, hv.out, val_one] at e3
        rw [hv.out] at e5
        rw [e3, e5] at e6
        refine ⟨A6, c6, s6, rfl, ho6.rd, hc6, hm6, hn6, ?_, hext.trans (hxt2.trans (hxt3.trans (hxt5.trans hxt6))), ?_⟩
        · exact nrm_small ho6.rd.1 hn6 (by rw [e6]; decide)
        · exact .inr (.inr ⟨rfl, rfl, e6⟩)
      case measure => simp [intOf]
    · replace hv := Lib.hid hv
      have hcmp : ∀ us : List Nat, val us = 100 → W32 us → Nrm us → cmpL us [99] = 1 := fun us h1 h2 h3 => by
        rw [cmpL_nrm h2 (W32.one (by omega)) h3 (Nrm.one (by omega)), h1, val_one]
        rfl
      go_wp2_with (first | (go_at_call 61; refine (int_multiply_s rfl rfl hr hr (by omega) (by omega)).mono ?_; rintro e w2 ⟨A2, c2, s2, rfl, ho2, hc2, hm2, ⟨hv2, hn2, hl2⟩, hxt2⟩; replace hv2 := Lib.hid hv2) | (go_at_call 43; refine (int_compare A2 A c2 c s2 [99] _ ho2.rd (hx.ext (hext.trans hxt2)) (by omega) (by simp [maxLen])).mono ?_; rintro e w3 ⟨rfl, hxt3⟩; rw [hcmp s2 (by rw [hv2.out, hv.out]) ho2.rd.1 hn2]))
      have hnew3 := BlkN.lit w3 [1] #[.int .u32 1] rfl
      have hext3 := (hext.trans (hxt2.trans hxt3)).alloc (.cells #[.int .u32 1] 43)
      refine (int_subtract (xs := rs) (ys := [1]) rfl rfl (hr.ext ((hxt2.trans hxt3).alloc _)) (hnew3.rd0 (W32.one (by omega))) hpos (by rw [hv.out, val_one]; omega) (by omega)).mono ?_
      rintro e w4 ⟨A4, c4, s4, rfl, ho4, hc4, hm4, ⟨hv4, hn4, hl4⟩, hxt4⟩
      replace hv4 := Lib.hid hv4
      go_wp2_with fail
      go_ret
      exact ⟨A4, c4, s4, rfl, ho4.mono hext3.size, hc4, hm4, ⟨by rw [hv4.out, hv.out, val_one], hn4, by omega⟩, hext3.trans hxt4⟩
set_option maxHeartbeats 4000000 in
theorem Sqrt_99 (hx : Rd w A xs) (hv : val xs = 99) (hnr : Nrm xs) (hn : xs.length = n) (hc : n ≤ c) (hcm : c ≤ maxLen) (h1 : n ≤ 1000) :
    Calls Tryd.prog 21 #[.agg #[.bool false, .slice A n c]] w (RetIE 9 1 0 w) := by
  obtain rfl : xs = [99] := nrm_inj hx.1 (W32.one (by omega)) hnr (Nrm.one (by omega)) (by rw [hv, val_one])
  obtain rfl : 1 = n := hn
  have hsg : (ival false [99]).sign = 1 := by decide
  have htr : (trimL [99]).length = 1 := by decide
  clear hv hnr
  go_enter Tryd.func21, Tryd.ntmps21
  go_upto_region 1 with (fail)
  obtain ⟨W, hW, extW, bx, bz, hz⟩ := box2 w 24 24 #[.bool false, .slice A 1 c] #[.bool false, .slice none 0 0]
  rw [← hW]
  clear hW
  have x0 := bx.cell 0 (.bool false) rfl
  have x1 := bx.cell 1 (.slice A 1 c) rfl
  go_wp2_with fail
  refine (int_Sign (xs := [99]) (n := 1) rfl (hx.ext extW) hc hcm (by omega)).mono ?_
  rintro e w1 ⟨rfl, ext1⟩
  rw [hsg]
  replace bx := bx.ext ext1
  replace bz := bz.ext ext1
  replace extW := extW.trans ext1
  have x1 := bx.cell 1 (.slice A 1 c) rfl
  go_wp2_with fail
  refine (int_trimN (xs := [99]) rfl (hx.ext extW) hc hcm).mono ?_
  rintro e w2 ⟨rfl, rfl⟩
  rw [htr]
  go_wp2_with fail
  refine (squareRoot_99 (hx.ext extW) hc hcm).mono ?_
  rintro e w2 ⟨A2, c2, zs, rfl, ho2, hc2, hm2, ⟨hv2, hn2, hl2⟩, hext2⟩
  have Hv2 := Lib.hid hv2
  clear hv2
  go_wp2_with fail
  refine (int_signed rfl ho2.rd hc2 hm2 hn2).mono ?_
  rintro e w3 ⟨b3, A3, c3, rs, rfl, hr3, hc3, hm3, hi3, hl3, hext3⟩
  have ext3 := hext2.trans hext3
  have bz3 := bz.ext ext3
  have z0 := bz3.cell 0 (.bool false) rfl
  have z1 := bz3.cell 1 (.slice none 0 0) rfl
  have f0 := bz3.frozen 0
  have f1 := bz3.frozen 1
  go_wp2_with fail
  obtain ⟨r1, r2, r3, r4⟩ := fin_pair (b := b3) (n := rs.length) (c := c3) (extW.trans ext3) (by omega) bz3 hr3
  refine bodyPost_ret (v := .tuple #[.agg #[.bool b3, .slice A3 rs.length c3], .int .i64 0]) (by simp [results, Tryd.results21, go_sem, r3, r4]) rfl ⟨b3, A3, c3, rs, rfl, r1, hc3, hm3, ?_, by omega, r2⟩
  have e9 : ival false zs = 9 := by simp [ival, Hv2.out]
  rwa [e9] at hi3
end
end Go.Proofs.YtmjmcinnbmjpdaaDoor
namespace Go.Proofs.YtmjmcinnbmjpdaaDoor
open Go.RowKit
/-- the number of binary digits of a list of words without zeros at the end. -/
def bitsN (xs : List Nat) : Nat := if h : 0 < xs.length then 32 * (xs.length - 1) + Lib.bitLen (xs[xs.length - 1]'(by omega)) else 0
theorem bitLen_zero : Lib.bitLen 0 = 0 := by decide
section
variable {A B : Option Addr} {c d n m : Nat} {xs ys : List Nat} {w : World} {s t : Bool}
theorem int_bits (hn : xs.length = n) (hx : Rd w A xs) (h1 : n ≤ 100000) :
    Calls Tryd.prog 67 #[.slice A n c] w fun e w' => e = .returned (.int .i64 (bitsN xs : Nat)) ∧ w = w' := int_binaryDigits hn hx h1
set_option maxHeartbeats 1000000 in
theorem ref_length (hn : xs.length = n) (hx : Rd w A xs) (h1 : n ≤ 100000) :
    Calls Tryd.prog 51 #[.slice A n c] w fun e w' => e = .returned (.int .i64 (bitsN xs : Nat)) ∧ w = w' := by
  by_cases h : 0 < xs.length
  · have hb : bitsN xs = 32 * (xs.length - 1) + Lib.bitLen (xs[xs.length - 1]'(by omega)) := by unfold bitsN; rw [dif_pos h]
    obtain ⟨b1, off', rfl, hb1, hc1⟩ := hx.at_ (i := xs.length - 1) (by omega)
    have hxk := hx.1.get (k := xs.length - 1) (by omega)
    subst hn
    have hle : Lib.bitLen xs[xs.length - 1] ≤ 32 := Lib.bitLen_le _ 32 (by omega) (by omega)
    generalize xs[xs.length - 1] = X at *
    have Hb := Lib.hid hb
    clear hb
    have hpos : ¬ xs.length = 0 := by omega
    go_enter Tryd.func51, Tryd.ntmps51
    go_wp2
    go_loopw [3, 4] (fun a x wr => ∃ p q : Nat, a = .int .i64 (p : Int) ∧ x = .int .u32 (q : Int) ∧ p + Lib.bitLen q = Lib.bitLen X ∧ q < 4294967296 ∧ wr = w) (fun _ x _ => (intOf x).toNat)
    case atStart => exact ⟨0, X, rfl, rfl, by omega, hxk, rfl⟩
    case round =>
      obtain ⟨p, q, rfl, rfl, hpq, hq, rfl⟩ := hrel
      by_cases hq0 : q = 0
      · subst hq0
        rw [bitLen_zero] at hpq
        go_wp2
        go_ret
        exact ⟨ret_int (by rw [Hb.out]; omega), rfl⟩
      · have hh := Lib.bitLen_half q hq0 (by omega)
        have hqp : (0 : Int) < (q : Int) := by omega
        have hp32 : p < 32 := by omega
        go_wp2
        go_roundw
        case rel => exact ⟨p + 1, q / 2, by go_num, by go_num, by omega, by omega, trivial⟩
        case measure => simp [intOf]; omega
  · have h0 : xs.length = 0 := by omega
    have hb : bitsN xs = 0 := by unfold bitsN; rw [dif_neg h]
    subst hn
    have Hb := Lib.hid hb
    clear hb
    go_enter Tryd.func51, Tryd.ntmps51
    go_wp2_with fail
    go_ret
    exact ⟨ret_int (by rw [Hb.out]; rfl), rfl⟩
end
end Go.Proofs.YtmjmcinnbmjpdaaDoor
