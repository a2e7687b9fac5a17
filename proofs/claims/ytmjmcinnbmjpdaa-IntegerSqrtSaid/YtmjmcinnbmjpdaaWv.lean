/- Walks: the square root of 99. -/
import Derived.Test.YtmjmcinnbmjpdaaWu
import Derived.Test.YtmjmcinnbmjpdaaWp
import Derived.Test.YtmjmcinnbmjpdaaWk
namespace Go.Proofs.Ytmjmcinnbmjpdaa
open Go.RowKit
theorem nrm_small {zs : List Nat} (_hw : W32 zs) (hn : Nrm zs) (h : val zs ≤ 4294967295) : zs.length ≤ 1 :=
  nrm_len_le (xs := [4294967295]) (W32.one (by omega)) hn (by rw [val_one]; exact h)
section
variable {A B : Option Addr} {c d n m : Nat} {xs ys : List Nat} {w : World} {s t : Bool}
theorem bits_99 (hx : Rd w A [99]) : Calls Try.prog 52 #[.slice A 1 c] w fun e w' => e = .returned (.int .i64 7) ∧ w = w' := by
  have h := int_binaryDigits (c := c) (n := 1) rfl hx (by omega)
  exact h.mono fun e w' ⟨h1, h2⟩ => ⟨h1, h2⟩
theorem len_3 : Calls Try.prog 85 #[.int .u64 3] w fun e w' => e = .returned (.int .i64 2) ∧ w = w' :=
  (lenU 3 w (by omega) (by omega)).mono fun e w' ⟨h1, h2⟩ => ⟨h1, h2⟩
set_option maxHeartbeats 4000000 in
theorem squareRoot_99 (hx : Rd w A [99]) (hc : 1 ≤ c) (hcm : c ≤ maxLen) :
    Calls Try.prog 68 #[.slice A 1 c] w (RetN (fun zs => val zs = 9 ∧ Nrm zs ∧ zs.length ≤ 1) w) := by
  go_enter Try.func68, Try.ntmps68
  have hnew := BlkN.lit w [1] #[.int .u32 1] rfl
  have hrd := hnew.rd0 (W32.one (by omega))
  go_wp2_with (first | (go_at_call 52; refine (bits_99 hx).mono ?_; rintro e w2 ⟨rfl, rfl⟩) | (go_at_call 85; refine len_3.mono ?_; rintro e w2 ⟨rfl, rfl⟩))
  go_loopw [4, 5, 6] (fun r kn i wr => ∃ (A1 : Option Addr) (c1 : Nat) (rs : List Nat), r = .slice A1 rs.length c1 ∧ Rd wr A1 rs ∧ rs.length ≤ c1 ∧ c1 ≤ maxLen ∧ Nrm rs ∧ rs.length ≤ 1 ∧ Ext w wr ∧ ((i = .int .i64 1 ∧ kn = .int .i64 0 ∧ val rs = 1) ∨ (i = .int .i64 0 ∧ kn = .int .i64 1 ∧ val rs = 2) ∨ (i = .int .i64 (-1) ∧ kn = .int .i64 3 ∧ val rs = 10))) (fun _ _ i _ => (intOf i + 1).toNat)
  case atStart => exact ⟨_, 1, [1], rfl, hrd, by simp, by unfold maxLen; omega, Nrm.one (by omega), by simp, (Ext.refl w).alloc _, .inl ⟨rfl, rfl, val_one 1⟩⟩
  case round =>
    obtain ⟨A1, c1, rs, rfl, hr, hc1, hm1, hnr, hl1, hext, hcase⟩ := hrel
    have hpos : 0 < rs.length := by
      rcases Nat.eq_zero_or_pos rs.length with h | h
      · have h0 : rs = [] := List.length_eq_zero_iff.1 h
        subst h0
        have : val [] = 0 := rfl
        omega
      · exact h
    rcases hcase with ⟨rfl, rfl, hv⟩ | ⟨rfl, rfl, hv⟩ | ⟨rfl, rfl, hv⟩
    · replace hv := Lib.hid hv
      go_wp2_with (first | (go_at_call 86; refine (int_shiftRight (k := 6) (xs := [99]) (n := 1) rfl (hx.ext hext) hc hcm (by omega) (by omega)).mono ?_; rintro e w2 ⟨A2, c2, s2, rfl, ho2, hc2, hm2, ⟨hv2, hn2, hl2⟩, hxt2⟩; replace hv2 := Lib.hid hv2) | (go_at_call 64; refine (divide_two _ _ _ _ _ _ _ _ _ rfl rfl ho2.rd (hr.ext hxt2) hc2 hm2 hc1 hm1 hn2 hnr hpos (by omega) (by omega)).mono ?_; rintro e w3 ⟨A3, c3, q3, A4, c4, r4, rfl, ho3, ho4, hc3, hm3, hc4, hm4, ⟨hv3, hv4, hn3, hn4, hl3, hl4⟩, hxt3⟩; replace hv3 := Lib.hid hv3; replace hv4 := Lib.hid hv4) | (go_at_call 87; refine (int_shiftLeft (k := 0) rfl (hr.ext (hxt2.trans hxt3)) (by omega) (by omega)).mono ?_; rintro e w4 ⟨A5, c5, s5, rfl, ho5, hc5, hm5, ⟨hv5, hn5, hl5⟩, hxt5⟩; replace hv5 := Lib.hid hv5) | (go_at_call 56; refine (int_add rfl rfl ho5.rd (ho3.rd.ext hxt5) (by omega) (by omega)).mono ?_; rintro e w5 ⟨A6, c6, s6, rfl, ho6, hc6, hm6, ⟨hv6, hn6, hl6⟩, hxt6⟩; replace hv6 := Lib.hid hv6))
      go_roundw
      case rel =>
        have e2 := hv2.out
        have e3 := hv3.out
        have e5 := hv5.out
        have e6 := hv6.out
        rw [e2, hv.out, val_one] at e3
        rw [hv.out] at e5
        rw [e3, e5] at e6
        refine ⟨A6, c6, s6, rfl, ho6.rd, hc6, hm6, hn6, ?_, hext.trans (hxt2.trans (hxt3.trans (hxt5.trans hxt6))), ?_⟩
        · exact nrm_small ho6.rd.1 hn6 (by rw [e6]; decide)
        · exact .inr (.inl ⟨rfl, rfl, e6⟩)
      case measure => simp [intOf]
    · replace hv := Lib.hid hv
      go_wp2_with (first | (go_at_call 86; refine (int_shiftRight (k := 3) (xs := [99]) (n := 1) rfl (hx.ext hext) hc hcm (by omega) (by omega)).mono ?_; rintro e w2 ⟨A2, c2, s2, rfl, ho2, hc2, hm2, ⟨hv2, hn2, hl2⟩, hxt2⟩; replace hv2 := Lib.hid hv2) | (go_at_call 64; refine (divide_two _ _ _ _ _ _ _ _ _ rfl rfl ho2.rd (hr.ext hxt2) hc2 hm2 hc1 hm1 hn2 hnr hpos (by omega) (by omega)).mono ?_; rintro e w3 ⟨A3, c3, q3, A4, c4, r4, rfl, ho3, ho4, hc3, hm3, hc4, hm4, ⟨hv3, hv4, hn3, hn4, hl3, hl4⟩, hxt3⟩; replace hv3 := Lib.hid hv3; replace hv4 := Lib.hid hv4) | (go_at_call 87; refine (int_shiftLeft (k := 1) rfl (hr.ext (hxt2.trans hxt3)) (by omega) (by omega)).mono ?_; rintro e w4 ⟨A5, c5, s5, rfl, ho5, hc5, hm5, ⟨hv5, hn5, hl5⟩, hxt5⟩; replace hv5 := Lib.hid hv5) | (go_at_call 56; refine (int_add rfl rfl ho5.rd (ho3.rd.ext hxt5) (by omega) (by omega)).mono ?_; rintro e w5 ⟨A6, c6, s6, rfl, ho6, hc6, hm6, ⟨hv6, hn6, hl6⟩, hxt6⟩; replace hv6 := Lib.hid hv6))
      go_roundw
      case rel =>
        have e2 := hv2.out
        have e3 := hv3.out
        have e5 := hv5.out
        have e6 := hv6.out
        rw [e2, hv.out, val_one] at e3
        rw [hv.out] at e5
        rw [e3, e5] at e6
        refine ⟨A6, c6, s6, rfl, ho6.rd, hc6, hm6, hn6, ?_, hext.trans (hxt2.trans (hxt3.trans (hxt5.trans hxt6))), ?_⟩
        · exact nrm_small ho6.rd.1 hn6 (by rw [e6]; decide)
        · exact .inr (.inr ⟨rfl, rfl, e6⟩)
      case measure => simp [intOf]
    · replace hv := Lib.hid hv
      have hcmp : ∀ us : List Nat, val us = 100 → W32 us → Nrm us → cmpL us [99] = 1 := fun us h1 h2 h3 => by
        rw [cmpL_nrm h2 (W32.one (by omega)) h3 (Nrm.one (by omega)), h1, val_one]
        rfl
      go_wp2_with (first | (go_at_call 62; refine (int_multiply_s rfl rfl hr hr (by omega) (by omega)).mono ?_; rintro e w2 ⟨A2, c2, s2, rfl, ho2, hc2, hm2, ⟨hv2, hn2, hl2⟩, hxt2⟩; replace hv2 := Lib.hid hv2) | (go_at_call 57; refine (int_compare A2 A c2 c s2 [99] _ ho2.rd (hx.ext (hext.trans hxt2)) (by omega) (by simp [maxLen])).mono ?_; rintro e w3 ⟨rfl, hxt3⟩; rw [hcmp s2 (by rw [hv2.out, hv.out]) ho2.rd.1 hn2]))
      have hnew3 := BlkN.lit w3 [1] #[.int .u32 1] rfl
      have hext3 := (hext.trans (hxt2.trans hxt3)).alloc (.cells #[.int .u32 1] 46)
      refine (int_subtract (xs := rs) (ys := [1]) rfl rfl (hr.ext ((hxt2.trans hxt3).alloc _)) (hnew3.rd0 (W32.one (by omega))) hpos (by rw [hv.out, val_one]; omega) (by omega)).mono ?_
      rintro e w4 ⟨A4, c4, s4, rfl, ho4, hc4, hm4, ⟨hv4, hn4, hl4⟩, hxt4⟩
      replace hv4 := Lib.hid hv4
      go_wp2_with fail
      go_ret
      exact ⟨A4, c4, s4, rfl, ho4.mono hext3.size, hc4, hm4, ⟨by rw [hv4.out, hv.out, val_one], hn4, by omega⟩, hext3.trans hxt4⟩
set_option maxHeartbeats 4000000 in
theorem Sqrt_99 (hx : Rd w A xs) (hv : val xs = 99) (hnr : Nrm xs) (hn : xs.length = n) (hc : n ≤ c) (hcm : c ≤ maxLen) (h1 : n ≤ 1000) :
    Calls Try.prog 40 #[.agg #[.bool false, .slice A n c]] w (RetIE 9 1 0 w) := by
  obtain rfl : xs = [99] := nrm_inj hx.1 (W32.one (by omega)) hnr (Nrm.one (by omega)) (by rw [hv, val_one])
  obtain rfl : 1 = n := hn
  have hsg : (ival false [99]).sign = 1 := by decide
  have htr : (trimL [99]).length = 1 := by decide
  clear hv hnr
  go_enter Try.func40, Try.ntmps40
  go_upto_region 1 with (fail)
  obtain ⟨W, hW, extW, bx, bz, hz⟩ := box2 w 24 24 #[.bool false, .slice A 1 c] #[.bool false, .slice none 0 0]
  rw [← hW]
  clear hW
  have x0 := bx.cell 0 (.bool false) rfl
  have x1 := bx.cell 1 (.slice A 1 c) rfl
  go_wp2_with fail
  refine (int_Sign (xs := [99]) (n := 1) rfl (hx.ext extW) hc hcm (by omega)).mono ?_
  rintro e w1 ⟨rfl, ext1⟩
  rw [hsg]
  replace bx := bx.ext ext1
  replace bz := bz.ext ext1
  replace extW := extW.trans ext1
  have x1 := bx.cell 1 (.slice A 1 c) rfl
  go_wp2_with fail
  refine (int_trimN (xs := [99]) rfl (hx.ext extW) hc hcm).mono ?_
  rintro e w2 ⟨rfl, rfl⟩
  rw [htr]
  go_wp2_with fail
  refine (squareRoot_99 (hx.ext extW) hc hcm).mono ?_
  rintro e w2 ⟨A2, c2, zs, rfl, ho2, hc2, hm2, ⟨hv2, hn2, hl2⟩, hext2⟩
  have Hv2 := Lib.hid hv2
  clear hv2
  go_wp2_with fail
  refine (int_signed rfl ho2.rd hc2 hm2 hn2).mono ?_
  rintro e w3 ⟨b3, A3, c3, rs, rfl, hr3, hc3, hm3, hi3, hl3, hext3⟩
  have ext3 := hext2.trans hext3
  have bz3 := bz.ext ext3
  have z0 := bz3.cell 0 (.bool false) rfl
  have z1 := bz3.cell 1 (.slice none 0 0) rfl
  have f0 := bz3.frozen 0
  have f1 := bz3.frozen 1
  go_wp2_with fail
  obtain ⟨r1, r2, r3, r4⟩ := fin_pair (b := b3) (n := rs.length) (c := c3) (extW.trans ext3) (by omega) bz3 hr3
  refine bodyPost_ret (v := .tuple #[.agg #[.bool b3, .slice A3 rs.length c3], .int .i64 0]) (by simp [results, Try.results40, go_sem, r3, r4]) rfl ⟨b3, A3, c3, rs, rfl, r1, hc3, hm3, ?_, by omega, r2⟩
  have e9 : ival false zs = 9 := by simp [ival, Hv2.out]
  rwa [e9] at hi3
end
end Go.Proofs.Ytmjmcinnbmjpdaa
