/- Walks: the square root of any list of words. -/
import Derived.Test.YtmjmcinnbmjpdaaVr
namespace Go.Proofs.Ytmjmcinnbmjpdaa
open Go.RowKit
theorem bitLen_L {L : Nat} (h : L < 9223372036854775808) : (L ≠ 0 → 2 ^ (Lib.bitLen L - 1) ≤ L) ∧ L / 2 ^ Lib.bitLen L = 0 ∧ Lib.bitLen L ≤ 64 ∧ (L = 0 → Lib.bitLen L = 0) := by
  refine ⟨fun h0 => (Lib.bitLenAux_bounds 64 L (by omega) h0).2.1, ?_, Lib.bitLen_le L 64 (by omega) (by omega), fun h0 => by rw [h0]; exact bitLen_zero⟩
  by_cases h0 : L = 0
  · subst h0; simp
  · exact Nat.div_eq_of_lt (Lib.bitLenAux_bounds 64 L (by omega) h0).2.2
section
variable {A B : Option Addr} {c d n m : Nat} {xs ys : List Nat} {w : World} {s t : Bool}
set_option maxRecDepth 100000 in
set_option maxHeartbeats 8000000 in
theorem int_squareRoot (hn : xs.length = n) (hx : Rd w A xs) (hnx : Nrm xs) (hc : n ≤ c) (hcm : c ≤ maxLen) (h1 : n ≤ 50) :
    Calls Try.prog 68 #[.slice A n c] w (RetN (fun zs => val zs * val zs ≤ val xs ∧ val xs < (val zs + 1) * (val zs + 1) ∧ Nrm zs ∧ zs.length ≤ n + 1) w) := by
  rcases Nat.eq_zero_or_pos n with h0 | hpos
  · obtain rfl : xs = [] := List.length_eq_zero_iff.1 (by omega)
    subst h0
    go_enter Try.func68, Try.ntmps68
    go_wp2_with fail
    go_ret
    exact ⟨none, 0, [], rfl, ⟨W32.nil, .inl rfl⟩, by simp, by unfold maxLen; omega, ⟨by simp [val], by simp [val], Nrm.nil, by simp⟩, Ext.refl _⟩
  · obtain ⟨b1, b2, b3, b4⟩ := bitsN_spec hx.1 hnx (by omega)
    obtain ⟨hge, hI0⟩ := root_start b1 b2 b3
    have hbits := int_bits hn hx (c := c) (by omega)
    generalize bitsN xs = b at *
    have hvlt := val_lt hx.1
    rw [hn] at hvlt
    have hbl : b ≤ 1600 := by omega
    generalize hLL : (b - 1) / 2 = L at *
    have hL : L ≤ 800 := by omega
    obtain ⟨l1, l2, l3, l4⟩ := bitLen_L (L := L) (by omega)
    have hLen : ∀ W : World, Calls Try.prog 85 #[.int .u64 (L : Int)] W fun e w' => e = .returned (.int .i64 ((Lib.bitLen L : Nat) : Int)) ∧ W = w' := fun W =>
      (lenU (L : Int) W (by omega) (by omega)).mono fun e w' ⟨h1, h2⟩ => ⟨by rw [h1]; simp, h2⟩
    generalize Lib.bitLen L = K at *
    have hq : (((b : Int) - 1) / 2) = (L : Int) := by omega
    have Hbits := Lib.hid hbits
    have HLen := Lib.hid hLen
    have Hl1 := Lib.hid l1
    have Hl2 := Lib.hid l2
    have Hge := Lib.hid hge
    have HI0 := Lib.hid hI0
    have Hvlt := Lib.hid hvlt
    have Hn := Lib.hid hn
    clear hbits hLen l1 l2 hge hI0 hvlt b2 b3 hn hLL
    have hnew := BlkN.lit w [1] #[.int .u32 1] rfl
    have hne : ¬ n = 0 := by omega
    go_enter Try.func68, Try.ntmps68
    go_wp2_with (first | (go_at_call 52; refine Hbits.out.mono ?_; rintro e w2 ⟨rfl, rfl⟩) | (go_at_call 85; refine (HLen.out _).mono ?_; rintro e w2 ⟨rfl, rfl⟩))
    go_loopw [4, 5, 6] (fun r kn i wr => ∃ (k : Nat) (A1 : Option Addr) (c1 : Nat) (rs : List Nat), k ≤ K ∧ i = .int .i64 ((k : Int) - 1) ∧ kn = .int .i64 ((L / 2 ^ k : Nat) : Int) ∧ r = .slice A1 rs.length c1 ∧ SqInv (val xs) L (L / 2 ^ k) (val rs) ∧ Own wr w.heap.size A1 rs ∧ rs.length ≤ c1 ∧ c1 ≤ maxLen ∧ Nrm rs ∧ Ext w wr) (fun _ _ i _ => (intOf i + 1).toNat)
    case atStart => exact ⟨K, _, 1, [1], Nat.le_refl _, rfl, by rw [Hl2.out]; rfl, rfl, by rw [Hl2.out, val_one]; exact HI0.out, Own.of_blk hnew (W32.one (by omega)) (Nat.le_refl _), by simp, by unfold maxLen; omega, Nrm.one (by omega), (Ext.refl w).alloc _⟩
    case round =>
      obtain ⟨k, A1, c1, rs, hk, rfl, rfl, rfl, hI, ho1, hc1, hm1, hnr, hext⟩ := hrel
      have hlen := root_len hI Hvlt.out hnr
      have hrpos : 0 < rs.length := by
        rcases Nat.eq_zero_or_pos rs.length with h | h
        · have h0 : rs = [] := List.length_eq_zero_iff.1 h
          subst h0
          have h2 := hI.ge
          have := Nat.two_pow_pos (L / 2 ^ k)
          simp [val] at h2
        · exact h
      rcases k with _ | j
      · rw [show (((0 : Nat) : Int) - 1) = -1 from rfl]
        rw [Nat.pow_zero, Nat.div_one] at hI
        obtain ⟨f1, f2, f3⟩ := hI.done
        have hcmp := fun (A2 : Option Addr) (c2 : Nat) (us : List Nat) (W : World) (h1 : Rd W A2 us) (h2 : Rd W A xs) (h3 : us.length ≤ 1000) => int_compare A2 A c2 c us xs W h1 h2 (by unfold maxLen; omega) (by have := Hn.out; unfold maxLen; omega)
        rw [Hn.out] at hcmp
        have Hcmp := Lib.hid hcmp
        have Hf := Lib.hid (And.intro f1 (And.intro f2 f3))
        clear hcmp hI f1 f2 f3
        go_wp2_with (go_at_call 62; refine (int_multiply_s rfl rfl ho1.rd ho1.rd (by omega) (by omega)).mono ?_; rintro e w2 ⟨A2, c2, s2, rfl, ho2, hc2, hm2, ⟨hv2, hn2, hl2⟩, hxt2⟩; replace hv2 := Lib.hid hv2)
        refine (Hcmp.out A2 c2 s2 _ ho2.rd (hx.ext (hext.trans hxt2)) (by omega)).mono ?_
        rintro e w3 ⟨rfl, hxt3⟩
        obtain ⟨f1, f2, f3⟩ := Hf.out
        rcases Nat.lt_trichotomy (val rs * val rs) (val xs) with hgt | hgt | hgt
        · have hcv : cmpL s2 xs = -1 := by
            rw [cmpL_nrm ho2.rd.1 hx.1 hn2 hnx, hv2.out]
            exact cmpI_of_lt hgt
          rw [hcv]
          clear hcv
          go_wp2_with fail
          go_ret
          exact ⟨A1, c1, rs, rfl, ho1.ext (hxt2.trans hxt3), hc1, hm1, ⟨by omega, f3, hnr, hlen⟩, hext.trans (hxt2.trans hxt3)⟩
        · have hcv : cmpL s2 xs = 0 := by
            rw [cmpL_nrm ho2.rd.1 hx.1 hn2 hnx, hv2.out]
            exact cmpI_of_eq hgt
          rw [hcv]
          clear hcv
          go_wp2_with fail
          go_ret
          exact ⟨A1, c1, rs, rfl, ho1.ext (hxt2.trans hxt3), hc1, hm1, ⟨by omega, f3, hnr, hlen⟩, hext.trans (hxt2.trans hxt3)⟩
        · have hcv : cmpL s2 xs = 1 := by
            rw [cmpL_nrm ho2.rd.1 hx.1 hn2 hnx, hv2.out]
            exact cmpI_of_gt hgt
          rw [hcv]
          clear hcv
          have hnew3 := BlkN.lit w3 [1] #[.int .u32 1] rfl
          have hext3 := (hext.trans (hxt2.trans hxt3)).alloc (.cells #[.int .u32 1] 46)
          go_wp2_with fail
          refine (int_subtract (xs := rs) (ys := [1]) rfl rfl (ho1.rd.ext ((hxt2.trans hxt3).alloc _)) (hnew3.rd0 (W32.one (by omega))) hrpos (by rw [val_one]; exact f1) (by omega)).mono ?_
          rintro e w4 ⟨A4, c4, s4, rfl, ho4, hc4, hm4, ⟨hv4, hn4, hl4⟩, hxt4⟩
          rw [val_one] at hv4
          replace hv4 := Lib.hid hv4
          go_wp2_with fail
          go_ret
          exact ⟨A4, c4, s4, rfl, ho4.mono hext3.size, hc4, hm4, ⟨by rw [hv4.out]; exact f2, by rw [hv4.out, Nat.sub_add_cancel f1]; exact hgt, hn4, by omega⟩, hext3.trans hxt4⟩
      · rw [show (((j + 1 : Nat) : Int) - 1) = (j : Int) by omega]
        have hL0 : L ≠ 0 := fun h => by have := l4 h; omega
        obtain ⟨k1, k2, k3⟩ := known_step Hl1.out hL0 (show j < K by omega)
        have hst := hI.step k1 k2 k3 Hge.out
        have hdq : (L : Int) / 2 ^ j = ((L / 2 ^ j : Nat) : Int) := by simp
        generalize L / 2 ^ (j + 1) = e at *
        generalize hd : L / 2 ^ j = d at *
        have Hst := Lib.hid hst
        have Hdq := Lib.hid hdq
        have Hd := Lib.hid hd
        clear hst hdq hd hI
        have hj64 : j < 64 := by omega
        go_upto_region 10 with fail
        rw [Hdq.out]
        go_wp2_with (first | (go_at_call 86; rw [show (2 * (L : Int) - (e : Int) - (d : Int) + 1) = ((2 * L - e - d + 1 : Nat) : Int) by omega]; refine (int_shiftRight (k := 2 * L - e - d + 1) Hn.out (hx.ext hext) hc hcm (by omega) (by omega)).mono ?_; rintro e2 w2 ⟨A2, c2, s2, rfl, ho2, hc2, hm2, ⟨hv2, hn2, hl2⟩, hxt2⟩; replace hv2 := Lib.hid hv2) | (go_at_call 64; refine (divide_ok _ _ _ _ _ _ _ _ _ rfl rfl ho2.rd (ho1.rd.ext hxt2) hc2 hm2 hc1 hm1 hn2 hnr hrpos (by omega) (by omega)).mono ?_; rintro e3 w3 ⟨A3, c3, q3, A4, c4, r4, rfl, ho3, ho4, hc3, hm3, hc4, hm4, ⟨hv3, hv4, hn3, hn4, hl3, hl4⟩, hxt3⟩; replace hv3 := Lib.hid hv3; replace hv4 := Lib.hid hv4) | (go_at_call 87; rw [show ((d : Int) - (e : Int) - 1) = ((d - e - 1 : Nat) : Int) by omega]; refine (int_shiftLeft (k := d - e - 1) rfl (ho1.rd.ext (hxt2.trans hxt3)) (by omega) (by omega)).mono ?_; rintro e4 w4 ⟨A5, c5, s5, rfl, ho5, hc5, hm5, ⟨hv5, hn5, hl5⟩, hxt5⟩; replace hv5 := Lib.hid hv5) | (go_at_call 56; refine (int_add rfl rfl ho5.rd (ho3.rd.ext hxt5) (by omega) (by omega)).mono ?_; rintro e5 w5 ⟨A6, c6, s6, rfl, ho6, hc6, hm6, ⟨hv6, hn6, hl6⟩, hxt6⟩; replace hv6 := Lib.hid hv6))
        go_roundw
        case rel =>
          have e6 := hv6.out
          rw [hv5.out, hv3.out, hv2.out] at e6
          exact ⟨j, A6, c6, s6, by omega, rfl, by rw [Hd.out], rfl, by rw [Hd.out, e6]; exact Hst.out, ho6.mono (hext.trans (hxt2.trans (hxt3.trans hxt5))).size, hc6, hm6, hn6, hext.trans (hxt2.trans (hxt3.trans (hxt5.trans hxt6)))⟩
        case measure => simp [intOf]
end
end Go.Proofs.Ytmjmcinnbmjpdaa
