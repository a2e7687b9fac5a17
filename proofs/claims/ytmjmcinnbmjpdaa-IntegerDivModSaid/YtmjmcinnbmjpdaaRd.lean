/- Walks: quotients of the reference. -/
import Derived.Test.YtmjmcinnbmjpdaaRc
import Derived.Test.YtmjmcinnbmjpdaaVi
namespace Go.Proofs.Ytmjmcinnbmjpdaa
open Go.RowKit
attribute [local go_sem ↓] Go.wp_at_zero Go.wp_at_succ
section
variable {A B : Option Addr} {c d n m : Nat} {xs ys : List Nat} {w : World} {s t : Bool}
set_option maxHeartbeats 1000000 in
theorem ref_divide_lt (hn : xs.length = n) (hm : ys.length = m) (hx : Rd w A xs) (hy : Rd w B ys) (hc : n ≤ c) (hcm : c ≤ maxLen) (hnx : Nrm xs) (hny : Nrm ys) (hlt : val xs < val ys) (h1 : n ≤ 100000) (h2 : m ≤ 100000) :
    Calls Try.prog 65 #[.slice A n c, .slice B m d] w (RetQ (val xs) (val ys) w) := by
  have hcm1 := Lib.hid (show cmpL xs ys = -1 by rw [cmpL_nrm hx.1 hy.1 hnx hny]; exact cmpI_of_lt hlt)
  have Hlt := Lib.hid hlt
  clear hlt
  subst hn
  subst hm
  go_enter Try.func65, Try.ntmps65
  go_wp2_with fail
  refine (ref_compare A B c d xs ys w hx hy (by unfold maxLen; omega) (by unfold maxLen; omega)).mono ?_
  rintro e w1 ⟨rfl, hext1⟩
  rw [hcm1.out]
  go_wp2_with fail
  go_ret2
  have h := Hlt.out
  exact ⟨none, 0, [], A, c, xs, rfl, Rd.nil _ _, hx.ext hext1, by simp, by unfold maxLen; omega, hc, hcm, by rw [Nat.div_eq_of_lt h]; rfl, by rw [Nat.mod_eq_of_lt h], Nrm.nil, hnx, hext1⟩
set_option maxRecDepth 100000 in
set_option maxHeartbeats 2000000 in
theorem ref_divide_two (hn : xs.length = n) (hm : ys.length = m) (hx : Rd w A xs) (hy : Rd w B ys) (hnx : Nrm xs) (hny : Nrm ys) (hge : val ys ≤ val xs) (h0 : 0 < m) (h2 : n ≤ 2) :
    Calls Try.prog 65 #[.slice A n c, .slice B m d] w (RetQ (val xs) (val ys) w) := by
  have hml := len_le hx.1 hny hge
  have hpos : val ys ≠ 0 := fun h => by
    have := hny.zero.1 h
    subst this
    simp at hm
    omega
  obtain ⟨CM, hCM, dCM⟩ : ∃ CM, cmpL xs ys = CM ∧ decide (CM < 0) = false := ⟨_, rfl, by
    rw [cmpL_nrm hx.1 hy.1 hnx hny]
    rcases Nat.lt_or_ge (val ys) (val xs) with h | h
    · rw [cmpI_of_gt h]; rfl
    · rw [cmpI_of_eq (by omega)]; rfl⟩
  have hvx := val_lt_two hx.1 (by omega)
  have hvy := val_lt_two hy.1 (by omega)
  have q1 : val xs / val ys ≤ val xs := Nat.div_le_self _ _
  have q2 : val xs % val ys < val ys := Nat.mod_lt _ (by omega)
  have e1 : val xs / val ys / 4294967296 < 4294967296 := by omega
  have e2 : val xs % val ys / 4294967296 < 4294967296 := by omega
  have Hvx := Lib.hid hvx
  have Hvy := Lib.hid hvy
  have Hq1 := Lib.hid q1
  have Hq2 := Lib.hid q2
  have E1 := Lib.hid e1
  have E2 := Lib.hid e2
  have HCM := Lib.hid hCM
  subst hn
  subst hm
  have Hml := Lib.hid hml
  have hz : ((val ys : Nat) : Int) ≠ 0 := by omega
  have hz0 : (((val ys : Nat) : Int) == 0) = false := by rw [beq_eq_false_iff_ne]; exact hz
  have hp1 : (1 : Int) ≤ ((val ys : Nat) : Int) := by omega
  clear hvx hvy q1 q2 e1 e2 hml hge hz hCM
  go_enter Try.func65, Try.ntmps65
  go_wp2_with fail
  refine (ref_compare A B c d xs ys w hx hy (by unfold maxLen; omega) (by have := Hml.out; unfold maxLen; omega)).mono ?_
  rintro e w1 ⟨rfl, hext1⟩
  rw [HCM.out]
  go_wp2_with fail
  refine (ref_short rfl (hx.ext hext1) h2).mono ?_
  rintro e w2 ⟨rfl, rfl⟩
  go_wp2_with fail
  refine (ref_short rfl (hy.ext hext1) (by have := Hml.out; omega)).mono ?_
  rintro e w2 ⟨rfl, rfl⟩
  clear hp1 hz0
  generalize hX : val xs = X at *
  generalize hY : val ys = Y at *
  have HX := Lib.hid hX
  have HY := Lib.hid hY
  clear hX hY
  have hz0 : ((Y : Int) == 0) = false := by rw [beq_eq_false_iff_ne]; omega
  have hp1 : (1 : Int) ≤ (Y : Int) := by omega
  have hp0 : (0 : Int) ≤ (X : Int) := by omega
  go_wp2_with fail
  have hq : (X : Int) / (Y : Int) = ((X / Y : Nat) : Int) := (Int.natCast_ediv _ _).symm
  have hr : (X : Int) % (Y : Int) = ((X % Y : Nat) : Int) := (Int.natCast_emod _ _).symm
  have hq' : (X : Int).tdiv (Y : Int) = ((X / Y : Nat) : Int) := rfl
  have hr' : (X : Int).tmod (Y : Int) = ((X % Y : Nat) : Int) := rfl
  have hw1 : IntKind.u64.wrap ((X / Y : Nat) : Int) = ((X / Y : Nat) : Int) := wrap_nat (Nat.lt_of_le_of_lt Hq1.out Hvx.out)
  have hw2 : IntKind.u64.wrap ((X % Y : Nat) : Int) = ((X % Y : Nat) : Int) := wrap_nat (Nat.lt_trans Hq2.out Hvy.out)
  generalize hU : X / Y = U at *
  generalize hV : X % Y = V at *
  have HU := Lib.hid hU
  have HV := Lib.hid hV
  clear hp0 hp1 hU hV
  go_region_with (first | (go_at_call_of 55 U; refine (ref_words U E1.out).mono ?_; rintro e w3 ⟨A3, c3, qs, rfl, ho3, hc3, hm3, ⟨hv3, hn3, hl3⟩, hext3⟩; have Hv3 := Lib.hid hv3; clear hv3) | (go_at_call_of 55 V; refine (ref_words V E2.out).mono ?_; rintro e w4 ⟨A4, c4, rs, rfl, ho4, hc4, hm4, ⟨hv4, hn4, hl4⟩, hext4⟩; have Hv4 := Lib.hid hv4; clear hv4))
  all_goals
    go_wp2_with fail
    go_ret2
    have ext3 := (Ext.refl w1).drew.trans hext3
    have e3 := Hv3.out
    have e4 := Hv4.out
    exact ⟨A3, c3, qs, A4, c4, rs, rfl, ho3.rd.ext hext4, ho4.rd, hc3, hm3, hc4, hm4, by rw [e3, HU.out], by rw [e4, HV.out], hn3, hn4, hext1.trans (ext3.trans hext4)⟩
set_option maxHeartbeats 2000000 in
theorem ref_divide_word {y : Nat} (hn : xs.length = n) (hx : Rd w A xs) (hy : Rd w B [y]) (hy0 : y ≠ 0) (h2 : 2 < n) (h1 : n ≤ 100000) :
    Calls Try.prog 65 #[.slice A n c, .slice B 1 d] w (RetQ (val xs) y w) := by
  have hcm1 := Lib.hid (show cmpL xs [y] = 1 from cmpL_len_gt (by simp; omega))
  have hyl := hy.1 y (by simp)
  have hr32 : val xs % y < 4294967296 := by
    have := Nat.mod_lt (val xs) (show 0 < y by omega)
    omega
  subst hn
  go_enter Try.func65, Try.ntmps65
  go_wp2_with fail
  refine (ref_compare A B c d xs [y] w hx hy (by unfold maxLen; omega) (by unfold maxLen; simp)).mono ?_
  rintro e w1 ⟨rfl, hext1⟩
  rw [hcm1.out]
  obtain ⟨b1, o1, rfl, hb1, cb⟩ := (hy.ext hext1).at_ (i := 0) (by simp)
  simp only [Nat.add_zero, List.getElem_cons_zero] at cb
  go_wp2_with fail
  refine (ref_by rfl (hx.ext hext1) (by omega) hyl (by omega)).mono ?_
  rintro e w3 ⟨A3, c3, qs, rfl, ho3, hc3, hm3, hqv, hqn, hql, hext3⟩
  have Hqv := Lib.hid hqv
  clear hqv cb
  go_wp2_with fail
  refine (ref_words (val xs % y) (by omega)).mono ?_
  rintro e w5 ⟨A5, c5, rs, rfl, ho5, hc5, hm5, ⟨hv5, hn5, hl5⟩, hext5⟩
  have Hv5 := Lib.hid hv5
  clear hv5
  go_wp2_with fail
  go_ret2
  exact ⟨A3, c3, qs, A5, c5, rs, rfl, ho3.rd.ext hext5, ho5.rd, hc3, hm3, hc5, hm5, Hqv.out, Hv5.out, hqn, hn5, hext1.trans (hext3.trans hext5)⟩
theorem ref_divide (hn : xs.length = n) (hm : ys.length = m) (hx : Rd w A xs) (hy : Rd w B ys) (hc : n ≤ c) (hcm : c ≤ maxLen) (hnx : Nrm xs) (hny : Nrm ys) (h0 : 0 < m) (h1 : n ≤ 9000) (h2 : m ≤ 9000) :
    Calls Try.prog 65 #[.slice A n c, .slice B m d] w (RetQ (val xs) (val ys) w) := by
  rcases Nat.lt_or_ge (val xs) (val ys) with h | h
  · exact ref_divide_lt hn hm hx hy hc hcm hnx hny h (by omega) (by omega)
  · rcases Nat.lt_or_ge 2 n with h3 | h3
    · rcases Nat.lt_or_ge 1 m with h4 | h4
      · exact ref_divideL hn hm hx hy hnx hny h (by omega) h3 h1
      · obtain rfl : m = 1 := by omega
        obtain ⟨y, rfl⟩ : ∃ y, ys = [y] := by
          match ys, hm with
          | [y], _ => exact ⟨y, rfl⟩
        have hy0 : y ≠ 0 := by
          rintro rfl
          have := hny.last (by simp)
          simp at this
        rw [val_one]
        exact ref_divide_word hn hx hy hy0 h3 (by omega)
    · exact ref_divide_two hn hm hx hy hnx hny h h0 h3
end
end Go.Proofs.Ytmjmcinnbmjpdaa
