/- The walk of the law IntegerPow. -/
import Derived.Test.YtmjmcinnbmjpdaaKp
import Derived.Test.YtmjmcinnbmjpdaaKb
import Derived.Test.YtmjmcinnbmjpdaaWn
namespace Go.Proofs.Ytmjmcinnbmjpdaa
open Go.RowKit
attribute [local go_sem ↓] Go.wp_at_zero Go.wp_at_succ
section
variable {A : Option Addr} {c n : Nat} {xs : List Nat} {w : World} {s : Bool}
set_option maxHeartbeats 4000000 in
theorem pow_yes {k : Nat} (hn : xs.length = n) (hx : Rd w A xs) (hc : n ≤ c) (hcm : c ≤ maxLen) (h4 : n ≤ 4) (hk : k ≤ 40) :
    Calls Try.prog 7 #[.agg #[.bool s, .slice A n c], .int .i64 (k : Int)] w fun e w' => e = .returned (.bool true) ∧ Ext w w' := by
  have hk4 : k * n ≤ 160 := Nat.mul_le_mul hk h4
  have t1 : decide ((4 : Int) < (n : Int)) = false := decide_eq_false (by omega)
  have t2 : decide ((40 : Int) < (k : Int)) = false := decide_eq_false (by omega)
  have hk5 : (n + 4) * k ≤ 320 := Nat.mul_le_mul (show n + 4 ≤ 8 by omega) hk
  have Hn := Lib.hid hn
  have HA := Lib.hid awake
  clear hn
  go_enter Try.func7, Try.ntmps7
  go_upto_region 1 with (fail)
  obtain ⟨W0, hW, extW, bx, hz⟩ := box1 w 24 #[.bool s, .slice A n c]
  rw [← hW]
  clear hW
  go_wp2_with fail
  refine (HA.out _).mono ?_
  rintro e W ⟨rfl, hxt⟩
  replace extW := extW.trans hxt
  replace bx := bx.ext hxt
  clear hxt hz
  replace hx := hx.ext extW
  have x0 := bx.cell 0 (.bool s) rfl
  have x1 := bx.cell 1 (.slice A n c) rfl
  go_wp2_with fail
  refine (law_cp Hn.out hx (by omega)).mono ?_
  rintro e w1 ⟨A1, c1, rfl, hr1, hc1, hm1, hx1⟩
  go_wp2_with fail
  refine (int_Pow (k := k) multiply_162 rfl hr1 hc1 hm1 (by omega) (by rw [Hn.out]; omega) (by have := Hn.out; omega)).mono ?_
  rintro e w2 ⟨b2, A2, c2, ps, rfl, hr2, hc2, hm2, hi2, hl2, hx2⟩
  have hl2' : ps.length ≤ 200 := by rw [Hn.out] at hl2; omega
  clear hl2
  clear x0 x1
  go_upto_region 4 with (fail)
  refine at_world (fun V => Ext W V ∧ Box V w2.heap.size 24 #[.bool b2, .slice A2 ps.length c2] ∧ Rd V A2 ps) ⟨(hx1.trans hx2).alloc _, Box.new w2 _ _, hr2.ext ((Ext.refl w2).alloc _)⟩ ?_
  generalize w2.heap.size = g5
  clear hx1 hx2 hr1 hr2
  rintro V ⟨EV, b5, hr2'⟩
  have x0 := (bx.ext EV).cell 0 (.bool s) rfl
  have x1 := (bx.ext EV).cell 1 (.slice A n c) rfl
  go_wp2_with fail
  refine (ref_Pow (k := k) Hn.out (hx.ext EV) hc hcm (by omega) (by omega)).mono ?_
  rintro e w3 ⟨b3, A3, c3, qs, rfl, hr3, hc3, hm3, hi3, hl3, hx3⟩
  clear x0 x1
  go_upto_region 5 with (fail)
  refine at_world (fun U => Ext W U ∧ Box U g5 24 #[.bool b2, .slice A2 ps.length c2] ∧ Box U w3.heap.size 24 #[.bool b3, .slice A3 qs.length c3] ∧ Rd U A2 ps ∧ Rd U A3 qs) ⟨(EV.trans hx3).alloc _, (b5.ext hx3).ext ((Ext.refl w3).alloc _), Box.new w3 _ _, (hr2'.ext hx3).ext ((Ext.refl w3).alloc _), hr3.ext ((Ext.refl w3).alloc _)⟩ ?_
  generalize w3.heap.size = g7
  clear EV hx3 b5 hr2' hr3
  rintro U ⟨EU, b5, b7, hr2, hr3⟩
  have p0 := b5.cell 0 _ rfl
  have p1 := b5.cell 1 _ rfl
  have q0 := b7.cell 0 _ rfl
  have q1 := b7.cell 1 _ rfl
  go_wp2_with fail
  refine (law_same_int rfl rfl hr2 hr3 (by omega) hi2 hi3).mono ?_
  rintro e w4 ⟨rfl, hx4⟩
  go_wp2_with fail
  go_ret
  exact ⟨rfl, (extW.trans EU).trans hx4⟩
set_option maxHeartbeats 4000000 in
theorem pow_err {k : Int} (hn : xs.length = n) (hx : Rd w A xs) (_hc : n ≤ c) (_hcm : c ≤ maxLen) (h4 : n ≤ 4) (hk : k < 0 ∨ 4096 < k) (h0 : -9223372036854775808 ≤ k) (h1 : k < 9223372036854775808) :
    Calls Try.prog 7 #[.agg #[.bool s, .slice A n c], .int .i64 k] w fun e w' => e = .returned (.bool true) ∧ Ext w w' := by
  have t1 : decide ((4 : Int) < (n : Int)) = false := decide_eq_false (by omega)
  by_cases hneg : k < 0
  all_goals
    have Hn := Lib.hid hn
    have HA := Lib.hid awake
    clear hn
    go_enter Try.func7, Try.ntmps7
    go_upto_region 1 with (fail)
    obtain ⟨W0, hW, extW, bx, hz⟩ := box1 w 24 #[.bool s, .slice A n c]
    rw [← hW]
    clear hW
    go_wp2_with fail
    refine (HA.out _).mono ?_
    rintro e W ⟨rfl, hxt⟩
    replace extW := extW.trans hxt
    replace bx := bx.ext hxt
    clear hxt hz
    replace hx := hx.ext extW
    have x0 := bx.cell 0 (.bool s) rfl
    have x1 := bx.cell 1 (.slice A n c) rfl
    go_wp2_with fail
    refine (law_cp Hn.out hx (by omega)).mono ?_
    rintro e w1 ⟨A1, c1, rfl, hr1, hc1, hm1, hx1⟩
    go_wp2_with fail
    refine (int_Pow_no hk h0 h1).mono ?_
    rintro e w2 ⟨rfl, hx2⟩
    clear x0 x1
    go_upto_region 4 with (fail)
    refine at_world (fun V => Ext W V ∧ Box V w2.heap.size 24 #[Value.bool false, Value.slice none 0 0]) ⟨(hx1.trans hx2).alloc _, Box.new w2 _ _⟩ ?_
    generalize w2.heap.size = g5
    clear hx1 hx2 hr1
    rintro V ⟨EV, b5⟩
    have x0 := (bx.ext EV).cell 0 (.bool s) rfl
    have x1 := (bx.ext EV).cell 1 (.slice A n c) rfl
    go_wp2_with fail
    refine (ref_Pow_no hk h0 h1).mono ?_
    rintro e w3 ⟨rfl, hx3⟩
    clear x0 x1
    go_upto_region 5 with (fail)
    refine at_world (fun U => Ext W U ∧ Box U g5 24 #[Value.bool false, Value.slice none 0 0] ∧ Box U w3.heap.size 24 #[Value.bool false, Value.slice none 0 0]) ⟨(EV.trans hx3).alloc _, (b5.ext hx3).ext ((Ext.refl w3).alloc _), Box.new w3 _ _⟩ ?_
    generalize w3.heap.size = g7
    clear EV hx3 b5
    rintro U ⟨EU, b5, b7⟩
    have p0 := b5.cell 0 _ rfl
    have p1 := b5.cell 1 _ rfl
    have q0 := b7.cell 0 _ rfl
    have q1 := b7.cell 1 _ rfl
    go_wp2_with fail
    refine (law_same_int rfl rfl (Rd.nil _ _) (Rd.nil _ _) (Nat.zero_le _) (IsInt.nil false) (IsInt.nil false)).mono ?_
    rintro e w4 ⟨rfl, hx4⟩
    go_wp2_with fail
    go_ret
    exact ⟨rfl, (extW.trans EU).trans hx4⟩
set_option maxHeartbeats 4000000 in
theorem pow_no1 {k : Int} (_hn : xs.length = n) (_hx : Rd w A xs) (_hc : n ≤ c) (_hcm : c ≤ maxLen) (h4 : 4 < n) :
    Calls Try.prog 7 #[.agg #[.bool s, .slice A n c], .int .i64 k] w fun e w' => e = .returned (.bool true) ∧ Ext w w' := by
  have t1 : decide ((4 : Int) < (n : Int)) = true := decide_eq_true (by omega)
  have HA := Lib.hid awake
  go_enter Try.func7, Try.ntmps7
  go_upto_region 1 with (fail)
  obtain ⟨W0, hW, extW, bx, hz⟩ := box1 w 24 #[.bool s, .slice A n c]
  rw [← hW]
  clear hW
  go_wp2_with fail
  refine (HA.out _).mono ?_
  rintro e W ⟨rfl, hxt⟩
  replace extW := extW.trans hxt
  replace bx := bx.ext hxt
  clear hxt hz
  have x0 := bx.cell 0 (.bool s) rfl
  have x1 := bx.cell 1 (.slice A n c) rfl
  go_wp2_with fail
  refine (HA.out _).mono ?_
  rintro e W2 ⟨rfl, hxt⟩
  go_wp2_with fail
  go_ret
  exact ⟨rfl, extW.trans hxt⟩
set_option maxHeartbeats 4000000 in
theorem pow_no2 {k : Int} (hn : xs.length = n) (_hx : Rd w A xs) (_hc : n ≤ c) (_hcm : c ≤ maxLen) (h4 : n ≤ 4) (hk : 40 < k) (hk2 : k ≤ 4096) :
    Calls Try.prog 7 #[.agg #[.bool s, .slice A n c], .int .i64 k] w fun e w' => e = .returned (.bool true) ∧ Ext w w' := by
  have t1 : decide ((4 : Int) < (n : Int)) = false := decide_eq_false (by omega)
  have t2 : decide ((40 : Int) < k) = true := decide_eq_true (by omega)
  have t3 : decide (k ≤ (4096 : Int)) = true := decide_eq_true (by omega)
  have HA := Lib.hid awake
  clear hn
  go_enter Try.func7, Try.ntmps7
  go_upto_region 1 with (fail)
  obtain ⟨W0, hW, extW, bx, hz⟩ := box1 w 24 #[.bool s, .slice A n c]
  rw [← hW]
  clear hW
  go_wp2_with fail
  refine (HA.out _).mono ?_
  rintro e W ⟨rfl, hxt⟩
  replace extW := extW.trans hxt
  replace bx := bx.ext hxt
  clear hxt hz
  have x0 := bx.cell 0 (.bool s) rfl
  have x1 := bx.cell 1 (.slice A n c) rfl
  go_wp2_with fail
  refine (HA.out _).mono ?_
  rintro e W2 ⟨rfl, hxt⟩
  go_wp2_with fail
  go_ret
  exact ⟨rfl, extW.trans hxt⟩
theorem pow_any {k : Int} (hn : xs.length = n) (hx : Rd w A xs) (hc : n ≤ c) (hcm : c ≤ maxLen) (h0 : -9223372036854775808 ≤ k) (h1 : k < 9223372036854775808) :
    Calls Try.prog 7 #[.agg #[.bool s, .slice A n c], .int .i64 k] w fun e w' => e = .returned (.bool true) ∧ Ext w w' := by
  by_cases h4 : n ≤ 4
  · by_cases hb : k < 0 ∨ 4096 < k
    · exact pow_err hn hx hc hcm h4 hb h0 h1
    · by_cases hk : k ≤ 40
      · obtain ⟨j, rfl⟩ : ∃ j : Nat, k = (j : Int) := ⟨k.toNat, by omega⟩
        exact pow_yes hn hx hc hcm h4 (by omega)
      · exact pow_no2 hn hx hc hcm h4 (by omega) (by omega)
  · exact pow_no1 hn hx hc hcm (by omega)
end
end Go.Proofs.Ytmjmcinnbmjpdaa
