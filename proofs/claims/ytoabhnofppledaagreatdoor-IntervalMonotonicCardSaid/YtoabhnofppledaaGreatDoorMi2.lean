/- For every three intervals the law IntervalMonotonic returns true: parts of intervals have parts of the results, the arguments keep their values, and the examples of the chapter hold. Condition: the table math/bits.deBruijn64tab holds what its initialiser lays (tied by the given card). -/
import Derived.Test.YtoabhnofppledaaGreatDoorM0
import Derived.Test.YtoabhnofppledaaGreatDoorM1
import Derived.Test.YtoabhnofppledaaGreatDoorM2
import Derived.Test.YtoabhnofppledaaGreatDoorM3
import Derived.Test.YtoabhnofppledaaGreatDoorM4
import Derived.Test.YtoabhnofppledaaGreatDoorM5
import Derived.Test.YtoabhnofppledaaGreatDoorM6
import Derived.Test.YtoabhnofppledaaGreatDoorM7
import Derived.Test.YtoabhnofppledaaGreatDoorM8
import Derived.Test.YtoabhnofppledaaGreatDoorM9
import Derived.Test.YtoabhnofppledaaGreatDoorMi0
import Derived.Test.YtoabhnofppledaaGreatDoorMi1
namespace Go.Proofs.YtoabhnofppledaaGreatDoor
open Go.RowKit
attribute [local go_sem ↓] Go.wp_at_zero Go.wp_at_succ
set_option maxHeartbeats 16000000 in
set_option maxRecDepth 100000 in
theorem mono3_out {w : World} {sa1 ta1 sa2 ta2 : Bool} {Aa1 Ba1 Aa2 Ba2 : Option Addr} {na1 ca1 ma1 da1 na2 ca2 ma2 da2 : Nat} {xa1 ya1 xa2 ya2 : List Nat} {sb1 tb1 sb2 tb2 : Bool} {Ab1 Bb1 Ab2 Bb2 : Option Addr} {nb1 cb1 mb1 db1 nb2 cb2 mb2 db2 : Nat} {xb1 yb1 xb2 yb2 : List Nat} {sc1 tc1 sc2 tc2 : Bool} {Ac1 Bc1 Ac2 Bc2 : Option Addr} {nc1 cc1 mc1 dc1 nc2 cc2 mc2 dc2 : Nat} {xc1 yc1 xc2 yc2 : List Nat} {lo0 hi0 lo2 hi2 : Rat} (hA : Awake3) (hT : Tab w) (hr0 : RawV w Aa1 na1 ca1 xa1 Ba1 ma1 da1 ya1 Aa2 na2 ca2 xa2 Ba2 ma2 da2 ya2) (hr1 : RawV w Ab1 nb1 cb1 xb1 Bb1 mb1 db1 yb1 Ab2 nb2 cb2 xb2 Bb2 mb2 db2 yb2) (hr2 : RawV w Ac1 nc1 cc1 xc1 Bc1 mc1 dc1 yc1 Ac2 nc2 cc2 xc2 Bc2 mc2 dc2 yc2) (h0 : IV w lo0 hi0 10 sa1 Aa1 na1 ca1 ta1 Ba1 ma1 da1 sa2 Aa2 na2 ca2 ta2 Ba2 ma2 da2) (h2 : IV w lo2 hi2 10 sc1 Ac1 nc1 cc1 tc1 Bc1 mc1 dc1 sc2 Ac2 nc2 cc2 tc2 Bc2 mc2 dc2) (hm : ¬ mxR lo0 lo2 ≤ mnR hi0 hi2) (hf0 : (fewV na1 ma1 na2 ma2 sa1 xa1 ta1 ya1 sa2 xa2 ta2 ya2 && (fewV nb1 mb1 nb2 mb2 sb1 xb1 tb1 yb1 sb2 xb2 tb2 yb2 && (fewV nc1 mc1 nc2 mc2 sc1 xc1 tc1 yc1 sc2 xc2 tc2 yc2))) = true) :
    Calls Tryz.prog 11 #[.agg #[.bool sa1, .slice Aa1 na1 ca1, .bool ta1, .slice Ba1 ma1 da1, .bool sa2, .slice Aa2 na2 ca2, .bool ta2, .slice Ba2 ma2 da2], .agg #[.bool sb1, .slice Ab1 nb1 cb1, .bool tb1, .slice Bb1 mb1 db1, .bool sb2, .slice Ab2 nb2 cb2, .bool tb2, .slice Bb2 mb2 db2], .agg #[.bool sc1, .slice Ac1 nc1 cc1, .bool tc1, .slice Bc1 mc1 dc1, .bool sc2, .slice Ac2 nc2 cc2, .bool tc2, .slice Bc2 mc2 dc2]] w fun e w' => e = .returned (.bool true) ∧ Ext w w' := by
  have HF0 := Lib.hid hf0
  clear hf0
  have HA := Lib.hid hA
  clear hA
  go_enter Tryz.func11, Tryz.ntmps11
  go_upto_region 1 with (fail)
  obtain ⟨W0, hW, extW, bx, by_, bz, hzz⟩ := box3 w 28 28 28 #[.bool sa1, .slice Aa1 na1 ca1, .bool ta1, .slice Ba1 ma1 da1, .bool sa2, .slice Aa2 na2 ca2, .bool ta2, .slice Ba2 ma2 da2] #[.bool sb1, .slice Ab1 nb1 cb1, .bool tb1, .slice Bb1 mb1 db1, .bool sb2, .slice Ab2 nb2 cb2, .bool tb2, .slice Bb2 mb2 db2] #[.bool sc1, .slice Ac1 nc1 cc1, .bool tc1, .slice Bc1 mc1 dc1, .bool sc2, .slice Ac2 nc2 cc2, .bool tc2, .slice Bc2 mc2 dc2]
  rw [← hW]
  clear hW hzz
  go_wp2_with fail
  refine (HA.out _ (hT.ext extW)).mono ?_
  rintro e W ⟨rfl, hxt⟩
  replace bx := bx.ext hxt
  replace by_ := by_.ext hxt
  replace bz := bz.ext hxt
  replace extW := extW.trans hxt
  clear hxt
  have k0 := bx.cell 0 (.bool sa1) rfl
  have k1 := bx.cell 1 (.slice Aa1 na1 ca1) rfl
  have k2 := bx.cell 2 (.bool ta1) rfl
  have k3 := bx.cell 3 (.slice Ba1 ma1 da1) rfl
  have k4 := bx.cell 4 (.bool sa2) rfl
  have k5 := bx.cell 5 (.slice Aa2 na2 ca2) rfl
  have k6 := bx.cell 6 (.bool ta2) rfl
  have k7 := bx.cell 7 (.slice Ba2 ma2 da2) rfl
  have x0 := by_.cell 0 (.bool sb1) rfl
  have x1 := by_.cell 1 (.slice Ab1 nb1 cb1) rfl
  have x2 := by_.cell 2 (.bool tb1) rfl
  have x3 := by_.cell 3 (.slice Bb1 mb1 db1) rfl
  have x4 := by_.cell 4 (.bool sb2) rfl
  have x5 := by_.cell 5 (.slice Ab2 nb2 cb2) rfl
  have x6 := by_.cell 6 (.bool tb2) rfl
  have x7 := by_.cell 7 (.slice Bb2 mb2 db2) rfl
  have z0 := bz.cell 0 (.bool sc1) rfl
  have z1 := bz.cell 1 (.slice Ac1 nc1 cc1) rfl
  have z2 := bz.cell 2 (.bool tc1) rfl
  have z3 := bz.cell 3 (.slice Bc1 mc1 dc1) rfl
  have z4 := bz.cell 4 (.bool sc2) rfl
  have z5 := bz.cell 5 (.slice Ac2 nc2 cc2) rfl
  have z6 := bz.cell 6 (.bool tc2) rfl
  have z7 := bz.cell 7 (.slice Bc2 mc2 dc2) rfl
  have hnb := Box.new W 28 #[.bool sa1, .slice Aa1 na1 ca1, .bool ta1, .slice Ba1 ma1 da1, .bool sa2, .slice Aa2 na2 ca2, .bool ta2, .slice Ba2 ma2 da2, .bool sb1, .slice Ab1 nb1 cb1, .bool tb1, .slice Bb1 mb1 db1, .bool sb2, .slice Ab2 nb2 cb2, .bool tb2, .slice Bb2 mb2 db2, .bool sc1, .slice Ac1 nc1 cc1, .bool tc1, .slice Bc1 mc1 dc1, .bool sc2, .slice Ac2 nc2 cc2, .bool tc2, .slice Bc2 mc2 dc2]
  have e1 := (Ext.refl W).alloc (.cells #[.bool sa1, .slice Aa1 na1 ca1, .bool ta1, .slice Ba1 ma1 da1, .bool sa2, .slice Aa2 na2 ca2, .bool ta2, .slice Ba2 ma2 da2, .bool sb1, .slice Ab1 nb1 cb1, .bool tb1, .slice Bb1 mb1 db1, .bool sb2, .slice Ab2 nb2 cb2, .bool tb2, .slice Bb2 mb2 db2, .bool sc1, .slice Ac1 nc1 cc1, .bool tc1, .slice Bc1 mc1 dc1, .bool sc2, .slice Ac2 nc2 cc2, .bool tc2, .slice Bc2 mc2 dc2] 28)
  go_wp2_with fail
  refine (fewI3 hnb (hr0.ext (extW.trans e1)) (hr1.ext (extW.trans e1)) (hr2.ext (extW.trans e1))).mono ?_
  rintro e W1 ⟨rfl, hxt⟩
  rw [HF0.out]
  have ES := e1.trans hxt
  clear hnb e1 hxt
  clear k0 k1 k2 k3 k4 k5 k6 k7 x0 x1 x2 x3 x4 x5 x6 x7 z0 z1 z2 z3 z4 z5 z6 z7
  replace bx := bx.ext ES
  replace by_ := by_.ext ES
  replace bz := bz.ext ES
  replace extW := extW.trans ES
  clear ES
  have k0 := bx.cell 0 (.bool sa1) rfl
  have k1 := bx.cell 1 (.slice Aa1 na1 ca1) rfl
  have k2 := bx.cell 2 (.bool ta1) rfl
  have k3 := bx.cell 3 (.slice Ba1 ma1 da1) rfl
  have k4 := bx.cell 4 (.bool sa2) rfl
  have k5 := bx.cell 5 (.slice Aa2 na2 ca2) rfl
  have k6 := bx.cell 6 (.bool ta2) rfl
  have k7 := bx.cell 7 (.slice Ba2 ma2 da2) rfl
  have z0 := bz.cell 0 (.bool sc1) rfl
  have z1 := bz.cell 1 (.slice Ac1 nc1 cc1) rfl
  have z2 := bz.cell 2 (.bool tc1) rfl
  have z3 := bz.cell 3 (.slice Bc1 mc1 dc1) rfl
  have z4 := bz.cell 4 (.bool sc2) rfl
  have z5 := bz.cell 5 (.slice Ac2 nc2 cc2) rfl
  have z6 := bz.cell 6 (.bool tc2) rfl
  have z7 := bz.cell 7 (.slice Bc2 mc2 dc2) rfl
  go_wp2_with fail
  refine (q_MeetV (h0.ext extW) (h2.ext extW) (by omega)).mono ?_
  intro e Wa hmt
  obtain ⟨rfl, hxt⟩ := hmt.no hm
  clear hmt
  clear k0 z0 k1 z1 k2 z2 k3 z3 k4 z4 k5 z5 k6 z6 k7 z7
  replace bx := bx.ext hxt
  replace by_ := by_.ext hxt
  replace bz := bz.ext hxt
  replace extW := extW.trans hxt
  clear hxt
  go_upto_region 4 with (fail)
  refine at_world (fun V => Ext Wa V ∧ Box V Wa.heap.size 28 #[.bool false, .slice none 0 0, .bool false, .slice none 0 0, .bool false, .slice none 0 0, .bool false, .slice none 0 0]) ⟨(Ext.refl Wa).alloc _, Box.new Wa _ _⟩ ?_
  generalize Wa.heap.size = g7
  rintro Wav ⟨EV, b7⟩
  replace bx := bx.ext EV
  replace by_ := by_.ext EV
  replace bz := bz.ext EV
  replace extW := extW.trans EV
  clear EV
  go_wp2_with fail
  go_ret
  exact ⟨rfl, extW⟩
set_option maxHeartbeats 16000000 in
set_option maxRecDepth 100000 in
theorem mono3_00 {w : World} {sa1 ta1 sa2 ta2 : Bool} {Aa1 Ba1 Aa2 Ba2 : Option Addr} {na1 ca1 ma1 da1 na2 ca2 ma2 da2 : Nat} {xa1 ya1 xa2 ya2 : List Nat} {sb1 tb1 sb2 tb2 : Bool} {Ab1 Bb1 Ab2 Bb2 : Option Addr} {nb1 cb1 mb1 db1 nb2 cb2 mb2 db2 : Nat} {xb1 yb1 xb2 yb2 : List Nat} {sc1 tc1 sc2 tc2 : Bool} {Ac1 Bc1 Ac2 Bc2 : Option Addr} {nc1 cc1 mc1 dc1 nc2 cc2 mc2 dc2 : Nat} {xc1 yc1 xc2 yc2 : List Nat} {lo0 hi0 lo1 hi1 lo2 hi2 : Rat} (hA : Awake3) (hT : Tab w) (hr0 : RawV w Aa1 na1 ca1 xa1 Ba1 ma1 da1 ya1 Aa2 na2 ca2 xa2 Ba2 ma2 da2 ya2) (hr1 : RawV w Ab1 nb1 cb1 xb1 Bb1 mb1 db1 yb1 Ab2 nb2 cb2 xb2 Bb2 mb2 db2 yb2) (hr2 : RawV w Ac1 nc1 cc1 xc1 Bc1 mc1 dc1 yc1 Ac2 nc2 cc2 xc2 Bc2 mc2 dc2 yc2) (h0 : IV w lo0 hi0 10 sa1 Aa1 na1 ca1 ta1 Ba1 ma1 da1 sa2 Aa2 na2 ca2 ta2 Ba2 ma2 da2) (h1 : IV w lo1 hi1 10 sb1 Ab1 nb1 cb1 tb1 Bb1 mb1 db1 sb2 Ab2 nb2 cb2 tb2 Bb2 mb2 db2) (h2 : IV w lo2 hi2 10 sc1 Ac1 nc1 cc1 tc1 Bc1 mc1 dc1 sc2 Ac2 nc2 cc2 tc2 Bc2 mc2 dc2) (hd : lo1 ≤ hi1 ∧ mxR lo0 lo2 ≤ mnR hi0 hi2 ∧ lo0 ≤ hi0) (hz : inB (lo0) (hi0) ((0 : Int) : Rat) = true ∧ inB (mxR lo0 lo2) (mnR hi0 hi2) ((0 : Int) : Rat) = true) (hf0 : (fewV na1 ma1 na2 ma2 sa1 xa1 ta1 ya1 sa2 xa2 ta2 ya2 && (fewV nb1 mb1 nb2 mb2 sb1 xb1 tb1 yb1 sb2 xb2 tb2 yb2 && (fewV nc1 mc1 nc2 mc2 sc1 xc1 tc1 yc1 sc2 xc2 tc2 yc2))) = true) :
    Calls Tryz.prog 11 #[.agg #[.bool sa1, .slice Aa1 na1 ca1, .bool ta1, .slice Ba1 ma1 da1, .bool sa2, .slice Aa2 na2 ca2, .bool ta2, .slice Ba2 ma2 da2], .agg #[.bool sb1, .slice Ab1 nb1 cb1, .bool tb1, .slice Bb1 mb1 db1, .bool sb2, .slice Ab2 nb2 cb2, .bool tb2, .slice Bb2 mb2 db2], .agg #[.bool sc1, .slice Ac1 nc1 cc1, .bool tc1, .slice Bc1 mc1 dc1, .bool sc2, .slice Ac2 nc2 cc2, .bool tc2, .slice Bc2 mc2 dc2]] w fun e w' => e = .returned (.bool true) ∧ Ext w w' := by
  have HF0 := Lib.hid hf0
  clear hf0
  have HD := Lib.hid hd
  have HZ := Lib.hid hz
  clear hd hz
  have HA := Lib.hid hA
  clear hA
  go_enter Tryz.func11, Tryz.ntmps11
  go_upto_region 1 with (fail)
  obtain ⟨W0, hW, extW, bx, by_, bz, hzz⟩ := box3 w 28 28 28 #[.bool sa1, .slice Aa1 na1 ca1, .bool ta1, .slice Ba1 ma1 da1, .bool sa2, .slice Aa2 na2 ca2, .bool ta2, .slice Ba2 ma2 da2] #[.bool sb1, .slice Ab1 nb1 cb1, .bool tb1, .slice Bb1 mb1 db1, .bool sb2, .slice Ab2 nb2 cb2, .bool tb2, .slice Bb2 mb2 db2] #[.bool sc1, .slice Ac1 nc1 cc1, .bool tc1, .slice Bc1 mc1 dc1, .bool sc2, .slice Ac2 nc2 cc2, .bool tc2, .slice Bc2 mc2 dc2]
  rw [← hW]
  clear hW hzz
  go_wp2_with fail
  refine (HA.out _ (hT.ext extW)).mono ?_
  rintro e W ⟨rfl, hxt⟩
  replace bx := bx.ext hxt
  replace by_ := by_.ext hxt
  replace bz := bz.ext hxt
  replace extW := extW.trans hxt
  clear hxt
  have k0 := bx.cell 0 (.bool sa1) rfl
  have k1 := bx.cell 1 (.slice Aa1 na1 ca1) rfl
  have k2 := bx.cell 2 (.bool ta1) rfl
  have k3 := bx.cell 3 (.slice Ba1 ma1 da1) rfl
  have k4 := bx.cell 4 (.bool sa2) rfl
  have k5 := bx.cell 5 (.slice Aa2 na2 ca2) rfl
  have k6 := bx.cell 6 (.bool ta2) rfl
  have k7 := bx.cell 7 (.slice Ba2 ma2 da2) rfl
  have x0 := by_.cell 0 (.bool sb1) rfl
  have x1 := by_.cell 1 (.slice Ab1 nb1 cb1) rfl
  have x2 := by_.cell 2 (.bool tb1) rfl
  have x3 := by_.cell 3 (.slice Bb1 mb1 db1) rfl
  have x4 := by_.cell 4 (.bool sb2) rfl
  have x5 := by_.cell 5 (.slice Ab2 nb2 cb2) rfl
  have x6 := by_.cell 6 (.bool tb2) rfl
  have x7 := by_.cell 7 (.slice Bb2 mb2 db2) rfl
  have z0 := bz.cell 0 (.bool sc1) rfl
  have z1 := bz.cell 1 (.slice Ac1 nc1 cc1) rfl
  have z2 := bz.cell 2 (.bool tc1) rfl
  have z3 := bz.cell 3 (.slice Bc1 mc1 dc1) rfl
  have z4 := bz.cell 4 (.bool sc2) rfl
  have z5 := bz.cell 5 (.slice Ac2 nc2 cc2) rfl
  have z6 := bz.cell 6 (.bool tc2) rfl
  have z7 := bz.cell 7 (.slice Bc2 mc2 dc2) rfl
  have hnb := Box.new W 28 #[.bool sa1, .slice Aa1 na1 ca1, .bool ta1, .slice Ba1 ma1 da1, .bool sa2, .slice Aa2 na2 ca2, .bool ta2, .slice Ba2 ma2 da2, .bool sb1, .slice Ab1 nb1 cb1, .bool tb1, .slice Bb1 mb1 db1, .bool sb2, .slice Ab2 nb2 cb2, .bool tb2, .slice Bb2 mb2 db2, .bool sc1, .slice Ac1 nc1 cc1, .bool tc1, .slice Bc1 mc1 dc1, .bool sc2, .slice Ac2 nc2 cc2, .bool tc2, .slice Bc2 mc2 dc2]
  have e1 := (Ext.refl W).alloc (.cells #[.bool sa1, .slice Aa1 na1 ca1, .bool ta1, .slice Ba1 ma1 da1, .bool sa2, .slice Aa2 na2 ca2, .bool ta2, .slice Ba2 ma2 da2, .bool sb1, .slice Ab1 nb1 cb1, .bool tb1, .slice Bb1 mb1 db1, .bool sb2, .slice Ab2 nb2 cb2, .bool tb2, .slice Bb2 mb2 db2, .bool sc1, .slice Ac1 nc1 cc1, .bool tc1, .slice Bc1 mc1 dc1, .bool sc2, .slice Ac2 nc2 cc2, .bool tc2, .slice Bc2 mc2 dc2] 28)
  go_wp2_with fail
  refine (fewI3 hnb (hr0.ext (extW.trans e1)) (hr1.ext (extW.trans e1)) (hr2.ext (extW.trans e1))).mono ?_
  rintro e W1 ⟨rfl, hxt⟩
  rw [HF0.out]
  have ES := e1.trans hxt
  clear hnb e1 hxt
  clear k0 k1 k2 k3 k4 k5 k6 k7 x0 x1 x2 x3 x4 x5 x6 x7 z0 z1 z2 z3 z4 z5 z6 z7
  replace bx := bx.ext ES
  replace by_ := by_.ext ES
  replace bz := bz.ext ES
  replace extW := extW.trans ES
  clear ES
  have k0 := bx.cell 0 (.bool sa1) rfl
  have k1 := bx.cell 1 (.slice Aa1 na1 ca1) rfl
  have k2 := bx.cell 2 (.bool ta1) rfl
  have k3 := bx.cell 3 (.slice Ba1 ma1 da1) rfl
  have k4 := bx.cell 4 (.bool sa2) rfl
  have k5 := bx.cell 5 (.slice Aa2 na2 ca2) rfl
  have k6 := bx.cell 6 (.bool ta2) rfl
  have k7 := bx.cell 7 (.slice Ba2 ma2 da2) rfl
  have z0 := bz.cell 0 (.bool sc1) rfl
  have z1 := bz.cell 1 (.slice Ac1 nc1 cc1) rfl
  have z2 := bz.cell 2 (.bool tc1) rfl
  have z3 := bz.cell 3 (.slice Bc1 mc1 dc1) rfl
  have z4 := bz.cell 4 (.bool sc2) rfl
  have z5 := bz.cell 5 (.slice Ac2 nc2 cc2) rfl
  have z6 := bz.cell 6 (.bool tc2) rfl
  have z7 := bz.cell 7 (.slice Bc2 mc2 dc2) rfl
  go_wp2_with fail
  refine (q_MeetV (h0.ext extW) (h2.ext extW) (by omega)).mono ?_
  intro e Wa hmt
  obtain ⟨s1_, A1_, n1_, c1_, t1_, B1_, m1_, d1_, s1', A1', n1', c1', t1', B1', m1', d1', rfl, d1, hxt⟩ := hmt.yes HD.out.2.1
  clear hmt
  clear k0 z0 k1 z1 k2 z2 k3 z3 k4 z4 k5 z5 k6 z6 k7 z7
  replace bx := bx.ext hxt
  replace by_ := by_.ext hxt
  replace bz := bz.ext hxt
  replace extW := extW.trans hxt
  clear hxt
  have HQ := Lib.hid (And.intro (mxR_l lo0 lo2) (mnR_l hi0 hi2))
  generalize mxR lo0 lo2 = dl at d1 HD HQ HZ
  generalize mnR hi0 hi2 = dh at d1 HD HQ HZ
  go_upto_region 4 with (fail)
  refine at_world (fun V => Ext Wa V ∧ Box V Wa.heap.size 28 #[.bool s1_, .slice A1_ n1_ c1_, .bool t1_, .slice B1_ m1_ d1_, .bool s1', .slice A1' n1' c1', .bool t1', .slice B1' m1' d1'] ∧ IV V dl dh 10 s1_ A1_ n1_ c1_ t1_ B1_ m1_ d1_ s1' A1' n1' c1' t1' B1' m1' d1') ⟨(Ext.refl Wa).alloc _, Box.new Wa _ _, d1.ext ((Ext.refl Wa).alloc _)⟩ ?_
  generalize Wa.heap.size = g7
  clear d1
  rintro Wav ⟨EV, b7, d1⟩
  replace bx := bx.ext EV
  replace by_ := by_.ext EV
  replace bz := bz.ext EV
  replace extW := extW.trans EV
  clear EV
  go_upto_region 6 with (fail)
  have ES0 := Ext.refl Wav
  refine wp_region_held_drew (S := Ext Wav) (by kernel_rfl) ES0.drew (fun ES => ?_)
  clear ES0
  refine Late.start0 (fun _ _ _ _ _ => ⟨fun h => h, fun h => h⟩) ES (fun hAl hQ => ?_)
  refine Late.take (i := 0) (d := some 32) (v := ?v0_167) rfl rfl (by kernel_rfl) (by kernel_rfl) (by kernel_rfl) (by kernel_rfl) hQ (Or.inl ⟨by rfl, ?y0_167⟩) ?r0_167
  case y0_167 =>
    intro w' hSw
    have k00 := (bx.ext hSw).c8
    have k10 := (by_.ext hSw).c8
    have k20 := (b7.ext hSw).c8
    go_simp
    try with_reducible rfl
  try simp only [Act.put]
  try simp only [List.setIfInBounds_toArray]
  try simp only [List.set_cons_succ]
  try simp only [List.set_cons_zero]
  refine Late.take (i := 1) (d := some 33) (v := ?v1_168) rfl rfl (by kernel_rfl) (by kernel_rfl) (by kernel_rfl) (by kernel_rfl) hQ (Or.inl ⟨by rfl, ?y1_168⟩) ?r1_168
  case y1_168 =>
    intro w' hSw
    have k00 := (bx.ext hSw).c8
    have k10 := (by_.ext hSw).c8
    have k20 := (b7.ext hSw).c8
    go_simp
    try with_reducible rfl
  try simp only [Act.put]
  try simp only [List.setIfInBounds_toArray]
  try simp only [List.set_cons_succ]
  try simp only [List.set_cons_zero]
  refine Late.take (i := 3) (d := some 35) (v := ?v3_169) rfl rfl (by kernel_rfl) (by kernel_rfl) (by kernel_rfl) (by kernel_rfl) hQ (Or.inl ⟨by rfl, ?y3_169⟩) ?r3_169
  case y3_169 =>
    intro w' hSw
    have k00 := (bx.ext hSw).c8
    have k10 := (by_.ext hSw).c8
    have k20 := (b7.ext hSw).c8
    go_simp
    try with_reducible rfl
  try simp only [Act.put]
  try simp only [List.setIfInBounds_toArray]
  try simp only [List.set_cons_succ]
  try simp only [List.set_cons_zero]
  refine Late.take (i := 4) (d := some 36) (v := ?v4_170) rfl rfl (by kernel_rfl) (by kernel_rfl) (by kernel_rfl) (by kernel_rfl) hQ (Or.inl ⟨by rfl, ?y4_170⟩) ?r4_170
  case y4_170 =>
    intro w' hSw
    have k00 := (bx.ext hSw).c8
    have k10 := (by_.ext hSw).c8
    have k20 := (b7.ext hSw).c8
    go_simp
    try with_reducible rfl
  try simp only [Act.put]
  try simp only [List.setIfInBounds_toArray]
  try simp only [List.set_cons_succ]
  try simp only [List.set_cons_zero]
  refine Late.call (i := 2) rfl (by kernel_rfl) hAl (by kernel_rfl) (by kernel_rfl) (by kernel_rfl) hQ (fun w2 e2 E2 K hK => ?_)
  go_simp
  (go_at_call 17; refine (p_AddV (d1.ext E2) (h1.ext (extW.trans E2)) (by omega) (by omega) (hT.ext (extW.trans E2))).mono ?_; rintro e wk2 ⟨la3, ha3, hu3, s3_, A3_, n3_, c3_, t3_, B3_, m3_, d3_, s3', A3', n3', c3', t3', B3', m3', d3', rfl, y3, hx2⟩; have HU3 := Lib.hid hu3; clear hu3)
  refine hK.out _ _ hx2 ?_
  clear hK K
  try simp only [Act.put]
  try simp only [List.setIfInBounds_toArray]
  try simp only [List.set_cons_succ]
  try simp only [List.set_cons_zero]
  refine Late.call (i := 5) rfl (by kernel_rfl) hAl (by kernel_rfl) (by kernel_rfl) (by kernel_rfl) hQ (fun w5 e5 E5 K hK => ?_)
  go_simp
  (replace y3 := y3.ext e5; go_at_call 17; refine (p_AddV (h0.ext (extW.trans E5)) (h1.ext (extW.trans E5)) (by omega) (by omega) (hT.ext (extW.trans E5))).mono ?_; rintro e wk5 ⟨la4, ha4, hu4, s4_, A4_, n4_, c4_, t4_, B4_, m4_, d4_, s4', A4', n4', c4', t4', B4', m4', d4', rfl, y4, hx5⟩; replace y3 := y3.ext hx5; have HU4 := Lib.hid hu4; clear hu4)
  refine hK.out _ _ hx5 ?_
  clear hK K
  try simp only [Act.put]
  try simp only [List.setIfInBounds_toArray]
  try simp only [List.set_cons_succ]
  try simp only [List.set_cons_zero]
  refine Late.call (i := 6) rfl (by kernel_rfl) hAl (by kernel_rfl) (by kernel_rfl) (by kernel_rfl) hQ (fun w6 e6 E6 K hK => ?_)
  go_simp
  (replace y3 := y3.ext e6; replace y4 := y4.ext e6; go_at_call 33; refine (p_Within y3 y4 (by omega) (by omega)).mono ?_; rintro e wk6 ⟨rfl, hx6⟩; replace y3 := y3.ext hx6; replace y4 := y4.ext hx6; rw [within_of (fun _ _ => add_four HU4.out.four) HU3.out HQ.out.1 HD.out.2.1 HQ.out.2 Rat.le_refl HD.out.1 Rat.le_refl])
  refine hK.out _ _ hx6 ?_
  clear hK K
  try simp only [Act.put]
  try simp only [List.setIfInBounds_toArray]
  try simp only [List.set_cons_succ]
  try simp only [List.set_cons_zero]
  refine Late.take (i := 7) (d := some 39) (v := ?v7_171) rfl rfl (by kernel_rfl) (by kernel_rfl) (by kernel_rfl) (by kernel_rfl) hQ (Or.inl ⟨by rfl, ?y7_171⟩) ?r7_171
  case y7_171 =>
    intro w' hSw
    have k00 := (bx.ext hSw).c8
    have k10 := (by_.ext hSw).c8
    have k20 := (b7.ext hSw).c8
    go_simp
    try with_reducible rfl
  try simp only [Act.put]
  try simp only [List.setIfInBounds_toArray]
  try simp only [List.set_cons_succ]
  try simp only [List.set_cons_zero]
  refine Late.take (i := 8) (d := some 40) (v := ?v8_172) rfl rfl (by kernel_rfl) (by kernel_rfl) (by kernel_rfl) (by kernel_rfl) hQ (Or.inl ⟨by rfl, ?y8_172⟩) ?r8_172
  case y8_172 =>
    intro w' hSw
    have k00 := (bx.ext hSw).c8
    have k10 := (by_.ext hSw).c8
    have k20 := (b7.ext hSw).c8
    go_simp
    try with_reducible rfl
  try simp only [Act.put]
  try simp only [List.setIfInBounds_toArray]
  try simp only [List.set_cons_succ]
  try simp only [List.set_cons_zero]
  refine Late.take (i := 9) (d := some 41) (v := ?v9_173) rfl rfl (by kernel_rfl) (by kernel_rfl) (by kernel_rfl) (by kernel_rfl) hQ (Or.inl ⟨by rfl, ?y9_173⟩) ?r9_173
  case y9_173 =>
    intro w' hSw
    have k00 := (bx.ext hSw).c8
    have k10 := (by_.ext hSw).c8
    have k20 := (b7.ext hSw).c8
    go_simp
    try with_reducible rfl
  try simp only [Act.put]
  try simp only [List.setIfInBounds_toArray]
  try simp only [List.set_cons_succ]
  try simp only [List.set_cons_zero]
  refine Late.take (i := 10) (d := some 42) (v := ?v10_174) rfl rfl (by kernel_rfl) (by kernel_rfl) (by kernel_rfl) (by kernel_rfl) hQ (Or.inl ⟨by rfl, ?y10_174⟩) ?r10_174
  case y10_174 =>
    intro w' hSw
    have k00 := (bx.ext hSw).c8
    have k10 := (by_.ext hSw).c8
    have k20 := (b7.ext hSw).c8
    go_simp
    try with_reducible rfl
  try simp only [Act.put]
  try simp only [List.setIfInBounds_toArray]
  try simp only [List.set_cons_succ]
  try simp only [List.set_cons_zero]
  refine Late.take (i := 12) (d := some 44) (v := ?v12_175) rfl rfl (by kernel_rfl) (by kernel_rfl) (by kernel_rfl) (by kernel_rfl) hQ (Or.inl ⟨by rfl, ?y12_175⟩) ?r12_175
  case y12_175 =>
    intro w' hSw
    have k00 := (bx.ext hSw).c8
    have k10 := (by_.ext hSw).c8
    have k20 := (b7.ext hSw).c8
    go_simp
    try with_reducible rfl
  try simp only [Act.put]
  try simp only [List.setIfInBounds_toArray]
  try simp only [List.set_cons_succ]
  try simp only [List.set_cons_zero]
  refine Late.take (i := 13) (d := some 45) (v := ?v13_176) rfl rfl (by kernel_rfl) (by kernel_rfl) (by kernel_rfl) (by kernel_rfl) hQ (Or.inl ⟨by rfl, ?y13_176⟩) ?r13_176
  case y13_176 =>
    intro w' hSw
    have k00 := (bx.ext hSw).c8
    have k10 := (by_.ext hSw).c8
    have k20 := (b7.ext hSw).c8
    go_simp
    try with_reducible rfl
  try simp only [Act.put]
  try simp only [List.setIfInBounds_toArray]
  try simp only [List.set_cons_succ]
  try simp only [List.set_cons_zero]
  refine Late.call (i := 11) rfl (by kernel_rfl) hAl (by kernel_rfl) (by kernel_rfl) (by kernel_rfl) hQ (fun w11 e11 E11 K hK => ?_)
  go_simp
  (replace y3 := y3.ext e11; replace y4 := y4.ext e11; go_at_call 26; refine (p_MulV (d1.ext E11) (h1.ext (extW.trans E11)) (by omega) (by omega) (hT.ext (extW.trans E11))).mono ?_; rintro e wk11 ⟨la5, ha5, hu5, s5_, A5_, n5_, c5_, t5_, B5_, m5_, d5_, s5', A5', n5', c5', t5', B5', m5', d5', rfl, y5, hx11⟩; replace y3 := y3.ext hx11; replace y4 := y4.ext hx11; have HU5 := Lib.hid hu5; clear hu5)
  refine hK.out _ _ hx11 ?_
  clear hK K
  try simp only [Act.put]
  try simp only [List.setIfInBounds_toArray]
  try simp only [List.set_cons_succ]
  try simp only [List.set_cons_zero]
  refine Late.call (i := 14) rfl (by kernel_rfl) hAl (by kernel_rfl) (by kernel_rfl) (by kernel_rfl) hQ (fun w14 e14 E14 K hK => ?_)
  go_simp
  (replace y3 := y3.ext e14; replace y4 := y4.ext e14; replace y5 := y5.ext e14; go_at_call 26; refine (p_MulV (h0.ext (extW.trans E14)) (h1.ext (extW.trans E14)) (by omega) (by omega) (hT.ext (extW.trans E14))).mono ?_; rintro e wk14 ⟨la6, ha6, hu6, s6_, A6_, n6_, c6_, t6_, B6_, m6_, d6_, s6', A6', n6', c6', t6', B6', m6', d6', rfl, y6, hx14⟩; replace y3 := y3.ext hx14; replace y4 := y4.ext hx14; replace y5 := y5.ext hx14; have HU6 := Lib.hid hu6; clear hu6)
  refine hK.out _ _ hx14 ?_
  clear hK K
  try simp only [Act.put]
  try simp only [List.setIfInBounds_toArray]
  try simp only [List.set_cons_succ]
  try simp only [List.set_cons_zero]
  refine Late.call (i := 15) rfl (by kernel_rfl) hAl (by kernel_rfl) (by kernel_rfl) (by kernel_rfl) hQ (fun w15 e15 E15 K hK => ?_)
  go_simp
  (replace y3 := y3.ext e15; replace y4 := y4.ext e15; replace y5 := y5.ext e15; replace y6 := y6.ext e15; go_at_call 33; refine (p_Within y5 y6 (by omega) (by omega)).mono ?_; rintro e wk15 ⟨rfl, hx15⟩; replace y3 := y3.ext hx15; replace y4 := y4.ext hx15; replace y5 := y5.ext hx15; replace y6 := y6.ext hx15; rw [within_of (fun _ _ => mul_four HU6.out.four) HU5.out HQ.out.1 HD.out.2.1 HQ.out.2 Rat.le_refl HD.out.1 Rat.le_refl])
  refine hK.out _ _ hx15 ?_
  clear hK K
  try simp only [Act.put]
  try simp only [List.setIfInBounds_toArray]
  try simp only [List.set_cons_succ]
  try simp only [List.set_cons_zero]
  refine Late.take (i := 16) (d := some 48) (v := ?v16_177) rfl rfl (by kernel_rfl) (by kernel_rfl) (by kernel_rfl) (by kernel_rfl) hQ (Or.inl ⟨by rfl, ?y16_177⟩) ?r16_177
  case y16_177 =>
    intro w' hSw
    have k00 := (bx.ext hSw).c8
    have k10 := (by_.ext hSw).c8
    have k20 := (b7.ext hSw).c8
    go_simp
    try with_reducible rfl
  try simp only [Act.put]
  try simp only [List.setIfInBounds_toArray]
  try simp only [List.set_cons_succ]
  try simp only [List.set_cons_zero]
  refine Late.take (i := 17) (d := some 49) (v := ?v17_178) rfl rfl (by kernel_rfl) (by kernel_rfl) (by kernel_rfl) (by kernel_rfl) hQ (Or.inl ⟨by rfl, ?y17_178⟩) ?r17_178
  case y17_178 =>
    intro w' hSw
    have k00 := (bx.ext hSw).c8
    have k10 := (by_.ext hSw).c8
    have k20 := (b7.ext hSw).c8
    go_simp
    try with_reducible rfl
  try simp only [Act.put]
  try simp only [List.setIfInBounds_toArray]
  try simp only [List.set_cons_succ]
  try simp only [List.set_cons_zero]
  refine Late.take (i := 18) (d := some 50) (v := ?v18_179) rfl rfl (by kernel_rfl) (by kernel_rfl) (by kernel_rfl) (by kernel_rfl) hQ (Or.inl ⟨by rfl, ?y18_179⟩) ?r18_179
  case y18_179 =>
    intro w' hSw
    have k00 := (bx.ext hSw).c8
    have k10 := (by_.ext hSw).c8
    have k20 := (b7.ext hSw).c8
    go_simp
    try with_reducible rfl
  try simp only [Act.put]
  try simp only [List.setIfInBounds_toArray]
  try simp only [List.set_cons_succ]
  try simp only [List.set_cons_zero]
  refine Late.take (i := 19) (d := some 51) (v := ?v19_180) rfl rfl (by kernel_rfl) (by kernel_rfl) (by kernel_rfl) (by kernel_rfl) hQ (Or.inl ⟨by rfl, ?y19_180⟩) ?r19_180
  case y19_180 =>
    intro w' hSw
    have k00 := (bx.ext hSw).c8
    have k10 := (by_.ext hSw).c8
    have k20 := (b7.ext hSw).c8
    go_simp
    try with_reducible rfl
  try simp only [Act.put]
  try simp only [List.setIfInBounds_toArray]
  try simp only [List.set_cons_succ]
  try simp only [List.set_cons_zero]
  refine Late.take (i := 20) (d := some 52) (v := ?v20_181) rfl rfl (by kernel_rfl) (by kernel_rfl) (by kernel_rfl) (by kernel_rfl) hQ (Or.inl ⟨by rfl, ?y20_181⟩) ?r20_181
  case y20_181 =>
    intro w' hSw
    have k00 := (bx.ext hSw).c8
    have k10 := (by_.ext hSw).c8
    have k20 := (b7.ext hSw).c8
    go_simp
    try with_reducible rfl
  try simp only [Act.put]
  try simp only [List.setIfInBounds_toArray]
  try simp only [List.set_cons_succ]
  try simp only [List.set_cons_zero]
  refine Late.take (i := 22) (d := some 54) (v := ?v22_182) rfl rfl (by kernel_rfl) (by kernel_rfl) (by kernel_rfl) (by kernel_rfl) hQ (Or.inl ⟨by rfl, ?y22_182⟩) ?r22_182
  case y22_182 =>
    intro w' hSw
    have k00 := (bx.ext hSw).c8
    have k10 := (by_.ext hSw).c8
    have k20 := (b7.ext hSw).c8
    go_simp
    try with_reducible rfl
  try simp only [Act.put]
  try simp only [List.setIfInBounds_toArray]
  try simp only [List.set_cons_succ]
  try simp only [List.set_cons_zero]
  refine Late.take (i := 23) (d := some 55) (v := ?v23_183) rfl rfl (by kernel_rfl) (by kernel_rfl) (by kernel_rfl) (by kernel_rfl) hQ (Or.inl ⟨by rfl, ?y23_183⟩) ?r23_183
  case y23_183 =>
    intro w' hSw
    have k00 := (bx.ext hSw).c8
    have k10 := (by_.ext hSw).c8
    have k20 := (b7.ext hSw).c8
    go_simp
    try with_reducible rfl
  try simp only [Act.put]
  try simp only [List.setIfInBounds_toArray]
  try simp only [List.set_cons_succ]
  try simp only [List.set_cons_zero]
  refine Late.call (i := 21) rfl (by kernel_rfl) hAl (by kernel_rfl) (by kernel_rfl) (by kernel_rfl) hQ (fun w21 e21 E21 K hK => ?_)
  go_simp
  (replace y3 := y3.ext e21; replace y4 := y4.ext e21; replace y5 := y5.ext e21; replace y6 := y6.ext e21; go_at_call 19; refine (p_SubV (h1.ext (extW.trans E21)) (d1.ext E21) (by omega) (by omega) (hT.ext (extW.trans E21))).mono ?_; rintro e wk21 ⟨la7, ha7, hu7, s7_, A7_, n7_, c7_, t7_, B7_, m7_, d7_, s7', A7', n7', c7', t7', B7', m7', d7', rfl, y7, hx21⟩; replace y3 := y3.ext hx21; replace y4 := y4.ext hx21; replace y5 := y5.ext hx21; replace y6 := y6.ext hx21; have HU7 := Lib.hid hu7; clear hu7)
  refine hK.out _ _ hx21 ?_
  clear hK K
  try simp only [Act.put]
  try simp only [List.setIfInBounds_toArray]
  try simp only [List.set_cons_succ]
  try simp only [List.set_cons_zero]
  refine Late.call (i := 24) rfl (by kernel_rfl) hAl (by kernel_rfl) (by kernel_rfl) (by kernel_rfl) hQ (fun w24 e24 E24 K hK => ?_)
  go_simp
  (replace y3 := y3.ext e24; replace y4 := y4.ext e24; replace y5 := y5.ext e24; replace y6 := y6.ext e24; replace y7 := y7.ext e24; go_at_call 19; refine (p_SubV (h1.ext (extW.trans E24)) (h0.ext (extW.trans E24)) (by omega) (by omega) (hT.ext (extW.trans E24))).mono ?_; rintro e wk24 ⟨la8, ha8, hu8, s8_, A8_, n8_, c8_, t8_, B8_, m8_, d8_, s8', A8', n8', c8', t8', B8', m8', d8', rfl, y8, hx24⟩; replace y3 := y3.ext hx24; replace y4 := y4.ext hx24; replace y5 := y5.ext hx24; replace y6 := y6.ext hx24; replace y7 := y7.ext hx24; have HU8 := Lib.hid hu8; clear hu8)
  refine hK.out _ _ hx24 ?_
  clear hK K
  try simp only [Act.put]
  try simp only [List.setIfInBounds_toArray]
  try simp only [List.set_cons_succ]
  try simp only [List.set_cons_zero]
  refine Late.call (i := 25) rfl (by kernel_rfl) hAl (by kernel_rfl) (by kernel_rfl) (by kernel_rfl) hQ (fun w25 e25 E25 K hK => ?_)
  go_simp
  (replace y3 := y3.ext e25; replace y4 := y4.ext e25; replace y5 := y5.ext e25; replace y6 := y6.ext e25; replace y7 := y7.ext e25; replace y8 := y8.ext e25; go_at_call 33; refine (p_Within y7 y8 (by omega) (by omega)).mono ?_; rintro e wk25 ⟨rfl, hx25⟩; replace y3 := y3.ext hx25; replace y4 := y4.ext hx25; replace y5 := y5.ext hx25; replace y6 := y6.ext hx25; replace y7 := y7.ext hx25; replace y8 := y8.ext hx25; rw [within_of (fun _ _ => sub_four HU8.out.four) HU7.out Rat.le_refl HD.out.1 Rat.le_refl HQ.out.1 HD.out.2.1 HQ.out.2])
  refine hK.out _ _ hx25 ?_
  clear hK K
  try simp only [Act.put]
  try simp only [List.setIfInBounds_toArray]
  try simp only [List.set_cons_succ]
  try simp only [List.set_cons_zero]
  refine Late.take (i := 26) (d := some 58) (v := ?v26_184) rfl rfl (by kernel_rfl) (by kernel_rfl) (by kernel_rfl) (by kernel_rfl) hQ (Or.inl ⟨by rfl, ?y26_184⟩) ?r26_184
  case y26_184 =>
    intro w' hSw
    have k00 := (bx.ext hSw).c8
    have k10 := (by_.ext hSw).c8
    have k20 := (b7.ext hSw).c8
    go_simp
    try with_reducible rfl
  try simp only [Act.put]
  try simp only [List.setIfInBounds_toArray]
  try simp only [List.set_cons_succ]
  try simp only [List.set_cons_zero]
  refine Late.take (i := 27) (d := some 59) (v := ?v27_185) rfl rfl (by kernel_rfl) (by kernel_rfl) (by kernel_rfl) (by kernel_rfl) hQ (Or.inl ⟨by rfl, ?y27_185⟩) ?r27_185
  case y27_185 =>
    intro w' hSw
    have k00 := (bx.ext hSw).c8
    have k10 := (by_.ext hSw).c8
    have k20 := (b7.ext hSw).c8
    go_simp
    try with_reducible rfl
  try simp only [Act.put]
  try simp only [List.setIfInBounds_toArray]
  try simp only [List.set_cons_succ]
  try simp only [List.set_cons_zero]
  refine Late.done0 (by kernel_rfl) (fun wz ez Ez => ?_)
  clear hAl hQ ES
  replace bx := bx.ext Ez
  replace by_ := by_.ext Ez
  replace bz := bz.ext Ez
  replace b7 := b7.ext Ez
  replace d1 := d1.ext Ez
  replace extW := extW.trans Ez
  clear Ez ez
  clear y3 HU3
  clear y4 HU4
  clear y5 HU5
  clear y6 HU6
  clear y7 HU7
  clear y8 HU8
  have x0 := by_.cell 0 (.bool sb1) rfl
  have x1 := by_.cell 1 (.slice Ab1 nb1 cb1) rfl
  have x2 := by_.cell 2 (.bool tb1) rfl
  have x3 := by_.cell 3 (.slice Bb1 mb1 db1) rfl
  have x4 := by_.cell 4 (.bool sb2) rfl
  have x5 := by_.cell 5 (.slice Ab2 nb2 cb2) rfl
  have x6 := by_.cell 6 (.bool tb2) rfl
  have x7 := by_.cell 7 (.slice Bb2 mb2 db2) rfl
  have z0 := b7.cell 0 (.bool s1_) rfl
  have z1 := b7.cell 1 (.slice A1_ n1_ c1_) rfl
  have z2 := b7.cell 2 (.bool t1_) rfl
  have z3 := b7.cell 3 (.slice B1_ m1_ d1_) rfl
  have z4 := b7.cell 4 (.bool s1') rfl
  have z5 := b7.cell 5 (.slice A1' n1' c1') rfl
  have z6 := b7.cell 6 (.bool t1') rfl
  have z7 := b7.cell 7 (.slice B1' m1' d1') rfl
  go_wp2_with fail
  refine (p_DivV_0 (h1.ext extW) d1 (by omega) HZ.out.2).mono ?_
  rintro e Wb ⟨rfl, hxt⟩
  clear x0 z0 x1 z1 x2 z2 x3 z3 x4 z4 x5 z5 x6 z6 x7 z7
  replace bx := bx.ext hxt
  replace by_ := by_.ext hxt
  replace bz := bz.ext hxt
  replace b7 := b7.ext hxt
  replace d1 := d1.ext hxt
  replace extW := extW.trans hxt
  clear hxt
  go_upto_region 9 with (fail)
  refine at_world (fun V => Ext Wb V ∧ Box V Wb.heap.size 28 #[.bool false, .slice none 0 0, .bool false, .slice none 0 0, .bool false, .slice none 0 0, .bool false, .slice none 0 0]) ⟨(Ext.refl Wb).alloc _, Box.new Wb _ _⟩ ?_
  generalize Wb.heap.size = g9
  rintro Wbv ⟨EV, b9⟩
  replace bx := bx.ext EV
  replace by_ := by_.ext EV
  replace bz := bz.ext EV
  replace b7 := b7.ext EV
  replace d1 := d1.ext EV
  replace extW := extW.trans EV
  clear EV
  have k0 := bx.cell 0 (.bool sa1) rfl
  have k1 := bx.cell 1 (.slice Aa1 na1 ca1) rfl
  have k2 := bx.cell 2 (.bool ta1) rfl
  have k3 := bx.cell 3 (.slice Ba1 ma1 da1) rfl
  have k4 := bx.cell 4 (.bool sa2) rfl
  have k5 := bx.cell 5 (.slice Aa2 na2 ca2) rfl
  have k6 := bx.cell 6 (.bool ta2) rfl
  have k7 := bx.cell 7 (.slice Ba2 ma2 da2) rfl
  have x0 := by_.cell 0 (.bool sb1) rfl
  have x1 := by_.cell 1 (.slice Ab1 nb1 cb1) rfl
  have x2 := by_.cell 2 (.bool tb1) rfl
  have x3 := by_.cell 3 (.slice Bb1 mb1 db1) rfl
  have x4 := by_.cell 4 (.bool sb2) rfl
  have x5 := by_.cell 5 (.slice Ab2 nb2 cb2) rfl
  have x6 := by_.cell 6 (.bool tb2) rfl
  have x7 := by_.cell 7 (.slice Bb2 mb2 db2) rfl
  go_wp2_with fail
  refine (p_DivV_0 (h1.ext extW) (h0.ext extW) (by omega) HZ.out.1).mono ?_
  rintro e Wc ⟨rfl, hxt⟩
  clear k0 x0 k1 x1 k2 x2 k3 x3 k4 x4 k5 x5 k6 x6 k7 x7
  replace bx := bx.ext hxt
  replace by_ := by_.ext hxt
  replace bz := bz.ext hxt
  replace b7 := b7.ext hxt
  replace d1 := d1.ext hxt
  replace extW := extW.trans hxt
  clear hxt
  go_upto_region 10 with (fail)
  refine at_world (fun V => Ext Wc V ∧ Box V Wc.heap.size 28 #[.bool false, .slice none 0 0, .bool false, .slice none 0 0, .bool false, .slice none 0 0, .bool false, .slice none 0 0]) ⟨(Ext.refl Wc).alloc _, Box.new Wc _ _⟩ ?_
  generalize Wc.heap.size = g11
  rintro Wcv ⟨EV, b11⟩
  replace bx := bx.ext EV
  replace by_ := by_.ext EV
  replace bz := bz.ext EV
  replace b7 := b7.ext EV
  replace d1 := d1.ext EV
  replace extW := extW.trans EV
  clear EV
  go_wp2_with fail
  go_ret
  exact ⟨rfl, extW⟩
set_option maxHeartbeats 16000000 in
set_option maxRecDepth 100000 in
theorem mono3_0n {w : World} {sa1 ta1 sa2 ta2 : Bool} {Aa1 Ba1 Aa2 Ba2 : Option Addr} {na1 ca1 ma1 da1 na2 ca2 ma2 da2 : Nat} {xa1 ya1 xa2 ya2 : List Nat} {sb1 tb1 sb2 tb2 : Bool} {Ab1 Bb1 Ab2 Bb2 : Option Addr} {nb1 cb1 mb1 db1 nb2 cb2 mb2 db2 : Nat} {xb1 yb1 xb2 yb2 : List Nat} {sc1 tc1 sc2 tc2 : Bool} {Ac1 Bc1 Ac2 Bc2 : Option Addr} {nc1 cc1 mc1 dc1 nc2 cc2 mc2 dc2 : Nat} {xc1 yc1 xc2 yc2 : List Nat} {lo0 hi0 lo1 hi1 lo2 hi2 : Rat} (hA : Awake3) (hT : Tab w) (hr0 : RawV w Aa1 na1 ca1 xa1 Ba1 ma1 da1 ya1 Aa2 na2 ca2 xa2 Ba2 ma2 da2 ya2) (hr1 : RawV w Ab1 nb1 cb1 xb1 Bb1 mb1 db1 yb1 Ab2 nb2 cb2 xb2 Bb2 mb2 db2 yb2) (hr2 : RawV w Ac1 nc1 cc1 xc1 Bc1 mc1 dc1 yc1 Ac2 nc2 cc2 xc2 Bc2 mc2 dc2 yc2) (h0 : IV w lo0 hi0 10 sa1 Aa1 na1 ca1 ta1 Ba1 ma1 da1 sa2 Aa2 na2 ca2 ta2 Ba2 ma2 da2) (h1 : IV w lo1 hi1 10 sb1 Ab1 nb1 cb1 tb1 Bb1 mb1 db1 sb2 Ab2 nb2 cb2 tb2 Bb2 mb2 db2) (h2 : IV w lo2 hi2 10 sc1 Ac1 nc1 cc1 tc1 Bc1 mc1 dc1 sc2 Ac2 nc2 cc2 tc2 Bc2 mc2 dc2) (hd : lo1 ≤ hi1 ∧ mxR lo0 lo2 ≤ mnR hi0 hi2 ∧ lo0 ≤ hi0) (hz : inB (lo0) (hi0) ((0 : Int) : Rat) = true ∧ inB (mxR lo0 lo2) (mnR hi0 hi2) ((0 : Int) : Rat) = false) (hf0 : (fewV na1 ma1 na2 ma2 sa1 xa1 ta1 ya1 sa2 xa2 ta2 ya2 && (fewV nb1 mb1 nb2 mb2 sb1 xb1 tb1 yb1 sb2 xb2 tb2 yb2 && (fewV nc1 mc1 nc2 mc2 sc1 xc1 tc1 yc1 sc2 xc2 tc2 yc2))) = true) :
    Calls Tryz.prog 11 #[.agg #[.bool sa1, .slice Aa1 na1 ca1, .bool ta1, .slice Ba1 ma1 da1, .bool sa2, .slice Aa2 na2 ca2, .bool ta2, .slice Ba2 ma2 da2], .agg #[.bool sb1, .slice Ab1 nb1 cb1, .bool tb1, .slice Bb1 mb1 db1, .bool sb2, .slice Ab2 nb2 cb2, .bool tb2, .slice Bb2 mb2 db2], .agg #[.bool sc1, .slice Ac1 nc1 cc1, .bool tc1, .slice Bc1 mc1 dc1, .bool sc2, .slice Ac2 nc2 cc2, .bool tc2, .slice Bc2 mc2 dc2]] w fun e w' => e = .returned (.bool true) ∧ Ext w w' := by
  have HF0 := Lib.hid hf0
  clear hf0
  have HD := Lib.hid hd
  have HZ := Lib.hid hz
  clear hd hz
  have HA := Lib.hid hA
  clear hA
  go_enter Tryz.func11, Tryz.ntmps11
  go_upto_region 1 with (fail)
  obtain ⟨W0, hW, extW, bx, by_, bz, hzz⟩ := box3 w 28 28 28 #[.bool sa1, .slice Aa1 na1 ca1, .bool ta1, .slice Ba1 ma1 da1, .bool sa2, .slice Aa2 na2 ca2, .bool ta2, .slice Ba2 ma2 da2] #[.bool sb1, .slice Ab1 nb1 cb1, .bool tb1, .slice Bb1 mb1 db1, .bool sb2, .slice Ab2 nb2 cb2, .bool tb2, .slice Bb2 mb2 db2] #[.bool sc1, .slice Ac1 nc1 cc1, .bool tc1, .slice Bc1 mc1 dc1, .bool sc2, .slice Ac2 nc2 cc2, .bool tc2, .slice Bc2 mc2 dc2]
  rw [← hW]
  clear hW hzz
  go_wp2_with fail
  refine (HA.out _ (hT.ext extW)).mono ?_
  rintro e W ⟨rfl, hxt⟩
  replace bx := bx.ext hxt
  replace by_ := by_.ext hxt
  replace bz := bz.ext hxt
  replace extW := extW.trans hxt
  clear hxt
  have k0 := bx.cell 0 (.bool sa1) rfl
  have k1 := bx.cell 1 (.slice Aa1 na1 ca1) rfl
  have k2 := bx.cell 2 (.bool ta1) rfl
  have k3 := bx.cell 3 (.slice Ba1 ma1 da1) rfl
  have k4 := bx.cell 4 (.bool sa2) rfl
  have k5 := bx.cell 5 (.slice Aa2 na2 ca2) rfl
  have k6 := bx.cell 6 (.bool ta2) rfl
  have k7 := bx.cell 7 (.slice Ba2 ma2 da2) rfl
  have x0 := by_.cell 0 (.bool sb1) rfl
  have x1 := by_.cell 1 (.slice Ab1 nb1 cb1) rfl
  have x2 := by_.cell 2 (.bool tb1) rfl
  have x3 := by_.cell 3 (.slice Bb1 mb1 db1) rfl
  have x4 := by_.cell 4 (.bool sb2) rfl
  have x5 := by_.cell 5 (.slice Ab2 nb2 cb2) rfl
  have x6 := by_.cell 6 (.bool tb2) rfl
  have x7 := by_.cell 7 (.slice Bb2 mb2 db2) rfl
  have z0 := bz.cell 0 (.bool sc1) rfl
  have z1 := bz.cell 1 (.slice Ac1 nc1 cc1) rfl
  have z2 := bz.cell 2 (.bool tc1) rfl
  have z3 := bz.cell 3 (.slice Bc1 mc1 dc1) rfl
  have z4 := bz.cell 4 (.bool sc2) rfl
  have z5 := bz.cell 5 (.slice Ac2 nc2 cc2) rfl
  have z6 := bz.cell 6 (.bool tc2) rfl
  have z7 := bz.cell 7 (.slice Bc2 mc2 dc2) rfl
  have hnb := Box.new W 28 #[.bool sa1, .slice Aa1 na1 ca1, .bool ta1, .slice Ba1 ma1 da1, .bool sa2, .slice Aa2 na2 ca2, .bool ta2, .slice Ba2 ma2 da2, .bool sb1, .slice Ab1 nb1 cb1, .bool tb1, .slice Bb1 mb1 db1, .bool sb2, .slice Ab2 nb2 cb2, .bool tb2, .slice Bb2 mb2 db2, .bool sc1, .slice Ac1 nc1 cc1, .bool tc1, .slice Bc1 mc1 dc1, .bool sc2, .slice Ac2 nc2 cc2, .bool tc2, .slice Bc2 mc2 dc2]
  have e1 := (Ext.refl W).alloc (.cells #[.bool sa1, .slice Aa1 na1 ca1, .bool ta1, .slice Ba1 ma1 da1, .bool sa2, .slice Aa2 na2 ca2, .bool ta2, .slice Ba2 ma2 da2, .bool sb1, .slice Ab1 nb1 cb1, .bool tb1, .slice Bb1 mb1 db1, .bool sb2, .slice Ab2 nb2 cb2, .bool tb2, .slice Bb2 mb2 db2, .bool sc1, .slice Ac1 nc1 cc1, .bool tc1, .slice Bc1 mc1 dc1, .bool sc2, .slice Ac2 nc2 cc2, .bool tc2, .slice Bc2 mc2 dc2] 28)
  go_wp2_with fail
  refine (fewI3 hnb (hr0.ext (extW.trans e1)) (hr1.ext (extW.trans e1)) (hr2.ext (extW.trans e1))).mono ?_
  rintro e W1 ⟨rfl, hxt⟩
  rw [HF0.out]
  have ES := e1.trans hxt
  clear hnb e1 hxt
  clear k0 k1 k2 k3 k4 k5 k6 k7 x0 x1 x2 x3 x4 x5 x6 x7 z0 z1 z2 z3 z4 z5 z6 z7
  replace bx := bx.ext ES
  replace by_ := by_.ext ES
  replace bz := bz.ext ES
  replace extW := extW.trans ES
  clear ES
  have k0 := bx.cell 0 (.bool sa1) rfl
  have k1 := bx.cell 1 (.slice Aa1 na1 ca1) rfl
  have k2 := bx.cell 2 (.bool ta1) rfl
  have k3 := bx.cell 3 (.slice Ba1 ma1 da1) rfl
  have k4 := bx.cell 4 (.bool sa2) rfl
  have k5 := bx.cell 5 (.slice Aa2 na2 ca2) rfl
  have k6 := bx.cell 6 (.bool ta2) rfl
  have k7 := bx.cell 7 (.slice Ba2 ma2 da2) rfl
  have z0 := bz.cell 0 (.bool sc1) rfl
  have z1 := bz.cell 1 (.slice Ac1 nc1 cc1) rfl
  have z2 := bz.cell 2 (.bool tc1) rfl
  have z3 := bz.cell 3 (.slice Bc1 mc1 dc1) rfl
  have z4 := bz.cell 4 (.bool sc2) rfl
  have z5 := bz.cell 5 (.slice Ac2 nc2 cc2) rfl
  have z6 := bz.cell 6 (.bool tc2) rfl
  have z7 := bz.cell 7 (.slice Bc2 mc2 dc2) rfl
  go_wp2_with fail
  refine (q_MeetV (h0.ext extW) (h2.ext extW) (by omega)).mono ?_
  intro e Wa hmt
  obtain ⟨s1_, A1_, n1_, c1_, t1_, B1_, m1_, d1_, s1', A1', n1', c1', t1', B1', m1', d1', rfl, d1, hxt⟩ := hmt.yes HD.out.2.1
  clear hmt
  clear k0 z0 k1 z1 k2 z2 k3 z3 k4 z4 k5 z5 k6 z6 k7 z7
  replace bx := bx.ext hxt
  replace by_ := by_.ext hxt
  replace bz := bz.ext hxt
  replace extW := extW.trans hxt
  clear hxt
  have HQ := Lib.hid (And.intro (mxR_l lo0 lo2) (mnR_l hi0 hi2))
  generalize mxR lo0 lo2 = dl at d1 HD HQ HZ
  generalize mnR hi0 hi2 = dh at d1 HD HQ HZ
  go_upto_region 4 with (fail)
  refine at_world (fun V => Ext Wa V ∧ Box V Wa.heap.size 28 #[.bool s1_, .slice A1_ n1_ c1_, .bool t1_, .slice B1_ m1_ d1_, .bool s1', .slice A1' n1' c1', .bool t1', .slice B1' m1' d1'] ∧ IV V dl dh 10 s1_ A1_ n1_ c1_ t1_ B1_ m1_ d1_ s1' A1' n1' c1' t1' B1' m1' d1') ⟨(Ext.refl Wa).alloc _, Box.new Wa _ _, d1.ext ((Ext.refl Wa).alloc _)⟩ ?_
  generalize Wa.heap.size = g7
  clear d1
  rintro Wav ⟨EV, b7, d1⟩
  replace bx := bx.ext EV
  replace by_ := by_.ext EV
  replace bz := bz.ext EV
  replace extW := extW.trans EV
  clear EV
  go_upto_region 6 with (fail)
  have ES0 := Ext.refl Wav
  refine wp_region_held_drew (S := Ext Wav) (by kernel_rfl) ES0.drew (fun ES => ?_)
  clear ES0
  refine Late.start0 (fun _ _ _ _ _ => ⟨fun h => h, fun h => h⟩) ES (fun hAl hQ => ?_)
  refine Late.take (i := 0) (d := some 32) (v := ?v0_186) rfl rfl (by kernel_rfl) (by kernel_rfl) (by kernel_rfl) (by kernel_rfl) hQ (Or.inl ⟨by rfl, ?y0_186⟩) ?r0_186
  case y0_186 =>
    intro w' hSw
    have k00 := (bx.ext hSw).c8
    have k10 := (by_.ext hSw).c8
    have k20 := (b7.ext hSw).c8
    go_simp
    try with_reducible rfl
  try simp only [Act.put]
  try simp only [List.setIfInBounds_toArray]
  try simp only [List.set_cons_succ]
  try simp only [List.set_cons_zero]
  refine Late.take (i := 1) (d := some 33) (v := ?v1_187) rfl rfl (by kernel_rfl) (by kernel_rfl) (by kernel_rfl) (by kernel_rfl) hQ (Or.inl ⟨by rfl, ?y1_187⟩) ?r1_187
  case y1_187 =>
    intro w' hSw
    have k00 := (bx.ext hSw).c8
    have k10 := (by_.ext hSw).c8
    have k20 := (b7.ext hSw).c8
    go_simp
    try with_reducible rfl
  try simp only [Act.put]
  try simp only [List.setIfInBounds_toArray]
  try simp only [List.set_cons_succ]
  try simp only [List.set_cons_zero]
  refine Late.take (i := 3) (d := some 35) (v := ?v3_188) rfl rfl (by kernel_rfl) (by kernel_rfl) (by kernel_rfl) (by kernel_rfl) hQ (Or.inl ⟨by rfl, ?y3_188⟩) ?r3_188
  case y3_188 =>
    intro w' hSw
    have k00 := (bx.ext hSw).c8
    have k10 := (by_.ext hSw).c8
    have k20 := (b7.ext hSw).c8
    go_simp
    try with_reducible rfl
  try simp only [Act.put]
  try simp only [List.setIfInBounds_toArray]
  try simp only [List.set_cons_succ]
  try simp only [List.set_cons_zero]
  refine Late.take (i := 4) (d := some 36) (v := ?v4_189) rfl rfl (by kernel_rfl) (by kernel_rfl) (by kernel_rfl) (by kernel_rfl) hQ (Or.inl ⟨by rfl, ?y4_189⟩) ?r4_189
  case y4_189 =>
    intro w' hSw
    have k00 := (bx.ext hSw).c8
    have k10 := (by_.ext hSw).c8
    have k20 := (b7.ext hSw).c8
    go_simp
    try with_reducible rfl
  try simp only [Act.put]
  try simp only [List.setIfInBounds_toArray]
  try simp only [List.set_cons_succ]
  try simp only [List.set_cons_zero]
  refine Late.call (i := 2) rfl (by kernel_rfl) hAl (by kernel_rfl) (by kernel_rfl) (by kernel_rfl) hQ (fun w2 e2 E2 K hK => ?_)
  go_simp
  (go_at_call 17; refine (p_AddV (d1.ext E2) (h1.ext (extW.trans E2)) (by omega) (by omega) (hT.ext (extW.trans E2))).mono ?_; rintro e wk2 ⟨la3, ha3, hu3, s3_, A3_, n3_, c3_, t3_, B3_, m3_, d3_, s3', A3', n3', c3', t3', B3', m3', d3', rfl, y3, hx2⟩; have HU3 := Lib.hid hu3; clear hu3)
  refine hK.out _ _ hx2 ?_
  clear hK K
  try simp only [Act.put]
  try simp only [List.setIfInBounds_toArray]
  try simp only [List.set_cons_succ]
  try simp only [List.set_cons_zero]
  refine Late.call (i := 5) rfl (by kernel_rfl) hAl (by kernel_rfl) (by kernel_rfl) (by kernel_rfl) hQ (fun w5 e5 E5 K hK => ?_)
  go_simp
  (replace y3 := y3.ext e5; go_at_call 17; refine (p_AddV (h0.ext (extW.trans E5)) (h1.ext (extW.trans E5)) (by omega) (by omega) (hT.ext (extW.trans E5))).mono ?_; rintro e wk5 ⟨la4, ha4, hu4, s4_, A4_, n4_, c4_, t4_, B4_, m4_, d4_, s4', A4', n4', c4', t4', B4', m4', d4', rfl, y4, hx5⟩; replace y3 := y3.ext hx5; have HU4 := Lib.hid hu4; clear hu4)
  refine hK.out _ _ hx5 ?_
  clear hK K
  try simp only [Act.put]
  try simp only [List.setIfInBounds_toArray]
  try simp only [List.set_cons_succ]
  try simp only [List.set_cons_zero]
  refine Late.call (i := 6) rfl (by kernel_rfl) hAl (by kernel_rfl) (by kernel_rfl) (by kernel_rfl) hQ (fun w6 e6 E6 K hK => ?_)
  go_simp
  (replace y3 := y3.ext e6; replace y4 := y4.ext e6; go_at_call 33; refine (p_Within y3 y4 (by omega) (by omega)).mono ?_; rintro e wk6 ⟨rfl, hx6⟩; replace y3 := y3.ext hx6; replace y4 := y4.ext hx6; rw [within_of (fun _ _ => add_four HU4.out.four) HU3.out HQ.out.1 HD.out.2.1 HQ.out.2 Rat.le_refl HD.out.1 Rat.le_refl])
  refine hK.out _ _ hx6 ?_
  clear hK K
  try simp only [Act.put]
  try simp only [List.setIfInBounds_toArray]
  try simp only [List.set_cons_succ]
  try simp only [List.set_cons_zero]
  refine Late.take (i := 7) (d := some 39) (v := ?v7_190) rfl rfl (by kernel_rfl) (by kernel_rfl) (by kernel_rfl) (by kernel_rfl) hQ (Or.inl ⟨by rfl, ?y7_190⟩) ?r7_190
  case y7_190 =>
    intro w' hSw
    have k00 := (bx.ext hSw).c8
    have k10 := (by_.ext hSw).c8
    have k20 := (b7.ext hSw).c8
    go_simp
    try with_reducible rfl
  try simp only [Act.put]
  try simp only [List.setIfInBounds_toArray]
  try simp only [List.set_cons_succ]
  try simp only [List.set_cons_zero]
  refine Late.take (i := 8) (d := some 40) (v := ?v8_191) rfl rfl (by kernel_rfl) (by kernel_rfl) (by kernel_rfl) (by kernel_rfl) hQ (Or.inl ⟨by rfl, ?y8_191⟩) ?r8_191
  case y8_191 =>
    intro w' hSw
    have k00 := (bx.ext hSw).c8
    have k10 := (by_.ext hSw).c8
    have k20 := (b7.ext hSw).c8
    go_simp
    try with_reducible rfl
  try simp only [Act.put]
  try simp only [List.setIfInBounds_toArray]
  try simp only [List.set_cons_succ]
  try simp only [List.set_cons_zero]
  refine Late.take (i := 9) (d := some 41) (v := ?v9_192) rfl rfl (by kernel_rfl) (by kernel_rfl) (by kernel_rfl) (by kernel_rfl) hQ (Or.inl ⟨by rfl, ?y9_192⟩) ?r9_192
  case y9_192 =>
    intro w' hSw
    have k00 := (bx.ext hSw).c8
    have k10 := (by_.ext hSw).c8
    have k20 := (b7.ext hSw).c8
    go_simp
    try with_reducible rfl
  try simp only [Act.put]
  try simp only [List.setIfInBounds_toArray]
  try simp only [List.set_cons_succ]
  try simp only [List.set_cons_zero]
  refine Late.take (i := 10) (d := some 42) (v := ?v10_193) rfl rfl (by kernel_rfl) (by kernel_rfl) (by kernel_rfl) (by kernel_rfl) hQ (Or.inl ⟨by rfl, ?y10_193⟩) ?r10_193
  case y10_193 =>
    intro w' hSw
    have k00 := (bx.ext hSw).c8
    have k10 := (by_.ext hSw).c8
    have k20 := (b7.ext hSw).c8
    go_simp
    try with_reducible rfl
  try simp only [Act.put]
  try simp only [List.setIfInBounds_toArray]
  try simp only [List.set_cons_succ]
  try simp only [List.set_cons_zero]
  refine Late.take (i := 12) (d := some 44) (v := ?v12_194) rfl rfl (by kernel_rfl) (by kernel_rfl) (by kernel_rfl) (by kernel_rfl) hQ (Or.inl ⟨by rfl, ?y12_194⟩) ?r12_194
  case y12_194 =>
    intro w' hSw
    have k00 := (bx.ext hSw).c8
    have k10 := (by_.ext hSw).c8
    have k20 := (b7.ext hSw).c8
    go_simp
    try with_reducible rfl
  try simp only [Act.put]
  try simp only [List.setIfInBounds_toArray]
  try simp only [List.set_cons_succ]
  try simp only [List.set_cons_zero]
  refine Late.take (i := 13) (d := some 45) (v := ?v13_195) rfl rfl (by kernel_rfl) (by kernel_rfl) (by kernel_rfl) (by kernel_rfl) hQ (Or.inl ⟨by rfl, ?y13_195⟩) ?r13_195
  case y13_195 =>
    intro w' hSw
    have k00 := (bx.ext hSw).c8
    have k10 := (by_.ext hSw).c8
    have k20 := (b7.ext hSw).c8
    go_simp
    try with_reducible rfl
  try simp only [Act.put]
  try simp only [List.setIfInBounds_toArray]
  try simp only [List.set_cons_succ]
  try simp only [List.set_cons_zero]
  refine Late.call (i := 11) rfl (by kernel_rfl) hAl (by kernel_rfl) (by kernel_rfl) (by kernel_rfl) hQ (fun w11 e11 E11 K hK => ?_)
  go_simp
  (replace y3 := y3.ext e11; replace y4 := y4.ext e11; go_at_call 26; refine (p_MulV (d1.ext E11) (h1.ext (extW.trans E11)) (by omega) (by omega) (hT.ext (extW.trans E11))).mono ?_; rintro e wk11 ⟨la5, ha5, hu5, s5_, A5_, n5_, c5_, t5_, B5_, m5_, d5_, s5', A5', n5', c5', t5', B5', m5', d5', rfl, y5, hx11⟩; replace y3 := y3.ext hx11; replace y4 := y4.ext hx11; have HU5 := Lib.hid hu5; clear hu5)
  refine hK.out _ _ hx11 ?_
  clear hK K
  try simp only [Act.put]
  try simp only [List.setIfInBounds_toArray]
  try simp only [List.set_cons_succ]
  try simp only [List.set_cons_zero]
  refine Late.call (i := 14) rfl (by kernel_rfl) hAl (by kernel_rfl) (by kernel_rfl) (by kernel_rfl) hQ (fun w14 e14 E14 K hK => ?_)
  go_simp
  (replace y3 := y3.ext e14; replace y4 := y4.ext e14; replace y5 := y5.ext e14; go_at_call 26; refine (p_MulV (h0.ext (extW.trans E14)) (h1.ext (extW.trans E14)) (by omega) (by omega) (hT.ext (extW.trans E14))).mono ?_; rintro e wk14 ⟨la6, ha6, hu6, s6_, A6_, n6_, c6_, t6_, B6_, m6_, d6_, s6', A6', n6', c6', t6', B6', m6', d6', rfl, y6, hx14⟩; replace y3 := y3.ext hx14; replace y4 := y4.ext hx14; replace y5 := y5.ext hx14; have HU6 := Lib.hid hu6; clear hu6)
  refine hK.out _ _ hx14 ?_
  clear hK K
  try simp only [Act.put]
  try simp only [List.setIfInBounds_toArray]
  try simp only [List.set_cons_succ]
  try simp only [List.set_cons_zero]
  refine Late.call (i := 15) rfl (by kernel_rfl) hAl (by kernel_rfl) (by kernel_rfl) (by kernel_rfl) hQ (fun w15 e15 E15 K hK => ?_)
  go_simp
  (replace y3 := y3.ext e15; replace y4 := y4.ext e15; replace y5 := y5.ext e15; replace y6 := y6.ext e15; go_at_call 33; refine (p_Within y5 y6 (by omega) (by omega)).mono ?_; rintro e wk15 ⟨rfl, hx15⟩; replace y3 := y3.ext hx15; replace y4 := y4.ext hx15; replace y5 := y5.ext hx15; replace y6 := y6.ext hx15; rw [within_of (fun _ _ => mul_four HU6.out.four) HU5.out HQ.out.1 HD.out.2.1 HQ.out.2 Rat.le_refl HD.out.1 Rat.le_refl])
  refine hK.out _ _ hx15 ?_
  clear hK K
  try simp only [Act.put]
  try simp only [List.setIfInBounds_toArray]
  try simp only [List.set_cons_succ]
  try simp only [List.set_cons_zero]
  refine Late.take (i := 16) (d := some 48) (v := ?v16_196) rfl rfl (by kernel_rfl) (by kernel_rfl) (by kernel_rfl) (by kernel_rfl) hQ (Or.inl ⟨by rfl, ?y16_196⟩) ?r16_196
  case y16_196 =>
    intro w' hSw
    have k00 := (bx.ext hSw).c8
    have k10 := (by_.ext hSw).c8
    have k20 := (b7.ext hSw).c8
    go_simp
    try with_reducible rfl
  try simp only [Act.put]
  try simp only [List.setIfInBounds_toArray]
  try simp only [List.set_cons_succ]
  try simp only [List.set_cons_zero]
  refine Late.take (i := 17) (d := some 49) (v := ?v17_197) rfl rfl (by kernel_rfl) (by kernel_rfl) (by kernel_rfl) (by kernel_rfl) hQ (Or.inl ⟨by rfl, ?y17_197⟩) ?r17_197
  case y17_197 =>
    intro w' hSw
    have k00 := (bx.ext hSw).c8
    have k10 := (by_.ext hSw).c8
    have k20 := (b7.ext hSw).c8
    go_simp
    try with_reducible rfl
  try simp only [Act.put]
  try simp only [List.setIfInBounds_toArray]
  try simp only [List.set_cons_succ]
  try simp only [List.set_cons_zero]
  refine Late.take (i := 18) (d := some 50) (v := ?v18_198) rfl rfl (by kernel_rfl) (by kernel_rfl) (by kernel_rfl) (by kernel_rfl) hQ (Or.inl ⟨by rfl, ?y18_198⟩) ?r18_198
  case y18_198 =>
    intro w' hSw
    have k00 := (bx.ext hSw).c8
    have k10 := (by_.ext hSw).c8
    have k20 := (b7.ext hSw).c8
    go_simp
    try with_reducible rfl
  try simp only [Act.put]
  try simp only [List.setIfInBounds_toArray]
  try simp only [List.set_cons_succ]
  try simp only [List.set_cons_zero]
  refine Late.take (i := 19) (d := some 51) (v := ?v19_199) rfl rfl (by kernel_rfl) (by kernel_rfl) (by kernel_rfl) (by kernel_rfl) hQ (Or.inl ⟨by rfl, ?y19_199⟩) ?r19_199
  case y19_199 =>
    intro w' hSw
    have k00 := (bx.ext hSw).c8
    have k10 := (by_.ext hSw).c8
    have k20 := (b7.ext hSw).c8
    go_simp
    try with_reducible rfl
  try simp only [Act.put]
  try simp only [List.setIfInBounds_toArray]
  try simp only [List.set_cons_succ]
  try simp only [List.set_cons_zero]
  refine Late.take (i := 20) (d := some 52) (v := ?v20_200) rfl rfl (by kernel_rfl) (by kernel_rfl) (by kernel_rfl) (by kernel_rfl) hQ (Or.inl ⟨by rfl, ?y20_200⟩) ?r20_200
  case y20_200 =>
    intro w' hSw
    have k00 := (bx.ext hSw).c8
    have k10 := (by_.ext hSw).c8
    have k20 := (b7.ext hSw).c8
    go_simp
    try with_reducible rfl
  try simp only [Act.put]
  try simp only [List.setIfInBounds_toArray]
  try simp only [List.set_cons_succ]
  try simp only [List.set_cons_zero]
  refine Late.take (i := 22) (d := some 54) (v := ?v22_201) rfl rfl (by kernel_rfl) (by kernel_rfl) (by kernel_rfl) (by kernel_rfl) hQ (Or.inl ⟨by rfl, ?y22_201⟩) ?r22_201
  case y22_201 =>
    intro w' hSw
    have k00 := (bx.ext hSw).c8
    have k10 := (by_.ext hSw).c8
    have k20 := (b7.ext hSw).c8
    go_simp
    try with_reducible rfl
  try simp only [Act.put]
  try simp only [List.setIfInBounds_toArray]
  try simp only [List.set_cons_succ]
  try simp only [List.set_cons_zero]
  refine Late.take (i := 23) (d := some 55) (v := ?v23_202) rfl rfl (by kernel_rfl) (by kernel_rfl) (by kernel_rfl) (by kernel_rfl) hQ (Or.inl ⟨by rfl, ?y23_202⟩) ?r23_202
  case y23_202 =>
    intro w' hSw
    have k00 := (bx.ext hSw).c8
    have k10 := (by_.ext hSw).c8
    have k20 := (b7.ext hSw).c8
    go_simp
    try with_reducible rfl
  try simp only [Act.put]
  try simp only [List.setIfInBounds_toArray]
  try simp only [List.set_cons_succ]
  try simp only [List.set_cons_zero]
  refine Late.call (i := 21) rfl (by kernel_rfl) hAl (by kernel_rfl) (by kernel_rfl) (by kernel_rfl) hQ (fun w21 e21 E21 K hK => ?_)
  go_simp
  (replace y3 := y3.ext e21; replace y4 := y4.ext e21; replace y5 := y5.ext e21; replace y6 := y6.ext e21; go_at_call 19; refine (p_SubV (h1.ext (extW.trans E21)) (d1.ext E21) (by omega) (by omega) (hT.ext (extW.trans E21))).mono ?_; rintro e wk21 ⟨la7, ha7, hu7, s7_, A7_, n7_, c7_, t7_, B7_, m7_, d7_, s7', A7', n7', c7', t7', B7', m7', d7', rfl, y7, hx21⟩; replace y3 := y3.ext hx21; replace y4 := y4.ext hx21; replace y5 := y5.ext hx21; replace y6 := y6.ext hx21; have HU7 := Lib.hid hu7; clear hu7)
  refine hK.out _ _ hx21 ?_
  clear hK K
  try simp only [Act.put]
  try simp only [List.setIfInBounds_toArray]
  try simp only [List.set_cons_succ]
  try simp only [List.set_cons_zero]
  refine Late.call (i := 24) rfl (by kernel_rfl) hAl (by kernel_rfl) (by kernel_rfl) (by kernel_rfl) hQ (fun w24 e24 E24 K hK => ?_)
  go_simp
  (replace y3 := y3.ext e24; replace y4 := y4.ext e24; replace y5 := y5.ext e24; replace y6 := y6.ext e24; replace y7 := y7.ext e24; go_at_call 19; refine (p_SubV (h1.ext (extW.trans E24)) (h0.ext (extW.trans E24)) (by omega) (by omega) (hT.ext (extW.trans E24))).mono ?_; rintro e wk24 ⟨la8, ha8, hu8, s8_, A8_, n8_, c8_, t8_, B8_, m8_, d8_, s8', A8', n8', c8', t8', B8', m8', d8', rfl, y8, hx24⟩; replace y3 := y3.ext hx24; replace y4 := y4.ext hx24; replace y5 := y5.ext hx24; replace y6 := y6.ext hx24; replace y7 := y7.ext hx24; have HU8 := Lib.hid hu8; clear hu8)
  refine hK.out _ _ hx24 ?_
  clear hK K
  try simp only [Act.put]
  try simp only [List.setIfInBounds_toArray]
  try simp only [List.set_cons_succ]
  try simp only [List.set_cons_zero]
  refine Late.call (i := 25) rfl (by kernel_rfl) hAl (by kernel_rfl) (by kernel_rfl) (by kernel_rfl) hQ (fun w25 e25 E25 K hK => ?_)
  go_simp
  (replace y3 := y3.ext e25; replace y4 := y4.ext e25; replace y5 := y5.ext e25; replace y6 := y6.ext e25; replace y7 := y7.ext e25; replace y8 := y8.ext e25; go_at_call 33; refine (p_Within y7 y8 (by omega) (by omega)).mono ?_; rintro e wk25 ⟨rfl, hx25⟩; replace y3 := y3.ext hx25; replace y4 := y4.ext hx25; replace y5 := y5.ext hx25; replace y6 := y6.ext hx25; replace y7 := y7.ext hx25; replace y8 := y8.ext hx25; rw [within_of (fun _ _ => sub_four HU8.out.four) HU7.out Rat.le_refl HD.out.1 Rat.le_refl HQ.out.1 HD.out.2.1 HQ.out.2])
  refine hK.out _ _ hx25 ?_
  clear hK K
  try simp only [Act.put]
  try simp only [List.setIfInBounds_toArray]
  try simp only [List.set_cons_succ]
  try simp only [List.set_cons_zero]
  refine Late.take (i := 26) (d := some 58) (v := ?v26_203) rfl rfl (by kernel_rfl) (by kernel_rfl) (by kernel_rfl) (by kernel_rfl) hQ (Or.inl ⟨by rfl, ?y26_203⟩) ?r26_203
  case y26_203 =>
    intro w' hSw
    have k00 := (bx.ext hSw).c8
    have k10 := (by_.ext hSw).c8
    have k20 := (b7.ext hSw).c8
    go_simp
    try with_reducible rfl
  try simp only [Act.put]
  try simp only [List.setIfInBounds_toArray]
  try simp only [List.set_cons_succ]
  try simp only [List.set_cons_zero]
  refine Late.take (i := 27) (d := some 59) (v := ?v27_204) rfl rfl (by kernel_rfl) (by kernel_rfl) (by kernel_rfl) (by kernel_rfl) hQ (Or.inl ⟨by rfl, ?y27_204⟩) ?r27_204
  case y27_204 =>
    intro w' hSw
    have k00 := (bx.ext hSw).c8
    have k10 := (by_.ext hSw).c8
    have k20 := (b7.ext hSw).c8
    go_simp
    try with_reducible rfl
  try simp only [Act.put]
  try simp only [List.setIfInBounds_toArray]
  try simp only [List.set_cons_succ]
  try simp only [List.set_cons_zero]
  refine Late.done0 (by kernel_rfl) (fun wz ez Ez => ?_)
  clear hAl hQ ES
  replace bx := bx.ext Ez
  replace by_ := by_.ext Ez
  replace bz := bz.ext Ez
  replace b7 := b7.ext Ez
  replace d1 := d1.ext Ez
  replace extW := extW.trans Ez
  clear Ez ez
  clear y3 HU3
  clear y4 HU4
  clear y5 HU5
  clear y6 HU6
  clear y7 HU7
  clear y8 HU8
  have x0 := by_.cell 0 (.bool sb1) rfl
  have x1 := by_.cell 1 (.slice Ab1 nb1 cb1) rfl
  have x2 := by_.cell 2 (.bool tb1) rfl
  have x3 := by_.cell 3 (.slice Bb1 mb1 db1) rfl
  have x4 := by_.cell 4 (.bool sb2) rfl
  have x5 := by_.cell 5 (.slice Ab2 nb2 cb2) rfl
  have x6 := by_.cell 6 (.bool tb2) rfl
  have x7 := by_.cell 7 (.slice Bb2 mb2 db2) rfl
  have z0 := b7.cell 0 (.bool s1_) rfl
  have z1 := b7.cell 1 (.slice A1_ n1_ c1_) rfl
  have z2 := b7.cell 2 (.bool t1_) rfl
  have z3 := b7.cell 3 (.slice B1_ m1_ d1_) rfl
  have z4 := b7.cell 4 (.bool s1') rfl
  have z5 := b7.cell 5 (.slice A1' n1' c1') rfl
  have z6 := b7.cell 6 (.bool t1') rfl
  have z7 := b7.cell 7 (.slice B1' m1' d1') rfl
  go_wp2_with fail
  refine (p_DivV_nz (h1.ext extW) d1 (by omega) (by omega) (hT.ext extW) HD.out.2.1 HZ.out.2).mono ?_
  rintro e Wb ⟨lb1, hb1, hu1, s9_, A9_, n9_, c9_, t9_, B9_, m9_, d9_, s9', A9', n9', c9', t9', B9', m9', d9', rfl, v1, hxt⟩
  have HV1 := Lib.hid hu1
  clear hu1
  clear x0 z0 x1 z1 x2 z2 x3 z3 x4 z4 x5 z5 x6 z6 x7 z7
  replace bx := bx.ext hxt
  replace by_ := by_.ext hxt
  replace bz := bz.ext hxt
  replace b7 := b7.ext hxt
  replace d1 := d1.ext hxt
  replace extW := extW.trans hxt
  clear hxt
  go_upto_region 9 with (fail)
  refine at_world (fun V => Ext Wb V ∧ Box V Wb.heap.size 28 #[.bool s9_, .slice A9_ n9_ c9_, .bool t9_, .slice B9_ m9_ d9_, .bool s9', .slice A9' n9' c9', .bool t9', .slice B9' m9' d9'] ∧ IV V lb1 hb1 (10 + 10) s9_ A9_ n9_ c9_ t9_ B9_ m9_ d9_ s9' A9' n9' c9' t9' B9' m9' d9') ⟨(Ext.refl Wb).alloc _, Box.new Wb _ _, v1.ext ((Ext.refl Wb).alloc _)⟩ ?_
  generalize Wb.heap.size = g9
  clear v1
  rintro Wbv ⟨EV, b9, v1⟩
  replace bx := bx.ext EV
  replace by_ := by_.ext EV
  replace bz := bz.ext EV
  replace b7 := b7.ext EV
  replace d1 := d1.ext EV
  replace extW := extW.trans EV
  clear EV
  have k0 := bx.cell 0 (.bool sa1) rfl
  have k1 := bx.cell 1 (.slice Aa1 na1 ca1) rfl
  have k2 := bx.cell 2 (.bool ta1) rfl
  have k3 := bx.cell 3 (.slice Ba1 ma1 da1) rfl
  have k4 := bx.cell 4 (.bool sa2) rfl
  have k5 := bx.cell 5 (.slice Aa2 na2 ca2) rfl
  have k6 := bx.cell 6 (.bool ta2) rfl
  have k7 := bx.cell 7 (.slice Ba2 ma2 da2) rfl
  have x0 := by_.cell 0 (.bool sb1) rfl
  have x1 := by_.cell 1 (.slice Ab1 nb1 cb1) rfl
  have x2 := by_.cell 2 (.bool tb1) rfl
  have x3 := by_.cell 3 (.slice Bb1 mb1 db1) rfl
  have x4 := by_.cell 4 (.bool sb2) rfl
  have x5 := by_.cell 5 (.slice Ab2 nb2 cb2) rfl
  have x6 := by_.cell 6 (.bool tb2) rfl
  have x7 := by_.cell 7 (.slice Bb2 mb2 db2) rfl
  go_wp2_with fail
  refine (p_DivV_0 (h1.ext extW) (h0.ext extW) (by omega) HZ.out.1).mono ?_
  rintro e Wc ⟨rfl, hxt⟩
  clear k0 x0 k1 x1 k2 x2 k3 x3 k4 x4 k5 x5 k6 x6 k7 x7
  replace bx := bx.ext hxt
  replace by_ := by_.ext hxt
  replace bz := bz.ext hxt
  replace b7 := b7.ext hxt
  replace d1 := d1.ext hxt
  replace b9 := b9.ext hxt
  replace v1 := v1.ext hxt
  replace extW := extW.trans hxt
  clear hxt
  go_upto_region 10 with (fail)
  refine at_world (fun V => Ext Wc V ∧ Box V Wc.heap.size 28 #[.bool false, .slice none 0 0, .bool false, .slice none 0 0, .bool false, .slice none 0 0, .bool false, .slice none 0 0]) ⟨(Ext.refl Wc).alloc _, Box.new Wc _ _⟩ ?_
  generalize Wc.heap.size = g11
  rintro Wcv ⟨EV, b11⟩
  replace bx := bx.ext EV
  replace by_ := by_.ext EV
  replace bz := bz.ext EV
  replace b7 := b7.ext EV
  replace d1 := d1.ext EV
  replace b9 := b9.ext EV
  replace v1 := v1.ext EV
  replace extW := extW.trans EV
  clear EV
  go_wp2_with fail
  go_ret
  exact ⟨rfl, extW⟩
set_option maxHeartbeats 16000000 in
set_option maxRecDepth 100000 in
theorem mono3_nn {w : World} {sa1 ta1 sa2 ta2 : Bool} {Aa1 Ba1 Aa2 Ba2 : Option Addr} {na1 ca1 ma1 da1 na2 ca2 ma2 da2 : Nat} {xa1 ya1 xa2 ya2 : List Nat} {sb1 tb1 sb2 tb2 : Bool} {Ab1 Bb1 Ab2 Bb2 : Option Addr} {nb1 cb1 mb1 db1 nb2 cb2 mb2 db2 : Nat} {xb1 yb1 xb2 yb2 : List Nat} {sc1 tc1 sc2 tc2 : Bool} {Ac1 Bc1 Ac2 Bc2 : Option Addr} {nc1 cc1 mc1 dc1 nc2 cc2 mc2 dc2 : Nat} {xc1 yc1 xc2 yc2 : List Nat} {lo0 hi0 lo1 hi1 lo2 hi2 : Rat} (hA : Awake3) (hT : Tab w) (hr0 : RawV w Aa1 na1 ca1 xa1 Ba1 ma1 da1 ya1 Aa2 na2 ca2 xa2 Ba2 ma2 da2 ya2) (hr1 : RawV w Ab1 nb1 cb1 xb1 Bb1 mb1 db1 yb1 Ab2 nb2 cb2 xb2 Bb2 mb2 db2 yb2) (hr2 : RawV w Ac1 nc1 cc1 xc1 Bc1 mc1 dc1 yc1 Ac2 nc2 cc2 xc2 Bc2 mc2 dc2 yc2) (h0 : IV w lo0 hi0 10 sa1 Aa1 na1 ca1 ta1 Ba1 ma1 da1 sa2 Aa2 na2 ca2 ta2 Ba2 ma2 da2) (h1 : IV w lo1 hi1 10 sb1 Ab1 nb1 cb1 tb1 Bb1 mb1 db1 sb2 Ab2 nb2 cb2 tb2 Bb2 mb2 db2) (h2 : IV w lo2 hi2 10 sc1 Ac1 nc1 cc1 tc1 Bc1 mc1 dc1 sc2 Ac2 nc2 cc2 tc2 Bc2 mc2 dc2) (hd : lo1 ≤ hi1 ∧ mxR lo0 lo2 ≤ mnR hi0 hi2 ∧ lo0 ≤ hi0) (hz : inB (lo0) (hi0) ((0 : Int) : Rat) = false ∧ inB (mxR lo0 lo2) (mnR hi0 hi2) ((0 : Int) : Rat) = false) (hf0 : (fewV na1 ma1 na2 ma2 sa1 xa1 ta1 ya1 sa2 xa2 ta2 ya2 && (fewV nb1 mb1 nb2 mb2 sb1 xb1 tb1 yb1 sb2 xb2 tb2 yb2 && (fewV nc1 mc1 nc2 mc2 sc1 xc1 tc1 yc1 sc2 xc2 tc2 yc2))) = true) :
    Calls Tryz.prog 11 #[.agg #[.bool sa1, .slice Aa1 na1 ca1, .bool ta1, .slice Ba1 ma1 da1, .bool sa2, .slice Aa2 na2 ca2, .bool ta2, .slice Ba2 ma2 da2], .agg #[.bool sb1, .slice Ab1 nb1 cb1, .bool tb1, .slice Bb1 mb1 db1, .bool sb2, .slice Ab2 nb2 cb2, .bool tb2, .slice Bb2 mb2 db2], .agg #[.bool sc1, .slice Ac1 nc1 cc1, .bool tc1, .slice Bc1 mc1 dc1, .bool sc2, .slice Ac2 nc2 cc2, .bool tc2, .slice Bc2 mc2 dc2]] w fun e w' => e = .returned (.bool true) ∧ Ext w w' := by
  have HF0 := Lib.hid hf0
  clear hf0
  have HD := Lib.hid hd
  have HZ := Lib.hid hz
  clear hd hz
  have HA := Lib.hid hA
  clear hA
  go_enter Tryz.func11, Tryz.ntmps11
  go_upto_region 1 with (fail)
  obtain ⟨W0, hW, extW, bx, by_, bz, hzz⟩ := box3 w 28 28 28 #[.bool sa1, .slice Aa1 na1 ca1, .bool ta1, .slice Ba1 ma1 da1, .bool sa2, .slice Aa2 na2 ca2, .bool ta2, .slice Ba2 ma2 da2] #[.bool sb1, .slice Ab1 nb1 cb1, .bool tb1, .slice Bb1 mb1 db1, .bool sb2, .slice Ab2 nb2 cb2, .bool tb2, .slice Bb2 mb2 db2] #[.bool sc1, .slice Ac1 nc1 cc1, .bool tc1, .slice Bc1 mc1 dc1, .bool sc2, .slice Ac2 nc2 cc2, .bool tc2, .slice Bc2 mc2 dc2]
  rw [← hW]
  clear hW hzz
  go_wp2_with fail
  refine (HA.out _ (hT.ext extW)).mono ?_
  rintro e W ⟨rfl, hxt⟩
  replace bx := bx.ext hxt
  replace by_ := by_.ext hxt
  replace bz := bz.ext hxt
  replace extW := extW.trans hxt
  clear hxt
  have k0 := bx.cell 0 (.bool sa1) rfl
  have k1 := bx.cell 1 (.slice Aa1 na1 ca1) rfl
  have k2 := bx.cell 2 (.bool ta1) rfl
  have k3 := bx.cell 3 (.slice Ba1 ma1 da1) rfl
  have k4 := bx.cell 4 (.bool sa2) rfl
  have k5 := bx.cell 5 (.slice Aa2 na2 ca2) rfl
  have k6 := bx.cell 6 (.bool ta2) rfl
  have k7 := bx.cell 7 (.slice Ba2 ma2 da2) rfl
  have x0 := by_.cell 0 (.bool sb1) rfl
  have x1 := by_.cell 1 (.slice Ab1 nb1 cb1) rfl
  have x2 := by_.cell 2 (.bool tb1) rfl
  have x3 := by_.cell 3 (.slice Bb1 mb1 db1) rfl
  have x4 := by_.cell 4 (.bool sb2) rfl
  have x5 := by_.cell 5 (.slice Ab2 nb2 cb2) rfl
  have x6 := by_.cell 6 (.bool tb2) rfl
  have x7 := by_.cell 7 (.slice Bb2 mb2 db2) rfl
  have z0 := bz.cell 0 (.bool sc1) rfl
  have z1 := bz.cell 1 (.slice Ac1 nc1 cc1) rfl
  have z2 := bz.cell 2 (.bool tc1) rfl
  have z3 := bz.cell 3 (.slice Bc1 mc1 dc1) rfl
  have z4 := bz.cell 4 (.bool sc2) rfl
  have z5 := bz.cell 5 (.slice Ac2 nc2 cc2) rfl
  have z6 := bz.cell 6 (.bool tc2) rfl
  have z7 := bz.cell 7 (.slice Bc2 mc2 dc2) rfl
  have hnb := Box.new W 28 #[.bool sa1, .slice Aa1 na1 ca1, .bool ta1, .slice Ba1 ma1 da1, .bool sa2, .slice Aa2 na2 ca2, .bool ta2, .slice Ba2 ma2 da2, .bool sb1, .slice Ab1 nb1 cb1, .bool tb1, .slice Bb1 mb1 db1, .bool sb2, .slice Ab2 nb2 cb2, .bool tb2, .slice Bb2 mb2 db2, .bool sc1, .slice Ac1 nc1 cc1, .bool tc1, .slice Bc1 mc1 dc1, .bool sc2, .slice Ac2 nc2 cc2, .bool tc2, .slice Bc2 mc2 dc2]
  have e1 := (Ext.refl W).alloc (.cells #[.bool sa1, .slice Aa1 na1 ca1, .bool ta1, .slice Ba1 ma1 da1, .bool sa2, .slice Aa2 na2 ca2, .bool ta2, .slice Ba2 ma2 da2, .bool sb1, .slice Ab1 nb1 cb1, .bool tb1, .slice Bb1 mb1 db1, .bool sb2, .slice Ab2 nb2 cb2, .bool tb2, .slice Bb2 mb2 db2, .bool sc1, .slice Ac1 nc1 cc1, .bool tc1, .slice Bc1 mc1 dc1, .bool sc2, .slice Ac2 nc2 cc2, .bool tc2, .slice Bc2 mc2 dc2] 28)
  go_wp2_with fail
  refine (fewI3 hnb (hr0.ext (extW.trans e1)) (hr1.ext (extW.trans e1)) (hr2.ext (extW.trans e1))).mono ?_
  rintro e W1 ⟨rfl, hxt⟩
  rw [HF0.out]
  have ES := e1.trans hxt
  clear hnb e1 hxt
  clear k0 k1 k2 k3 k4 k5 k6 k7 x0 x1 x2 x3 x4 x5 x6 x7 z0 z1 z2 z3 z4 z5 z6 z7
  replace bx := bx.ext ES
  replace by_ := by_.ext ES
  replace bz := bz.ext ES
  replace extW := extW.trans ES
  clear ES
  have k0 := bx.cell 0 (.bool sa1) rfl
  have k1 := bx.cell 1 (.slice Aa1 na1 ca1) rfl
  have k2 := bx.cell 2 (.bool ta1) rfl
  have k3 := bx.cell 3 (.slice Ba1 ma1 da1) rfl
  have k4 := bx.cell 4 (.bool sa2) rfl
  have k5 := bx.cell 5 (.slice Aa2 na2 ca2) rfl
  have k6 := bx.cell 6 (.bool ta2) rfl
  have k7 := bx.cell 7 (.slice Ba2 ma2 da2) rfl
  have z0 := bz.cell 0 (.bool sc1) rfl
  have z1 := bz.cell 1 (.slice Ac1 nc1 cc1) rfl
  have z2 := bz.cell 2 (.bool tc1) rfl
  have z3 := bz.cell 3 (.slice Bc1 mc1 dc1) rfl
  have z4 := bz.cell 4 (.bool sc2) rfl
  have z5 := bz.cell 5 (.slice Ac2 nc2 cc2) rfl
  have z6 := bz.cell 6 (.bool tc2) rfl
  have z7 := bz.cell 7 (.slice Bc2 mc2 dc2) rfl
  go_wp2_with fail
  refine (q_MeetV (h0.ext extW) (h2.ext extW) (by omega)).mono ?_
  intro e Wa hmt
  obtain ⟨s1_, A1_, n1_, c1_, t1_, B1_, m1_, d1_, s1', A1', n1', c1', t1', B1', m1', d1', rfl, d1, hxt⟩ := hmt.yes HD.out.2.1
  clear hmt
  clear k0 z0 k1 z1 k2 z2 k3 z3 k4 z4 k5 z5 k6 z6 k7 z7
  replace bx := bx.ext hxt
  replace by_ := by_.ext hxt
  replace bz := bz.ext hxt
  replace extW := extW.trans hxt
  clear hxt
  have HQ := Lib.hid (And.intro (mxR_l lo0 lo2) (mnR_l hi0 hi2))
  generalize mxR lo0 lo2 = dl at d1 HD HQ HZ
  generalize mnR hi0 hi2 = dh at d1 HD HQ HZ
  go_upto_region 4 with (fail)
  refine at_world (fun V => Ext Wa V ∧ Box V Wa.heap.size 28 #[.bool s1_, .slice A1_ n1_ c1_, .bool t1_, .slice B1_ m1_ d1_, .bool s1', .slice A1' n1' c1', .bool t1', .slice B1' m1' d1'] ∧ IV V dl dh 10 s1_ A1_ n1_ c1_ t1_ B1_ m1_ d1_ s1' A1' n1' c1' t1' B1' m1' d1') ⟨(Ext.refl Wa).alloc _, Box.new Wa _ _, d1.ext ((Ext.refl Wa).alloc _)⟩ ?_
  generalize Wa.heap.size = g7
  clear d1
  rintro Wav ⟨EV, b7, d1⟩
  replace bx := bx.ext EV
  replace by_ := by_.ext EV
  replace bz := bz.ext EV
  replace extW := extW.trans EV
  clear EV
  go_upto_region 6 with (fail)
  have ES0 := Ext.refl Wav
  refine wp_region_held_drew (S := Ext Wav) (by kernel_rfl) ES0.drew (fun ES => ?_)
  clear ES0
  refine Late.start0 (fun _ _ _ _ _ => ⟨fun h => h, fun h => h⟩) ES (fun hAl hQ => ?_)
  refine Late.take (i := 0) (d := some 32) (v := ?v0_205) rfl rfl (by kernel_rfl) (by kernel_rfl) (by kernel_rfl) (by kernel_rfl) hQ (Or.inl ⟨by rfl, ?y0_205⟩) ?r0_205
  case y0_205 =>
    intro w' hSw
    have k00 := (bx.ext hSw).c8
    have k10 := (by_.ext hSw).c8
    have k20 := (b7.ext hSw).c8
    go_simp
    try with_reducible rfl
  try simp only [Act.put]
  try simp only [List.setIfInBounds_toArray]
  try simp only [List.set_cons_succ]
  try simp only [List.set_cons_zero]
  refine Late.take (i := 1) (d := some 33) (v := ?v1_206) rfl rfl (by kernel_rfl) (by kernel_rfl) (by kernel_rfl) (by kernel_rfl) hQ (Or.inl ⟨by rfl, ?y1_206⟩) ?r1_206
  case y1_206 =>
    intro w' hSw
    have k00 := (bx.ext hSw).c8
    have k10 := (by_.ext hSw).c8
    have k20 := (b7.ext hSw).c8
    go_simp
    try with_reducible rfl
  try simp only [Act.put]
  try simp only [List.setIfInBounds_toArray]
  try simp only [List.set_cons_succ]
  try simp only [List.set_cons_zero]
  refine Late.take (i := 3) (d := some 35) (v := ?v3_207) rfl rfl (by kernel_rfl) (by kernel_rfl) (by kernel_rfl) (by kernel_rfl) hQ (Or.inl ⟨by rfl, ?y3_207⟩) ?r3_207
  case y3_207 =>
    intro w' hSw
    have k00 := (bx.ext hSw).c8
    have k10 := (by_.ext hSw).c8
    have k20 := (b7.ext hSw).c8
    go_simp
    try with_reducible rfl
  try simp only [Act.put]
  try simp only [List.setIfInBounds_toArray]
  try simp only [List.set_cons_succ]
  try simp only [List.set_cons_zero]
  refine Late.take (i := 4) (d := some 36) (v := ?v4_208) rfl rfl (by kernel_rfl) (by kernel_rfl) (by kernel_rfl) (by kernel_rfl) hQ (Or.inl ⟨by rfl, ?y4_208⟩) ?r4_208
  case y4_208 =>
    intro w' hSw
    have k00 := (bx.ext hSw).c8
    have k10 := (by_.ext hSw).c8
    have k20 := (b7.ext hSw).c8
    go_simp
    try with_reducible rfl
  try simp only [Act.put]
  try simp only [List.setIfInBounds_toArray]
  try simp only [List.set_cons_succ]
  try simp only [List.set_cons_zero]
  refine Late.call (i := 2) rfl (by kernel_rfl) hAl (by kernel_rfl) (by kernel_rfl) (by kernel_rfl) hQ (fun w2 e2 E2 K hK => ?_)
  go_simp
  (go_at_call 17; refine (p_AddV (d1.ext E2) (h1.ext (extW.trans E2)) (by omega) (by omega) (hT.ext (extW.trans E2))).mono ?_; rintro e wk2 ⟨la3, ha3, hu3, s3_, A3_, n3_, c3_, t3_, B3_, m3_, d3_, s3', A3', n3', c3', t3', B3', m3', d3', rfl, y3, hx2⟩; have HU3 := Lib.hid hu3; clear hu3)
  refine hK.out _ _ hx2 ?_
  clear hK K
  try simp only [Act.put]
  try simp only [List.setIfInBounds_toArray]
  try simp only [List.set_cons_succ]
  try simp only [List.set_cons_zero]
  refine Late.call (i := 5) rfl (by kernel_rfl) hAl (by kernel_rfl) (by kernel_rfl) (by kernel_rfl) hQ (fun w5 e5 E5 K hK => ?_)
  go_simp
  (replace y3 := y3.ext e5; go_at_call 17; refine (p_AddV (h0.ext (extW.trans E5)) (h1.ext (extW.trans E5)) (by omega) (by omega) (hT.ext (extW.trans E5))).mono ?_; rintro e wk5 ⟨la4, ha4, hu4, s4_, A4_, n4_, c4_, t4_, B4_, m4_, d4_, s4', A4', n4', c4', t4', B4', m4', d4', rfl, y4, hx5⟩; replace y3 := y3.ext hx5; have HU4 := Lib.hid hu4; clear hu4)
  refine hK.out _ _ hx5 ?_
  clear hK K
  try simp only [Act.put]
  try simp only [List.setIfInBounds_toArray]
  try simp only [List.set_cons_succ]
  try simp only [List.set_cons_zero]
  refine Late.call (i := 6) rfl (by kernel_rfl) hAl (by kernel_rfl) (by kernel_rfl) (by kernel_rfl) hQ (fun w6 e6 E6 K hK => ?_)
  go_simp
  (replace y3 := y3.ext e6; replace y4 := y4.ext e6; go_at_call 33; refine (p_Within y3 y4 (by omega) (by omega)).mono ?_; rintro e wk6 ⟨rfl, hx6⟩; replace y3 := y3.ext hx6; replace y4 := y4.ext hx6; rw [within_of (fun _ _ => add_four HU4.out.four) HU3.out HQ.out.1 HD.out.2.1 HQ.out.2 Rat.le_refl HD.out.1 Rat.le_refl])
  refine hK.out _ _ hx6 ?_
  clear hK K
  try simp only [Act.put]
  try simp only [List.setIfInBounds_toArray]
  try simp only [List.set_cons_succ]
  try simp only [List.set_cons_zero]
  refine Late.take (i := 7) (d := some 39) (v := ?v7_209) rfl rfl (by kernel_rfl) (by kernel_rfl) (by kernel_rfl) (by kernel_rfl) hQ (Or.inl ⟨by rfl, ?y7_209⟩) ?r7_209
  case y7_209 =>
    intro w' hSw
    have k00 := (bx.ext hSw).c8
    have k10 := (by_.ext hSw).c8
    have k20 := (b7.ext hSw).c8
    go_simp
    try with_reducible rfl
  try simp only [Act.put]
  try simp only [List.setIfInBounds_toArray]
  try simp only [List.set_cons_succ]
  try simp only [List.set_cons_zero]
  refine Late.take (i := 8) (d := some 40) (v := ?v8_210) rfl rfl (by kernel_rfl) (by kernel_rfl) (by kernel_rfl) (by kernel_rfl) hQ (Or.inl ⟨by rfl, ?y8_210⟩) ?r8_210
  case y8_210 =>
    intro w' hSw
    have k00 := (bx.ext hSw).c8
    have k10 := (by_.ext hSw).c8
    have k20 := (b7.ext hSw).c8
    go_simp
    try with_reducible rfl
  try simp only [Act.put]
  try simp only [List.setIfInBounds_toArray]
  try simp only [List.set_cons_succ]
  try simp only [List.set_cons_zero]
  refine Late.take (i := 9) (d := some 41) (v := ?v9_211) rfl rfl (by kernel_rfl) (by kernel_rfl) (by kernel_rfl) (by kernel_rfl) hQ (Or.inl ⟨by rfl, ?y9_211⟩) ?r9_211
  case y9_211 =>
    intro w' hSw
    have k00 := (bx.ext hSw).c8
    have k10 := (by_.ext hSw).c8
    have k20 := (b7.ext hSw).c8
    go_simp
    try with_reducible rfl
  try simp only [Act.put]
  try simp only [List.setIfInBounds_toArray]
  try simp only [List.set_cons_succ]
  try simp only [List.set_cons_zero]
  refine Late.take (i := 10) (d := some 42) (v := ?v10_212) rfl rfl (by kernel_rfl) (by kernel_rfl) (by kernel_rfl) (by kernel_rfl) hQ (Or.inl ⟨by rfl, ?y10_212⟩) ?r10_212
  case y10_212 =>
    intro w' hSw
    have k00 := (bx.ext hSw).c8
    have k10 := (by_.ext hSw).c8
    have k20 := (b7.ext hSw).c8
    go_simp
    try with_reducible rfl
  try simp only [Act.put]
  try simp only [List.setIfInBounds_toArray]
  try simp only [List.set_cons_succ]
  try simp only [List.set_cons_zero]
  refine Late.take (i := 12) (d := some 44) (v := ?v12_213) rfl rfl (by kernel_rfl) (by kernel_rfl) (by kernel_rfl) (by kernel_rfl) hQ (Or.inl ⟨by rfl, ?y12_213⟩) ?r12_213
  case y12_213 =>
    intro w' hSw
    have k00 := (bx.ext hSw).c8
    have k10 := (by_.ext hSw).c8
    have k20 := (b7.ext hSw).c8
    go_simp
    try with_reducible rfl
  try simp only [Act.put]
  try simp only [List.setIfInBounds_toArray]
  try simp only [List.set_cons_succ]
  try simp only [List.set_cons_zero]
  refine Late.take (i := 13) (d := some 45) (v := ?v13_214) rfl rfl (by kernel_rfl) (by kernel_rfl) (by kernel_rfl) (by kernel_rfl) hQ (Or.inl ⟨by rfl, ?y13_214⟩) ?r13_214
  case y13_214 =>
    intro w' hSw
    have k00 := (bx.ext hSw).c8
    have k10 := (by_.ext hSw).c8
    have k20 := (b7.ext hSw).c8
    go_simp
    try with_reducible rfl
  try simp only [Act.put]
  try simp only [List.setIfInBounds_toArray]
  try simp only [List.set_cons_succ]
  try simp only [List.set_cons_zero]
  refine Late.call (i := 11) rfl (by kernel_rfl) hAl (by kernel_rfl) (by kernel_rfl) (by kernel_rfl) hQ (fun w11 e11 E11 K hK => ?_)
  go_simp
  (replace y3 := y3.ext e11; replace y4 := y4.ext e11; go_at_call 26; refine (p_MulV (d1.ext E11) (h1.ext (extW.trans E11)) (by omega) (by omega) (hT.ext (extW.trans E11))).mono ?_; rintro e wk11 ⟨la5, ha5, hu5, s5_, A5_, n5_, c5_, t5_, B5_, m5_, d5_, s5', A5', n5', c5', t5', B5', m5', d5', rfl, y5, hx11⟩; replace y3 := y3.ext hx11; replace y4 := y4.ext hx11; have HU5 := Lib.hid hu5; clear hu5)
  refine hK.out _ _ hx11 ?_
  clear hK K
  try simp only [Act.put]
  try simp only [List.setIfInBounds_toArray]
  try simp only [List.set_cons_succ]
  try simp only [List.set_cons_zero]
  refine Late.call (i := 14) rfl (by kernel_rfl) hAl (by kernel_rfl) (by kernel_rfl) (by kernel_rfl) hQ (fun w14 e14 E14 K hK => ?_)
  go_simp
  (replace y3 := y3.ext e14; replace y4 := y4.ext e14; replace y5 := y5.ext e14; go_at_call 26; refine (p_MulV (h0.ext (extW.trans E14)) (h1.ext (extW.trans E14)) (by omega) (by omega) (hT.ext (extW.trans E14))).mono ?_; rintro e wk14 ⟨la6, ha6, hu6, s6_, A6_, n6_, c6_, t6_, B6_, m6_, d6_, s6', A6', n6', c6', t6', B6', m6', d6', rfl, y6, hx14⟩; replace y3 := y3.ext hx14; replace y4 := y4.ext hx14; replace y5 := y5.ext hx14; have HU6 := Lib.hid hu6; clear hu6)
  refine hK.out _ _ hx14 ?_
  clear hK K
  try simp only [Act.put]
  try simp only [List.setIfInBounds_toArray]
  try simp only [List.set_cons_succ]
  try simp only [List.set_cons_zero]
  refine Late.call (i := 15) rfl (by kernel_rfl) hAl (by kernel_rfl) (by kernel_rfl) (by kernel_rfl) hQ (fun w15 e15 E15 K hK => ?_)
  go_simp
  (replace y3 := y3.ext e15; replace y4 := y4.ext e15; replace y5 := y5.ext e15; replace y6 := y6.ext e15; go_at_call 33; refine (p_Within y5 y6 (by omega) (by omega)).mono ?_; rintro e wk15 ⟨rfl, hx15⟩; replace y3 := y3.ext hx15; replace y4 := y4.ext hx15; replace y5 := y5.ext hx15; replace y6 := y6.ext hx15; rw [within_of (fun _ _ => mul_four HU6.out.four) HU5.out HQ.out.1 HD.out.2.1 HQ.out.2 Rat.le_refl HD.out.1 Rat.le_refl])
  refine hK.out _ _ hx15 ?_
  clear hK K
  try simp only [Act.put]
  try simp only [List.setIfInBounds_toArray]
  try simp only [List.set_cons_succ]
  try simp only [List.set_cons_zero]
  refine Late.take (i := 16) (d := some 48) (v := ?v16_215) rfl rfl (by kernel_rfl) (by kernel_rfl) (by kernel_rfl) (by kernel_rfl) hQ (Or.inl ⟨by rfl, ?y16_215⟩) ?r16_215
  case y16_215 =>
    intro w' hSw
    have k00 := (bx.ext hSw).c8
    have k10 := (by_.ext hSw).c8
    have k20 := (b7.ext hSw).c8
    go_simp
    try with_reducible rfl
  try simp only [Act.put]
  try simp only [List.setIfInBounds_toArray]
  try simp only [List.set_cons_succ]
  try simp only [List.set_cons_zero]
  refine Late.take (i := 17) (d := some 49) (v := ?v17_216) rfl rfl (by kernel_rfl) (by kernel_rfl) (by kernel_rfl) (by kernel_rfl) hQ (Or.inl ⟨by rfl, ?y17_216⟩) ?r17_216
  case y17_216 =>
    intro w' hSw
    have k00 := (bx.ext hSw).c8
    have k10 := (by_.ext hSw).c8
    have k20 := (b7.ext hSw).c8
    go_simp
    try with_reducible rfl
  try simp only [Act.put]
  try simp only [List.setIfInBounds_toArray]
  try simp only [List.set_cons_succ]
  try simp only [List.set_cons_zero]
  refine Late.take (i := 18) (d := some 50) (v := ?v18_217) rfl rfl (by kernel_rfl) (by kernel_rfl) (by kernel_rfl) (by kernel_rfl) hQ (Or.inl ⟨by rfl, ?y18_217⟩) ?r18_217
  case y18_217 =>
    intro w' hSw
    have k00 := (bx.ext hSw).c8
    have k10 := (by_.ext hSw).c8
    have k20 := (b7.ext hSw).c8
    go_simp
    try with_reducible rfl
  try simp only [Act.put]
  try simp only [List.setIfInBounds_toArray]
  try simp only [List.set_cons_succ]
  try simp only [List.set_cons_zero]
  refine Late.take (i := 19) (d := some 51) (v := ?v19_218) rfl rfl (by kernel_rfl) (by kernel_rfl) (by kernel_rfl) (by kernel_rfl) hQ (Or.inl ⟨by rfl, ?y19_218⟩) ?r19_218
  case y19_218 =>
    intro w' hSw
    have k00 := (bx.ext hSw).c8
    have k10 := (by_.ext hSw).c8
    have k20 := (b7.ext hSw).c8
    go_simp
    try with_reducible rfl
  try simp only [Act.put]
  try simp only [List.setIfInBounds_toArray]
  try simp only [List.set_cons_succ]
  try simp only [List.set_cons_zero]
  refine Late.take (i := 20) (d := some 52) (v := ?v20_219) rfl rfl (by kernel_rfl) (by kernel_rfl) (by kernel_rfl) (by kernel_rfl) hQ (Or.inl ⟨by rfl, ?y20_219⟩) ?r20_219
  case y20_219 =>
    intro w' hSw
    have k00 := (bx.ext hSw).c8
    have k10 := (by_.ext hSw).c8
    have k20 := (b7.ext hSw).c8
    go_simp
    try with_reducible rfl
  try simp only [Act.put]
  try simp only [List.setIfInBounds_toArray]
  try simp only [List.set_cons_succ]
  try simp only [List.set_cons_zero]
  refine Late.take (i := 22) (d := some 54) (v := ?v22_220) rfl rfl (by kernel_rfl) (by kernel_rfl) (by kernel_rfl) (by kernel_rfl) hQ (Or.inl ⟨by rfl, ?y22_220⟩) ?r22_220
  case y22_220 =>
    intro w' hSw
    have k00 := (bx.ext hSw).c8
    have k10 := (by_.ext hSw).c8
    have k20 := (b7.ext hSw).c8
    go_simp
    try with_reducible rfl
  try simp only [Act.put]
  try simp only [List.setIfInBounds_toArray]
  try simp only [List.set_cons_succ]
  try simp only [List.set_cons_zero]
  refine Late.take (i := 23) (d := some 55) (v := ?v23_221) rfl rfl (by kernel_rfl) (by kernel_rfl) (by kernel_rfl) (by kernel_rfl) hQ (Or.inl ⟨by rfl, ?y23_221⟩) ?r23_221
  case y23_221 =>
    intro w' hSw
    have k00 := (bx.ext hSw).c8
    have k10 := (by_.ext hSw).c8
    have k20 := (b7.ext hSw).c8
    go_simp
    try with_reducible rfl
  try simp only [Act.put]
  try simp only [List.setIfInBounds_toArray]
  try simp only [List.set_cons_succ]
  try simp only [List.set_cons_zero]
  refine Late.call (i := 21) rfl (by kernel_rfl) hAl (by kernel_rfl) (by kernel_rfl) (by kernel_rfl) hQ (fun w21 e21 E21 K hK => ?_)
  go_simp
  (replace y3 := y3.ext e21; replace y4 := y4.ext e21; replace y5 := y5.ext e21; replace y6 := y6.ext e21; go_at_call 19; refine (p_SubV (h1.ext (extW.trans E21)) (d1.ext E21) (by omega) (by omega) (hT.ext (extW.trans E21))).mono ?_; rintro e wk21 ⟨la7, ha7, hu7, s7_, A7_, n7_, c7_, t7_, B7_, m7_, d7_, s7', A7', n7', c7', t7', B7', m7', d7', rfl, y7, hx21⟩; replace y3 := y3.ext hx21; replace y4 := y4.ext hx21; replace y5 := y5.ext hx21; replace y6 := y6.ext hx21; have HU7 := Lib.hid hu7; clear hu7)
  refine hK.out _ _ hx21 ?_
  clear hK K
  try simp only [Act.put]
  try simp only [List.setIfInBounds_toArray]
  try simp only [List.set_cons_succ]
  try simp only [List.set_cons_zero]
  refine Late.call (i := 24) rfl (by kernel_rfl) hAl (by kernel_rfl) (by kernel_rfl) (by kernel_rfl) hQ (fun w24 e24 E24 K hK => ?_)
  go_simp
  (replace y3 := y3.ext e24; replace y4 := y4.ext e24; replace y5 := y5.ext e24; replace y6 := y6.ext e24; replace y7 := y7.ext e24; go_at_call 19; refine (p_SubV (h1.ext (extW.trans E24)) (h0.ext (extW.trans E24)) (by omega) (by omega) (hT.ext (extW.trans E24))).mono ?_; rintro e wk24 ⟨la8, ha8, hu8, s8_, A8_, n8_, c8_, t8_, B8_, m8_, d8_, s8', A8', n8', c8', t8', B8', m8', d8', rfl, y8, hx24⟩; replace y3 := y3.ext hx24; replace y4 := y4.ext hx24; replace y5 := y5.ext hx24; replace y6 := y6.ext hx24; replace y7 := y7.ext hx24; have HU8 := Lib.hid hu8; clear hu8)
  refine hK.out _ _ hx24 ?_
  clear hK K
  try simp only [Act.put]
  try simp only [List.setIfInBounds_toArray]
  try simp only [List.set_cons_succ]
  try simp only [List.set_cons_zero]
  refine Late.call (i := 25) rfl (by kernel_rfl) hAl (by kernel_rfl) (by kernel_rfl) (by kernel_rfl) hQ (fun w25 e25 E25 K hK => ?_)
  go_simp
  (replace y3 := y3.ext e25; replace y4 := y4.ext e25; replace y5 := y5.ext e25; replace y6 := y6.ext e25; replace y7 := y7.ext e25; replace y8 := y8.ext e25; go_at_call 33; refine (p_Within y7 y8 (by omega) (by omega)).mono ?_; rintro e wk25 ⟨rfl, hx25⟩; replace y3 := y3.ext hx25; replace y4 := y4.ext hx25; replace y5 := y5.ext hx25; replace y6 := y6.ext hx25; replace y7 := y7.ext hx25; replace y8 := y8.ext hx25; rw [within_of (fun _ _ => sub_four HU8.out.four) HU7.out Rat.le_refl HD.out.1 Rat.le_refl HQ.out.1 HD.out.2.1 HQ.out.2])
  refine hK.out _ _ hx25 ?_
  clear hK K
  try simp only [Act.put]
  try simp only [List.setIfInBounds_toArray]
  try simp only [List.set_cons_succ]
  try simp only [List.set_cons_zero]
  refine Late.take (i := 26) (d := some 58) (v := ?v26_222) rfl rfl (by kernel_rfl) (by kernel_rfl) (by kernel_rfl) (by kernel_rfl) hQ (Or.inl ⟨by rfl, ?y26_222⟩) ?r26_222
  case y26_222 =>
    intro w' hSw
    have k00 := (bx.ext hSw).c8
    have k10 := (by_.ext hSw).c8
    have k20 := (b7.ext hSw).c8
    go_simp
    try with_reducible rfl
  try simp only [Act.put]
  try simp only [List.setIfInBounds_toArray]
  try simp only [List.set_cons_succ]
  try simp only [List.set_cons_zero]
  refine Late.take (i := 27) (d := some 59) (v := ?v27_223) rfl rfl (by kernel_rfl) (by kernel_rfl) (by kernel_rfl) (by kernel_rfl) hQ (Or.inl ⟨by rfl, ?y27_223⟩) ?r27_223
  case y27_223 =>
    intro w' hSw
    have k00 := (bx.ext hSw).c8
    have k10 := (by_.ext hSw).c8
    have k20 := (b7.ext hSw).c8
    go_simp
    try with_reducible rfl
  try simp only [Act.put]
  try simp only [List.setIfInBounds_toArray]
  try simp only [List.set_cons_succ]
  try simp only [List.set_cons_zero]
  refine Late.done0 (by kernel_rfl) (fun wz ez Ez => ?_)
  clear hAl hQ ES
  replace bx := bx.ext Ez
  replace by_ := by_.ext Ez
  replace bz := bz.ext Ez
  replace b7 := b7.ext Ez
  replace d1 := d1.ext Ez
  replace extW := extW.trans Ez
  clear Ez ez
  clear y3 HU3
  clear y4 HU4
  clear y5 HU5
  clear y6 HU6
  clear y7 HU7
  clear y8 HU8
  have x0 := by_.cell 0 (.bool sb1) rfl
  have x1 := by_.cell 1 (.slice Ab1 nb1 cb1) rfl
  have x2 := by_.cell 2 (.bool tb1) rfl
  have x3 := by_.cell 3 (.slice Bb1 mb1 db1) rfl
  have x4 := by_.cell 4 (.bool sb2) rfl
  have x5 := by_.cell 5 (.slice Ab2 nb2 cb2) rfl
  have x6 := by_.cell 6 (.bool tb2) rfl
  have x7 := by_.cell 7 (.slice Bb2 mb2 db2) rfl
  have z0 := b7.cell 0 (.bool s1_) rfl
  have z1 := b7.cell 1 (.slice A1_ n1_ c1_) rfl
  have z2 := b7.cell 2 (.bool t1_) rfl
  have z3 := b7.cell 3 (.slice B1_ m1_ d1_) rfl
  have z4 := b7.cell 4 (.bool s1') rfl
  have z5 := b7.cell 5 (.slice A1' n1' c1') rfl
  have z6 := b7.cell 6 (.bool t1') rfl
  have z7 := b7.cell 7 (.slice B1' m1' d1') rfl
  go_wp2_with fail
  refine (p_DivV_nz (h1.ext extW) d1 (by omega) (by omega) (hT.ext extW) HD.out.2.1 HZ.out.2).mono ?_
  rintro e Wb ⟨lb1, hb1, hu1, s9_, A9_, n9_, c9_, t9_, B9_, m9_, d9_, s9', A9', n9', c9', t9', B9', m9', d9', rfl, v1, hxt⟩
  have HV1 := Lib.hid hu1
  clear hu1
  clear x0 z0 x1 z1 x2 z2 x3 z3 x4 z4 x5 z5 x6 z6 x7 z7
  replace bx := bx.ext hxt
  replace by_ := by_.ext hxt
  replace bz := bz.ext hxt
  replace b7 := b7.ext hxt
  replace d1 := d1.ext hxt
  replace extW := extW.trans hxt
  clear hxt
  go_upto_region 9 with (fail)
  refine at_world (fun V => Ext Wb V ∧ Box V Wb.heap.size 28 #[.bool s9_, .slice A9_ n9_ c9_, .bool t9_, .slice B9_ m9_ d9_, .bool s9', .slice A9' n9' c9', .bool t9', .slice B9' m9' d9'] ∧ IV V lb1 hb1 (10 + 10) s9_ A9_ n9_ c9_ t9_ B9_ m9_ d9_ s9' A9' n9' c9' t9' B9' m9' d9') ⟨(Ext.refl Wb).alloc _, Box.new Wb _ _, v1.ext ((Ext.refl Wb).alloc _)⟩ ?_
  generalize Wb.heap.size = g9
  clear v1
  rintro Wbv ⟨EV, b9, v1⟩
  replace bx := bx.ext EV
  replace by_ := by_.ext EV
  replace bz := bz.ext EV
  replace b7 := b7.ext EV
  replace d1 := d1.ext EV
  replace extW := extW.trans EV
  clear EV
  have k0 := bx.cell 0 (.bool sa1) rfl
  have k1 := bx.cell 1 (.slice Aa1 na1 ca1) rfl
  have k2 := bx.cell 2 (.bool ta1) rfl
  have k3 := bx.cell 3 (.slice Ba1 ma1 da1) rfl
  have k4 := bx.cell 4 (.bool sa2) rfl
  have k5 := bx.cell 5 (.slice Aa2 na2 ca2) rfl
  have k6 := bx.cell 6 (.bool ta2) rfl
  have k7 := bx.cell 7 (.slice Ba2 ma2 da2) rfl
  have x0 := by_.cell 0 (.bool sb1) rfl
  have x1 := by_.cell 1 (.slice Ab1 nb1 cb1) rfl
  have x2 := by_.cell 2 (.bool tb1) rfl
  have x3 := by_.cell 3 (.slice Bb1 mb1 db1) rfl
  have x4 := by_.cell 4 (.bool sb2) rfl
  have x5 := by_.cell 5 (.slice Ab2 nb2 cb2) rfl
  have x6 := by_.cell 6 (.bool tb2) rfl
  have x7 := by_.cell 7 (.slice Bb2 mb2 db2) rfl
  go_wp2_with fail
  refine (p_DivV_nz (h1.ext extW) (h0.ext extW) (by omega) (by omega) (hT.ext extW) HD.out.2.2 HZ.out.1).mono ?_
  rintro e Wc ⟨lc1, hc1, hu1, s11_, A11_, n11_, c11_, t11_, B11_, m11_, d11_, s11', A11', n11', c11', t11', B11', m11', d11', rfl, v2, hxt⟩
  have HV2 := Lib.hid hu1
  clear hu1
  clear k0 x0 k1 x1 k2 x2 k3 x3 k4 x4 k5 x5 k6 x6 k7 x7
  replace bx := bx.ext hxt
  replace by_ := by_.ext hxt
  replace bz := bz.ext hxt
  replace b7 := b7.ext hxt
  replace d1 := d1.ext hxt
  replace b9 := b9.ext hxt
  replace v1 := v1.ext hxt
  replace extW := extW.trans hxt
  clear hxt
  go_upto_region 10 with (fail)
  refine at_world (fun V => Ext Wc V ∧ Box V Wc.heap.size 28 #[.bool s11_, .slice A11_ n11_ c11_, .bool t11_, .slice B11_ m11_ d11_, .bool s11', .slice A11' n11' c11', .bool t11', .slice B11' m11' d11'] ∧ IV V lc1 hc1 (10 + 10) s11_ A11_ n11_ c11_ t11_ B11_ m11_ d11_ s11' A11' n11' c11' t11' B11' m11' d11') ⟨(Ext.refl Wc).alloc _, Box.new Wc _ _, v2.ext ((Ext.refl Wc).alloc _)⟩ ?_
  generalize Wc.heap.size = g11
  clear v2
  rintro Wcv ⟨EV, b11, v2⟩
  replace bx := bx.ext EV
  replace by_ := by_.ext EV
  replace bz := bz.ext EV
  replace b7 := b7.ext EV
  replace d1 := d1.ext EV
  replace b9 := b9.ext EV
  replace v1 := v1.ext EV
  replace extW := extW.trans EV
  clear EV
  have x0 := b9.cell 0 (.bool s9_) rfl
  have x1 := b9.cell 1 (.slice A9_ n9_ c9_) rfl
  have x2 := b9.cell 2 (.bool t9_) rfl
  have x3 := b9.cell 3 (.slice B9_ m9_ d9_) rfl
  have x4 := b9.cell 4 (.bool s9') rfl
  have x5 := b9.cell 5 (.slice A9' n9' c9') rfl
  have x6 := b9.cell 6 (.bool t9') rfl
  have x7 := b9.cell 7 (.slice B9' m9' d9') rfl
  have z0 := b11.cell 0 (.bool s11_) rfl
  have z1 := b11.cell 1 (.slice A11_ n11_ c11_) rfl
  have z2 := b11.cell 2 (.bool t11_) rfl
  have z3 := b11.cell 3 (.slice B11_ m11_ d11_) rfl
  have z4 := b11.cell 4 (.bool s11') rfl
  have z5 := b11.cell 5 (.slice A11' n11' c11') rfl
  have z6 := b11.cell 6 (.bool t11') rfl
  have z7 := b11.cell 7 (.slice B11' m11' d11') rfl
  go_wp2_with fail
  refine (p_Within v1 v2 (by omega) (by omega)).mono ?_
  rintro e Wd ⟨rfl, hxt⟩
  rw [within_of (fun _ _ => div_four HV2.out.four HZ.out.1) HV1.out Rat.le_refl HD.out.1 Rat.le_refl HQ.out.1 HD.out.2.1 HQ.out.2]
  go_wp2_with fail
  go_ret
  exact ⟨rfl, extW.trans hxt⟩
set_option maxHeartbeats 4000000 in
theorem mono3_no0 {w : World} {sa1 ta1 sa2 ta2 : Bool} {Aa1 Ba1 Aa2 Ba2 : Option Addr} {na1 ca1 ma1 da1 na2 ca2 ma2 da2 : Nat} {xa1 ya1 xa2 ya2 : List Nat} {sb1 tb1 sb2 tb2 : Bool} {Ab1 Bb1 Ab2 Bb2 : Option Addr} {nb1 cb1 mb1 db1 nb2 cb2 mb2 db2 : Nat} {xb1 yb1 xb2 yb2 : List Nat} {sc1 tc1 sc2 tc2 : Bool} {Ac1 Bc1 Ac2 Bc2 : Option Addr} {nc1 cc1 mc1 dc1 nc2 cc2 mc2 dc2 : Nat} {xc1 yc1 xc2 yc2 : List Nat} (hA : Awake3) (hT : Tab w) (hr0 : RawV w Aa1 na1 ca1 xa1 Ba1 ma1 da1 ya1 Aa2 na2 ca2 xa2 Ba2 ma2 da2 ya2) (hr1 : RawV w Ab1 nb1 cb1 xb1 Bb1 mb1 db1 yb1 Ab2 nb2 cb2 xb2 Bb2 mb2 db2 yb2) (hr2 : RawV w Ac1 nc1 cc1 xc1 Bc1 mc1 dc1 yc1 Ac2 nc2 cc2 xc2 Bc2 mc2 dc2 yc2) (hf0 : (fewV na1 ma1 na2 ma2 sa1 xa1 ta1 ya1 sa2 xa2 ta2 ya2 && (fewV nb1 mb1 nb2 mb2 sb1 xb1 tb1 yb1 sb2 xb2 tb2 yb2 && (fewV nc1 mc1 nc2 mc2 sc1 xc1 tc1 yc1 sc2 xc2 tc2 yc2))) = false) :
    Calls Tryz.prog 11 #[.agg #[.bool sa1, .slice Aa1 na1 ca1, .bool ta1, .slice Ba1 ma1 da1, .bool sa2, .slice Aa2 na2 ca2, .bool ta2, .slice Ba2 ma2 da2], .agg #[.bool sb1, .slice Ab1 nb1 cb1, .bool tb1, .slice Bb1 mb1 db1, .bool sb2, .slice Ab2 nb2 cb2, .bool tb2, .slice Bb2 mb2 db2], .agg #[.bool sc1, .slice Ac1 nc1 cc1, .bool tc1, .slice Bc1 mc1 dc1, .bool sc2, .slice Ac2 nc2 cc2, .bool tc2, .slice Bc2 mc2 dc2]] w fun e w' => e = .returned (.bool true) ∧ Ext w w' := by
  have HF0 := Lib.hid hf0
  clear hf0
  have HA := Lib.hid hA
  clear hA
  go_enter Tryz.func11, Tryz.ntmps11
  go_upto_region 1 with (fail)
  obtain ⟨W0, hW, extW, bx, by_, bz, hzz⟩ := box3 w 28 28 28 #[.bool sa1, .slice Aa1 na1 ca1, .bool ta1, .slice Ba1 ma1 da1, .bool sa2, .slice Aa2 na2 ca2, .bool ta2, .slice Ba2 ma2 da2] #[.bool sb1, .slice Ab1 nb1 cb1, .bool tb1, .slice Bb1 mb1 db1, .bool sb2, .slice Ab2 nb2 cb2, .bool tb2, .slice Bb2 mb2 db2] #[.bool sc1, .slice Ac1 nc1 cc1, .bool tc1, .slice Bc1 mc1 dc1, .bool sc2, .slice Ac2 nc2 cc2, .bool tc2, .slice Bc2 mc2 dc2]
  rw [← hW]
  clear hW hzz
  go_wp2_with fail
  refine (HA.out _ (hT.ext extW)).mono ?_
  rintro e W ⟨rfl, hxt⟩
  replace bx := bx.ext hxt
  replace by_ := by_.ext hxt
  replace bz := bz.ext hxt
  replace extW := extW.trans hxt
  clear hxt
  have k0 := bx.cell 0 (.bool sa1) rfl
  have k1 := bx.cell 1 (.slice Aa1 na1 ca1) rfl
  have k2 := bx.cell 2 (.bool ta1) rfl
  have k3 := bx.cell 3 (.slice Ba1 ma1 da1) rfl
  have k4 := bx.cell 4 (.bool sa2) rfl
  have k5 := bx.cell 5 (.slice Aa2 na2 ca2) rfl
  have k6 := bx.cell 6 (.bool ta2) rfl
  have k7 := bx.cell 7 (.slice Ba2 ma2 da2) rfl
  have x0 := by_.cell 0 (.bool sb1) rfl
  have x1 := by_.cell 1 (.slice Ab1 nb1 cb1) rfl
  have x2 := by_.cell 2 (.bool tb1) rfl
  have x3 := by_.cell 3 (.slice Bb1 mb1 db1) rfl
  have x4 := by_.cell 4 (.bool sb2) rfl
  have x5 := by_.cell 5 (.slice Ab2 nb2 cb2) rfl
  have x6 := by_.cell 6 (.bool tb2) rfl
  have x7 := by_.cell 7 (.slice Bb2 mb2 db2) rfl
  have z0 := bz.cell 0 (.bool sc1) rfl
  have z1 := bz.cell 1 (.slice Ac1 nc1 cc1) rfl
  have z2 := bz.cell 2 (.bool tc1) rfl
  have z3 := bz.cell 3 (.slice Bc1 mc1 dc1) rfl
  have z4 := bz.cell 4 (.bool sc2) rfl
  have z5 := bz.cell 5 (.slice Ac2 nc2 cc2) rfl
  have z6 := bz.cell 6 (.bool tc2) rfl
  have z7 := bz.cell 7 (.slice Bc2 mc2 dc2) rfl
  have hnb := Box.new W 28 #[.bool sa1, .slice Aa1 na1 ca1, .bool ta1, .slice Ba1 ma1 da1, .bool sa2, .slice Aa2 na2 ca2, .bool ta2, .slice Ba2 ma2 da2, .bool sb1, .slice Ab1 nb1 cb1, .bool tb1, .slice Bb1 mb1 db1, .bool sb2, .slice Ab2 nb2 cb2, .bool tb2, .slice Bb2 mb2 db2, .bool sc1, .slice Ac1 nc1 cc1, .bool tc1, .slice Bc1 mc1 dc1, .bool sc2, .slice Ac2 nc2 cc2, .bool tc2, .slice Bc2 mc2 dc2]
  have e1 := (Ext.refl W).alloc (.cells #[.bool sa1, .slice Aa1 na1 ca1, .bool ta1, .slice Ba1 ma1 da1, .bool sa2, .slice Aa2 na2 ca2, .bool ta2, .slice Ba2 ma2 da2, .bool sb1, .slice Ab1 nb1 cb1, .bool tb1, .slice Bb1 mb1 db1, .bool sb2, .slice Ab2 nb2 cb2, .bool tb2, .slice Bb2 mb2 db2, .bool sc1, .slice Ac1 nc1 cc1, .bool tc1, .slice Bc1 mc1 dc1, .bool sc2, .slice Ac2 nc2 cc2, .bool tc2, .slice Bc2 mc2 dc2] 28)
  go_wp2_with fail
  refine (fewI3 hnb (hr0.ext (extW.trans e1)) (hr1.ext (extW.trans e1)) (hr2.ext (extW.trans e1))).mono ?_
  rintro e W1 ⟨rfl, hxt⟩
  rw [HF0.out]
  have ES := e1.trans hxt
  clear hnb e1 hxt
  clear k0 k1 k2 k3 k4 k5 k6 k7 x0 x1 x2 x3 x4 x5 x6 x7 z0 z1 z2 z3 z4 z5 z6 z7
  replace bx := bx.ext ES
  replace by_ := by_.ext ES
  replace bz := bz.ext ES
  replace extW := extW.trans ES
  clear ES
  go_wp2_with fail
  refine (HA.out _ (hT.ext extW)).mono ?_
  rintro e W9 ⟨rfl, hxt⟩
  go_wp2_with fail
  go_ret
  exact ⟨rfl, extW.trans hxt⟩
theorem mono3_yes {w : World} {sa1 ta1 sa2 ta2 : Bool} {Aa1 Ba1 Aa2 Ba2 : Option Addr} {na1 ca1 ma1 da1 na2 ca2 ma2 da2 : Nat} {xa1 ya1 xa2 ya2 : List Nat} {sb1 tb1 sb2 tb2 : Bool} {Ab1 Bb1 Ab2 Bb2 : Option Addr} {nb1 cb1 mb1 db1 nb2 cb2 mb2 db2 : Nat} {xb1 yb1 xb2 yb2 : List Nat} {sc1 tc1 sc2 tc2 : Bool} {Ac1 Bc1 Ac2 Bc2 : Option Addr} {nc1 cc1 mc1 dc1 nc2 cc2 mc2 dc2 : Nat} {xc1 yc1 xc2 yc2 : List Nat} (hA : Awake3) (hT : Tab w) (hr0 : RawV w Aa1 na1 ca1 xa1 Ba1 ma1 da1 ya1 Aa2 na2 ca2 xa2 Ba2 ma2 da2 ya2) (hr1 : RawV w Ab1 nb1 cb1 xb1 Bb1 mb1 db1 yb1 Ab2 nb2 cb2 xb2 Bb2 mb2 db2 yb2) (hr2 : RawV w Ac1 nc1 cc1 xc1 Bc1 mc1 dc1 yc1 Ac2 nc2 cc2 xc2 Bc2 mc2 dc2 yc2) (hf0 : (fewV na1 ma1 na2 ma2 sa1 xa1 ta1 ya1 sa2 xa2 ta2 ya2 && (fewV nb1 mb1 nb2 mb2 sb1 xb1 tb1 yb1 sb2 xb2 tb2 yb2 && (fewV nc1 mc1 nc2 mc2 sc1 xc1 tc1 yc1 sc2 xc2 tc2 yc2))) = true) :
    Calls Tryz.prog 11 #[.agg #[.bool sa1, .slice Aa1 na1 ca1, .bool ta1, .slice Ba1 ma1 da1, .bool sa2, .slice Aa2 na2 ca2, .bool ta2, .slice Ba2 ma2 da2], .agg #[.bool sb1, .slice Ab1 nb1 cb1, .bool tb1, .slice Bb1 mb1 db1, .bool sb2, .slice Ab2 nb2 cb2, .bool tb2, .slice Bb2 mb2 db2], .agg #[.bool sc1, .slice Ac1 nc1 cc1, .bool tc1, .slice Bc1 mc1 dc1, .bool sc2, .slice Ac2 nc2 cc2, .bool tc2, .slice Bc2 mc2 dc2]] w fun e w' => e = .returned (.bool true) ∧ Ext w w' := by
  have hf' := hf0
  simp only [Bool.and_eq_true] at hf'
  obtain ⟨g0, g1, g2⟩ := hf'
  obtain ⟨h0, le0⟩ := few_iv hr0.1 hr0.2.1 hr0.2.2.1 hr0.2.2.2 g0
  generalize rawQ sa1 xa1 ta1 ya1 = lo0 at h0 le0
  generalize rawQ sa2 xa2 ta2 ya2 = hi0 at h0 le0
  obtain ⟨h1, le1⟩ := few_iv hr1.1 hr1.2.1 hr1.2.2.1 hr1.2.2.2 g1
  generalize rawQ sb1 xb1 tb1 yb1 = lo1 at h1 le1
  generalize rawQ sb2 xb2 tb2 yb2 = hi1 at h1 le1
  obtain ⟨h2, _⟩ := few_iv hr2.1 hr2.2.1 hr2.2.2.1 hr2.2.2.2 g2
  generalize rawQ sc1 xc1 tc1 yc1 = lo2 at h2
  generalize rawQ sc2 xc2 tc2 yc2 = hi2 at h2
  clear g0 g1 g2
  have HF0 := Lib.hid hf0
  clear hf0
  by_cases hm : mxR lo0 lo2 ≤ mnR hi0 hi2
  · cases hz : inB lo0 hi0 ((0 : Int) : Rat) with
    | true =>
      cases hz2 : inB (mxR lo0 lo2) (mnR hi0 hi2) ((0 : Int) : Rat) with
      | true => exact mono3_00 hA hT hr0 hr1 hr2 h0 h1 h2 ⟨le1, hm, le0⟩ ⟨hz, hz2⟩ HF0.out
      | false => exact mono3_0n hA hT hr0 hr1 hr2 h0 h1 h2 ⟨le1, hm, le0⟩ ⟨hz, hz2⟩ HF0.out
    | false => exact mono3_nn hA hT hr0 hr1 hr2 h0 h1 h2 ⟨le1, hm, le0⟩ ⟨hz, inB_part (mxR_l _ _) (mnR_l _ _) hz⟩ HF0.out
  · exact mono3_out hA hT hr0 hr1 hr2 h0 h2 hm HF0.out
theorem mono3_any {w : World} {sa1 ta1 sa2 ta2 : Bool} {Aa1 Ba1 Aa2 Ba2 : Option Addr} {na1 ca1 ma1 da1 na2 ca2 ma2 da2 : Nat} {xa1 ya1 xa2 ya2 : List Nat} {sb1 tb1 sb2 tb2 : Bool} {Ab1 Bb1 Ab2 Bb2 : Option Addr} {nb1 cb1 mb1 db1 nb2 cb2 mb2 db2 : Nat} {xb1 yb1 xb2 yb2 : List Nat} {sc1 tc1 sc2 tc2 : Bool} {Ac1 Bc1 Ac2 Bc2 : Option Addr} {nc1 cc1 mc1 dc1 nc2 cc2 mc2 dc2 : Nat} {xc1 yc1 xc2 yc2 : List Nat} (hA : Awake3) (hT : Tab w) (hr0 : RawV w Aa1 na1 ca1 xa1 Ba1 ma1 da1 ya1 Aa2 na2 ca2 xa2 Ba2 ma2 da2 ya2) (hr1 : RawV w Ab1 nb1 cb1 xb1 Bb1 mb1 db1 yb1 Ab2 nb2 cb2 xb2 Bb2 mb2 db2 yb2) (hr2 : RawV w Ac1 nc1 cc1 xc1 Bc1 mc1 dc1 yc1 Ac2 nc2 cc2 xc2 Bc2 mc2 dc2 yc2) :
    Calls Tryz.prog 11 #[.agg #[.bool sa1, .slice Aa1 na1 ca1, .bool ta1, .slice Ba1 ma1 da1, .bool sa2, .slice Aa2 na2 ca2, .bool ta2, .slice Ba2 ma2 da2], .agg #[.bool sb1, .slice Ab1 nb1 cb1, .bool tb1, .slice Bb1 mb1 db1, .bool sb2, .slice Ab2 nb2 cb2, .bool tb2, .slice Bb2 mb2 db2], .agg #[.bool sc1, .slice Ac1 nc1 cc1, .bool tc1, .slice Bc1 mc1 dc1, .bool sc2, .slice Ac2 nc2 cc2, .bool tc2, .slice Bc2 mc2 dc2]] w fun e w' => e = .returned (.bool true) ∧ Ext w w' := by
  cases hf0 : (fewV na1 ma1 na2 ma2 sa1 xa1 ta1 ya1 sa2 xa2 ta2 ya2 && (fewV nb1 mb1 nb2 mb2 sb1 xb1 tb1 yb1 sb2 xb2 tb2 yb2 && (fewV nc1 mc1 nc2 mc2 sc1 xc1 tc1 yc1 sc2 xc2 tc2 yc2))) with
  | false => exact mono3_no0 hA hT hr0 hr1 hr2 hf0
  | true =>
    exact mono3_yes hA hT hr0 hr1 hr2 hf0
end Go.Proofs.YtoabhnofppledaaGreatDoor
namespace Go.Proofs.YtoabhnofppledaaGreatDoor
open Go.ChangeShapes Go.WideShapes Go.ChangeAt Go.RowKit Go.Joins
set_option maxRecDepth 100000
theorem mono3_lifted (os : Os) (started : os.Started) (H : Type) (enc : TypeId × Value → H) :
    ReturnsInHanded {} Tryz.checked os 11 .any (fun w args => (Rows.intervalMonotonicSpec.pre enc Tryz.prog Tryz.f11 [] false w args ∧ laidMetH Tryz.prog laidI w) ∧ sizedMet enc Tryz.prog Tryz.f11 (OpenSpec.ofChange Rows.intervalMonotonicSpec) false w args)
      (Rows.intervalMonotonicSpec.post enc Tryz.prog Tryz.f11 false true false false) := by
  refine returnsInHanded_of_change_and (C := Tryz.checked) (X := fun w _ => laidMetH Tryz.prog laidI w) (fun _ _ _ hh h => h.of_heap hh) Tryz.own started (by kernel_rfl) Tryz.func11
    (ChangeSpec.witness_shaped (enc := enc) (C := Tryz.checked) (os := os) (X := fun w _ => laidMetH Tryz.prog laidI w) false (World.doorLaid Tryz.prog 400 os) #[Value.agg #[.bool false, .slice none 0 0, .bool false, .slice none 0 0, .bool false, .slice none 0 0, .bool false, .slice none 0 0], Value.agg #[.bool false, .slice none 0 0, .bool false, .slice none 0 0, .bool false, .slice none 0 0, .bool false, .slice none 0 0], Value.agg #[.bool false, .slice none 0 0, .bool false, .slice none 0 0, .bool false, .slice none 0 0, .bool false, .slice none 0 0]] 8 rfl (World.shaped_of_RefB (by kernel_rfl) (by kernel_rfl)) (by kernel_rfl) (by kernel_rfl) (by kernel_rfl) (doorI_met os _)) ?_
  intro W base args ds gs before hval0 hW _ _ hL _
  have hval : ∀ (j : Nat) t v, Tryz.f11.params[j]? = some t → args[j]? = some v → Value.okWide Tryz.prog W .any base t v := hval0
  have hW' := hW
  have hlt : ∀ p ∈ before, p.block < W.heap.size := fun p hp => hW.lt p hp
  obtain ⟨p, q, hA0, hV, rfl, _, _⟩ := hW
  have hA : DataW.TrodAll enc Tryz.prog W 0 (fun _ => true) true Tryz.f11.params.toList args.toList ds p := hA0
  rw [Tryz.params11] at hA hval
  obtain ⟨v0, v1, v2, d0, d1, d2, p0, p1, p2, rfl, rfl, rfl, h0, h1, h2⟩ := trodAll_three hA
  obtain ⟨rfl, rfl⟩ := trodVars_none hV
  simp only [List.append_nil] at hW' hlt
  obtain ⟨sa1, Aa1, na1, ca1, ta1, Ba1, ma1, da1, sa2, Aa2, na2, ca2, ta2, Ba2, ma2, da2, xa1, ya1, xa2, ya2, rfl, hr0⟩ := open_iv (hval 0 28 v0 rfl rfl) h0
  obtain ⟨sb1, Ab1, nb1, cb1, tb1, Bb1, mb1, db1, sb2, Ab2, nb2, cb2, tb2, Bb2, mb2, db2, xb1, yb1, xb2, yb2, rfl, hr1⟩ := open_iv (hval 1 28 v1 rfl rfl) h1
  obtain ⟨sc1, Ac1, nc1, cc1, tc1, Bc1, mc1, dc1, sc2, Ac2, nc2, cc2, tc2, Bc2, mc2, dc2, xc1, yc1, xc2, yc2, rfl, hr2⟩ := open_iv (hval 2 28 v2 rfl rfl) h2
  clear hA0 hval0
  have hT := tab_of_laidH hL
  refine (mono3_any awake3 hT hr0 hr1 hr2).mono fun e W' ⟨he, hext⟩ => ?_
  subst he
  have hb : Below W.heap.size W W' := hext
  have g0 := Below.trod Tryz.laidOut (by kernel_rfl) (of_decide_eq_true (by kernel_rfl)) h0 hb (fun p hp => hlt p (List.mem_append.2 (.inl (List.mem_append.2 (.inl hp)))))
  have g1 := Below.trod Tryz.laidOut (by kernel_rfl) (of_decide_eq_true (by kernel_rfl)) h1 hb (fun p hp => hlt p (List.mem_append.2 (.inl (List.mem_append.2 (.inr hp)))))
  have g2 := Below.trod Tryz.laidOut (by kernel_rfl) (of_decide_eq_true (by kernel_rfl)) h2 hb (fun p hp => hlt p (List.mem_append.2 (.inr hp)))
  exact ⟨_, rfl, _, _, _, [], (p0 ++ (p1 ++ p2)), [], hW', trodAll_mk1 (shut_bool Tryz.underlying4 true), trodAll_mk3 g0 g1 g2, rfl, Below.frame hb _, fun h => by cases h⟩
theorem mono3_row_holds : Rows.IntervalMonotonicSaid :=
  OpenClaim.holds_of_wide 11 Tryz.f11 rfl rfl rfl rfl rfl rfl rfl ⟨rfl, rfl, rfl, rfl, rfl⟩ rfl rfl rfl rfl rfl (by kernel_rfl) Tryz.func11 (by kernel_rfl)
    (of_decide_eq_true (by kernel_rfl)) (by unfold Func.isWrapper; first | (rw [if_neg (of_decide_eq_false (by kernel_rfl))]; exact ⟨rfl, rfl⟩) | (rw [if_pos (by decide +kernel)]; kernel_rfl))
    (fun os started H enc _ => mono3_lifted os started H enc)
theorem mono3_holds : Rows.IntervalMonotonicCardSaid :=
  Claim7.holds_tied_plain_at .later [] [.data] true Rows.intervalMonotonicCard.stood.harness false
    mono3_row_holds (fun _ h => by cases h) (by kernel_rfl) (fun _ h => by cases h) intervalMonotonic_row_tie rfl ⟨rfl, rfl⟩ (by kernel_rfl) rfl
    (fun f fn hf hfn => by
      obtain rfl : f = 11 := Option.some.inj ((show Tryz.prog.funcNamed "setsquare/setsquarelaw03.IntervalMonotonic" = some 11 by kernel_rfl).symm.trans hf) |>.symm
      obtain rfl : fn = Tryz.f11 := (Option.some.inj (Tryz.func11.symm.trans hfn)).symm
      exact ⟨by kernel_rfl, fun j t ht => by
        rw [Tryz.params11] at ht
        have hm : t ∈ [28, 28, 28] := by simpa using Array.mem_of_getElem? ht
        have hall : ([28, 28, 28].all fun u => !Tryz.prog.wantsStandIn u) = true := by kernel_rfl
        exact (show Tryz.prog.wantsStandIn t = false by simpa using List.all_eq_true.1 hall t hm)⟩)
    (by kernel_rfl)
end Go.Proofs.YtoabhnofppledaaGreatDoor
