/- Walks and laws, a part. -/
import Derived.Test.YtoabhnofppledaaGreatDoorM0
import Derived.Test.YtoabhnofppledaaGreatDoorM1
import Derived.Test.YtoabhnofppledaaGreatDoorM2
import Derived.Test.YtoabhnofppledaaGreatDoorM3
import Derived.Test.YtoabhnofppledaaGreatDoorM4
import Derived.Test.YtoabhnofppledaaGreatDoorM5
import Derived.Test.YtoabhnofppledaaGreatDoorM6
import Derived.Test.YtoabhnofppledaaGreatDoorM7
import Derived.Test.YtoabhnofppledaaGreatDoorM8
import Derived.Test.YtoabhnofppledaaGreatDoorM9
import Derived.Test.YtoabhnofppledaaGreatDoorMc0
namespace Go.Proofs.YtoabhnofppledaaGreatDoor
open Go.RowKit
attribute [local go_sem ↓] Go.wp_at_zero Go.wp_at_succ
theorem inB_meet (lo hi lo' hi' x : Rat) : inB (mxR lo lo') (mnR hi hi') x = (inB lo hi x && inB lo' hi' x) := by
  have h1 : mxR lo lo' ≤ x ↔ lo ≤ x ∧ lo' ≤ x := by
    unfold mxR
    split
    · rename_i h; exact ⟨fun k => ⟨Rat.le_trans (Rat.le_of_lt h) k, k⟩, fun k => k.2⟩
    · rename_i h; exact ⟨fun k => ⟨k, Rat.le_trans (Rat.not_lt.1 h) k⟩, fun k => k.1⟩
  have h2 : x ≤ mnR hi hi' ↔ x ≤ hi ∧ x ≤ hi' := by
    unfold mnR
    split
    · rename_i h; exact ⟨fun k => ⟨Rat.le_trans k (Rat.le_of_lt h), k⟩, fun k => k.2⟩
    · rename_i h; exact ⟨fun k => ⟨k, Rat.le_trans k (Rat.not_lt.1 h)⟩, fun k => k.1⟩
  unfold inB
  rw [Bool.eq_iff_iff]
  simp only [Bool.and_eq_true, decide_eq_true_eq, h1, h2]
  constructor
  · rintro ⟨⟨a, b⟩, c, d⟩; exact ⟨⟨a, c⟩, b, d⟩
  · rintro ⟨⟨a, c⟩, b, d⟩; exact ⟨⟨a, b⟩, c, d⟩
theorem meet_none {lo hi lo' hi' x : Rat} (h : ¬ mxR lo lo' ≤ mnR hi hi') : (inB lo hi x && inB lo' hi' x) = false := by
  rw [← inB_meet]
  cases hb : inB (mxR lo lo') (mnR hi hi') x with
  | false => rfl
  | true =>
    unfold inB at hb
    simp only [Bool.and_eq_true, decide_eq_true_eq] at hb
    exact absurd (Rat.le_trans hb.1 hb.2) h
set_option maxHeartbeats 16000000 in
set_option maxRecDepth 100000 in
theorem meet3_y_true_true {w : World} {sa1 ta1 sa2 ta2 : Bool} {Aa1 Ba1 Aa2 Ba2 : Option Addr} {na1 ca1 ma1 da1 na2 ca2 ma2 da2 : Nat} {xa1 ya1 xa2 ya2 : List Nat} {sb1 tb1 sb2 tb2 : Bool} {Ab1 Bb1 Ab2 Bb2 : Option Addr} {nb1 cb1 mb1 db1 nb2 cb2 mb2 db2 : Nat} {xb1 yb1 xb2 yb2 : List Nat} {s t : Bool} {A B : Option Addr} {n c m d : Nat} {xs ys : List Nat} {lo0 hi0 lo1 hi1 : Rat} (hA : Awake3) (hT : Tab w) (hr0 : RawV w Aa1 na1 ca1 xa1 Ba1 ma1 da1 ya1 Aa2 na2 ca2 xa2 Ba2 ma2 da2 ya2) (hr1 : RawV w Ab1 nb1 cb1 xb1 Bb1 mb1 db1 yb1 Ab2 nb2 cb2 xb2 Bb2 mb2 db2 yb2) (hr2 : RI w A n c xs) (hk2 : RI w B m d ys) (h0 : IV w lo0 hi0 10 sa1 Aa1 na1 ca1 ta1 Ba1 ma1 da1 sa2 Aa2 na2 ca2 ta2 Ba2 ma2 da2) (h1 : IV w lo1 hi1 10 sb1 Ab1 nb1 cb1 tb1 Bb1 mb1 db1 sb2 Ab2 nb2 cb2 tb2 Bb2 mb2 db2) {x : Rat} (hx : NR w x 10 s A n c t B m d) (hc : mxR lo0 lo1 ≤ mnR hi0 hi1) (hbA : inB lo0 hi0 x = true) (hbB : inB lo1 hi1 x = true) (hf0 : (fewV na1 ma1 na2 ma2 sa1 xa1 ta1 ya1 sa2 xa2 ta2 ya2 && (fewV nb1 mb1 nb2 mb2 sb1 xb1 tb1 yb1 sb2 xb2 tb2 yb2)) = true) (hf1 : (few10 n m s xs t ys) = true) :
    Calls Tryz.prog 9 #[.agg #[.bool sa1, .slice Aa1 na1 ca1, .bool ta1, .slice Ba1 ma1 da1, .bool sa2, .slice Aa2 na2 ca2, .bool ta2, .slice Ba2 ma2 da2], .agg #[.bool sb1, .slice Ab1 nb1 cb1, .bool tb1, .slice Bb1 mb1 db1, .bool sb2, .slice Ab2 nb2 cb2, .bool tb2, .slice Bb2 mb2 db2], .agg #[.bool s, .slice A n c, .bool t, .slice B m d]] w fun e w' => e = .returned (.bool true) ∧ Ext w w' := by
  have HF0 := Lib.hid hf0
  clear hf0
  have HF1 := Lib.hid hf1
  clear hf1
  have HC := Lib.hid hc
  have HA1 := Lib.hid hbA
  have HB1 := Lib.hid hbB
  clear hc hbA hbB
  have HA := Lib.hid hA
  clear hA
  go_enter Tryz.func9, Tryz.ntmps9
  go_upto_region 1 with (fail)
  obtain ⟨W0, hW, extW, bx, by_, bz, hzz⟩ := box3 w 28 28 26 #[.bool sa1, .slice Aa1 na1 ca1, .bool ta1, .slice Ba1 ma1 da1, .bool sa2, .slice Aa2 na2 ca2, .bool ta2, .slice Ba2 ma2 da2] #[.bool sb1, .slice Ab1 nb1 cb1, .bool tb1, .slice Bb1 mb1 db1, .bool sb2, .slice Ab2 nb2 cb2, .bool tb2, .slice Bb2 mb2 db2] #[.bool s, .slice A n c, .bool t, .slice B m d]
  rw [← hW]
  clear hW hzz
  go_wp2_with fail
  refine (HA.out _ (hT.ext extW)).mono ?_
  rintro e W ⟨rfl, hxt⟩
  replace bx := bx.ext hxt
  replace by_ := by_.ext hxt
  replace bz := bz.ext hxt
  replace extW := extW.trans hxt
  clear hxt
  have k0 := bx.cell 0 (.bool sa1) rfl
  have k1 := bx.cell 1 (.slice Aa1 na1 ca1) rfl
  have k2 := bx.cell 2 (.bool ta1) rfl
  have k3 := bx.cell 3 (.slice Ba1 ma1 da1) rfl
  have k4 := bx.cell 4 (.bool sa2) rfl
  have k5 := bx.cell 5 (.slice Aa2 na2 ca2) rfl
  have k6 := bx.cell 6 (.bool ta2) rfl
  have k7 := bx.cell 7 (.slice Ba2 ma2 da2) rfl
  have x0 := by_.cell 0 (.bool sb1) rfl
  have x1 := by_.cell 1 (.slice Ab1 nb1 cb1) rfl
  have x2 := by_.cell 2 (.bool tb1) rfl
  have x3 := by_.cell 3 (.slice Bb1 mb1 db1) rfl
  have x4 := by_.cell 4 (.bool sb2) rfl
  have x5 := by_.cell 5 (.slice Ab2 nb2 cb2) rfl
  have x6 := by_.cell 6 (.bool tb2) rfl
  have x7 := by_.cell 7 (.slice Bb2 mb2 db2) rfl
  have z0 := bz.cell 0 (.bool s) rfl
  have z1 := bz.cell 1 (.slice A n c) rfl
  have z2 := bz.cell 2 (.bool t) rfl
  have z3 := bz.cell 3 (.slice B m d) rfl
  have hnb := Box.new W 28 #[.bool sa1, .slice Aa1 na1 ca1, .bool ta1, .slice Ba1 ma1 da1, .bool sa2, .slice Aa2 na2 ca2, .bool ta2, .slice Ba2 ma2 da2, .bool sb1, .slice Ab1 nb1 cb1, .bool tb1, .slice Bb1 mb1 db1, .bool sb2, .slice Ab2 nb2 cb2, .bool tb2, .slice Bb2 mb2 db2]
  have e1 := (Ext.refl W).alloc (.cells #[.bool sa1, .slice Aa1 na1 ca1, .bool ta1, .slice Ba1 ma1 da1, .bool sa2, .slice Aa2 na2 ca2, .bool ta2, .slice Ba2 ma2 da2, .bool sb1, .slice Ab1 nb1 cb1, .bool tb1, .slice Bb1 mb1 db1, .bool sb2, .slice Ab2 nb2 cb2, .bool tb2, .slice Bb2 mb2 db2] 28)
  go_wp2_with fail
  refine (fewI2 hnb (hr0.ext (extW.trans e1)) (hr1.ext (extW.trans e1))).mono ?_
  rintro e W1 ⟨rfl, hxt⟩
  rw [HF0.out]
  have ES := e1.trans hxt
  clear hnb e1 hxt
  clear k0 k1 k2 k3 k4 k5 k6 k7 x0 x1 x2 x3 x4 x5 x6 x7 z0 z1 z2 z3
  replace bx := bx.ext ES
  replace by_ := by_.ext ES
  replace bz := bz.ext ES
  replace extW := extW.trans ES
  clear ES
  have k0 := bx.cell 0 (.bool sa1) rfl
  have k1 := bx.cell 1 (.slice Aa1 na1 ca1) rfl
  have k2 := bx.cell 2 (.bool ta1) rfl
  have k3 := bx.cell 3 (.slice Ba1 ma1 da1) rfl
  have k4 := bx.cell 4 (.bool sa2) rfl
  have k5 := bx.cell 5 (.slice Aa2 na2 ca2) rfl
  have k6 := bx.cell 6 (.bool ta2) rfl
  have k7 := bx.cell 7 (.slice Ba2 ma2 da2) rfl
  have x0 := by_.cell 0 (.bool sb1) rfl
  have x1 := by_.cell 1 (.slice Ab1 nb1 cb1) rfl
  have x2 := by_.cell 2 (.bool tb1) rfl
  have x3 := by_.cell 3 (.slice Bb1 mb1 db1) rfl
  have x4 := by_.cell 4 (.bool sb2) rfl
  have x5 := by_.cell 5 (.slice Ab2 nb2 cb2) rfl
  have x6 := by_.cell 6 (.bool tb2) rfl
  have x7 := by_.cell 7 (.slice Bb2 mb2 db2) rfl
  have z0 := bz.cell 0 (.bool s) rfl
  have z1 := bz.cell 1 (.slice A n c) rfl
  have z2 := bz.cell 2 (.bool t) rfl
  have z3 := bz.cell 3 (.slice B m d) rfl
  go_wp2_with fail
  refine (q_Few10 (hr2.ext extW) (hk2.ext extW)).mono ?_
  rintro e W2 ⟨rfl, ES⟩
  rw [HF1.out]
  clear k0 k1 k2 k3 k4 k5 k6 k7 x0 x1 x2 x3 x4 x5 x6 x7 z0 z1 z2 z3
  replace bx := bx.ext ES
  replace by_ := by_.ext ES
  replace bz := bz.ext ES
  replace extW := extW.trans ES
  clear ES
  have k0 := bx.cell 0 (.bool sa1) rfl
  have k1 := bx.cell 1 (.slice Aa1 na1 ca1) rfl
  have k2 := bx.cell 2 (.bool ta1) rfl
  have k3 := bx.cell 3 (.slice Ba1 ma1 da1) rfl
  have k4 := bx.cell 4 (.bool sa2) rfl
  have k5 := bx.cell 5 (.slice Aa2 na2 ca2) rfl
  have k6 := bx.cell 6 (.bool ta2) rfl
  have k7 := bx.cell 7 (.slice Ba2 ma2 da2) rfl
  have x0 := by_.cell 0 (.bool sb1) rfl
  have x1 := by_.cell 1 (.slice Ab1 nb1 cb1) rfl
  have x2 := by_.cell 2 (.bool tb1) rfl
  have x3 := by_.cell 3 (.slice Bb1 mb1 db1) rfl
  have x4 := by_.cell 4 (.bool sb2) rfl
  have x5 := by_.cell 5 (.slice Ab2 nb2 cb2) rfl
  have x6 := by_.cell 6 (.bool tb2) rfl
  have x7 := by_.cell 7 (.slice Bb2 mb2 db2) rfl
  go_wp2_with fail
  refine (p_MeetV (h0.ext extW) (h1.ext extW) (by omega)).mono ?_
  intro e Wa hmt
  obtain ⟨s1_, A1_, n1_, c1_, t1_, B1_, m1_, d1_, s1', A1', n1', c1', t1', B1', m1', d1', rfl, y1, hxt⟩ := hmt.yes HC.out
  clear hmt
  clear k0 x0 k1 x1 k2 x2 k3 x3 k4 x4 k5 x5 k6 x6 k7 x7
  replace bx := bx.ext hxt
  replace by_ := by_.ext hxt
  replace bz := bz.ext hxt
  replace extW := extW.trans hxt
  clear hxt
  go_upto_region 4 with (fail)
  refine at_world (fun V => Ext Wa V ∧ Box V Wa.heap.size 28 #[.bool s1_, .slice A1_ n1_ c1_, .bool t1_, .slice B1_ m1_ d1_, .bool s1', .slice A1' n1' c1', .bool t1', .slice B1' m1' d1'] ∧ IV V (mxR lo0 lo1) (mnR hi0 hi1) 10 s1_ A1_ n1_ c1_ t1_ B1_ m1_ d1_ s1' A1' n1' c1' t1' B1' m1' d1') ⟨(Ext.refl Wa).alloc _, Box.new Wa _ _, y1.ext ((Ext.refl Wa).alloc _)⟩ ?_
  generalize Wa.heap.size = g7
  clear y1
  rintro Wav ⟨EV, b7, y1⟩
  replace bx := bx.ext EV
  replace by_ := by_.ext EV
  replace bz := bz.ext EV
  replace extW := extW.trans EV
  clear EV
  have k0 := bx.cell 0 (.bool sa1) rfl
  have k1 := bx.cell 1 (.slice Aa1 na1 ca1) rfl
  have k2 := bx.cell 2 (.bool ta1) rfl
  have k3 := bx.cell 3 (.slice Ba1 ma1 da1) rfl
  have k4 := bx.cell 4 (.bool sa2) rfl
  have k5 := bx.cell 5 (.slice Aa2 na2 ca2) rfl
  have k6 := bx.cell 6 (.bool ta2) rfl
  have k7 := bx.cell 7 (.slice Ba2 ma2 da2) rfl
  have x0 := by_.cell 0 (.bool sb1) rfl
  have x1 := by_.cell 1 (.slice Ab1 nb1 cb1) rfl
  have x2 := by_.cell 2 (.bool tb1) rfl
  have x3 := by_.cell 3 (.slice Bb1 mb1 db1) rfl
  have x4 := by_.cell 4 (.bool sb2) rfl
  have x5 := by_.cell 5 (.slice Ab2 nb2 cb2) rfl
  have x6 := by_.cell 6 (.bool tb2) rfl
  have x7 := by_.cell 7 (.slice Bb2 mb2 db2) rfl
  go_wp2_with fail
  refine (q_MeetV (h0.ext extW) (h1.ext extW) (by omega)).mono ?_
  intro e Wb hmt
  obtain ⟨s2_, A2_, n2_, c2_, t2_, B2_, m2_, d2_, s2', A2', n2', c2', t2', B2', m2', d2', rfl, y2, hxt⟩ := hmt.yes HC.out
  clear hmt
  clear k0 x0 k1 x1 k2 x2 k3 x3 k4 x4 k5 x5 k6 x6 k7 x7
  replace bx := bx.ext hxt
  replace by_ := by_.ext hxt
  replace bz := bz.ext hxt
  replace b7 := b7.ext hxt
  replace y1 := y1.ext hxt
  replace extW := extW.trans hxt
  clear hxt
  go_upto_region 5 with (fail)
  refine at_world (fun V => Ext Wb V ∧ Box V Wb.heap.size 28 #[.bool s2_, .slice A2_ n2_ c2_, .bool t2_, .slice B2_ m2_ d2_, .bool s2', .slice A2' n2' c2', .bool t2', .slice B2' m2' d2'] ∧ IV V (mxR lo0 lo1) (mnR hi0 hi1) 10 s2_ A2_ n2_ c2_ t2_ B2_ m2_ d2_ s2' A2' n2' c2' t2' B2' m2' d2') ⟨(Ext.refl Wb).alloc _, Box.new Wb _ _, y2.ext ((Ext.refl Wb).alloc _)⟩ ?_
  generalize Wb.heap.size = g9
  clear y2
  rintro Wbv ⟨EV, b9, y2⟩
  replace bx := bx.ext EV
  replace by_ := by_.ext EV
  replace bz := bz.ext EV
  replace b7 := b7.ext EV
  replace y1 := y1.ext EV
  replace extW := extW.trans EV
  clear EV
  have k0 := b7.cell 0 (.bool s1_) rfl
  have k1 := b7.cell 1 (.slice A1_ n1_ c1_) rfl
  have k2 := b7.cell 2 (.bool t1_) rfl
  have k3 := b7.cell 3 (.slice B1_ m1_ d1_) rfl
  have k4 := b7.cell 4 (.bool s1') rfl
  have k5 := b7.cell 5 (.slice A1' n1' c1') rfl
  have k6 := b7.cell 6 (.bool t1') rfl
  have k7 := b7.cell 7 (.slice B1' m1' d1') rfl
  have x0 := b9.cell 0 (.bool s2_) rfl
  have x1 := b9.cell 1 (.slice A2_ n2_ c2_) rfl
  have x2 := b9.cell 2 (.bool t2_) rfl
  have x3 := b9.cell 3 (.slice B2_ m2_ d2_) rfl
  have x4 := b9.cell 4 (.bool s2') rfl
  have x5 := b9.cell 5 (.slice A2' n2' c2') rfl
  have x6 := b9.cell 6 (.bool t2') rfl
  have x7 := b9.cell 7 (.slice B2' m2' d2') rfl
  go_wp2_with fail
  refine (q_SameV y1 y2).mono ?_
  rintro e Wc ⟨rfl, hxt⟩
  clear k0 x0 k1 x1 k2 x2 k3 x3 k4 x4 k5 x5 k6 x6 k7 x7
  replace bx := bx.ext hxt
  replace by_ := by_.ext hxt
  replace bz := bz.ext hxt
  replace b7 := b7.ext hxt
  replace b9 := b9.ext hxt
  replace y1 := y1.ext hxt
  replace y2 := y2.ext hxt
  replace extW := extW.trans hxt
  clear hxt
  go_upto_region 7 with (fail)
  have ES0 := Ext.refl Wc
  refine wp_region_held_drew (S := Ext Wc) (by kernel_rfl) ES0.drew (fun ES => ?_)
  clear ES0
  refine Late.start0 (fun _ _ _ _ _ => ⟨fun h => h, fun h => h⟩) ES (fun hAl hQ => ?_)
  refine Late.take (i := 0) (d := some 59) (v := ?v0_106) rfl rfl (by kernel_rfl) (by kernel_rfl) (by kernel_rfl) (by kernel_rfl) hQ (Or.inl ⟨by rfl, ?y0_106⟩) ?r0_106
  case y0_106 =>
    intro w' hSw
    have k00 := (bx.ext hSw).c8
    have k10 := (by_.ext hSw).c8
    have k20 := (bz.ext hSw).c4
    have k30 := (b7.ext hSw).c8
    go_simp
    try with_reducible rfl
  try simp only [Act.put]
  try simp only [List.setIfInBounds_toArray]
  try simp only [List.set_cons_succ]
  try simp only [List.set_cons_zero]
  refine Late.take (i := 6) (d := some 65) (v := ?v6_107) rfl rfl (by kernel_rfl) (by kernel_rfl) (by kernel_rfl) (by kernel_rfl) hQ (Or.inl ⟨by rfl, ?y6_107⟩) ?r6_107
  case y6_107 =>
    intro w' hSw
    have k00 := (bx.ext hSw).c8
    have k10 := (by_.ext hSw).c8
    have k20 := (bz.ext hSw).c4
    have k30 := (b7.ext hSw).c8
    go_simp
    try with_reducible rfl
  try simp only [Act.put]
  try simp only [List.setIfInBounds_toArray]
  try simp only [List.set_cons_succ]
  try simp only [List.set_cons_zero]
  refine Late.take (i := 7) (d := some 66) (v := ?v7_108) rfl rfl (by kernel_rfl) (by kernel_rfl) (by kernel_rfl) (by kernel_rfl) hQ (Or.inl ⟨by rfl, ?y7_108⟩) ?r7_108
  case y7_108 =>
    intro w' hSw
    have k00 := (bx.ext hSw).c8
    have k10 := (by_.ext hSw).c8
    have k20 := (bz.ext hSw).c4
    have k30 := (b7.ext hSw).c8
    go_simp
    try with_reducible rfl
  try simp only [Act.put]
  try simp only [List.setIfInBounds_toArray]
  try simp only [List.set_cons_succ]
  try simp only [List.set_cons_zero]
  refine Late.take (i := 1) (d := some 60) (v := ?v1_109) rfl rfl (by kernel_rfl) (by kernel_rfl) (by kernel_rfl) (by kernel_rfl) hQ (Or.inl ⟨by rfl, ?y1_109⟩) ?r1_109
  case y1_109 =>
    intro w' hSw
    have k00 := (bx.ext hSw).c8
    have k10 := (by_.ext hSw).c8
    have k20 := (bz.ext hSw).c4
    have k30 := (b7.ext hSw).c8
    go_simp
    try with_reducible rfl
  try simp only [Act.put]
  try simp only [List.setIfInBounds_toArray]
  try simp only [List.set_cons_succ]
  try simp only [List.set_cons_zero]
  refine Late.take (i := 2) (d := some 61) (v := ?v2_110) rfl rfl (by kernel_rfl) (by kernel_rfl) (by kernel_rfl) (by kernel_rfl) hQ (Or.inl ⟨by rfl, ?y2_110⟩) ?r2_110
  case y2_110 =>
    intro w' hSw
    have k00 := (bx.ext hSw).c8
    have k10 := (by_.ext hSw).c8
    have k20 := (bz.ext hSw).c4
    have k30 := (b7.ext hSw).c8
    go_simp
    try with_reducible rfl
  try simp only [Act.put]
  try simp only [List.setIfInBounds_toArray]
  try simp only [List.set_cons_succ]
  try simp only [List.set_cons_zero]
  refine Late.take (i := 3) (d := some 62) (v := ?v3_111) rfl rfl (by kernel_rfl) (by kernel_rfl) (by kernel_rfl) (by kernel_rfl) hQ (Or.inl ⟨by rfl, ?y3_111⟩) ?r3_111
  case y3_111 =>
    intro w' hSw
    have k00 := (bx.ext hSw).c8
    have k10 := (by_.ext hSw).c8
    have k20 := (bz.ext hSw).c4
    have k30 := (b7.ext hSw).c8
    go_simp
    try with_reducible rfl
  try simp only [Act.put]
  try simp only [List.setIfInBounds_toArray]
  try simp only [List.set_cons_succ]
  try simp only [List.set_cons_zero]
  refine Late.call (i := 4) rfl (by kernel_rfl) hAl (by kernel_rfl) (by kernel_rfl) (by kernel_rfl) hQ (fun w4 e4 E4 K hK => ?_)
  go_simp
  (go_at_call 38; refine (p_Contains (y1.ext E4) (hx.ext (extW.trans E4)) (by omega) (by omega)).mono ?_; rintro e wk4 ⟨rfl, hx4⟩; rw [inB_meet, HA1.out, HB1.out])
  refine hK.out _ _ hx4 ?_
  clear hK K
  try simp only [Act.put]
  try simp only [List.setIfInBounds_toArray]
  try simp only [List.set_cons_succ]
  try simp only [List.set_cons_zero]
  refine Late.take (i := 5) (d := some 64) (v := ?v5_112) rfl rfl (by kernel_rfl) (by kernel_rfl) (by kernel_rfl) (by kernel_rfl) hQ (Or.inl ⟨by rfl, ?y5_112⟩) ?r5_112
  case y5_112 =>
    intro w' hSw
    have k00 := (bx.ext hSw).c8
    have k10 := (by_.ext hSw).c8
    have k20 := (bz.ext hSw).c4
    have k30 := (b7.ext hSw).c8
    go_simp
    try with_reducible rfl
  try simp only [Act.put]
  try simp only [List.setIfInBounds_toArray]
  try simp only [List.set_cons_succ]
  try simp only [List.set_cons_zero]
  refine Late.call (i := 8) rfl (by kernel_rfl) hAl (by kernel_rfl) (by kernel_rfl) (by kernel_rfl) hQ (fun w8 e8 E8 K hK => ?_)
  go_simp
  (go_at_call 38; refine (p_Contains (h0.ext (extW.trans E8)) (hx.ext (extW.trans E8)) (by omega) (by omega)).mono ?_; rintro e wk8 ⟨rfl, hx8⟩; rw [HA1.out])
  refine hK.out _ _ hx8 ?_
  clear hK K
  try simp only [Act.put]
  try simp only [List.setIfInBounds_toArray]
  try simp only [List.set_cons_succ]
  try simp only [List.set_cons_zero]
  refine Late.take (i := 9) (d := some 68) (v := ?v9_113) rfl rfl (by kernel_rfl) (by kernel_rfl) (by kernel_rfl) (by kernel_rfl) hQ (Or.inl ⟨by rfl, ?y9_113⟩) ?r9_113
  case y9_113 =>
    intro w' hSw
    have k00 := (bx.ext hSw).c8
    have k10 := (by_.ext hSw).c8
    have k20 := (bz.ext hSw).c4
    have k30 := (b7.ext hSw).c8
    go_simp
    try with_reducible rfl
  try simp only [Act.put]
  try simp only [List.setIfInBounds_toArray]
  try simp only [List.set_cons_succ]
  try simp only [List.set_cons_zero]
  refine Late.take (i := 10) (d := some 69) (v := ?v10_114) rfl rfl (by kernel_rfl) (by kernel_rfl) (by kernel_rfl) (by kernel_rfl) hQ (Or.inl ⟨by rfl, ?y10_114⟩) ?r10_114
  case y10_114 =>
    intro w' hSw
    have k00 := (bx.ext hSw).c8
    have k10 := (by_.ext hSw).c8
    have k20 := (bz.ext hSw).c4
    have k30 := (b7.ext hSw).c8
    go_simp
    try with_reducible rfl
  try simp only [Act.put]
  try simp only [List.setIfInBounds_toArray]
  try simp only [List.set_cons_succ]
  try simp only [List.set_cons_zero]
  refine Late.take (i := 11) (d := some 70) (v := ?v11_115) rfl rfl (by kernel_rfl) (by kernel_rfl) (by kernel_rfl) (by kernel_rfl) hQ (Or.inl ⟨by rfl, ?y11_115⟩) ?r11_115
  case y11_115 =>
    intro w' hSw
    have k00 := (bx.ext hSw).c8
    have k10 := (by_.ext hSw).c8
    have k20 := (bz.ext hSw).c4
    have k30 := (b7.ext hSw).c8
    go_simp
    try with_reducible rfl
  try simp only [Act.put]
  try simp only [List.setIfInBounds_toArray]
  try simp only [List.set_cons_succ]
  try simp only [List.set_cons_zero]
  refine Late.call (i := 12) rfl (by kernel_rfl) hAl (by kernel_rfl) (by kernel_rfl) (by kernel_rfl) hQ (fun w12 e12 E12 K hK => ?_)
  go_simp
  (go_at_call 38; refine (p_Contains (h1.ext (extW.trans E12)) (hx.ext (extW.trans E12)) (by omega) (by omega)).mono ?_; rintro e wk12 ⟨rfl, hx12⟩; rw [HB1.out])
  refine hK.out _ _ hx12 ?_
  clear hK K
  try simp only [Act.put]
  try simp only [List.setIfInBounds_toArray]
  try simp only [List.set_cons_succ]
  try simp only [List.set_cons_zero]
  refine Late.take (i := 13) (d := some 72) (v := ?v13_116) rfl rfl (by kernel_rfl) (by kernel_rfl) (by kernel_rfl) (by kernel_rfl) hQ (Or.inl ⟨by rfl, ?y13_116⟩) ?r13_116
  case y13_116 =>
    intro w' hSw
    have k00 := (bx.ext hSw).c8
    have k10 := (by_.ext hSw).c8
    have k20 := (bz.ext hSw).c4
    have k30 := (b7.ext hSw).c8
    go_simp
    try with_reducible rfl
  try simp only [Act.put]
  try simp only [List.setIfInBounds_toArray]
  try simp only [List.set_cons_succ]
  try simp only [List.set_cons_zero]
  refine Late.take (i := 14) (d := some 73) (v := ?v14_117) rfl rfl (by kernel_rfl) (by kernel_rfl) (by kernel_rfl) (by kernel_rfl) hQ (Or.inl ⟨by rfl, ?y14_117⟩) ?r14_117
  case y14_117 =>
    intro w' hSw
    have k00 := (bx.ext hSw).c8
    have k10 := (by_.ext hSw).c8
    have k20 := (bz.ext hSw).c4
    have k30 := (b7.ext hSw).c8
    go_simp
    try with_reducible rfl
  try simp only [Act.put]
  try simp only [List.setIfInBounds_toArray]
  try simp only [List.set_cons_succ]
  try simp only [List.set_cons_zero]
  refine Late.take (i := 15) (d := some 6) (v := ?v15_118) rfl rfl (by kernel_rfl) (by kernel_rfl) (by kernel_rfl) (by kernel_rfl) hQ (Or.inl ⟨by rfl, ?y15_118⟩) ?r15_118
  case y15_118 =>
    intro w' hSw
    have k00 := (bx.ext hSw).c8
    have k10 := (by_.ext hSw).c8
    have k20 := (bz.ext hSw).c4
    have k30 := (b7.ext hSw).c8
    go_simp
    try with_reducible rfl
  try simp only [Act.put]
  try simp only [List.setIfInBounds_toArray]
  try simp only [List.set_cons_succ]
  try simp only [List.set_cons_zero]
  refine Late.done0 (by kernel_rfl) (fun wz ez Ez => ?_)
  clear hAl hQ ES
  go_wp2_with fail
  go_ret
  exact ⟨rfl, extW.trans Ez⟩
set_option maxHeartbeats 16000000 in
set_option maxRecDepth 100000 in
theorem meet3_y_true_false {w : World} {sa1 ta1 sa2 ta2 : Bool} {Aa1 Ba1 Aa2 Ba2 : Option Addr} {na1 ca1 ma1 da1 na2 ca2 ma2 da2 : Nat} {xa1 ya1 xa2 ya2 : List Nat} {sb1 tb1 sb2 tb2 : Bool} {Ab1 Bb1 Ab2 Bb2 : Option Addr} {nb1 cb1 mb1 db1 nb2 cb2 mb2 db2 : Nat} {xb1 yb1 xb2 yb2 : List Nat} {s t : Bool} {A B : Option Addr} {n c m d : Nat} {xs ys : List Nat} {lo0 hi0 lo1 hi1 : Rat} (hA : Awake3) (hT : Tab w) (hr0 : RawV w Aa1 na1 ca1 xa1 Ba1 ma1 da1 ya1 Aa2 na2 ca2 xa2 Ba2 ma2 da2 ya2) (hr1 : RawV w Ab1 nb1 cb1 xb1 Bb1 mb1 db1 yb1 Ab2 nb2 cb2 xb2 Bb2 mb2 db2 yb2) (hr2 : RI w A n c xs) (hk2 : RI w B m d ys) (h0 : IV w lo0 hi0 10 sa1 Aa1 na1 ca1 ta1 Ba1 ma1 da1 sa2 Aa2 na2 ca2 ta2 Ba2 ma2 da2) (h1 : IV w lo1 hi1 10 sb1 Ab1 nb1 cb1 tb1 Bb1 mb1 db1 sb2 Ab2 nb2 cb2 tb2 Bb2 mb2 db2) {x : Rat} (hx : NR w x 10 s A n c t B m d) (hc : mxR lo0 lo1 ≤ mnR hi0 hi1) (hbA : inB lo0 hi0 x = true) (hbB : inB lo1 hi1 x = false) (hf0 : (fewV na1 ma1 na2 ma2 sa1 xa1 ta1 ya1 sa2 xa2 ta2 ya2 && (fewV nb1 mb1 nb2 mb2 sb1 xb1 tb1 yb1 sb2 xb2 tb2 yb2)) = true) (hf1 : (few10 n m s xs t ys) = true) :
    Calls Tryz.prog 9 #[.agg #[.bool sa1, .slice Aa1 na1 ca1, .bool ta1, .slice Ba1 ma1 da1, .bool sa2, .slice Aa2 na2 ca2, .bool ta2, .slice Ba2 ma2 da2], .agg #[.bool sb1, .slice Ab1 nb1 cb1, .bool tb1, .slice Bb1 mb1 db1, .bool sb2, .slice Ab2 nb2 cb2, .bool tb2, .slice Bb2 mb2 db2], .agg #[.bool s, .slice A n c, .bool t, .slice B m d]] w fun e w' => e = .returned (.bool true) ∧ Ext w w' := by
  have HF0 := Lib.hid hf0
  clear hf0
  have HF1 := Lib.hid hf1
  clear hf1
  have HC := Lib.hid hc
  have HA1 := Lib.hid hbA
  have HB1 := Lib.hid hbB
  clear hc hbA hbB
  have HA := Lib.hid hA
  clear hA
  go_enter Tryz.func9, Tryz.ntmps9
  go_upto_region 1 with (fail)
  obtain ⟨W0, hW, extW, bx, by_, bz, hzz⟩ := box3 w 28 28 26 #[.bool sa1, .slice Aa1 na1 ca1, .bool ta1, .slice Ba1 ma1 da1, .bool sa2, .slice Aa2 na2 ca2, .bool ta2, .slice Ba2 ma2 da2] #[.bool sb1, .slice Ab1 nb1 cb1, .bool tb1, .slice Bb1 mb1 db1, .bool sb2, .slice Ab2 nb2 cb2, .bool tb2, .slice Bb2 mb2 db2] #[.bool s, .slice A n c, .bool t, .slice B m d]
  rw [← hW]
  clear hW hzz
  go_wp2_with fail
  refine (HA.out _ (hT.ext extW)).mono ?_
  rintro e W ⟨rfl, hxt⟩
  replace bx := bx.ext hxt
  replace by_ := by_.ext hxt
  replace bz := bz.ext hxt
  replace extW := extW.trans hxt
  clear hxt
  have k0 := bx.cell 0 (.bool sa1) rfl
  have k1 := bx.cell 1 (.slice Aa1 na1 ca1) rfl
  have k2 := bx.cell 2 (.bool ta1) rfl
  have k3 := bx.cell 3 (.slice Ba1 ma1 da1) rfl
  have k4 := bx.cell 4 (.bool sa2) rfl
  have k5 := bx.cell 5 (.slice Aa2 na2 ca2) rfl
  have k6 := bx.cell 6 (.bool ta2) rfl
  have k7 := bx.cell 7 (.slice Ba2 ma2 da2) rfl
  have x0 := by_.cell 0 (.bool sb1) rfl
  have x1 := by_.cell 1 (.slice Ab1 nb1 cb1) rfl
  have x2 := by_.cell 2 (.bool tb1) rfl
  have x3 := by_.cell 3 (.slice Bb1 mb1 db1) rfl
  have x4 := by_.cell 4 (.bool sb2) rfl
  have x5 := by_.cell 5 (.slice Ab2 nb2 cb2) rfl
  have x6 := by_.cell 6 (.bool tb2) rfl
  have x7 := by_.cell 7 (.slice Bb2 mb2 db2) rfl
  have z0 := bz.cell 0 (.bool s) rfl
  have z1 := bz.cell 1 (.slice A n c) rfl
  have z2 := bz.cell 2 (.bool t) rfl
  have z3 := bz.cell 3 (.slice B m d) rfl
  have hnb := Box.new W 28 #[.bool sa1, .slice Aa1 na1 ca1, .bool ta1, .slice Ba1 ma1 da1, .bool sa2, .slice Aa2 na2 ca2, .bool ta2, .slice Ba2 ma2 da2, .bool sb1, .slice Ab1 nb1 cb1, .bool tb1, .slice Bb1 mb1 db1, .bool sb2, .slice Ab2 nb2 cb2, .bool tb2, .slice Bb2 mb2 db2]
  have e1 := (Ext.refl W).alloc (.cells #[.bool sa1, .slice Aa1 na1 ca1, .bool ta1, .slice Ba1 ma1 da1, .bool sa2, .slice Aa2 na2 ca2, .bool ta2, .slice Ba2 ma2 da2, .bool sb1, .slice Ab1 nb1 cb1, .bool tb1, .slice Bb1 mb1 db1, .bool sb2, .slice Ab2 nb2 cb2, .bool tb2, .slice Bb2 mb2 db2] 28)
  go_wp2_with fail
  refine (fewI2 hnb (hr0.ext (extW.trans e1)) (hr1.ext (extW.trans e1))).mono ?_
  rintro e W1 ⟨rfl, hxt⟩
  rw [HF0.out]
  have ES := e1.trans hxt
  clear hnb e1 hxt
  clear k0 k1 k2 k3 k4 k5 k6 k7 x0 x1 x2 x3 x4 x5 x6 x7 z0 z1 z2 z3
  replace bx := bx.ext ES
  replace by_ := by_.ext ES
  replace bz := bz.ext ES
  replace extW := extW.trans ES
  clear ES
  have k0 := bx.cell 0 (.bool sa1) rfl
  have k1 := bx.cell 1 (.slice Aa1 na1 ca1) rfl
  have k2 := bx.cell 2 (.bool ta1) rfl
  have k3 := bx.cell 3 (.slice Ba1 ma1 da1) rfl
  have k4 := bx.cell 4 (.bool sa2) rfl
  have k5 := bx.cell 5 (.slice Aa2 na2 ca2) rfl
  have k6 := bx.cell 6 (.bool ta2) rfl
  have k7 := bx.cell 7 (.slice Ba2 ma2 da2) rfl
  have x0 := by_.cell 0 (.bool sb1) rfl
  have x1 := by_.cell 1 (.slice Ab1 nb1 cb1) rfl
  have x2 := by_.cell 2 (.bool tb1) rfl
  have x3 := by_.cell 3 (.slice Bb1 mb1 db1) rfl
  have x4 := by_.cell 4 (.bool sb2) rfl
  have x5 := by_.cell 5 (.slice Ab2 nb2 cb2) rfl
  have x6 := by_.cell 6 (.bool tb2) rfl
  have x7 := by_.cell 7 (.slice Bb2 mb2 db2) rfl
  have z0 := bz.cell 0 (.bool s) rfl
  have z1 := bz.cell 1 (.slice A n c) rfl
  have z2 := bz.cell 2 (.bool t) rfl
  have z3 := bz.cell 3 (.slice B m d) rfl
  go_wp2_with fail
  refine (q_Few10 (hr2.ext extW) (hk2.ext extW)).mono ?_
  rintro e W2 ⟨rfl, ES⟩
  rw [HF1.out]
  clear k0 k1 k2 k3 k4 k5 k6 k7 x0 x1 x2 x3 x4 x5 x6 x7 z0 z1 z2 z3
  replace bx := bx.ext ES
  replace by_ := by_.ext ES
  replace bz := bz.ext ES
  replace extW := extW.trans ES
  clear ES
  have k0 := bx.cell 0 (.bool sa1) rfl
  have k1 := bx.cell 1 (.slice Aa1 na1 ca1) rfl
  have k2 := bx.cell 2 (.bool ta1) rfl
  have k3 := bx.cell 3 (.slice Ba1 ma1 da1) rfl
  have k4 := bx.cell 4 (.bool sa2) rfl
  have k5 := bx.cell 5 (.slice Aa2 na2 ca2) rfl
  have k6 := bx.cell 6 (.bool ta2) rfl
  have k7 := bx.cell 7 (.slice Ba2 ma2 da2) rfl
  have x0 := by_.cell 0 (.bool sb1) rfl
  have x1 := by_.cell 1 (.slice Ab1 nb1 cb1) rfl
  have x2 := by_.cell 2 (.bool tb1) rfl
  have x3 := by_.cell 3 (.slice Bb1 mb1 db1) rfl
  have x4 := by_.cell 4 (.bool sb2) rfl
  have x5 := by_.cell 5 (.slice Ab2 nb2 cb2) rfl
  have x6 := by_.cell 6 (.bool tb2) rfl
  have x7 := by_.cell 7 (.slice Bb2 mb2 db2) rfl
  go_wp2_with fail
  refine (p_MeetV (h0.ext extW) (h1.ext extW) (by omega)).mono ?_
  intro e Wa hmt
  obtain ⟨s1_, A1_, n1_, c1_, t1_, B1_, m1_, d1_, s1', A1', n1', c1', t1', B1', m1', d1', rfl, y1, hxt⟩ := hmt.yes HC.out
  clear hmt
  clear k0 x0 k1 x1 k2 x2 k3 x3 k4 x4 k5 x5 k6 x6 k7 x7
  replace bx := bx.ext hxt
  replace by_ := by_.ext hxt
  replace bz := bz.ext hxt
  replace extW := extW.trans hxt
  clear hxt
  go_upto_region 4 with (fail)
  refine at_world (fun V => Ext Wa V ∧ Box V Wa.heap.size 28 #[.bool s1_, .slice A1_ n1_ c1_, .bool t1_, .slice B1_ m1_ d1_, .bool s1', .slice A1' n1' c1', .bool t1', .slice B1' m1' d1'] ∧ IV V (mxR lo0 lo1) (mnR hi0 hi1) 10 s1_ A1_ n1_ c1_ t1_ B1_ m1_ d1_ s1' A1' n1' c1' t1' B1' m1' d1') ⟨(Ext.refl Wa).alloc _, Box.new Wa _ _, y1.ext ((Ext.refl Wa).alloc _)⟩ ?_
  generalize Wa.heap.size = g7
  clear y1
  rintro Wav ⟨EV, b7, y1⟩
  replace bx := bx.ext EV
  replace by_ := by_.ext EV
  replace bz := bz.ext EV
  replace extW := extW.trans EV
  clear EV
  have k0 := bx.cell 0 (.bool sa1) rfl
  have k1 := bx.cell 1 (.slice Aa1 na1 ca1) rfl
  have k2 := bx.cell 2 (.bool ta1) rfl
  have k3 := bx.cell 3 (.slice Ba1 ma1 da1) rfl
  have k4 := bx.cell 4 (.bool sa2) rfl
  have k5 := bx.cell 5 (.slice Aa2 na2 ca2) rfl
  have k6 := bx.cell 6 (.bool ta2) rfl
  have k7 := bx.cell 7 (.slice Ba2 ma2 da2) rfl
  have x0 := by_.cell 0 (.bool sb1) rfl
  have x1 := by_.cell 1 (.slice Ab1 nb1 cb1) rfl
  have x2 := by_.cell 2 (.bool tb1) rfl
  have x3 := by_.cell 3 (.slice Bb1 mb1 db1) rfl
  have x4 := by_.cell 4 (.bool sb2) rfl
  have x5 := by_.cell 5 (.slice Ab2 nb2 cb2) rfl
  have x6 := by_.cell 6 (.bool tb2) rfl
  have x7 := by_.cell 7 (.slice Bb2 mb2 db2) rfl
  go_wp2_with fail
  refine (q_MeetV (h0.ext extW) (h1.ext extW) (by omega)).mono ?_
  intro e Wb hmt
  obtain ⟨s2_, A2_, n2_, c2_, t2_, B2_, m2_, d2_, s2', A2', n2', c2', t2', B2', m2', d2', rfl, y2, hxt⟩ := hmt.yes HC.out
  clear hmt
  clear k0 x0 k1 x1 k2 x2 k3 x3 k4 x4 k5 x5 k6 x6 k7 x7
  replace bx := bx.ext hxt
  replace by_ := by_.ext hxt
  replace bz := bz.ext hxt
  replace b7 := b7.ext hxt
  replace y1 := y1.ext hxt
  replace extW := extW.trans hxt
  clear hxt
  go_upto_region 5 with (fail)
  refine at_world (fun V => Ext Wb V ∧ Box V Wb.heap.size 28 #[.bool s2_, .slice A2_ n2_ c2_, .bool t2_, .slice B2_ m2_ d2_, .bool s2', .slice A2' n2' c2', .bool t2', .slice B2' m2' d2'] ∧ IV V (mxR lo0 lo1) (mnR hi0 hi1) 10 s2_ A2_ n2_ c2_ t2_ B2_ m2_ d2_ s2' A2' n2' c2' t2' B2' m2' d2') ⟨(Ext.refl Wb).alloc _, Box.new Wb _ _, y2.ext ((Ext.refl Wb).alloc _)⟩ ?_
  generalize Wb.heap.size = g9
  clear y2
  rintro Wbv ⟨EV, b9, y2⟩
  replace bx := bx.ext EV
  replace by_ := by_.ext EV
  replace bz := bz.ext EV
  replace b7 := b7.ext EV
  replace y1 := y1.ext EV
  replace extW := extW.trans EV
  clear EV
  have k0 := b7.cell 0 (.bool s1_) rfl
  have k1 := b7.cell 1 (.slice A1_ n1_ c1_) rfl
  have k2 := b7.cell 2 (.bool t1_) rfl
  have k3 := b7.cell 3 (.slice B1_ m1_ d1_) rfl
  have k4 := b7.cell 4 (.bool s1') rfl
  have k5 := b7.cell 5 (.slice A1' n1' c1') rfl
  have k6 := b7.cell 6 (.bool t1') rfl
  have k7 := b7.cell 7 (.slice B1' m1' d1') rfl
  have x0 := b9.cell 0 (.bool s2_) rfl
  have x1 := b9.cell 1 (.slice A2_ n2_ c2_) rfl
  have x2 := b9.cell 2 (.bool t2_) rfl
  have x3 := b9.cell 3 (.slice B2_ m2_ d2_) rfl
  have x4 := b9.cell 4 (.bool s2') rfl
  have x5 := b9.cell 5 (.slice A2' n2' c2') rfl
  have x6 := b9.cell 6 (.bool t2') rfl
  have x7 := b9.cell 7 (.slice B2' m2' d2') rfl
  go_wp2_with fail
  refine (q_SameV y1 y2).mono ?_
  rintro e Wc ⟨rfl, hxt⟩
  clear k0 x0 k1 x1 k2 x2 k3 x3 k4 x4 k5 x5 k6 x6 k7 x7
  replace bx := bx.ext hxt
  replace by_ := by_.ext hxt
  replace bz := bz.ext hxt
  replace b7 := b7.ext hxt
  replace b9 := b9.ext hxt
  replace y1 := y1.ext hxt
  replace y2 := y2.ext hxt
  replace extW := extW.trans hxt
  clear hxt
  go_upto_region 7 with (fail)
  have ES0 := Ext.refl Wc
  refine wp_region_held_drew (S := Ext Wc) (by kernel_rfl) ES0.drew (fun ES => ?_)
  clear ES0
  refine Late.start0 (fun _ _ _ _ _ => ⟨fun h => h, fun h => h⟩) ES (fun hAl hQ => ?_)
  refine Late.take (i := 0) (d := some 59) (v := ?v0_119) rfl rfl (by kernel_rfl) (by kernel_rfl) (by kernel_rfl) (by kernel_rfl) hQ (Or.inl ⟨by rfl, ?y0_119⟩) ?r0_119
  case y0_119 =>
    intro w' hSw
    have k00 := (bx.ext hSw).c8
    have k10 := (by_.ext hSw).c8
    have k20 := (bz.ext hSw).c4
    have k30 := (b7.ext hSw).c8
    go_simp
    try with_reducible rfl
  try simp only [Act.put]
  try simp only [List.setIfInBounds_toArray]
  try simp only [List.set_cons_succ]
  try simp only [List.set_cons_zero]
  refine Late.take (i := 6) (d := some 65) (v := ?v6_120) rfl rfl (by kernel_rfl) (by kernel_rfl) (by kernel_rfl) (by kernel_rfl) hQ (Or.inl ⟨by rfl, ?y6_120⟩) ?r6_120
  case y6_120 =>
    intro w' hSw
    have k00 := (bx.ext hSw).c8
    have k10 := (by_.ext hSw).c8
    have k20 := (bz.ext hSw).c4
    have k30 := (b7.ext hSw).c8
    go_simp
    try with_reducible rfl
  try simp only [Act.put]
  try simp only [List.setIfInBounds_toArray]
  try simp only [List.set_cons_succ]
  try simp only [List.set_cons_zero]
  refine Late.take (i := 7) (d := some 66) (v := ?v7_121) rfl rfl (by kernel_rfl) (by kernel_rfl) (by kernel_rfl) (by kernel_rfl) hQ (Or.inl ⟨by rfl, ?y7_121⟩) ?r7_121
  case y7_121 =>
    intro w' hSw
    have k00 := (bx.ext hSw).c8
    have k10 := (by_.ext hSw).c8
    have k20 := (bz.ext hSw).c4
    have k30 := (b7.ext hSw).c8
    go_simp
    try with_reducible rfl
  try simp only [Act.put]
  try simp only [List.setIfInBounds_toArray]
  try simp only [List.set_cons_succ]
  try simp only [List.set_cons_zero]
  refine Late.take (i := 1) (d := some 60) (v := ?v1_122) rfl rfl (by kernel_rfl) (by kernel_rfl) (by kernel_rfl) (by kernel_rfl) hQ (Or.inl ⟨by rfl, ?y1_122⟩) ?r1_122
  case y1_122 =>
    intro w' hSw
    have k00 := (bx.ext hSw).c8
    have k10 := (by_.ext hSw).c8
    have k20 := (bz.ext hSw).c4
    have k30 := (b7.ext hSw).c8
    go_simp
    try with_reducible rfl
  try simp only [Act.put]
  try simp only [List.setIfInBounds_toArray]
  try simp only [List.set_cons_succ]
  try simp only [List.set_cons_zero]
  refine Late.take (i := 2) (d := some 61) (v := ?v2_123) rfl rfl (by kernel_rfl) (by kernel_rfl) (by kernel_rfl) (by kernel_rfl) hQ (Or.inl ⟨by rfl, ?y2_123⟩) ?r2_123
  case y2_123 =>
    intro w' hSw
    have k00 := (bx.ext hSw).c8
    have k10 := (by_.ext hSw).c8
    have k20 := (bz.ext hSw).c4
    have k30 := (b7.ext hSw).c8
    go_simp
    try with_reducible rfl
  try simp only [Act.put]
  try simp only [List.setIfInBounds_toArray]
  try simp only [List.set_cons_succ]
  try simp only [List.set_cons_zero]
  refine Late.take (i := 3) (d := some 62) (v := ?v3_124) rfl rfl (by kernel_rfl) (by kernel_rfl) (by kernel_rfl) (by kernel_rfl) hQ (Or.inl ⟨by rfl, ?y3_124⟩) ?r3_124
  case y3_124 =>
    intro w' hSw
    have k00 := (bx.ext hSw).c8
    have k10 := (by_.ext hSw).c8
    have k20 := (bz.ext hSw).c4
    have k30 := (b7.ext hSw).c8
    go_simp
    try with_reducible rfl
  try simp only [Act.put]
  try simp only [List.setIfInBounds_toArray]
  try simp only [List.set_cons_succ]
  try simp only [List.set_cons_zero]
  refine Late.call (i := 4) rfl (by kernel_rfl) hAl (by kernel_rfl) (by kernel_rfl) (by kernel_rfl) hQ (fun w4 e4 E4 K hK => ?_)
  go_simp
  (go_at_call 38; refine (p_Contains (y1.ext E4) (hx.ext (extW.trans E4)) (by omega) (by omega)).mono ?_; rintro e wk4 ⟨rfl, hx4⟩; rw [inB_meet, HA1.out, HB1.out])
  refine hK.out _ _ hx4 ?_
  clear hK K
  try simp only [Act.put]
  try simp only [List.setIfInBounds_toArray]
  try simp only [List.set_cons_succ]
  try simp only [List.set_cons_zero]
  refine Late.take (i := 5) (d := some 64) (v := ?v5_125) rfl rfl (by kernel_rfl) (by kernel_rfl) (by kernel_rfl) (by kernel_rfl) hQ (Or.inl ⟨by rfl, ?y5_125⟩) ?r5_125
  case y5_125 =>
    intro w' hSw
    have k00 := (bx.ext hSw).c8
    have k10 := (by_.ext hSw).c8
    have k20 := (bz.ext hSw).c4
    have k30 := (b7.ext hSw).c8
    go_simp
    try with_reducible rfl
  try simp only [Act.put]
  try simp only [List.setIfInBounds_toArray]
  try simp only [List.set_cons_succ]
  try simp only [List.set_cons_zero]
  refine Late.call (i := 8) rfl (by kernel_rfl) hAl (by kernel_rfl) (by kernel_rfl) (by kernel_rfl) hQ (fun w8 e8 E8 K hK => ?_)
  go_simp
  (go_at_call 38; refine (p_Contains (h0.ext (extW.trans E8)) (hx.ext (extW.trans E8)) (by omega) (by omega)).mono ?_; rintro e wk8 ⟨rfl, hx8⟩; rw [HA1.out])
  refine hK.out _ _ hx8 ?_
  clear hK K
  try simp only [Act.put]
  try simp only [List.setIfInBounds_toArray]
  try simp only [List.set_cons_succ]
  try simp only [List.set_cons_zero]
  refine Late.take (i := 9) (d := some 68) (v := ?v9_126) rfl rfl (by kernel_rfl) (by kernel_rfl) (by kernel_rfl) (by kernel_rfl) hQ (Or.inl ⟨by rfl, ?y9_126⟩) ?r9_126
  case y9_126 =>
    intro w' hSw
    have k00 := (bx.ext hSw).c8
    have k10 := (by_.ext hSw).c8
    have k20 := (bz.ext hSw).c4
    have k30 := (b7.ext hSw).c8
    go_simp
    try with_reducible rfl
  try simp only [Act.put]
  try simp only [List.setIfInBounds_toArray]
  try simp only [List.set_cons_succ]
  try simp only [List.set_cons_zero]
  refine Late.take (i := 10) (d := some 69) (v := ?v10_127) rfl rfl (by kernel_rfl) (by kernel_rfl) (by kernel_rfl) (by kernel_rfl) hQ (Or.inl ⟨by rfl, ?y10_127⟩) ?r10_127
  case y10_127 =>
    intro w' hSw
    have k00 := (bx.ext hSw).c8
    have k10 := (by_.ext hSw).c8
    have k20 := (bz.ext hSw).c4
    have k30 := (b7.ext hSw).c8
    go_simp
    try with_reducible rfl
  try simp only [Act.put]
  try simp only [List.setIfInBounds_toArray]
  try simp only [List.set_cons_succ]
  try simp only [List.set_cons_zero]
  refine Late.take (i := 11) (d := some 70) (v := ?v11_128) rfl rfl (by kernel_rfl) (by kernel_rfl) (by kernel_rfl) (by kernel_rfl) hQ (Or.inl ⟨by rfl, ?y11_128⟩) ?r11_128
  case y11_128 =>
    intro w' hSw
    have k00 := (bx.ext hSw).c8
    have k10 := (by_.ext hSw).c8
    have k20 := (bz.ext hSw).c4
    have k30 := (b7.ext hSw).c8
    go_simp
    try with_reducible rfl
  try simp only [Act.put]
  try simp only [List.setIfInBounds_toArray]
  try simp only [List.set_cons_succ]
  try simp only [List.set_cons_zero]
  refine Late.call (i := 12) rfl (by kernel_rfl) hAl (by kernel_rfl) (by kernel_rfl) (by kernel_rfl) hQ (fun w12 e12 E12 K hK => ?_)
  go_simp
  (go_at_call 38; refine (p_Contains (h1.ext (extW.trans E12)) (hx.ext (extW.trans E12)) (by omega) (by omega)).mono ?_; rintro e wk12 ⟨rfl, hx12⟩; rw [HB1.out])
  refine hK.out _ _ hx12 ?_
  clear hK K
  try simp only [Act.put]
  try simp only [List.setIfInBounds_toArray]
  try simp only [List.set_cons_succ]
  try simp only [List.set_cons_zero]
  refine Late.take (i := 13) (d := some 72) (v := ?v13_129) rfl rfl (by kernel_rfl) (by kernel_rfl) (by kernel_rfl) (by kernel_rfl) hQ (Or.inl ⟨by rfl, ?y13_129⟩) ?r13_129
  case y13_129 =>
    intro w' hSw
    have k00 := (bx.ext hSw).c8
    have k10 := (by_.ext hSw).c8
    have k20 := (bz.ext hSw).c4
    have k30 := (b7.ext hSw).c8
    go_simp
    try with_reducible rfl
  try simp only [Act.put]
  try simp only [List.setIfInBounds_toArray]
  try simp only [List.set_cons_succ]
  try simp only [List.set_cons_zero]
  refine Late.take (i := 14) (d := some 73) (v := ?v14_130) rfl rfl (by kernel_rfl) (by kernel_rfl) (by kernel_rfl) (by kernel_rfl) hQ (Or.inl ⟨by rfl, ?y14_130⟩) ?r14_130
  case y14_130 =>
    intro w' hSw
    have k00 := (bx.ext hSw).c8
    have k10 := (by_.ext hSw).c8
    have k20 := (bz.ext hSw).c4
    have k30 := (b7.ext hSw).c8
    go_simp
    try with_reducible rfl
  try simp only [Act.put]
  try simp only [List.setIfInBounds_toArray]
  try simp only [List.set_cons_succ]
  try simp only [List.set_cons_zero]
  refine Late.take (i := 15) (d := some 6) (v := ?v15_131) rfl rfl (by kernel_rfl) (by kernel_rfl) (by kernel_rfl) (by kernel_rfl) hQ (Or.inl ⟨by rfl, ?y15_131⟩) ?r15_131
  case y15_131 =>
    intro w' hSw
    have k00 := (bx.ext hSw).c8
    have k10 := (by_.ext hSw).c8
    have k20 := (bz.ext hSw).c4
    have k30 := (b7.ext hSw).c8
    go_simp
    try with_reducible rfl
  try simp only [Act.put]
  try simp only [List.setIfInBounds_toArray]
  try simp only [List.set_cons_succ]
  try simp only [List.set_cons_zero]
  refine Late.done0 (by kernel_rfl) (fun wz ez Ez => ?_)
  clear hAl hQ ES
  go_wp2_with fail
  go_ret
  exact ⟨rfl, extW.trans Ez⟩
set_option maxHeartbeats 16000000 in
set_option maxRecDepth 100000 in
theorem meet3_y_false_true {w : World} {sa1 ta1 sa2 ta2 : Bool} {Aa1 Ba1 Aa2 Ba2 : Option Addr} {na1 ca1 ma1 da1 na2 ca2 ma2 da2 : Nat} {xa1 ya1 xa2 ya2 : List Nat} {sb1 tb1 sb2 tb2 : Bool} {Ab1 Bb1 Ab2 Bb2 : Option Addr} {nb1 cb1 mb1 db1 nb2 cb2 mb2 db2 : Nat} {xb1 yb1 xb2 yb2 : List Nat} {s t : Bool} {A B : Option Addr} {n c m d : Nat} {xs ys : List Nat} {lo0 hi0 lo1 hi1 : Rat} (hA : Awake3) (hT : Tab w) (hr0 : RawV w Aa1 na1 ca1 xa1 Ba1 ma1 da1 ya1 Aa2 na2 ca2 xa2 Ba2 ma2 da2 ya2) (hr1 : RawV w Ab1 nb1 cb1 xb1 Bb1 mb1 db1 yb1 Ab2 nb2 cb2 xb2 Bb2 mb2 db2 yb2) (hr2 : RI w A n c xs) (hk2 : RI w B m d ys) (h0 : IV w lo0 hi0 10 sa1 Aa1 na1 ca1 ta1 Ba1 ma1 da1 sa2 Aa2 na2 ca2 ta2 Ba2 ma2 da2) (h1 : IV w lo1 hi1 10 sb1 Ab1 nb1 cb1 tb1 Bb1 mb1 db1 sb2 Ab2 nb2 cb2 tb2 Bb2 mb2 db2) {x : Rat} (hx : NR w x 10 s A n c t B m d) (hc : mxR lo0 lo1 ≤ mnR hi0 hi1) (hbA : inB lo0 hi0 x = false) (hbB : inB lo1 hi1 x = true) (hf0 : (fewV na1 ma1 na2 ma2 sa1 xa1 ta1 ya1 sa2 xa2 ta2 ya2 && (fewV nb1 mb1 nb2 mb2 sb1 xb1 tb1 yb1 sb2 xb2 tb2 yb2)) = true) (hf1 : (few10 n m s xs t ys) = true) :
    Calls Tryz.prog 9 #[.agg #[.bool sa1, .slice Aa1 na1 ca1, .bool ta1, .slice Ba1 ma1 da1, .bool sa2, .slice Aa2 na2 ca2, .bool ta2, .slice Ba2 ma2 da2], .agg #[.bool sb1, .slice Ab1 nb1 cb1, .bool tb1, .slice Bb1 mb1 db1, .bool sb2, .slice Ab2 nb2 cb2, .bool tb2, .slice Bb2 mb2 db2], .agg #[.bool s, .slice A n c, .bool t, .slice B m d]] w fun e w' => e = .returned (.bool true) ∧ Ext w w' := by
  have HF0 := Lib.hid hf0
  clear hf0
  have HF1 := Lib.hid hf1
  clear hf1
  have HC := Lib.hid hc
  have HA1 := Lib.hid hbA
  have HB1 := Lib.hid hbB
  clear hc hbA hbB
  have HA := Lib.hid hA
  clear hA
  go_enter Tryz.func9, Tryz.ntmps9
  go_upto_region 1 with (fail)
  obtain ⟨W0, hW, extW, bx, by_, bz, hzz⟩ := box3 w 28 28 26 #[.bool sa1, .slice Aa1 na1 ca1, .bool ta1, .slice Ba1 ma1 da1, .bool sa2, .slice Aa2 na2 ca2, .bool ta2, .slice Ba2 ma2 da2] #[.bool sb1, .slice Ab1 nb1 cb1, .bool tb1, .slice Bb1 mb1 db1, .bool sb2, .slice Ab2 nb2 cb2, .bool tb2, .slice Bb2 mb2 db2] #[.bool s, .slice A n c, .bool t, .slice B m d]
  rw [← hW]
  clear hW hzz
  go_wp2_with fail
  refine (HA.out _ (hT.ext extW)).mono ?_
  rintro e W ⟨rfl, hxt⟩
  replace bx := bx.ext hxt
  replace by_ := by_.ext hxt
  replace bz := bz.ext hxt
  replace extW := extW.trans hxt
  clear hxt
  have k0 := bx.cell 0 (.bool sa1) rfl
  have k1 := bx.cell 1 (.slice Aa1 na1 ca1) rfl
  have k2 := bx.cell 2 (.bool ta1) rfl
  have k3 := bx.cell 3 (.slice Ba1 ma1 da1) rfl
  have k4 := bx.cell 4 (.bool sa2) rfl
  have k5 := bx.cell 5 (.slice Aa2 na2 ca2) rfl
  have k6 := bx.cell 6 (.bool ta2) rfl
  have k7 := bx.cell 7 (.slice Ba2 ma2 da2) rfl
  have x0 := by_.cell 0 (.bool sb1) rfl
  have x1 := by_.cell 1 (.slice Ab1 nb1 cb1) rfl
  have x2 := by_.cell 2 (.bool tb1) rfl
  have x3 := by_.cell 3 (.slice Bb1 mb1 db1) rfl
  have x4 := by_.cell 4 (.bool sb2) rfl
  have x5 := by_.cell 5 (.slice Ab2 nb2 cb2) rfl
  have x6 := by_.cell 6 (.bool tb2) rfl
  have x7 := by_.cell 7 (.slice Bb2 mb2 db2) rfl
  have z0 := bz.cell 0 (.bool s) rfl
  have z1 := bz.cell 1 (.slice A n c) rfl
  have z2 := bz.cell 2 (.bool t) rfl
  have z3 := bz.cell 3 (.slice B m d) rfl
  have hnb := Box.new W 28 #[.bool sa1, .slice Aa1 na1 ca1, .bool ta1, .slice Ba1 ma1 da1, .bool sa2, .slice Aa2 na2 ca2, .bool ta2, .slice Ba2 ma2 da2, .bool sb1, .slice Ab1 nb1 cb1, .bool tb1, .slice Bb1 mb1 db1, .bool sb2, .slice Ab2 nb2 cb2, .bool tb2, .slice Bb2 mb2 db2]
  have e1 := (Ext.refl W).alloc (.cells #[.bool sa1, .slice Aa1 na1 ca1, .bool ta1, .slice Ba1 ma1 da1, .bool sa2, .slice Aa2 na2 ca2, .bool ta2, .slice Ba2 ma2 da2, .bool sb1, .slice Ab1 nb1 cb1, .bool tb1, .slice Bb1 mb1 db1, .bool sb2, .slice Ab2 nb2 cb2, .bool tb2, .slice Bb2 mb2 db2] 28)
  go_wp2_with fail
  refine (fewI2 hnb (hr0.ext (extW.trans e1)) (hr1.ext (extW.trans e1))).mono ?_
  rintro e W1 ⟨rfl, hxt⟩
  rw [HF0.out]
  have ES := e1.trans hxt
  clear hnb e1 hxt
  clear k0 k1 k2 k3 k4 k5 k6 k7 x0 x1 x2 x3 x4 x5 x6 x7 z0 z1 z2 z3
  replace bx := bx.ext ES
  replace by_ := by_.ext ES
  replace bz := bz.ext ES
  replace extW := extW.trans ES
  clear ES
  have k0 := bx.cell 0 (.bool sa1) rfl
  have k1 := bx.cell 1 (.slice Aa1 na1 ca1) rfl
  have k2 := bx.cell 2 (.bool ta1) rfl
  have k3 := bx.cell 3 (.slice Ba1 ma1 da1) rfl
  have k4 := bx.cell 4 (.bool sa2) rfl
  have k5 := bx.cell 5 (.slice Aa2 na2 ca2) rfl
  have k6 := bx.cell 6 (.bool ta2) rfl
  have k7 := bx.cell 7 (.slice Ba2 ma2 da2) rfl
  have x0 := by_.cell 0 (.bool sb1) rfl
  have x1 := by_.cell 1 (.slice Ab1 nb1 cb1) rfl
  have x2 := by_.cell 2 (.bool tb1) rfl
  have x3 := by_.cell 3 (.slice Bb1 mb1 db1) rfl
  have x4 := by_.cell 4 (.bool sb2) rfl
  have x5 := by_.cell 5 (.slice Ab2 nb2 cb2) rfl
  have x6 := by_.cell 6 (.bool tb2) rfl
  have x7 := by_.cell 7 (.slice Bb2 mb2 db2) rfl
  have z0 := bz.cell 0 (.bool s) rfl
  have z1 := bz.cell 1 (.slice A n c) rfl
  have z2 := bz.cell 2 (.bool t) rfl
  have z3 := bz.cell 3 (.slice B m d) rfl
  go_wp2_with fail
  refine (q_Few10 (hr2.ext extW) (hk2.ext extW)).mono ?_
  rintro e W2 ⟨rfl, ES⟩
  rw [HF1.out]
  clear k0 k1 k2 k3 k4 k5 k6 k7 x0 x1 x2 x3 x4 x5 x6 x7 z0 z1 z2 z3
  replace bx := bx.ext ES
  replace by_ := by_.ext ES
  replace bz := bz.ext ES
  replace extW := extW.trans ES
  clear ES
  have k0 := bx.cell 0 (.bool sa1) rfl
  have k1 := bx.cell 1 (.slice Aa1 na1 ca1) rfl
  have k2 := bx.cell 2 (.bool ta1) rfl
  have k3 := bx.cell 3 (.slice Ba1 ma1 da1) rfl
  have k4 := bx.cell 4 (.bool sa2) rfl
  have k5 := bx.cell 5 (.slice Aa2 na2 ca2) rfl
  have k6 := bx.cell 6 (.bool ta2) rfl
  have k7 := bx.cell 7 (.slice Ba2 ma2 da2) rfl
  have x0 := by_.cell 0 (.bool sb1) rfl
  have x1 := by_.cell 1 (.slice Ab1 nb1 cb1) rfl
  have x2 := by_.cell 2 (.bool tb1) rfl
  have x3 := by_.cell 3 (.slice Bb1 mb1 db1) rfl
  have x4 := by_.cell 4 (.bool sb2) rfl
  have x5 := by_.cell 5 (.slice Ab2 nb2 cb2) rfl
  have x6 := by_.cell 6 (.bool tb2) rfl
  have x7 := by_.cell 7 (.slice Bb2 mb2 db2) rfl
  go_wp2_with fail
  refine (p_MeetV (h0.ext extW) (h1.ext extW) (by omega)).mono ?_
  intro e Wa hmt
  obtain ⟨s1_, A1_, n1_, c1_, t1_, B1_, m1_, d1_, s1', A1', n1', c1', t1', B1', m1', d1', rfl, y1, hxt⟩ := hmt.yes HC.out
  clear hmt
  clear k0 x0 k1 x1 k2 x2 k3 x3 k4 x4 k5 x5 k6 x6 k7 x7
  replace bx := bx.ext hxt
  replace by_ := by_.ext hxt
  replace bz := bz.ext hxt
  replace extW := extW.trans hxt
  clear hxt
  go_upto_region 4 with (fail)
  refine at_world (fun V => Ext Wa V ∧ Box V Wa.heap.size 28 #[.bool s1_, .slice A1_ n1_ c1_, .bool t1_, .slice B1_ m1_ d1_, .bool s1', .slice A1' n1' c1', .bool t1', .slice B1' m1' d1'] ∧ IV V (mxR lo0 lo1) (mnR hi0 hi1) 10 s1_ A1_ n1_ c1_ t1_ B1_ m1_ d1_ s1' A1' n1' c1' t1' B1' m1' d1') ⟨(Ext.refl Wa).alloc _, Box.new Wa _ _, y1.ext ((Ext.refl Wa).alloc _)⟩ ?_
  generalize Wa.heap.size = g7
  clear y1
  rintro Wav ⟨EV, b7, y1⟩
  replace bx := bx.ext EV
  replace by_ := by_.ext EV
  replace bz := bz.ext EV
  replace extW := extW.trans EV
  clear EV
  have k0 := bx.cell 0 (.bool sa1) rfl
  have k1 := bx.cell 1 (.slice Aa1 na1 ca1) rfl
  have k2 := bx.cell 2 (.bool ta1) rfl
  have k3 := bx.cell 3 (.slice Ba1 ma1 da1) rfl
  have k4 := bx.cell 4 (.bool sa2) rfl
  have k5 := bx.cell 5 (.slice Aa2 na2 ca2) rfl
  have k6 := bx.cell 6 (.bool ta2) rfl
  have k7 := bx.cell 7 (.slice Ba2 ma2 da2) rfl
  have x0 := by_.cell 0 (.bool sb1) rfl
  have x1 := by_.cell 1 (.slice Ab1 nb1 cb1) rfl
  have x2 := by_.cell 2 (.bool tb1) rfl
  have x3 := by_.cell 3 (.slice Bb1 mb1 db1) rfl
  have x4 := by_.cell 4 (.bool sb2) rfl
  have x5 := by_.cell 5 (.slice Ab2 nb2 cb2) rfl
  have x6 := by_.cell 6 (.bool tb2) rfl
  have x7 := by_.cell 7 (.slice Bb2 mb2 db2) rfl
  go_wp2_with fail
  refine (q_MeetV (h0.ext extW) (h1.ext extW) (by omega)).mono ?_
  intro e Wb hmt
  obtain ⟨s2_, A2_, n2_, c2_, t2_, B2_, m2_, d2_, s2', A2', n2', c2', t2', B2', m2', d2', rfl, y2, hxt⟩ := hmt.yes HC.out
  clear hmt
  clear k0 x0 k1 x1 k2 x2 k3 x3 k4 x4 k5 x5 k6 x6 k7 x7
  replace bx := bx.ext hxt
  replace by_ := by_.ext hxt
  replace bz := bz.ext hxt
  replace b7 := b7.ext hxt
  replace y1 := y1.ext hxt
  replace extW := extW.trans hxt
  clear hxt
  go_upto_region 5 with (fail)
  refine at_world (fun V => Ext Wb V ∧ Box V Wb.heap.size 28 #[.bool s2_, .slice A2_ n2_ c2_, .bool t2_, .slice B2_ m2_ d2_, .bool s2', .slice A2' n2' c2', .bool t2', .slice B2' m2' d2'] ∧ IV V (mxR lo0 lo1) (mnR hi0 hi1) 10 s2_ A2_ n2_ c2_ t2_ B2_ m2_ d2_ s2' A2' n2' c2' t2' B2' m2' d2') ⟨(Ext.refl Wb).alloc _, Box.new Wb _ _, y2.ext ((Ext.refl Wb).alloc _)⟩ ?_
  generalize Wb.heap.size = g9
  clear y2
  rintro Wbv ⟨EV, b9, y2⟩
  replace bx := bx.ext EV
  replace by_ := by_.ext EV
  replace bz := bz.ext EV
  replace b7 := b7.ext EV
  replace y1 := y1.ext EV
  replace extW := extW.trans EV
  clear EV
  have k0 := b7.cell 0 (.bool s1_) rfl
  have k1 := b7.cell 1 (.slice A1_ n1_ c1_) rfl
  have k2 := b7.cell 2 (.bool t1_) rfl
  have k3 := b7.cell 3 (.slice B1_ m1_ d1_) rfl
  have k4 := b7.cell 4 (.bool s1') rfl
  have k5 := b7.cell 5 (.slice A1' n1' c1') rfl
  have k6 := b7.cell 6 (.bool t1') rfl
  have k7 := b7.cell 7 (.slice B1' m1' d1') rfl
  have x0 := b9.cell 0 (.bool s2_) rfl
  have x1 := b9.cell 1 (.slice A2_ n2_ c2_) rfl
  have x2 := b9.cell 2 (.bool t2_) rfl
  have x3 := b9.cell 3 (.slice B2_ m2_ d2_) rfl
  have x4 := b9.cell 4 (.bool s2') rfl
  have x5 := b9.cell 5 (.slice A2' n2' c2') rfl
  have x6 := b9.cell 6 (.bool t2') rfl
  have x7 := b9.cell 7 (.slice B2' m2' d2') rfl
  go_wp2_with fail
  refine (q_SameV y1 y2).mono ?_
  rintro e Wc ⟨rfl, hxt⟩
  clear k0 x0 k1 x1 k2 x2 k3 x3 k4 x4 k5 x5 k6 x6 k7 x7
  replace bx := bx.ext hxt
  replace by_ := by_.ext hxt
  replace bz := bz.ext hxt
  replace b7 := b7.ext hxt
  replace b9 := b9.ext hxt
  replace y1 := y1.ext hxt
  replace y2 := y2.ext hxt
  replace extW := extW.trans hxt
  clear hxt
  go_upto_region 7 with (fail)
  have ES0 := Ext.refl Wc
  refine wp_region_held_drew (S := Ext Wc) (by kernel_rfl) ES0.drew (fun ES => ?_)
  clear ES0
  refine Late.start0 (fun _ _ _ _ _ => ⟨fun h => h, fun h => h⟩) ES (fun hAl hQ => ?_)
  refine Late.take (i := 0) (d := some 59) (v := ?v0_132) rfl rfl (by kernel_rfl) (by kernel_rfl) (by kernel_rfl) (by kernel_rfl) hQ (Or.inl ⟨by rfl, ?y0_132⟩) ?r0_132
  case y0_132 =>
    intro w' hSw
    have k00 := (bx.ext hSw).c8
    have k10 := (by_.ext hSw).c8
    have k20 := (bz.ext hSw).c4
    have k30 := (b7.ext hSw).c8
    go_simp
    try with_reducible rfl
  try simp only [Act.put]
  try simp only [List.setIfInBounds_toArray]
  try simp only [List.set_cons_succ]
  try simp only [List.set_cons_zero]
  refine Late.take (i := 6) (d := some 65) (v := ?v6_133) rfl rfl (by kernel_rfl) (by kernel_rfl) (by kernel_rfl) (by kernel_rfl) hQ (Or.inl ⟨by rfl, ?y6_133⟩) ?r6_133
  case y6_133 =>
    intro w' hSw
    have k00 := (bx.ext hSw).c8
    have k10 := (by_.ext hSw).c8
    have k20 := (bz.ext hSw).c4
    have k30 := (b7.ext hSw).c8
    go_simp
    try with_reducible rfl
  try simp only [Act.put]
  try simp only [List.setIfInBounds_toArray]
  try simp only [List.set_cons_succ]
  try simp only [List.set_cons_zero]
  refine Late.take (i := 7) (d := some 66) (v := ?v7_134) rfl rfl (by kernel_rfl) (by kernel_rfl) (by kernel_rfl) (by kernel_rfl) hQ (Or.inl ⟨by rfl, ?y7_134⟩) ?r7_134
  case y7_134 =>
    intro w' hSw
    have k00 := (bx.ext hSw).c8
    have k10 := (by_.ext hSw).c8
    have k20 := (bz.ext hSw).c4
    have k30 := (b7.ext hSw).c8
    go_simp
    try with_reducible rfl
  try simp only [Act.put]
  try simp only [List.setIfInBounds_toArray]
  try simp only [List.set_cons_succ]
  try simp only [List.set_cons_zero]
  refine Late.take (i := 1) (d := some 60) (v := ?v1_135) rfl rfl (by kernel_rfl) (by kernel_rfl) (by kernel_rfl) (by kernel_rfl) hQ (Or.inl ⟨by rfl, ?y1_135⟩) ?r1_135
  case y1_135 =>
    intro w' hSw
    have k00 := (bx.ext hSw).c8
    have k10 := (by_.ext hSw).c8
    have k20 := (bz.ext hSw).c4
    have k30 := (b7.ext hSw).c8
    go_simp
    try with_reducible rfl
  try simp only [Act.put]
  try simp only [List.setIfInBounds_toArray]
  try simp only [List.set_cons_succ]
  try simp only [List.set_cons_zero]
  refine Late.take (i := 2) (d := some 61) (v := ?v2_136) rfl rfl (by kernel_rfl) (by kernel_rfl) (by kernel_rfl) (by kernel_rfl) hQ (Or.inl ⟨by rfl, ?y2_136⟩) ?r2_136
  case y2_136 =>
    intro w' hSw
    have k00 := (bx.ext hSw).c8
    have k10 := (by_.ext hSw).c8
    have k20 := (bz.ext hSw).c4
    have k30 := (b7.ext hSw).c8
    go_simp
    try with_reducible rfl
  try simp only [Act.put]
  try simp only [List.setIfInBounds_toArray]
  try simp only [List.set_cons_succ]
  try simp only [List.set_cons_zero]
  refine Late.take (i := 3) (d := some 62) (v := ?v3_137) rfl rfl (by kernel_rfl) (by kernel_rfl) (by kernel_rfl) (by kernel_rfl) hQ (Or.inl ⟨by rfl, ?y3_137⟩) ?r3_137
  case y3_137 =>
    intro w' hSw
    have k00 := (bx.ext hSw).c8
    have k10 := (by_.ext hSw).c8
    have k20 := (bz.ext hSw).c4
    have k30 := (b7.ext hSw).c8
    go_simp
    try with_reducible rfl
  try simp only [Act.put]
  try simp only [List.setIfInBounds_toArray]
  try simp only [List.set_cons_succ]
  try simp only [List.set_cons_zero]
  refine Late.call (i := 4) rfl (by kernel_rfl) hAl (by kernel_rfl) (by kernel_rfl) (by kernel_rfl) hQ (fun w4 e4 E4 K hK => ?_)
  go_simp
  (go_at_call 38; refine (p_Contains (y1.ext E4) (hx.ext (extW.trans E4)) (by omega) (by omega)).mono ?_; rintro e wk4 ⟨rfl, hx4⟩; rw [inB_meet, HA1.out, HB1.out])
  refine hK.out _ _ hx4 ?_
  clear hK K
  try simp only [Act.put]
  try simp only [List.setIfInBounds_toArray]
  try simp only [List.set_cons_succ]
  try simp only [List.set_cons_zero]
  refine Late.take (i := 5) (d := some 64) (v := ?v5_138) rfl rfl (by kernel_rfl) (by kernel_rfl) (by kernel_rfl) (by kernel_rfl) hQ (Or.inl ⟨by rfl, ?y5_138⟩) ?r5_138
  case y5_138 =>
    intro w' hSw
    have k00 := (bx.ext hSw).c8
    have k10 := (by_.ext hSw).c8
    have k20 := (bz.ext hSw).c4
    have k30 := (b7.ext hSw).c8
    go_simp
    try with_reducible rfl
  try simp only [Act.put]
  try simp only [List.setIfInBounds_toArray]
  try simp only [List.set_cons_succ]
  try simp only [List.set_cons_zero]
  refine Late.call (i := 8) rfl (by kernel_rfl) hAl (by kernel_rfl) (by kernel_rfl) (by kernel_rfl) hQ (fun w8 e8 E8 K hK => ?_)
  go_simp
  (go_at_call 38; refine (p_Contains (h0.ext (extW.trans E8)) (hx.ext (extW.trans E8)) (by omega) (by omega)).mono ?_; rintro e wk8 ⟨rfl, hx8⟩; rw [HA1.out])
  refine hK.out _ _ hx8 ?_
  clear hK K
  try simp only [Act.put]
  try simp only [List.setIfInBounds_toArray]
  try simp only [List.set_cons_succ]
  try simp only [List.set_cons_zero]
  refine Late.take (i := 9) (d := some 68) (v := ?v9_139) rfl rfl (by kernel_rfl) (by kernel_rfl) (by kernel_rfl) (by kernel_rfl) hQ (Or.inl ⟨by rfl, ?y9_139⟩) ?r9_139
  case y9_139 =>
    intro w' hSw
    have k00 := (bx.ext hSw).c8
    have k10 := (by_.ext hSw).c8
    have k20 := (bz.ext hSw).c4
    have k30 := (b7.ext hSw).c8
    go_simp
    try with_reducible rfl
  try simp only [Act.put]
  try simp only [List.setIfInBounds_toArray]
  try simp only [List.set_cons_succ]
  try simp only [List.set_cons_zero]
  refine Late.take (i := 10) (d := some 69) (v := undef) rfl rfl (by kernel_rfl) (by kernel_rfl) (by kernel_rfl) (by kernel_rfl) hQ (Or.inr ⟨by kernel_rfl, rfl⟩) ?_
  try simp only [Act.put]
  try simp only [List.setIfInBounds_toArray]
  try simp only [List.set_cons_succ]
  try simp only [List.set_cons_zero]
  refine Late.take (i := 11) (d := some 70) (v := undef) rfl rfl (by kernel_rfl) (by kernel_rfl) (by kernel_rfl) (by kernel_rfl) hQ (Or.inr ⟨by kernel_rfl, rfl⟩) ?_
  try simp only [Act.put]
  try simp only [List.setIfInBounds_toArray]
  try simp only [List.set_cons_succ]
  try simp only [List.set_cons_zero]
  refine Late.take (i := 12) (d := some 71) (v := undef) rfl rfl (by kernel_rfl) (by kernel_rfl) (by kernel_rfl) (by kernel_rfl) hQ (Or.inr ⟨by kernel_rfl, rfl⟩) ?_
  try simp only [Act.put]
  try simp only [List.setIfInBounds_toArray]
  try simp only [List.set_cons_succ]
  try simp only [List.set_cons_zero]
  refine Late.take (i := 13) (d := some 72) (v := ?v13_140) rfl rfl (by kernel_rfl) (by kernel_rfl) (by kernel_rfl) (by kernel_rfl) hQ (Or.inl ⟨by rfl, ?y13_140⟩) ?r13_140
  case y13_140 =>
    intro w' hSw
    have k00 := (bx.ext hSw).c8
    have k10 := (by_.ext hSw).c8
    have k20 := (bz.ext hSw).c4
    have k30 := (b7.ext hSw).c8
    go_simp
    try with_reducible rfl
  try simp only [Act.put]
  try simp only [List.setIfInBounds_toArray]
  try simp only [List.set_cons_succ]
  try simp only [List.set_cons_zero]
  refine Late.take (i := 14) (d := some 73) (v := ?v14_141) rfl rfl (by kernel_rfl) (by kernel_rfl) (by kernel_rfl) (by kernel_rfl) hQ (Or.inl ⟨by rfl, ?y14_141⟩) ?r14_141
  case y14_141 =>
    intro w' hSw
    have k00 := (bx.ext hSw).c8
    have k10 := (by_.ext hSw).c8
    have k20 := (bz.ext hSw).c4
    have k30 := (b7.ext hSw).c8
    go_simp
    try with_reducible rfl
  try simp only [Act.put]
  try simp only [List.setIfInBounds_toArray]
  try simp only [List.set_cons_succ]
  try simp only [List.set_cons_zero]
  refine Late.take (i := 15) (d := some 6) (v := ?v15_142) rfl rfl (by kernel_rfl) (by kernel_rfl) (by kernel_rfl) (by kernel_rfl) hQ (Or.inl ⟨by rfl, ?y15_142⟩) ?r15_142
  case y15_142 =>
    intro w' hSw
    have k00 := (bx.ext hSw).c8
    have k10 := (by_.ext hSw).c8
    have k20 := (bz.ext hSw).c4
    have k30 := (b7.ext hSw).c8
    go_simp
    try with_reducible rfl
  try simp only [Act.put]
  try simp only [List.setIfInBounds_toArray]
  try simp only [List.set_cons_succ]
  try simp only [List.set_cons_zero]
  refine Late.done0 (by kernel_rfl) (fun wz ez Ez => ?_)
  clear hAl hQ ES
  go_wp2_with fail
  go_ret
  exact ⟨rfl, extW.trans Ez⟩
set_option maxHeartbeats 16000000 in
set_option maxRecDepth 100000 in
theorem meet3_y_false_false {w : World} {sa1 ta1 sa2 ta2 : Bool} {Aa1 Ba1 Aa2 Ba2 : Option Addr} {na1 ca1 ma1 da1 na2 ca2 ma2 da2 : Nat} {xa1 ya1 xa2 ya2 : List Nat} {sb1 tb1 sb2 tb2 : Bool} {Ab1 Bb1 Ab2 Bb2 : Option Addr} {nb1 cb1 mb1 db1 nb2 cb2 mb2 db2 : Nat} {xb1 yb1 xb2 yb2 : List Nat} {s t : Bool} {A B : Option Addr} {n c m d : Nat} {xs ys : List Nat} {lo0 hi0 lo1 hi1 : Rat} (hA : Awake3) (hT : Tab w) (hr0 : RawV w Aa1 na1 ca1 xa1 Ba1 ma1 da1 ya1 Aa2 na2 ca2 xa2 Ba2 ma2 da2 ya2) (hr1 : RawV w Ab1 nb1 cb1 xb1 Bb1 mb1 db1 yb1 Ab2 nb2 cb2 xb2 Bb2 mb2 db2 yb2) (hr2 : RI w A n c xs) (hk2 : RI w B m d ys) (h0 : IV w lo0 hi0 10 sa1 Aa1 na1 ca1 ta1 Ba1 ma1 da1 sa2 Aa2 na2 ca2 ta2 Ba2 ma2 da2) (h1 : IV w lo1 hi1 10 sb1 Ab1 nb1 cb1 tb1 Bb1 mb1 db1 sb2 Ab2 nb2 cb2 tb2 Bb2 mb2 db2) {x : Rat} (hx : NR w x 10 s A n c t B m d) (hc : mxR lo0 lo1 ≤ mnR hi0 hi1) (hbA : inB lo0 hi0 x = false) (hbB : inB lo1 hi1 x = false) (hf0 : (fewV na1 ma1 na2 ma2 sa1 xa1 ta1 ya1 sa2 xa2 ta2 ya2 && (fewV nb1 mb1 nb2 mb2 sb1 xb1 tb1 yb1 sb2 xb2 tb2 yb2)) = true) (hf1 : (few10 n m s xs t ys) = true) :
    Calls Tryz.prog 9 #[.agg #[.bool sa1, .slice Aa1 na1 ca1, .bool ta1, .slice Ba1 ma1 da1, .bool sa2, .slice Aa2 na2 ca2, .bool ta2, .slice Ba2 ma2 da2], .agg #[.bool sb1, .slice Ab1 nb1 cb1, .bool tb1, .slice Bb1 mb1 db1, .bool sb2, .slice Ab2 nb2 cb2, .bool tb2, .slice Bb2 mb2 db2], .agg #[.bool s, .slice A n c, .bool t, .slice B m d]] w fun e w' => e = .returned (.bool true) ∧ Ext w w' := by
  have HF0 := Lib.hid hf0
  clear hf0
  have HF1 := Lib.hid hf1
  clear hf1
  have HC := Lib.hid hc
  have HA1 := Lib.hid hbA
  have HB1 := Lib.hid hbB
  clear hc hbA hbB
  have HA := Lib.hid hA
  clear hA
  go_enter Tryz.func9, Tryz.ntmps9
  go_upto_region 1 with (fail)
  obtain ⟨W0, hW, extW, bx, by_, bz, hzz⟩ := box3 w 28 28 26 #[.bool sa1, .slice Aa1 na1 ca1, .bool ta1, .slice Ba1 ma1 da1, .bool sa2, .slice Aa2 na2 ca2, .bool ta2, .slice Ba2 ma2 da2] #[.bool sb1, .slice Ab1 nb1 cb1, .bool tb1, .slice Bb1 mb1 db1, .bool sb2, .slice Ab2 nb2 cb2, .bool tb2, .slice Bb2 mb2 db2] #[.bool s, .slice A n c, .bool t, .slice B m d]
  rw [← hW]
  clear hW hzz
  go_wp2_with fail
  refine (HA.out _ (hT.ext extW)).mono ?_
  rintro e W ⟨rfl, hxt⟩
  replace bx := bx.ext hxt
  replace by_ := by_.ext hxt
  replace bz := bz.ext hxt
  replace extW := extW.trans hxt
  clear hxt
  have k0 := bx.cell 0 (.bool sa1) rfl
  have k1 := bx.cell 1 (.slice Aa1 na1 ca1) rfl
  have k2 := bx.cell 2 (.bool ta1) rfl
  have k3 := bx.cell 3 (.slice Ba1 ma1 da1) rfl
  have k4 := bx.cell 4 (.bool sa2) rfl
  have k5 := bx.cell 5 (.slice Aa2 na2 ca2) rfl
  have k6 := bx.cell 6 (.bool ta2) rfl
  have k7 := bx.cell 7 (.slice Ba2 ma2 da2) rfl
  have x0 := by_.cell 0 (.bool sb1) rfl
  have x1 := by_.cell 1 (.slice Ab1 nb1 cb1) rfl
  have x2 := by_.cell 2 (.bool tb1) rfl
  have x3 := by_.cell 3 (.slice Bb1 mb1 db1) rfl
  have x4 := by_.cell 4 (.bool sb2) rfl
  have x5 := by_.cell 5 (.slice Ab2 nb2 cb2) rfl
  have x6 := by_.cell 6 (.bool tb2) rfl
  have x7 := by_.cell 7 (.slice Bb2 mb2 db2) rfl
  have z0 := bz.cell 0 (.bool s) rfl
  have z1 := bz.cell 1 (.slice A n c) rfl
  have z2 := bz.cell 2 (.bool t) rfl
  have z3 := bz.cell 3 (.slice B m d) rfl
  have hnb := Box.new W 28 #[.bool sa1, .slice Aa1 na1 ca1, .bool ta1, .slice Ba1 ma1 da1, .bool sa2, .slice Aa2 na2 ca2, .bool ta2, .slice Ba2 ma2 da2, .bool sb1, .slice Ab1 nb1 cb1, .bool tb1, .slice Bb1 mb1 db1, .bool sb2, .slice Ab2 nb2 cb2, .bool tb2, .slice Bb2 mb2 db2]
  have e1 := (Ext.refl W).alloc (.cells #[.bool sa1, .slice Aa1 na1 ca1, .bool ta1, .slice Ba1 ma1 da1, .bool sa2, .slice Aa2 na2 ca2, .bool ta2, .slice Ba2 ma2 da2, .bool sb1, .slice Ab1 nb1 cb1, .bool tb1, .slice Bb1 mb1 db1, .bool sb2, .slice Ab2 nb2 cb2, .bool tb2, .slice Bb2 mb2 db2] 28)
  go_wp2_with fail
  refine (fewI2 hnb (hr0.ext (extW.trans e1)) (hr1.ext (extW.trans e1))).mono ?_
  rintro e W1 ⟨rfl, hxt⟩
  rw [HF0.out]
  have ES := e1.trans hxt
  clear hnb e1 hxt
  clear k0 k1 k2 k3 k4 k5 k6 k7 x0 x1 x2 x3 x4 x5 x6 x7 z0 z1 z2 z3
  replace bx := bx.ext ES
  replace by_ := by_.ext ES
  replace bz := bz.ext ES
  replace extW := extW.trans ES
  clear ES
  have k0 := bx.cell 0 (.bool sa1) rfl
  have k1 := bx.cell 1 (.slice Aa1 na1 ca1) rfl
  have k2 := bx.cell 2 (.bool ta1) rfl
  have k3 := bx.cell 3 (.slice Ba1 ma1 da1) rfl
  have k4 := bx.cell 4 (.bool sa2) rfl
  have k5 := bx.cell 5 (.slice Aa2 na2 ca2) rfl
  have k6 := bx.cell 6 (.bool ta2) rfl
  have k7 := bx.cell 7 (.slice Ba2 ma2 da2) rfl
  have x0 := by_.cell 0 (.bool sb1) rfl
  have x1 := by_.cell 1 (.slice Ab1 nb1 cb1) rfl
  have x2 := by_.cell 2 (.bool tb1) rfl
  have x3 := by_.cell 3 (.slice Bb1 mb1 db1) rfl
  have x4 := by_.cell 4 (.bool sb2) rfl
  have x5 := by_.cell 5 (.slice Ab2 nb2 cb2) rfl
  have x6 := by_.cell 6 (.bool tb2) rfl
  have x7 := by_.cell 7 (.slice Bb2 mb2 db2) rfl
  have z0 := bz.cell 0 (.bool s) rfl
  have z1 := bz.cell 1 (.slice A n c) rfl
  have z2 := bz.cell 2 (.bool t) rfl
  have z3 := bz.cell 3 (.slice B m d) rfl
  go_wp2_with fail
  refine (q_Few10 (hr2.ext extW) (hk2.ext extW)).mono ?_
  rintro e W2 ⟨rfl, ES⟩
  rw [HF1.out]
  clear k0 k1 k2 k3 k4 k5 k6 k7 x0 x1 x2 x3 x4 x5 x6 x7 z0 z1 z2 z3
  replace bx := bx.ext ES
  replace by_ := by_.ext ES
  replace bz := bz.ext ES
  replace extW := extW.trans ES
  clear ES
  have k0 := bx.cell 0 (.bool sa1) rfl
  have k1 := bx.cell 1 (.slice Aa1 na1 ca1) rfl
  have k2 := bx.cell 2 (.bool ta1) rfl
  have k3 := bx.cell 3 (.slice Ba1 ma1 da1) rfl
  have k4 := bx.cell 4 (.bool sa2) rfl
  have k5 := bx.cell 5 (.slice Aa2 na2 ca2) rfl
  have k6 := bx.cell 6 (.bool ta2) rfl
  have k7 := bx.cell 7 (.slice Ba2 ma2 da2) rfl
  have x0 := by_.cell 0 (.bool sb1) rfl
  have x1 := by_.cell 1 (.slice Ab1 nb1 cb1) rfl
  have x2 := by_.cell 2 (.bool tb1) rfl
  have x3 := by_.cell 3 (.slice Bb1 mb1 db1) rfl
  have x4 := by_.cell 4 (.bool sb2) rfl
  have x5 := by_.cell 5 (.slice Ab2 nb2 cb2) rfl
  have x6 := by_.cell 6 (.bool tb2) rfl
  have x7 := by_.cell 7 (.slice Bb2 mb2 db2) rfl
  go_wp2_with fail
  refine (p_MeetV (h0.ext extW) (h1.ext extW) (by omega)).mono ?_
  intro e Wa hmt
  obtain ⟨s1_, A1_, n1_, c1_, t1_, B1_, m1_, d1_, s1', A1', n1', c1', t1', B1', m1', d1', rfl, y1, hxt⟩ := hmt.yes HC.out
  clear hmt
  clear k0 x0 k1 x1 k2 x2 k3 x3 k4 x4 k5 x5 k6 x6 k7 x7
  replace bx := bx.ext hxt
  replace by_ := by_.ext hxt
  replace bz := bz.ext hxt
  replace extW := extW.trans hxt
  clear hxt
  go_upto_region 4 with (fail)
  refine at_world (fun V => Ext Wa V ∧ Box V Wa.heap.size 28 #[.bool s1_, .slice A1_ n1_ c1_, .bool t1_, .slice B1_ m1_ d1_, .bool s1', .slice A1' n1' c1', .bool t1', .slice B1' m1' d1'] ∧ IV V (mxR lo0 lo1) (mnR hi0 hi1) 10 s1_ A1_ n1_ c1_ t1_ B1_ m1_ d1_ s1' A1' n1' c1' t1' B1' m1' d1') ⟨(Ext.refl Wa).alloc _, Box.new Wa _ _, y1.ext ((Ext.refl Wa).alloc _)⟩ ?_
  generalize Wa.heap.size = g7
  clear y1
  rintro Wav ⟨EV, b7, y1⟩
  replace bx := bx.ext EV
  replace by_ := by_.ext EV
  replace bz := bz.ext EV
  replace extW := extW.trans EV
  clear EV
  have k0 := bx.cell 0 (.bool sa1) rfl
  have k1 := bx.cell 1 (.slice Aa1 na1 ca1) rfl
  have k2 := bx.cell 2 (.bool ta1) rfl
  have k3 := bx.cell 3 (.slice Ba1 ma1 da1) rfl
  have k4 := bx.cell 4 (.bool sa2) rfl
  have k5 := bx.cell 5 (.slice Aa2 na2 ca2) rfl
  have k6 := bx.cell 6 (.bool ta2) rfl
  have k7 := bx.cell 7 (.slice Ba2 ma2 da2) rfl
  have x0 := by_.cell 0 (.bool sb1) rfl
  have x1 := by_.cell 1 (.slice Ab1 nb1 cb1) rfl
  have x2 := by_.cell 2 (.bool tb1) rfl
  have x3 := by_.cell 3 (.slice Bb1 mb1 db1) rfl
  have x4 := by_.cell 4 (.bool sb2) rfl
  have x5 := by_.cell 5 (.slice Ab2 nb2 cb2) rfl
  have x6 := by_.cell 6 (.bool tb2) rfl
  have x7 := by_.cell 7 (.slice Bb2 mb2 db2) rfl
  go_wp2_with fail
  refine (q_MeetV (h0.ext extW) (h1.ext extW) (by omega)).mono ?_
  intro e Wb hmt
  obtain ⟨s2_, A2_, n2_, c2_, t2_, B2_, m2_, d2_, s2', A2', n2', c2', t2', B2', m2', d2', rfl, y2, hxt⟩ := hmt.yes HC.out
  clear hmt
  clear k0 x0 k1 x1 k2 x2 k3 x3 k4 x4 k5 x5 k6 x6 k7 x7
  replace bx := bx.ext hxt
  replace by_ := by_.ext hxt
  replace bz := bz.ext hxt
  replace b7 := b7.ext hxt
  replace y1 := y1.ext hxt
  replace extW := extW.trans hxt
  clear hxt
  go_upto_region 5 with (fail)
  refine at_world (fun V => Ext Wb V ∧ Box V Wb.heap.size 28 #[.bool s2_, .slice A2_ n2_ c2_, .bool t2_, .slice B2_ m2_ d2_, .bool s2', .slice A2' n2' c2', .bool t2', .slice B2' m2' d2'] ∧ IV V (mxR lo0 lo1) (mnR hi0 hi1) 10 s2_ A2_ n2_ c2_ t2_ B2_ m2_ d2_ s2' A2' n2' c2' t2' B2' m2' d2') ⟨(Ext.refl Wb).alloc _, Box.new Wb _ _, y2.ext ((Ext.refl Wb).alloc _)⟩ ?_
  generalize Wb.heap.size = g9
  clear y2
  rintro Wbv ⟨EV, b9, y2⟩
  replace bx := bx.ext EV
  replace by_ := by_.ext EV
  replace bz := bz.ext EV
  replace b7 := b7.ext EV
  replace y1 := y1.ext EV
  replace extW := extW.trans EV
  clear EV
  have k0 := b7.cell 0 (.bool s1_) rfl
  have k1 := b7.cell 1 (.slice A1_ n1_ c1_) rfl
  have k2 := b7.cell 2 (.bool t1_) rfl
  have k3 := b7.cell 3 (.slice B1_ m1_ d1_) rfl
  have k4 := b7.cell 4 (.bool s1') rfl
  have k5 := b7.cell 5 (.slice A1' n1' c1') rfl
  have k6 := b7.cell 6 (.bool t1') rfl
  have k7 := b7.cell 7 (.slice B1' m1' d1') rfl
  have x0 := b9.cell 0 (.bool s2_) rfl
  have x1 := b9.cell 1 (.slice A2_ n2_ c2_) rfl
  have x2 := b9.cell 2 (.bool t2_) rfl
  have x3 := b9.cell 3 (.slice B2_ m2_ d2_) rfl
  have x4 := b9.cell 4 (.bool s2') rfl
  have x5 := b9.cell 5 (.slice A2' n2' c2') rfl
  have x6 := b9.cell 6 (.bool t2') rfl
  have x7 := b9.cell 7 (.slice B2' m2' d2') rfl
  go_wp2_with fail
  refine (q_SameV y1 y2).mono ?_
  rintro e Wc ⟨rfl, hxt⟩
  clear k0 x0 k1 x1 k2 x2 k3 x3 k4 x4 k5 x5 k6 x6 k7 x7
  replace bx := bx.ext hxt
  replace by_ := by_.ext hxt
  replace bz := bz.ext hxt
  replace b7 := b7.ext hxt
  replace b9 := b9.ext hxt
  replace y1 := y1.ext hxt
  replace y2 := y2.ext hxt
  replace extW := extW.trans hxt
  clear hxt
  go_upto_region 7 with (fail)
  have ES0 := Ext.refl Wc
  refine wp_region_held_drew (S := Ext Wc) (by kernel_rfl) ES0.drew (fun ES => ?_)
  clear ES0
  refine Late.start0 (fun _ _ _ _ _ => ⟨fun h => h, fun h => h⟩) ES (fun hAl hQ => ?_)
  refine Late.take (i := 0) (d := some 59) (v := ?v0_143) rfl rfl (by kernel_rfl) (by kernel_rfl) (by kernel_rfl) (by kernel_rfl) hQ (Or.inl ⟨by rfl, ?y0_143⟩) ?r0_143
  case y0_143 =>
    intro w' hSw
    have k00 := (bx.ext hSw).c8
    have k10 := (by_.ext hSw).c8
    have k20 := (bz.ext hSw).c4
    have k30 := (b7.ext hSw).c8
    go_simp
    try with_reducible rfl
  try simp only [Act.put]
  try simp only [List.setIfInBounds_toArray]
  try simp only [List.set_cons_succ]
  try simp only [List.set_cons_zero]
  refine Late.take (i := 6) (d := some 65) (v := ?v6_144) rfl rfl (by kernel_rfl) (by kernel_rfl) (by kernel_rfl) (by kernel_rfl) hQ (Or.inl ⟨by rfl, ?y6_144⟩) ?r6_144
  case y6_144 =>
    intro w' hSw
    have k00 := (bx.ext hSw).c8
    have k10 := (by_.ext hSw).c8
    have k20 := (bz.ext hSw).c4
    have k30 := (b7.ext hSw).c8
    go_simp
    try with_reducible rfl
  try simp only [Act.put]
  try simp only [List.setIfInBounds_toArray]
  try simp only [List.set_cons_succ]
  try simp only [List.set_cons_zero]
  refine Late.take (i := 7) (d := some 66) (v := ?v7_145) rfl rfl (by kernel_rfl) (by kernel_rfl) (by kernel_rfl) (by kernel_rfl) hQ (Or.inl ⟨by rfl, ?y7_145⟩) ?r7_145
  case y7_145 =>
    intro w' hSw
    have k00 := (bx.ext hSw).c8
    have k10 := (by_.ext hSw).c8
    have k20 := (bz.ext hSw).c4
    have k30 := (b7.ext hSw).c8
    go_simp
    try with_reducible rfl
  try simp only [Act.put]
  try simp only [List.setIfInBounds_toArray]
  try simp only [List.set_cons_succ]
  try simp only [List.set_cons_zero]
  refine Late.take (i := 1) (d := some 60) (v := ?v1_146) rfl rfl (by kernel_rfl) (by kernel_rfl) (by kernel_rfl) (by kernel_rfl) hQ (Or.inl ⟨by rfl, ?y1_146⟩) ?r1_146
  case y1_146 =>
    intro w' hSw
    have k00 := (bx.ext hSw).c8
    have k10 := (by_.ext hSw).c8
    have k20 := (bz.ext hSw).c4
    have k30 := (b7.ext hSw).c8
    go_simp
    try with_reducible rfl
  try simp only [Act.put]
  try simp only [List.setIfInBounds_toArray]
  try simp only [List.set_cons_succ]
  try simp only [List.set_cons_zero]
  refine Late.take (i := 2) (d := some 61) (v := ?v2_147) rfl rfl (by kernel_rfl) (by kernel_rfl) (by kernel_rfl) (by kernel_rfl) hQ (Or.inl ⟨by rfl, ?y2_147⟩) ?r2_147
  case y2_147 =>
    intro w' hSw
    have k00 := (bx.ext hSw).c8
    have k10 := (by_.ext hSw).c8
    have k20 := (bz.ext hSw).c4
    have k30 := (b7.ext hSw).c8
    go_simp
    try with_reducible rfl
  try simp only [Act.put]
  try simp only [List.setIfInBounds_toArray]
  try simp only [List.set_cons_succ]
  try simp only [List.set_cons_zero]
  refine Late.take (i := 3) (d := some 62) (v := ?v3_148) rfl rfl (by kernel_rfl) (by kernel_rfl) (by kernel_rfl) (by kernel_rfl) hQ (Or.inl ⟨by rfl, ?y3_148⟩) ?r3_148
  case y3_148 =>
    intro w' hSw
    have k00 := (bx.ext hSw).c8
    have k10 := (by_.ext hSw).c8
    have k20 := (bz.ext hSw).c4
    have k30 := (b7.ext hSw).c8
    go_simp
    try with_reducible rfl
  try simp only [Act.put]
  try simp only [List.setIfInBounds_toArray]
  try simp only [List.set_cons_succ]
  try simp only [List.set_cons_zero]
  refine Late.call (i := 4) rfl (by kernel_rfl) hAl (by kernel_rfl) (by kernel_rfl) (by kernel_rfl) hQ (fun w4 e4 E4 K hK => ?_)
  go_simp
  (go_at_call 38; refine (p_Contains (y1.ext E4) (hx.ext (extW.trans E4)) (by omega) (by omega)).mono ?_; rintro e wk4 ⟨rfl, hx4⟩; rw [inB_meet, HA1.out, HB1.out])
  refine hK.out _ _ hx4 ?_
  clear hK K
  try simp only [Act.put]
  try simp only [List.setIfInBounds_toArray]
  try simp only [List.set_cons_succ]
  try simp only [List.set_cons_zero]
  refine Late.take (i := 5) (d := some 64) (v := ?v5_149) rfl rfl (by kernel_rfl) (by kernel_rfl) (by kernel_rfl) (by kernel_rfl) hQ (Or.inl ⟨by rfl, ?y5_149⟩) ?r5_149
  case y5_149 =>
    intro w' hSw
    have k00 := (bx.ext hSw).c8
    have k10 := (by_.ext hSw).c8
    have k20 := (bz.ext hSw).c4
    have k30 := (b7.ext hSw).c8
    go_simp
    try with_reducible rfl
  try simp only [Act.put]
  try simp only [List.setIfInBounds_toArray]
  try simp only [List.set_cons_succ]
  try simp only [List.set_cons_zero]
  refine Late.call (i := 8) rfl (by kernel_rfl) hAl (by kernel_rfl) (by kernel_rfl) (by kernel_rfl) hQ (fun w8 e8 E8 K hK => ?_)
  go_simp
  (go_at_call 38; refine (p_Contains (h0.ext (extW.trans E8)) (hx.ext (extW.trans E8)) (by omega) (by omega)).mono ?_; rintro e wk8 ⟨rfl, hx8⟩; rw [HA1.out])
  refine hK.out _ _ hx8 ?_
  clear hK K
  try simp only [Act.put]
  try simp only [List.setIfInBounds_toArray]
  try simp only [List.set_cons_succ]
  try simp only [List.set_cons_zero]
  refine Late.take (i := 9) (d := some 68) (v := ?v9_150) rfl rfl (by kernel_rfl) (by kernel_rfl) (by kernel_rfl) (by kernel_rfl) hQ (Or.inl ⟨by rfl, ?y9_150⟩) ?r9_150
  case y9_150 =>
    intro w' hSw
    have k00 := (bx.ext hSw).c8
    have k10 := (by_.ext hSw).c8
    have k20 := (bz.ext hSw).c4
    have k30 := (b7.ext hSw).c8
    go_simp
    try with_reducible rfl
  try simp only [Act.put]
  try simp only [List.setIfInBounds_toArray]
  try simp only [List.set_cons_succ]
  try simp only [List.set_cons_zero]
  refine Late.take (i := 10) (d := some 69) (v := undef) rfl rfl (by kernel_rfl) (by kernel_rfl) (by kernel_rfl) (by kernel_rfl) hQ (Or.inr ⟨by kernel_rfl, rfl⟩) ?_
  try simp only [Act.put]
  try simp only [List.setIfInBounds_toArray]
  try simp only [List.set_cons_succ]
  try simp only [List.set_cons_zero]
  refine Late.take (i := 11) (d := some 70) (v := undef) rfl rfl (by kernel_rfl) (by kernel_rfl) (by kernel_rfl) (by kernel_rfl) hQ (Or.inr ⟨by kernel_rfl, rfl⟩) ?_
  try simp only [Act.put]
  try simp only [List.setIfInBounds_toArray]
  try simp only [List.set_cons_succ]
  try simp only [List.set_cons_zero]
  refine Late.take (i := 12) (d := some 71) (v := undef) rfl rfl (by kernel_rfl) (by kernel_rfl) (by kernel_rfl) (by kernel_rfl) hQ (Or.inr ⟨by kernel_rfl, rfl⟩) ?_
  try simp only [Act.put]
  try simp only [List.setIfInBounds_toArray]
  try simp only [List.set_cons_succ]
  try simp only [List.set_cons_zero]
  refine Late.take (i := 13) (d := some 72) (v := ?v13_151) rfl rfl (by kernel_rfl) (by kernel_rfl) (by kernel_rfl) (by kernel_rfl) hQ (Or.inl ⟨by rfl, ?y13_151⟩) ?r13_151
  case y13_151 =>
    intro w' hSw
    have k00 := (bx.ext hSw).c8
    have k10 := (by_.ext hSw).c8
    have k20 := (bz.ext hSw).c4
    have k30 := (b7.ext hSw).c8
    go_simp
    try with_reducible rfl
  try simp only [Act.put]
  try simp only [List.setIfInBounds_toArray]
  try simp only [List.set_cons_succ]
  try simp only [List.set_cons_zero]
  refine Late.take (i := 14) (d := some 73) (v := ?v14_152) rfl rfl (by kernel_rfl) (by kernel_rfl) (by kernel_rfl) (by kernel_rfl) hQ (Or.inl ⟨by rfl, ?y14_152⟩) ?r14_152
  case y14_152 =>
    intro w' hSw
    have k00 := (bx.ext hSw).c8
    have k10 := (by_.ext hSw).c8
    have k20 := (bz.ext hSw).c4
    have k30 := (b7.ext hSw).c8
    go_simp
    try with_reducible rfl
  try simp only [Act.put]
  try simp only [List.setIfInBounds_toArray]
  try simp only [List.set_cons_succ]
  try simp only [List.set_cons_zero]
  refine Late.take (i := 15) (d := some 6) (v := ?v15_153) rfl rfl (by kernel_rfl) (by kernel_rfl) (by kernel_rfl) (by kernel_rfl) hQ (Or.inl ⟨by rfl, ?y15_153⟩) ?r15_153
  case y15_153 =>
    intro w' hSw
    have k00 := (bx.ext hSw).c8
    have k10 := (by_.ext hSw).c8
    have k20 := (bz.ext hSw).c4
    have k30 := (b7.ext hSw).c8
    go_simp
    try with_reducible rfl
  try simp only [Act.put]
  try simp only [List.setIfInBounds_toArray]
  try simp only [List.set_cons_succ]
  try simp only [List.set_cons_zero]
  refine Late.done0 (by kernel_rfl) (fun wz ez Ez => ?_)
  clear hAl hQ ES
  go_wp2_with fail
  go_ret
  exact ⟨rfl, extW.trans Ez⟩
set_option maxHeartbeats 16000000 in
set_option maxRecDepth 100000 in
theorem meet3_n_true_false {w : World} {sa1 ta1 sa2 ta2 : Bool} {Aa1 Ba1 Aa2 Ba2 : Option Addr} {na1 ca1 ma1 da1 na2 ca2 ma2 da2 : Nat} {xa1 ya1 xa2 ya2 : List Nat} {sb1 tb1 sb2 tb2 : Bool} {Ab1 Bb1 Ab2 Bb2 : Option Addr} {nb1 cb1 mb1 db1 nb2 cb2 mb2 db2 : Nat} {xb1 yb1 xb2 yb2 : List Nat} {s t : Bool} {A B : Option Addr} {n c m d : Nat} {xs ys : List Nat} {lo0 hi0 lo1 hi1 : Rat} (hA : Awake3) (hT : Tab w) (hr0 : RawV w Aa1 na1 ca1 xa1 Ba1 ma1 da1 ya1 Aa2 na2 ca2 xa2 Ba2 ma2 da2 ya2) (hr1 : RawV w Ab1 nb1 cb1 xb1 Bb1 mb1 db1 yb1 Ab2 nb2 cb2 xb2 Bb2 mb2 db2 yb2) (hr2 : RI w A n c xs) (hk2 : RI w B m d ys) (h0 : IV w lo0 hi0 10 sa1 Aa1 na1 ca1 ta1 Ba1 ma1 da1 sa2 Aa2 na2 ca2 ta2 Ba2 ma2 da2) (h1 : IV w lo1 hi1 10 sb1 Ab1 nb1 cb1 tb1 Bb1 mb1 db1 sb2 Ab2 nb2 cb2 tb2 Bb2 mb2 db2) {x : Rat} (hx : NR w x 10 s A n c t B m d) (hc : ¬ mxR lo0 lo1 ≤ mnR hi0 hi1) (hbA : inB lo0 hi0 x = true) (hbB : inB lo1 hi1 x = false) (hf0 : (fewV na1 ma1 na2 ma2 sa1 xa1 ta1 ya1 sa2 xa2 ta2 ya2 && (fewV nb1 mb1 nb2 mb2 sb1 xb1 tb1 yb1 sb2 xb2 tb2 yb2)) = true) (hf1 : (few10 n m s xs t ys) = true) :
    Calls Tryz.prog 9 #[.agg #[.bool sa1, .slice Aa1 na1 ca1, .bool ta1, .slice Ba1 ma1 da1, .bool sa2, .slice Aa2 na2 ca2, .bool ta2, .slice Ba2 ma2 da2], .agg #[.bool sb1, .slice Ab1 nb1 cb1, .bool tb1, .slice Bb1 mb1 db1, .bool sb2, .slice Ab2 nb2 cb2, .bool tb2, .slice Bb2 mb2 db2], .agg #[.bool s, .slice A n c, .bool t, .slice B m d]] w fun e w' => e = .returned (.bool true) ∧ Ext w w' := by
  have HF0 := Lib.hid hf0
  clear hf0
  have HF1 := Lib.hid hf1
  clear hf1
  have HC := Lib.hid hc
  have HA1 := Lib.hid hbA
  have HB1 := Lib.hid hbB
  clear hc hbA hbB
  have HA := Lib.hid hA
  clear hA
  go_enter Tryz.func9, Tryz.ntmps9
  go_upto_region 1 with (fail)
  obtain ⟨W0, hW, extW, bx, by_, bz, hzz⟩ := box3 w 28 28 26 #[.bool sa1, .slice Aa1 na1 ca1, .bool ta1, .slice Ba1 ma1 da1, .bool sa2, .slice Aa2 na2 ca2, .bool ta2, .slice Ba2 ma2 da2] #[.bool sb1, .slice Ab1 nb1 cb1, .bool tb1, .slice Bb1 mb1 db1, .bool sb2, .slice Ab2 nb2 cb2, .bool tb2, .slice Bb2 mb2 db2] #[.bool s, .slice A n c, .bool t, .slice B m d]
  rw [← hW]
  clear hW hzz
  go_wp2_with fail
  refine (HA.out _ (hT.ext extW)).mono ?_
  rintro e W ⟨rfl, hxt⟩
  replace bx := bx.ext hxt
  replace by_ := by_.ext hxt
  replace bz := bz.ext hxt
  replace extW := extW.trans hxt
  clear hxt
  have k0 := bx.cell 0 (.bool sa1) rfl
  have k1 := bx.cell 1 (.slice Aa1 na1 ca1) rfl
  have k2 := bx.cell 2 (.bool ta1) rfl
  have k3 := bx.cell 3 (.slice Ba1 ma1 da1) rfl
  have k4 := bx.cell 4 (.bool sa2) rfl
  have k5 := bx.cell 5 (.slice Aa2 na2 ca2) rfl
  have k6 := bx.cell 6 (.bool ta2) rfl
  have k7 := bx.cell 7 (.slice Ba2 ma2 da2) rfl
  have x0 := by_.cell 0 (.bool sb1) rfl
  have x1 := by_.cell 1 (.slice Ab1 nb1 cb1) rfl
  have x2 := by_.cell 2 (.bool tb1) rfl
  have x3 := by_.cell 3 (.slice Bb1 mb1 db1) rfl
  have x4 := by_.cell 4 (.bool sb2) rfl
  have x5 := by_.cell 5 (.slice Ab2 nb2 cb2) rfl
  have x6 := by_.cell 6 (.bool tb2) rfl
  have x7 := by_.cell 7 (.slice Bb2 mb2 db2) rfl
  have z0 := bz.cell 0 (.bool s) rfl
  have z1 := bz.cell 1 (.slice A n c) rfl
  have z2 := bz.cell 2 (.bool t) rfl
  have z3 := bz.cell 3 (.slice B m d) rfl
  have hnb := Box.new W 28 #[.bool sa1, .slice Aa1 na1 ca1, .bool ta1, .slice Ba1 ma1 da1, .bool sa2, .slice Aa2 na2 ca2, .bool ta2, .slice Ba2 ma2 da2, .bool sb1, .slice Ab1 nb1 cb1, .bool tb1, .slice Bb1 mb1 db1, .bool sb2, .slice Ab2 nb2 cb2, .bool tb2, .slice Bb2 mb2 db2]
  have e1 := (Ext.refl W).alloc (.cells #[.bool sa1, .slice Aa1 na1 ca1, .bool ta1, .slice Ba1 ma1 da1, .bool sa2, .slice Aa2 na2 ca2, .bool ta2, .slice Ba2 ma2 da2, .bool sb1, .slice Ab1 nb1 cb1, .bool tb1, .slice Bb1 mb1 db1, .bool sb2, .slice Ab2 nb2 cb2, .bool tb2, .slice Bb2 mb2 db2] 28)
  go_wp2_with fail
  refine (fewI2 hnb (hr0.ext (extW.trans e1)) (hr1.ext (extW.trans e1))).mono ?_
  rintro e W1 ⟨rfl, hxt⟩
  rw [HF0.out]
  have ES := e1.trans hxt
  clear hnb e1 hxt
  clear k0 k1 k2 k3 k4 k5 k6 k7 x0 x1 x2 x3 x4 x5 x6 x7 z0 z1 z2 z3
  replace bx := bx.ext ES
  replace by_ := by_.ext ES
  replace bz := bz.ext ES
  replace extW := extW.trans ES
  clear ES
  have k0 := bx.cell 0 (.bool sa1) rfl
  have k1 := bx.cell 1 (.slice Aa1 na1 ca1) rfl
  have k2 := bx.cell 2 (.bool ta1) rfl
  have k3 := bx.cell 3 (.slice Ba1 ma1 da1) rfl
  have k4 := bx.cell 4 (.bool sa2) rfl
  have k5 := bx.cell 5 (.slice Aa2 na2 ca2) rfl
  have k6 := bx.cell 6 (.bool ta2) rfl
  have k7 := bx.cell 7 (.slice Ba2 ma2 da2) rfl
  have x0 := by_.cell 0 (.bool sb1) rfl
  have x1 := by_.cell 1 (.slice Ab1 nb1 cb1) rfl
  have x2 := by_.cell 2 (.bool tb1) rfl
  have x3 := by_.cell 3 (.slice Bb1 mb1 db1) rfl
  have x4 := by_.cell 4 (.bool sb2) rfl
  have x5 := by_.cell 5 (.slice Ab2 nb2 cb2) rfl
  have x6 := by_.cell 6 (.bool tb2) rfl
  have x7 := by_.cell 7 (.slice Bb2 mb2 db2) rfl
  have z0 := bz.cell 0 (.bool s) rfl
  have z1 := bz.cell 1 (.slice A n c) rfl
  have z2 := bz.cell 2 (.bool t) rfl
  have z3 := bz.cell 3 (.slice B m d) rfl
  go_wp2_with fail
  refine (q_Few10 (hr2.ext extW) (hk2.ext extW)).mono ?_
  rintro e W2 ⟨rfl, ES⟩
  rw [HF1.out]
  clear k0 k1 k2 k3 k4 k5 k6 k7 x0 x1 x2 x3 x4 x5 x6 x7 z0 z1 z2 z3
  replace bx := bx.ext ES
  replace by_ := by_.ext ES
  replace bz := bz.ext ES
  replace extW := extW.trans ES
  clear ES
  have k0 := bx.cell 0 (.bool sa1) rfl
  have k1 := bx.cell 1 (.slice Aa1 na1 ca1) rfl
  have k2 := bx.cell 2 (.bool ta1) rfl
  have k3 := bx.cell 3 (.slice Ba1 ma1 da1) rfl
  have k4 := bx.cell 4 (.bool sa2) rfl
  have k5 := bx.cell 5 (.slice Aa2 na2 ca2) rfl
  have k6 := bx.cell 6 (.bool ta2) rfl
  have k7 := bx.cell 7 (.slice Ba2 ma2 da2) rfl
  have x0 := by_.cell 0 (.bool sb1) rfl
  have x1 := by_.cell 1 (.slice Ab1 nb1 cb1) rfl
  have x2 := by_.cell 2 (.bool tb1) rfl
  have x3 := by_.cell 3 (.slice Bb1 mb1 db1) rfl
  have x4 := by_.cell 4 (.bool sb2) rfl
  have x5 := by_.cell 5 (.slice Ab2 nb2 cb2) rfl
  have x6 := by_.cell 6 (.bool tb2) rfl
  have x7 := by_.cell 7 (.slice Bb2 mb2 db2) rfl
  go_wp2_with fail
  refine (p_MeetV (h0.ext extW) (h1.ext extW) (by omega)).mono ?_
  intro e Wa hmt
  obtain ⟨rfl, hxt⟩ := hmt.no HC.out
  clear hmt
  clear k0 x0 k1 x1 k2 x2 k3 x3 k4 x4 k5 x5 k6 x6 k7 x7
  replace bx := bx.ext hxt
  replace by_ := by_.ext hxt
  replace bz := bz.ext hxt
  replace extW := extW.trans hxt
  clear hxt
  go_upto_region 4 with (fail)
  refine at_world (fun V => Ext Wa V ∧ Box V Wa.heap.size 28 #[.bool false, .slice none 0 0, .bool false, .slice none 0 0, .bool false, .slice none 0 0, .bool false, .slice none 0 0]) ⟨(Ext.refl Wa).alloc _, Box.new Wa _ _⟩ ?_
  generalize Wa.heap.size = g7
  rintro Wav ⟨EV, b7⟩
  replace bx := bx.ext EV
  replace by_ := by_.ext EV
  replace bz := bz.ext EV
  replace extW := extW.trans EV
  clear EV
  have k0 := bx.cell 0 (.bool sa1) rfl
  have k1 := bx.cell 1 (.slice Aa1 na1 ca1) rfl
  have k2 := bx.cell 2 (.bool ta1) rfl
  have k3 := bx.cell 3 (.slice Ba1 ma1 da1) rfl
  have k4 := bx.cell 4 (.bool sa2) rfl
  have k5 := bx.cell 5 (.slice Aa2 na2 ca2) rfl
  have k6 := bx.cell 6 (.bool ta2) rfl
  have k7 := bx.cell 7 (.slice Ba2 ma2 da2) rfl
  have x0 := by_.cell 0 (.bool sb1) rfl
  have x1 := by_.cell 1 (.slice Ab1 nb1 cb1) rfl
  have x2 := by_.cell 2 (.bool tb1) rfl
  have x3 := by_.cell 3 (.slice Bb1 mb1 db1) rfl
  have x4 := by_.cell 4 (.bool sb2) rfl
  have x5 := by_.cell 5 (.slice Ab2 nb2 cb2) rfl
  have x6 := by_.cell 6 (.bool tb2) rfl
  have x7 := by_.cell 7 (.slice Bb2 mb2 db2) rfl
  go_wp2_with fail
  refine (q_MeetV (h0.ext extW) (h1.ext extW) (by omega)).mono ?_
  intro e Wb hmt
  obtain ⟨rfl, hxt⟩ := hmt.no HC.out
  clear hmt
  clear k0 x0 k1 x1 k2 x2 k3 x3 k4 x4 k5 x5 k6 x6 k7 x7
  replace bx := bx.ext hxt
  replace by_ := by_.ext hxt
  replace bz := bz.ext hxt
  replace b7 := b7.ext hxt
  replace extW := extW.trans hxt
  clear hxt
  go_upto_region 5 with (fail)
  refine at_world (fun V => Ext Wb V ∧ Box V Wb.heap.size 28 #[.bool false, .slice none 0 0, .bool false, .slice none 0 0, .bool false, .slice none 0 0, .bool false, .slice none 0 0]) ⟨(Ext.refl Wb).alloc _, Box.new Wb _ _⟩ ?_
  generalize Wb.heap.size = g9
  rintro Wbv ⟨EV, b9⟩
  replace bx := bx.ext EV
  replace by_ := by_.ext EV
  replace bz := bz.ext EV
  replace b7 := b7.ext EV
  replace extW := extW.trans EV
  clear EV
  have k0 := b7.cell 0 (.bool false) rfl
  have k1 := b7.cell 1 (.slice none 0 0) rfl
  have k2 := b7.cell 2 (.bool false) rfl
  have k3 := b7.cell 3 (.slice none 0 0) rfl
  have k4 := b7.cell 4 (.bool false) rfl
  have k5 := b7.cell 5 (.slice none 0 0) rfl
  have k6 := b7.cell 6 (.bool false) rfl
  have k7 := b7.cell 7 (.slice none 0 0) rfl
  go_wp2_with fail
  refine (q_ZeroV).mono ?_
  rintro e Wc ⟨rfl, hxt⟩
  clear k0 k1 k2 k3 k4 k5 k6 k7
  replace bx := bx.ext hxt
  replace by_ := by_.ext hxt
  replace bz := bz.ext hxt
  replace b7 := b7.ext hxt
  replace b9 := b9.ext hxt
  replace extW := extW.trans hxt
  clear hxt
  go_upto_region 7 with (fail)
  have ES0 := Ext.refl Wc
  refine wp_region_held_drew (S := Ext Wc) (by kernel_rfl) ES0.drew (fun ES => ?_)
  clear ES0
  refine Late.start0 (fun _ _ _ _ _ => ⟨fun h => h, fun h => h⟩) ES (fun hAl hQ => ?_)
  refine Late.take (i := 0) (d := some 59) (v := ?v0_154) rfl rfl (by kernel_rfl) (by kernel_rfl) (by kernel_rfl) (by kernel_rfl) hQ (Or.inl ⟨by rfl, ?y0_154⟩) ?r0_154
  case y0_154 =>
    intro w' hSw
    have k00 := (bx.ext hSw).c8
    have k10 := (by_.ext hSw).c8
    have k20 := (bz.ext hSw).c4
    have k30 := (b7.ext hSw).c8
    go_simp
    try with_reducible rfl
  try simp only [Act.put]
  try simp only [List.setIfInBounds_toArray]
  try simp only [List.set_cons_succ]
  try simp only [List.set_cons_zero]
  refine Late.take (i := 6) (d := some 65) (v := ?v6_155) rfl rfl (by kernel_rfl) (by kernel_rfl) (by kernel_rfl) (by kernel_rfl) hQ (Or.inl ⟨by rfl, ?y6_155⟩) ?r6_155
  case y6_155 =>
    intro w' hSw
    have k00 := (bx.ext hSw).c8
    have k10 := (by_.ext hSw).c8
    have k20 := (bz.ext hSw).c4
    have k30 := (b7.ext hSw).c8
    go_simp
    try with_reducible rfl
  try simp only [Act.put]
  try simp only [List.setIfInBounds_toArray]
  try simp only [List.set_cons_succ]
  try simp only [List.set_cons_zero]
  refine Late.take (i := 7) (d := some 66) (v := ?v7_156) rfl rfl (by kernel_rfl) (by kernel_rfl) (by kernel_rfl) (by kernel_rfl) hQ (Or.inl ⟨by rfl, ?y7_156⟩) ?r7_156
  case y7_156 =>
    intro w' hSw
    have k00 := (bx.ext hSw).c8
    have k10 := (by_.ext hSw).c8
    have k20 := (bz.ext hSw).c4
    have k30 := (b7.ext hSw).c8
    go_simp
    try with_reducible rfl
  try simp only [Act.put]
  try simp only [List.setIfInBounds_toArray]
  try simp only [List.set_cons_succ]
  try simp only [List.set_cons_zero]
  refine Late.take (i := 1) (d := some 60) (v := ?v1_157) rfl rfl (by kernel_rfl) (by kernel_rfl) (by kernel_rfl) (by kernel_rfl) hQ (Or.inl ⟨by rfl, ?y1_157⟩) ?r1_157
  case y1_157 =>
    intro w' hSw
    have k00 := (bx.ext hSw).c8
    have k10 := (by_.ext hSw).c8
    have k20 := (bz.ext hSw).c4
    have k30 := (b7.ext hSw).c8
    go_simp
    try with_reducible rfl
  try simp only [Act.put]
  try simp only [List.setIfInBounds_toArray]
  try simp only [List.set_cons_succ]
  try simp only [List.set_cons_zero]
  refine Late.take (i := 2) (d := some 61) (v := undef) rfl rfl (by kernel_rfl) (by kernel_rfl) (by kernel_rfl) (by kernel_rfl) hQ (Or.inr ⟨by kernel_rfl, rfl⟩) ?_
  try simp only [Act.put]
  try simp only [List.setIfInBounds_toArray]
  try simp only [List.set_cons_succ]
  try simp only [List.set_cons_zero]
  refine Late.take (i := 3) (d := some 62) (v := undef) rfl rfl (by kernel_rfl) (by kernel_rfl) (by kernel_rfl) (by kernel_rfl) hQ (Or.inr ⟨by kernel_rfl, rfl⟩) ?_
  try simp only [Act.put]
  try simp only [List.setIfInBounds_toArray]
  try simp only [List.set_cons_succ]
  try simp only [List.set_cons_zero]
  refine Late.take (i := 4) (d := some 63) (v := undef) rfl rfl (by kernel_rfl) (by kernel_rfl) (by kernel_rfl) (by kernel_rfl) hQ (Or.inr ⟨by kernel_rfl, rfl⟩) ?_
  try simp only [Act.put]
  try simp only [List.setIfInBounds_toArray]
  try simp only [List.set_cons_succ]
  try simp only [List.set_cons_zero]
  refine Late.take (i := 5) (d := some 64) (v := ?v5_158) rfl rfl (by kernel_rfl) (by kernel_rfl) (by kernel_rfl) (by kernel_rfl) hQ (Or.inl ⟨by rfl, ?y5_158⟩) ?r5_158
  case y5_158 =>
    intro w' hSw
    have k00 := (bx.ext hSw).c8
    have k10 := (by_.ext hSw).c8
    have k20 := (bz.ext hSw).c4
    have k30 := (b7.ext hSw).c8
    go_simp
    try with_reducible rfl
  try simp only [Act.put]
  try simp only [List.setIfInBounds_toArray]
  try simp only [List.set_cons_succ]
  try simp only [List.set_cons_zero]
  refine Late.call (i := 8) rfl (by kernel_rfl) hAl (by kernel_rfl) (by kernel_rfl) (by kernel_rfl) hQ (fun w8 e8 E8 K hK => ?_)
  go_simp
  (go_at_call 38; refine (p_Contains (h0.ext (extW.trans E8)) (hx.ext (extW.trans E8)) (by omega) (by omega)).mono ?_; rintro e wk8 ⟨rfl, hx8⟩; rw [HA1.out])
  refine hK.out _ _ hx8 ?_
  clear hK K
  try simp only [Act.put]
  try simp only [List.setIfInBounds_toArray]
  try simp only [List.set_cons_succ]
  try simp only [List.set_cons_zero]
  refine Late.take (i := 9) (d := some 68) (v := ?v9_159) rfl rfl (by kernel_rfl) (by kernel_rfl) (by kernel_rfl) (by kernel_rfl) hQ (Or.inl ⟨by rfl, ?y9_159⟩) ?r9_159
  case y9_159 =>
    intro w' hSw
    have k00 := (bx.ext hSw).c8
    have k10 := (by_.ext hSw).c8
    have k20 := (bz.ext hSw).c4
    have k30 := (b7.ext hSw).c8
    go_simp
    try with_reducible rfl
  try simp only [Act.put]
  try simp only [List.setIfInBounds_toArray]
  try simp only [List.set_cons_succ]
  try simp only [List.set_cons_zero]
  refine Late.take (i := 10) (d := some 69) (v := ?v10_160) rfl rfl (by kernel_rfl) (by kernel_rfl) (by kernel_rfl) (by kernel_rfl) hQ (Or.inl ⟨by rfl, ?y10_160⟩) ?r10_160
  case y10_160 =>
    intro w' hSw
    have k00 := (bx.ext hSw).c8
    have k10 := (by_.ext hSw).c8
    have k20 := (bz.ext hSw).c4
    have k30 := (b7.ext hSw).c8
    go_simp
    try with_reducible rfl
  try simp only [Act.put]
  try simp only [List.setIfInBounds_toArray]
  try simp only [List.set_cons_succ]
  try simp only [List.set_cons_zero]
  refine Late.take (i := 11) (d := some 70) (v := ?v11_161) rfl rfl (by kernel_rfl) (by kernel_rfl) (by kernel_rfl) (by kernel_rfl) hQ (Or.inl ⟨by rfl, ?y11_161⟩) ?r11_161
  case y11_161 =>
    intro w' hSw
    have k00 := (bx.ext hSw).c8
    have k10 := (by_.ext hSw).c8
    have k20 := (bz.ext hSw).c4
    have k30 := (b7.ext hSw).c8
    go_simp
    try with_reducible rfl
  try simp only [Act.put]
  try simp only [List.setIfInBounds_toArray]
  try simp only [List.set_cons_succ]
  try simp only [List.set_cons_zero]
  refine Late.call (i := 12) rfl (by kernel_rfl) hAl (by kernel_rfl) (by kernel_rfl) (by kernel_rfl) hQ (fun w12 e12 E12 K hK => ?_)
  go_simp
  (go_at_call 38; refine (p_Contains (h1.ext (extW.trans E12)) (hx.ext (extW.trans E12)) (by omega) (by omega)).mono ?_; rintro e wk12 ⟨rfl, hx12⟩; rw [HB1.out])
  refine hK.out _ _ hx12 ?_
  clear hK K
  try simp only [Act.put]
  try simp only [List.setIfInBounds_toArray]
  try simp only [List.set_cons_succ]
  try simp only [List.set_cons_zero]
  refine Late.take (i := 13) (d := some 72) (v := ?v13_162) rfl rfl (by kernel_rfl) (by kernel_rfl) (by kernel_rfl) (by kernel_rfl) hQ (Or.inl ⟨by rfl, ?y13_162⟩) ?r13_162
  case y13_162 =>
    intro w' hSw
    have k00 := (bx.ext hSw).c8
    have k10 := (by_.ext hSw).c8
    have k20 := (bz.ext hSw).c4
    have k30 := (b7.ext hSw).c8
    go_simp
    try with_reducible rfl
  try simp only [Act.put]
  try simp only [List.setIfInBounds_toArray]
  try simp only [List.set_cons_succ]
  try simp only [List.set_cons_zero]
  refine Late.take (i := 14) (d := some 73) (v := ?v14_163) rfl rfl (by kernel_rfl) (by kernel_rfl) (by kernel_rfl) (by kernel_rfl) hQ (Or.inl ⟨by rfl, ?y14_163⟩) ?r14_163
  case y14_163 =>
    intro w' hSw
    have k00 := (bx.ext hSw).c8
    have k10 := (by_.ext hSw).c8
    have k20 := (bz.ext hSw).c4
    have k30 := (b7.ext hSw).c8
    go_simp
    try with_reducible rfl
  try simp only [Act.put]
  try simp only [List.setIfInBounds_toArray]
  try simp only [List.set_cons_succ]
  try simp only [List.set_cons_zero]
  refine Late.take (i := 15) (d := some 6) (v := ?v15_164) rfl rfl (by kernel_rfl) (by kernel_rfl) (by kernel_rfl) (by kernel_rfl) hQ (Or.inl ⟨by rfl, ?y15_164⟩) ?r15_164
  case y15_164 =>
    intro w' hSw
    have k00 := (bx.ext hSw).c8
    have k10 := (by_.ext hSw).c8
    have k20 := (bz.ext hSw).c4
    have k30 := (b7.ext hSw).c8
    go_simp
    try with_reducible rfl
  try simp only [Act.put]
  try simp only [List.setIfInBounds_toArray]
  try simp only [List.set_cons_succ]
  try simp only [List.set_cons_zero]
  refine Late.done0 (by kernel_rfl) (fun wz ez Ez => ?_)
  clear hAl hQ ES
  go_wp2_with fail
  go_ret
  exact ⟨rfl, extW.trans Ez⟩
set_option maxHeartbeats 16000000 in
set_option maxRecDepth 100000 in
theorem meet3_n_false_true {w : World} {sa1 ta1 sa2 ta2 : Bool} {Aa1 Ba1 Aa2 Ba2 : Option Addr} {na1 ca1 ma1 da1 na2 ca2 ma2 da2 : Nat} {xa1 ya1 xa2 ya2 : List Nat} {sb1 tb1 sb2 tb2 : Bool} {Ab1 Bb1 Ab2 Bb2 : Option Addr} {nb1 cb1 mb1 db1 nb2 cb2 mb2 db2 : Nat} {xb1 yb1 xb2 yb2 : List Nat} {s t : Bool} {A B : Option Addr} {n c m d : Nat} {xs ys : List Nat} {lo0 hi0 lo1 hi1 : Rat} (hA : Awake3) (hT : Tab w) (hr0 : RawV w Aa1 na1 ca1 xa1 Ba1 ma1 da1 ya1 Aa2 na2 ca2 xa2 Ba2 ma2 da2 ya2) (hr1 : RawV w Ab1 nb1 cb1 xb1 Bb1 mb1 db1 yb1 Ab2 nb2 cb2 xb2 Bb2 mb2 db2 yb2) (hr2 : RI w A n c xs) (hk2 : RI w B m d ys) (h0 : IV w lo0 hi0 10 sa1 Aa1 na1 ca1 ta1 Ba1 ma1 da1 sa2 Aa2 na2 ca2 ta2 Ba2 ma2 da2) (h1 : IV w lo1 hi1 10 sb1 Ab1 nb1 cb1 tb1 Bb1 mb1 db1 sb2 Ab2 nb2 cb2 tb2 Bb2 mb2 db2) {x : Rat} (hx : NR w x 10 s A n c t B m d) (hc : ¬ mxR lo0 lo1 ≤ mnR hi0 hi1) (hbA : inB lo0 hi0 x = false) (hbB : inB lo1 hi1 x = true) (hf0 : (fewV na1 ma1 na2 ma2 sa1 xa1 ta1 ya1 sa2 xa2 ta2 ya2 && (fewV nb1 mb1 nb2 mb2 sb1 xb1 tb1 yb1 sb2 xb2 tb2 yb2)) = true) (hf1 : (few10 n m s xs t ys) = true) :
    Calls Tryz.prog 9 #[.agg #[.bool sa1, .slice Aa1 na1 ca1, .bool ta1, .slice Ba1 ma1 da1, .bool sa2, .slice Aa2 na2 ca2, .bool ta2, .slice Ba2 ma2 da2], .agg #[.bool sb1, .slice Ab1 nb1 cb1, .bool tb1, .slice Bb1 mb1 db1, .bool sb2, .slice Ab2 nb2 cb2, .bool tb2, .slice Bb2 mb2 db2], .agg #[.bool s, .slice A n c, .bool t, .slice B m d]] w fun e w' => e = .returned (.bool true) ∧ Ext w w' := by
  have HF0 := Lib.hid hf0
  clear hf0
  have HF1 := Lib.hid hf1
  clear hf1
  have HC := Lib.hid hc
  have HA1 := Lib.hid hbA
  have HB1 := Lib.hid hbB
  clear hc hbA hbB
  have HA := Lib.hid hA
  clear hA
  go_enter Tryz.func9, Tryz.ntmps9
  go_upto_region 1 with (fail)
  obtain ⟨W0, hW, extW, bx, by_, bz, hzz⟩ := box3 w 28 28 26 #[.bool sa1, .slice Aa1 na1 ca1, .bool ta1, .slice Ba1 ma1 da1, .bool sa2, .slice Aa2 na2 ca2, .bool ta2, .slice Ba2 ma2 da2] #[.bool sb1, .slice Ab1 nb1 cb1, .bool tb1, .slice Bb1 mb1 db1, .bool sb2, .slice Ab2 nb2 cb2, .bool tb2, .slice Bb2 mb2 db2] #[.bool s, .slice A n c, .bool t, .slice B m d]
  rw [← hW]
  clear hW hzz
  go_wp2_with fail
  refine (HA.out _ (hT.ext extW)).mono ?_
  rintro e W ⟨rfl, hxt⟩
  replace bx := bx.ext hxt
  replace by_ := by_.ext hxt
  replace bz := bz.ext hxt
  replace extW := extW.trans hxt
  clear hxt
  have k0 := bx.cell 0 (.bool sa1) rfl
  have k1 := bx.cell 1 (.slice Aa1 na1 ca1) rfl
  have k2 := bx.cell 2 (.bool ta1) rfl
  have k3 := bx.cell 3 (.slice Ba1 ma1 da1) rfl
  have k4 := bx.cell 4 (.bool sa2) rfl
  have k5 := bx.cell 5 (.slice Aa2 na2 ca2) rfl
  have k6 := bx.cell 6 (.bool ta2) rfl
  have k7 := bx.cell 7 (.slice Ba2 ma2 da2) rfl
  have x0 := by_.cell 0 (.bool sb1) rfl
  have x1 := by_.cell 1 (.slice Ab1 nb1 cb1) rfl
  have x2 := by_.cell 2 (.bool tb1) rfl
  have x3 := by_.cell 3 (.slice Bb1 mb1 db1) rfl
  have x4 := by_.cell 4 (.bool sb2) rfl
  have x5 := by_.cell 5 (.slice Ab2 nb2 cb2) rfl
  have x6 := by_.cell 6 (.bool tb2) rfl
  have x7 := by_.cell 7 (.slice Bb2 mb2 db2) rfl
  have z0 := bz.cell 0 (.bool s) rfl
  have z1 := bz.cell 1 (.slice A n c) rfl
  have z2 := bz.cell 2 (.bool t) rfl
  have z3 := bz.cell 3 (.slice B m d) rfl
  have hnb := Box.new W 28 #[.bool sa1, .slice Aa1 na1 ca1, .bool ta1, .slice Ba1 ma1 da1, .bool sa2, .slice Aa2 na2 ca2, .bool ta2, .slice Ba2 ma2 da2, .bool sb1, .slice Ab1 nb1 cb1, .bool tb1, .slice Bb1 mb1 db1, .bool sb2, .slice Ab2 nb2 cb2, .bool tb2, .slice Bb2 mb2 db2]
  have e1 := (Ext.refl W).alloc (.cells #[.bool sa1, .slice Aa1 na1 ca1, .bool ta1, .slice Ba1 ma1 da1, .bool sa2, .slice Aa2 na2 ca2, .bool ta2, .slice Ba2 ma2 da2, .bool sb1, .slice Ab1 nb1 cb1, .bool tb1, .slice Bb1 mb1 db1, .bool sb2, .slice Ab2 nb2 cb2, .bool tb2, .slice Bb2 mb2 db2] 28)
  go_wp2_with fail
  refine (fewI2 hnb (hr0.ext (extW.trans e1)) (hr1.ext (extW.trans e1))).mono ?_
  rintro e W1 ⟨rfl, hxt⟩
  rw [HF0.out]
  have ES := e1.trans hxt
  clear hnb e1 hxt
  clear k0 k1 k2 k3 k4 k5 k6 k7 x0 x1 x2 x3 x4 x5 x6 x7 z0 z1 z2 z3
  replace bx := bx.ext ES
  replace by_ := by_.ext ES
  replace bz := bz.ext ES
  replace extW := extW.trans ES
  clear ES
  have k0 := bx.cell 0 (.bool sa1) rfl
  have k1 := bx.cell 1 (.slice Aa1 na1 ca1) rfl
  have k2 := bx.cell 2 (.bool ta1) rfl
  have k3 := bx.cell 3 (.slice Ba1 ma1 da1) rfl
  have k4 := bx.cell 4 (.bool sa2) rfl
  have k5 := bx.cell 5 (.slice Aa2 na2 ca2) rfl
  have k6 := bx.cell 6 (.bool ta2) rfl
  have k7 := bx.cell 7 (.slice Ba2 ma2 da2) rfl
  have x0 := by_.cell 0 (.bool sb1) rfl
  have x1 := by_.cell 1 (.slice Ab1 nb1 cb1) rfl
  have x2 := by_.cell 2 (.bool tb1) rfl
  have x3 := by_.cell 3 (.slice Bb1 mb1 db1) rfl
  have x4 := by_.cell 4 (.bool sb2) rfl
  have x5 := by_.cell 5 (.slice Ab2 nb2 cb2) rfl
  have x6 := by_.cell 6 (.bool tb2) rfl
  have x7 := by_.cell 7 (.slice Bb2 mb2 db2) rfl
  have z0 := bz.cell 0 (.bool s) rfl
  have z1 := bz.cell 1 (.slice A n c) rfl
  have z2 := bz.cell 2 (.bool t) rfl
  have z3 := bz.cell 3 (.slice B m d) rfl
  go_wp2_with fail
  refine (q_Few10 (hr2.ext extW) (hk2.ext extW)).mono ?_
  rintro e W2 ⟨rfl, ES⟩
  rw [HF1.out]
  clear k0 k1 k2 k3 k4 k5 k6 k7 x0 x1 x2 x3 x4 x5 x6 x7 z0 z1 z2 z3
  replace bx := bx.ext ES
  replace by_ := by_.ext ES
  replace bz := bz.ext ES
  replace extW := extW.trans ES
  clear ES
  have k0 := bx.cell 0 (.bool sa1) rfl
  have k1 := bx.cell 1 (.slice Aa1 na1 ca1) rfl
  have k2 := bx.cell 2 (.bool ta1) rfl
  have k3 := bx.cell 3 (.slice Ba1 ma1 da1) rfl
  have k4 := bx.cell 4 (.bool sa2) rfl
  have k5 := bx.cell 5 (.slice Aa2 na2 ca2) rfl
  have k6 := bx.cell 6 (.bool ta2) rfl
  have k7 := bx.cell 7 (.slice Ba2 ma2 da2) rfl
  have x0 := by_.cell 0 (.bool sb1) rfl
  have x1 := by_.cell 1 (.slice Ab1 nb1 cb1) rfl
  have x2 := by_.cell 2 (.bool tb1) rfl
  have x3 := by_.cell 3 (.slice Bb1 mb1 db1) rfl
  have x4 := by_.cell 4 (.bool sb2) rfl
  have x5 := by_.cell 5 (.slice Ab2 nb2 cb2) rfl
  have x6 := by_.cell 6 (.bool tb2) rfl
  have x7 := by_.cell 7 (.slice Bb2 mb2 db2) rfl
  go_wp2_with fail
  refine (p_MeetV (h0.ext extW) (h1.ext extW) (by omega)).mono ?_
  intro e Wa hmt
  obtain ⟨rfl, hxt⟩ := hmt.no HC.out
  clear hmt
  clear k0 x0 k1 x1 k2 x2 k3 x3 k4 x4 k5 x5 k6 x6 k7 x7
  replace bx := bx.ext hxt
  replace by_ := by_.ext hxt
  replace bz := bz.ext hxt
  replace extW := extW.trans hxt
  clear hxt
  go_upto_region 4 with (fail)
  refine at_world (fun V => Ext Wa V ∧ Box V Wa.heap.size 28 #[.bool false, .slice none 0 0, .bool false, .slice none 0 0, .bool false, .slice none 0 0, .bool false, .slice none 0 0]) ⟨(Ext.refl Wa).alloc _, Box.new Wa _ _⟩ ?_
  generalize Wa.heap.size = g7
  rintro Wav ⟨EV, b7⟩
  replace bx := bx.ext EV
  replace by_ := by_.ext EV
  replace bz := bz.ext EV
  replace extW := extW.trans EV
  clear EV
  have k0 := bx.cell 0 (.bool sa1) rfl
  have k1 := bx.cell 1 (.slice Aa1 na1 ca1) rfl
  have k2 := bx.cell 2 (.bool ta1) rfl
  have k3 := bx.cell 3 (.slice Ba1 ma1 da1) rfl
  have k4 := bx.cell 4 (.bool sa2) rfl
  have k5 := bx.cell 5 (.slice Aa2 na2 ca2) rfl
  have k6 := bx.cell 6 (.bool ta2) rfl
  have k7 := bx.cell 7 (.slice Ba2 ma2 da2) rfl
  have x0 := by_.cell 0 (.bool sb1) rfl
  have x1 := by_.cell 1 (.slice Ab1 nb1 cb1) rfl
  have x2 := by_.cell 2 (.bool tb1) rfl
  have x3 := by_.cell 3 (.slice Bb1 mb1 db1) rfl
  have x4 := by_.cell 4 (.bool sb2) rfl
  have x5 := by_.cell 5 (.slice Ab2 nb2 cb2) rfl
  have x6 := by_.cell 6 (.bool tb2) rfl
  have x7 := by_.cell 7 (.slice Bb2 mb2 db2) rfl
  go_wp2_with fail
  refine (q_MeetV (h0.ext extW) (h1.ext extW) (by omega)).mono ?_
  intro e Wb hmt
  obtain ⟨rfl, hxt⟩ := hmt.no HC.out
  clear hmt
  clear k0 x0 k1 x1 k2 x2 k3 x3 k4 x4 k5 x5 k6 x6 k7 x7
  replace bx := bx.ext hxt
  replace by_ := by_.ext hxt
  replace bz := bz.ext hxt
  replace b7 := b7.ext hxt
  replace extW := extW.trans hxt
  clear hxt
  go_upto_region 5 with (fail)
  refine at_world (fun V => Ext Wb V ∧ Box V Wb.heap.size 28 #[.bool false, .slice none 0 0, .bool false, .slice none 0 0, .bool false, .slice none 0 0, .bool false, .slice none 0 0]) ⟨(Ext.refl Wb).alloc _, Box.new Wb _ _⟩ ?_
  generalize Wb.heap.size = g9
  rintro Wbv ⟨EV, b9⟩
  replace bx := bx.ext EV
  replace by_ := by_.ext EV
  replace bz := bz.ext EV
  replace b7 := b7.ext EV
  replace extW := extW.trans EV
  clear EV
  have k0 := b7.cell 0 (.bool false) rfl
  have k1 := b7.cell 1 (.slice none 0 0) rfl
  have k2 := b7.cell 2 (.bool false) rfl
  have k3 := b7.cell 3 (.slice none 0 0) rfl
  have k4 := b7.cell 4 (.bool false) rfl
  have k5 := b7.cell 5 (.slice none 0 0) rfl
  have k6 := b7.cell 6 (.bool false) rfl
  have k7 := b7.cell 7 (.slice none 0 0) rfl
  go_wp2_with fail
  refine (q_ZeroV).mono ?_
  rintro e Wc ⟨rfl, hxt⟩
  clear k0 k1 k2 k3 k4 k5 k6 k7
  replace bx := bx.ext hxt
  replace by_ := by_.ext hxt
  replace bz := bz.ext hxt
  replace b7 := b7.ext hxt
  replace b9 := b9.ext hxt
  replace extW := extW.trans hxt
  clear hxt
  go_upto_region 7 with (fail)
  have ES0 := Ext.refl Wc
  refine wp_region_held_drew (S := Ext Wc) (by kernel_rfl) ES0.drew (fun ES => ?_)
  clear ES0
  refine Late.start0 (fun _ _ _ _ _ => ⟨fun h => h, fun h => h⟩) ES (fun hAl hQ => ?_)
  refine Late.take (i := 0) (d := some 59) (v := ?v0_165) rfl rfl (by kernel_rfl) (by kernel_rfl) (by kernel_rfl) (by kernel_rfl) hQ (Or.inl ⟨by rfl, ?y0_165⟩) ?r0_165
  case y0_165 =>
    intro w' hSw
    have k00 := (bx.ext hSw).c8
    have k10 := (by_.ext hSw).c8
    have k20 := (bz.ext hSw).c4
    have k30 := (b7.ext hSw).c8
    go_simp
    try with_reducible rfl
  try simp only [Act.put]
  try simp only [List.setIfInBounds_toArray]
  try simp only [List.set_cons_succ]
  try simp only [List.set_cons_zero]
  refine Late.take (i := 6) (d := some 65) (v := ?v6_166) rfl rfl (by kernel_rfl) (by kernel_rfl) (by kernel_rfl) (by kernel_rfl) hQ (Or.inl ⟨by rfl, ?y6_166⟩) ?r6_166
  case y6_166 =>
    intro w' hSw
    have k00 := (bx.ext hSw).c8
    have k10 := (by_.ext hSw).c8
    have k20 := (bz.ext hSw).c4
    have k30 := (b7.ext hSw).c8
    go_simp
    try with_reducible rfl
  try simp only [Act.put]
  try simp only [List.setIfInBounds_toArray]
  try simp only [List.set_cons_succ]
  try simp only [List.set_cons_zero]
  refine Late.take (i := 7) (d := some 66) (v := ?v7_167) rfl rfl (by kernel_rfl) (by kernel_rfl) (by kernel_rfl) (by kernel_rfl) hQ (Or.inl ⟨by rfl, ?y7_167⟩) ?r7_167
  case y7_167 =>
    intro w' hSw
    have k00 := (bx.ext hSw).c8
    have k10 := (by_.ext hSw).c8
    have k20 := (bz.ext hSw).c4
    have k30 := (b7.ext hSw).c8
    go_simp
    try with_reducible rfl
  try simp only [Act.put]
  try simp only [List.setIfInBounds_toArray]
  try simp only [List.set_cons_succ]
  try simp only [List.set_cons_zero]
  refine Late.take (i := 1) (d := some 60) (v := ?v1_168) rfl rfl (by kernel_rfl) (by kernel_rfl) (by kernel_rfl) (by kernel_rfl) hQ (Or.inl ⟨by rfl, ?y1_168⟩) ?r1_168
  case y1_168 =>
    intro w' hSw
    have k00 := (bx.ext hSw).c8
    have k10 := (by_.ext hSw).c8
    have k20 := (bz.ext hSw).c4
    have k30 := (b7.ext hSw).c8
    go_simp
    try with_reducible rfl
  try simp only [Act.put]
  try simp only [List.setIfInBounds_toArray]
  try simp only [List.set_cons_succ]
  try simp only [List.set_cons_zero]
  refine Late.take (i := 2) (d := some 61) (v := undef) rfl rfl (by kernel_rfl) (by kernel_rfl) (by kernel_rfl) (by kernel_rfl) hQ (Or.inr ⟨by kernel_rfl, rfl⟩) ?_
  try simp only [Act.put]
  try simp only [List.setIfInBounds_toArray]
  try simp only [List.set_cons_succ]
  try simp only [List.set_cons_zero]
  refine Late.take (i := 3) (d := some 62) (v := undef) rfl rfl (by kernel_rfl) (by kernel_rfl) (by kernel_rfl) (by kernel_rfl) hQ (Or.inr ⟨by kernel_rfl, rfl⟩) ?_
  try simp only [Act.put]
  try simp only [List.setIfInBounds_toArray]
  try simp only [List.set_cons_succ]
  try simp only [List.set_cons_zero]
  refine Late.take (i := 4) (d := some 63) (v := undef) rfl rfl (by kernel_rfl) (by kernel_rfl) (by kernel_rfl) (by kernel_rfl) hQ (Or.inr ⟨by kernel_rfl, rfl⟩) ?_
  try simp only [Act.put]
  try simp only [List.setIfInBounds_toArray]
  try simp only [List.set_cons_succ]
  try simp only [List.set_cons_zero]
  refine Late.take (i := 5) (d := some 64) (v := ?v5_169) rfl rfl (by kernel_rfl) (by kernel_rfl) (by kernel_rfl) (by kernel_rfl) hQ (Or.inl ⟨by rfl, ?y5_169⟩) ?r5_169
  case y5_169 =>
    intro w' hSw
    have k00 := (bx.ext hSw).c8
    have k10 := (by_.ext hSw).c8
    have k20 := (bz.ext hSw).c4
    have k30 := (b7.ext hSw).c8
    go_simp
    try with_reducible rfl
  try simp only [Act.put]
  try simp only [List.setIfInBounds_toArray]
  try simp only [List.set_cons_succ]
  try simp only [List.set_cons_zero]
  refine Late.call (i := 8) rfl (by kernel_rfl) hAl (by kernel_rfl) (by kernel_rfl) (by kernel_rfl) hQ (fun w8 e8 E8 K hK => ?_)
  go_simp
  (go_at_call 38; refine (p_Contains (h0.ext (extW.trans E8)) (hx.ext (extW.trans E8)) (by omega) (by omega)).mono ?_; rintro e wk8 ⟨rfl, hx8⟩; rw [HA1.out])
  refine hK.out _ _ hx8 ?_
  clear hK K
  try simp only [Act.put]
  try simp only [List.setIfInBounds_toArray]
  try simp only [List.set_cons_succ]
  try simp only [List.set_cons_zero]
  refine Late.take (i := 9) (d := some 68) (v := ?v9_170) rfl rfl (by kernel_rfl) (by kernel_rfl) (by kernel_rfl) (by kernel_rfl) hQ (Or.inl ⟨by rfl, ?y9_170⟩) ?r9_170
  case y9_170 =>
    intro w' hSw
    have k00 := (bx.ext hSw).c8
    have k10 := (by_.ext hSw).c8
    have k20 := (bz.ext hSw).c4
    have k30 := (b7.ext hSw).c8
    go_simp
    try with_reducible rfl
  try simp only [Act.put]
  try simp only [List.setIfInBounds_toArray]
  try simp only [List.set_cons_succ]
  try simp only [List.set_cons_zero]
  refine Late.take (i := 10) (d := some 69) (v := undef) rfl rfl (by kernel_rfl) (by kernel_rfl) (by kernel_rfl) (by kernel_rfl) hQ (Or.inr ⟨by kernel_rfl, rfl⟩) ?_
  try simp only [Act.put]
  try simp only [List.setIfInBounds_toArray]
  try simp only [List.set_cons_succ]
  try simp only [List.set_cons_zero]
  refine Late.take (i := 11) (d := some 70) (v := undef) rfl rfl (by kernel_rfl) (by kernel_rfl) (by kernel_rfl) (by kernel_rfl) hQ (Or.inr ⟨by kernel_rfl, rfl⟩) ?_
  try simp only [Act.put]
  try simp only [List.setIfInBounds_toArray]
  try simp only [List.set_cons_succ]
  try simp only [List.set_cons_zero]
  refine Late.take (i := 12) (d := some 71) (v := undef) rfl rfl (by kernel_rfl) (by kernel_rfl) (by kernel_rfl) (by kernel_rfl) hQ (Or.inr ⟨by kernel_rfl, rfl⟩) ?_
  try simp only [Act.put]
  try simp only [List.setIfInBounds_toArray]
  try simp only [List.set_cons_succ]
  try simp only [List.set_cons_zero]
  refine Late.take (i := 13) (d := some 72) (v := ?v13_171) rfl rfl (by kernel_rfl) (by kernel_rfl) (by kernel_rfl) (by kernel_rfl) hQ (Or.inl ⟨by rfl, ?y13_171⟩) ?r13_171
  case y13_171 =>
    intro w' hSw
    have k00 := (bx.ext hSw).c8
    have k10 := (by_.ext hSw).c8
    have k20 := (bz.ext hSw).c4
    have k30 := (b7.ext hSw).c8
    go_simp
    try with_reducible rfl
  try simp only [Act.put]
  try simp only [List.setIfInBounds_toArray]
  try simp only [List.set_cons_succ]
  try simp only [List.set_cons_zero]
  refine Late.take (i := 14) (d := some 73) (v := ?v14_172) rfl rfl (by kernel_rfl) (by kernel_rfl) (by kernel_rfl) (by kernel_rfl) hQ (Or.inl ⟨by rfl, ?y14_172⟩) ?r14_172
  case y14_172 =>
    intro w' hSw
    have k00 := (bx.ext hSw).c8
    have k10 := (by_.ext hSw).c8
    have k20 := (bz.ext hSw).c4
    have k30 := (b7.ext hSw).c8
    go_simp
    try with_reducible rfl
  try simp only [Act.put]
  try simp only [List.setIfInBounds_toArray]
  try simp only [List.set_cons_succ]
  try simp only [List.set_cons_zero]
  refine Late.take (i := 15) (d := some 6) (v := ?v15_173) rfl rfl (by kernel_rfl) (by kernel_rfl) (by kernel_rfl) (by kernel_rfl) hQ (Or.inl ⟨by rfl, ?y15_173⟩) ?r15_173
  case y15_173 =>
    intro w' hSw
    have k00 := (bx.ext hSw).c8
    have k10 := (by_.ext hSw).c8
    have k20 := (bz.ext hSw).c4
    have k30 := (b7.ext hSw).c8
    go_simp
    try with_reducible rfl
  try simp only [Act.put]
  try simp only [List.setIfInBounds_toArray]
  try simp only [List.set_cons_succ]
  try simp only [List.set_cons_zero]
  refine Late.done0 (by kernel_rfl) (fun wz ez Ez => ?_)
  clear hAl hQ ES
  go_wp2_with fail
  go_ret
  exact ⟨rfl, extW.trans Ez⟩
set_option maxHeartbeats 16000000 in
set_option maxRecDepth 100000 in
theorem meet3_n_false_false {w : World} {sa1 ta1 sa2 ta2 : Bool} {Aa1 Ba1 Aa2 Ba2 : Option Addr} {na1 ca1 ma1 da1 na2 ca2 ma2 da2 : Nat} {xa1 ya1 xa2 ya2 : List Nat} {sb1 tb1 sb2 tb2 : Bool} {Ab1 Bb1 Ab2 Bb2 : Option Addr} {nb1 cb1 mb1 db1 nb2 cb2 mb2 db2 : Nat} {xb1 yb1 xb2 yb2 : List Nat} {s t : Bool} {A B : Option Addr} {n c m d : Nat} {xs ys : List Nat} {lo0 hi0 lo1 hi1 : Rat} (hA : Awake3) (hT : Tab w) (hr0 : RawV w Aa1 na1 ca1 xa1 Ba1 ma1 da1 ya1 Aa2 na2 ca2 xa2 Ba2 ma2 da2 ya2) (hr1 : RawV w Ab1 nb1 cb1 xb1 Bb1 mb1 db1 yb1 Ab2 nb2 cb2 xb2 Bb2 mb2 db2 yb2) (hr2 : RI w A n c xs) (hk2 : RI w B m d ys) (h0 : IV w lo0 hi0 10 sa1 Aa1 na1 ca1 ta1 Ba1 ma1 da1 sa2 Aa2 na2 ca2 ta2 Ba2 ma2 da2) (h1 : IV w lo1 hi1 10 sb1 Ab1 nb1 cb1 tb1 Bb1 mb1 db1 sb2 Ab2 nb2 cb2 tb2 Bb2 mb2 db2) {x : Rat} (hx : NR w x 10 s A n c t B m d) (hc : ¬ mxR lo0 lo1 ≤ mnR hi0 hi1) (hbA : inB lo0 hi0 x = false) (hbB : inB lo1 hi1 x = false) (hf0 : (fewV na1 ma1 na2 ma2 sa1 xa1 ta1 ya1 sa2 xa2 ta2 ya2 && (fewV nb1 mb1 nb2 mb2 sb1 xb1 tb1 yb1 sb2 xb2 tb2 yb2)) = true) (hf1 : (few10 n m s xs t ys) = true) :
    Calls Tryz.prog 9 #[.agg #[.bool sa1, .slice Aa1 na1 ca1, .bool ta1, .slice Ba1 ma1 da1, .bool sa2, .slice Aa2 na2 ca2, .bool ta2, .slice Ba2 ma2 da2], .agg #[.bool sb1, .slice Ab1 nb1 cb1, .bool tb1, .slice Bb1 mb1 db1, .bool sb2, .slice Ab2 nb2 cb2, .bool tb2, .slice Bb2 mb2 db2], .agg #[.bool s, .slice A n c, .bool t, .slice B m d]] w fun e w' => e = .returned (.bool true) ∧ Ext w w' := by
  have HF0 := Lib.hid hf0
  clear hf0
  have HF1 := Lib.hid hf1
  clear hf1
  have HC := Lib.hid hc
  have HA1 := Lib.hid hbA
  have HB1 := Lib.hid hbB
  clear hc hbA hbB
  have HA := Lib.hid hA
  clear hA
  go_enter Tryz.func9, Tryz.ntmps9
  go_upto_region 1 with (fail)
  obtain ⟨W0, hW, extW, bx, by_, bz, hzz⟩ := box3 w 28 28 26 #[.bool sa1, .slice Aa1 na1 ca1, .bool ta1, .slice Ba1 ma1 da1, .bool sa2, .slice Aa2 na2 ca2, .bool ta2, .slice Ba2 ma2 da2] #[.bool sb1, .slice Ab1 nb1 cb1, .bool tb1, .slice Bb1 mb1 db1, .bool sb2, .slice Ab2 nb2 cb2, .bool tb2, .slice Bb2 mb2 db2] #[.bool s, .slice A n c, .bool t, .slice B m d]
  rw [← hW]
  clear hW hzz
  go_wp2_with fail
  refine (HA.out _ (hT.ext extW)).mono ?_
  rintro e W ⟨rfl, hxt⟩
  replace bx := bx.ext hxt
  replace by_ := by_.ext hxt
  replace bz := bz.ext hxt
  replace extW := extW.trans hxt
  clear hxt
  have k0 := bx.cell 0 (.bool sa1) rfl
  have k1 := bx.cell 1 (.slice Aa1 na1 ca1) rfl
  have k2 := bx.cell 2 (.bool ta1) rfl
  have k3 := bx.cell 3 (.slice Ba1 ma1 da1) rfl
  have k4 := bx.cell 4 (.bool sa2) rfl
  have k5 := bx.cell 5 (.slice Aa2 na2 ca2) rfl
  have k6 := bx.cell 6 (.bool ta2) rfl
  have k7 := bx.cell 7 (.slice Ba2 ma2 da2) rfl
  have x0 := by_.cell 0 (.bool sb1) rfl
  have x1 := by_.cell 1 (.slice Ab1 nb1 cb1) rfl
  have x2 := by_.cell 2 (.bool tb1) rfl
  have x3 := by_.cell 3 (.slice Bb1 mb1 db1) rfl
  have x4 := by_.cell 4 (.bool sb2) rfl
  have x5 := by_.cell 5 (.slice Ab2 nb2 cb2) rfl
  have x6 := by_.cell 6 (.bool tb2) rfl
  have x7 := by_.cell 7 (.slice Bb2 mb2 db2) rfl
  have z0 := bz.cell 0 (.bool s) rfl
  have z1 := bz.cell 1 (.slice A n c) rfl
  have z2 := bz.cell 2 (.bool t) rfl
  have z3 := bz.cell 3 (.slice B m d) rfl
  have hnb := Box.new W 28 #[.bool sa1, .slice Aa1 na1 ca1, .bool ta1, .slice Ba1 ma1 da1, .bool sa2, .slice Aa2 na2 ca2, .bool ta2, .slice Ba2 ma2 da2, .bool sb1, .slice Ab1 nb1 cb1, .bool tb1, .slice Bb1 mb1 db1, .bool sb2, .slice Ab2 nb2 cb2, .bool tb2, .slice Bb2 mb2 db2]
  have e1 := (Ext.refl W).alloc (.cells #[.bool sa1, .slice Aa1 na1 ca1, .bool ta1, .slice Ba1 ma1 da1, .bool sa2, .slice Aa2 na2 ca2, .bool ta2, .slice Ba2 ma2 da2, .bool sb1, .slice Ab1 nb1 cb1, .bool tb1, .slice Bb1 mb1 db1, .bool sb2, .slice Ab2 nb2 cb2, .bool tb2, .slice Bb2 mb2 db2] 28)
  go_wp2_with fail
  refine (fewI2 hnb (hr0.ext (extW.trans e1)) (hr1.ext (extW.trans e1))).mono ?_
  rintro e W1 ⟨rfl, hxt⟩
  rw [HF0.out]
  have ES := e1.trans hxt
  clear hnb e1 hxt
  clear k0 k1 k2 k3 k4 k5 k6 k7 x0 x1 x2 x3 x4 x5 x6 x7 z0 z1 z2 z3
  replace bx := bx.ext ES
  replace by_ := by_.ext ES
  replace bz := bz.ext ES
  replace extW := extW.trans ES
  clear ES
  have k0 := bx.cell 0 (.bool sa1) rfl
  have k1 := bx.cell 1 (.slice Aa1 na1 ca1) rfl
  have k2 := bx.cell 2 (.bool ta1) rfl
  have k3 := bx.cell 3 (.slice Ba1 ma1 da1) rfl
  have k4 := bx.cell 4 (.bool sa2) rfl
  have k5 := bx.cell 5 (.slice Aa2 na2 ca2) rfl
  have k6 := bx.cell 6 (.bool ta2) rfl
  have k7 := bx.cell 7 (.slice Ba2 ma2 da2) rfl
  have x0 := by_.cell 0 (.bool sb1) rfl
  have x1 := by_.cell 1 (.slice Ab1 nb1 cb1) rfl
  have x2 := by_.cell 2 (.bool tb1) rfl
  have x3 := by_.cell 3 (.slice Bb1 mb1 db1) rfl
  have x4 := by_.cell 4 (.bool sb2) rfl
  have x5 := by_.cell 5 (.slice Ab2 nb2 cb2) rfl
  have x6 := by_.cell 6 (.bool tb2) rfl
  have x7 := by_.cell 7 (.slice Bb2 mb2 db2) rfl
  have z0 := bz.cell 0 (.bool s) rfl
  have z1 := bz.cell 1 (.slice A n c) rfl
  have z2 := bz.cell 2 (.bool t) rfl
  have z3 := bz.cell 3 (.slice B m d) rfl
  go_wp2_with fail
  refine (q_Few10 (hr2.ext extW) (hk2.ext extW)).mono ?_
  rintro e W2 ⟨rfl, ES⟩
  rw [HF1.out]
  clear k0 k1 k2 k3 k4 k5 k6 k7 x0 x1 x2 x3 x4 x5 x6 x7 z0 z1 z2 z3
  replace bx := bx.ext ES
  replace by_ := by_.ext ES
  replace bz := bz.ext ES
  replace extW := extW.trans ES
  clear ES
  have k0 := bx.cell 0 (.bool sa1) rfl
  have k1 := bx.cell 1 (.slice Aa1 na1 ca1) rfl
  have k2 := bx.cell 2 (.bool ta1) rfl
  have k3 := bx.cell 3 (.slice Ba1 ma1 da1) rfl
  have k4 := bx.cell 4 (.bool sa2) rfl
  have k5 := bx.cell 5 (.slice Aa2 na2 ca2) rfl
  have k6 := bx.cell 6 (.bool ta2) rfl
  have k7 := bx.cell 7 (.slice Ba2 ma2 da2) rfl
  have x0 := by_.cell 0 (.bool sb1) rfl
  have x1 := by_.cell 1 (.slice Ab1 nb1 cb1) rfl
  have x2 := by_.cell 2 (.bool tb1) rfl
  have x3 := by_.cell 3 (.slice Bb1 mb1 db1) rfl
  have x4 := by_.cell 4 (.bool sb2) rfl
  have x5 := by_.cell 5 (.slice Ab2 nb2 cb2) rfl
  have x6 := by_.cell 6 (.bool tb2) rfl
  have x7 := by_.cell 7 (.slice Bb2 mb2 db2) rfl
  go_wp2_with fail
  refine (p_MeetV (h0.ext extW) (h1.ext extW) (by omega)).mono ?_
  intro e Wa hmt
  obtain ⟨rfl, hxt⟩ := hmt.no HC.out
  clear hmt
  clear k0 x0 k1 x1 k2 x2 k3 x3 k4 x4 k5 x5 k6 x6 k7 x7
  replace bx := bx.ext hxt
  replace by_ := by_.ext hxt
  replace bz := bz.ext hxt
  replace extW := extW.trans hxt
  clear hxt
  go_upto_region 4 with (fail)
  refine at_world (fun V => Ext Wa V ∧ Box V Wa.heap.size 28 #[.bool false, .slice none 0 0, .bool false, .slice none 0 0, .bool false, .slice none 0 0, .bool false, .slice none 0 0]) ⟨(Ext.refl Wa).alloc _, Box.new Wa _ _⟩ ?_
  generalize Wa.heap.size = g7
  rintro Wav ⟨EV, b7⟩
  replace bx := bx.ext EV
  replace by_ := by_.ext EV
  replace bz := bz.ext EV
  replace extW := extW.trans EV
  clear EV
  have k0 := bx.cell 0 (.bool sa1) rfl
  have k1 := bx.cell 1 (.slice Aa1 na1 ca1) rfl
  have k2 := bx.cell 2 (.bool ta1) rfl
  have k3 := bx.cell 3 (.slice Ba1 ma1 da1) rfl
  have k4 := bx.cell 4 (.bool sa2) rfl
  have k5 := bx.cell 5 (.slice Aa2 na2 ca2) rfl
  have k6 := bx.cell 6 (.bool ta2) rfl
  have k7 := bx.cell 7 (.slice Ba2 ma2 da2) rfl
  have x0 := by_.cell 0 (.bool sb1) rfl
  have x1 := by_.cell 1 (.slice Ab1 nb1 cb1) rfl
  have x2 := by_.cell 2 (.bool tb1) rfl
  have x3 := by_.cell 3 (.slice Bb1 mb1 db1) rfl
  have x4 := by_.cell 4 (.bool sb2) rfl
  have x5 := by_.cell 5 (.slice Ab2 nb2 cb2) rfl
  have x6 := by_.cell 6 (.bool tb2) rfl
  have x7 := by_.cell 7 (.slice Bb2 mb2 db2) rfl
  go_wp2_with fail
  refine (q_MeetV (h0.ext extW) (h1.ext extW) (by omega)).mono ?_
  intro e Wb hmt
  obtain ⟨rfl, hxt⟩ := hmt.no HC.out
  clear hmt
  clear k0 x0 k1 x1 k2 x2 k3 x3 k4 x4 k5 x5 k6 x6 k7 x7
  replace bx := bx.ext hxt
  replace by_ := by_.ext hxt
  replace bz := bz.ext hxt
  replace b7 := b7.ext hxt
  replace extW := extW.trans hxt
  clear hxt
  go_upto_region 5 with (fail)
  refine at_world (fun V => Ext Wb V ∧ Box V Wb.heap.size 28 #[.bool false, .slice none 0 0, .bool false, .slice none 0 0, .bool false, .slice none 0 0, .bool false, .slice none 0 0]) ⟨(Ext.refl Wb).alloc _, Box.new Wb _ _⟩ ?_
  generalize Wb.heap.size = g9
  rintro Wbv ⟨EV, b9⟩
  replace bx := bx.ext EV
  replace by_ := by_.ext EV
  replace bz := bz.ext EV
  replace b7 := b7.ext EV
  replace extW := extW.trans EV
  clear EV
  have k0 := b7.cell 0 (.bool false) rfl
  have k1 := b7.cell 1 (.slice none 0 0) rfl
  have k2 := b7.cell 2 (.bool false) rfl
  have k3 := b7.cell 3 (.slice none 0 0) rfl
  have k4 := b7.cell 4 (.bool false) rfl
  have k5 := b7.cell 5 (.slice none 0 0) rfl
  have k6 := b7.cell 6 (.bool false) rfl
  have k7 := b7.cell 7 (.slice none 0 0) rfl
  go_wp2_with fail
  refine (q_ZeroV).mono ?_
  rintro e Wc ⟨rfl, hxt⟩
  clear k0 k1 k2 k3 k4 k5 k6 k7
  replace bx := bx.ext hxt
  replace by_ := by_.ext hxt
  replace bz := bz.ext hxt
  replace b7 := b7.ext hxt
  replace b9 := b9.ext hxt
  replace extW := extW.trans hxt
  clear hxt
  go_upto_region 7 with (fail)
  have ES0 := Ext.refl Wc
  refine wp_region_held_drew (S := Ext Wc) (by kernel_rfl) ES0.drew (fun ES => ?_)
  clear ES0
  refine Late.start0 (fun _ _ _ _ _ => ⟨fun h => h, fun h => h⟩) ES (fun hAl hQ => ?_)
  refine Late.take (i := 0) (d := some 59) (v := ?v0_174) rfl rfl (by kernel_rfl) (by kernel_rfl) (by kernel_rfl) (by kernel_rfl) hQ (Or.inl ⟨by rfl, ?y0_174⟩) ?r0_174
  case y0_174 =>
    intro w' hSw
    have k00 := (bx.ext hSw).c8
    have k10 := (by_.ext hSw).c8
    have k20 := (bz.ext hSw).c4
    have k30 := (b7.ext hSw).c8
    go_simp
    try with_reducible rfl
  try simp only [Act.put]
  try simp only [List.setIfInBounds_toArray]
  try simp only [List.set_cons_succ]
  try simp only [List.set_cons_zero]
  refine Late.take (i := 6) (d := some 65) (v := ?v6_175) rfl rfl (by kernel_rfl) (by kernel_rfl) (by kernel_rfl) (by kernel_rfl) hQ (Or.inl ⟨by rfl, ?y6_175⟩) ?r6_175
  case y6_175 =>
    intro w' hSw
    have k00 := (bx.ext hSw).c8
    have k10 := (by_.ext hSw).c8
    have k20 := (bz.ext hSw).c4
    have k30 := (b7.ext hSw).c8
    go_simp
    try with_reducible rfl
  try simp only [Act.put]
  try simp only [List.setIfInBounds_toArray]
  try simp only [List.set_cons_succ]
  try simp only [List.set_cons_zero]
  refine Late.take (i := 7) (d := some 66) (v := ?v7_176) rfl rfl (by kernel_rfl) (by kernel_rfl) (by kernel_rfl) (by kernel_rfl) hQ (Or.inl ⟨by rfl, ?y7_176⟩) ?r7_176
  case y7_176 =>
    intro w' hSw
    have k00 := (bx.ext hSw).c8
    have k10 := (by_.ext hSw).c8
    have k20 := (bz.ext hSw).c4
    have k30 := (b7.ext hSw).c8
    go_simp
    try with_reducible rfl
  try simp only [Act.put]
  try simp only [List.setIfInBounds_toArray]
  try simp only [List.set_cons_succ]
  try simp only [List.set_cons_zero]
  refine Late.take (i := 1) (d := some 60) (v := ?v1_177) rfl rfl (by kernel_rfl) (by kernel_rfl) (by kernel_rfl) (by kernel_rfl) hQ (Or.inl ⟨by rfl, ?y1_177⟩) ?r1_177
  case y1_177 =>
    intro w' hSw
    have k00 := (bx.ext hSw).c8
    have k10 := (by_.ext hSw).c8
    have k20 := (bz.ext hSw).c4
    have k30 := (b7.ext hSw).c8
    go_simp
    try with_reducible rfl
  try simp only [Act.put]
  try simp only [List.setIfInBounds_toArray]
  try simp only [List.set_cons_succ]
  try simp only [List.set_cons_zero]
  refine Late.take (i := 2) (d := some 61) (v := undef) rfl rfl (by kernel_rfl) (by kernel_rfl) (by kernel_rfl) (by kernel_rfl) hQ (Or.inr ⟨by kernel_rfl, rfl⟩) ?_
  try simp only [Act.put]
  try simp only [List.setIfInBounds_toArray]
  try simp only [List.set_cons_succ]
  try simp only [List.set_cons_zero]
  refine Late.take (i := 3) (d := some 62) (v := undef) rfl rfl (by kernel_rfl) (by kernel_rfl) (by kernel_rfl) (by kernel_rfl) hQ (Or.inr ⟨by kernel_rfl, rfl⟩) ?_
  try simp only [Act.put]
  try simp only [List.setIfInBounds_toArray]
  try simp only [List.set_cons_succ]
  try simp only [List.set_cons_zero]
  refine Late.take (i := 4) (d := some 63) (v := undef) rfl rfl (by kernel_rfl) (by kernel_rfl) (by kernel_rfl) (by kernel_rfl) hQ (Or.inr ⟨by kernel_rfl, rfl⟩) ?_
  try simp only [Act.put]
  try simp only [List.setIfInBounds_toArray]
  try simp only [List.set_cons_succ]
  try simp only [List.set_cons_zero]
  refine Late.take (i := 5) (d := some 64) (v := ?v5_178) rfl rfl (by kernel_rfl) (by kernel_rfl) (by kernel_rfl) (by kernel_rfl) hQ (Or.inl ⟨by rfl, ?y5_178⟩) ?r5_178
  case y5_178 =>
    intro w' hSw
    have k00 := (bx.ext hSw).c8
    have k10 := (by_.ext hSw).c8
    have k20 := (bz.ext hSw).c4
    have k30 := (b7.ext hSw).c8
    go_simp
    try with_reducible rfl
  try simp only [Act.put]
  try simp only [List.setIfInBounds_toArray]
  try simp only [List.set_cons_succ]
  try simp only [List.set_cons_zero]
  refine Late.call (i := 8) rfl (by kernel_rfl) hAl (by kernel_rfl) (by kernel_rfl) (by kernel_rfl) hQ (fun w8 e8 E8 K hK => ?_)
  go_simp
  (go_at_call 38; refine (p_Contains (h0.ext (extW.trans E8)) (hx.ext (extW.trans E8)) (by omega) (by omega)).mono ?_; rintro e wk8 ⟨rfl, hx8⟩; rw [HA1.out])
  refine hK.out _ _ hx8 ?_
  clear hK K
  try simp only [Act.put]
  try simp only [List.setIfInBounds_toArray]
  try simp only [List.set_cons_succ]
  try simp only [List.set_cons_zero]
  refine Late.take (i := 9) (d := some 68) (v := ?v9_179) rfl rfl (by kernel_rfl) (by kernel_rfl) (by kernel_rfl) (by kernel_rfl) hQ (Or.inl ⟨by rfl, ?y9_179⟩) ?r9_179
  case y9_179 =>
    intro w' hSw
    have k00 := (bx.ext hSw).c8
    have k10 := (by_.ext hSw).c8
    have k20 := (bz.ext hSw).c4
    have k30 := (b7.ext hSw).c8
    go_simp
    try with_reducible rfl
  try simp only [Act.put]
  try simp only [List.setIfInBounds_toArray]
  try simp only [List.set_cons_succ]
  try simp only [List.set_cons_zero]
  refine Late.take (i := 10) (d := some 69) (v := undef) rfl rfl (by kernel_rfl) (by kernel_rfl) (by kernel_rfl) (by kernel_rfl) hQ (Or.inr ⟨by kernel_rfl, rfl⟩) ?_
  try simp only [Act.put]
  try simp only [List.setIfInBounds_toArray]
  try simp only [List.set_cons_succ]
  try simp only [List.set_cons_zero]
  refine Late.take (i := 11) (d := some 70) (v := undef) rfl rfl (by kernel_rfl) (by kernel_rfl) (by kernel_rfl) (by kernel_rfl) hQ (Or.inr ⟨by kernel_rfl, rfl⟩) ?_
  try simp only [Act.put]
  try simp only [List.setIfInBounds_toArray]
  try simp only [List.set_cons_succ]
  try simp only [List.set_cons_zero]
  refine Late.take (i := 12) (d := some 71) (v := undef) rfl rfl (by kernel_rfl) (by kernel_rfl) (by kernel_rfl) (by kernel_rfl) hQ (Or.inr ⟨by kernel_rfl, rfl⟩) ?_
  try simp only [Act.put]
  try simp only [List.setIfInBounds_toArray]
  try simp only [List.set_cons_succ]
  try simp only [List.set_cons_zero]
  refine Late.take (i := 13) (d := some 72) (v := ?v13_180) rfl rfl (by kernel_rfl) (by kernel_rfl) (by kernel_rfl) (by kernel_rfl) hQ (Or.inl ⟨by rfl, ?y13_180⟩) ?r13_180
  case y13_180 =>
    intro w' hSw
    have k00 := (bx.ext hSw).c8
    have k10 := (by_.ext hSw).c8
    have k20 := (bz.ext hSw).c4
    have k30 := (b7.ext hSw).c8
    go_simp
    try with_reducible rfl
  try simp only [Act.put]
  try simp only [List.setIfInBounds_toArray]
  try simp only [List.set_cons_succ]
  try simp only [List.set_cons_zero]
  refine Late.take (i := 14) (d := some 73) (v := ?v14_181) rfl rfl (by kernel_rfl) (by kernel_rfl) (by kernel_rfl) (by kernel_rfl) hQ (Or.inl ⟨by rfl, ?y14_181⟩) ?r14_181
  case y14_181 =>
    intro w' hSw
    have k00 := (bx.ext hSw).c8
    have k10 := (by_.ext hSw).c8
    have k20 := (bz.ext hSw).c4
    have k30 := (b7.ext hSw).c8
    go_simp
    try with_reducible rfl
  try simp only [Act.put]
  try simp only [List.setIfInBounds_toArray]
  try simp only [List.set_cons_succ]
  try simp only [List.set_cons_zero]
  refine Late.take (i := 15) (d := some 6) (v := ?v15_182) rfl rfl (by kernel_rfl) (by kernel_rfl) (by kernel_rfl) (by kernel_rfl) hQ (Or.inl ⟨by rfl, ?y15_182⟩) ?r15_182
  case y15_182 =>
    intro w' hSw
    have k00 := (bx.ext hSw).c8
    have k10 := (by_.ext hSw).c8
    have k20 := (bz.ext hSw).c4
    have k30 := (b7.ext hSw).c8
    go_simp
    try with_reducible rfl
  try simp only [Act.put]
  try simp only [List.setIfInBounds_toArray]
  try simp only [List.set_cons_succ]
  try simp only [List.set_cons_zero]
  refine Late.done0 (by kernel_rfl) (fun wz ez Ez => ?_)
  clear hAl hQ ES
  go_wp2_with fail
  go_ret
  exact ⟨rfl, extW.trans Ez⟩
set_option maxHeartbeats 4000000 in
theorem meet3_no0 {w : World} {sa1 ta1 sa2 ta2 : Bool} {Aa1 Ba1 Aa2 Ba2 : Option Addr} {na1 ca1 ma1 da1 na2 ca2 ma2 da2 : Nat} {xa1 ya1 xa2 ya2 : List Nat} {sb1 tb1 sb2 tb2 : Bool} {Ab1 Bb1 Ab2 Bb2 : Option Addr} {nb1 cb1 mb1 db1 nb2 cb2 mb2 db2 : Nat} {xb1 yb1 xb2 yb2 : List Nat} {s t : Bool} {A B : Option Addr} {n c m d : Nat} {xs ys : List Nat} (hA : Awake3) (hT : Tab w) (hr0 : RawV w Aa1 na1 ca1 xa1 Ba1 ma1 da1 ya1 Aa2 na2 ca2 xa2 Ba2 ma2 da2 ya2) (hr1 : RawV w Ab1 nb1 cb1 xb1 Bb1 mb1 db1 yb1 Ab2 nb2 cb2 xb2 Bb2 mb2 db2 yb2) (_hr2 : RI w A n c xs) (_hk2 : RI w B m d ys) (hf0 : (fewV na1 ma1 na2 ma2 sa1 xa1 ta1 ya1 sa2 xa2 ta2 ya2 && (fewV nb1 mb1 nb2 mb2 sb1 xb1 tb1 yb1 sb2 xb2 tb2 yb2)) = false) :
    Calls Tryz.prog 9 #[.agg #[.bool sa1, .slice Aa1 na1 ca1, .bool ta1, .slice Ba1 ma1 da1, .bool sa2, .slice Aa2 na2 ca2, .bool ta2, .slice Ba2 ma2 da2], .agg #[.bool sb1, .slice Ab1 nb1 cb1, .bool tb1, .slice Bb1 mb1 db1, .bool sb2, .slice Ab2 nb2 cb2, .bool tb2, .slice Bb2 mb2 db2], .agg #[.bool s, .slice A n c, .bool t, .slice B m d]] w fun e w' => e = .returned (.bool true) ∧ Ext w w' := by
  have HF0 := Lib.hid hf0
  clear hf0
  have HA := Lib.hid hA
  clear hA
  go_enter Tryz.func9, Tryz.ntmps9
  go_upto_region 1 with (fail)
  obtain ⟨W0, hW, extW, bx, by_, bz, hzz⟩ := box3 w 28 28 26 #[.bool sa1, .slice Aa1 na1 ca1, .bool ta1, .slice Ba1 ma1 da1, .bool sa2, .slice Aa2 na2 ca2, .bool ta2, .slice Ba2 ma2 da2] #[.bool sb1, .slice Ab1 nb1 cb1, .bool tb1, .slice Bb1 mb1 db1, .bool sb2, .slice Ab2 nb2 cb2, .bool tb2, .slice Bb2 mb2 db2] #[.bool s, .slice A n c, .bool t, .slice B m d]
  rw [← hW]
  clear hW hzz
  go_wp2_with fail
  refine (HA.out _ (hT.ext extW)).mono ?_
  rintro e W ⟨rfl, hxt⟩
  replace bx := bx.ext hxt
  replace by_ := by_.ext hxt
  replace bz := bz.ext hxt
  replace extW := extW.trans hxt
  clear hxt
  have k0 := bx.cell 0 (.bool sa1) rfl
  have k1 := bx.cell 1 (.slice Aa1 na1 ca1) rfl
  have k2 := bx.cell 2 (.bool ta1) rfl
  have k3 := bx.cell 3 (.slice Ba1 ma1 da1) rfl
  have k4 := bx.cell 4 (.bool sa2) rfl
  have k5 := bx.cell 5 (.slice Aa2 na2 ca2) rfl
  have k6 := bx.cell 6 (.bool ta2) rfl
  have k7 := bx.cell 7 (.slice Ba2 ma2 da2) rfl
  have x0 := by_.cell 0 (.bool sb1) rfl
  have x1 := by_.cell 1 (.slice Ab1 nb1 cb1) rfl
  have x2 := by_.cell 2 (.bool tb1) rfl
  have x3 := by_.cell 3 (.slice Bb1 mb1 db1) rfl
  have x4 := by_.cell 4 (.bool sb2) rfl
  have x5 := by_.cell 5 (.slice Ab2 nb2 cb2) rfl
  have x6 := by_.cell 6 (.bool tb2) rfl
  have x7 := by_.cell 7 (.slice Bb2 mb2 db2) rfl
  have z0 := bz.cell 0 (.bool s) rfl
  have z1 := bz.cell 1 (.slice A n c) rfl
  have z2 := bz.cell 2 (.bool t) rfl
  have z3 := bz.cell 3 (.slice B m d) rfl
  have hnb := Box.new W 28 #[.bool sa1, .slice Aa1 na1 ca1, .bool ta1, .slice Ba1 ma1 da1, .bool sa2, .slice Aa2 na2 ca2, .bool ta2, .slice Ba2 ma2 da2, .bool sb1, .slice Ab1 nb1 cb1, .bool tb1, .slice Bb1 mb1 db1, .bool sb2, .slice Ab2 nb2 cb2, .bool tb2, .slice Bb2 mb2 db2]
  have e1 := (Ext.refl W).alloc (.cells #[.bool sa1, .slice Aa1 na1 ca1, .bool ta1, .slice Ba1 ma1 da1, .bool sa2, .slice Aa2 na2 ca2, .bool ta2, .slice Ba2 ma2 da2, .bool sb1, .slice Ab1 nb1 cb1, .bool tb1, .slice Bb1 mb1 db1, .bool sb2, .slice Ab2 nb2 cb2, .bool tb2, .slice Bb2 mb2 db2] 28)
  go_wp2_with fail
  refine (fewI2 hnb (hr0.ext (extW.trans e1)) (hr1.ext (extW.trans e1))).mono ?_
  rintro e W1 ⟨rfl, hxt⟩
  rw [HF0.out]
  have ES := e1.trans hxt
  clear hnb e1 hxt
  clear k0 k1 k2 k3 k4 k5 k6 k7 x0 x1 x2 x3 x4 x5 x6 x7 z0 z1 z2 z3
  replace bx := bx.ext ES
  replace by_ := by_.ext ES
  replace bz := bz.ext ES
  replace extW := extW.trans ES
  clear ES
  go_wp2_with fail
  refine (HA.out _ (hT.ext extW)).mono ?_
  rintro e W9 ⟨rfl, hxt⟩
  go_wp2_with fail
  go_ret
  exact ⟨rfl, extW.trans hxt⟩
set_option maxHeartbeats 4000000 in
theorem meet3_no1 {w : World} {sa1 ta1 sa2 ta2 : Bool} {Aa1 Ba1 Aa2 Ba2 : Option Addr} {na1 ca1 ma1 da1 na2 ca2 ma2 da2 : Nat} {xa1 ya1 xa2 ya2 : List Nat} {sb1 tb1 sb2 tb2 : Bool} {Ab1 Bb1 Ab2 Bb2 : Option Addr} {nb1 cb1 mb1 db1 nb2 cb2 mb2 db2 : Nat} {xb1 yb1 xb2 yb2 : List Nat} {s t : Bool} {A B : Option Addr} {n c m d : Nat} {xs ys : List Nat} (hA : Awake3) (hT : Tab w) (hr0 : RawV w Aa1 na1 ca1 xa1 Ba1 ma1 da1 ya1 Aa2 na2 ca2 xa2 Ba2 ma2 da2 ya2) (hr1 : RawV w Ab1 nb1 cb1 xb1 Bb1 mb1 db1 yb1 Ab2 nb2 cb2 xb2 Bb2 mb2 db2 yb2) (hr2 : RI w A n c xs) (hk2 : RI w B m d ys) (hf0 : (fewV na1 ma1 na2 ma2 sa1 xa1 ta1 ya1 sa2 xa2 ta2 ya2 && (fewV nb1 mb1 nb2 mb2 sb1 xb1 tb1 yb1 sb2 xb2 tb2 yb2)) = true) (hf1 : (few10 n m s xs t ys) = false) :
    Calls Tryz.prog 9 #[.agg #[.bool sa1, .slice Aa1 na1 ca1, .bool ta1, .slice Ba1 ma1 da1, .bool sa2, .slice Aa2 na2 ca2, .bool ta2, .slice Ba2 ma2 da2], .agg #[.bool sb1, .slice Ab1 nb1 cb1, .bool tb1, .slice Bb1 mb1 db1, .bool sb2, .slice Ab2 nb2 cb2, .bool tb2, .slice Bb2 mb2 db2], .agg #[.bool s, .slice A n c, .bool t, .slice B m d]] w fun e w' => e = .returned (.bool true) ∧ Ext w w' := by
  have HF0 := Lib.hid hf0
  clear hf0
  have HF1 := Lib.hid hf1
  clear hf1
  have HA := Lib.hid hA
  clear hA
  go_enter Tryz.func9, Tryz.ntmps9
  go_upto_region 1 with (fail)
  obtain ⟨W0, hW, extW, bx, by_, bz, hzz⟩ := box3 w 28 28 26 #[.bool sa1, .slice Aa1 na1 ca1, .bool ta1, .slice Ba1 ma1 da1, .bool sa2, .slice Aa2 na2 ca2, .bool ta2, .slice Ba2 ma2 da2] #[.bool sb1, .slice Ab1 nb1 cb1, .bool tb1, .slice Bb1 mb1 db1, .bool sb2, .slice Ab2 nb2 cb2, .bool tb2, .slice Bb2 mb2 db2] #[.bool s, .slice A n c, .bool t, .slice B m d]
  rw [← hW]
  clear hW hzz
  go_wp2_with fail
  refine (HA.out _ (hT.ext extW)).mono ?_
  rintro e W ⟨rfl, hxt⟩
  replace bx := bx.ext hxt
  replace by_ := by_.ext hxt
  replace bz := bz.ext hxt
  replace extW := extW.trans hxt
  clear hxt
  have k0 := bx.cell 0 (.bool sa1) rfl
  have k1 := bx.cell 1 (.slice Aa1 na1 ca1) rfl
  have k2 := bx.cell 2 (.bool ta1) rfl
  have k3 := bx.cell 3 (.slice Ba1 ma1 da1) rfl
  have k4 := bx.cell 4 (.bool sa2) rfl
  have k5 := bx.cell 5 (.slice Aa2 na2 ca2) rfl
  have k6 := bx.cell 6 (.bool ta2) rfl
  have k7 := bx.cell 7 (.slice Ba2 ma2 da2) rfl
  have x0 := by_.cell 0 (.bool sb1) rfl
  have x1 := by_.cell 1 (.slice Ab1 nb1 cb1) rfl
  have x2 := by_.cell 2 (.bool tb1) rfl
  have x3 := by_.cell 3 (.slice Bb1 mb1 db1) rfl
  have x4 := by_.cell 4 (.bool sb2) rfl
  have x5 := by_.cell 5 (.slice Ab2 nb2 cb2) rfl
  have x6 := by_.cell 6 (.bool tb2) rfl
  have x7 := by_.cell 7 (.slice Bb2 mb2 db2) rfl
  have z0 := bz.cell 0 (.bool s) rfl
  have z1 := bz.cell 1 (.slice A n c) rfl
  have z2 := bz.cell 2 (.bool t) rfl
  have z3 := bz.cell 3 (.slice B m d) rfl
  have hnb := Box.new W 28 #[.bool sa1, .slice Aa1 na1 ca1, .bool ta1, .slice Ba1 ma1 da1, .bool sa2, .slice Aa2 na2 ca2, .bool ta2, .slice Ba2 ma2 da2, .bool sb1, .slice Ab1 nb1 cb1, .bool tb1, .slice Bb1 mb1 db1, .bool sb2, .slice Ab2 nb2 cb2, .bool tb2, .slice Bb2 mb2 db2]
  have e1 := (Ext.refl W).alloc (.cells #[.bool sa1, .slice Aa1 na1 ca1, .bool ta1, .slice Ba1 ma1 da1, .bool sa2, .slice Aa2 na2 ca2, .bool ta2, .slice Ba2 ma2 da2, .bool sb1, .slice Ab1 nb1 cb1, .bool tb1, .slice Bb1 mb1 db1, .bool sb2, .slice Ab2 nb2 cb2, .bool tb2, .slice Bb2 mb2 db2] 28)
  go_wp2_with fail
  refine (fewI2 hnb (hr0.ext (extW.trans e1)) (hr1.ext (extW.trans e1))).mono ?_
  rintro e W1 ⟨rfl, hxt⟩
  rw [HF0.out]
  have ES := e1.trans hxt
  clear hnb e1 hxt
  clear k0 k1 k2 k3 k4 k5 k6 k7 x0 x1 x2 x3 x4 x5 x6 x7 z0 z1 z2 z3
  replace bx := bx.ext ES
  replace by_ := by_.ext ES
  replace bz := bz.ext ES
  replace extW := extW.trans ES
  clear ES
  have k0 := bx.cell 0 (.bool sa1) rfl
  have k1 := bx.cell 1 (.slice Aa1 na1 ca1) rfl
  have k2 := bx.cell 2 (.bool ta1) rfl
  have k3 := bx.cell 3 (.slice Ba1 ma1 da1) rfl
  have k4 := bx.cell 4 (.bool sa2) rfl
  have k5 := bx.cell 5 (.slice Aa2 na2 ca2) rfl
  have k6 := bx.cell 6 (.bool ta2) rfl
  have k7 := bx.cell 7 (.slice Ba2 ma2 da2) rfl
  have x0 := by_.cell 0 (.bool sb1) rfl
  have x1 := by_.cell 1 (.slice Ab1 nb1 cb1) rfl
  have x2 := by_.cell 2 (.bool tb1) rfl
  have x3 := by_.cell 3 (.slice Bb1 mb1 db1) rfl
  have x4 := by_.cell 4 (.bool sb2) rfl
  have x5 := by_.cell 5 (.slice Ab2 nb2 cb2) rfl
  have x6 := by_.cell 6 (.bool tb2) rfl
  have x7 := by_.cell 7 (.slice Bb2 mb2 db2) rfl
  have z0 := bz.cell 0 (.bool s) rfl
  have z1 := bz.cell 1 (.slice A n c) rfl
  have z2 := bz.cell 2 (.bool t) rfl
  have z3 := bz.cell 3 (.slice B m d) rfl
  go_wp2_with fail
  refine (q_Few10 (hr2.ext extW) (hk2.ext extW)).mono ?_
  rintro e W2 ⟨rfl, ES⟩
  rw [HF1.out]
  clear k0 k1 k2 k3 k4 k5 k6 k7 x0 x1 x2 x3 x4 x5 x6 x7 z0 z1 z2 z3
  replace bx := bx.ext ES
  replace by_ := by_.ext ES
  replace bz := bz.ext ES
  replace extW := extW.trans ES
  clear ES
  go_wp2_with fail
  refine (HA.out _ (hT.ext extW)).mono ?_
  rintro e W9 ⟨rfl, hxt⟩
  go_wp2_with fail
  go_ret
  exact ⟨rfl, extW.trans hxt⟩
theorem meet3_yes {w : World} {sa1 ta1 sa2 ta2 : Bool} {Aa1 Ba1 Aa2 Ba2 : Option Addr} {na1 ca1 ma1 da1 na2 ca2 ma2 da2 : Nat} {xa1 ya1 xa2 ya2 : List Nat} {sb1 tb1 sb2 tb2 : Bool} {Ab1 Bb1 Ab2 Bb2 : Option Addr} {nb1 cb1 mb1 db1 nb2 cb2 mb2 db2 : Nat} {xb1 yb1 xb2 yb2 : List Nat} {s t : Bool} {A B : Option Addr} {n c m d : Nat} {xs ys : List Nat} (hA : Awake3) (hT : Tab w) (hr0 : RawV w Aa1 na1 ca1 xa1 Ba1 ma1 da1 ya1 Aa2 na2 ca2 xa2 Ba2 ma2 da2 ya2) (hr1 : RawV w Ab1 nb1 cb1 xb1 Bb1 mb1 db1 yb1 Ab2 nb2 cb2 xb2 Bb2 mb2 db2 yb2) (hr2 : RI w A n c xs) (hk2 : RI w B m d ys) (hf0 : (fewV na1 ma1 na2 ma2 sa1 xa1 ta1 ya1 sa2 xa2 ta2 ya2 && (fewV nb1 mb1 nb2 mb2 sb1 xb1 tb1 yb1 sb2 xb2 tb2 yb2)) = true) (hf1 : (few10 n m s xs t ys) = true) :
    Calls Tryz.prog 9 #[.agg #[.bool sa1, .slice Aa1 na1 ca1, .bool ta1, .slice Ba1 ma1 da1, .bool sa2, .slice Aa2 na2 ca2, .bool ta2, .slice Ba2 ma2 da2], .agg #[.bool sb1, .slice Ab1 nb1 cb1, .bool tb1, .slice Bb1 mb1 db1, .bool sb2, .slice Ab2 nb2 cb2, .bool tb2, .slice Bb2 mb2 db2], .agg #[.bool s, .slice A n c, .bool t, .slice B m d]] w fun e w' => e = .returned (.bool true) ∧ Ext w w' := by
  have hf' := hf0
  simp only [Bool.and_eq_true] at hf'
  obtain ⟨g0, g1⟩ := hf'
  obtain ⟨h0, _⟩ := few_iv hr0.1 hr0.2.1 hr0.2.2.1 hr0.2.2.2 g0
  generalize rawQ sa1 xa1 ta1 ya1 = lo0 at h0
  generalize rawQ sa2 xa2 ta2 ya2 = hi0 at h0
  obtain ⟨h1, _⟩ := few_iv hr1.1 hr1.2.1 hr1.2.2.1 hr1.2.2.2 g1
  generalize rawQ sb1 xb1 tb1 yb1 = lo1 at h1
  generalize rawQ sb2 xb2 tb2 yb2 = hi1 at h1
  clear g0 g1
  obtain ⟨v1, v2, v3⟩ := few10_le hf1
  have hx := NR.of_raw' (L := 10) hr2 hk2 v3 v1 v2
  generalize rawQ s xs t ys = x at hx
  clear v1 v2 v3
  have HF0 := Lib.hid hf0
  clear hf0
  have HF1 := Lib.hid hf1
  clear hf1
  by_cases hc : mxR lo0 lo1 ≤ mnR hi0 hi1
  · cases hbA : inB lo0 hi0 x <;> cases hbB : inB lo1 hi1 x
    · exact meet3_y_false_false hA hT hr0 hr1 hr2 hk2 h0 h1 hx hc hbA hbB HF0.out HF1.out
    · exact meet3_y_false_true hA hT hr0 hr1 hr2 hk2 h0 h1 hx hc hbA hbB HF0.out HF1.out
    · exact meet3_y_true_false hA hT hr0 hr1 hr2 hk2 h0 h1 hx hc hbA hbB HF0.out HF1.out
    · exact meet3_y_true_true hA hT hr0 hr1 hr2 hk2 h0 h1 hx hc hbA hbB HF0.out HF1.out
  · have hn := meet_none (x := x) hc
    cases hbA : inB lo0 hi0 x <;> cases hbB : inB lo1 hi1 x
    · exact meet3_n_false_false hA hT hr0 hr1 hr2 hk2 h0 h1 hx hc hbA hbB HF0.out HF1.out
    · exact meet3_n_false_true hA hT hr0 hr1 hr2 hk2 h0 h1 hx hc hbA hbB HF0.out HF1.out
    · exact meet3_n_true_false hA hT hr0 hr1 hr2 hk2 h0 h1 hx hc hbA hbB HF0.out HF1.out
    · rw [hbA, hbB] at hn
      cases hn
theorem meet3_any {w : World} {sa1 ta1 sa2 ta2 : Bool} {Aa1 Ba1 Aa2 Ba2 : Option Addr} {na1 ca1 ma1 da1 na2 ca2 ma2 da2 : Nat} {xa1 ya1 xa2 ya2 : List Nat} {sb1 tb1 sb2 tb2 : Bool} {Ab1 Bb1 Ab2 Bb2 : Option Addr} {nb1 cb1 mb1 db1 nb2 cb2 mb2 db2 : Nat} {xb1 yb1 xb2 yb2 : List Nat} {s t : Bool} {A B : Option Addr} {n c m d : Nat} {xs ys : List Nat} (hA : Awake3) (hT : Tab w) (hr0 : RawV w Aa1 na1 ca1 xa1 Ba1 ma1 da1 ya1 Aa2 na2 ca2 xa2 Ba2 ma2 da2 ya2) (hr1 : RawV w Ab1 nb1 cb1 xb1 Bb1 mb1 db1 yb1 Ab2 nb2 cb2 xb2 Bb2 mb2 db2 yb2) (hr2 : RI w A n c xs) (hk2 : RI w B m d ys) :
    Calls Tryz.prog 9 #[.agg #[.bool sa1, .slice Aa1 na1 ca1, .bool ta1, .slice Ba1 ma1 da1, .bool sa2, .slice Aa2 na2 ca2, .bool ta2, .slice Ba2 ma2 da2], .agg #[.bool sb1, .slice Ab1 nb1 cb1, .bool tb1, .slice Bb1 mb1 db1, .bool sb2, .slice Ab2 nb2 cb2, .bool tb2, .slice Bb2 mb2 db2], .agg #[.bool s, .slice A n c, .bool t, .slice B m d]] w fun e w' => e = .returned (.bool true) ∧ Ext w w' := by
  cases hf0 : (fewV na1 ma1 na2 ma2 sa1 xa1 ta1 ya1 sa2 xa2 ta2 ya2 && (fewV nb1 mb1 nb2 mb2 sb1 xb1 tb1 yb1 sb2 xb2 tb2 yb2)) with
  | false => exact meet3_no0 hA hT hr0 hr1 hr2 hk2 hf0
  | true =>
    cases hf1 : (few10 n m s xs t ys) with
    | false => exact meet3_no1 hA hT hr0 hr1 hr2 hk2 hf0 hf1
    | true =>
      exact meet3_yes hA hT hr0 hr1 hr2 hk2 hf0 hf1
end Go.Proofs.YtoabhnofppledaaGreatDoor
