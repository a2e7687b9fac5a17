/- Walks and laws, a part. -/
import Derived.Test.YtiioodgpkdbndaaGreatDoorM0
import Derived.Test.YtiioodgpkdbndaaGreatDoorM1
import Derived.Test.YtiioodgpkdbndaaGreatDoorM2
import Derived.Test.YtiioodgpkdbndaaGreatDoorM3
import Derived.Test.YtiioodgpkdbndaaGreatDoorM4
import Derived.Test.YtiioodgpkdbndaaGreatDoorM5
import Derived.Test.YtiioodgpkdbndaaGreatDoorM6
import Derived.Test.YtiioodgpkdbndaaGreatDoorM7
import Derived.Test.YtiioodgpkdbndaaGreatDoorM8
import Derived.Test.YtiioodgpkdbndaaGreatDoorM9
import Derived.Test.YtiioodgpkdbndaaGreatDoorMb0
import Derived.Test.YtiioodgpkdbndaaGreatDoorMb1
namespace Go.Proofs.YtiioodgpkdbndaaGreatDoor
open Go.RowKit
attribute [local go_sem ↓] Go.wp_at_zero Go.wp_at_succ
section
variable {w w' : World} {q p r : Rat} {L : Nat} {s t s' t' u u' : Bool} {A B A' B' C D : Option Addr} {n c m d n' c' m' d' l e0 l' e' : Nat} {xs ys xs' ys' zs zs' : List Nat}
set_option maxHeartbeats 16000000 in
set_option maxRecDepth 100000 in
theorem order_zm (hA : Awake2) (hT : Tab w) (hP : TabP w) (h : NR w q 20 s A n c t B m d) (k : NR w p 20 s' A' n' c' t' B' m' d') (j : NR w r 20 u C l e0 u' D l' e') (hS : ratCmp q p = 0) (hC : r.num.sign = -1) :
    Calls Tryz.prog 6 #[.agg #[.bool s, .slice A n c, .bool t, .slice B m d], .agg #[.bool s', .slice A' n' c', .bool t', .slice B' m' d'], .agg #[.bool u, .slice C l e0, .bool u', .slice D l' e']] w fun e w' => e = .returned (.bool true) ∧ Ext w w' := by
  have HS := Lib.hid hS
  have HT := Lib.hid hC
  have HN := Lib.hid (show ratCmp p q = 0 by rw [ratCmp_swap, hS]; try rfl)
  have HD := Lib.hid (show (q - p).num.sign = 0 by rw [ratCmp_sub, hS])
  have HA1 := Lib.hid (show ratCmp (q + r) (p + r) = 0 by rw [ratCmp_add, hS])
  have HM1 := Lib.hid (show ratCmp (q * r) (p * r) = 0 by rw [ratCmp_mul, hS, hC]; rfl)
  have hw0 : IntKind.i64.wrap 0 = 0 := by decide
  have hw1 : IntKind.i64.wrap 1 = 1 := by decide
  have hw2 : IntKind.i64.wrap (-1) = -1 := by decide
  clear hS hC
  obtain ⟨xs, ys, ra0, rb0, hv0, hn0, hm0, _⟩ := h.raw
  obtain ⟨xs', ys', ra1, rb1, hv1, hn1, hm1, _⟩ := k.raw
  obtain ⟨zs, zs', ra2, rb2, hv2, hn2, hm2, _⟩ := j.raw
  have HF := Lib.hid (show (fewB n m s xs t ys && (fewB n' m' s' xs' t' ys' && (fewB l l' u zs u' zs'))) = true by unfold fewB; rw [decide_eq_true hn0, decide_eq_true hm0, hv0, decide_eq_true hn1, decide_eq_true hm1, hv1, decide_eq_true hn2, decide_eq_true hm2, hv2]; rfl)
  have hr0 := And.intro ra0 rb0
  have hr1 := And.intro ra1 rb1
  have hr2 := And.intro ra2 rb2
  clear ra0 rb0 hv0 hn0 hm0 ra1 rb1 hv1 hn1 hm1 ra2 rb2 hv2 hn2 hm2
  have HA := Lib.hid hA
  clear hA
  go_enter Tryz.func6, Tryz.ntmps6
  go_upto_region 1 with (fail)
  obtain ⟨W0, hW, extW, bx, by_, bz, hzz⟩ := box3 w 27 27 27 #[.bool s, .slice A n c, .bool t, .slice B m d] #[.bool s', .slice A' n' c', .bool t', .slice B' m' d'] #[.bool u, .slice C l e0, .bool u', .slice D l' e']
  rw [← hW]
  clear hW hzz
  go_wp2_with fail
  refine (HA.out _ (hT.ext extW) (hP.ext extW)).mono ?_
  rintro e W ⟨rfl, hxt⟩
  replace extW := extW.trans hxt
  replace bx := bx.ext hxt
  replace by_ := by_.ext hxt
  replace bz := bz.ext hxt
  clear hxt
  have bx0 := bx.cell 0 (.bool s) rfl
  have bx1 := bx.cell 1 (.slice A n c) rfl
  have bx2 := bx.cell 2 (.bool t) rfl
  have bx3 := bx.cell 3 (.slice B m d) rfl
  have by_0 := by_.cell 0 (.bool s') rfl
  have by_1 := by_.cell 1 (.slice A' n' c') rfl
  have by_2 := by_.cell 2 (.bool t') rfl
  have by_3 := by_.cell 3 (.slice B' m' d') rfl
  have bz0 := bz.cell 0 (.bool u) rfl
  have bz1 := bz.cell 1 (.slice C l e0) rfl
  have bz2 := bz.cell 2 (.bool u') rfl
  have bz3 := bz.cell 3 (.slice D l' e') rfl
  have hnb := Box.new W 27 #[.bool s, .slice A n c, .bool t, .slice B m d, .bool s', .slice A' n' c', .bool t', .slice B' m' d', .bool u, .slice C l e0, .bool u', .slice D l' e']
  have e1 := (Ext.refl W).alloc (.cells #[.bool s, .slice A n c, .bool t, .slice B m d, .bool s', .slice A' n' c', .bool t', .slice B' m' d', .bool u, .slice C l e0, .bool u', .slice D l' e'] 27)
  go_wp2_with fail
  refine (few3 hnb (hr0.1.ext (extW.trans e1)) (hr0.2.ext (extW.trans e1)) (hr1.1.ext (extW.trans e1)) (hr1.2.ext (extW.trans e1)) (hr2.1.ext (extW.trans e1)) (hr2.2.ext (extW.trans e1))).mono ?_
  rintro e W1 ⟨rfl, hxt⟩
  rw [HF.out]
  have ES := e1.trans hxt
  clear hnb e1 hxt
  clear bx0 bx1 bx2 bx3 by_0 by_1 by_2 by_3 bz0 bz1 bz2 bz3
  clear hr0 hr1 hr2 HF
  replace bx := bx.ext ES
  replace by_ := by_.ext ES
  replace bz := bz.ext ES
  replace extW := extW.trans ES
  replace h := h.ext extW
  replace k := k.ext extW
  replace j := j.ext extW
  clear ES
  have bx0 := bx.cell 0 (.bool s) rfl
  have bx1 := bx.cell 1 (.slice A n c) rfl
  have bx2 := bx.cell 2 (.bool t) rfl
  have bx3 := bx.cell 3 (.slice B m d) rfl
  have by_0 := by_.cell 0 (.bool s') rfl
  have by_1 := by_.cell 1 (.slice A' n' c') rfl
  have by_2 := by_.cell 2 (.bool t') rfl
  have by_3 := by_.cell 3 (.slice B' m' d') rfl
  go_wp2_with fail
  refine (p_CmpR h k (by omega) (by omega) (by omega)).mono ?_
  rintro e V ⟨rfl, hxd⟩
  rw [HS.out]
  replace bx := bx.ext hxd
  replace by_ := by_.ext hxd
  replace bz := bz.ext hxd
  replace h := h.ext hxd
  replace k := k.ext hxd
  replace j := j.ext hxd
  replace extW := extW.trans hxd
  clear hxd
  clear bx0 bx1 bx2 bx3 by_0 by_1 by_2 by_3
  go_wp2_with fail
  have ES0 := Ext.refl V
  refine wp_region_held_drew (S := Ext V) (by kernel_rfl) ES0.drew (fun ES => ?_)
  clear ES0
  refine Late.start0 (fun _ _ _ _ _ => ⟨fun h => h, fun h => h⟩) ES (fun hAl hQ => ?_)
  refine Late.take (i := 0) (d := some 22) (v := ?v0_146) rfl rfl (by kernel_rfl) (by kernel_rfl) (by kernel_rfl) (by kernel_rfl) hQ (Or.inl ⟨by rfl, ?y0_146⟩) ?r0_146
  case y0_146 =>
    intro w' hSw
    have k00 := (bx.ext hSw).c4
    have k10 := (by_.ext hSw).c4
    have k20 := (bz.ext hSw).c4
    go_simp
    try with_reducible rfl
  try simp only [Act.put]
  try simp only [List.setIfInBounds_toArray]
  try simp only [List.set_cons_succ]
  try simp only [List.set_cons_zero]
  refine Late.take (i := 2) (d := some 24) (v := ?v2_147) rfl rfl (by kernel_rfl) (by kernel_rfl) (by kernel_rfl) (by kernel_rfl) hQ (Or.inl ⟨by rfl, ?y2_147⟩) ?r2_147
  case y2_147 =>
    intro w' hSw
    have k00 := (bx.ext hSw).c4
    have k10 := (by_.ext hSw).c4
    have k20 := (bz.ext hSw).c4
    go_simp
    try with_reducible rfl
  try simp only [Act.put]
  try simp only [List.setIfInBounds_toArray]
  try simp only [List.set_cons_succ]
  try simp only [List.set_cons_zero]
  refine Late.call (i := 1) rfl (by kernel_rfl) hAl (by kernel_rfl) (by kernel_rfl) (by kernel_rfl) hQ (fun w1 e1 E1 K hK => ?_)
  go_simp
  (go_at_call 37; refine (p_SignR (h.ext E1) (by omega)).mono ?_; rintro e wk1 ⟨rfl, hx1⟩)
  refine hK.out _ _ hx1 ?_
  clear hK K
  try simp only [Act.put]
  try simp only [List.setIfInBounds_toArray]
  try simp only [List.set_cons_succ]
  try simp only [List.set_cons_zero]
  refine Late.call (i := 3) rfl (by kernel_rfl) hAl (by kernel_rfl) (by kernel_rfl) (by kernel_rfl) hQ (fun w3 e3 E3 K hK => ?_)
  go_simp
  (go_at_call 38; refine (q_SignR (h.ext E3) (by omega)).mono ?_; rintro e wk3 ⟨rfl, hx3⟩)
  refine hK.out _ _ hx3 ?_
  clear hK K
  try simp only [Act.put]
  try simp only [List.setIfInBounds_toArray]
  try simp only [List.set_cons_succ]
  try simp only [List.set_cons_zero]
  refine Late.take (i := 4) (d := some 26) (v := ?v4_148) rfl rfl (by kernel_rfl) (by kernel_rfl) (by kernel_rfl) (by kernel_rfl) hQ (Or.inl ⟨by rfl, ?y4_148⟩) ?r4_148
  case y4_148 =>
    intro w' hSw
    have k00 := (bx.ext hSw).c4
    have k10 := (by_.ext hSw).c4
    have k20 := (bz.ext hSw).c4
    go_simp
    try with_reducible rfl
  try simp only [Act.put]
  try simp only [List.setIfInBounds_toArray]
  try simp only [List.set_cons_succ]
  try simp only [List.set_cons_zero]
  refine Late.take (i := 5) (d := some 27) (v := ?v5_149) rfl rfl (by kernel_rfl) (by kernel_rfl) (by kernel_rfl) (by kernel_rfl) hQ (Or.inl ⟨by rfl, ?y5_149⟩) ?r5_149
  case y5_149 =>
    intro w' hSw
    have k00 := (bx.ext hSw).c4
    have k10 := (by_.ext hSw).c4
    have k20 := (bz.ext hSw).c4
    go_simp
    try with_reducible rfl
  try simp only [Act.put]
  try simp only [List.setIfInBounds_toArray]
  try simp only [List.set_cons_succ]
  try simp only [List.set_cons_zero]
  refine Late.take (i := 6) (d := some 28) (v := ?v6_150) rfl rfl (by kernel_rfl) (by kernel_rfl) (by kernel_rfl) (by kernel_rfl) hQ (Or.inl ⟨by rfl, ?y6_150⟩) ?r6_150
  case y6_150 =>
    intro w' hSw
    have k00 := (bx.ext hSw).c4
    have k10 := (by_.ext hSw).c4
    have k20 := (bz.ext hSw).c4
    go_simp
    try with_reducible rfl
  try simp only [Act.put]
  try simp only [List.setIfInBounds_toArray]
  try simp only [List.set_cons_succ]
  try simp only [List.set_cons_zero]
  refine Late.take (i := 7) (d := some 29) (v := ?v7_151) rfl rfl (by kernel_rfl) (by kernel_rfl) (by kernel_rfl) (by kernel_rfl) hQ (Or.inl ⟨by rfl, ?y7_151⟩) ?r7_151
  case y7_151 =>
    intro w' hSw
    have k00 := (bx.ext hSw).c4
    have k10 := (by_.ext hSw).c4
    have k20 := (bz.ext hSw).c4
    go_simp
    try with_reducible rfl
  try simp only [Act.put]
  try simp only [List.setIfInBounds_toArray]
  try simp only [List.set_cons_succ]
  try simp only [List.set_cons_zero]
  refine Late.take (i := 8) (d := some 30) (v := ?v8_152) rfl rfl (by kernel_rfl) (by kernel_rfl) (by kernel_rfl) (by kernel_rfl) hQ (Or.inl ⟨by rfl, ?y8_152⟩) ?r8_152
  case y8_152 =>
    intro w' hSw
    have k00 := (bx.ext hSw).c4
    have k10 := (by_.ext hSw).c4
    have k20 := (bz.ext hSw).c4
    go_simp
    try with_reducible rfl
  try simp only [Act.put]
  try simp only [List.setIfInBounds_toArray]
  try simp only [List.set_cons_succ]
  try simp only [List.set_cons_zero]
  refine Late.call (i := 9) rfl (by kernel_rfl) hAl (by kernel_rfl) (by kernel_rfl) (by kernel_rfl) hQ (fun w9 e9 E9 K hK => ?_)
  go_simp
  (go_at_call 39; refine (q_CmpR (h.ext E9) (k.ext E9) (by omega) (by omega)).mono ?_; rintro e wk9 ⟨rfl, hx9⟩; rw [HS.out])
  refine hK.out _ _ hx9 ?_
  clear hK K
  try simp only [Act.put]
  try simp only [List.setIfInBounds_toArray]
  try simp only [List.set_cons_succ]
  try simp only [List.set_cons_zero]
  refine Late.take (i := 10) (d := some 32) (v := ?v10_153) rfl rfl (by kernel_rfl) (by kernel_rfl) (by kernel_rfl) (by kernel_rfl) hQ (Or.inl ⟨by rfl, ?y10_153⟩) ?r10_153
  case y10_153 =>
    intro w' hSw
    have k00 := (bx.ext hSw).c4
    have k10 := (by_.ext hSw).c4
    have k20 := (bz.ext hSw).c4
    go_simp
    try with_reducible rfl
  try simp only [Act.put]
  try simp only [List.setIfInBounds_toArray]
  try simp only [List.set_cons_succ]
  try simp only [List.set_cons_zero]
  refine Late.take (i := 11) (d := some 33) (v := ?v11_154) rfl rfl (by kernel_rfl) (by kernel_rfl) (by kernel_rfl) (by kernel_rfl) hQ (Or.inl ⟨by rfl, ?y11_154⟩) ?r11_154
  case y11_154 =>
    intro w' hSw
    have k00 := (bx.ext hSw).c4
    have k10 := (by_.ext hSw).c4
    have k20 := (bz.ext hSw).c4
    go_simp
    try with_reducible rfl
  try simp only [Act.put]
  try simp only [List.setIfInBounds_toArray]
  try simp only [List.set_cons_succ]
  try simp only [List.set_cons_zero]
  refine Late.take (i := 12) (d := some 34) (v := ?v12_155) rfl rfl (by kernel_rfl) (by kernel_rfl) (by kernel_rfl) (by kernel_rfl) hQ (Or.inl ⟨by rfl, ?y12_155⟩) ?r12_155
  case y12_155 =>
    intro w' hSw
    have k00 := (bx.ext hSw).c4
    have k10 := (by_.ext hSw).c4
    have k20 := (bz.ext hSw).c4
    go_simp
    try with_reducible rfl
  try simp only [Act.put]
  try simp only [List.setIfInBounds_toArray]
  try simp only [List.set_cons_succ]
  try simp only [List.set_cons_zero]
  refine Late.take (i := 13) (d := some 35) (v := ?v13_156) rfl rfl (by kernel_rfl) (by kernel_rfl) (by kernel_rfl) (by kernel_rfl) hQ (Or.inl ⟨by rfl, ?y13_156⟩) ?r13_156
  case y13_156 =>
    intro w' hSw
    have k00 := (bx.ext hSw).c4
    have k10 := (by_.ext hSw).c4
    have k20 := (bz.ext hSw).c4
    go_simp
    try with_reducible rfl
  try simp only [Act.put]
  try simp only [List.setIfInBounds_toArray]
  try simp only [List.set_cons_succ]
  try simp only [List.set_cons_zero]
  refine Late.take (i := 14) (d := some 36) (v := ?v14_157) rfl rfl (by kernel_rfl) (by kernel_rfl) (by kernel_rfl) (by kernel_rfl) hQ (Or.inl ⟨by rfl, ?y14_157⟩) ?r14_157
  case y14_157 =>
    intro w' hSw
    have k00 := (bx.ext hSw).c4
    have k10 := (by_.ext hSw).c4
    have k20 := (bz.ext hSw).c4
    go_simp
    try with_reducible rfl
  try simp only [Act.put]
  try simp only [List.setIfInBounds_toArray]
  try simp only [List.set_cons_succ]
  try simp only [List.set_cons_zero]
  refine Late.take (i := 15) (d := some 37) (v := ?v15_158) rfl rfl (by kernel_rfl) (by kernel_rfl) (by kernel_rfl) (by kernel_rfl) hQ (Or.inl ⟨by rfl, ?y15_158⟩) ?r15_158
  case y15_158 =>
    intro w' hSw
    have k00 := (bx.ext hSw).c4
    have k10 := (by_.ext hSw).c4
    have k20 := (bz.ext hSw).c4
    go_simp
    try with_reducible rfl
  try simp only [Act.put]
  try simp only [List.setIfInBounds_toArray]
  try simp only [List.set_cons_succ]
  try simp only [List.set_cons_zero]
  refine Late.call (i := 16) rfl (by kernel_rfl) hAl (by kernel_rfl) (by kernel_rfl) (by kernel_rfl) hQ (fun w16 e16 E16 K hK => ?_)
  go_simp
  (go_at_call 36; refine (p_CmpR (k.ext E16) (h.ext E16) (by omega) (by omega) (by omega)).mono ?_; rintro e wk16 ⟨rfl, hx16⟩; rw [HN.out])
  refine hK.out _ _ hx16 ?_
  clear hK K
  try simp only [Act.put]
  try simp only [List.setIfInBounds_toArray]
  try simp only [List.set_cons_succ]
  try simp only [List.set_cons_zero]
  refine Late.take (i := 17) (d := some 39) (v := ?v17_159) rfl rfl (by kernel_rfl) (by kernel_rfl) (by kernel_rfl) (by kernel_rfl) hQ (Or.inl ⟨by rfl, ?y17_159⟩) ?r17_159
  case y17_159 =>
    intro w' hSw
    have k00 := (bx.ext hSw).c4
    have k10 := (by_.ext hSw).c4
    have k20 := (bz.ext hSw).c4
    go_simp
    try with_reducible rfl
  try simp only [Act.put]
  try simp only [List.setIfInBounds_toArray]
  try simp only [List.set_cons_succ]
  try simp only [List.set_cons_zero]
  refine Late.take (i := 18) (d := some 40) (v := ?v18_160) rfl rfl (by kernel_rfl) (by kernel_rfl) (by kernel_rfl) (by kernel_rfl) hQ (Or.inl ⟨by rfl, ?y18_160⟩) ?r18_160
  case y18_160 =>
    intro w' hSw
    have k00 := (bx.ext hSw).c4
    have k10 := (by_.ext hSw).c4
    have k20 := (bz.ext hSw).c4
    go_simp
    try with_reducible rfl
  try simp only [Act.put]
  try simp only [List.setIfInBounds_toArray]
  try simp only [List.set_cons_succ]
  try simp only [List.set_cons_zero]
  refine Late.take (i := 19) (d := some 41) (v := ?v19_161) rfl rfl (by kernel_rfl) (by kernel_rfl) (by kernel_rfl) (by kernel_rfl) hQ (Or.inl ⟨by rfl, ?y19_161⟩) ?r19_161
  case y19_161 =>
    intro w' hSw
    have k00 := (bx.ext hSw).c4
    have k10 := (by_.ext hSw).c4
    have k20 := (bz.ext hSw).c4
    go_simp
    try with_reducible rfl
  try simp only [Act.put]
  try simp only [List.setIfInBounds_toArray]
  try simp only [List.set_cons_succ]
  try simp only [List.set_cons_zero]
  refine Late.take (i := 20) (d := some 42) (v := ?v20_162) rfl rfl (by kernel_rfl) (by kernel_rfl) (by kernel_rfl) (by kernel_rfl) hQ (Or.inl ⟨by rfl, ?y20_162⟩) ?r20_162
  case y20_162 =>
    intro w' hSw
    have k00 := (bx.ext hSw).c4
    have k10 := (by_.ext hSw).c4
    have k20 := (bz.ext hSw).c4
    go_simp
    try with_reducible rfl
  try simp only [Act.put]
  try simp only [List.setIfInBounds_toArray]
  try simp only [List.set_cons_succ]
  try simp only [List.set_cons_zero]
  refine Late.take (i := 21) (d := some 43) (v := ?v21_163) rfl rfl (by kernel_rfl) (by kernel_rfl) (by kernel_rfl) (by kernel_rfl) hQ (Or.inl ⟨by rfl, ?y21_163⟩) ?r21_163
  case y21_163 =>
    intro w' hSw
    have k00 := (bx.ext hSw).c4
    have k10 := (by_.ext hSw).c4
    have k20 := (bz.ext hSw).c4
    go_simp
    try with_reducible rfl
  try simp only [Act.put]
  try simp only [List.setIfInBounds_toArray]
  try simp only [List.set_cons_succ]
  try simp only [List.set_cons_zero]
  refine Late.take (i := 22) (d := some 44) (v := ?v22_164) rfl rfl (by kernel_rfl) (by kernel_rfl) (by kernel_rfl) (by kernel_rfl) hQ (Or.inl ⟨by rfl, ?y22_164⟩) ?r22_164
  case y22_164 =>
    intro w' hSw
    have k00 := (bx.ext hSw).c4
    have k10 := (by_.ext hSw).c4
    have k20 := (bz.ext hSw).c4
    go_simp
    try with_reducible rfl
  try simp only [Act.put]
  try simp only [List.setIfInBounds_toArray]
  try simp only [List.set_cons_succ]
  try simp only [List.set_cons_zero]
  refine Late.take (i := 23) (d := some 45) (v := ?v23_165) rfl rfl (by kernel_rfl) (by kernel_rfl) (by kernel_rfl) (by kernel_rfl) hQ (Or.inl ⟨by rfl, ?y23_165⟩) ?r23_165
  case y23_165 =>
    intro w' hSw
    have k00 := (bx.ext hSw).c4
    have k10 := (by_.ext hSw).c4
    have k20 := (bz.ext hSw).c4
    go_simp
    try with_reducible rfl
  try simp only [Act.put]
  try simp only [List.setIfInBounds_toArray]
  try simp only [List.set_cons_succ]
  try simp only [List.set_cons_zero]
  refine Late.call (i := 24) rfl (by kernel_rfl) hAl (by kernel_rfl) (by kernel_rfl) (by kernel_rfl) hQ (fun w24 e24 E24 K hK => ?_)
  go_simp
  (go_at_call 30; refine (p_SubR (h.ext E24) (k.ext E24) (by omega) (by omega) (by omega) (hT.ext (extW.trans E24))).mono ?_; rintro e wk24 ⟨s16_, A16_, n16_, c16_, t16_, B16_, m16_, d16_, rfl, r1, hx24⟩)
  refine hK.out _ _ hx24 ?_
  clear hK K
  try simp only [Act.put]
  try simp only [List.setIfInBounds_toArray]
  try simp only [List.set_cons_succ]
  try simp only [List.set_cons_zero]
  refine Late.call (i := 25) rfl (by kernel_rfl) hAl (by kernel_rfl) (by kernel_rfl) (by kernel_rfl) hQ (fun w25 e25 E25 K hK => ?_)
  go_simp
  (replace r1 := r1.ext e25; go_at_call 37; refine (p_SignR r1 (by omega)).mono ?_; rintro e wk25 ⟨rfl, hx25⟩; replace r1 := r1.ext hx25; rw [HD.out])
  refine hK.out _ _ hx25 ?_
  clear hK K
  try simp only [Act.put]
  try simp only [List.setIfInBounds_toArray]
  try simp only [List.set_cons_succ]
  try simp only [List.set_cons_zero]
  refine Late.take (i := 26) (d := some 48) (v := ?v26_166) rfl rfl (by kernel_rfl) (by kernel_rfl) (by kernel_rfl) (by kernel_rfl) hQ (Or.inl ⟨by rfl, ?y26_166⟩) ?r26_166
  case y26_166 =>
    intro w' hSw
    have k00 := (bx.ext hSw).c4
    have k10 := (by_.ext hSw).c4
    have k20 := (bz.ext hSw).c4
    go_simp
    try with_reducible rfl
  try simp only [Act.put]
  try simp only [List.setIfInBounds_toArray]
  try simp only [List.set_cons_succ]
  try simp only [List.set_cons_zero]
  refine Late.take (i := 27) (d := some 49) (v := ?v27_167) rfl rfl (by kernel_rfl) (by kernel_rfl) (by kernel_rfl) (by kernel_rfl) hQ (Or.inl ⟨by rfl, ?y27_167⟩) ?r27_167
  case y27_167 =>
    intro w' hSw
    have k00 := (bx.ext hSw).c4
    have k10 := (by_.ext hSw).c4
    have k20 := (bz.ext hSw).c4
    go_simp
    try with_reducible rfl
  try simp only [Act.put]
  try simp only [List.setIfInBounds_toArray]
  try simp only [List.set_cons_succ]
  try simp only [List.set_cons_zero]
  refine Late.done0 (by kernel_rfl) (fun wz ez Ez => ?_)
  clear hAl hQ ES
  replace bx := bx.ext Ez
  replace by_ := by_.ext Ez
  replace bz := bz.ext Ez
  replace h := h.ext Ez
  replace k := k.ext Ez
  replace j := j.ext Ez
  replace extW := extW.trans Ez
  clear Ez ez
  go_wp2_with fail
  have ES0 := Ext.refl wz
  refine wp_region_held_drew (S := Ext wz) (by kernel_rfl) ES0.drew (fun ES => ?_)
  clear ES0
  refine Late.start0 (fun _ _ _ _ _ => ⟨fun h => h, fun h => h⟩) ES (fun hAl hQ => ?_)
  refine Late.take (i := 0) (d := some 50) (v := ?v0_168) rfl rfl (by kernel_rfl) (by kernel_rfl) (by kernel_rfl) (by kernel_rfl) hQ (Or.inl ⟨by rfl, ?y0_168⟩) ?r0_168
  case y0_168 =>
    intro w' hSw
    have k00 := (bx.ext hSw).c4
    have k10 := (by_.ext hSw).c4
    have k20 := (bz.ext hSw).c4
    go_simp
    try with_reducible rfl
  try simp only [Act.put]
  try simp only [List.setIfInBounds_toArray]
  try simp only [List.set_cons_succ]
  try simp only [List.set_cons_zero]
  refine Late.take (i := 1) (d := some 51) (v := ?v1_169) rfl rfl (by kernel_rfl) (by kernel_rfl) (by kernel_rfl) (by kernel_rfl) hQ (Or.inl ⟨by rfl, ?y1_169⟩) ?r1_169
  case y1_169 =>
    intro w' hSw
    have k00 := (bx.ext hSw).c4
    have k10 := (by_.ext hSw).c4
    have k20 := (bz.ext hSw).c4
    go_simp
    try with_reducible rfl
  try simp only [Act.put]
  try simp only [List.setIfInBounds_toArray]
  try simp only [List.set_cons_succ]
  try simp only [List.set_cons_zero]
  refine Late.take (i := 3) (d := some 53) (v := ?v3_170) rfl rfl (by kernel_rfl) (by kernel_rfl) (by kernel_rfl) (by kernel_rfl) hQ (Or.inl ⟨by rfl, ?y3_170⟩) ?r3_170
  case y3_170 =>
    intro w' hSw
    have k00 := (bx.ext hSw).c4
    have k10 := (by_.ext hSw).c4
    have k20 := (bz.ext hSw).c4
    go_simp
    try with_reducible rfl
  try simp only [Act.put]
  try simp only [List.setIfInBounds_toArray]
  try simp only [List.set_cons_succ]
  try simp only [List.set_cons_zero]
  refine Late.take (i := 4) (d := some 54) (v := ?v4_171) rfl rfl (by kernel_rfl) (by kernel_rfl) (by kernel_rfl) (by kernel_rfl) hQ (Or.inl ⟨by rfl, ?y4_171⟩) ?r4_171
  case y4_171 =>
    intro w' hSw
    have k00 := (bx.ext hSw).c4
    have k10 := (by_.ext hSw).c4
    have k20 := (bz.ext hSw).c4
    go_simp
    try with_reducible rfl
  try simp only [Act.put]
  try simp only [List.setIfInBounds_toArray]
  try simp only [List.set_cons_succ]
  try simp only [List.set_cons_zero]
  refine Late.take (i := 7) (d := some 57) (v := ?v7_172) rfl rfl (by kernel_rfl) (by kernel_rfl) (by kernel_rfl) (by kernel_rfl) hQ (Or.inl ⟨by rfl, ?y7_172⟩) ?r7_172
  case y7_172 =>
    intro w' hSw
    have k00 := (bx.ext hSw).c4
    have k10 := (by_.ext hSw).c4
    have k20 := (bz.ext hSw).c4
    go_simp
    try with_reducible rfl
  try simp only [Act.put]
  try simp only [List.setIfInBounds_toArray]
  try simp only [List.set_cons_succ]
  try simp only [List.set_cons_zero]
  refine Late.call (i := 2) rfl (by kernel_rfl) hAl (by kernel_rfl) (by kernel_rfl) (by kernel_rfl) hQ (fun w2 e2 E2 K hK => ?_)
  go_simp
  (go_at_call 28; refine (p_AddR (h.ext E2) (j.ext E2) (by omega) (by omega) (by omega) (hT.ext (extW.trans E2))).mono ?_; rintro e wk2 ⟨s17_, A17_, n17_, c17_, t17_, B17_, m17_, d17_, rfl, r1, hx2⟩)
  refine hK.out _ _ hx2 ?_
  clear hK K
  try simp only [Act.put]
  try simp only [List.setIfInBounds_toArray]
  try simp only [List.set_cons_succ]
  try simp only [List.set_cons_zero]
  refine Late.call (i := 5) rfl (by kernel_rfl) hAl (by kernel_rfl) (by kernel_rfl) (by kernel_rfl) hQ (fun w5 e5 E5 K hK => ?_)
  go_simp
  (replace r1 := r1.ext e5; go_at_call 28; refine (p_AddR (k.ext E5) (j.ext E5) (by omega) (by omega) (by omega) (hT.ext (extW.trans E5))).mono ?_; rintro e wk5 ⟨s18_, A18_, n18_, c18_, t18_, B18_, m18_, d18_, rfl, r2, hx5⟩; replace r1 := r1.ext hx5)
  refine hK.out _ _ hx5 ?_
  clear hK K
  try simp only [Act.put]
  try simp only [List.setIfInBounds_toArray]
  try simp only [List.set_cons_succ]
  try simp only [List.set_cons_zero]
  refine Late.call (i := 6) rfl (by kernel_rfl) hAl (by kernel_rfl) (by kernel_rfl) (by kernel_rfl) hQ (fun w6 e6 E6 K hK => ?_)
  go_simp
  (replace r1 := r1.ext e6; replace r2 := r2.ext e6; go_at_call 36; refine (p_CmpR r1 r2 (by omega) (by omega) (by omega)).mono ?_; rintro e wk6 ⟨rfl, hx6⟩; replace r1 := r1.ext hx6; replace r2 := r2.ext hx6; rw [HA1.out])
  refine hK.out _ _ hx6 ?_
  clear hK K
  try simp only [Act.put]
  try simp only [List.setIfInBounds_toArray]
  try simp only [List.set_cons_succ]
  try simp only [List.set_cons_zero]
  refine Late.take (i := 8) (d := some 58) (v := ?v8_173) rfl rfl (by kernel_rfl) (by kernel_rfl) (by kernel_rfl) (by kernel_rfl) hQ (Or.inl ⟨by rfl, ?y8_173⟩) ?r8_173
  case y8_173 =>
    intro w' hSw
    have k00 := (bx.ext hSw).c4
    have k10 := (by_.ext hSw).c4
    have k20 := (bz.ext hSw).c4
    go_simp
    try with_reducible rfl
  try simp only [Act.put]
  try simp only [List.setIfInBounds_toArray]
  try simp only [List.set_cons_succ]
  try simp only [List.set_cons_zero]
  refine Late.take (i := 9) (d := some 59) (v := ?v9_174) rfl rfl (by kernel_rfl) (by kernel_rfl) (by kernel_rfl) (by kernel_rfl) hQ (Or.inl ⟨by rfl, ?y9_174⟩) ?r9_174
  case y9_174 =>
    intro w' hSw
    have k00 := (bx.ext hSw).c4
    have k10 := (by_.ext hSw).c4
    have k20 := (bz.ext hSw).c4
    go_simp
    try with_reducible rfl
  try simp only [Act.put]
  try simp only [List.setIfInBounds_toArray]
  try simp only [List.set_cons_succ]
  try simp only [List.set_cons_zero]
  refine Late.take (i := 10) (d := some 60) (v := ?v10_175) rfl rfl (by kernel_rfl) (by kernel_rfl) (by kernel_rfl) (by kernel_rfl) hQ (Or.inl ⟨by rfl, ?y10_175⟩) ?r10_175
  case y10_175 =>
    intro w' hSw
    have k00 := (bx.ext hSw).c4
    have k10 := (by_.ext hSw).c4
    have k20 := (bz.ext hSw).c4
    go_simp
    try with_reducible rfl
  try simp only [Act.put]
  try simp only [List.setIfInBounds_toArray]
  try simp only [List.set_cons_succ]
  try simp only [List.set_cons_zero]
  refine Late.take (i := 11) (d := some 61) (v := ?v11_176) rfl rfl (by kernel_rfl) (by kernel_rfl) (by kernel_rfl) (by kernel_rfl) hQ (Or.inl ⟨by rfl, ?y11_176⟩) ?r11_176
  case y11_176 =>
    intro w' hSw
    have k00 := (bx.ext hSw).c4
    have k10 := (by_.ext hSw).c4
    have k20 := (bz.ext hSw).c4
    go_simp
    try with_reducible rfl
  try simp only [Act.put]
  try simp only [List.setIfInBounds_toArray]
  try simp only [List.set_cons_succ]
  try simp only [List.set_cons_zero]
  refine Late.take (i := 13) (d := some 63) (v := ?v13_177) rfl rfl (by kernel_rfl) (by kernel_rfl) (by kernel_rfl) (by kernel_rfl) hQ (Or.inl ⟨by rfl, ?y13_177⟩) ?r13_177
  case y13_177 =>
    intro w' hSw
    have k00 := (bx.ext hSw).c4
    have k10 := (by_.ext hSw).c4
    have k20 := (bz.ext hSw).c4
    go_simp
    try with_reducible rfl
  try simp only [Act.put]
  try simp only [List.setIfInBounds_toArray]
  try simp only [List.set_cons_succ]
  try simp only [List.set_cons_zero]
  refine Late.take (i := 14) (d := some 64) (v := ?v14_178) rfl rfl (by kernel_rfl) (by kernel_rfl) (by kernel_rfl) (by kernel_rfl) hQ (Or.inl ⟨by rfl, ?y14_178⟩) ?r14_178
  case y14_178 =>
    intro w' hSw
    have k00 := (bx.ext hSw).c4
    have k10 := (by_.ext hSw).c4
    have k20 := (bz.ext hSw).c4
    go_simp
    try with_reducible rfl
  try simp only [Act.put]
  try simp only [List.setIfInBounds_toArray]
  try simp only [List.set_cons_succ]
  try simp only [List.set_cons_zero]
  refine Late.take (i := 17) (d := some 67) (v := ?v17_179) rfl rfl (by kernel_rfl) (by kernel_rfl) (by kernel_rfl) (by kernel_rfl) hQ (Or.inl ⟨by rfl, ?y17_179⟩) ?r17_179
  case y17_179 =>
    intro w' hSw
    have k00 := (bx.ext hSw).c4
    have k10 := (by_.ext hSw).c4
    have k20 := (bz.ext hSw).c4
    go_simp
    try with_reducible rfl
  try simp only [Act.put]
  try simp only [List.setIfInBounds_toArray]
  try simp only [List.set_cons_succ]
  try simp only [List.set_cons_zero]
  refine Late.take (i := 18) (d := some 68) (v := ?v18_180) rfl rfl (by kernel_rfl) (by kernel_rfl) (by kernel_rfl) (by kernel_rfl) hQ (Or.inl ⟨by rfl, ?y18_180⟩) ?r18_180
  case y18_180 =>
    intro w' hSw
    have k00 := (bx.ext hSw).c4
    have k10 := (by_.ext hSw).c4
    have k20 := (bz.ext hSw).c4
    go_simp
    try with_reducible rfl
  try simp only [Act.put]
  try simp only [List.setIfInBounds_toArray]
  try simp only [List.set_cons_succ]
  try simp only [List.set_cons_zero]
  refine Late.call (i := 12) rfl (by kernel_rfl) hAl (by kernel_rfl) (by kernel_rfl) (by kernel_rfl) hQ (fun w12 e12 E12 K hK => ?_)
  go_simp
  (replace r1 := r1.ext e12; replace r2 := r2.ext e12; go_at_call 34; refine (p_MulR (h.ext E12) (j.ext E12) (by omega) (by omega) (by omega) (hT.ext (extW.trans E12))).mono ?_; rintro e wk12 ⟨s19_, A19_, n19_, c19_, t19_, B19_, m19_, d19_, rfl, r3, hx12⟩; replace r1 := r1.ext hx12; replace r2 := r2.ext hx12)
  refine hK.out _ _ hx12 ?_
  clear hK K
  try simp only [Act.put]
  try simp only [List.setIfInBounds_toArray]
  try simp only [List.set_cons_succ]
  try simp only [List.set_cons_zero]
  refine Late.call (i := 15) rfl (by kernel_rfl) hAl (by kernel_rfl) (by kernel_rfl) (by kernel_rfl) hQ (fun w15 e15 E15 K hK => ?_)
  go_simp
  (replace r1 := r1.ext e15; replace r2 := r2.ext e15; replace r3 := r3.ext e15; go_at_call 34; refine (p_MulR (k.ext E15) (j.ext E15) (by omega) (by omega) (by omega) (hT.ext (extW.trans E15))).mono ?_; rintro e wk15 ⟨s20_, A20_, n20_, c20_, t20_, B20_, m20_, d20_, rfl, r4, hx15⟩; replace r1 := r1.ext hx15; replace r2 := r2.ext hx15; replace r3 := r3.ext hx15)
  refine hK.out _ _ hx15 ?_
  clear hK K
  try simp only [Act.put]
  try simp only [List.setIfInBounds_toArray]
  try simp only [List.set_cons_succ]
  try simp only [List.set_cons_zero]
  refine Late.call (i := 16) rfl (by kernel_rfl) hAl (by kernel_rfl) (by kernel_rfl) (by kernel_rfl) hQ (fun w16 e16 E16 K hK => ?_)
  go_simp
  (replace r1 := r1.ext e16; replace r2 := r2.ext e16; replace r3 := r3.ext e16; replace r4 := r4.ext e16; go_at_call 36; refine (p_CmpR r3 r4 (by omega) (by omega) (by omega)).mono ?_; rintro e wk16 ⟨rfl, hx16⟩; replace r1 := r1.ext hx16; replace r2 := r2.ext hx16; replace r3 := r3.ext hx16; replace r4 := r4.ext hx16; rw [HM1.out])
  refine hK.out _ _ hx16 ?_
  clear hK K
  try simp only [Act.put]
  try simp only [List.setIfInBounds_toArray]
  try simp only [List.set_cons_succ]
  try simp only [List.set_cons_zero]
  refine Late.call (i := 19) rfl (by kernel_rfl) hAl (by kernel_rfl) (by kernel_rfl) (by kernel_rfl) hQ (fun w19 e19 E19 K hK => ?_)
  go_simp
  (replace r1 := r1.ext e19; replace r2 := r2.ext e19; replace r3 := r3.ext e19; replace r4 := r4.ext e19; go_at_call 37; refine (p_SignR (j.ext E19) (by omega)).mono ?_; rintro e wk19 ⟨rfl, hx19⟩; replace r1 := r1.ext hx19; replace r2 := r2.ext hx19; replace r3 := r3.ext hx19; replace r4 := r4.ext hx19; rw [HT.out])
  refine hK.out _ _ hx19 ?_
  clear hK K
  try simp only [Act.put]
  try simp only [List.setIfInBounds_toArray]
  try simp only [List.set_cons_succ]
  try simp only [List.set_cons_zero]
  refine Late.take (i := 20) (d := some 70) (v := ?v20_181) rfl rfl (by kernel_rfl) (by kernel_rfl) (by kernel_rfl) (by kernel_rfl) hQ (Or.inl ⟨by rfl, ?y20_181⟩) ?r20_181
  case y20_181 =>
    intro w' hSw
    have k00 := (bx.ext hSw).c4
    have k10 := (by_.ext hSw).c4
    have k20 := (bz.ext hSw).c4
    go_simp
    try with_reducible rfl
  try simp only [Act.put]
  try simp only [List.setIfInBounds_toArray]
  try simp only [List.set_cons_succ]
  try simp only [List.set_cons_zero]
  refine Late.take (i := 21) (d := some 71) (v := ?v21_182) rfl rfl (by kernel_rfl) (by kernel_rfl) (by kernel_rfl) (by kernel_rfl) hQ (Or.inl ⟨by rfl, ?y21_182⟩) ?r21_182
  case y21_182 =>
    intro w' hSw
    have k00 := (bx.ext hSw).c4
    have k10 := (by_.ext hSw).c4
    have k20 := (bz.ext hSw).c4
    go_simp
    try with_reducible rfl
  try simp only [Act.put]
  try simp only [List.setIfInBounds_toArray]
  try simp only [List.set_cons_succ]
  try simp only [List.set_cons_zero]
  refine Late.take (i := 22) (d := some 72) (v := ?v22_183) rfl rfl (by kernel_rfl) (by kernel_rfl) (by kernel_rfl) (by kernel_rfl) hQ (Or.inl ⟨by rfl, ?y22_183⟩) ?r22_183
  case y22_183 =>
    intro w' hSw
    have k00 := (bx.ext hSw).c4
    have k10 := (by_.ext hSw).c4
    have k20 := (bz.ext hSw).c4
    go_simp
    try with_reducible rfl
  try simp only [Act.put]
  try simp only [List.setIfInBounds_toArray]
  try simp only [List.set_cons_succ]
  try simp only [List.set_cons_zero]
  refine Late.take (i := 23) (d := some 6) (v := ?v23_184) rfl rfl (by kernel_rfl) (by kernel_rfl) (by kernel_rfl) (by kernel_rfl) hQ (Or.inl ⟨by rfl, ?y23_184⟩) ?r23_184
  case y23_184 =>
    intro w' hSw
    have k00 := (bx.ext hSw).c4
    have k10 := (by_.ext hSw).c4
    have k20 := (bz.ext hSw).c4
    go_simp
    try with_reducible rfl
  try simp only [Act.put]
  try simp only [List.setIfInBounds_toArray]
  try simp only [List.set_cons_succ]
  try simp only [List.set_cons_zero]
  refine Late.done0 (by kernel_rfl) (fun wy ez Ez => ?_)
  clear hAl hQ ES
  go_wp2_with fail
  go_ret
  exact ⟨rfl, extW.trans Ez⟩
set_option maxHeartbeats 16000000 in
set_option maxRecDepth 100000 in
theorem order_zz (hA : Awake2) (hT : Tab w) (hP : TabP w) (h : NR w q 20 s A n c t B m d) (k : NR w p 20 s' A' n' c' t' B' m' d') (j : NR w r 20 u C l e0 u' D l' e') (hS : ratCmp q p = 0) (hC : r.num.sign = 0) :
    Calls Tryz.prog 6 #[.agg #[.bool s, .slice A n c, .bool t, .slice B m d], .agg #[.bool s', .slice A' n' c', .bool t', .slice B' m' d'], .agg #[.bool u, .slice C l e0, .bool u', .slice D l' e']] w fun e w' => e = .returned (.bool true) ∧ Ext w w' := by
  have HS := Lib.hid hS
  have HT := Lib.hid hC
  have HN := Lib.hid (show ratCmp p q = 0 by rw [ratCmp_swap, hS]; try rfl)
  have HD := Lib.hid (show (q - p).num.sign = 0 by rw [ratCmp_sub, hS])
  have HA1 := Lib.hid (show ratCmp (q + r) (p + r) = 0 by rw [ratCmp_add, hS])
  have HM1 := Lib.hid (show ratCmp (q * r) (p * r) = 0 by rw [ratCmp_mul, hS, hC]; rfl)
  have hw0 : IntKind.i64.wrap 0 = 0 := by decide
  have hw1 : IntKind.i64.wrap 1 = 1 := by decide
  have hw2 : IntKind.i64.wrap (-1) = -1 := by decide
  clear hS hC
  obtain ⟨xs, ys, ra0, rb0, hv0, hn0, hm0, _⟩ := h.raw
  obtain ⟨xs', ys', ra1, rb1, hv1, hn1, hm1, _⟩ := k.raw
  obtain ⟨zs, zs', ra2, rb2, hv2, hn2, hm2, _⟩ := j.raw
  have HF := Lib.hid (show (fewB n m s xs t ys && (fewB n' m' s' xs' t' ys' && (fewB l l' u zs u' zs'))) = true by unfold fewB; rw [decide_eq_true hn0, decide_eq_true hm0, hv0, decide_eq_true hn1, decide_eq_true hm1, hv1, decide_eq_true hn2, decide_eq_true hm2, hv2]; rfl)
  have hr0 := And.intro ra0 rb0
  have hr1 := And.intro ra1 rb1
  have hr2 := And.intro ra2 rb2
  clear ra0 rb0 hv0 hn0 hm0 ra1 rb1 hv1 hn1 hm1 ra2 rb2 hv2 hn2 hm2
  have HA := Lib.hid hA
  clear hA
  go_enter Tryz.func6, Tryz.ntmps6
  go_upto_region 1 with (fail)
  obtain ⟨W0, hW, extW, bx, by_, bz, hzz⟩ := box3 w 27 27 27 #[.bool s, .slice A n c, .bool t, .slice B m d] #[.bool s', .slice A' n' c', .bool t', .slice B' m' d'] #[.bool u, .slice C l e0, .bool u', .slice D l' e']
  rw [← hW]
  clear hW hzz
  go_wp2_with fail
  refine (HA.out _ (hT.ext extW) (hP.ext extW)).mono ?_
  rintro e W ⟨rfl, hxt⟩
  replace extW := extW.trans hxt
  replace bx := bx.ext hxt
  replace by_ := by_.ext hxt
  replace bz := bz.ext hxt
  clear hxt
  have bx0 := bx.cell 0 (.bool s) rfl
  have bx1 := bx.cell 1 (.slice A n c) rfl
  have bx2 := bx.cell 2 (.bool t) rfl
  have bx3 := bx.cell 3 (.slice B m d) rfl
  have by_0 := by_.cell 0 (.bool s') rfl
  have by_1 := by_.cell 1 (.slice A' n' c') rfl
  have by_2 := by_.cell 2 (.bool t') rfl
  have by_3 := by_.cell 3 (.slice B' m' d') rfl
  have bz0 := bz.cell 0 (.bool u) rfl
  have bz1 := bz.cell 1 (.slice C l e0) rfl
  have bz2 := bz.cell 2 (.bool u') rfl
  have bz3 := bz.cell 3 (.slice D l' e') rfl
  have hnb := Box.new W 27 #[.bool s, .slice A n c, .bool t, .slice B m d, .bool s', .slice A' n' c', .bool t', .slice B' m' d', .bool u, .slice C l e0, .bool u', .slice D l' e']
  have e1 := (Ext.refl W).alloc (.cells #[.bool s, .slice A n c, .bool t, .slice B m d, .bool s', .slice A' n' c', .bool t', .slice B' m' d', .bool u, .slice C l e0, .bool u', .slice D l' e'] 27)
  go_wp2_with fail
  refine (few3 hnb (hr0.1.ext (extW.trans e1)) (hr0.2.ext (extW.trans e1)) (hr1.1.ext (extW.trans e1)) (hr1.2.ext (extW.trans e1)) (hr2.1.ext (extW.trans e1)) (hr2.2.ext (extW.trans e1))).mono ?_
  rintro e W1 ⟨rfl, hxt⟩
  rw [HF.out]
  have ES := e1.trans hxt
  clear hnb e1 hxt
  clear bx0 bx1 bx2 bx3 by_0 by_1 by_2 by_3 bz0 bz1 bz2 bz3
  clear hr0 hr1 hr2 HF
  replace bx := bx.ext ES
  replace by_ := by_.ext ES
  replace bz := bz.ext ES
  replace extW := extW.trans ES
  replace h := h.ext extW
  replace k := k.ext extW
  replace j := j.ext extW
  clear ES
  have bx0 := bx.cell 0 (.bool s) rfl
  have bx1 := bx.cell 1 (.slice A n c) rfl
  have bx2 := bx.cell 2 (.bool t) rfl
  have bx3 := bx.cell 3 (.slice B m d) rfl
  have by_0 := by_.cell 0 (.bool s') rfl
  have by_1 := by_.cell 1 (.slice A' n' c') rfl
  have by_2 := by_.cell 2 (.bool t') rfl
  have by_3 := by_.cell 3 (.slice B' m' d') rfl
  go_wp2_with fail
  refine (p_CmpR h k (by omega) (by omega) (by omega)).mono ?_
  rintro e V ⟨rfl, hxd⟩
  rw [HS.out]
  replace bx := bx.ext hxd
  replace by_ := by_.ext hxd
  replace bz := bz.ext hxd
  replace h := h.ext hxd
  replace k := k.ext hxd
  replace j := j.ext hxd
  replace extW := extW.trans hxd
  clear hxd
  clear bx0 bx1 bx2 bx3 by_0 by_1 by_2 by_3
  go_wp2_with fail
  have ES0 := Ext.refl V
  refine wp_region_held_drew (S := Ext V) (by kernel_rfl) ES0.drew (fun ES => ?_)
  clear ES0
  refine Late.start0 (fun _ _ _ _ _ => ⟨fun h => h, fun h => h⟩) ES (fun hAl hQ => ?_)
  refine Late.take (i := 0) (d := some 22) (v := ?v0_185) rfl rfl (by kernel_rfl) (by kernel_rfl) (by kernel_rfl) (by kernel_rfl) hQ (Or.inl ⟨by rfl, ?y0_185⟩) ?r0_185
  case y0_185 =>
    intro w' hSw
    have k00 := (bx.ext hSw).c4
    have k10 := (by_.ext hSw).c4
    have k20 := (bz.ext hSw).c4
    go_simp
    try with_reducible rfl
  try simp only [Act.put]
  try simp only [List.setIfInBounds_toArray]
  try simp only [List.set_cons_succ]
  try simp only [List.set_cons_zero]
  refine Late.take (i := 2) (d := some 24) (v := ?v2_186) rfl rfl (by kernel_rfl) (by kernel_rfl) (by kernel_rfl) (by kernel_rfl) hQ (Or.inl ⟨by rfl, ?y2_186⟩) ?r2_186
  case y2_186 =>
    intro w' hSw
    have k00 := (bx.ext hSw).c4
    have k10 := (by_.ext hSw).c4
    have k20 := (bz.ext hSw).c4
    go_simp
    try with_reducible rfl
  try simp only [Act.put]
  try simp only [List.setIfInBounds_toArray]
  try simp only [List.set_cons_succ]
  try simp only [List.set_cons_zero]
  refine Late.call (i := 1) rfl (by kernel_rfl) hAl (by kernel_rfl) (by kernel_rfl) (by kernel_rfl) hQ (fun w1 e1 E1 K hK => ?_)
  go_simp
  (go_at_call 37; refine (p_SignR (h.ext E1) (by omega)).mono ?_; rintro e wk1 ⟨rfl, hx1⟩)
  refine hK.out _ _ hx1 ?_
  clear hK K
  try simp only [Act.put]
  try simp only [List.setIfInBounds_toArray]
  try simp only [List.set_cons_succ]
  try simp only [List.set_cons_zero]
  refine Late.call (i := 3) rfl (by kernel_rfl) hAl (by kernel_rfl) (by kernel_rfl) (by kernel_rfl) hQ (fun w3 e3 E3 K hK => ?_)
  go_simp
  (go_at_call 38; refine (q_SignR (h.ext E3) (by omega)).mono ?_; rintro e wk3 ⟨rfl, hx3⟩)
  refine hK.out _ _ hx3 ?_
  clear hK K
  try simp only [Act.put]
  try simp only [List.setIfInBounds_toArray]
  try simp only [List.set_cons_succ]
  try simp only [List.set_cons_zero]
  refine Late.take (i := 4) (d := some 26) (v := ?v4_187) rfl rfl (by kernel_rfl) (by kernel_rfl) (by kernel_rfl) (by kernel_rfl) hQ (Or.inl ⟨by rfl, ?y4_187⟩) ?r4_187
  case y4_187 =>
    intro w' hSw
    have k00 := (bx.ext hSw).c4
    have k10 := (by_.ext hSw).c4
    have k20 := (bz.ext hSw).c4
    go_simp
    try with_reducible rfl
  try simp only [Act.put]
  try simp only [List.setIfInBounds_toArray]
  try simp only [List.set_cons_succ]
  try simp only [List.set_cons_zero]
  refine Late.take (i := 5) (d := some 27) (v := ?v5_188) rfl rfl (by kernel_rfl) (by kernel_rfl) (by kernel_rfl) (by kernel_rfl) hQ (Or.inl ⟨by rfl, ?y5_188⟩) ?r5_188
  case y5_188 =>
    intro w' hSw
    have k00 := (bx.ext hSw).c4
    have k10 := (by_.ext hSw).c4
    have k20 := (bz.ext hSw).c4
    go_simp
    try with_reducible rfl
  try simp only [Act.put]
  try simp only [List.setIfInBounds_toArray]
  try simp only [List.set_cons_succ]
  try simp only [List.set_cons_zero]
  refine Late.take (i := 6) (d := some 28) (v := ?v6_189) rfl rfl (by kernel_rfl) (by kernel_rfl) (by kernel_rfl) (by kernel_rfl) hQ (Or.inl ⟨by rfl, ?y6_189⟩) ?r6_189
  case y6_189 =>
    intro w' hSw
    have k00 := (bx.ext hSw).c4
    have k10 := (by_.ext hSw).c4
    have k20 := (bz.ext hSw).c4
    go_simp
    try with_reducible rfl
  try simp only [Act.put]
  try simp only [List.setIfInBounds_toArray]
  try simp only [List.set_cons_succ]
  try simp only [List.set_cons_zero]
  refine Late.take (i := 7) (d := some 29) (v := ?v7_190) rfl rfl (by kernel_rfl) (by kernel_rfl) (by kernel_rfl) (by kernel_rfl) hQ (Or.inl ⟨by rfl, ?y7_190⟩) ?r7_190
  case y7_190 =>
    intro w' hSw
    have k00 := (bx.ext hSw).c4
    have k10 := (by_.ext hSw).c4
    have k20 := (bz.ext hSw).c4
    go_simp
    try with_reducible rfl
  try simp only [Act.put]
  try simp only [List.setIfInBounds_toArray]
  try simp only [List.set_cons_succ]
  try simp only [List.set_cons_zero]
  refine Late.take (i := 8) (d := some 30) (v := ?v8_191) rfl rfl (by kernel_rfl) (by kernel_rfl) (by kernel_rfl) (by kernel_rfl) hQ (Or.inl ⟨by rfl, ?y8_191⟩) ?r8_191
  case y8_191 =>
    intro w' hSw
    have k00 := (bx.ext hSw).c4
    have k10 := (by_.ext hSw).c4
    have k20 := (bz.ext hSw).c4
    go_simp
    try with_reducible rfl
  try simp only [Act.put]
  try simp only [List.setIfInBounds_toArray]
  try simp only [List.set_cons_succ]
  try simp only [List.set_cons_zero]
  refine Late.call (i := 9) rfl (by kernel_rfl) hAl (by kernel_rfl) (by kernel_rfl) (by kernel_rfl) hQ (fun w9 e9 E9 K hK => ?_)
  go_simp
  (go_at_call 39; refine (q_CmpR (h.ext E9) (k.ext E9) (by omega) (by omega)).mono ?_; rintro e wk9 ⟨rfl, hx9⟩; rw [HS.out])
  refine hK.out _ _ hx9 ?_
  clear hK K
  try simp only [Act.put]
  try simp only [List.setIfInBounds_toArray]
  try simp only [List.set_cons_succ]
  try simp only [List.set_cons_zero]
  refine Late.take (i := 10) (d := some 32) (v := ?v10_192) rfl rfl (by kernel_rfl) (by kernel_rfl) (by kernel_rfl) (by kernel_rfl) hQ (Or.inl ⟨by rfl, ?y10_192⟩) ?r10_192
  case y10_192 =>
    intro w' hSw
    have k00 := (bx.ext hSw).c4
    have k10 := (by_.ext hSw).c4
    have k20 := (bz.ext hSw).c4
    go_simp
    try with_reducible rfl
  try simp only [Act.put]
  try simp only [List.setIfInBounds_toArray]
  try simp only [List.set_cons_succ]
  try simp only [List.set_cons_zero]
  refine Late.take (i := 11) (d := some 33) (v := ?v11_193) rfl rfl (by kernel_rfl) (by kernel_rfl) (by kernel_rfl) (by kernel_rfl) hQ (Or.inl ⟨by rfl, ?y11_193⟩) ?r11_193
  case y11_193 =>
    intro w' hSw
    have k00 := (bx.ext hSw).c4
    have k10 := (by_.ext hSw).c4
    have k20 := (bz.ext hSw).c4
    go_simp
    try with_reducible rfl
  try simp only [Act.put]
  try simp only [List.setIfInBounds_toArray]
  try simp only [List.set_cons_succ]
  try simp only [List.set_cons_zero]
  refine Late.take (i := 12) (d := some 34) (v := ?v12_194) rfl rfl (by kernel_rfl) (by kernel_rfl) (by kernel_rfl) (by kernel_rfl) hQ (Or.inl ⟨by rfl, ?y12_194⟩) ?r12_194
  case y12_194 =>
    intro w' hSw
    have k00 := (bx.ext hSw).c4
    have k10 := (by_.ext hSw).c4
    have k20 := (bz.ext hSw).c4
    go_simp
    try with_reducible rfl
  try simp only [Act.put]
  try simp only [List.setIfInBounds_toArray]
  try simp only [List.set_cons_succ]
  try simp only [List.set_cons_zero]
  refine Late.take (i := 13) (d := some 35) (v := ?v13_195) rfl rfl (by kernel_rfl) (by kernel_rfl) (by kernel_rfl) (by kernel_rfl) hQ (Or.inl ⟨by rfl, ?y13_195⟩) ?r13_195
  case y13_195 =>
    intro w' hSw
    have k00 := (bx.ext hSw).c4
    have k10 := (by_.ext hSw).c4
    have k20 := (bz.ext hSw).c4
    go_simp
    try with_reducible rfl
  try simp only [Act.put]
  try simp only [List.setIfInBounds_toArray]
  try simp only [List.set_cons_succ]
  try simp only [List.set_cons_zero]
  refine Late.take (i := 14) (d := some 36) (v := ?v14_196) rfl rfl (by kernel_rfl) (by kernel_rfl) (by kernel_rfl) (by kernel_rfl) hQ (Or.inl ⟨by rfl, ?y14_196⟩) ?r14_196
  case y14_196 =>
    intro w' hSw
    have k00 := (bx.ext hSw).c4
    have k10 := (by_.ext hSw).c4
    have k20 := (bz.ext hSw).c4
    go_simp
    try with_reducible rfl
  try simp only [Act.put]
  try simp only [List.setIfInBounds_toArray]
  try simp only [List.set_cons_succ]
  try simp only [List.set_cons_zero]
  refine Late.take (i := 15) (d := some 37) (v := ?v15_197) rfl rfl (by kernel_rfl) (by kernel_rfl) (by kernel_rfl) (by kernel_rfl) hQ (Or.inl ⟨by rfl, ?y15_197⟩) ?r15_197
  case y15_197 =>
    intro w' hSw
    have k00 := (bx.ext hSw).c4
    have k10 := (by_.ext hSw).c4
    have k20 := (bz.ext hSw).c4
    go_simp
    try with_reducible rfl
  try simp only [Act.put]
  try simp only [List.setIfInBounds_toArray]
  try simp only [List.set_cons_succ]
  try simp only [List.set_cons_zero]
  refine Late.call (i := 16) rfl (by kernel_rfl) hAl (by kernel_rfl) (by kernel_rfl) (by kernel_rfl) hQ (fun w16 e16 E16 K hK => ?_)
  go_simp
  (go_at_call 36; refine (p_CmpR (k.ext E16) (h.ext E16) (by omega) (by omega) (by omega)).mono ?_; rintro e wk16 ⟨rfl, hx16⟩; rw [HN.out])
  refine hK.out _ _ hx16 ?_
  clear hK K
  try simp only [Act.put]
  try simp only [List.setIfInBounds_toArray]
  try simp only [List.set_cons_succ]
  try simp only [List.set_cons_zero]
  refine Late.take (i := 17) (d := some 39) (v := ?v17_198) rfl rfl (by kernel_rfl) (by kernel_rfl) (by kernel_rfl) (by kernel_rfl) hQ (Or.inl ⟨by rfl, ?y17_198⟩) ?r17_198
  case y17_198 =>
    intro w' hSw
    have k00 := (bx.ext hSw).c4
    have k10 := (by_.ext hSw).c4
    have k20 := (bz.ext hSw).c4
    go_simp
    try with_reducible rfl
  try simp only [Act.put]
  try simp only [List.setIfInBounds_toArray]
  try simp only [List.set_cons_succ]
  try simp only [List.set_cons_zero]
  refine Late.take (i := 18) (d := some 40) (v := ?v18_199) rfl rfl (by kernel_rfl) (by kernel_rfl) (by kernel_rfl) (by kernel_rfl) hQ (Or.inl ⟨by rfl, ?y18_199⟩) ?r18_199
  case y18_199 =>
    intro w' hSw
    have k00 := (bx.ext hSw).c4
    have k10 := (by_.ext hSw).c4
    have k20 := (bz.ext hSw).c4
    go_simp
    try with_reducible rfl
  try simp only [Act.put]
  try simp only [List.setIfInBounds_toArray]
  try simp only [List.set_cons_succ]
  try simp only [List.set_cons_zero]
  refine Late.take (i := 19) (d := some 41) (v := ?v19_200) rfl rfl (by kernel_rfl) (by kernel_rfl) (by kernel_rfl) (by kernel_rfl) hQ (Or.inl ⟨by rfl, ?y19_200⟩) ?r19_200
  case y19_200 =>
    intro w' hSw
    have k00 := (bx.ext hSw).c4
    have k10 := (by_.ext hSw).c4
    have k20 := (bz.ext hSw).c4
    go_simp
    try with_reducible rfl
  try simp only [Act.put]
  try simp only [List.setIfInBounds_toArray]
  try simp only [List.set_cons_succ]
  try simp only [List.set_cons_zero]
  refine Late.take (i := 20) (d := some 42) (v := ?v20_201) rfl rfl (by kernel_rfl) (by kernel_rfl) (by kernel_rfl) (by kernel_rfl) hQ (Or.inl ⟨by rfl, ?y20_201⟩) ?r20_201
  case y20_201 =>
    intro w' hSw
    have k00 := (bx.ext hSw).c4
    have k10 := (by_.ext hSw).c4
    have k20 := (bz.ext hSw).c4
    go_simp
    try with_reducible rfl
  try simp only [Act.put]
  try simp only [List.setIfInBounds_toArray]
  try simp only [List.set_cons_succ]
  try simp only [List.set_cons_zero]
  refine Late.take (i := 21) (d := some 43) (v := ?v21_202) rfl rfl (by kernel_rfl) (by kernel_rfl) (by kernel_rfl) (by kernel_rfl) hQ (Or.inl ⟨by rfl, ?y21_202⟩) ?r21_202
  case y21_202 =>
    intro w' hSw
    have k00 := (bx.ext hSw).c4
    have k10 := (by_.ext hSw).c4
    have k20 := (bz.ext hSw).c4
    go_simp
    try with_reducible rfl
  try simp only [Act.put]
  try simp only [List.setIfInBounds_toArray]
  try simp only [List.set_cons_succ]
  try simp only [List.set_cons_zero]
  refine Late.take (i := 22) (d := some 44) (v := ?v22_203) rfl rfl (by kernel_rfl) (by kernel_rfl) (by kernel_rfl) (by kernel_rfl) hQ (Or.inl ⟨by rfl, ?y22_203⟩) ?r22_203
  case y22_203 =>
    intro w' hSw
    have k00 := (bx.ext hSw).c4
    have k10 := (by_.ext hSw).c4
    have k20 := (bz.ext hSw).c4
    go_simp
    try with_reducible rfl
  try simp only [Act.put]
  try simp only [List.setIfInBounds_toArray]
  try simp only [List.set_cons_succ]
  try simp only [List.set_cons_zero]
  refine Late.take (i := 23) (d := some 45) (v := ?v23_204) rfl rfl (by kernel_rfl) (by kernel_rfl) (by kernel_rfl) (by kernel_rfl) hQ (Or.inl ⟨by rfl, ?y23_204⟩) ?r23_204
  case y23_204 =>
    intro w' hSw
    have k00 := (bx.ext hSw).c4
    have k10 := (by_.ext hSw).c4
    have k20 := (bz.ext hSw).c4
    go_simp
    try with_reducible rfl
  try simp only [Act.put]
  try simp only [List.setIfInBounds_toArray]
  try simp only [List.set_cons_succ]
  try simp only [List.set_cons_zero]
  refine Late.call (i := 24) rfl (by kernel_rfl) hAl (by kernel_rfl) (by kernel_rfl) (by kernel_rfl) hQ (fun w24 e24 E24 K hK => ?_)
  go_simp
  (go_at_call 30; refine (p_SubR (h.ext E24) (k.ext E24) (by omega) (by omega) (by omega) (hT.ext (extW.trans E24))).mono ?_; rintro e wk24 ⟨s21_, A21_, n21_, c21_, t21_, B21_, m21_, d21_, rfl, r1, hx24⟩)
  refine hK.out _ _ hx24 ?_
  clear hK K
  try simp only [Act.put]
  try simp only [List.setIfInBounds_toArray]
  try simp only [List.set_cons_succ]
  try simp only [List.set_cons_zero]
  refine Late.call (i := 25) rfl (by kernel_rfl) hAl (by kernel_rfl) (by kernel_rfl) (by kernel_rfl) hQ (fun w25 e25 E25 K hK => ?_)
  go_simp
  (replace r1 := r1.ext e25; go_at_call 37; refine (p_SignR r1 (by omega)).mono ?_; rintro e wk25 ⟨rfl, hx25⟩; replace r1 := r1.ext hx25; rw [HD.out])
  refine hK.out _ _ hx25 ?_
  clear hK K
  try simp only [Act.put]
  try simp only [List.setIfInBounds_toArray]
  try simp only [List.set_cons_succ]
  try simp only [List.set_cons_zero]
  refine Late.take (i := 26) (d := some 48) (v := ?v26_205) rfl rfl (by kernel_rfl) (by kernel_rfl) (by kernel_rfl) (by kernel_rfl) hQ (Or.inl ⟨by rfl, ?y26_205⟩) ?r26_205
  case y26_205 =>
    intro w' hSw
    have k00 := (bx.ext hSw).c4
    have k10 := (by_.ext hSw).c4
    have k20 := (bz.ext hSw).c4
    go_simp
    try with_reducible rfl
  try simp only [Act.put]
  try simp only [List.setIfInBounds_toArray]
  try simp only [List.set_cons_succ]
  try simp only [List.set_cons_zero]
  refine Late.take (i := 27) (d := some 49) (v := ?v27_206) rfl rfl (by kernel_rfl) (by kernel_rfl) (by kernel_rfl) (by kernel_rfl) hQ (Or.inl ⟨by rfl, ?y27_206⟩) ?r27_206
  case y27_206 =>
    intro w' hSw
    have k00 := (bx.ext hSw).c4
    have k10 := (by_.ext hSw).c4
    have k20 := (bz.ext hSw).c4
    go_simp
    try with_reducible rfl
  try simp only [Act.put]
  try simp only [List.setIfInBounds_toArray]
  try simp only [List.set_cons_succ]
  try simp only [List.set_cons_zero]
  refine Late.done0 (by kernel_rfl) (fun wz ez Ez => ?_)
  clear hAl hQ ES
  replace bx := bx.ext Ez
  replace by_ := by_.ext Ez
  replace bz := bz.ext Ez
  replace h := h.ext Ez
  replace k := k.ext Ez
  replace j := j.ext Ez
  replace extW := extW.trans Ez
  clear Ez ez
  go_wp2_with fail
  have ES0 := Ext.refl wz
  refine wp_region_held_drew (S := Ext wz) (by kernel_rfl) ES0.drew (fun ES => ?_)
  clear ES0
  refine Late.start0 (fun _ _ _ _ _ => ⟨fun h => h, fun h => h⟩) ES (fun hAl hQ => ?_)
  refine Late.take (i := 0) (d := some 50) (v := ?v0_207) rfl rfl (by kernel_rfl) (by kernel_rfl) (by kernel_rfl) (by kernel_rfl) hQ (Or.inl ⟨by rfl, ?y0_207⟩) ?r0_207
  case y0_207 =>
    intro w' hSw
    have k00 := (bx.ext hSw).c4
    have k10 := (by_.ext hSw).c4
    have k20 := (bz.ext hSw).c4
    go_simp
    try with_reducible rfl
  try simp only [Act.put]
  try simp only [List.setIfInBounds_toArray]
  try simp only [List.set_cons_succ]
  try simp only [List.set_cons_zero]
  refine Late.take (i := 1) (d := some 51) (v := ?v1_208) rfl rfl (by kernel_rfl) (by kernel_rfl) (by kernel_rfl) (by kernel_rfl) hQ (Or.inl ⟨by rfl, ?y1_208⟩) ?r1_208
  case y1_208 =>
    intro w' hSw
    have k00 := (bx.ext hSw).c4
    have k10 := (by_.ext hSw).c4
    have k20 := (bz.ext hSw).c4
    go_simp
    try with_reducible rfl
  try simp only [Act.put]
  try simp only [List.setIfInBounds_toArray]
  try simp only [List.set_cons_succ]
  try simp only [List.set_cons_zero]
  refine Late.take (i := 3) (d := some 53) (v := ?v3_209) rfl rfl (by kernel_rfl) (by kernel_rfl) (by kernel_rfl) (by kernel_rfl) hQ (Or.inl ⟨by rfl, ?y3_209⟩) ?r3_209
  case y3_209 =>
    intro w' hSw
    have k00 := (bx.ext hSw).c4
    have k10 := (by_.ext hSw).c4
    have k20 := (bz.ext hSw).c4
    go_simp
    try with_reducible rfl
  try simp only [Act.put]
  try simp only [List.setIfInBounds_toArray]
  try simp only [List.set_cons_succ]
  try simp only [List.set_cons_zero]
  refine Late.take (i := 4) (d := some 54) (v := ?v4_210) rfl rfl (by kernel_rfl) (by kernel_rfl) (by kernel_rfl) (by kernel_rfl) hQ (Or.inl ⟨by rfl, ?y4_210⟩) ?r4_210
  case y4_210 =>
    intro w' hSw
    have k00 := (bx.ext hSw).c4
    have k10 := (by_.ext hSw).c4
    have k20 := (bz.ext hSw).c4
    go_simp
    try with_reducible rfl
  try simp only [Act.put]
  try simp only [List.setIfInBounds_toArray]
  try simp only [List.set_cons_succ]
  try simp only [List.set_cons_zero]
  refine Late.take (i := 7) (d := some 57) (v := ?v7_211) rfl rfl (by kernel_rfl) (by kernel_rfl) (by kernel_rfl) (by kernel_rfl) hQ (Or.inl ⟨by rfl, ?y7_211⟩) ?r7_211
  case y7_211 =>
    intro w' hSw
    have k00 := (bx.ext hSw).c4
    have k10 := (by_.ext hSw).c4
    have k20 := (bz.ext hSw).c4
    go_simp
    try with_reducible rfl
  try simp only [Act.put]
  try simp only [List.setIfInBounds_toArray]
  try simp only [List.set_cons_succ]
  try simp only [List.set_cons_zero]
  refine Late.call (i := 2) rfl (by kernel_rfl) hAl (by kernel_rfl) (by kernel_rfl) (by kernel_rfl) hQ (fun w2 e2 E2 K hK => ?_)
  go_simp
  (go_at_call 28; refine (p_AddR (h.ext E2) (j.ext E2) (by omega) (by omega) (by omega) (hT.ext (extW.trans E2))).mono ?_; rintro e wk2 ⟨s22_, A22_, n22_, c22_, t22_, B22_, m22_, d22_, rfl, r1, hx2⟩)
  refine hK.out _ _ hx2 ?_
  clear hK K
  try simp only [Act.put]
  try simp only [List.setIfInBounds_toArray]
  try simp only [List.set_cons_succ]
  try simp only [List.set_cons_zero]
  refine Late.call (i := 5) rfl (by kernel_rfl) hAl (by kernel_rfl) (by kernel_rfl) (by kernel_rfl) hQ (fun w5 e5 E5 K hK => ?_)
  go_simp
  (replace r1 := r1.ext e5; go_at_call 28; refine (p_AddR (k.ext E5) (j.ext E5) (by omega) (by omega) (by omega) (hT.ext (extW.trans E5))).mono ?_; rintro e wk5 ⟨s23_, A23_, n23_, c23_, t23_, B23_, m23_, d23_, rfl, r2, hx5⟩; replace r1 := r1.ext hx5)
  refine hK.out _ _ hx5 ?_
  clear hK K
  try simp only [Act.put]
  try simp only [List.setIfInBounds_toArray]
  try simp only [List.set_cons_succ]
  try simp only [List.set_cons_zero]
  refine Late.call (i := 6) rfl (by kernel_rfl) hAl (by kernel_rfl) (by kernel_rfl) (by kernel_rfl) hQ (fun w6 e6 E6 K hK => ?_)
  go_simp
  (replace r1 := r1.ext e6; replace r2 := r2.ext e6; go_at_call 36; refine (p_CmpR r1 r2 (by omega) (by omega) (by omega)).mono ?_; rintro e wk6 ⟨rfl, hx6⟩; replace r1 := r1.ext hx6; replace r2 := r2.ext hx6; rw [HA1.out])
  refine hK.out _ _ hx6 ?_
  clear hK K
  try simp only [Act.put]
  try simp only [List.setIfInBounds_toArray]
  try simp only [List.set_cons_succ]
  try simp only [List.set_cons_zero]
  refine Late.take (i := 8) (d := some 58) (v := ?v8_212) rfl rfl (by kernel_rfl) (by kernel_rfl) (by kernel_rfl) (by kernel_rfl) hQ (Or.inl ⟨by rfl, ?y8_212⟩) ?r8_212
  case y8_212 =>
    intro w' hSw
    have k00 := (bx.ext hSw).c4
    have k10 := (by_.ext hSw).c4
    have k20 := (bz.ext hSw).c4
    go_simp
    try with_reducible rfl
  try simp only [Act.put]
  try simp only [List.setIfInBounds_toArray]
  try simp only [List.set_cons_succ]
  try simp only [List.set_cons_zero]
  refine Late.take (i := 9) (d := some 59) (v := ?v9_213) rfl rfl (by kernel_rfl) (by kernel_rfl) (by kernel_rfl) (by kernel_rfl) hQ (Or.inl ⟨by rfl, ?y9_213⟩) ?r9_213
  case y9_213 =>
    intro w' hSw
    have k00 := (bx.ext hSw).c4
    have k10 := (by_.ext hSw).c4
    have k20 := (bz.ext hSw).c4
    go_simp
    try with_reducible rfl
  try simp only [Act.put]
  try simp only [List.setIfInBounds_toArray]
  try simp only [List.set_cons_succ]
  try simp only [List.set_cons_zero]
  refine Late.take (i := 10) (d := some 60) (v := ?v10_214) rfl rfl (by kernel_rfl) (by kernel_rfl) (by kernel_rfl) (by kernel_rfl) hQ (Or.inl ⟨by rfl, ?y10_214⟩) ?r10_214
  case y10_214 =>
    intro w' hSw
    have k00 := (bx.ext hSw).c4
    have k10 := (by_.ext hSw).c4
    have k20 := (bz.ext hSw).c4
    go_simp
    try with_reducible rfl
  try simp only [Act.put]
  try simp only [List.setIfInBounds_toArray]
  try simp only [List.set_cons_succ]
  try simp only [List.set_cons_zero]
  refine Late.take (i := 11) (d := some 61) (v := ?v11_215) rfl rfl (by kernel_rfl) (by kernel_rfl) (by kernel_rfl) (by kernel_rfl) hQ (Or.inl ⟨by rfl, ?y11_215⟩) ?r11_215
  case y11_215 =>
    intro w' hSw
    have k00 := (bx.ext hSw).c4
    have k10 := (by_.ext hSw).c4
    have k20 := (bz.ext hSw).c4
    go_simp
    try with_reducible rfl
  try simp only [Act.put]
  try simp only [List.setIfInBounds_toArray]
  try simp only [List.set_cons_succ]
  try simp only [List.set_cons_zero]
  refine Late.take (i := 13) (d := some 63) (v := ?v13_216) rfl rfl (by kernel_rfl) (by kernel_rfl) (by kernel_rfl) (by kernel_rfl) hQ (Or.inl ⟨by rfl, ?y13_216⟩) ?r13_216
  case y13_216 =>
    intro w' hSw
    have k00 := (bx.ext hSw).c4
    have k10 := (by_.ext hSw).c4
    have k20 := (bz.ext hSw).c4
    go_simp
    try with_reducible rfl
  try simp only [Act.put]
  try simp only [List.setIfInBounds_toArray]
  try simp only [List.set_cons_succ]
  try simp only [List.set_cons_zero]
  refine Late.take (i := 14) (d := some 64) (v := ?v14_217) rfl rfl (by kernel_rfl) (by kernel_rfl) (by kernel_rfl) (by kernel_rfl) hQ (Or.inl ⟨by rfl, ?y14_217⟩) ?r14_217
  case y14_217 =>
    intro w' hSw
    have k00 := (bx.ext hSw).c4
    have k10 := (by_.ext hSw).c4
    have k20 := (bz.ext hSw).c4
    go_simp
    try with_reducible rfl
  try simp only [Act.put]
  try simp only [List.setIfInBounds_toArray]
  try simp only [List.set_cons_succ]
  try simp only [List.set_cons_zero]
  refine Late.take (i := 17) (d := some 67) (v := ?v17_218) rfl rfl (by kernel_rfl) (by kernel_rfl) (by kernel_rfl) (by kernel_rfl) hQ (Or.inl ⟨by rfl, ?y17_218⟩) ?r17_218
  case y17_218 =>
    intro w' hSw
    have k00 := (bx.ext hSw).c4
    have k10 := (by_.ext hSw).c4
    have k20 := (bz.ext hSw).c4
    go_simp
    try with_reducible rfl
  try simp only [Act.put]
  try simp only [List.setIfInBounds_toArray]
  try simp only [List.set_cons_succ]
  try simp only [List.set_cons_zero]
  refine Late.take (i := 18) (d := some 68) (v := ?v18_219) rfl rfl (by kernel_rfl) (by kernel_rfl) (by kernel_rfl) (by kernel_rfl) hQ (Or.inl ⟨by rfl, ?y18_219⟩) ?r18_219
  case y18_219 =>
    intro w' hSw
    have k00 := (bx.ext hSw).c4
    have k10 := (by_.ext hSw).c4
    have k20 := (bz.ext hSw).c4
    go_simp
    try with_reducible rfl
  try simp only [Act.put]
  try simp only [List.setIfInBounds_toArray]
  try simp only [List.set_cons_succ]
  try simp only [List.set_cons_zero]
  refine Late.call (i := 12) rfl (by kernel_rfl) hAl (by kernel_rfl) (by kernel_rfl) (by kernel_rfl) hQ (fun w12 e12 E12 K hK => ?_)
  go_simp
  (replace r1 := r1.ext e12; replace r2 := r2.ext e12; go_at_call 34; refine (p_MulR (h.ext E12) (j.ext E12) (by omega) (by omega) (by omega) (hT.ext (extW.trans E12))).mono ?_; rintro e wk12 ⟨s24_, A24_, n24_, c24_, t24_, B24_, m24_, d24_, rfl, r3, hx12⟩; replace r1 := r1.ext hx12; replace r2 := r2.ext hx12)
  refine hK.out _ _ hx12 ?_
  clear hK K
  try simp only [Act.put]
  try simp only [List.setIfInBounds_toArray]
  try simp only [List.set_cons_succ]
  try simp only [List.set_cons_zero]
  refine Late.call (i := 15) rfl (by kernel_rfl) hAl (by kernel_rfl) (by kernel_rfl) (by kernel_rfl) hQ (fun w15 e15 E15 K hK => ?_)
  go_simp
  (replace r1 := r1.ext e15; replace r2 := r2.ext e15; replace r3 := r3.ext e15; go_at_call 34; refine (p_MulR (k.ext E15) (j.ext E15) (by omega) (by omega) (by omega) (hT.ext (extW.trans E15))).mono ?_; rintro e wk15 ⟨s25_, A25_, n25_, c25_, t25_, B25_, m25_, d25_, rfl, r4, hx15⟩; replace r1 := r1.ext hx15; replace r2 := r2.ext hx15; replace r3 := r3.ext hx15)
  refine hK.out _ _ hx15 ?_
  clear hK K
  try simp only [Act.put]
  try simp only [List.setIfInBounds_toArray]
  try simp only [List.set_cons_succ]
  try simp only [List.set_cons_zero]
  refine Late.call (i := 16) rfl (by kernel_rfl) hAl (by kernel_rfl) (by kernel_rfl) (by kernel_rfl) hQ (fun w16 e16 E16 K hK => ?_)
  go_simp
  (replace r1 := r1.ext e16; replace r2 := r2.ext e16; replace r3 := r3.ext e16; replace r4 := r4.ext e16; go_at_call 36; refine (p_CmpR r3 r4 (by omega) (by omega) (by omega)).mono ?_; rintro e wk16 ⟨rfl, hx16⟩; replace r1 := r1.ext hx16; replace r2 := r2.ext hx16; replace r3 := r3.ext hx16; replace r4 := r4.ext hx16; rw [HM1.out])
  refine hK.out _ _ hx16 ?_
  clear hK K
  try simp only [Act.put]
  try simp only [List.setIfInBounds_toArray]
  try simp only [List.set_cons_succ]
  try simp only [List.set_cons_zero]
  refine Late.call (i := 19) rfl (by kernel_rfl) hAl (by kernel_rfl) (by kernel_rfl) (by kernel_rfl) hQ (fun w19 e19 E19 K hK => ?_)
  go_simp
  (replace r1 := r1.ext e19; replace r2 := r2.ext e19; replace r3 := r3.ext e19; replace r4 := r4.ext e19; go_at_call 37; refine (p_SignR (j.ext E19) (by omega)).mono ?_; rintro e wk19 ⟨rfl, hx19⟩; replace r1 := r1.ext hx19; replace r2 := r2.ext hx19; replace r3 := r3.ext hx19; replace r4 := r4.ext hx19; rw [HT.out])
  refine hK.out _ _ hx19 ?_
  clear hK K
  try simp only [Act.put]
  try simp only [List.setIfInBounds_toArray]
  try simp only [List.set_cons_succ]
  try simp only [List.set_cons_zero]
  refine Late.take (i := 20) (d := some 70) (v := ?v20_220) rfl rfl (by kernel_rfl) (by kernel_rfl) (by kernel_rfl) (by kernel_rfl) hQ (Or.inl ⟨by rfl, ?y20_220⟩) ?r20_220
  case y20_220 =>
    intro w' hSw
    have k00 := (bx.ext hSw).c4
    have k10 := (by_.ext hSw).c4
    have k20 := (bz.ext hSw).c4
    go_simp
    try with_reducible rfl
  try simp only [Act.put]
  try simp only [List.setIfInBounds_toArray]
  try simp only [List.set_cons_succ]
  try simp only [List.set_cons_zero]
  refine Late.take (i := 21) (d := some 71) (v := ?v21_221) rfl rfl (by kernel_rfl) (by kernel_rfl) (by kernel_rfl) (by kernel_rfl) hQ (Or.inl ⟨by rfl, ?y21_221⟩) ?r21_221
  case y21_221 =>
    intro w' hSw
    have k00 := (bx.ext hSw).c4
    have k10 := (by_.ext hSw).c4
    have k20 := (bz.ext hSw).c4
    go_simp
    try with_reducible rfl
  try simp only [Act.put]
  try simp only [List.setIfInBounds_toArray]
  try simp only [List.set_cons_succ]
  try simp only [List.set_cons_zero]
  refine Late.take (i := 22) (d := some 72) (v := ?v22_222) rfl rfl (by kernel_rfl) (by kernel_rfl) (by kernel_rfl) (by kernel_rfl) hQ (Or.inl ⟨by rfl, ?y22_222⟩) ?r22_222
  case y22_222 =>
    intro w' hSw
    have k00 := (bx.ext hSw).c4
    have k10 := (by_.ext hSw).c4
    have k20 := (bz.ext hSw).c4
    go_simp
    try with_reducible rfl
  try simp only [Act.put]
  try simp only [List.setIfInBounds_toArray]
  try simp only [List.set_cons_succ]
  try simp only [List.set_cons_zero]
  refine Late.take (i := 23) (d := some 6) (v := ?v23_223) rfl rfl (by kernel_rfl) (by kernel_rfl) (by kernel_rfl) (by kernel_rfl) hQ (Or.inl ⟨by rfl, ?y23_223⟩) ?r23_223
  case y23_223 =>
    intro w' hSw
    have k00 := (bx.ext hSw).c4
    have k10 := (by_.ext hSw).c4
    have k20 := (bz.ext hSw).c4
    go_simp
    try with_reducible rfl
  try simp only [Act.put]
  try simp only [List.setIfInBounds_toArray]
  try simp only [List.set_cons_succ]
  try simp only [List.set_cons_zero]
  refine Late.done0 (by kernel_rfl) (fun wy ez Ez => ?_)
  clear hAl hQ ES
  go_wp2_with fail
  go_ret
  exact ⟨rfl, extW.trans Ez⟩
set_option maxHeartbeats 16000000 in
set_option maxRecDepth 100000 in
theorem order_zp (hA : Awake2) (hT : Tab w) (hP : TabP w) (h : NR w q 20 s A n c t B m d) (k : NR w p 20 s' A' n' c' t' B' m' d') (j : NR w r 20 u C l e0 u' D l' e') (hS : ratCmp q p = 0) (hC : r.num.sign = 1) :
    Calls Tryz.prog 6 #[.agg #[.bool s, .slice A n c, .bool t, .slice B m d], .agg #[.bool s', .slice A' n' c', .bool t', .slice B' m' d'], .agg #[.bool u, .slice C l e0, .bool u', .slice D l' e']] w fun e w' => e = .returned (.bool true) ∧ Ext w w' := by
  have HS := Lib.hid hS
  have HT := Lib.hid hC
  have HN := Lib.hid (show ratCmp p q = 0 by rw [ratCmp_swap, hS]; try rfl)
  have HD := Lib.hid (show (q - p).num.sign = 0 by rw [ratCmp_sub, hS])
  have HA1 := Lib.hid (show ratCmp (q + r) (p + r) = 0 by rw [ratCmp_add, hS])
  have HM1 := Lib.hid (show ratCmp (q * r) (p * r) = 0 by rw [ratCmp_mul, hS, hC]; rfl)
  have hw0 : IntKind.i64.wrap 0 = 0 := by decide
  have hw1 : IntKind.i64.wrap 1 = 1 := by decide
  have hw2 : IntKind.i64.wrap (-1) = -1 := by decide
  clear hS hC
  obtain ⟨xs, ys, ra0, rb0, hv0, hn0, hm0, _⟩ := h.raw
  obtain ⟨xs', ys', ra1, rb1, hv1, hn1, hm1, _⟩ := k.raw
  obtain ⟨zs, zs', ra2, rb2, hv2, hn2, hm2, _⟩ := j.raw
  have HF := Lib.hid (show (fewB n m s xs t ys && (fewB n' m' s' xs' t' ys' && (fewB l l' u zs u' zs'))) = true by unfold fewB; rw [decide_eq_true hn0, decide_eq_true hm0, hv0, decide_eq_true hn1, decide_eq_true hm1, hv1, decide_eq_true hn2, decide_eq_true hm2, hv2]; rfl)
  have hr0 := And.intro ra0 rb0
  have hr1 := And.intro ra1 rb1
  have hr2 := And.intro ra2 rb2
  clear ra0 rb0 hv0 hn0 hm0 ra1 rb1 hv1 hn1 hm1 ra2 rb2 hv2 hn2 hm2
  have HA := Lib.hid hA
  clear hA
  go_enter Tryz.func6, Tryz.ntmps6
  go_upto_region 1 with (fail)
  obtain ⟨W0, hW, extW, bx, by_, bz, hzz⟩ := box3 w 27 27 27 #[.bool s, .slice A n c, .bool t, .slice B m d] #[.bool s', .slice A' n' c', .bool t', .slice B' m' d'] #[.bool u, .slice C l e0, .bool u', .slice D l' e']
  rw [← hW]
  clear hW hzz
  go_wp2_with fail
  refine (HA.out _ (hT.ext extW) (hP.ext extW)).mono ?_
  rintro e W ⟨rfl, hxt⟩
  replace extW := extW.trans hxt
  replace bx := bx.ext hxt
  replace by_ := by_.ext hxt
  replace bz := bz.ext hxt
  clear hxt
  have bx0 := bx.cell 0 (.bool s) rfl
  have bx1 := bx.cell 1 (.slice A n c) rfl
  have bx2 := bx.cell 2 (.bool t) rfl
  have bx3 := bx.cell 3 (.slice B m d) rfl
  have by_0 := by_.cell 0 (.bool s') rfl
  have by_1 := by_.cell 1 (.slice A' n' c') rfl
  have by_2 := by_.cell 2 (.bool t') rfl
  have by_3 := by_.cell 3 (.slice B' m' d') rfl
  have bz0 := bz.cell 0 (.bool u) rfl
  have bz1 := bz.cell 1 (.slice C l e0) rfl
  have bz2 := bz.cell 2 (.bool u') rfl
  have bz3 := bz.cell 3 (.slice D l' e') rfl
  have hnb := Box.new W 27 #[.bool s, .slice A n c, .bool t, .slice B m d, .bool s', .slice A' n' c', .bool t', .slice B' m' d', .bool u, .slice C l e0, .bool u', .slice D l' e']
  have e1 := (Ext.refl W).alloc (.cells #[.bool s, .slice A n c, .bool t, .slice B m d, .bool s', .slice A' n' c', .bool t', .slice B' m' d', .bool u, .slice C l e0, .bool u', .slice D l' e'] 27)
  go_wp2_with fail
  refine (few3 hnb (hr0.1.ext (extW.trans e1)) (hr0.2.ext (extW.trans e1)) (hr1.1.ext (extW.trans e1)) (hr1.2.ext (extW.trans e1)) (hr2.1.ext (extW.trans e1)) (hr2.2.ext (extW.trans e1))).mono ?_
  rintro e W1 ⟨rfl, hxt⟩
  rw [HF.out]
  have ES := e1.trans hxt
  clear hnb e1 hxt
  clear bx0 bx1 bx2 bx3 by_0 by_1 by_2 by_3 bz0 bz1 bz2 bz3
  clear hr0 hr1 hr2 HF
  replace bx := bx.ext ES
  replace by_ := by_.ext ES
  replace bz := bz.ext ES
  replace extW := extW.trans ES
  replace h := h.ext extW
  replace k := k.ext extW
  replace j := j.ext extW
  clear ES
  have bx0 := bx.cell 0 (.bool s) rfl
  have bx1 := bx.cell 1 (.slice A n c) rfl
  have bx2 := bx.cell 2 (.bool t) rfl
  have bx3 := bx.cell 3 (.slice B m d) rfl
  have by_0 := by_.cell 0 (.bool s') rfl
  have by_1 := by_.cell 1 (.slice A' n' c') rfl
  have by_2 := by_.cell 2 (.bool t') rfl
  have by_3 := by_.cell 3 (.slice B' m' d') rfl
  go_wp2_with fail
  refine (p_CmpR h k (by omega) (by omega) (by omega)).mono ?_
  rintro e V ⟨rfl, hxd⟩
  rw [HS.out]
  replace bx := bx.ext hxd
  replace by_ := by_.ext hxd
  replace bz := bz.ext hxd
  replace h := h.ext hxd
  replace k := k.ext hxd
  replace j := j.ext hxd
  replace extW := extW.trans hxd
  clear hxd
  clear bx0 bx1 bx2 bx3 by_0 by_1 by_2 by_3
  go_wp2_with fail
  have ES0 := Ext.refl V
  refine wp_region_held_drew (S := Ext V) (by kernel_rfl) ES0.drew (fun ES => ?_)
  clear ES0
  refine Late.start0 (fun _ _ _ _ _ => ⟨fun h => h, fun h => h⟩) ES (fun hAl hQ => ?_)
  refine Late.take (i := 0) (d := some 22) (v := ?v0_224) rfl rfl (by kernel_rfl) (by kernel_rfl) (by kernel_rfl) (by kernel_rfl) hQ (Or.inl ⟨by rfl, ?y0_224⟩) ?r0_224
  case y0_224 =>
    intro w' hSw
    have k00 := (bx.ext hSw).c4
    have k10 := (by_.ext hSw).c4
    have k20 := (bz.ext hSw).c4
    go_simp
    try with_reducible rfl
  try simp only [Act.put]
  try simp only [List.setIfInBounds_toArray]
  try simp only [List.set_cons_succ]
  try simp only [List.set_cons_zero]
  refine Late.take (i := 2) (d := some 24) (v := ?v2_225) rfl rfl (by kernel_rfl) (by kernel_rfl) (by kernel_rfl) (by kernel_rfl) hQ (Or.inl ⟨by rfl, ?y2_225⟩) ?r2_225
  case y2_225 =>
    intro w' hSw
    have k00 := (bx.ext hSw).c4
    have k10 := (by_.ext hSw).c4
    have k20 := (bz.ext hSw).c4
    go_simp
    try with_reducible rfl
  try simp only [Act.put]
  try simp only [List.setIfInBounds_toArray]
  try simp only [List.set_cons_succ]
  try simp only [List.set_cons_zero]
  refine Late.call (i := 1) rfl (by kernel_rfl) hAl (by kernel_rfl) (by kernel_rfl) (by kernel_rfl) hQ (fun w1 e1 E1 K hK => ?_)
  go_simp
  (go_at_call 37; refine (p_SignR (h.ext E1) (by omega)).mono ?_; rintro e wk1 ⟨rfl, hx1⟩)
  refine hK.out _ _ hx1 ?_
  clear hK K
  try simp only [Act.put]
  try simp only [List.setIfInBounds_toArray]
  try simp only [List.set_cons_succ]
  try simp only [List.set_cons_zero]
  refine Late.call (i := 3) rfl (by kernel_rfl) hAl (by kernel_rfl) (by kernel_rfl) (by kernel_rfl) hQ (fun w3 e3 E3 K hK => ?_)
  go_simp
  (go_at_call 38; refine (q_SignR (h.ext E3) (by omega)).mono ?_; rintro e wk3 ⟨rfl, hx3⟩)
  refine hK.out _ _ hx3 ?_
  clear hK K
  try simp only [Act.put]
  try simp only [List.setIfInBounds_toArray]
  try simp only [List.set_cons_succ]
  try simp only [List.set_cons_zero]
  refine Late.take (i := 4) (d := some 26) (v := ?v4_226) rfl rfl (by kernel_rfl) (by kernel_rfl) (by kernel_rfl) (by kernel_rfl) hQ (Or.inl ⟨by rfl, ?y4_226⟩) ?r4_226
  case y4_226 =>
    intro w' hSw
    have k00 := (bx.ext hSw).c4
    have k10 := (by_.ext hSw).c4
    have k20 := (bz.ext hSw).c4
    go_simp
    try with_reducible rfl
  try simp only [Act.put]
  try simp only [List.setIfInBounds_toArray]
  try simp only [List.set_cons_succ]
  try simp only [List.set_cons_zero]
  refine Late.take (i := 5) (d := some 27) (v := ?v5_227) rfl rfl (by kernel_rfl) (by kernel_rfl) (by kernel_rfl) (by kernel_rfl) hQ (Or.inl ⟨by rfl, ?y5_227⟩) ?r5_227
  case y5_227 =>
    intro w' hSw
    have k00 := (bx.ext hSw).c4
    have k10 := (by_.ext hSw).c4
    have k20 := (bz.ext hSw).c4
    go_simp
    try with_reducible rfl
  try simp only [Act.put]
  try simp only [List.setIfInBounds_toArray]
  try simp only [List.set_cons_succ]
  try simp only [List.set_cons_zero]
  refine Late.take (i := 6) (d := some 28) (v := ?v6_228) rfl rfl (by kernel_rfl) (by kernel_rfl) (by kernel_rfl) (by kernel_rfl) hQ (Or.inl ⟨by rfl, ?y6_228⟩) ?r6_228
  case y6_228 =>
    intro w' hSw
    have k00 := (bx.ext hSw).c4
    have k10 := (by_.ext hSw).c4
    have k20 := (bz.ext hSw).c4
    go_simp
    try with_reducible rfl
  try simp only [Act.put]
  try simp only [List.setIfInBounds_toArray]
  try simp only [List.set_cons_succ]
  try simp only [List.set_cons_zero]
  refine Late.take (i := 7) (d := some 29) (v := ?v7_229) rfl rfl (by kernel_rfl) (by kernel_rfl) (by kernel_rfl) (by kernel_rfl) hQ (Or.inl ⟨by rfl, ?y7_229⟩) ?r7_229
  case y7_229 =>
    intro w' hSw
    have k00 := (bx.ext hSw).c4
    have k10 := (by_.ext hSw).c4
    have k20 := (bz.ext hSw).c4
    go_simp
    try with_reducible rfl
  try simp only [Act.put]
  try simp only [List.setIfInBounds_toArray]
  try simp only [List.set_cons_succ]
  try simp only [List.set_cons_zero]
  refine Late.take (i := 8) (d := some 30) (v := ?v8_230) rfl rfl (by kernel_rfl) (by kernel_rfl) (by kernel_rfl) (by kernel_rfl) hQ (Or.inl ⟨by rfl, ?y8_230⟩) ?r8_230
  case y8_230 =>
    intro w' hSw
    have k00 := (bx.ext hSw).c4
    have k10 := (by_.ext hSw).c4
    have k20 := (bz.ext hSw).c4
    go_simp
    try with_reducible rfl
  try simp only [Act.put]
  try simp only [List.setIfInBounds_toArray]
  try simp only [List.set_cons_succ]
  try simp only [List.set_cons_zero]
  refine Late.call (i := 9) rfl (by kernel_rfl) hAl (by kernel_rfl) (by kernel_rfl) (by kernel_rfl) hQ (fun w9 e9 E9 K hK => ?_)
  go_simp
  (go_at_call 39; refine (q_CmpR (h.ext E9) (k.ext E9) (by omega) (by omega)).mono ?_; rintro e wk9 ⟨rfl, hx9⟩; rw [HS.out])
  refine hK.out _ _ hx9 ?_
  clear hK K
  try simp only [Act.put]
  try simp only [List.setIfInBounds_toArray]
  try simp only [List.set_cons_succ]
  try simp only [List.set_cons_zero]
  refine Late.take (i := 10) (d := some 32) (v := ?v10_231) rfl rfl (by kernel_rfl) (by kernel_rfl) (by kernel_rfl) (by kernel_rfl) hQ (Or.inl ⟨by rfl, ?y10_231⟩) ?r10_231
  case y10_231 =>
    intro w' hSw
    have k00 := (bx.ext hSw).c4
    have k10 := (by_.ext hSw).c4
    have k20 := (bz.ext hSw).c4
    go_simp
    try with_reducible rfl
  try simp only [Act.put]
  try simp only [List.setIfInBounds_toArray]
  try simp only [List.set_cons_succ]
  try simp only [List.set_cons_zero]
  refine Late.take (i := 11) (d := some 33) (v := ?v11_232) rfl rfl (by kernel_rfl) (by kernel_rfl) (by kernel_rfl) (by kernel_rfl) hQ (Or.inl ⟨by rfl, ?y11_232⟩) ?r11_232
  case y11_232 =>
    intro w' hSw
    have k00 := (bx.ext hSw).c4
    have k10 := (by_.ext hSw).c4
    have k20 := (bz.ext hSw).c4
    go_simp
    try with_reducible rfl
  try simp only [Act.put]
  try simp only [List.setIfInBounds_toArray]
  try simp only [List.set_cons_succ]
  try simp only [List.set_cons_zero]
  refine Late.take (i := 12) (d := some 34) (v := ?v12_233) rfl rfl (by kernel_rfl) (by kernel_rfl) (by kernel_rfl) (by kernel_rfl) hQ (Or.inl ⟨by rfl, ?y12_233⟩) ?r12_233
  case y12_233 =>
    intro w' hSw
    have k00 := (bx.ext hSw).c4
    have k10 := (by_.ext hSw).c4
    have k20 := (bz.ext hSw).c4
    go_simp
    try with_reducible rfl
  try simp only [Act.put]
  try simp only [List.setIfInBounds_toArray]
  try simp only [List.set_cons_succ]
  try simp only [List.set_cons_zero]
  refine Late.take (i := 13) (d := some 35) (v := ?v13_234) rfl rfl (by kernel_rfl) (by kernel_rfl) (by kernel_rfl) (by kernel_rfl) hQ (Or.inl ⟨by rfl, ?y13_234⟩) ?r13_234
  case y13_234 =>
    intro w' hSw
    have k00 := (bx.ext hSw).c4
    have k10 := (by_.ext hSw).c4
    have k20 := (bz.ext hSw).c4
    go_simp
    try with_reducible rfl
  try simp only [Act.put]
  try simp only [List.setIfInBounds_toArray]
  try simp only [List.set_cons_succ]
  try simp only [List.set_cons_zero]
  refine Late.take (i := 14) (d := some 36) (v := ?v14_235) rfl rfl (by kernel_rfl) (by kernel_rfl) (by kernel_rfl) (by kernel_rfl) hQ (Or.inl ⟨by rfl, ?y14_235⟩) ?r14_235
  case y14_235 =>
    intro w' hSw
    have k00 := (bx.ext hSw).c4
    have k10 := (by_.ext hSw).c4
    have k20 := (bz.ext hSw).c4
    go_simp
    try with_reducible rfl
  try simp only [Act.put]
  try simp only [List.setIfInBounds_toArray]
  try simp only [List.set_cons_succ]
  try simp only [List.set_cons_zero]
  refine Late.take (i := 15) (d := some 37) (v := ?v15_236) rfl rfl (by kernel_rfl) (by kernel_rfl) (by kernel_rfl) (by kernel_rfl) hQ (Or.inl ⟨by rfl, ?y15_236⟩) ?r15_236
  case y15_236 =>
    intro w' hSw
    have k00 := (bx.ext hSw).c4
    have k10 := (by_.ext hSw).c4
    have k20 := (bz.ext hSw).c4
    go_simp
    try with_reducible rfl
  try simp only [Act.put]
  try simp only [List.setIfInBounds_toArray]
  try simp only [List.set_cons_succ]
  try simp only [List.set_cons_zero]
  refine Late.call (i := 16) rfl (by kernel_rfl) hAl (by kernel_rfl) (by kernel_rfl) (by kernel_rfl) hQ (fun w16 e16 E16 K hK => ?_)
  go_simp
  (go_at_call 36; refine (p_CmpR (k.ext E16) (h.ext E16) (by omega) (by omega) (by omega)).mono ?_; rintro e wk16 ⟨rfl, hx16⟩; rw [HN.out])
  refine hK.out _ _ hx16 ?_
  clear hK K
  try simp only [Act.put]
  try simp only [List.setIfInBounds_toArray]
  try simp only [List.set_cons_succ]
  try simp only [List.set_cons_zero]
  refine Late.take (i := 17) (d := some 39) (v := ?v17_237) rfl rfl (by kernel_rfl) (by kernel_rfl) (by kernel_rfl) (by kernel_rfl) hQ (Or.inl ⟨by rfl, ?y17_237⟩) ?r17_237
  case y17_237 =>
    intro w' hSw
    have k00 := (bx.ext hSw).c4
    have k10 := (by_.ext hSw).c4
    have k20 := (bz.ext hSw).c4
    go_simp
    try with_reducible rfl
  try simp only [Act.put]
  try simp only [List.setIfInBounds_toArray]
  try simp only [List.set_cons_succ]
  try simp only [List.set_cons_zero]
  refine Late.take (i := 18) (d := some 40) (v := ?v18_238) rfl rfl (by kernel_rfl) (by kernel_rfl) (by kernel_rfl) (by kernel_rfl) hQ (Or.inl ⟨by rfl, ?y18_238⟩) ?r18_238
  case y18_238 =>
    intro w' hSw
    have k00 := (bx.ext hSw).c4
    have k10 := (by_.ext hSw).c4
    have k20 := (bz.ext hSw).c4
    go_simp
    try with_reducible rfl
  try simp only [Act.put]
  try simp only [List.setIfInBounds_toArray]
  try simp only [List.set_cons_succ]
  try simp only [List.set_cons_zero]
  refine Late.take (i := 19) (d := some 41) (v := ?v19_239) rfl rfl (by kernel_rfl) (by kernel_rfl) (by kernel_rfl) (by kernel_rfl) hQ (Or.inl ⟨by rfl, ?y19_239⟩) ?r19_239
  case y19_239 =>
    intro w' hSw
    have k00 := (bx.ext hSw).c4
    have k10 := (by_.ext hSw).c4
    have k20 := (bz.ext hSw).c4
    go_simp
    try with_reducible rfl
  try simp only [Act.put]
  try simp only [List.setIfInBounds_toArray]
  try simp only [List.set_cons_succ]
  try simp only [List.set_cons_zero]
  refine Late.take (i := 20) (d := some 42) (v := ?v20_240) rfl rfl (by kernel_rfl) (by kernel_rfl) (by kernel_rfl) (by kernel_rfl) hQ (Or.inl ⟨by rfl, ?y20_240⟩) ?r20_240
  case y20_240 =>
    intro w' hSw
    have k00 := (bx.ext hSw).c4
    have k10 := (by_.ext hSw).c4
    have k20 := (bz.ext hSw).c4
    go_simp
    try with_reducible rfl
  try simp only [Act.put]
  try simp only [List.setIfInBounds_toArray]
  try simp only [List.set_cons_succ]
  try simp only [List.set_cons_zero]
  refine Late.take (i := 21) (d := some 43) (v := ?v21_241) rfl rfl (by kernel_rfl) (by kernel_rfl) (by kernel_rfl) (by kernel_rfl) hQ (Or.inl ⟨by rfl, ?y21_241⟩) ?r21_241
  case y21_241 =>
    intro w' hSw
    have k00 := (bx.ext hSw).c4
    have k10 := (by_.ext hSw).c4
    have k20 := (bz.ext hSw).c4
    go_simp
    try with_reducible rfl
  try simp only [Act.put]
  try simp only [List.setIfInBounds_toArray]
  try simp only [List.set_cons_succ]
  try simp only [List.set_cons_zero]
  refine Late.take (i := 22) (d := some 44) (v := ?v22_242) rfl rfl (by kernel_rfl) (by kernel_rfl) (by kernel_rfl) (by kernel_rfl) hQ (Or.inl ⟨by rfl, ?y22_242⟩) ?r22_242
  case y22_242 =>
    intro w' hSw
    have k00 := (bx.ext hSw).c4
    have k10 := (by_.ext hSw).c4
    have k20 := (bz.ext hSw).c4
    go_simp
    try with_reducible rfl
  try simp only [Act.put]
  try simp only [List.setIfInBounds_toArray]
  try simp only [List.set_cons_succ]
  try simp only [List.set_cons_zero]
  refine Late.take (i := 23) (d := some 45) (v := ?v23_243) rfl rfl (by kernel_rfl) (by kernel_rfl) (by kernel_rfl) (by kernel_rfl) hQ (Or.inl ⟨by rfl, ?y23_243⟩) ?r23_243
  case y23_243 =>
    intro w' hSw
    have k00 := (bx.ext hSw).c4
    have k10 := (by_.ext hSw).c4
    have k20 := (bz.ext hSw).c4
    go_simp
    try with_reducible rfl
  try simp only [Act.put]
  try simp only [List.setIfInBounds_toArray]
  try simp only [List.set_cons_succ]
  try simp only [List.set_cons_zero]
  refine Late.call (i := 24) rfl (by kernel_rfl) hAl (by kernel_rfl) (by kernel_rfl) (by kernel_rfl) hQ (fun w24 e24 E24 K hK => ?_)
  go_simp
  (go_at_call 30; refine (p_SubR (h.ext E24) (k.ext E24) (by omega) (by omega) (by omega) (hT.ext (extW.trans E24))).mono ?_; rintro e wk24 ⟨s26_, A26_, n26_, c26_, t26_, B26_, m26_, d26_, rfl, r1, hx24⟩)
  refine hK.out _ _ hx24 ?_
  clear hK K
  try simp only [Act.put]
  try simp only [List.setIfInBounds_toArray]
  try simp only [List.set_cons_succ]
  try simp only [List.set_cons_zero]
  refine Late.call (i := 25) rfl (by kernel_rfl) hAl (by kernel_rfl) (by kernel_rfl) (by kernel_rfl) hQ (fun w25 e25 E25 K hK => ?_)
  go_simp
  (replace r1 := r1.ext e25; go_at_call 37; refine (p_SignR r1 (by omega)).mono ?_; rintro e wk25 ⟨rfl, hx25⟩; replace r1 := r1.ext hx25; rw [HD.out])
  refine hK.out _ _ hx25 ?_
  clear hK K
  try simp only [Act.put]
  try simp only [List.setIfInBounds_toArray]
  try simp only [List.set_cons_succ]
  try simp only [List.set_cons_zero]
  refine Late.take (i := 26) (d := some 48) (v := ?v26_244) rfl rfl (by kernel_rfl) (by kernel_rfl) (by kernel_rfl) (by kernel_rfl) hQ (Or.inl ⟨by rfl, ?y26_244⟩) ?r26_244
  case y26_244 =>
    intro w' hSw
    have k00 := (bx.ext hSw).c4
    have k10 := (by_.ext hSw).c4
    have k20 := (bz.ext hSw).c4
    go_simp
    try with_reducible rfl
  try simp only [Act.put]
  try simp only [List.setIfInBounds_toArray]
  try simp only [List.set_cons_succ]
  try simp only [List.set_cons_zero]
  refine Late.take (i := 27) (d := some 49) (v := ?v27_245) rfl rfl (by kernel_rfl) (by kernel_rfl) (by kernel_rfl) (by kernel_rfl) hQ (Or.inl ⟨by rfl, ?y27_245⟩) ?r27_245
  case y27_245 =>
    intro w' hSw
    have k00 := (bx.ext hSw).c4
    have k10 := (by_.ext hSw).c4
    have k20 := (bz.ext hSw).c4
    go_simp
    try with_reducible rfl
  try simp only [Act.put]
  try simp only [List.setIfInBounds_toArray]
  try simp only [List.set_cons_succ]
  try simp only [List.set_cons_zero]
  refine Late.done0 (by kernel_rfl) (fun wz ez Ez => ?_)
  clear hAl hQ ES
  replace bx := bx.ext Ez
  replace by_ := by_.ext Ez
  replace bz := bz.ext Ez
  replace h := h.ext Ez
  replace k := k.ext Ez
  replace j := j.ext Ez
  replace extW := extW.trans Ez
  clear Ez ez
  go_wp2_with fail
  have ES0 := Ext.refl wz
  refine wp_region_held_drew (S := Ext wz) (by kernel_rfl) ES0.drew (fun ES => ?_)
  clear ES0
  refine Late.start0 (fun _ _ _ _ _ => ⟨fun h => h, fun h => h⟩) ES (fun hAl hQ => ?_)
  refine Late.take (i := 0) (d := some 50) (v := ?v0_246) rfl rfl (by kernel_rfl) (by kernel_rfl) (by kernel_rfl) (by kernel_rfl) hQ (Or.inl ⟨by rfl, ?y0_246⟩) ?r0_246
  case y0_246 =>
    intro w' hSw
    have k00 := (bx.ext hSw).c4
    have k10 := (by_.ext hSw).c4
    have k20 := (bz.ext hSw).c4
    go_simp
    try with_reducible rfl
  try simp only [Act.put]
  try simp only [List.setIfInBounds_toArray]
  try simp only [List.set_cons_succ]
  try simp only [List.set_cons_zero]
  refine Late.take (i := 1) (d := some 51) (v := ?v1_247) rfl rfl (by kernel_rfl) (by kernel_rfl) (by kernel_rfl) (by kernel_rfl) hQ (Or.inl ⟨by rfl, ?y1_247⟩) ?r1_247
  case y1_247 =>
    intro w' hSw
    have k00 := (bx.ext hSw).c4
    have k10 := (by_.ext hSw).c4
    have k20 := (bz.ext hSw).c4
    go_simp
    try with_reducible rfl
  try simp only [Act.put]
  try simp only [List.setIfInBounds_toArray]
  try simp only [List.set_cons_succ]
  try simp only [List.set_cons_zero]
  refine Late.take (i := 3) (d := some 53) (v := ?v3_248) rfl rfl (by kernel_rfl) (by kernel_rfl) (by kernel_rfl) (by kernel_rfl) hQ (Or.inl ⟨by rfl, ?y3_248⟩) ?r3_248
  case y3_248 =>
    intro w' hSw
    have k00 := (bx.ext hSw).c4
    have k10 := (by_.ext hSw).c4
    have k20 := (bz.ext hSw).c4
    go_simp
    try with_reducible rfl
  try simp only [Act.put]
  try simp only [List.setIfInBounds_toArray]
  try simp only [List.set_cons_succ]
  try simp only [List.set_cons_zero]
  refine Late.take (i := 4) (d := some 54) (v := ?v4_249) rfl rfl (by kernel_rfl) (by kernel_rfl) (by kernel_rfl) (by kernel_rfl) hQ (Or.inl ⟨by rfl, ?y4_249⟩) ?r4_249
  case y4_249 =>
    intro w' hSw
    have k00 := (bx.ext hSw).c4
    have k10 := (by_.ext hSw).c4
    have k20 := (bz.ext hSw).c4
    go_simp
    try with_reducible rfl
  try simp only [Act.put]
  try simp only [List.setIfInBounds_toArray]
  try simp only [List.set_cons_succ]
  try simp only [List.set_cons_zero]
  refine Late.take (i := 7) (d := some 57) (v := ?v7_250) rfl rfl (by kernel_rfl) (by kernel_rfl) (by kernel_rfl) (by kernel_rfl) hQ (Or.inl ⟨by rfl, ?y7_250⟩) ?r7_250
  case y7_250 =>
    intro w' hSw
    have k00 := (bx.ext hSw).c4
    have k10 := (by_.ext hSw).c4
    have k20 := (bz.ext hSw).c4
    go_simp
    try with_reducible rfl
  try simp only [Act.put]
  try simp only [List.setIfInBounds_toArray]
  try simp only [List.set_cons_succ]
  try simp only [List.set_cons_zero]
  refine Late.call (i := 2) rfl (by kernel_rfl) hAl (by kernel_rfl) (by kernel_rfl) (by kernel_rfl) hQ (fun w2 e2 E2 K hK => ?_)
  go_simp
  (go_at_call 28; refine (p_AddR (h.ext E2) (j.ext E2) (by omega) (by omega) (by omega) (hT.ext (extW.trans E2))).mono ?_; rintro e wk2 ⟨s27_, A27_, n27_, c27_, t27_, B27_, m27_, d27_, rfl, r1, hx2⟩)
  refine hK.out _ _ hx2 ?_
  clear hK K
  try simp only [Act.put]
  try simp only [List.setIfInBounds_toArray]
  try simp only [List.set_cons_succ]
  try simp only [List.set_cons_zero]
  refine Late.call (i := 5) rfl (by kernel_rfl) hAl (by kernel_rfl) (by kernel_rfl) (by kernel_rfl) hQ (fun w5 e5 E5 K hK => ?_)
  go_simp
  (replace r1 := r1.ext e5; go_at_call 28; refine (p_AddR (k.ext E5) (j.ext E5) (by omega) (by omega) (by omega) (hT.ext (extW.trans E5))).mono ?_; rintro e wk5 ⟨s28_, A28_, n28_, c28_, t28_, B28_, m28_, d28_, rfl, r2, hx5⟩; replace r1 := r1.ext hx5)
  refine hK.out _ _ hx5 ?_
  clear hK K
  try simp only [Act.put]
  try simp only [List.setIfInBounds_toArray]
  try simp only [List.set_cons_succ]
  try simp only [List.set_cons_zero]
  refine Late.call (i := 6) rfl (by kernel_rfl) hAl (by kernel_rfl) (by kernel_rfl) (by kernel_rfl) hQ (fun w6 e6 E6 K hK => ?_)
  go_simp
  (replace r1 := r1.ext e6; replace r2 := r2.ext e6; go_at_call 36; refine (p_CmpR r1 r2 (by omega) (by omega) (by omega)).mono ?_; rintro e wk6 ⟨rfl, hx6⟩; replace r1 := r1.ext hx6; replace r2 := r2.ext hx6; rw [HA1.out])
  refine hK.out _ _ hx6 ?_
  clear hK K
  try simp only [Act.put]
  try simp only [List.setIfInBounds_toArray]
  try simp only [List.set_cons_succ]
  try simp only [List.set_cons_zero]
  refine Late.take (i := 8) (d := some 58) (v := ?v8_251) rfl rfl (by kernel_rfl) (by kernel_rfl) (by kernel_rfl) (by kernel_rfl) hQ (Or.inl ⟨by rfl, ?y8_251⟩) ?r8_251
  case y8_251 =>
    intro w' hSw
    have k00 := (bx.ext hSw).c4
    have k10 := (by_.ext hSw).c4
    have k20 := (bz.ext hSw).c4
    go_simp
    try with_reducible rfl
  try simp only [Act.put]
  try simp only [List.setIfInBounds_toArray]
  try simp only [List.set_cons_succ]
  try simp only [List.set_cons_zero]
  refine Late.take (i := 9) (d := some 59) (v := ?v9_252) rfl rfl (by kernel_rfl) (by kernel_rfl) (by kernel_rfl) (by kernel_rfl) hQ (Or.inl ⟨by rfl, ?y9_252⟩) ?r9_252
  case y9_252 =>
    intro w' hSw
    have k00 := (bx.ext hSw).c4
    have k10 := (by_.ext hSw).c4
    have k20 := (bz.ext hSw).c4
    go_simp
    try with_reducible rfl
  try simp only [Act.put]
  try simp only [List.setIfInBounds_toArray]
  try simp only [List.set_cons_succ]
  try simp only [List.set_cons_zero]
  refine Late.take (i := 10) (d := some 60) (v := ?v10_253) rfl rfl (by kernel_rfl) (by kernel_rfl) (by kernel_rfl) (by kernel_rfl) hQ (Or.inl ⟨by rfl, ?y10_253⟩) ?r10_253
  case y10_253 =>
    intro w' hSw
    have k00 := (bx.ext hSw).c4
    have k10 := (by_.ext hSw).c4
    have k20 := (bz.ext hSw).c4
    go_simp
    try with_reducible rfl
  try simp only [Act.put]
  try simp only [List.setIfInBounds_toArray]
  try simp only [List.set_cons_succ]
  try simp only [List.set_cons_zero]
  refine Late.take (i := 11) (d := some 61) (v := ?v11_254) rfl rfl (by kernel_rfl) (by kernel_rfl) (by kernel_rfl) (by kernel_rfl) hQ (Or.inl ⟨by rfl, ?y11_254⟩) ?r11_254
  case y11_254 =>
    intro w' hSw
    have k00 := (bx.ext hSw).c4
    have k10 := (by_.ext hSw).c4
    have k20 := (bz.ext hSw).c4
    go_simp
    try with_reducible rfl
  try simp only [Act.put]
  try simp only [List.setIfInBounds_toArray]
  try simp only [List.set_cons_succ]
  try simp only [List.set_cons_zero]
  refine Late.take (i := 13) (d := some 63) (v := ?v13_255) rfl rfl (by kernel_rfl) (by kernel_rfl) (by kernel_rfl) (by kernel_rfl) hQ (Or.inl ⟨by rfl, ?y13_255⟩) ?r13_255
  case y13_255 =>
    intro w' hSw
    have k00 := (bx.ext hSw).c4
    have k10 := (by_.ext hSw).c4
    have k20 := (bz.ext hSw).c4
    go_simp
    try with_reducible rfl
  try simp only [Act.put]
  try simp only [List.setIfInBounds_toArray]
  try simp only [List.set_cons_succ]
  try simp only [List.set_cons_zero]
  refine Late.take (i := 14) (d := some 64) (v := ?v14_256) rfl rfl (by kernel_rfl) (by kernel_rfl) (by kernel_rfl) (by kernel_rfl) hQ (Or.inl ⟨by rfl, ?y14_256⟩) ?r14_256
  case y14_256 =>
    intro w' hSw
    have k00 := (bx.ext hSw).c4
    have k10 := (by_.ext hSw).c4
    have k20 := (bz.ext hSw).c4
    go_simp
    try with_reducible rfl
  try simp only [Act.put]
  try simp only [List.setIfInBounds_toArray]
  try simp only [List.set_cons_succ]
  try simp only [List.set_cons_zero]
  refine Late.take (i := 17) (d := some 67) (v := ?v17_257) rfl rfl (by kernel_rfl) (by kernel_rfl) (by kernel_rfl) (by kernel_rfl) hQ (Or.inl ⟨by rfl, ?y17_257⟩) ?r17_257
  case y17_257 =>
    intro w' hSw
    have k00 := (bx.ext hSw).c4
    have k10 := (by_.ext hSw).c4
    have k20 := (bz.ext hSw).c4
    go_simp
    try with_reducible rfl
  try simp only [Act.put]
  try simp only [List.setIfInBounds_toArray]
  try simp only [List.set_cons_succ]
  try simp only [List.set_cons_zero]
  refine Late.take (i := 18) (d := some 68) (v := ?v18_258) rfl rfl (by kernel_rfl) (by kernel_rfl) (by kernel_rfl) (by kernel_rfl) hQ (Or.inl ⟨by rfl, ?y18_258⟩) ?r18_258
  case y18_258 =>
    intro w' hSw
    have k00 := (bx.ext hSw).c4
    have k10 := (by_.ext hSw).c4
    have k20 := (bz.ext hSw).c4
    go_simp
    try with_reducible rfl
  try simp only [Act.put]
  try simp only [List.setIfInBounds_toArray]
  try simp only [List.set_cons_succ]
  try simp only [List.set_cons_zero]
  refine Late.call (i := 12) rfl (by kernel_rfl) hAl (by kernel_rfl) (by kernel_rfl) (by kernel_rfl) hQ (fun w12 e12 E12 K hK => ?_)
  go_simp
  (replace r1 := r1.ext e12; replace r2 := r2.ext e12; go_at_call 34; refine (p_MulR (h.ext E12) (j.ext E12) (by omega) (by omega) (by omega) (hT.ext (extW.trans E12))).mono ?_; rintro e wk12 ⟨s29_, A29_, n29_, c29_, t29_, B29_, m29_, d29_, rfl, r3, hx12⟩; replace r1 := r1.ext hx12; replace r2 := r2.ext hx12)
  refine hK.out _ _ hx12 ?_
  clear hK K
  try simp only [Act.put]
  try simp only [List.setIfInBounds_toArray]
  try simp only [List.set_cons_succ]
  try simp only [List.set_cons_zero]
  refine Late.call (i := 15) rfl (by kernel_rfl) hAl (by kernel_rfl) (by kernel_rfl) (by kernel_rfl) hQ (fun w15 e15 E15 K hK => ?_)
  go_simp
  (replace r1 := r1.ext e15; replace r2 := r2.ext e15; replace r3 := r3.ext e15; go_at_call 34; refine (p_MulR (k.ext E15) (j.ext E15) (by omega) (by omega) (by omega) (hT.ext (extW.trans E15))).mono ?_; rintro e wk15 ⟨s30_, A30_, n30_, c30_, t30_, B30_, m30_, d30_, rfl, r4, hx15⟩; replace r1 := r1.ext hx15; replace r2 := r2.ext hx15; replace r3 := r3.ext hx15)
  refine hK.out _ _ hx15 ?_
  clear hK K
  try simp only [Act.put]
  try simp only [List.setIfInBounds_toArray]
  try simp only [List.set_cons_succ]
  try simp only [List.set_cons_zero]
  refine Late.call (i := 16) rfl (by kernel_rfl) hAl (by kernel_rfl) (by kernel_rfl) (by kernel_rfl) hQ (fun w16 e16 E16 K hK => ?_)
  go_simp
  (replace r1 := r1.ext e16; replace r2 := r2.ext e16; replace r3 := r3.ext e16; replace r4 := r4.ext e16; go_at_call 36; refine (p_CmpR r3 r4 (by omega) (by omega) (by omega)).mono ?_; rintro e wk16 ⟨rfl, hx16⟩; replace r1 := r1.ext hx16; replace r2 := r2.ext hx16; replace r3 := r3.ext hx16; replace r4 := r4.ext hx16; rw [HM1.out])
  refine hK.out _ _ hx16 ?_
  clear hK K
  try simp only [Act.put]
  try simp only [List.setIfInBounds_toArray]
  try simp only [List.set_cons_succ]
  try simp only [List.set_cons_zero]
  refine Late.call (i := 19) rfl (by kernel_rfl) hAl (by kernel_rfl) (by kernel_rfl) (by kernel_rfl) hQ (fun w19 e19 E19 K hK => ?_)
  go_simp
  (replace r1 := r1.ext e19; replace r2 := r2.ext e19; replace r3 := r3.ext e19; replace r4 := r4.ext e19; go_at_call 37; refine (p_SignR (j.ext E19) (by omega)).mono ?_; rintro e wk19 ⟨rfl, hx19⟩; replace r1 := r1.ext hx19; replace r2 := r2.ext hx19; replace r3 := r3.ext hx19; replace r4 := r4.ext hx19; rw [HT.out])
  refine hK.out _ _ hx19 ?_
  clear hK K
  try simp only [Act.put]
  try simp only [List.setIfInBounds_toArray]
  try simp only [List.set_cons_succ]
  try simp only [List.set_cons_zero]
  refine Late.take (i := 20) (d := some 70) (v := ?v20_259) rfl rfl (by kernel_rfl) (by kernel_rfl) (by kernel_rfl) (by kernel_rfl) hQ (Or.inl ⟨by rfl, ?y20_259⟩) ?r20_259
  case y20_259 =>
    intro w' hSw
    have k00 := (bx.ext hSw).c4
    have k10 := (by_.ext hSw).c4
    have k20 := (bz.ext hSw).c4
    go_simp
    try with_reducible rfl
  try simp only [Act.put]
  try simp only [List.setIfInBounds_toArray]
  try simp only [List.set_cons_succ]
  try simp only [List.set_cons_zero]
  refine Late.take (i := 21) (d := some 71) (v := ?v21_260) rfl rfl (by kernel_rfl) (by kernel_rfl) (by kernel_rfl) (by kernel_rfl) hQ (Or.inl ⟨by rfl, ?y21_260⟩) ?r21_260
  case y21_260 =>
    intro w' hSw
    have k00 := (bx.ext hSw).c4
    have k10 := (by_.ext hSw).c4
    have k20 := (bz.ext hSw).c4
    go_simp
    try with_reducible rfl
  try simp only [Act.put]
  try simp only [List.setIfInBounds_toArray]
  try simp only [List.set_cons_succ]
  try simp only [List.set_cons_zero]
  refine Late.take (i := 22) (d := some 72) (v := ?v22_261) rfl rfl (by kernel_rfl) (by kernel_rfl) (by kernel_rfl) (by kernel_rfl) hQ (Or.inl ⟨by rfl, ?y22_261⟩) ?r22_261
  case y22_261 =>
    intro w' hSw
    have k00 := (bx.ext hSw).c4
    have k10 := (by_.ext hSw).c4
    have k20 := (bz.ext hSw).c4
    go_simp
    try with_reducible rfl
  try simp only [Act.put]
  try simp only [List.setIfInBounds_toArray]
  try simp only [List.set_cons_succ]
  try simp only [List.set_cons_zero]
  refine Late.take (i := 23) (d := some 6) (v := ?v23_262) rfl rfl (by kernel_rfl) (by kernel_rfl) (by kernel_rfl) (by kernel_rfl) hQ (Or.inl ⟨by rfl, ?y23_262⟩) ?r23_262
  case y23_262 =>
    intro w' hSw
    have k00 := (bx.ext hSw).c4
    have k10 := (by_.ext hSw).c4
    have k20 := (bz.ext hSw).c4
    go_simp
    try with_reducible rfl
  try simp only [Act.put]
  try simp only [List.setIfInBounds_toArray]
  try simp only [List.set_cons_succ]
  try simp only [List.set_cons_zero]
  refine Late.done0 (by kernel_rfl) (fun wy ez Ez => ?_)
  clear hAl hQ ES
  go_wp2_with fail
  go_ret
  exact ⟨rfl, extW.trans Ez⟩
end
end Go.Proofs.YtiioodgpkdbndaaGreatDoor
