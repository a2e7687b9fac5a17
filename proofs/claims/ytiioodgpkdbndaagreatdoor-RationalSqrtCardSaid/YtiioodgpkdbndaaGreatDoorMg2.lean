/- For every number the law RationalSqrt returns true: Sqrt returns the rational square root exactly if there is one, the square of each number has one, the arguments keep their values, and the examples of the chapter hold. Condition: the five listed tables of Go's library hold what their initialisers lay (tied by the given card). -/
import Derived.Test.YtiioodgpkdbndaaGreatDoorM0
import Derived.Test.YtiioodgpkdbndaaGreatDoorM1
import Derived.Test.YtiioodgpkdbndaaGreatDoorM2
import Derived.Test.YtiioodgpkdbndaaGreatDoorM3
import Derived.Test.YtiioodgpkdbndaaGreatDoorM4
import Derived.Test.YtiioodgpkdbndaaGreatDoorM5
import Derived.Test.YtiioodgpkdbndaaGreatDoorM6
import Derived.Test.YtiioodgpkdbndaaGreatDoorM7
import Derived.Test.YtiioodgpkdbndaaGreatDoorM8
import Derived.Test.YtiioodgpkdbndaaGreatDoorM9
import Derived.Test.YtiioodgpkdbndaaGreatDoorMg0
import Derived.Test.YtiioodgpkdbndaaGreatDoorMg1
namespace Go.Proofs.YtiioodgpkdbndaaGreatDoor
open Go.RowKit
attribute [local go_sem ↓] Go.wp_at_zero Go.wp_at_succ
theorem gcd_sq {a b : Int} {q : Rat} (h1 : a * a = q.num) (h2 : b * b = (q.den : Int)) : Nat.gcd a.natAbs b.natAbs = 1 := by
  have hr := q.reduced
  unfold Nat.Coprime at hr
  have e1 : q.num.natAbs = a.natAbs * a.natAbs := by rw [← h1, Int.natAbs_mul]
  have e2 : q.den = b.natAbs * b.natAbs := by
    have := congrArg Int.natAbs h2
    rw [Int.natAbs_mul, Int.natAbs_natCast] at this
    exact this.symm
  have h3 : Nat.gcd a.natAbs b.natAbs ∣ Nat.gcd q.num.natAbs q.den := by
    rw [e1, e2]
    exact Nat.dvd_gcd (Nat.dvd_trans (Nat.gcd_dvd_left _ _) (Nat.dvd_mul_right _ _)) (Nat.dvd_trans (Nat.gcd_dvd_right _ _) (Nat.dvd_mul_right _ _))
  rw [hr] at h3
  exact Nat.eq_one_of_dvd_one h3
/-- the square root in lowest terms. -/
theorem sqrt_rat {a b : Int} {q : Rat} (hb : 0 ≤ b) (h1 : a * a = q.num) (h2 : b * b = (q.den : Int)) : ∃ p : Rat, p.num = a ∧ (p.den : Int) = b := by
  have hd := rat_den_pos q
  have hb0 : b ≠ 0 := by rintro rfl; omega
  have hg := gcd_sq h1 h2
  have e : b.natAbs = b.toNat := by omega
  refine ⟨⟨a, b.toNat, by omega, by rw [← e]; exact hg⟩, rfl, ?_⟩
  show ((b.toNat : Nat) : Int) = b
  omega
def HasRoot (q : Rat) : Prop := ∃ a b : Int, 0 ≤ a ∧ 0 ≤ b ∧ a * a = q.num ∧ b * b = (q.den : Int)
theorem root_of {q p : Rat} {L : Nat} {w w' : World} {e : Ending} (hp0 : 0 ≤ p.num) (h1 : p.num * p.num = q.num) (h2 : (p.den : Int) * (p.den : Int) = (q.den : Int)) (h : RetSq q L w e w') :
    ∃ s A n c t B m d, e = .returned (.tuple #[.agg #[.bool s, .slice A n c, .bool t, .slice B m d], .bool true]) ∧ NR w' p L s A n c t B m d ∧ Ext w w' := by
  obtain ⟨h | ⟨h, _⟩, hx⟩ := h
  · obtain ⟨a, b, ha, hb, k1, k2, s, A, n, c, t, B, m, d, he, g1, g2⟩ := h
    have e1 := sq_nn ha hp0 (k1.trans h1.symm)
    have e2 := sq_nn hb (by omega) (k2.trans h2.symm)
    subst e1
    subst e2
    exact ⟨s, A, n, c, t, B, m, d, he, ⟨g1, g2⟩, hx⟩
  · exact absurd ⟨p.num, (p.den : Int), hp0, by omega, h1, h2⟩ h
theorem root_none {q : Rat} {L : Nat} {w w' : World} {e : Ending} (hn : ¬ HasRoot q) (h : RetSq q L w e w') :
    e = .returned (.tuple #[.agg #[.bool false, .slice none 0 0, .bool false, .slice none 0 0], .bool false]) ∧ Ext w w' := by
  obtain ⟨h | ⟨_, h⟩, hx⟩ := h
  · obtain ⟨a, b, ha, hb, k1, k2, _⟩ := h
    exact absurd ⟨a, b, ha, hb, k1, k2⟩ hn
  · exact ⟨h, hx⟩
theorem sq_parts (q : Rat) : (q * q).num = q.num * q.num ∧ ((q * q).den : Int) = (q.den : Int) * (q.den : Int) := by
  obtain ⟨h1, h2⟩ := mkRat_parts (q.num * q.num) (D := q.den * q.den) (Nat.mul_ne_zero q.den_nz q.den_nz)
  have hg : Nat.gcd (q.num * q.num).natAbs (q.den * q.den) = 1 := by
    rw [Int.natAbs_mul]
    have hr := q.reduced
    exact Nat.Coprime.mul_left (Nat.Coprime.mul_right hr hr) (Nat.Coprime.mul_right hr hr)
  rw [← Rat.mul_def'] at h1 h2
  rw [hg] at h1 h2
  refine ⟨by rw [h1]; simp, ?_⟩
  rw [h2, Nat.div_one, Int.natCast_mul]
section
variable {w w' : World} {q p r : Rat} {L : Nat} {s t s' t' u u' : Bool} {A B A' B' C D : Option Addr} {n c m d n' c' m' d' l e0 l' e' : Nat} {xs ys xs' ys' zs zs' : List Nat}
set_option maxHeartbeats 16000000 in
set_option maxRecDepth 100000 in
theorem sqrt2_rp (hA : Awake2) (hT : Tab w) (hP : TabP w) (h : NR w q 20 s A n c t B m d) (y : Rat) (hy0 : 0 ≤ y.num) (hy1 : y.num * y.num = q.num) (hy2 : (y.den : Int) * (y.den : Int) = (q.den : Int)) (hq : 0 ≤ q.num) :
    Calls Tryz.prog 9 #[.agg #[.bool s, .slice A n c, .bool t, .slice B m d]] w fun e w' => e = .returned (.bool true) ∧ Ext w w' := by
  obtain ⟨k1, k2⟩ := sq_parts q
  have HK := Lib.hid (show 0 ≤ q.num ∧ q.num * q.num = (q * q).num ∧ (q.den : Int) * (q.den : Int) = ((q * q).den : Int) from ⟨hq, k1.symm, k2.symm⟩)
  obtain ⟨S, hS⟩ : ∃ S, q.num.sign = S := ⟨_, rfl⟩
  have HS := Lib.hid hS
  have hS0 : 0 ≤ S := by
    rw [← hS]
    have := HK.out.1
    rcases sign_three q.num with h | h | h
    · have := Int.sign_eq_neg_one_iff_neg.1 h; omega
    · omega
    · omega
  have hSd : decide (0 ≤ S) = true := decide_eq_true hS0
  have HY := Lib.hid (And.intro hy0 (And.intro hy1 hy2))
  clear hy0 hy1 hy2
  clear hq k1 k2 hS
  obtain ⟨xs, ys, ra0, rb0, hv0, hn0, hm0, _⟩ := h.raw
  have HF := Lib.hid (show (fewB n m s xs t ys) = true by unfold fewB; rw [decide_eq_true hn0, decide_eq_true hm0, hv0]; rfl)
  have hr0 := And.intro ra0 rb0
  clear ra0 rb0 hv0 hn0 hm0
  have HA := Lib.hid hA
  clear hA
  go_enter Tryz.func9, Tryz.ntmps9
  go_upto_region 1 with (fail)
  obtain ⟨W0, hW, extW, bx, hzz⟩ := box1 w 27 #[.bool s, .slice A n c, .bool t, .slice B m d]
  rw [← hW]
  clear hW hzz
  go_wp2_with fail
  refine (HA.out _ (hT.ext extW) (hP.ext extW)).mono ?_
  rintro e W ⟨rfl, hxt⟩
  replace extW := extW.trans hxt
  replace bx := bx.ext hxt
  clear hxt
  have bx0 := bx.cell 0 (.bool s) rfl
  have bx1 := bx.cell 1 (.slice A n c) rfl
  have bx2 := bx.cell 2 (.bool t) rfl
  have bx3 := bx.cell 3 (.slice B m d) rfl
  have hnb := Box.new W 27 #[.bool s, .slice A n c, .bool t, .slice B m d]
  have e1 := (Ext.refl W).alloc (.cells #[.bool s, .slice A n c, .bool t, .slice B m d] 27)
  go_wp2_with fail
  refine (few1 hnb (hr0.1.ext (extW.trans e1)) (hr0.2.ext (extW.trans e1))).mono ?_
  rintro e W1 ⟨rfl, hxt⟩
  rw [HF.out]
  have ES := e1.trans hxt
  clear hnb e1 hxt
  clear bx0 bx1 bx2 bx3
  clear hr0 HF
  replace bx := bx.ext ES
  replace extW := extW.trans ES
  replace h := h.ext extW
  clear ES
  have bx0 := bx.cell 0 (.bool s) rfl
  have bx1 := bx.cell 1 (.slice A n c) rfl
  have bx2 := bx.cell 2 (.bool t) rfl
  have bx3 := bx.cell 3 (.slice B m d) rfl
  go_wp2_with fail
  refine (law_ownR h (by omega)).mono ?_
  rintro e wa ⟨s1, A1, n1, c1, t1, B1, m1, d1, rfl, h1, hxa⟩
  go_wp2_with fail
  refine (p_Sqrt_any h1 (by omega)).mono ?_
  intro e wb hsq
  obtain ⟨s3, A3, n3, c3, t3, B3, m3, d3, rfl, r3, hxb⟩ := root_of HY.out.1 HY.out.2.1 HY.out.2.2 hsq
  have HX := hxa.trans hxb
  clear hsq h1 hxa hxb bx0 bx1 bx2 bx3
  go_upto_region 4 with (fail)
  refine at_world (fun V => Ext W1 V ∧ Box V wb.heap.size 27 #[.bool s3, .slice A3 n3 c3, .bool t3, .slice B3 m3 d3] ∧ NR V y 21 s3 A3 n3 c3 t3 B3 m3 d3) ⟨HX.alloc _, Box.new wb _ _, r3.ext ((Ext.refl wb).alloc _)⟩ ?_
  generalize wb.heap.size = g3
  clear HX r3
  rintro V ⟨EV, b3, r3⟩
  replace bx := bx.ext EV
  replace h := h.ext EV
  replace extW := extW.trans EV
  clear EV
  have bx0 := bx.cell 0 (.bool s) rfl
  have bx1 := bx.cell 1 (.slice A n c) rfl
  have bx2 := bx.cell 2 (.bool t) rfl
  have bx3 := bx.cell 3 (.slice B m d) rfl
  go_wp2_with fail
  refine (q_SqrtR h (by omega)).mono ?_
  intro e wc hsq
  obtain ⟨s4, A4, n4, c4, t4, B4, m4, d4, rfl, r4, hxb⟩ := root_of HY.out.1 HY.out.2.1 HY.out.2.2 hsq
  have HX := hxb
  clear hsq hxb bx0 bx1 bx2 bx3
  go_upto_region 5 with (fail)
  refine at_world (fun U => Ext V U ∧ Box U wc.heap.size 27 #[.bool s4, .slice A4 n4 c4, .bool t4, .slice B4 m4 d4] ∧ NR U y 21 s4 A4 n4 c4 t4 B4 m4 d4) ⟨HX.alloc _, Box.new wc _ _, r4.ext ((Ext.refl wc).alloc _)⟩ ?_
  generalize wc.heap.size = g5
  clear HX r4
  rintro U ⟨EV, b5, r4⟩
  replace bx := bx.ext EV
  replace h := h.ext EV
  replace b3 := b3.ext EV
  replace r3 := r3.ext EV
  replace extW := extW.trans EV
  clear EV
  have b30 := b3.cell 0 (.bool s3) rfl
  have b31 := b3.cell 1 (.slice A3 n3 c3) rfl
  have b32 := b3.cell 2 (.bool t3) rfl
  have b33 := b3.cell 3 (.slice B3 m3 d3) rfl
  have b50 := b5.cell 0 (.bool s4) rfl
  have b51 := b5.cell 1 (.slice A4 n4 c4) rfl
  have b52 := b5.cell 2 (.bool t4) rfl
  have b53 := b5.cell 3 (.slice B4 m4 d4) rfl
  go_wp2_with fail
  refine (q_Same r3 r4).mono ?_
  rintro e U2 ⟨rfl, hxs⟩
  replace bx := bx.ext hxs
  replace h := h.ext hxs
  replace extW := extW.trans hxs
  clear hxs r3 r4 b3 b5 b30 b31 b32 b33 b50 b51 b52 b53
  have bx0 := bx.cell 0 (.bool s) rfl
  have bx1 := bx.cell 1 (.slice A n c) rfl
  have bx2 := bx.cell 2 (.bool t) rfl
  have bx3 := bx.cell 3 (.slice B m d) rfl
  go_wp2_with fail
  refine (q_MulR h h (by omega) (by omega)).mono ?_
  rintro e wd ⟨s5, A5, n5, c5, t5, B5, m5, d5, rfl, r5, hxd⟩
  go_wp2_with fail
  refine (p_Sqrt_any r5 (by omega)).mono ?_
  intro e we hsq
  obtain ⟨s7, A7, n7, c7, t7, B7, m7, d7, rfl, r7, hxe⟩ := root_of HK.out.1 HK.out.2.1 HK.out.2.2 hsq
  have HX := hxd.trans hxe
  clear hsq r5 hxd hxe bx0 bx1 bx2 bx3
  go_upto_region 8 with (fail)
  refine at_world (fun X => Ext U2 X ∧ Box X we.heap.size 27 #[.bool s7, .slice A7 n7 c7, .bool t7, .slice B7 m7 d7] ∧ NR X q 41 s7 A7 n7 c7 t7 B7 m7 d7) ⟨HX.alloc _, Box.new we _ _, r7.ext ((Ext.refl we).alloc _)⟩ ?_
  generalize we.heap.size = g7
  clear HX r7
  rintro X ⟨EV, b7, r7⟩
  replace bx := bx.ext EV
  replace h := h.ext EV
  replace extW := extW.trans EV
  clear EV
  go_wp2_with fail
  have ES0 := Ext.refl X
  refine wp_region_held_drew (S := Ext X) (by kernel_rfl) ES0.drew (fun ES => ?_)
  clear ES0
  refine Late.start0 (fun _ _ _ _ _ => ⟨fun h => h, fun h => h⟩) ES (fun hAl hQ => ?_)
  refine Late.take (i := 0) (d := some 48) (v := ?v0_29) rfl rfl (by kernel_rfl) (by kernel_rfl) (by kernel_rfl) (by kernel_rfl) hQ (Or.inl ⟨by rfl, ?y0_29⟩) ?r0_29
  case y0_29 =>
    intro w' hSw
    have k00 := (b7.ext hSw).c4
    have k10 := (bx.ext hSw).c4
    go_simp
    try with_reducible rfl
  try simp only [Act.put]
  try simp only [List.setIfInBounds_toArray]
  try simp only [List.set_cons_succ]
  try simp only [List.set_cons_zero]
  refine Late.take (i := 1) (d := some 49) (v := ?v1_30) rfl rfl (by kernel_rfl) (by kernel_rfl) (by kernel_rfl) (by kernel_rfl) hQ (Or.inl ⟨by rfl, ?y1_30⟩) ?r1_30
  case y1_30 =>
    intro w' hSw
    have k00 := (b7.ext hSw).c4
    have k10 := (bx.ext hSw).c4
    go_simp
    try with_reducible rfl
  try simp only [Act.put]
  try simp only [List.setIfInBounds_toArray]
  try simp only [List.set_cons_succ]
  try simp only [List.set_cons_zero]
  refine Late.take (i := 2) (d := some 50) (v := ?v2_31) rfl rfl (by kernel_rfl) (by kernel_rfl) (by kernel_rfl) (by kernel_rfl) hQ (Or.inl ⟨by rfl, ?y2_31⟩) ?r2_31
  case y2_31 =>
    intro w' hSw
    have k00 := (b7.ext hSw).c4
    have k10 := (bx.ext hSw).c4
    go_simp
    try with_reducible rfl
  try simp only [Act.put]
  try simp only [List.setIfInBounds_toArray]
  try simp only [List.set_cons_succ]
  try simp only [List.set_cons_zero]
  refine Late.take (i := 3) (d := some 51) (v := ?v3_32) rfl rfl (by kernel_rfl) (by kernel_rfl) (by kernel_rfl) (by kernel_rfl) hQ (Or.inl ⟨by rfl, ?y3_32⟩) ?r3_32
  case y3_32 =>
    intro w' hSw
    have k00 := (b7.ext hSw).c4
    have k10 := (bx.ext hSw).c4
    go_simp
    try with_reducible rfl
  try simp only [Act.put]
  try simp only [List.setIfInBounds_toArray]
  try simp only [List.set_cons_succ]
  try simp only [List.set_cons_zero]
  refine Late.call (i := 4) rfl (by kernel_rfl) hAl (by kernel_rfl) (by kernel_rfl) (by kernel_rfl) hQ (fun w4 e4 E4 K hK => ?_)
  go_simp
  (go_at_call 16; refine (q_Same (r7.ext E4) (h.ext E4)).mono ?_; rintro e wk4 ⟨rfl, hx4⟩)
  refine hK.out _ _ hx4 ?_
  clear hK K
  try simp only [Act.put]
  try simp only [List.setIfInBounds_toArray]
  try simp only [List.set_cons_succ]
  try simp only [List.set_cons_zero]
  refine Late.take (i := 5) (d := some 53) (v := ?v5_33) rfl rfl (by kernel_rfl) (by kernel_rfl) (by kernel_rfl) (by kernel_rfl) hQ (Or.inl ⟨by rfl, ?y5_33⟩) ?r5_33
  case y5_33 =>
    intro w' hSw
    have k00 := (b7.ext hSw).c4
    have k10 := (bx.ext hSw).c4
    go_simp
    try with_reducible rfl
  try simp only [Act.put]
  try simp only [List.setIfInBounds_toArray]
  try simp only [List.set_cons_succ]
  try simp only [List.set_cons_zero]
  refine Late.take (i := 6) (d := some 54) (v := undef) rfl rfl (by kernel_rfl) (by kernel_rfl) (by kernel_rfl) (by kernel_rfl) hQ (Or.inr ⟨by kernel_rfl, rfl⟩) ?_
  try simp only [Act.put]
  try simp only [List.setIfInBounds_toArray]
  try simp only [List.set_cons_succ]
  try simp only [List.set_cons_zero]
  refine Late.take (i := 7) (d := some 55) (v := undef) rfl rfl (by kernel_rfl) (by kernel_rfl) (by kernel_rfl) (by kernel_rfl) hQ (Or.inr ⟨by kernel_rfl, rfl⟩) ?_
  try simp only [Act.put]
  try simp only [List.setIfInBounds_toArray]
  try simp only [List.set_cons_succ]
  try simp only [List.set_cons_zero]
  refine Late.take (i := 8) (d := some 56) (v := undef) rfl rfl (by kernel_rfl) (by kernel_rfl) (by kernel_rfl) (by kernel_rfl) hQ (Or.inr ⟨by kernel_rfl, rfl⟩) ?_
  try simp only [Act.put]
  try simp only [List.setIfInBounds_toArray]
  try simp only [List.set_cons_succ]
  try simp only [List.set_cons_zero]
  refine Late.take (i := 9) (d := some 57) (v := undef) rfl rfl (by kernel_rfl) (by kernel_rfl) (by kernel_rfl) (by kernel_rfl) hQ (Or.inr ⟨by kernel_rfl, rfl⟩) ?_
  try simp only [Act.put]
  try simp only [List.setIfInBounds_toArray]
  try simp only [List.set_cons_succ]
  try simp only [List.set_cons_zero]
  refine Late.take (i := 10) (d := some 58) (v := ?v10_34) rfl rfl (by kernel_rfl) (by kernel_rfl) (by kernel_rfl) (by kernel_rfl) hQ (Or.inl ⟨by rfl, ?y10_34⟩) ?r10_34
  case y10_34 =>
    intro w' hSw
    have k00 := (b7.ext hSw).c4
    have k10 := (bx.ext hSw).c4
    go_simp
    try with_reducible rfl
  try simp only [Act.put]
  try simp only [List.setIfInBounds_toArray]
  try simp only [List.set_cons_succ]
  try simp only [List.set_cons_zero]
  refine Late.take (i := 11) (d := some 59) (v := ?v11_35) rfl rfl (by kernel_rfl) (by kernel_rfl) (by kernel_rfl) (by kernel_rfl) hQ (Or.inl ⟨by rfl, ?y11_35⟩) ?r11_35
  case y11_35 =>
    intro w' hSw
    have k00 := (b7.ext hSw).c4
    have k10 := (bx.ext hSw).c4
    go_simp
    try with_reducible rfl
  try simp only [Act.put]
  try simp only [List.setIfInBounds_toArray]
  try simp only [List.set_cons_succ]
  try simp only [List.set_cons_zero]
  refine Late.take (i := 12) (d := some 60) (v := ?v12_36) rfl rfl (by kernel_rfl) (by kernel_rfl) (by kernel_rfl) (by kernel_rfl) hQ (Or.inl ⟨by rfl, ?y12_36⟩) ?r12_36
  case y12_36 =>
    intro w' hSw
    have k00 := (b7.ext hSw).c4
    have k10 := (bx.ext hSw).c4
    go_simp
    try with_reducible rfl
  try simp only [Act.put]
  try simp only [List.setIfInBounds_toArray]
  try simp only [List.set_cons_succ]
  try simp only [List.set_cons_zero]
  refine Late.take (i := 13) (d := some 61) (v := ?v13_37) rfl rfl (by kernel_rfl) (by kernel_rfl) (by kernel_rfl) (by kernel_rfl) hQ (Or.inl ⟨by rfl, ?y13_37⟩) ?r13_37
  case y13_37 =>
    intro w' hSw
    have k00 := (b7.ext hSw).c4
    have k10 := (bx.ext hSw).c4
    go_simp
    try with_reducible rfl
  try simp only [Act.put]
  try simp only [List.setIfInBounds_toArray]
  try simp only [List.set_cons_succ]
  try simp only [List.set_cons_zero]
  refine Late.call (i := 14) rfl (by kernel_rfl) hAl (by kernel_rfl) (by kernel_rfl) (by kernel_rfl) hQ (fun w14 e14 E14 K hK => ?_)
  go_simp
  (go_at_call 38; refine (q_SignR (r7.ext E14) (by omega)).mono ?_; rintro e wk14 ⟨rfl, hx14⟩; rw [HS.out])
  refine hK.out _ _ hx14 ?_
  clear hK K
  try simp only [Act.put]
  try simp only [List.setIfInBounds_toArray]
  try simp only [List.set_cons_succ]
  try simp only [List.set_cons_zero]
  refine Late.take (i := 15) (d := some 63) (v := ?v15_38) rfl rfl (by kernel_rfl) (by kernel_rfl) (by kernel_rfl) (by kernel_rfl) hQ (Or.inl ⟨by rfl, ?y15_38⟩) ?r15_38
  case y15_38 =>
    intro w' hSw
    have k00 := (b7.ext hSw).c4
    have k10 := (bx.ext hSw).c4
    go_simp
    try with_reducible rfl
  try simp only [Act.put]
  try simp only [List.setIfInBounds_toArray]
  try simp only [List.set_cons_succ]
  try simp only [List.set_cons_zero]
  refine Late.take (i := 16) (d := some 64) (v := ?v16_39) rfl rfl (by kernel_rfl) (by kernel_rfl) (by kernel_rfl) (by kernel_rfl) hQ (Or.inl ⟨by rfl, ?y16_39⟩) ?r16_39
  case y16_39 =>
    intro w' hSw
    have k00 := (b7.ext hSw).c4
    have k10 := (bx.ext hSw).c4
    go_simp
    try with_reducible rfl
  try simp only [Act.put]
  try simp only [List.setIfInBounds_toArray]
  try simp only [List.set_cons_succ]
  try simp only [List.set_cons_zero]
  refine Late.take (i := 17) (d := some 2) (v := ?v17_40) rfl rfl (by kernel_rfl) (by kernel_rfl) (by kernel_rfl) (by kernel_rfl) hQ (Or.inl ⟨by rfl, ?y17_40⟩) ?r17_40
  case y17_40 =>
    intro w' hSw
    have k00 := (b7.ext hSw).c4
    have k10 := (bx.ext hSw).c4
    go_simp
    try with_reducible rfl
  try simp only [Act.put]
  try simp only [List.setIfInBounds_toArray]
  try simp only [List.set_cons_succ]
  try simp only [List.set_cons_zero]
  refine Late.done0 (by kernel_rfl) (fun wz ez Ez => ?_)
  clear hAl hQ ES
  go_wp2_with fail
  go_ret
  exact ⟨rfl, extW.trans Ez⟩
set_option maxHeartbeats 16000000 in
set_option maxRecDepth 100000 in
theorem sqrt2_rm (hA : Awake2) (hT : Tab w) (hP : TabP w) (h : NR w q 20 s A n c t B m d) (y : Rat) (hy0 : 0 ≤ y.num) (hy1 : y.num * y.num = q.num) (hy2 : (y.den : Int) * (y.den : Int) = (q.den : Int)) (hq : q.num < 0) :
    Calls Tryz.prog 9 #[.agg #[.bool s, .slice A n c, .bool t, .slice B m d]] w fun e w' => e = .returned (.bool true) ∧ Ext w w' := by
  obtain ⟨k1, k2⟩ := sq_parts q
  have HK := Lib.hid (show 0 ≤ (-q).num ∧ (-q).num * (-q).num = (q * q).num ∧ ((-q).den : Int) * ((-q).den : Int) = ((q * q).den : Int) from ⟨by rw [Rat.neg_num]; omega, by rw [k1, Rat.neg_num, Int.neg_mul_neg], by rw [k2, Rat.neg_den]⟩)
  obtain ⟨S, hS⟩ : ∃ S, (-q).num.sign = S := ⟨_, rfl⟩
  have HS := Lib.hid hS
  have hS0 : 0 ≤ S := by
    rw [← hS]
    have := HK.out.1
    rcases sign_three (-q).num with h | h | h
    · have := Int.sign_eq_neg_one_iff_neg.1 h; omega
    · omega
    · omega
  have hSd : decide (0 ≤ S) = true := decide_eq_true hS0
  have HNE := Lib.hid (show (-q).num ≠ q.num by rw [Rat.neg_num]; omega)
  have HY := Lib.hid (And.intro hy0 (And.intro hy1 hy2))
  clear hy0 hy1 hy2
  clear hq k1 k2 hS
  obtain ⟨xs, ys, ra0, rb0, hv0, hn0, hm0, _⟩ := h.raw
  have HF := Lib.hid (show (fewB n m s xs t ys) = true by unfold fewB; rw [decide_eq_true hn0, decide_eq_true hm0, hv0]; rfl)
  have hr0 := And.intro ra0 rb0
  clear ra0 rb0 hv0 hn0 hm0
  have HA := Lib.hid hA
  clear hA
  go_enter Tryz.func9, Tryz.ntmps9
  go_upto_region 1 with (fail)
  obtain ⟨W0, hW, extW, bx, hzz⟩ := box1 w 27 #[.bool s, .slice A n c, .bool t, .slice B m d]
  rw [← hW]
  clear hW hzz
  go_wp2_with fail
  refine (HA.out _ (hT.ext extW) (hP.ext extW)).mono ?_
  rintro e W ⟨rfl, hxt⟩
  replace extW := extW.trans hxt
  replace bx := bx.ext hxt
  clear hxt
  have bx0 := bx.cell 0 (.bool s) rfl
  have bx1 := bx.cell 1 (.slice A n c) rfl
  have bx2 := bx.cell 2 (.bool t) rfl
  have bx3 := bx.cell 3 (.slice B m d) rfl
  have hnb := Box.new W 27 #[.bool s, .slice A n c, .bool t, .slice B m d]
  have e1 := (Ext.refl W).alloc (.cells #[.bool s, .slice A n c, .bool t, .slice B m d] 27)
  go_wp2_with fail
  refine (few1 hnb (hr0.1.ext (extW.trans e1)) (hr0.2.ext (extW.trans e1))).mono ?_
  rintro e W1 ⟨rfl, hxt⟩
  rw [HF.out]
  have ES := e1.trans hxt
  clear hnb e1 hxt
  clear bx0 bx1 bx2 bx3
  clear hr0 HF
  replace bx := bx.ext ES
  replace extW := extW.trans ES
  replace h := h.ext extW
  clear ES
  have bx0 := bx.cell 0 (.bool s) rfl
  have bx1 := bx.cell 1 (.slice A n c) rfl
  have bx2 := bx.cell 2 (.bool t) rfl
  have bx3 := bx.cell 3 (.slice B m d) rfl
  go_wp2_with fail
  refine (law_ownR h (by omega)).mono ?_
  rintro e wa ⟨s1, A1, n1, c1, t1, B1, m1, d1, rfl, h1, hxa⟩
  go_wp2_with fail
  refine (p_Sqrt_any h1 (by omega)).mono ?_
  intro e wb hsq
  obtain ⟨s3, A3, n3, c3, t3, B3, m3, d3, rfl, r3, hxb⟩ := root_of HY.out.1 HY.out.2.1 HY.out.2.2 hsq
  have HX := hxa.trans hxb
  clear hsq h1 hxa hxb bx0 bx1 bx2 bx3
  go_upto_region 4 with (fail)
  refine at_world (fun V => Ext W1 V ∧ Box V wb.heap.size 27 #[.bool s3, .slice A3 n3 c3, .bool t3, .slice B3 m3 d3] ∧ NR V y 21 s3 A3 n3 c3 t3 B3 m3 d3) ⟨HX.alloc _, Box.new wb _ _, r3.ext ((Ext.refl wb).alloc _)⟩ ?_
  generalize wb.heap.size = g3
  clear HX r3
  rintro V ⟨EV, b3, r3⟩
  replace bx := bx.ext EV
  replace h := h.ext EV
  replace extW := extW.trans EV
  clear EV
  have bx0 := bx.cell 0 (.bool s) rfl
  have bx1 := bx.cell 1 (.slice A n c) rfl
  have bx2 := bx.cell 2 (.bool t) rfl
  have bx3 := bx.cell 3 (.slice B m d) rfl
  go_wp2_with fail
  refine (q_SqrtR h (by omega)).mono ?_
  intro e wc hsq
  obtain ⟨s4, A4, n4, c4, t4, B4, m4, d4, rfl, r4, hxb⟩ := root_of HY.out.1 HY.out.2.1 HY.out.2.2 hsq
  have HX := hxb
  clear hsq hxb bx0 bx1 bx2 bx3
  go_upto_region 5 with (fail)
  refine at_world (fun U => Ext V U ∧ Box U wc.heap.size 27 #[.bool s4, .slice A4 n4 c4, .bool t4, .slice B4 m4 d4] ∧ NR U y 21 s4 A4 n4 c4 t4 B4 m4 d4) ⟨HX.alloc _, Box.new wc _ _, r4.ext ((Ext.refl wc).alloc _)⟩ ?_
  generalize wc.heap.size = g5
  clear HX r4
  rintro U ⟨EV, b5, r4⟩
  replace bx := bx.ext EV
  replace h := h.ext EV
  replace b3 := b3.ext EV
  replace r3 := r3.ext EV
  replace extW := extW.trans EV
  clear EV
  have b30 := b3.cell 0 (.bool s3) rfl
  have b31 := b3.cell 1 (.slice A3 n3 c3) rfl
  have b32 := b3.cell 2 (.bool t3) rfl
  have b33 := b3.cell 3 (.slice B3 m3 d3) rfl
  have b50 := b5.cell 0 (.bool s4) rfl
  have b51 := b5.cell 1 (.slice A4 n4 c4) rfl
  have b52 := b5.cell 2 (.bool t4) rfl
  have b53 := b5.cell 3 (.slice B4 m4 d4) rfl
  go_wp2_with fail
  refine (q_Same r3 r4).mono ?_
  rintro e U2 ⟨rfl, hxs⟩
  replace bx := bx.ext hxs
  replace h := h.ext hxs
  replace extW := extW.trans hxs
  clear hxs r3 r4 b3 b5 b30 b31 b32 b33 b50 b51 b52 b53
  have bx0 := bx.cell 0 (.bool s) rfl
  have bx1 := bx.cell 1 (.slice A n c) rfl
  have bx2 := bx.cell 2 (.bool t) rfl
  have bx3 := bx.cell 3 (.slice B m d) rfl
  go_wp2_with fail
  refine (q_MulR h h (by omega) (by omega)).mono ?_
  rintro e wd ⟨s5, A5, n5, c5, t5, B5, m5, d5, rfl, r5, hxd⟩
  go_wp2_with fail
  refine (p_Sqrt_any r5 (by omega)).mono ?_
  intro e we hsq
  obtain ⟨s7, A7, n7, c7, t7, B7, m7, d7, rfl, r7, hxe⟩ := root_of HK.out.1 HK.out.2.1 HK.out.2.2 hsq
  have HX := hxd.trans hxe
  clear hsq r5 hxd hxe bx0 bx1 bx2 bx3
  go_upto_region 8 with (fail)
  refine at_world (fun X => Ext U2 X ∧ Box X we.heap.size 27 #[.bool s7, .slice A7 n7 c7, .bool t7, .slice B7 m7 d7] ∧ NR X (-q) 41 s7 A7 n7 c7 t7 B7 m7 d7) ⟨HX.alloc _, Box.new we _ _, r7.ext ((Ext.refl we).alloc _)⟩ ?_
  generalize we.heap.size = g7
  clear HX r7
  rintro X ⟨EV, b7, r7⟩
  replace bx := bx.ext EV
  replace h := h.ext EV
  replace extW := extW.trans EV
  clear EV
  go_wp2_with fail
  have ES0 := Ext.refl X
  refine wp_region_held_drew (S := Ext X) (by kernel_rfl) ES0.drew (fun ES => ?_)
  clear ES0
  refine Late.start0 (fun _ _ _ _ _ => ⟨fun h => h, fun h => h⟩) ES (fun hAl hQ => ?_)
  refine Late.take (i := 0) (d := some 48) (v := ?v0_41) rfl rfl (by kernel_rfl) (by kernel_rfl) (by kernel_rfl) (by kernel_rfl) hQ (Or.inl ⟨by rfl, ?y0_41⟩) ?r0_41
  case y0_41 =>
    intro w' hSw
    have k00 := (b7.ext hSw).c4
    have k10 := (bx.ext hSw).c4
    go_simp
    try with_reducible rfl
  try simp only [Act.put]
  try simp only [List.setIfInBounds_toArray]
  try simp only [List.set_cons_succ]
  try simp only [List.set_cons_zero]
  refine Late.take (i := 1) (d := some 49) (v := ?v1_42) rfl rfl (by kernel_rfl) (by kernel_rfl) (by kernel_rfl) (by kernel_rfl) hQ (Or.inl ⟨by rfl, ?y1_42⟩) ?r1_42
  case y1_42 =>
    intro w' hSw
    have k00 := (b7.ext hSw).c4
    have k10 := (bx.ext hSw).c4
    go_simp
    try with_reducible rfl
  try simp only [Act.put]
  try simp only [List.setIfInBounds_toArray]
  try simp only [List.set_cons_succ]
  try simp only [List.set_cons_zero]
  refine Late.take (i := 2) (d := some 50) (v := ?v2_43) rfl rfl (by kernel_rfl) (by kernel_rfl) (by kernel_rfl) (by kernel_rfl) hQ (Or.inl ⟨by rfl, ?y2_43⟩) ?r2_43
  case y2_43 =>
    intro w' hSw
    have k00 := (b7.ext hSw).c4
    have k10 := (bx.ext hSw).c4
    go_simp
    try with_reducible rfl
  try simp only [Act.put]
  try simp only [List.setIfInBounds_toArray]
  try simp only [List.set_cons_succ]
  try simp only [List.set_cons_zero]
  refine Late.take (i := 3) (d := some 51) (v := ?v3_44) rfl rfl (by kernel_rfl) (by kernel_rfl) (by kernel_rfl) (by kernel_rfl) hQ (Or.inl ⟨by rfl, ?y3_44⟩) ?r3_44
  case y3_44 =>
    intro w' hSw
    have k00 := (b7.ext hSw).c4
    have k10 := (bx.ext hSw).c4
    go_simp
    try with_reducible rfl
  try simp only [Act.put]
  try simp only [List.setIfInBounds_toArray]
  try simp only [List.set_cons_succ]
  try simp only [List.set_cons_zero]
  refine Late.call (i := 4) rfl (by kernel_rfl) hAl (by kernel_rfl) (by kernel_rfl) (by kernel_rfl) hQ (fun w4 e4 E4 K hK => ?_)
  go_simp
  (go_at_call 16; refine (q_Same_ne (r7.ext E4) (h.ext E4) HNE.out).mono ?_; rintro e wk4 ⟨rfl, hx4⟩)
  refine hK.out _ _ hx4 ?_
  clear hK K
  try simp only [Act.put]
  try simp only [List.setIfInBounds_toArray]
  try simp only [List.set_cons_succ]
  try simp only [List.set_cons_zero]
  refine Late.take (i := 5) (d := some 53) (v := ?v5_45) rfl rfl (by kernel_rfl) (by kernel_rfl) (by kernel_rfl) (by kernel_rfl) hQ (Or.inl ⟨by rfl, ?y5_45⟩) ?r5_45
  case y5_45 =>
    intro w' hSw
    have k00 := (b7.ext hSw).c4
    have k10 := (bx.ext hSw).c4
    go_simp
    try with_reducible rfl
  try simp only [Act.put]
  try simp only [List.setIfInBounds_toArray]
  try simp only [List.set_cons_succ]
  try simp only [List.set_cons_zero]
  refine Late.take (i := 6) (d := some 54) (v := ?v6_46) rfl rfl (by kernel_rfl) (by kernel_rfl) (by kernel_rfl) (by kernel_rfl) hQ (Or.inl ⟨by rfl, ?y6_46⟩) ?r6_46
  case y6_46 =>
    intro w' hSw
    have k00 := (b7.ext hSw).c4
    have k10 := (bx.ext hSw).c4
    go_simp
    try with_reducible rfl
  try simp only [Act.put]
  try simp only [List.setIfInBounds_toArray]
  try simp only [List.set_cons_succ]
  try simp only [List.set_cons_zero]
  refine Late.take (i := 7) (d := some 55) (v := ?v7_47) rfl rfl (by kernel_rfl) (by kernel_rfl) (by kernel_rfl) (by kernel_rfl) hQ (Or.inl ⟨by rfl, ?y7_47⟩) ?r7_47
  case y7_47 =>
    intro w' hSw
    have k00 := (b7.ext hSw).c4
    have k10 := (bx.ext hSw).c4
    go_simp
    try with_reducible rfl
  try simp only [Act.put]
  try simp only [List.setIfInBounds_toArray]
  try simp only [List.set_cons_succ]
  try simp only [List.set_cons_zero]
  refine Late.call (i := 8) rfl (by kernel_rfl) hAl (by kernel_rfl) (by kernel_rfl) (by kernel_rfl) hQ (fun w8 e8 E8 K hK => ?_)
  go_simp
  (go_at_call 33; refine (q_NegR (h.ext E8) (by omega)).mono ?_; rintro e wk8 ⟨s1_, A1_, n1_, c1_, t1_, B1_, m1_, d1_, rfl, m1, hx8⟩)
  refine hK.out _ _ hx8 ?_
  clear hK K
  try simp only [Act.put]
  try simp only [List.setIfInBounds_toArray]
  try simp only [List.set_cons_succ]
  try simp only [List.set_cons_zero]
  refine Late.call (i := 9) rfl (by kernel_rfl) hAl (by kernel_rfl) (by kernel_rfl) (by kernel_rfl) hQ (fun w9 e9 E9 K hK => ?_)
  go_simp
  (replace m1 := m1.ext e9; go_at_call 16; refine (q_Same (r7.ext E9) m1).mono ?_; rintro e wk9 ⟨rfl, hx9⟩; replace m1 := m1.ext hx9)
  refine hK.out _ _ hx9 ?_
  clear hK K
  try simp only [Act.put]
  try simp only [List.setIfInBounds_toArray]
  try simp only [List.set_cons_succ]
  try simp only [List.set_cons_zero]
  refine Late.take (i := 10) (d := some 58) (v := ?v10_48) rfl rfl (by kernel_rfl) (by kernel_rfl) (by kernel_rfl) (by kernel_rfl) hQ (Or.inl ⟨by rfl, ?y10_48⟩) ?r10_48
  case y10_48 =>
    intro w' hSw
    have k00 := (b7.ext hSw).c4
    have k10 := (bx.ext hSw).c4
    go_simp
    try with_reducible rfl
  try simp only [Act.put]
  try simp only [List.setIfInBounds_toArray]
  try simp only [List.set_cons_succ]
  try simp only [List.set_cons_zero]
  refine Late.take (i := 11) (d := some 59) (v := ?v11_49) rfl rfl (by kernel_rfl) (by kernel_rfl) (by kernel_rfl) (by kernel_rfl) hQ (Or.inl ⟨by rfl, ?y11_49⟩) ?r11_49
  case y11_49 =>
    intro w' hSw
    have k00 := (b7.ext hSw).c4
    have k10 := (bx.ext hSw).c4
    go_simp
    try with_reducible rfl
  try simp only [Act.put]
  try simp only [List.setIfInBounds_toArray]
  try simp only [List.set_cons_succ]
  try simp only [List.set_cons_zero]
  refine Late.take (i := 12) (d := some 60) (v := ?v12_50) rfl rfl (by kernel_rfl) (by kernel_rfl) (by kernel_rfl) (by kernel_rfl) hQ (Or.inl ⟨by rfl, ?y12_50⟩) ?r12_50
  case y12_50 =>
    intro w' hSw
    have k00 := (b7.ext hSw).c4
    have k10 := (bx.ext hSw).c4
    go_simp
    try with_reducible rfl
  try simp only [Act.put]
  try simp only [List.setIfInBounds_toArray]
  try simp only [List.set_cons_succ]
  try simp only [List.set_cons_zero]
  refine Late.take (i := 13) (d := some 61) (v := ?v13_51) rfl rfl (by kernel_rfl) (by kernel_rfl) (by kernel_rfl) (by kernel_rfl) hQ (Or.inl ⟨by rfl, ?y13_51⟩) ?r13_51
  case y13_51 =>
    intro w' hSw
    have k00 := (b7.ext hSw).c4
    have k10 := (bx.ext hSw).c4
    go_simp
    try with_reducible rfl
  try simp only [Act.put]
  try simp only [List.setIfInBounds_toArray]
  try simp only [List.set_cons_succ]
  try simp only [List.set_cons_zero]
  refine Late.call (i := 14) rfl (by kernel_rfl) hAl (by kernel_rfl) (by kernel_rfl) (by kernel_rfl) hQ (fun w14 e14 E14 K hK => ?_)
  go_simp
  (replace m1 := m1.ext e14; go_at_call 38; refine (q_SignR (r7.ext E14) (by omega)).mono ?_; rintro e wk14 ⟨rfl, hx14⟩; replace m1 := m1.ext hx14; rw [HS.out])
  refine hK.out _ _ hx14 ?_
  clear hK K
  try simp only [Act.put]
  try simp only [List.setIfInBounds_toArray]
  try simp only [List.set_cons_succ]
  try simp only [List.set_cons_zero]
  refine Late.take (i := 15) (d := some 63) (v := ?v15_52) rfl rfl (by kernel_rfl) (by kernel_rfl) (by kernel_rfl) (by kernel_rfl) hQ (Or.inl ⟨by rfl, ?y15_52⟩) ?r15_52
  case y15_52 =>
    intro w' hSw
    have k00 := (b7.ext hSw).c4
    have k10 := (bx.ext hSw).c4
    go_simp
    try with_reducible rfl
  try simp only [Act.put]
  try simp only [List.setIfInBounds_toArray]
  try simp only [List.set_cons_succ]
  try simp only [List.set_cons_zero]
  refine Late.take (i := 16) (d := some 64) (v := ?v16_53) rfl rfl (by kernel_rfl) (by kernel_rfl) (by kernel_rfl) (by kernel_rfl) hQ (Or.inl ⟨by rfl, ?y16_53⟩) ?r16_53
  case y16_53 =>
    intro w' hSw
    have k00 := (b7.ext hSw).c4
    have k10 := (bx.ext hSw).c4
    go_simp
    try with_reducible rfl
  try simp only [Act.put]
  try simp only [List.setIfInBounds_toArray]
  try simp only [List.set_cons_succ]
  try simp only [List.set_cons_zero]
  refine Late.take (i := 17) (d := some 2) (v := ?v17_54) rfl rfl (by kernel_rfl) (by kernel_rfl) (by kernel_rfl) (by kernel_rfl) hQ (Or.inl ⟨by rfl, ?y17_54⟩) ?r17_54
  case y17_54 =>
    intro w' hSw
    have k00 := (b7.ext hSw).c4
    have k10 := (bx.ext hSw).c4
    go_simp
    try with_reducible rfl
  try simp only [Act.put]
  try simp only [List.setIfInBounds_toArray]
  try simp only [List.set_cons_succ]
  try simp only [List.set_cons_zero]
  refine Late.done0 (by kernel_rfl) (fun wz ez Ez => ?_)
  clear hAl hQ ES
  go_wp2_with fail
  go_ret
  exact ⟨rfl, extW.trans Ez⟩
set_option maxHeartbeats 16000000 in
set_option maxRecDepth 100000 in
theorem sqrt2_np (hA : Awake2) (hT : Tab w) (hP : TabP w) (h : NR w q 20 s A n c t B m d) (hnr : ¬ HasRoot q) (hq : 0 ≤ q.num) :
    Calls Tryz.prog 9 #[.agg #[.bool s, .slice A n c, .bool t, .slice B m d]] w fun e w' => e = .returned (.bool true) ∧ Ext w w' := by
  obtain ⟨k1, k2⟩ := sq_parts q
  have HK := Lib.hid (show 0 ≤ q.num ∧ q.num * q.num = (q * q).num ∧ (q.den : Int) * (q.den : Int) = ((q * q).den : Int) from ⟨hq, k1.symm, k2.symm⟩)
  obtain ⟨S, hS⟩ : ∃ S, q.num.sign = S := ⟨_, rfl⟩
  have HS := Lib.hid hS
  have hS0 : 0 ≤ S := by
    rw [← hS]
    have := HK.out.1
    rcases sign_three q.num with h | h | h
    · have := Int.sign_eq_neg_one_iff_neg.1 h; omega
    · omega
    · omega
  have hSd : decide (0 ≤ S) = true := decide_eq_true hS0
  have HR := Lib.hid hnr
  clear hnr
  clear hq k1 k2 hS
  obtain ⟨xs, ys, ra0, rb0, hv0, hn0, hm0, _⟩ := h.raw
  have HF := Lib.hid (show (fewB n m s xs t ys) = true by unfold fewB; rw [decide_eq_true hn0, decide_eq_true hm0, hv0]; rfl)
  have hr0 := And.intro ra0 rb0
  clear ra0 rb0 hv0 hn0 hm0
  have HA := Lib.hid hA
  clear hA
  go_enter Tryz.func9, Tryz.ntmps9
  go_upto_region 1 with (fail)
  obtain ⟨W0, hW, extW, bx, hzz⟩ := box1 w 27 #[.bool s, .slice A n c, .bool t, .slice B m d]
  rw [← hW]
  clear hW hzz
  go_wp2_with fail
  refine (HA.out _ (hT.ext extW) (hP.ext extW)).mono ?_
  rintro e W ⟨rfl, hxt⟩
  replace extW := extW.trans hxt
  replace bx := bx.ext hxt
  clear hxt
  have bx0 := bx.cell 0 (.bool s) rfl
  have bx1 := bx.cell 1 (.slice A n c) rfl
  have bx2 := bx.cell 2 (.bool t) rfl
  have bx3 := bx.cell 3 (.slice B m d) rfl
  have hnb := Box.new W 27 #[.bool s, .slice A n c, .bool t, .slice B m d]
  have e1 := (Ext.refl W).alloc (.cells #[.bool s, .slice A n c, .bool t, .slice B m d] 27)
  go_wp2_with fail
  refine (few1 hnb (hr0.1.ext (extW.trans e1)) (hr0.2.ext (extW.trans e1))).mono ?_
  rintro e W1 ⟨rfl, hxt⟩
  rw [HF.out]
  have ES := e1.trans hxt
  clear hnb e1 hxt
  clear bx0 bx1 bx2 bx3
  clear hr0 HF
  replace bx := bx.ext ES
  replace extW := extW.trans ES
  replace h := h.ext extW
  clear ES
  have bx0 := bx.cell 0 (.bool s) rfl
  have bx1 := bx.cell 1 (.slice A n c) rfl
  have bx2 := bx.cell 2 (.bool t) rfl
  have bx3 := bx.cell 3 (.slice B m d) rfl
  go_wp2_with fail
  refine (law_ownR h (by omega)).mono ?_
  rintro e wa ⟨s1, A1, n1, c1, t1, B1, m1, d1, rfl, h1, hxa⟩
  go_wp2_with fail
  refine (p_Sqrt_any h1 (by omega)).mono ?_
  intro e wb hsq
  obtain ⟨rfl, hxb⟩ := root_none HR.out hsq
  have HX := hxa.trans hxb
  clear hsq h1 hxa hxb bx0 bx1 bx2 bx3
  go_upto_region 4 with (fail)
  refine at_world (fun V => Ext W1 V ∧ Box V wb.heap.size 27 #[Value.bool false, Value.slice none 0 0, Value.bool false, Value.slice none 0 0]) ⟨HX.alloc _, Box.new wb _ _⟩ ?_
  generalize wb.heap.size = g3
  clear HX 
  rintro V ⟨EV, b3⟩
  replace bx := bx.ext EV
  replace h := h.ext EV
  replace extW := extW.trans EV
  clear EV
  have bx0 := bx.cell 0 (.bool s) rfl
  have bx1 := bx.cell 1 (.slice A n c) rfl
  have bx2 := bx.cell 2 (.bool t) rfl
  have bx3 := bx.cell 3 (.slice B m d) rfl
  go_wp2_with fail
  refine (q_SqrtR h (by omega)).mono ?_
  intro e wc hsq
  obtain ⟨rfl, hxb⟩ := root_none HR.out hsq
  have HX := hxb
  clear hsq hxb bx0 bx1 bx2 bx3
  go_upto_region 5 with (fail)
  refine at_world (fun U => Ext V U ∧ Box U wc.heap.size 27 #[Value.bool false, Value.slice none 0 0, Value.bool false, Value.slice none 0 0]) ⟨HX.alloc _, Box.new wc _ _⟩ ?_
  generalize wc.heap.size = g5
  clear HX 
  rintro U ⟨EV, b5⟩
  replace bx := bx.ext EV
  replace h := h.ext EV
  replace b3 := b3.ext EV
  replace extW := extW.trans EV
  clear EV
  clear b3 b5
  have bx0 := bx.cell 0 (.bool s) rfl
  have bx1 := bx.cell 1 (.slice A n c) rfl
  have bx2 := bx.cell 2 (.bool t) rfl
  have bx3 := bx.cell 3 (.slice B m d) rfl
  go_wp2_with fail
  refine (q_MulR h h (by omega) (by omega)).mono ?_
  rintro e wd ⟨s5, A5, n5, c5, t5, B5, m5, d5, rfl, r5, hxd⟩
  go_wp2_with fail
  refine (p_Sqrt_any r5 (by omega)).mono ?_
  intro e we hsq
  obtain ⟨s7, A7, n7, c7, t7, B7, m7, d7, rfl, r7, hxe⟩ := root_of HK.out.1 HK.out.2.1 HK.out.2.2 hsq
  have HX := hxd.trans hxe
  clear hsq r5 hxd hxe bx0 bx1 bx2 bx3
  go_upto_region 8 with (fail)
  refine at_world (fun X => Ext U X ∧ Box X we.heap.size 27 #[.bool s7, .slice A7 n7 c7, .bool t7, .slice B7 m7 d7] ∧ NR X q 41 s7 A7 n7 c7 t7 B7 m7 d7) ⟨HX.alloc _, Box.new we _ _, r7.ext ((Ext.refl we).alloc _)⟩ ?_
  generalize we.heap.size = g7
  clear HX r7
  rintro X ⟨EV, b7, r7⟩
  replace bx := bx.ext EV
  replace h := h.ext EV
  replace extW := extW.trans EV
  clear EV
  go_wp2_with fail
  have ES0 := Ext.refl X
  refine wp_region_held_drew (S := Ext X) (by kernel_rfl) ES0.drew (fun ES => ?_)
  clear ES0
  refine Late.start0 (fun _ _ _ _ _ => ⟨fun h => h, fun h => h⟩) ES (fun hAl hQ => ?_)
  refine Late.take (i := 0) (d := some 48) (v := ?v0_55) rfl rfl (by kernel_rfl) (by kernel_rfl) (by kernel_rfl) (by kernel_rfl) hQ (Or.inl ⟨by rfl, ?y0_55⟩) ?r0_55
  case y0_55 =>
    intro w' hSw
    have k00 := (b7.ext hSw).c4
    have k10 := (bx.ext hSw).c4
    go_simp
    try with_reducible rfl
  try simp only [Act.put]
  try simp only [List.setIfInBounds_toArray]
  try simp only [List.set_cons_succ]
  try simp only [List.set_cons_zero]
  refine Late.take (i := 1) (d := some 49) (v := ?v1_56) rfl rfl (by kernel_rfl) (by kernel_rfl) (by kernel_rfl) (by kernel_rfl) hQ (Or.inl ⟨by rfl, ?y1_56⟩) ?r1_56
  case y1_56 =>
    intro w' hSw
    have k00 := (b7.ext hSw).c4
    have k10 := (bx.ext hSw).c4
    go_simp
    try with_reducible rfl
  try simp only [Act.put]
  try simp only [List.setIfInBounds_toArray]
  try simp only [List.set_cons_succ]
  try simp only [List.set_cons_zero]
  refine Late.take (i := 2) (d := some 50) (v := ?v2_57) rfl rfl (by kernel_rfl) (by kernel_rfl) (by kernel_rfl) (by kernel_rfl) hQ (Or.inl ⟨by rfl, ?y2_57⟩) ?r2_57
  case y2_57 =>
    intro w' hSw
    have k00 := (b7.ext hSw).c4
    have k10 := (bx.ext hSw).c4
    go_simp
    try with_reducible rfl
  try simp only [Act.put]
  try simp only [List.setIfInBounds_toArray]
  try simp only [List.set_cons_succ]
  try simp only [List.set_cons_zero]
  refine Late.take (i := 3) (d := some 51) (v := ?v3_58) rfl rfl (by kernel_rfl) (by kernel_rfl) (by kernel_rfl) (by kernel_rfl) hQ (Or.inl ⟨by rfl, ?y3_58⟩) ?r3_58
  case y3_58 =>
    intro w' hSw
    have k00 := (b7.ext hSw).c4
    have k10 := (bx.ext hSw).c4
    go_simp
    try with_reducible rfl
  try simp only [Act.put]
  try simp only [List.setIfInBounds_toArray]
  try simp only [List.set_cons_succ]
  try simp only [List.set_cons_zero]
  refine Late.call (i := 4) rfl (by kernel_rfl) hAl (by kernel_rfl) (by kernel_rfl) (by kernel_rfl) hQ (fun w4 e4 E4 K hK => ?_)
  go_simp
  (go_at_call 16; refine (q_Same (r7.ext E4) (h.ext E4)).mono ?_; rintro e wk4 ⟨rfl, hx4⟩)
  refine hK.out _ _ hx4 ?_
  clear hK K
  try simp only [Act.put]
  try simp only [List.setIfInBounds_toArray]
  try simp only [List.set_cons_succ]
  try simp only [List.set_cons_zero]
  refine Late.take (i := 5) (d := some 53) (v := ?v5_59) rfl rfl (by kernel_rfl) (by kernel_rfl) (by kernel_rfl) (by kernel_rfl) hQ (Or.inl ⟨by rfl, ?y5_59⟩) ?r5_59
  case y5_59 =>
    intro w' hSw
    have k00 := (b7.ext hSw).c4
    have k10 := (bx.ext hSw).c4
    go_simp
    try with_reducible rfl
  try simp only [Act.put]
  try simp only [List.setIfInBounds_toArray]
  try simp only [List.set_cons_succ]
  try simp only [List.set_cons_zero]
  refine Late.take (i := 6) (d := some 54) (v := undef) rfl rfl (by kernel_rfl) (by kernel_rfl) (by kernel_rfl) (by kernel_rfl) hQ (Or.inr ⟨by kernel_rfl, rfl⟩) ?_
  try simp only [Act.put]
  try simp only [List.setIfInBounds_toArray]
  try simp only [List.set_cons_succ]
  try simp only [List.set_cons_zero]
  refine Late.take (i := 7) (d := some 55) (v := undef) rfl rfl (by kernel_rfl) (by kernel_rfl) (by kernel_rfl) (by kernel_rfl) hQ (Or.inr ⟨by kernel_rfl, rfl⟩) ?_
  try simp only [Act.put]
  try simp only [List.setIfInBounds_toArray]
  try simp only [List.set_cons_succ]
  try simp only [List.set_cons_zero]
  refine Late.take (i := 8) (d := some 56) (v := undef) rfl rfl (by kernel_rfl) (by kernel_rfl) (by kernel_rfl) (by kernel_rfl) hQ (Or.inr ⟨by kernel_rfl, rfl⟩) ?_
  try simp only [Act.put]
  try simp only [List.setIfInBounds_toArray]
  try simp only [List.set_cons_succ]
  try simp only [List.set_cons_zero]
  refine Late.take (i := 9) (d := some 57) (v := undef) rfl rfl (by kernel_rfl) (by kernel_rfl) (by kernel_rfl) (by kernel_rfl) hQ (Or.inr ⟨by kernel_rfl, rfl⟩) ?_
  try simp only [Act.put]
  try simp only [List.setIfInBounds_toArray]
  try simp only [List.set_cons_succ]
  try simp only [List.set_cons_zero]
  refine Late.take (i := 10) (d := some 58) (v := ?v10_60) rfl rfl (by kernel_rfl) (by kernel_rfl) (by kernel_rfl) (by kernel_rfl) hQ (Or.inl ⟨by rfl, ?y10_60⟩) ?r10_60
  case y10_60 =>
    intro w' hSw
    have k00 := (b7.ext hSw).c4
    have k10 := (bx.ext hSw).c4
    go_simp
    try with_reducible rfl
  try simp only [Act.put]
  try simp only [List.setIfInBounds_toArray]
  try simp only [List.set_cons_succ]
  try simp only [List.set_cons_zero]
  refine Late.take (i := 11) (d := some 59) (v := ?v11_61) rfl rfl (by kernel_rfl) (by kernel_rfl) (by kernel_rfl) (by kernel_rfl) hQ (Or.inl ⟨by rfl, ?y11_61⟩) ?r11_61
  case y11_61 =>
    intro w' hSw
    have k00 := (b7.ext hSw).c4
    have k10 := (bx.ext hSw).c4
    go_simp
    try with_reducible rfl
  try simp only [Act.put]
  try simp only [List.setIfInBounds_toArray]
  try simp only [List.set_cons_succ]
  try simp only [List.set_cons_zero]
  refine Late.take (i := 12) (d := some 60) (v := ?v12_62) rfl rfl (by kernel_rfl) (by kernel_rfl) (by kernel_rfl) (by kernel_rfl) hQ (Or.inl ⟨by rfl, ?y12_62⟩) ?r12_62
  case y12_62 =>
    intro w' hSw
    have k00 := (b7.ext hSw).c4
    have k10 := (bx.ext hSw).c4
    go_simp
    try with_reducible rfl
  try simp only [Act.put]
  try simp only [List.setIfInBounds_toArray]
  try simp only [List.set_cons_succ]
  try simp only [List.set_cons_zero]
  refine Late.take (i := 13) (d := some 61) (v := ?v13_63) rfl rfl (by kernel_rfl) (by kernel_rfl) (by kernel_rfl) (by kernel_rfl) hQ (Or.inl ⟨by rfl, ?y13_63⟩) ?r13_63
  case y13_63 =>
    intro w' hSw
    have k00 := (b7.ext hSw).c4
    have k10 := (bx.ext hSw).c4
    go_simp
    try with_reducible rfl
  try simp only [Act.put]
  try simp only [List.setIfInBounds_toArray]
  try simp only [List.set_cons_succ]
  try simp only [List.set_cons_zero]
  refine Late.call (i := 14) rfl (by kernel_rfl) hAl (by kernel_rfl) (by kernel_rfl) (by kernel_rfl) hQ (fun w14 e14 E14 K hK => ?_)
  go_simp
  (go_at_call 38; refine (q_SignR (r7.ext E14) (by omega)).mono ?_; rintro e wk14 ⟨rfl, hx14⟩; rw [HS.out])
  refine hK.out _ _ hx14 ?_
  clear hK K
  try simp only [Act.put]
  try simp only [List.setIfInBounds_toArray]
  try simp only [List.set_cons_succ]
  try simp only [List.set_cons_zero]
  refine Late.take (i := 15) (d := some 63) (v := ?v15_64) rfl rfl (by kernel_rfl) (by kernel_rfl) (by kernel_rfl) (by kernel_rfl) hQ (Or.inl ⟨by rfl, ?y15_64⟩) ?r15_64
  case y15_64 =>
    intro w' hSw
    have k00 := (b7.ext hSw).c4
    have k10 := (bx.ext hSw).c4
    go_simp
    try with_reducible rfl
  try simp only [Act.put]
  try simp only [List.setIfInBounds_toArray]
  try simp only [List.set_cons_succ]
  try simp only [List.set_cons_zero]
  refine Late.take (i := 16) (d := some 64) (v := ?v16_65) rfl rfl (by kernel_rfl) (by kernel_rfl) (by kernel_rfl) (by kernel_rfl) hQ (Or.inl ⟨by rfl, ?y16_65⟩) ?r16_65
  case y16_65 =>
    intro w' hSw
    have k00 := (b7.ext hSw).c4
    have k10 := (bx.ext hSw).c4
    go_simp
    try with_reducible rfl
  try simp only [Act.put]
  try simp only [List.setIfInBounds_toArray]
  try simp only [List.set_cons_succ]
  try simp only [List.set_cons_zero]
  refine Late.take (i := 17) (d := some 2) (v := ?v17_66) rfl rfl (by kernel_rfl) (by kernel_rfl) (by kernel_rfl) (by kernel_rfl) hQ (Or.inl ⟨by rfl, ?y17_66⟩) ?r17_66
  case y17_66 =>
    intro w' hSw
    have k00 := (b7.ext hSw).c4
    have k10 := (bx.ext hSw).c4
    go_simp
    try with_reducible rfl
  try simp only [Act.put]
  try simp only [List.setIfInBounds_toArray]
  try simp only [List.set_cons_succ]
  try simp only [List.set_cons_zero]
  refine Late.done0 (by kernel_rfl) (fun wz ez Ez => ?_)
  clear hAl hQ ES
  go_wp2_with fail
  go_ret
  exact ⟨rfl, extW.trans Ez⟩
set_option maxHeartbeats 16000000 in
set_option maxRecDepth 100000 in
theorem sqrt2_nm (hA : Awake2) (hT : Tab w) (hP : TabP w) (h : NR w q 20 s A n c t B m d) (hnr : ¬ HasRoot q) (hq : q.num < 0) :
    Calls Tryz.prog 9 #[.agg #[.bool s, .slice A n c, .bool t, .slice B m d]] w fun e w' => e = .returned (.bool true) ∧ Ext w w' := by
  obtain ⟨k1, k2⟩ := sq_parts q
  have HK := Lib.hid (show 0 ≤ (-q).num ∧ (-q).num * (-q).num = (q * q).num ∧ ((-q).den : Int) * ((-q).den : Int) = ((q * q).den : Int) from ⟨by rw [Rat.neg_num]; omega, by rw [k1, Rat.neg_num, Int.neg_mul_neg], by rw [k2, Rat.neg_den]⟩)
  obtain ⟨S, hS⟩ : ∃ S, (-q).num.sign = S := ⟨_, rfl⟩
  have HS := Lib.hid hS
  have hS0 : 0 ≤ S := by
    rw [← hS]
    have := HK.out.1
    rcases sign_three (-q).num with h | h | h
    · have := Int.sign_eq_neg_one_iff_neg.1 h; omega
    · omega
    · omega
  have hSd : decide (0 ≤ S) = true := decide_eq_true hS0
  have HNE := Lib.hid (show (-q).num ≠ q.num by rw [Rat.neg_num]; omega)
  have HR := Lib.hid hnr
  clear hnr
  clear hq k1 k2 hS
  obtain ⟨xs, ys, ra0, rb0, hv0, hn0, hm0, _⟩ := h.raw
  have HF := Lib.hid (show (fewB n m s xs t ys) = true by unfold fewB; rw [decide_eq_true hn0, decide_eq_true hm0, hv0]; rfl)
  have hr0 := And.intro ra0 rb0
  clear ra0 rb0 hv0 hn0 hm0
  have HA := Lib.hid hA
  clear hA
  go_enter Tryz.func9, Tryz.ntmps9
  go_upto_region 1 with (fail)
  obtain ⟨W0, hW, extW, bx, hzz⟩ := box1 w 27 #[.bool s, .slice A n c, .bool t, .slice B m d]
  rw [← hW]
  clear hW hzz
  go_wp2_with fail
  refine (HA.out _ (hT.ext extW) (hP.ext extW)).mono ?_
  rintro e W ⟨rfl, hxt⟩
  replace extW := extW.trans hxt
  replace bx := bx.ext hxt
  clear hxt
  have bx0 := bx.cell 0 (.bool s) rfl
  have bx1 := bx.cell 1 (.slice A n c) rfl
  have bx2 := bx.cell 2 (.bool t) rfl
  have bx3 := bx.cell 3 (.slice B m d) rfl
  have hnb := Box.new W 27 #[.bool s, .slice A n c, .bool t, .slice B m d]
  have e1 := (Ext.refl W).alloc (.cells #[.bool s, .slice A n c, .bool t, .slice B m d] 27)
  go_wp2_with fail
  refine (few1 hnb (hr0.1.ext (extW.trans e1)) (hr0.2.ext (extW.trans e1))).mono ?_
  rintro e W1 ⟨rfl, hxt⟩
  rw [HF.out]
  have ES := e1.trans hxt
  clear hnb e1 hxt
  clear bx0 bx1 bx2 bx3
  clear hr0 HF
  replace bx := bx.ext ES
  replace extW := extW.trans ES
  replace h := h.ext extW
  clear ES
  have bx0 := bx.cell 0 (.bool s) rfl
  have bx1 := bx.cell 1 (.slice A n c) rfl
  have bx2 := bx.cell 2 (.bool t) rfl
  have bx3 := bx.cell 3 (.slice B m d) rfl
  go_wp2_with fail
  refine (law_ownR h (by omega)).mono ?_
  rintro e wa ⟨s1, A1, n1, c1, t1, B1, m1, d1, rfl, h1, hxa⟩
  go_wp2_with fail
  refine (p_Sqrt_any h1 (by omega)).mono ?_
  intro e wb hsq
  obtain ⟨rfl, hxb⟩ := root_none HR.out hsq
  have HX := hxa.trans hxb
  clear hsq h1 hxa hxb bx0 bx1 bx2 bx3
  go_upto_region 4 with (fail)
  refine at_world (fun V => Ext W1 V ∧ Box V wb.heap.size 27 #[Value.bool false, Value.slice none 0 0, Value.bool false, Value.slice none 0 0]) ⟨HX.alloc _, Box.new wb _ _⟩ ?_
  generalize wb.heap.size = g3
  clear HX 
  rintro V ⟨EV, b3⟩
  replace bx := bx.ext EV
  replace h := h.ext EV
  replace extW := extW.trans EV
  clear EV
  have bx0 := bx.cell 0 (.bool s) rfl
  have bx1 := bx.cell 1 (.slice A n c) rfl
  have bx2 := bx.cell 2 (.bool t) rfl
  have bx3 := bx.cell 3 (.slice B m d) rfl
  go_wp2_with fail
  refine (q_SqrtR h (by omega)).mono ?_
  intro e wc hsq
  obtain ⟨rfl, hxb⟩ := root_none HR.out hsq
  have HX := hxb
  clear hsq hxb bx0 bx1 bx2 bx3
  go_upto_region 5 with (fail)
  refine at_world (fun U => Ext V U ∧ Box U wc.heap.size 27 #[Value.bool false, Value.slice none 0 0, Value.bool false, Value.slice none 0 0]) ⟨HX.alloc _, Box.new wc _ _⟩ ?_
  generalize wc.heap.size = g5
  clear HX 
  rintro U ⟨EV, b5⟩
  replace bx := bx.ext EV
  replace h := h.ext EV
  replace b3 := b3.ext EV
  replace extW := extW.trans EV
  clear EV
  clear b3 b5
  have bx0 := bx.cell 0 (.bool s) rfl
  have bx1 := bx.cell 1 (.slice A n c) rfl
  have bx2 := bx.cell 2 (.bool t) rfl
  have bx3 := bx.cell 3 (.slice B m d) rfl
  go_wp2_with fail
  refine (q_MulR h h (by omega) (by omega)).mono ?_
  rintro e wd ⟨s5, A5, n5, c5, t5, B5, m5, d5, rfl, r5, hxd⟩
  go_wp2_with fail
  refine (p_Sqrt_any r5 (by omega)).mono ?_
  intro e we hsq
  obtain ⟨s7, A7, n7, c7, t7, B7, m7, d7, rfl, r7, hxe⟩ := root_of HK.out.1 HK.out.2.1 HK.out.2.2 hsq
  have HX := hxd.trans hxe
  clear hsq r5 hxd hxe bx0 bx1 bx2 bx3
  go_upto_region 8 with (fail)
  refine at_world (fun X => Ext U X ∧ Box X we.heap.size 27 #[.bool s7, .slice A7 n7 c7, .bool t7, .slice B7 m7 d7] ∧ NR X (-q) 41 s7 A7 n7 c7 t7 B7 m7 d7) ⟨HX.alloc _, Box.new we _ _, r7.ext ((Ext.refl we).alloc _)⟩ ?_
  generalize we.heap.size = g7
  clear HX r7
  rintro X ⟨EV, b7, r7⟩
  replace bx := bx.ext EV
  replace h := h.ext EV
  replace extW := extW.trans EV
  clear EV
  go_wp2_with fail
  have ES0 := Ext.refl X
  refine wp_region_held_drew (S := Ext X) (by kernel_rfl) ES0.drew (fun ES => ?_)
  clear ES0
  refine Late.start0 (fun _ _ _ _ _ => ⟨fun h => h, fun h => h⟩) ES (fun hAl hQ => ?_)
  refine Late.take (i := 0) (d := some 48) (v := ?v0_67) rfl rfl (by kernel_rfl) (by kernel_rfl) (by kernel_rfl) (by kernel_rfl) hQ (Or.inl ⟨by rfl, ?y0_67⟩) ?r0_67
  case y0_67 =>
    intro w' hSw
    have k00 := (b7.ext hSw).c4
    have k10 := (bx.ext hSw).c4
    go_simp
    try with_reducible rfl
  try simp only [Act.put]
  try simp only [List.setIfInBounds_toArray]
  try simp only [List.set_cons_succ]
  try simp only [List.set_cons_zero]
  refine Late.take (i := 1) (d := some 49) (v := ?v1_68) rfl rfl (by kernel_rfl) (by kernel_rfl) (by kernel_rfl) (by kernel_rfl) hQ (Or.inl ⟨by rfl, ?y1_68⟩) ?r1_68
  case y1_68 =>
    intro w' hSw
    have k00 := (b7.ext hSw).c4
    have k10 := (bx.ext hSw).c4
    go_simp
    try with_reducible rfl
  try simp only [Act.put]
  try simp only [List.setIfInBounds_toArray]
  try simp only [List.set_cons_succ]
  try simp only [List.set_cons_zero]
  refine Late.take (i := 2) (d := some 50) (v := ?v2_69) rfl rfl (by kernel_rfl) (by kernel_rfl) (by kernel_rfl) (by kernel_rfl) hQ (Or.inl ⟨by rfl, ?y2_69⟩) ?r2_69
  case y2_69 =>
    intro w' hSw
    have k00 := (b7.ext hSw).c4
    have k10 := (bx.ext hSw).c4
    go_simp
    try with_reducible rfl
  try simp only [Act.put]
  try simp only [List.setIfInBounds_toArray]
  try simp only [List.set_cons_succ]
  try simp only [List.set_cons_zero]
  refine Late.take (i := 3) (d := some 51) (v := ?v3_70) rfl rfl (by kernel_rfl) (by kernel_rfl) (by kernel_rfl) (by kernel_rfl) hQ (Or.inl ⟨by rfl, ?y3_70⟩) ?r3_70
  case y3_70 =>
    intro w' hSw
    have k00 := (b7.ext hSw).c4
    have k10 := (bx.ext hSw).c4
    go_simp
    try with_reducible rfl
  try simp only [Act.put]
  try simp only [List.setIfInBounds_toArray]
  try simp only [List.set_cons_succ]
  try simp only [List.set_cons_zero]
  refine Late.call (i := 4) rfl (by kernel_rfl) hAl (by kernel_rfl) (by kernel_rfl) (by kernel_rfl) hQ (fun w4 e4 E4 K hK => ?_)
  go_simp
  (go_at_call 16; refine (q_Same_ne (r7.ext E4) (h.ext E4) HNE.out).mono ?_; rintro e wk4 ⟨rfl, hx4⟩)
  refine hK.out _ _ hx4 ?_
  clear hK K
  try simp only [Act.put]
  try simp only [List.setIfInBounds_toArray]
  try simp only [List.set_cons_succ]
  try simp only [List.set_cons_zero]
  refine Late.take (i := 5) (d := some 53) (v := ?v5_71) rfl rfl (by kernel_rfl) (by kernel_rfl) (by kernel_rfl) (by kernel_rfl) hQ (Or.inl ⟨by rfl, ?y5_71⟩) ?r5_71
  case y5_71 =>
    intro w' hSw
    have k00 := (b7.ext hSw).c4
    have k10 := (bx.ext hSw).c4
    go_simp
    try with_reducible rfl
  try simp only [Act.put]
  try simp only [List.setIfInBounds_toArray]
  try simp only [List.set_cons_succ]
  try simp only [List.set_cons_zero]
  refine Late.take (i := 6) (d := some 54) (v := ?v6_72) rfl rfl (by kernel_rfl) (by kernel_rfl) (by kernel_rfl) (by kernel_rfl) hQ (Or.inl ⟨by rfl, ?y6_72⟩) ?r6_72
  case y6_72 =>
    intro w' hSw
    have k00 := (b7.ext hSw).c4
    have k10 := (bx.ext hSw).c4
    go_simp
    try with_reducible rfl
  try simp only [Act.put]
  try simp only [List.setIfInBounds_toArray]
  try simp only [List.set_cons_succ]
  try simp only [List.set_cons_zero]
  refine Late.take (i := 7) (d := some 55) (v := ?v7_73) rfl rfl (by kernel_rfl) (by kernel_rfl) (by kernel_rfl) (by kernel_rfl) hQ (Or.inl ⟨by rfl, ?y7_73⟩) ?r7_73
  case y7_73 =>
    intro w' hSw
    have k00 := (b7.ext hSw).c4
    have k10 := (bx.ext hSw).c4
    go_simp
    try with_reducible rfl
  try simp only [Act.put]
  try simp only [List.setIfInBounds_toArray]
  try simp only [List.set_cons_succ]
  try simp only [List.set_cons_zero]
  refine Late.call (i := 8) rfl (by kernel_rfl) hAl (by kernel_rfl) (by kernel_rfl) (by kernel_rfl) hQ (fun w8 e8 E8 K hK => ?_)
  go_simp
  (go_at_call 33; refine (q_NegR (h.ext E8) (by omega)).mono ?_; rintro e wk8 ⟨s2_, A2_, n2_, c2_, t2_, B2_, m2_, d2_, rfl, m1, hx8⟩)
  refine hK.out _ _ hx8 ?_
  clear hK K
  try simp only [Act.put]
  try simp only [List.setIfInBounds_toArray]
  try simp only [List.set_cons_succ]
  try simp only [List.set_cons_zero]
  refine Late.call (i := 9) rfl (by kernel_rfl) hAl (by kernel_rfl) (by kernel_rfl) (by kernel_rfl) hQ (fun w9 e9 E9 K hK => ?_)
  go_simp
  (replace m1 := m1.ext e9; go_at_call 16; refine (q_Same (r7.ext E9) m1).mono ?_; rintro e wk9 ⟨rfl, hx9⟩; replace m1 := m1.ext hx9)
  refine hK.out _ _ hx9 ?_
  clear hK K
  try simp only [Act.put]
  try simp only [List.setIfInBounds_toArray]
  try simp only [List.set_cons_succ]
  try simp only [List.set_cons_zero]
  refine Late.take (i := 10) (d := some 58) (v := ?v10_74) rfl rfl (by kernel_rfl) (by kernel_rfl) (by kernel_rfl) (by kernel_rfl) hQ (Or.inl ⟨by rfl, ?y10_74⟩) ?r10_74
  case y10_74 =>
    intro w' hSw
    have k00 := (b7.ext hSw).c4
    have k10 := (bx.ext hSw).c4
    go_simp
    try with_reducible rfl
  try simp only [Act.put]
  try simp only [List.setIfInBounds_toArray]
  try simp only [List.set_cons_succ]
  try simp only [List.set_cons_zero]
  refine Late.take (i := 11) (d := some 59) (v := ?v11_75) rfl rfl (by kernel_rfl) (by kernel_rfl) (by kernel_rfl) (by kernel_rfl) hQ (Or.inl ⟨by rfl, ?y11_75⟩) ?r11_75
  case y11_75 =>
    intro w' hSw
    have k00 := (b7.ext hSw).c4
    have k10 := (bx.ext hSw).c4
    go_simp
    try with_reducible rfl
  try simp only [Act.put]
  try simp only [List.setIfInBounds_toArray]
  try simp only [List.set_cons_succ]
  try simp only [List.set_cons_zero]
  refine Late.take (i := 12) (d := some 60) (v := ?v12_76) rfl rfl (by kernel_rfl) (by kernel_rfl) (by kernel_rfl) (by kernel_rfl) hQ (Or.inl ⟨by rfl, ?y12_76⟩) ?r12_76
  case y12_76 =>
    intro w' hSw
    have k00 := (b7.ext hSw).c4
    have k10 := (bx.ext hSw).c4
    go_simp
    try with_reducible rfl
  try simp only [Act.put]
  try simp only [List.setIfInBounds_toArray]
  try simp only [List.set_cons_succ]
  try simp only [List.set_cons_zero]
  refine Late.take (i := 13) (d := some 61) (v := ?v13_77) rfl rfl (by kernel_rfl) (by kernel_rfl) (by kernel_rfl) (by kernel_rfl) hQ (Or.inl ⟨by rfl, ?y13_77⟩) ?r13_77
  case y13_77 =>
    intro w' hSw
    have k00 := (b7.ext hSw).c4
    have k10 := (bx.ext hSw).c4
    go_simp
    try with_reducible rfl
  try simp only [Act.put]
  try simp only [List.setIfInBounds_toArray]
  try simp only [List.set_cons_succ]
  try simp only [List.set_cons_zero]
  refine Late.call (i := 14) rfl (by kernel_rfl) hAl (by kernel_rfl) (by kernel_rfl) (by kernel_rfl) hQ (fun w14 e14 E14 K hK => ?_)
  go_simp
  (replace m1 := m1.ext e14; go_at_call 38; refine (q_SignR (r7.ext E14) (by omega)).mono ?_; rintro e wk14 ⟨rfl, hx14⟩; replace m1 := m1.ext hx14; rw [HS.out])
  refine hK.out _ _ hx14 ?_
  clear hK K
  try simp only [Act.put]
  try simp only [List.setIfInBounds_toArray]
  try simp only [List.set_cons_succ]
  try simp only [List.set_cons_zero]
  refine Late.take (i := 15) (d := some 63) (v := ?v15_78) rfl rfl (by kernel_rfl) (by kernel_rfl) (by kernel_rfl) (by kernel_rfl) hQ (Or.inl ⟨by rfl, ?y15_78⟩) ?r15_78
  case y15_78 =>
    intro w' hSw
    have k00 := (b7.ext hSw).c4
    have k10 := (bx.ext hSw).c4
    go_simp
    try with_reducible rfl
  try simp only [Act.put]
  try simp only [List.setIfInBounds_toArray]
  try simp only [List.set_cons_succ]
  try simp only [List.set_cons_zero]
  refine Late.take (i := 16) (d := some 64) (v := ?v16_79) rfl rfl (by kernel_rfl) (by kernel_rfl) (by kernel_rfl) (by kernel_rfl) hQ (Or.inl ⟨by rfl, ?y16_79⟩) ?r16_79
  case y16_79 =>
    intro w' hSw
    have k00 := (b7.ext hSw).c4
    have k10 := (bx.ext hSw).c4
    go_simp
    try with_reducible rfl
  try simp only [Act.put]
  try simp only [List.setIfInBounds_toArray]
  try simp only [List.set_cons_succ]
  try simp only [List.set_cons_zero]
  refine Late.take (i := 17) (d := some 2) (v := ?v17_80) rfl rfl (by kernel_rfl) (by kernel_rfl) (by kernel_rfl) (by kernel_rfl) hQ (Or.inl ⟨by rfl, ?y17_80⟩) ?r17_80
  case y17_80 =>
    intro w' hSw
    have k00 := (b7.ext hSw).c4
    have k10 := (bx.ext hSw).c4
    go_simp
    try with_reducible rfl
  try simp only [Act.put]
  try simp only [List.setIfInBounds_toArray]
  try simp only [List.set_cons_succ]
  try simp only [List.set_cons_zero]
  refine Late.done0 (by kernel_rfl) (fun wz ez Ez => ?_)
  clear hAl hQ ES
  go_wp2_with fail
  go_ret
  exact ⟨rfl, extW.trans Ez⟩
theorem sqrt2_all (hA : Awake2) (hT : Tab w) (hP : TabP w) (h : NR w q 20 s A n c t B m d) : Calls Tryz.prog 9 #[.agg #[.bool s, .slice A n c, .bool t, .slice B m d]] w fun e w' => e = .returned (.bool true) ∧ Ext w w' := by
  by_cases hr : HasRoot q
  · obtain ⟨a, b, ha, hb, h1, h2⟩ := hr
    obtain ⟨y, e1, e2⟩ := sqrt_rat hb h1 h2
    rw [← e1] at ha h1
    rw [← e2] at h2
    rcases Int.lt_or_le q.num 0 with hq | hq
    · exact sqrt2_rm hA hT hP h y ha h1 h2 hq
    · exact sqrt2_rp hA hT hP h y ha h1 h2 hq
  · rcases Int.lt_or_le q.num 0 with hq | hq
    · exact sqrt2_nm hA hT hP h hr hq
    · exact sqrt2_np hA hT hP h hr hq
set_option maxHeartbeats 2000000 in
theorem sqrt2_no (hA : Awake2) (hT : Tab w) (hP : TabP w) (hr0 : RI w A n c xs ∧ RI w B m d ys) (hf : (fewB n m s xs t ys) = false) :
    Calls Tryz.prog 9 #[.agg #[.bool s, .slice A n c, .bool t, .slice B m d]] w fun e w' => e = .returned (.bool true) ∧ Ext w w' := by
  have HF := Lib.hid hf
  clear hf
  have HA := Lib.hid hA
  clear hA
  go_enter Tryz.func9, Tryz.ntmps9
  go_upto_region 1 with (fail)
  obtain ⟨W0, hW, extW, bx, hzz⟩ := box1 w 27 #[.bool s, .slice A n c, .bool t, .slice B m d]
  rw [← hW]
  clear hW hzz
  go_wp2_with fail
  refine (HA.out _ (hT.ext extW) (hP.ext extW)).mono ?_
  rintro e W ⟨rfl, hxt⟩
  replace extW := extW.trans hxt
  replace bx := bx.ext hxt
  clear hxt
  have bx0 := bx.cell 0 (.bool s) rfl
  have bx1 := bx.cell 1 (.slice A n c) rfl
  have bx2 := bx.cell 2 (.bool t) rfl
  have bx3 := bx.cell 3 (.slice B m d) rfl
  have hnb := Box.new W 27 #[.bool s, .slice A n c, .bool t, .slice B m d]
  have e1 := (Ext.refl W).alloc (.cells #[.bool s, .slice A n c, .bool t, .slice B m d] 27)
  go_wp2_with fail
  refine (few1 hnb (hr0.1.ext (extW.trans e1)) (hr0.2.ext (extW.trans e1))).mono ?_
  rintro e W1 ⟨rfl, hxt⟩
  rw [HF.out]
  have ES := e1.trans hxt
  clear hnb e1 hxt
  clear bx0 bx1 bx2 bx3
  go_wp2_with fail
  refine (HA.out _ (hT.ext (extW.trans ES)) (hP.ext (extW.trans ES))).mono ?_
  rintro e W2 ⟨rfl, hxt⟩
  go_wp2_with fail
  go_ret
  exact ⟨rfl, (extW.trans ES).trans hxt⟩
theorem sqrt2_any (hA : Awake2) (hT : Tab w) (hP : TabP w) (hr0 : RI w A n c xs ∧ RI w B m d ys) :
    Calls Tryz.prog 9 #[.agg #[.bool s, .slice A n c, .bool t, .slice B m d]] w fun e w' => e = .returned (.bool true) ∧ Ext w w' := by
  cases hf : (fewB n m s xs t ys) with
  | false => exact sqrt2_no hA hT hP hr0 hf
  | true =>
    skip
    have f0 := hf
    obtain ⟨q, h⟩ := few_nr hr0.1 hr0.2 f0
    exact sqrt2_all hA hT hP h
end
end Go.Proofs.YtiioodgpkdbndaaGreatDoor
namespace Go.Proofs.YtiioodgpkdbndaaGreatDoor
open Go.ChangeShapes Go.WideShapes Go.ChangeAt Go.RowKit Go.Joins
set_option maxRecDepth 100000
theorem sqrt2_laid : Rows.rationalSqrtRow.laid = laidR := by kernel_rfl
theorem sqrt2_lifted (os : Os) (started : os.Started) (H : Type) (enc : TypeId × Value → H) :
    ReturnsInHanded {} Tryz.checked os 9 .any (fun w args => (Rows.rationalSqrtSpec.pre enc Tryz.prog Tryz.f9 [] false w args ∧ laidMetH Tryz.prog Rows.rationalSqrtRow.laid w) ∧ sizedMet enc Tryz.prog Tryz.f9 (OpenSpec.ofChange Rows.rationalSqrtSpec) false w args)
      (Rows.rationalSqrtSpec.post enc Tryz.prog Tryz.f9 false true false false) := by
  refine returnsInHanded_of_change_and (C := Tryz.checked) (X := fun w _ => laidMetH Tryz.prog Rows.rationalSqrtRow.laid w) (fun _ _ _ hh h => h.of_heap hh) Tryz.own started (by kernel_rfl) Tryz.func9
    (ChangeSpec.witness_shaped (enc := enc) (C := Tryz.checked) (os := os) (X := fun w _ => laidMetH Tryz.prog Rows.rationalSqrtRow.laid w) false (World.laidAll Tryz.prog os Rows.rationalSqrtRow.laid) #[Value.agg #[.bool false, .slice none 0 0, .bool false, .slice none 0 0]] 8 (World.laidAll_os _ _ _)
      (World.shaped_of_ZipB (by kernel_rfl) (by kernel_rfl)) (by kernel_rfl) (by kernel_rfl) (by kernel_rfl)
      (by rw [MakeChecks.laidMetH_plain _ _ _ (by kernel_rfl)]; exact laidMet_laidAll _ (by kernel_rfl) (by kernel_rfl))) ?_
  intro W base args ds gs before hval0 hW _ _ hL _
  have hval : ∀ (j : Nat) t v, Tryz.f9.params[j]? = some t → args[j]? = some v → Value.okWide Tryz.prog W .any base t v := hval0
  have hW' := hW
  have hlt : ∀ p ∈ before, p.block < W.heap.size := fun p hp => hW.lt p hp
  obtain ⟨p, q, hA0, hV, rfl, _, _⟩ := hW
  have hA : DataW.TrodAll enc Tryz.prog W 0 (fun _ => true) true Tryz.f9.params.toList args.toList ds p := hA0
  rw [Tryz.params9] at hA hval
  obtain ⟨v0, d0, rfl, rfl, h0⟩ := trodAll_one hA
  obtain ⟨rfl, rfl⟩ := trodVars_none hV
  simp only [List.append_nil] at hW' hlt
  obtain ⟨s, A, n, c, t, B, m, d, xs, ys, rfl, hr0, hk0⟩ := open_rat (hval 0 27 v0 rfl rfl) h0
  clear hA0 hval0
  rw [sqrt2_laid] at hL
  obtain ⟨hT, hP⟩ := tabs_of_laid hL
  refine (sqrt2_any awake2 hT hP ⟨hr0, hk0⟩).mono fun e W' ⟨he, hext⟩ => ?_
  subst he
  have hb : Below W.heap.size W W' := hext
  have g0 := Below.trod Tryz.laidOut (by kernel_rfl) (of_decide_eq_true (by kernel_rfl)) h0 hb (fun p hp => hlt p hp)
  exact ⟨_, rfl, _, _, _, [], p, [], hW', trodAll_mk1 (shut_bool Tryz.underlying4 true), trodAll_mk1 g0, rfl, Below.frame hb _, fun h => by cases h⟩
theorem sqrt2_row_holds : Rows.RationalSqrtSaid :=
  OpenClaim.holds_of_wide 9 Tryz.f9 rfl rfl rfl rfl rfl rfl rfl ⟨rfl, rfl, rfl, rfl, rfl⟩ rfl rfl rfl rfl rfl (by kernel_rfl) Tryz.func9 (by kernel_rfl)
    (of_decide_eq_true (by kernel_rfl)) (by unfold Func.isWrapper; first | (rw [if_neg (of_decide_eq_false (by kernel_rfl))]; exact ⟨rfl, rfl⟩) | (rw [if_pos (by decide +kernel)]; kernel_rfl))
    (fun os started H enc _ => sqrt2_lifted os started H enc)
theorem sqrt2_holds : Rows.RationalSqrtCardSaid :=
  Claim7.holds_tied_plain_at .later [] [.data, .data, .data, .data, .pinned] true Rows.rationalSqrtCard.stood.harness false
    sqrt2_row_holds (fun _ h => by cases h) (by kernel_rfl) (fun _ h => by cases h) rationalSqrt_row_tie rfl ⟨rfl, rfl⟩ (by kernel_rfl) rfl
    (fun f fn hf hfn => by
      obtain rfl : f = 9 := Option.some.inj ((show Tryz.prog.funcNamed "setsquare/setsquarelaw02.RationalSqrt" = some 9 by kernel_rfl).symm.trans hf) |>.symm
      obtain rfl : fn = Tryz.f9 := (Option.some.inj (Tryz.func9.symm.trans hfn)).symm
      exact ⟨by kernel_rfl, fun j t ht => by
        rw [Tryz.params9] at ht
        have hm : t ∈ [27] := by simpa using Array.mem_of_getElem? ht
        have hall : ([27].all fun u => !Tryz.prog.wantsStandIn u) = true := by kernel_rfl
        exact (show Tryz.prog.wantsStandIn t = false by simpa using List.all_eq_true.1 hall t hm)⟩)
    (by kernel_rfl)
end Go.Proofs.YtiioodgpkdbndaaGreatDoor
