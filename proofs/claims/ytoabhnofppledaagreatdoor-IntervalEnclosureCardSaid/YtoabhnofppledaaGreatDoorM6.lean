/- Walks and laws, a part. -/
import Derived.Test.YtoabhnofppledaaGreatDoorM5
import Derived.Lib.MinMax
namespace Go.Proofs.YtoabhnofppledaaGreatDoor
open Go.RowKit
attribute [local go_sem ↓] Go.wp_at_zero Go.wp_at_succ
section
variable {w w' : World} {z y : Int} {q p : Rat} {L M : Nat} {s t s' t' : Bool} {A B A' B' : Option Addr} {n c m d n' c' m' d' : Nat}
theorem cmp_signs (a b d e : Int) (hd : 0 < d) (he : 0 < e) (h : a.sign ≠ b.sign) : (a - b).sign = (a * e - b * d).sign := by
  rcases Int.lt_trichotomy a 0 with ha | ha | ha <;> rcases Int.lt_trichotomy b 0 with hb | hb | hb
  · exact absurd (by rw [Int.sign_eq_neg_one_of_neg ha, Int.sign_eq_neg_one_of_neg hb]) h
  · have := Int.mul_neg_of_neg_of_pos ha he
    subst hb
    rw [Int.sign_eq_neg_one_of_neg (by omega), Int.sign_eq_neg_one_of_neg (by omega)]
  · have := Int.mul_neg_of_neg_of_pos ha he
    have := Int.mul_pos hb hd
    rw [Int.sign_eq_neg_one_of_neg (by omega), Int.sign_eq_neg_one_of_neg (by omega)]
  · have := Int.mul_neg_of_neg_of_pos hb hd
    subst ha
    rw [Int.sign_eq_one_of_pos (by omega), Int.sign_eq_one_of_pos (by omega)]
  · subst ha; subst hb; simp
  · have := Int.mul_pos hb hd
    subst ha
    rw [Int.sign_eq_neg_one_of_neg (by omega), Int.sign_eq_neg_one_of_neg (by omega)]
  · have := Int.mul_pos ha he
    have := Int.mul_neg_of_neg_of_pos hb hd
    rw [Int.sign_eq_one_of_pos (by omega), Int.sign_eq_one_of_pos (by omega)]
  · have := Int.mul_pos ha he
    subst hb
    rw [Int.sign_eq_one_of_pos (by omega), Int.sign_eq_one_of_pos (by omega)]
  · exact absurd (by rw [Int.sign_eq_one_of_pos ha, Int.sign_eq_one_of_pos hb]) h
def ratCmp (q p : Rat) : Int := (q.num * (p.den : Int) - p.num * (q.den : Int)).sign
set_option maxHeartbeats 4000000 in
set_option maxRecDepth 100000 in
theorem p_CmpR (h : NR w q L s A n c t B m d) (k : NR w p M s' A' n' c' t' B' m' d') (hL : L ≤ 20000) (hM : M ≤ 20000) (h64 : min L M < 64) : Calls Tryz.prog 51 #[.agg #[.bool s, .slice A n c, .bool t, .slice B m d], .agg #[.bool s', .slice A' n' c', .bool t', .slice B' m' d']] w fun e w' => e = .returned (.int .i64 (ratCmp q p)) ∧ Ext w w' := by
  go_enter Tryz.func51, Tryz.ntmps51
  go_upto_region 1 with (fail)
  obtain ⟨W, hW, extW, bx, by_, hz⟩ := box2 w 26 26 #[.bool s, .slice A n c, .bool t, .slice B m d] #[.bool s', .slice A' n' c', .bool t', .slice B' m' d']
  rw [← hW]
  clear hW
  by_cases hs : q.num.sign = p.num.sign
  · have Hs := Lib.hid hs
    by_cases h1 : (q.den : Int) = 1
    · have ho1 : decide ((q.den : Int) = 1) = true := decide_eq_true h1
      have H1 := Lib.hid h1
      clear h1
      by_cases h2 : (p.den : Int) = 1
      · have ho2 : decide ((p.den : Int) = 1) = true := decide_eq_true h2
        have H2 := Lib.hid h2
        clear hs h2
        have ES0 := Ext.refl W
        refine wp_region_held_drew (S := Ext W) (by kernel_rfl) ES0.drew (fun ES => ?_)
        clear ES0
        refine Late.start0 (fun _ _ _ _ _ => ⟨fun h => h, fun h => h⟩) ES (fun hAl hQ => ?_)
        refine Late.take (i := 0) (d := some 5) (v := ?v0_22) rfl rfl (by kernel_rfl) (by kernel_rfl) (by kernel_rfl) (by kernel_rfl) hQ (Or.inl ⟨by rfl, ?y0_22⟩) ?r0_22
        case y0_22 =>
          intro w' hSw
          have k00 := (bx.ext hSw).c4
          have k10 := (by_.ext hSw).c4
          go_simp
          try with_reducible rfl
        try simp only [Act.put]
        try simp only [List.setIfInBounds_toArray]
        try simp only [List.set_cons_succ]
        try simp only [List.set_cons_zero]
        refine Late.take (i := 2) (d := some 7) (v := ?v2_23) rfl rfl (by kernel_rfl) (by kernel_rfl) (by kernel_rfl) (by kernel_rfl) hQ (Or.inl ⟨by rfl, ?y2_23⟩) ?r2_23
        case y2_23 =>
          intro w' hSw
          have k00 := (bx.ext hSw).c4
          have k10 := (by_.ext hSw).c4
          go_simp
          try with_reducible rfl
        try simp only [Act.put]
        try simp only [List.setIfInBounds_toArray]
        try simp only [List.set_cons_succ]
        try simp only [List.set_cons_zero]
        refine Late.call (i := 1) rfl (by kernel_rfl) hAl (by kernel_rfl) (by kernel_rfl) (by kernel_rfl) hQ (fun w1 e1 E1 K hK => ?_)
        go_simp
        (go_at_call 66; refine (p_SignR (h.ext (extW.trans E1)) (by omega)).mono ?_; rintro e wk1 ⟨rfl, hx1⟩)
        refine hK.out _ _ hx1 ?_
        clear hK K
        try simp only [Act.put]
        try simp only [List.setIfInBounds_toArray]
        try simp only [List.set_cons_succ]
        try simp only [List.set_cons_zero]
        refine Late.call (i := 3) rfl (by kernel_rfl) hAl (by kernel_rfl) (by kernel_rfl) (by kernel_rfl) hQ (fun w3 e3 E3 K hK => ?_)
        go_simp
        (go_at_call 66; refine (p_SignR (k.ext (extW.trans E3)) (by omega)).mono ?_; rintro e wk2 ⟨rfl, hx3⟩)
        refine hK.out _ _ hx3 ?_
        clear hK K
        try simp only [Act.put]
        try simp only [List.setIfInBounds_toArray]
        try simp only [List.set_cons_succ]
        try simp only [List.set_cons_zero]
        have hne : (q.num.sign != p.num.sign) = false := by simp [Hs.out]
        refine Late.take (i := 4) (d := some 9) (v := ?v4_24) rfl rfl (by kernel_rfl) (by kernel_rfl) (by kernel_rfl) (by kernel_rfl) hQ (Or.inl ⟨by rfl, ?y4_24⟩) ?r4_24
        case y4_24 =>
          intro w' hSw
          have k00 := (bx.ext hSw).c4
          have k10 := (by_.ext hSw).c4
          go_simp
          try with_reducible rfl
        try simp only [Act.put]
        try simp only [List.setIfInBounds_toArray]
        try simp only [List.set_cons_succ]
        try simp only [List.set_cons_zero]
        refine Late.take (i := 5) (d := some 10) (v := ?v5_25) rfl rfl (by kernel_rfl) (by kernel_rfl) (by kernel_rfl) (by kernel_rfl) hQ (Or.inl ⟨by rfl, ?y5_25⟩) ?r5_25
        case y5_25 =>
          intro w' hSw
          have k00 := (bx.ext hSw).c4
          have k10 := (by_.ext hSw).c4
          go_simp
          try with_reducible rfl
        try simp only [Act.put]
        try simp only [List.setIfInBounds_toArray]
        try simp only [List.set_cons_succ]
        try simp only [List.set_cons_zero]
        refine Late.take (i := 6) (d := some 11) (v := ?v6_26) rfl rfl (by kernel_rfl) (by kernel_rfl) (by kernel_rfl) (by kernel_rfl) hQ (Or.inl ⟨by rfl, ?y6_26⟩) ?r6_26
        case y6_26 =>
          intro w' hSw
          have k00 := (bx.ext hSw).c4
          have k10 := (by_.ext hSw).c4
          go_simp
          try with_reducible rfl
        try simp only [Act.put]
        try simp only [List.setIfInBounds_toArray]
        try simp only [List.set_cons_succ]
        try simp only [List.set_cons_zero]
        refine Late.take (i := 7) (d := some 12) (v := ?v7_27) rfl rfl (by kernel_rfl) (by kernel_rfl) (by kernel_rfl) (by kernel_rfl) hQ (Or.inl ⟨by rfl, ?y7_27⟩) ?r7_27
        case y7_27 =>
          intro w' hSw
          have k00 := (bx.ext hSw).c4
          have k10 := (by_.ext hSw).c4
          go_simp
          try with_reducible rfl
        try simp only [Act.put]
        try simp only [List.setIfInBounds_toArray]
        try simp only [List.set_cons_succ]
        try simp only [List.set_cons_zero]
        refine Late.call (i := 8) rfl (by kernel_rfl) hAl (by kernel_rfl) (by kernel_rfl) (by kernel_rfl) hQ (fun w8 e8 E8 K hK => ?_)
        go_simp
        (go_at_call 91; refine (p_isOne (h.den.ext (extW.trans E8))).mono ?_; rintro e wk3 ⟨rfl, hx8⟩; rw [ho1])
        refine hK.out _ _ hx8 ?_
        clear hK K
        try simp only [Act.put]
        try simp only [List.setIfInBounds_toArray]
        try simp only [List.set_cons_succ]
        try simp only [List.set_cons_zero]
        refine Late.take (i := 9) (d := some 14) (v := ?v9_28) rfl rfl (by kernel_rfl) (by kernel_rfl) (by kernel_rfl) (by kernel_rfl) hQ (Or.inl ⟨by rfl, ?y9_28⟩) ?r9_28
        case y9_28 =>
          intro w' hSw
          have k00 := (bx.ext hSw).c4
          have k10 := (by_.ext hSw).c4
          go_simp
          try with_reducible rfl
        try simp only [Act.put]
        try simp only [List.setIfInBounds_toArray]
        try simp only [List.set_cons_succ]
        try simp only [List.set_cons_zero]
        refine Late.take (i := 10) (d := some 15) (v := ?v10_29) rfl rfl (by kernel_rfl) (by kernel_rfl) (by kernel_rfl) (by kernel_rfl) hQ (Or.inl ⟨by rfl, ?y10_29⟩) ?r10_29
        case y10_29 =>
          intro w' hSw
          have k00 := (bx.ext hSw).c4
          have k10 := (by_.ext hSw).c4
          go_simp
          try with_reducible rfl
        try simp only [Act.put]
        try simp only [List.setIfInBounds_toArray]
        try simp only [List.set_cons_succ]
        try simp only [List.set_cons_zero]
        refine Late.take (i := 11) (d := some 16) (v := ?v11_30) rfl rfl (by kernel_rfl) (by kernel_rfl) (by kernel_rfl) (by kernel_rfl) hQ (Or.inl ⟨by rfl, ?y11_30⟩) ?r11_30
        case y11_30 =>
          intro w' hSw
          have k00 := (bx.ext hSw).c4
          have k10 := (by_.ext hSw).c4
          go_simp
          try with_reducible rfl
        try simp only [Act.put]
        try simp only [List.setIfInBounds_toArray]
        try simp only [List.set_cons_succ]
        try simp only [List.set_cons_zero]
        refine Late.call (i := 12) rfl (by kernel_rfl) hAl (by kernel_rfl) (by kernel_rfl) (by kernel_rfl) hQ (fun w12 e12 E12 K hK => ?_)
        go_simp
        (go_at_call 91; refine (p_isOne (k.den.ext (extW.trans E12))).mono ?_; rintro e wk4 ⟨rfl, hx12⟩; rw [ho2])
        refine hK.out _ _ hx12 ?_
        clear hK K
        try simp only [Act.put]
        try simp only [List.setIfInBounds_toArray]
        try simp only [List.set_cons_succ]
        try simp only [List.set_cons_zero]
        refine Late.take (i := 13) (d := some 18) (v := ?v13_31) rfl rfl (by kernel_rfl) (by kernel_rfl) (by kernel_rfl) (by kernel_rfl) hQ (Or.inl ⟨by rfl, ?y13_31⟩) ?r13_31
        case y13_31 =>
          intro w' hSw
          have k00 := (bx.ext hSw).c4
          have k10 := (by_.ext hSw).c4
          go_simp
          try with_reducible rfl
        try simp only [Act.put]
        try simp only [List.setIfInBounds_toArray]
        try simp only [List.set_cons_succ]
        try simp only [List.set_cons_zero]
        refine Late.take (i := 14) (d := some 19) (v := ?v14_32) rfl rfl (by kernel_rfl) (by kernel_rfl) (by kernel_rfl) (by kernel_rfl) hQ (Or.inl ⟨by rfl, ?y14_32⟩) ?r14_32
        case y14_32 =>
          intro w' hSw
          have k00 := (bx.ext hSw).c4
          have k10 := (by_.ext hSw).c4
          go_simp
          try with_reducible rfl
        try simp only [Act.put]
        try simp only [List.setIfInBounds_toArray]
        try simp only [List.set_cons_succ]
        try simp only [List.set_cons_zero]
        refine Late.done0 (by kernel_rfl) (fun wz ez Ez => ?_)
        clear hAl hQ ES
        replace extW := extW.trans Ez
        replace bx := bx.ext Ez
        replace by_ := by_.ext Ez
        clear Ez ez
        have x0 := bx.cell 0 (.bool s) rfl
        have x1 := bx.cell 1 (.slice A n c) rfl
        have y0 := by_.cell 0 (.bool s') rfl
        have y1 := by_.cell 1 (.slice A' n' c') rfl
        go_wp2_with fail
        refine (p_Cmp (h.num.ext extW) (k.num.ext extW) (by omega) (by omega)).mono ?_
        rintro e wm ⟨rfl, hxm⟩
        go_wp2_with fail
        go_ret
        refine ⟨?_, extW.trans hxm⟩
        unfold ratCmp
        rw [H1.out, H2.out, Int.mul_one, Int.mul_one]
        rfl
      · have ho2 : decide ((p.den : Int) = 1) = false := decide_eq_false h2
        clear hs h2
        have ES0 := Ext.refl W
        refine wp_region_held_drew (S := Ext W) (by kernel_rfl) ES0.drew (fun ES => ?_)
        clear ES0
        refine Late.start0 (fun _ _ _ _ _ => ⟨fun h => h, fun h => h⟩) ES (fun hAl hQ => ?_)
        refine Late.take (i := 0) (d := some 5) (v := ?v0_33) rfl rfl (by kernel_rfl) (by kernel_rfl) (by kernel_rfl) (by kernel_rfl) hQ (Or.inl ⟨by rfl, ?y0_33⟩) ?r0_33
        case y0_33 =>
          intro w' hSw
          have k00 := (bx.ext hSw).c4
          have k10 := (by_.ext hSw).c4
          go_simp
          try with_reducible rfl
        try simp only [Act.put]
        try simp only [List.setIfInBounds_toArray]
        try simp only [List.set_cons_succ]
        try simp only [List.set_cons_zero]
        refine Late.take (i := 2) (d := some 7) (v := ?v2_34) rfl rfl (by kernel_rfl) (by kernel_rfl) (by kernel_rfl) (by kernel_rfl) hQ (Or.inl ⟨by rfl, ?y2_34⟩) ?r2_34
        case y2_34 =>
          intro w' hSw
          have k00 := (bx.ext hSw).c4
          have k10 := (by_.ext hSw).c4
          go_simp
          try with_reducible rfl
        try simp only [Act.put]
        try simp only [List.setIfInBounds_toArray]
        try simp only [List.set_cons_succ]
        try simp only [List.set_cons_zero]
        refine Late.call (i := 1) rfl (by kernel_rfl) hAl (by kernel_rfl) (by kernel_rfl) (by kernel_rfl) hQ (fun w1 e1 E1 K hK => ?_)
        go_simp
        (go_at_call 66; refine (p_SignR (h.ext (extW.trans E1)) (by omega)).mono ?_; rintro e wk1 ⟨rfl, hx1⟩)
        refine hK.out _ _ hx1 ?_
        clear hK K
        try simp only [Act.put]
        try simp only [List.setIfInBounds_toArray]
        try simp only [List.set_cons_succ]
        try simp only [List.set_cons_zero]
        refine Late.call (i := 3) rfl (by kernel_rfl) hAl (by kernel_rfl) (by kernel_rfl) (by kernel_rfl) hQ (fun w3 e3 E3 K hK => ?_)
        go_simp
        (go_at_call 66; refine (p_SignR (k.ext (extW.trans E3)) (by omega)).mono ?_; rintro e wk2 ⟨rfl, hx3⟩)
        refine hK.out _ _ hx3 ?_
        clear hK K
        try simp only [Act.put]
        try simp only [List.setIfInBounds_toArray]
        try simp only [List.set_cons_succ]
        try simp only [List.set_cons_zero]
        have hne : (q.num.sign != p.num.sign) = false := by simp [Hs.out]
        refine Late.take (i := 4) (d := some 9) (v := ?v4_35) rfl rfl (by kernel_rfl) (by kernel_rfl) (by kernel_rfl) (by kernel_rfl) hQ (Or.inl ⟨by rfl, ?y4_35⟩) ?r4_35
        case y4_35 =>
          intro w' hSw
          have k00 := (bx.ext hSw).c4
          have k10 := (by_.ext hSw).c4
          go_simp
          try with_reducible rfl
        try simp only [Act.put]
        try simp only [List.setIfInBounds_toArray]
        try simp only [List.set_cons_succ]
        try simp only [List.set_cons_zero]
        refine Late.take (i := 5) (d := some 10) (v := ?v5_36) rfl rfl (by kernel_rfl) (by kernel_rfl) (by kernel_rfl) (by kernel_rfl) hQ (Or.inl ⟨by rfl, ?y5_36⟩) ?r5_36
        case y5_36 =>
          intro w' hSw
          have k00 := (bx.ext hSw).c4
          have k10 := (by_.ext hSw).c4
          go_simp
          try with_reducible rfl
        try simp only [Act.put]
        try simp only [List.setIfInBounds_toArray]
        try simp only [List.set_cons_succ]
        try simp only [List.set_cons_zero]
        refine Late.take (i := 6) (d := some 11) (v := ?v6_37) rfl rfl (by kernel_rfl) (by kernel_rfl) (by kernel_rfl) (by kernel_rfl) hQ (Or.inl ⟨by rfl, ?y6_37⟩) ?r6_37
        case y6_37 =>
          intro w' hSw
          have k00 := (bx.ext hSw).c4
          have k10 := (by_.ext hSw).c4
          go_simp
          try with_reducible rfl
        try simp only [Act.put]
        try simp only [List.setIfInBounds_toArray]
        try simp only [List.set_cons_succ]
        try simp only [List.set_cons_zero]
        refine Late.take (i := 7) (d := some 12) (v := ?v7_38) rfl rfl (by kernel_rfl) (by kernel_rfl) (by kernel_rfl) (by kernel_rfl) hQ (Or.inl ⟨by rfl, ?y7_38⟩) ?r7_38
        case y7_38 =>
          intro w' hSw
          have k00 := (bx.ext hSw).c4
          have k10 := (by_.ext hSw).c4
          go_simp
          try with_reducible rfl
        try simp only [Act.put]
        try simp only [List.setIfInBounds_toArray]
        try simp only [List.set_cons_succ]
        try simp only [List.set_cons_zero]
        refine Late.call (i := 8) rfl (by kernel_rfl) hAl (by kernel_rfl) (by kernel_rfl) (by kernel_rfl) hQ (fun w8 e8 E8 K hK => ?_)
        go_simp
        (go_at_call 91; refine (p_isOne (h.den.ext (extW.trans E8))).mono ?_; rintro e wk3 ⟨rfl, hx8⟩; rw [ho1])
        refine hK.out _ _ hx8 ?_
        clear hK K
        try simp only [Act.put]
        try simp only [List.setIfInBounds_toArray]
        try simp only [List.set_cons_succ]
        try simp only [List.set_cons_zero]
        refine Late.take (i := 9) (d := some 14) (v := ?v9_39) rfl rfl (by kernel_rfl) (by kernel_rfl) (by kernel_rfl) (by kernel_rfl) hQ (Or.inl ⟨by rfl, ?y9_39⟩) ?r9_39
        case y9_39 =>
          intro w' hSw
          have k00 := (bx.ext hSw).c4
          have k10 := (by_.ext hSw).c4
          go_simp
          try with_reducible rfl
        try simp only [Act.put]
        try simp only [List.setIfInBounds_toArray]
        try simp only [List.set_cons_succ]
        try simp only [List.set_cons_zero]
        refine Late.take (i := 10) (d := some 15) (v := ?v10_40) rfl rfl (by kernel_rfl) (by kernel_rfl) (by kernel_rfl) (by kernel_rfl) hQ (Or.inl ⟨by rfl, ?y10_40⟩) ?r10_40
        case y10_40 =>
          intro w' hSw
          have k00 := (bx.ext hSw).c4
          have k10 := (by_.ext hSw).c4
          go_simp
          try with_reducible rfl
        try simp only [Act.put]
        try simp only [List.setIfInBounds_toArray]
        try simp only [List.set_cons_succ]
        try simp only [List.set_cons_zero]
        refine Late.take (i := 11) (d := some 16) (v := ?v11_41) rfl rfl (by kernel_rfl) (by kernel_rfl) (by kernel_rfl) (by kernel_rfl) hQ (Or.inl ⟨by rfl, ?y11_41⟩) ?r11_41
        case y11_41 =>
          intro w' hSw
          have k00 := (bx.ext hSw).c4
          have k10 := (by_.ext hSw).c4
          go_simp
          try with_reducible rfl
        try simp only [Act.put]
        try simp only [List.setIfInBounds_toArray]
        try simp only [List.set_cons_succ]
        try simp only [List.set_cons_zero]
        refine Late.call (i := 12) rfl (by kernel_rfl) hAl (by kernel_rfl) (by kernel_rfl) (by kernel_rfl) hQ (fun w12 e12 E12 K hK => ?_)
        go_simp
        (go_at_call 91; refine (p_isOne (k.den.ext (extW.trans E12))).mono ?_; rintro e wk4 ⟨rfl, hx12⟩; rw [ho2])
        refine hK.out _ _ hx12 ?_
        clear hK K
        try simp only [Act.put]
        try simp only [List.setIfInBounds_toArray]
        try simp only [List.set_cons_succ]
        try simp only [List.set_cons_zero]
        refine Late.take (i := 13) (d := some 18) (v := ?v13_42) rfl rfl (by kernel_rfl) (by kernel_rfl) (by kernel_rfl) (by kernel_rfl) hQ (Or.inl ⟨by rfl, ?y13_42⟩) ?r13_42
        case y13_42 =>
          intro w' hSw
          have k00 := (bx.ext hSw).c4
          have k10 := (by_.ext hSw).c4
          go_simp
          try with_reducible rfl
        try simp only [Act.put]
        try simp only [List.setIfInBounds_toArray]
        try simp only [List.set_cons_succ]
        try simp only [List.set_cons_zero]
        refine Late.take (i := 14) (d := some 19) (v := ?v14_43) rfl rfl (by kernel_rfl) (by kernel_rfl) (by kernel_rfl) (by kernel_rfl) hQ (Or.inl ⟨by rfl, ?y14_43⟩) ?r14_43
        case y14_43 =>
          intro w' hSw
          have k00 := (bx.ext hSw).c4
          have k10 := (by_.ext hSw).c4
          go_simp
          try with_reducible rfl
        try simp only [Act.put]
        try simp only [List.setIfInBounds_toArray]
        try simp only [List.set_cons_succ]
        try simp only [List.set_cons_zero]
        refine Late.done0 (by kernel_rfl) (fun wz ez Ez => ?_)
        clear hAl hQ ES
        replace extW := extW.trans Ez
        replace bx := bx.ext Ez
        replace by_ := by_.ext Ez
        clear Ez ez
        go_wp2_with fail
        have ES0 := Ext.refl wz
        refine wp_region_held_drew (S := Ext wz) (by kernel_rfl) ES0.drew (fun ES => ?_)
        clear ES0
        refine Late.start0 (fun _ _ _ _ _ => ⟨fun h => h, fun h => h⟩) ES (fun hAl hQ => ?_)
        refine Late.take (i := 0) (d := some 25) (v := ?v0_44) rfl rfl (by kernel_rfl) (by kernel_rfl) (by kernel_rfl) (by kernel_rfl) hQ (Or.inl ⟨by rfl, ?y0_44⟩) ?r0_44
        case y0_44 =>
          intro w' hSw
          have k00 := (bx.ext hSw).c4
          have k10 := (by_.ext hSw).c4
          go_simp
          try with_reducible rfl
        try simp only [Act.put]
        try simp only [List.setIfInBounds_toArray]
        try simp only [List.set_cons_succ]
        try simp only [List.set_cons_zero]
        refine Late.take (i := 2) (d := some 27) (v := ?v2_45) rfl rfl (by kernel_rfl) (by kernel_rfl) (by kernel_rfl) (by kernel_rfl) hQ (Or.inl ⟨by rfl, ?y2_45⟩) ?r2_45
        case y2_45 =>
          intro w' hSw
          have k00 := (bx.ext hSw).c4
          have k10 := (by_.ext hSw).c4
          go_simp
          try with_reducible rfl
        try simp only [Act.put]
        try simp only [List.setIfInBounds_toArray]
        try simp only [List.set_cons_succ]
        try simp only [List.set_cons_zero]
        refine Late.take (i := 5) (d := some 30) (v := ?v5_46) rfl rfl (by kernel_rfl) (by kernel_rfl) (by kernel_rfl) (by kernel_rfl) hQ (Or.inl ⟨by rfl, ?y5_46⟩) ?r5_46
        case y5_46 =>
          intro w' hSw
          have k00 := (bx.ext hSw).c4
          have k10 := (by_.ext hSw).c4
          go_simp
          try with_reducible rfl
        try simp only [Act.put]
        try simp only [List.setIfInBounds_toArray]
        try simp only [List.set_cons_succ]
        try simp only [List.set_cons_zero]
        refine Late.take (i := 7) (d := some 32) (v := ?v7_47) rfl rfl (by kernel_rfl) (by kernel_rfl) (by kernel_rfl) (by kernel_rfl) hQ (Or.inl ⟨by rfl, ?y7_47⟩) ?r7_47
        case y7_47 =>
          intro w' hSw
          have k00 := (bx.ext hSw).c4
          have k10 := (by_.ext hSw).c4
          go_simp
          try with_reducible rfl
        try simp only [Act.put]
        try simp only [List.setIfInBounds_toArray]
        try simp only [List.set_cons_succ]
        try simp only [List.set_cons_zero]
        refine Late.take (i := 1) (d := some 26) (v := ?v1_48) rfl rfl (by kernel_rfl) (by kernel_rfl) (by kernel_rfl) (by kernel_rfl) hQ (Or.inl ⟨by rfl, ?y1_48⟩) ?r1_48
        case y1_48 =>
          intro w' hSw
          have k00 := (bx.ext hSw).c4
          have k10 := (by_.ext hSw).c4
          go_simp
          try with_reducible rfl
        try simp only [Act.put]
        try simp only [List.setIfInBounds_toArray]
        try simp only [List.set_cons_succ]
        try simp only [List.set_cons_zero]
        refine Late.take (i := 3) (d := some 28) (v := ?v3_49) rfl rfl (by kernel_rfl) (by kernel_rfl) (by kernel_rfl) (by kernel_rfl) hQ (Or.inl ⟨by rfl, ?y3_49⟩) ?r3_49
        case y3_49 =>
          intro w' hSw
          have k00 := (bx.ext hSw).c4
          have k10 := (by_.ext hSw).c4
          go_simp
          try with_reducible rfl
        try simp only [Act.put]
        try simp only [List.setIfInBounds_toArray]
        try simp only [List.set_cons_succ]
        try simp only [List.set_cons_zero]
        refine Late.take (i := 6) (d := some 31) (v := ?v6_50) rfl rfl (by kernel_rfl) (by kernel_rfl) (by kernel_rfl) (by kernel_rfl) hQ (Or.inl ⟨by rfl, ?y6_50⟩) ?r6_50
        case y6_50 =>
          intro w' hSw
          have k00 := (bx.ext hSw).c4
          have k10 := (by_.ext hSw).c4
          go_simp
          try with_reducible rfl
        try simp only [Act.put]
        try simp only [List.setIfInBounds_toArray]
        try simp only [List.set_cons_succ]
        try simp only [List.set_cons_zero]
        refine Late.take (i := 8) (d := some 33) (v := ?v8_51) rfl rfl (by kernel_rfl) (by kernel_rfl) (by kernel_rfl) (by kernel_rfl) hQ (Or.inl ⟨by rfl, ?y8_51⟩) ?r8_51
        case y8_51 =>
          intro w' hSw
          have k00 := (bx.ext hSw).c4
          have k10 := (by_.ext hSw).c4
          go_simp
          try with_reducible rfl
        try simp only [Act.put]
        try simp only [List.setIfInBounds_toArray]
        try simp only [List.set_cons_succ]
        try simp only [List.set_cons_zero]
        refine Late.call (i := 4) rfl (by kernel_rfl) hAl (by kernel_rfl) (by kernel_rfl) (by kernel_rfl) hQ (fun w4 e4 E4 K hK => ?_)
        go_simp
        (go_at_call 94; refine (p_Mul (h.num.ext (extW.trans E4)) (k.den.ext (extW.trans E4)) (by omega) (by omega) h64).mono ?_; rintro e m1 ⟨s1, A1, n1, c1, rfl, h1, hx4⟩)
        refine hK.out _ _ hx4 ?_
        clear hK K
        try simp only [Act.put]
        try simp only [List.setIfInBounds_toArray]
        try simp only [List.set_cons_succ]
        try simp only [List.set_cons_zero]
        refine Late.call (i := 9) rfl (by kernel_rfl) hAl (by kernel_rfl) (by kernel_rfl) (by kernel_rfl) hQ (fun w9 e9 E9 K hK => ?_)
        go_simp
        (go_at_call 94; refine (p_Mul (k.num.ext (extW.trans E9)) (h.den.ext (extW.trans E9)) (by omega) (by omega) (by omega)).mono ?_; rintro e m2 ⟨s2, A2, n2, c2, rfl, h2, hx9⟩)
        refine hK.out _ _ hx9 ?_
        clear hK K
        try simp only [Act.put]
        try simp only [List.setIfInBounds_toArray]
        try simp only [List.set_cons_succ]
        try simp only [List.set_cons_zero]
        refine Late.call (i := 10) rfl (by kernel_rfl) hAl (by kernel_rfl) (by kernel_rfl) (by kernel_rfl) hQ (fun w10 e10 E10 K hK => ?_)
        go_simp
        (go_at_call 93; refine (p_Cmp (h1.ext (e9.trans (hx9.trans e10))) (h2.ext e10) (by omega) (by omega)).mono ?_; rintro e m3 ⟨rfl, hx10⟩)
        refine hK.out _ _ hx10 ?_
        clear hK K
        try simp only [Act.put]
        try simp only [List.setIfInBounds_toArray]
        try simp only [List.set_cons_succ]
        try simp only [List.set_cons_zero]
        refine Late.take (i := 11) (d := some 4) (v := ?v11_52) rfl rfl (by kernel_rfl) (by kernel_rfl) (by kernel_rfl) (by kernel_rfl) hQ (Or.inl ⟨by rfl, ?y11_52⟩) ?r11_52
        case y11_52 =>
          intro w' hSw
          have k00 := (bx.ext hSw).c4
          have k10 := (by_.ext hSw).c4
          go_simp
          try with_reducible rfl
        try simp only [Act.put]
        try simp only [List.setIfInBounds_toArray]
        try simp only [List.set_cons_succ]
        try simp only [List.set_cons_zero]
        refine Late.done0 (by kernel_rfl) (fun wz ez Ez => ?_)
        clear hAl hQ ES
        go_wp2_with fail
        go_ret
        exact ⟨rfl, extW.trans Ez⟩
    · have ho1 : decide ((q.den : Int) = 1) = false := decide_eq_false h1
      clear hs h1
      have ES0 := Ext.refl W
      refine wp_region_held_drew (S := Ext W) (by kernel_rfl) ES0.drew (fun ES => ?_)
      clear ES0
      refine Late.start0 (fun _ _ _ _ _ => ⟨fun h => h, fun h => h⟩) ES (fun hAl hQ => ?_)
      refine Late.take (i := 0) (d := some 5) (v := ?v0_13) rfl rfl (by kernel_rfl) (by kernel_rfl) (by kernel_rfl) (by kernel_rfl) hQ (Or.inl ⟨by rfl, ?y0_13⟩) ?r0_13
      case y0_13 =>
        intro w' hSw
        have k00 := (bx.ext hSw).c4
        have k10 := (by_.ext hSw).c4
        go_simp
        try with_reducible rfl
      try simp only [Act.put]
      try simp only [List.setIfInBounds_toArray]
      try simp only [List.set_cons_succ]
      try simp only [List.set_cons_zero]
      refine Late.take (i := 2) (d := some 7) (v := ?v2_14) rfl rfl (by kernel_rfl) (by kernel_rfl) (by kernel_rfl) (by kernel_rfl) hQ (Or.inl ⟨by rfl, ?y2_14⟩) ?r2_14
      case y2_14 =>
        intro w' hSw
        have k00 := (bx.ext hSw).c4
        have k10 := (by_.ext hSw).c4
        go_simp
        try with_reducible rfl
      try simp only [Act.put]
      try simp only [List.setIfInBounds_toArray]
      try simp only [List.set_cons_succ]
      try simp only [List.set_cons_zero]
      refine Late.call (i := 1) rfl (by kernel_rfl) hAl (by kernel_rfl) (by kernel_rfl) (by kernel_rfl) hQ (fun w1 e1 E1 K hK => ?_)
      go_simp
      (go_at_call 66; refine (p_SignR (h.ext (extW.trans E1)) (by omega)).mono ?_; rintro e wk1 ⟨rfl, hx1⟩)
      refine hK.out _ _ hx1 ?_
      clear hK K
      try simp only [Act.put]
      try simp only [List.setIfInBounds_toArray]
      try simp only [List.set_cons_succ]
      try simp only [List.set_cons_zero]
      refine Late.call (i := 3) rfl (by kernel_rfl) hAl (by kernel_rfl) (by kernel_rfl) (by kernel_rfl) hQ (fun w3 e3 E3 K hK => ?_)
      go_simp
      (go_at_call 66; refine (p_SignR (k.ext (extW.trans E3)) (by omega)).mono ?_; rintro e wk2 ⟨rfl, hx3⟩)
      refine hK.out _ _ hx3 ?_
      clear hK K
      try simp only [Act.put]
      try simp only [List.setIfInBounds_toArray]
      try simp only [List.set_cons_succ]
      try simp only [List.set_cons_zero]
      have hne : (q.num.sign != p.num.sign) = false := by simp [Hs.out]
      refine Late.take (i := 4) (d := some 9) (v := ?v4_15) rfl rfl (by kernel_rfl) (by kernel_rfl) (by kernel_rfl) (by kernel_rfl) hQ (Or.inl ⟨by rfl, ?y4_15⟩) ?r4_15
      case y4_15 =>
        intro w' hSw
        have k00 := (bx.ext hSw).c4
        have k10 := (by_.ext hSw).c4
        go_simp
        try with_reducible rfl
      try simp only [Act.put]
      try simp only [List.setIfInBounds_toArray]
      try simp only [List.set_cons_succ]
      try simp only [List.set_cons_zero]
      refine Late.take (i := 5) (d := some 10) (v := ?v5_16) rfl rfl (by kernel_rfl) (by kernel_rfl) (by kernel_rfl) (by kernel_rfl) hQ (Or.inl ⟨by rfl, ?y5_16⟩) ?r5_16
      case y5_16 =>
        intro w' hSw
        have k00 := (bx.ext hSw).c4
        have k10 := (by_.ext hSw).c4
        go_simp
        try with_reducible rfl
      try simp only [Act.put]
      try simp only [List.setIfInBounds_toArray]
      try simp only [List.set_cons_succ]
      try simp only [List.set_cons_zero]
      refine Late.take (i := 6) (d := some 11) (v := ?v6_17) rfl rfl (by kernel_rfl) (by kernel_rfl) (by kernel_rfl) (by kernel_rfl) hQ (Or.inl ⟨by rfl, ?y6_17⟩) ?r6_17
      case y6_17 =>
        intro w' hSw
        have k00 := (bx.ext hSw).c4
        have k10 := (by_.ext hSw).c4
        go_simp
        try with_reducible rfl
      try simp only [Act.put]
      try simp only [List.setIfInBounds_toArray]
      try simp only [List.set_cons_succ]
      try simp only [List.set_cons_zero]
      refine Late.take (i := 7) (d := some 12) (v := ?v7_18) rfl rfl (by kernel_rfl) (by kernel_rfl) (by kernel_rfl) (by kernel_rfl) hQ (Or.inl ⟨by rfl, ?y7_18⟩) ?r7_18
      case y7_18 =>
        intro w' hSw
        have k00 := (bx.ext hSw).c4
        have k10 := (by_.ext hSw).c4
        go_simp
        try with_reducible rfl
      try simp only [Act.put]
      try simp only [List.setIfInBounds_toArray]
      try simp only [List.set_cons_succ]
      try simp only [List.set_cons_zero]
      refine Late.call (i := 8) rfl (by kernel_rfl) hAl (by kernel_rfl) (by kernel_rfl) (by kernel_rfl) hQ (fun w8 e8 E8 K hK => ?_)
      go_simp
      (go_at_call 91; refine (p_isOne (h.den.ext (extW.trans E8))).mono ?_; rintro e wk3 ⟨rfl, hx8⟩; rw [ho1])
      refine hK.out _ _ hx8 ?_
      clear hK K
      try simp only [Act.put]
      try simp only [List.setIfInBounds_toArray]
      try simp only [List.set_cons_succ]
      try simp only [List.set_cons_zero]
      refine Late.take (i := 9) (d := some 14) (v := ?v9_19) rfl rfl (by kernel_rfl) (by kernel_rfl) (by kernel_rfl) (by kernel_rfl) hQ (Or.inl ⟨by rfl, ?y9_19⟩) ?r9_19
      case y9_19 =>
        intro w' hSw
        have k00 := (bx.ext hSw).c4
        have k10 := (by_.ext hSw).c4
        go_simp
        try with_reducible rfl
      try simp only [Act.put]
      try simp only [List.setIfInBounds_toArray]
      try simp only [List.set_cons_succ]
      try simp only [List.set_cons_zero]
      refine Late.take (i := 10) (d := some 15) (v := undef) rfl rfl (by kernel_rfl) (by kernel_rfl) (by kernel_rfl) (by kernel_rfl) hQ (Or.inr ⟨by kernel_rfl, rfl⟩) ?_
      try simp only [Act.put]
      try simp only [List.setIfInBounds_toArray]
      try simp only [List.set_cons_succ]
      try simp only [List.set_cons_zero]
      refine Late.take (i := 11) (d := some 16) (v := undef) rfl rfl (by kernel_rfl) (by kernel_rfl) (by kernel_rfl) (by kernel_rfl) hQ (Or.inr ⟨by kernel_rfl, rfl⟩) ?_
      try simp only [Act.put]
      try simp only [List.setIfInBounds_toArray]
      try simp only [List.set_cons_succ]
      try simp only [List.set_cons_zero]
      refine Late.take (i := 12) (d := some 17) (v := undef) rfl rfl (by kernel_rfl) (by kernel_rfl) (by kernel_rfl) (by kernel_rfl) hQ (Or.inr ⟨by kernel_rfl, rfl⟩) ?_
      try simp only [Act.put]
      try simp only [List.setIfInBounds_toArray]
      try simp only [List.set_cons_succ]
      try simp only [List.set_cons_zero]
      refine Late.take (i := 13) (d := some 18) (v := ?v13_20) rfl rfl (by kernel_rfl) (by kernel_rfl) (by kernel_rfl) (by kernel_rfl) hQ (Or.inl ⟨by rfl, ?y13_20⟩) ?r13_20
      case y13_20 =>
        intro w' hSw
        have k00 := (bx.ext hSw).c4
        have k10 := (by_.ext hSw).c4
        go_simp
        try with_reducible rfl
      try simp only [Act.put]
      try simp only [List.setIfInBounds_toArray]
      try simp only [List.set_cons_succ]
      try simp only [List.set_cons_zero]
      refine Late.take (i := 14) (d := some 19) (v := ?v14_21) rfl rfl (by kernel_rfl) (by kernel_rfl) (by kernel_rfl) (by kernel_rfl) hQ (Or.inl ⟨by rfl, ?y14_21⟩) ?r14_21
      case y14_21 =>
        intro w' hSw
        have k00 := (bx.ext hSw).c4
        have k10 := (by_.ext hSw).c4
        go_simp
        try with_reducible rfl
      try simp only [Act.put]
      try simp only [List.setIfInBounds_toArray]
      try simp only [List.set_cons_succ]
      try simp only [List.set_cons_zero]
      refine Late.done0 (by kernel_rfl) (fun wz ez Ez => ?_)
      clear hAl hQ ES
      replace extW := extW.trans Ez
      replace bx := bx.ext Ez
      replace by_ := by_.ext Ez
      clear Ez ez
      go_wp2_with fail
      have ES0 := Ext.refl wz
      refine wp_region_held_drew (S := Ext wz) (by kernel_rfl) ES0.drew (fun ES => ?_)
      clear ES0
      refine Late.start0 (fun _ _ _ _ _ => ⟨fun h => h, fun h => h⟩) ES (fun hAl hQ => ?_)
      refine Late.take (i := 0) (d := some 25) (v := ?v0_53) rfl rfl (by kernel_rfl) (by kernel_rfl) (by kernel_rfl) (by kernel_rfl) hQ (Or.inl ⟨by rfl, ?y0_53⟩) ?r0_53
      case y0_53 =>
        intro w' hSw
        have k00 := (bx.ext hSw).c4
        have k10 := (by_.ext hSw).c4
        go_simp
        try with_reducible rfl
      try simp only [Act.put]
      try simp only [List.setIfInBounds_toArray]
      try simp only [List.set_cons_succ]
      try simp only [List.set_cons_zero]
      refine Late.take (i := 2) (d := some 27) (v := ?v2_54) rfl rfl (by kernel_rfl) (by kernel_rfl) (by kernel_rfl) (by kernel_rfl) hQ (Or.inl ⟨by rfl, ?y2_54⟩) ?r2_54
      case y2_54 =>
        intro w' hSw
        have k00 := (bx.ext hSw).c4
        have k10 := (by_.ext hSw).c4
        go_simp
        try with_reducible rfl
      try simp only [Act.put]
      try simp only [List.setIfInBounds_toArray]
      try simp only [List.set_cons_succ]
      try simp only [List.set_cons_zero]
      refine Late.take (i := 5) (d := some 30) (v := ?v5_55) rfl rfl (by kernel_rfl) (by kernel_rfl) (by kernel_rfl) (by kernel_rfl) hQ (Or.inl ⟨by rfl, ?y5_55⟩) ?r5_55
      case y5_55 =>
        intro w' hSw
        have k00 := (bx.ext hSw).c4
        have k10 := (by_.ext hSw).c4
        go_simp
        try with_reducible rfl
      try simp only [Act.put]
      try simp only [List.setIfInBounds_toArray]
      try simp only [List.set_cons_succ]
      try simp only [List.set_cons_zero]
      refine Late.take (i := 7) (d := some 32) (v := ?v7_56) rfl rfl (by kernel_rfl) (by kernel_rfl) (by kernel_rfl) (by kernel_rfl) hQ (Or.inl ⟨by rfl, ?y7_56⟩) ?r7_56
      case y7_56 =>
        intro w' hSw
        have k00 := (bx.ext hSw).c4
        have k10 := (by_.ext hSw).c4
        go_simp
        try with_reducible rfl
      try simp only [Act.put]
      try simp only [List.setIfInBounds_toArray]
      try simp only [List.set_cons_succ]
      try simp only [List.set_cons_zero]
      refine Late.take (i := 1) (d := some 26) (v := ?v1_57) rfl rfl (by kernel_rfl) (by kernel_rfl) (by kernel_rfl) (by kernel_rfl) hQ (Or.inl ⟨by rfl, ?y1_57⟩) ?r1_57
      case y1_57 =>
        intro w' hSw
        have k00 := (bx.ext hSw).c4
        have k10 := (by_.ext hSw).c4
        go_simp
        try with_reducible rfl
      try simp only [Act.put]
      try simp only [List.setIfInBounds_toArray]
      try simp only [List.set_cons_succ]
      try simp only [List.set_cons_zero]
      refine Late.take (i := 3) (d := some 28) (v := ?v3_58) rfl rfl (by kernel_rfl) (by kernel_rfl) (by kernel_rfl) (by kernel_rfl) hQ (Or.inl ⟨by rfl, ?y3_58⟩) ?r3_58
      case y3_58 =>
        intro w' hSw
        have k00 := (bx.ext hSw).c4
        have k10 := (by_.ext hSw).c4
        go_simp
        try with_reducible rfl
      try simp only [Act.put]
      try simp only [List.setIfInBounds_toArray]
      try simp only [List.set_cons_succ]
      try simp only [List.set_cons_zero]
      refine Late.take (i := 6) (d := some 31) (v := ?v6_59) rfl rfl (by kernel_rfl) (by kernel_rfl) (by kernel_rfl) (by kernel_rfl) hQ (Or.inl ⟨by rfl, ?y6_59⟩) ?r6_59
      case y6_59 =>
        intro w' hSw
        have k00 := (bx.ext hSw).c4
        have k10 := (by_.ext hSw).c4
        go_simp
        try with_reducible rfl
      try simp only [Act.put]
      try simp only [List.setIfInBounds_toArray]
      try simp only [List.set_cons_succ]
      try simp only [List.set_cons_zero]
      refine Late.take (i := 8) (d := some 33) (v := ?v8_60) rfl rfl (by kernel_rfl) (by kernel_rfl) (by kernel_rfl) (by kernel_rfl) hQ (Or.inl ⟨by rfl, ?y8_60⟩) ?r8_60
      case y8_60 =>
        intro w' hSw
        have k00 := (bx.ext hSw).c4
        have k10 := (by_.ext hSw).c4
        go_simp
        try with_reducible rfl
      try simp only [Act.put]
      try simp only [List.setIfInBounds_toArray]
      try simp only [List.set_cons_succ]
      try simp only [List.set_cons_zero]
      refine Late.call (i := 4) rfl (by kernel_rfl) hAl (by kernel_rfl) (by kernel_rfl) (by kernel_rfl) hQ (fun w4 e4 E4 K hK => ?_)
      go_simp
      (go_at_call 94; refine (p_Mul (h.num.ext (extW.trans E4)) (k.den.ext (extW.trans E4)) (by omega) (by omega) h64).mono ?_; rintro e m1 ⟨s1, A1, n1, c1, rfl, h1, hx4⟩)
      refine hK.out _ _ hx4 ?_
      clear hK K
      try simp only [Act.put]
      try simp only [List.setIfInBounds_toArray]
      try simp only [List.set_cons_succ]
      try simp only [List.set_cons_zero]
      refine Late.call (i := 9) rfl (by kernel_rfl) hAl (by kernel_rfl) (by kernel_rfl) (by kernel_rfl) hQ (fun w9 e9 E9 K hK => ?_)
      go_simp
      (go_at_call 94; refine (p_Mul (k.num.ext (extW.trans E9)) (h.den.ext (extW.trans E9)) (by omega) (by omega) (by omega)).mono ?_; rintro e m2 ⟨s2, A2, n2, c2, rfl, h2, hx9⟩)
      refine hK.out _ _ hx9 ?_
      clear hK K
      try simp only [Act.put]
      try simp only [List.setIfInBounds_toArray]
      try simp only [List.set_cons_succ]
      try simp only [List.set_cons_zero]
      refine Late.call (i := 10) rfl (by kernel_rfl) hAl (by kernel_rfl) (by kernel_rfl) (by kernel_rfl) hQ (fun w10 e10 E10 K hK => ?_)
      go_simp
      (go_at_call 93; refine (p_Cmp (h1.ext (e9.trans (hx9.trans e10))) (h2.ext e10) (by omega) (by omega)).mono ?_; rintro e m3 ⟨rfl, hx10⟩)
      refine hK.out _ _ hx10 ?_
      clear hK K
      try simp only [Act.put]
      try simp only [List.setIfInBounds_toArray]
      try simp only [List.set_cons_succ]
      try simp only [List.set_cons_zero]
      refine Late.take (i := 11) (d := some 4) (v := ?v11_61) rfl rfl (by kernel_rfl) (by kernel_rfl) (by kernel_rfl) (by kernel_rfl) hQ (Or.inl ⟨by rfl, ?y11_61⟩) ?r11_61
      case y11_61 =>
        intro w' hSw
        have k00 := (bx.ext hSw).c4
        have k10 := (by_.ext hSw).c4
        go_simp
        try with_reducible rfl
      try simp only [Act.put]
      try simp only [List.setIfInBounds_toArray]
      try simp only [List.set_cons_succ]
      try simp only [List.set_cons_zero]
      refine Late.done0 (by kernel_rfl) (fun wz ez Ez => ?_)
      clear hAl hQ ES
      go_wp2_with fail
      go_ret
      exact ⟨rfl, extW.trans Ez⟩
  · have Hs := Lib.hid hs
    have ES0 := Ext.refl W
    refine wp_region_held_drew (S := Ext W) (by kernel_rfl) ES0.drew (fun ES => ?_)
    clear ES0
    refine Late.start0 (fun _ _ _ _ _ => ⟨fun h => h, fun h => h⟩) ES (fun hAl hQ => ?_)
    refine Late.take (i := 0) (d := some 5) (v := ?v0_8) rfl rfl (by kernel_rfl) (by kernel_rfl) (by kernel_rfl) (by kernel_rfl) hQ (Or.inl ⟨by rfl, ?y0_8⟩) ?r0_8
    case y0_8 =>
      intro w' hSw
      have k00 := (bx.ext hSw).c4
      have k10 := (by_.ext hSw).c4
      go_simp
      try with_reducible rfl
    try simp only [Act.put]
    try simp only [List.setIfInBounds_toArray]
    try simp only [List.set_cons_succ]
    try simp only [List.set_cons_zero]
    refine Late.take (i := 2) (d := some 7) (v := ?v2_9) rfl rfl (by kernel_rfl) (by kernel_rfl) (by kernel_rfl) (by kernel_rfl) hQ (Or.inl ⟨by rfl, ?y2_9⟩) ?r2_9
    case y2_9 =>
      intro w' hSw
      have k00 := (bx.ext hSw).c4
      have k10 := (by_.ext hSw).c4
      go_simp
      try with_reducible rfl
    try simp only [Act.put]
    try simp only [List.setIfInBounds_toArray]
    try simp only [List.set_cons_succ]
    try simp only [List.set_cons_zero]
    refine Late.call (i := 1) rfl (by kernel_rfl) hAl (by kernel_rfl) (by kernel_rfl) (by kernel_rfl) hQ (fun w1 e1 E1 K hK => ?_)
    go_simp
    (go_at_call 66; refine (p_SignR (h.ext (extW.trans E1)) (by omega)).mono ?_; rintro e wk1 ⟨rfl, hx1⟩)
    refine hK.out _ _ hx1 ?_
    clear hK K
    try simp only [Act.put]
    try simp only [List.setIfInBounds_toArray]
    try simp only [List.set_cons_succ]
    try simp only [List.set_cons_zero]
    refine Late.call (i := 3) rfl (by kernel_rfl) hAl (by kernel_rfl) (by kernel_rfl) (by kernel_rfl) hQ (fun w3 e3 E3 K hK => ?_)
    go_simp
    (go_at_call 66; refine (p_SignR (k.ext (extW.trans E3)) (by omega)).mono ?_; rintro e wk2 ⟨rfl, hx3⟩)
    refine hK.out _ _ hx3 ?_
    clear hK K
    try simp only [Act.put]
    try simp only [List.setIfInBounds_toArray]
    try simp only [List.set_cons_succ]
    try simp only [List.set_cons_zero]
    have hne : (q.num.sign != p.num.sign) = true := bne_iff_ne.2 Hs.out
    refine Late.take (i := 4) (d := some 9) (v := ?v4_10) rfl rfl (by kernel_rfl) (by kernel_rfl) (by kernel_rfl) (by kernel_rfl) hQ (Or.inl ⟨by rfl, ?y4_10⟩) ?r4_10
    case y4_10 =>
      intro w' hSw
      have k00 := (bx.ext hSw).c4
      have k10 := (by_.ext hSw).c4
      go_simp
      try with_reducible rfl
    try simp only [Act.put]
    try simp only [List.setIfInBounds_toArray]
    try simp only [List.set_cons_succ]
    try simp only [List.set_cons_zero]
    refine Late.take (i := 5) (d := some 10) (v := ?v5_11) rfl rfl (by kernel_rfl) (by kernel_rfl) (by kernel_rfl) (by kernel_rfl) hQ (Or.inl ⟨by rfl, ?y5_11⟩) ?r5_11
    case y5_11 =>
      intro w' hSw
      have k00 := (bx.ext hSw).c4
      have k10 := (by_.ext hSw).c4
      go_simp
      try with_reducible rfl
    try simp only [Act.put]
    try simp only [List.setIfInBounds_toArray]
    try simp only [List.set_cons_succ]
    try simp only [List.set_cons_zero]
    refine Late.take (i := 6) (d := some 11) (v := undef) rfl rfl (by kernel_rfl) (by kernel_rfl) (by kernel_rfl) (by kernel_rfl) hQ (Or.inr ⟨by kernel_rfl, rfl⟩) ?_
    try simp only [Act.put]
    try simp only [List.setIfInBounds_toArray]
    try simp only [List.set_cons_succ]
    try simp only [List.set_cons_zero]
    refine Late.take (i := 7) (d := some 12) (v := undef) rfl rfl (by kernel_rfl) (by kernel_rfl) (by kernel_rfl) (by kernel_rfl) hQ (Or.inr ⟨by kernel_rfl, rfl⟩) ?_
    try simp only [Act.put]
    try simp only [List.setIfInBounds_toArray]
    try simp only [List.set_cons_succ]
    try simp only [List.set_cons_zero]
    refine Late.take (i := 8) (d := some 13) (v := undef) rfl rfl (by kernel_rfl) (by kernel_rfl) (by kernel_rfl) (by kernel_rfl) hQ (Or.inr ⟨by kernel_rfl, rfl⟩) ?_
    try simp only [Act.put]
    try simp only [List.setIfInBounds_toArray]
    try simp only [List.set_cons_succ]
    try simp only [List.set_cons_zero]
    refine Late.take (i := 9) (d := some 14) (v := undef) rfl rfl (by kernel_rfl) (by kernel_rfl) (by kernel_rfl) (by kernel_rfl) hQ (Or.inr ⟨by kernel_rfl, rfl⟩) ?_
    try simp only [Act.put]
    try simp only [List.setIfInBounds_toArray]
    try simp only [List.set_cons_succ]
    try simp only [List.set_cons_zero]
    refine Late.take (i := 10) (d := some 15) (v := undef) rfl rfl (by kernel_rfl) (by kernel_rfl) (by kernel_rfl) (by kernel_rfl) hQ (Or.inr ⟨by kernel_rfl, rfl⟩) ?_
    try simp only [Act.put]
    try simp only [List.setIfInBounds_toArray]
    try simp only [List.set_cons_succ]
    try simp only [List.set_cons_zero]
    refine Late.take (i := 11) (d := some 16) (v := undef) rfl rfl (by kernel_rfl) (by kernel_rfl) (by kernel_rfl) (by kernel_rfl) hQ (Or.inr ⟨by kernel_rfl, rfl⟩) ?_
    try simp only [Act.put]
    try simp only [List.setIfInBounds_toArray]
    try simp only [List.set_cons_succ]
    try simp only [List.set_cons_zero]
    refine Late.take (i := 12) (d := some 17) (v := undef) rfl rfl (by kernel_rfl) (by kernel_rfl) (by kernel_rfl) (by kernel_rfl) hQ (Or.inr ⟨by kernel_rfl, rfl⟩) ?_
    try simp only [Act.put]
    try simp only [List.setIfInBounds_toArray]
    try simp only [List.set_cons_succ]
    try simp only [List.set_cons_zero]
    refine Late.take (i := 13) (d := some 18) (v := undef) rfl rfl (by kernel_rfl) (by kernel_rfl) (by kernel_rfl) (by kernel_rfl) hQ (Or.inr ⟨by kernel_rfl, rfl⟩) ?_
    try simp only [Act.put]
    try simp only [List.setIfInBounds_toArray]
    try simp only [List.set_cons_succ]
    try simp only [List.set_cons_zero]
    refine Late.take (i := 14) (d := some 19) (v := ?v14_12) rfl rfl (by kernel_rfl) (by kernel_rfl) (by kernel_rfl) (by kernel_rfl) hQ (Or.inl ⟨by rfl, ?y14_12⟩) ?r14_12
    case y14_12 =>
      intro w' hSw
      have k00 := (bx.ext hSw).c4
      have k10 := (by_.ext hSw).c4
      go_simp
      try with_reducible rfl
    try simp only [Act.put]
    try simp only [List.setIfInBounds_toArray]
    try simp only [List.set_cons_succ]
    try simp only [List.set_cons_zero]
    refine Late.done0 (by kernel_rfl) (fun wz ez Ez => ?_)
    clear hAl hQ ES
    replace extW := extW.trans Ez
    replace bx := bx.ext Ez
    replace by_ := by_.ext Ez
    clear Ez ez
    have x0 := bx.cell 0 (.bool s) rfl
    have x1 := bx.cell 1 (.slice A n c) rfl
    have y0 := by_.cell 0 (.bool s') rfl
    have y1 := by_.cell 1 (.slice A' n' c') rfl
    go_wp2_with fail
    refine (p_Cmp (h.num.ext extW) (k.num.ext extW) (by omega) (by omega)).mono ?_
    rintro e wm ⟨rfl, hxm⟩
    go_wp2_with fail
    go_ret
    refine ⟨?_, extW.trans hxm⟩
    unfold ratCmp
    rw [cmp_signs _ _ (q.den : Int) (p.den : Int) (by have := q.den_pos; omega) (by have := p.den_pos; omega) Hs.out]
    rfl
end
end Go.Proofs.YtoabhnofppledaaGreatDoor
namespace Go.Proofs.YtoabhnofppledaaGreatDoor
open Go.RowKit
attribute [local go_sem ↓] Go.wp_at_zero Go.wp_at_succ
theorem gcd_tmod (a b : Int) : Nat.gcd b.natAbs (Int.tmod a b).natAbs = Nat.gcd a.natAbs b.natAbs := by
  rw [Int.natAbs_tmod, Nat.gcd_comm a.natAbs, Nat.gcd_rec b.natAbs a.natAbs, Nat.gcd_comm]
theorem tmod_lt (a b : Int) (h : b ≠ 0) : (Int.tmod a b).natAbs < b.natAbs := by
  rw [Int.natAbs_tmod]
  exact Nat.mod_lt _ (by omega)
section
variable {w : World}
set_option maxHeartbeats 1000000 in
theorem small_gcd (a b : Int) (ha : a ≠ 0) (h1 : a.natAbs < 9223372036854775808) (h2 : b.natAbs < 9223372036854775808) :
    Calls Tryz.prog 155 #[.int .i64 a, .int .i64 b] w fun e w' => e = .returned (.int .i64 ((Nat.gcd a.natAbs b.natAbs : Nat) : Int)) ∧ Ext w w' := by
  obtain ⟨G, hG⟩ : ∃ G, Nat.gcd a.natAbs b.natAbs = G := ⟨_, rfl⟩
  rw [hG]
  go_enter Tryz.func155, Tryz.ntmps155
  go_wp2
  go_loopw [0, 1] (fun x y V => ∃ c d : Int, x = .int .i64 c ∧ y = .int .i64 d ∧ Nat.gcd c.natAbs d.natAbs = G ∧ c ≠ 0 ∧ c.natAbs < 9223372036854775808 ∧ d.natAbs < 9223372036854775808 ∧ Ext w V) (fun _ y _ => (intOf y).natAbs)
  case atStart => exact ⟨a, b, rfl, rfl, hG, ha, h1, h2, Ext.refl _⟩
  case round =>
    obtain ⟨c, d, rfl, rfl, hg, hc0, hc, hd, hext⟩ := hrel
    have Hg := Lib.hid hg
    clear hg
    by_cases h0 : d = 0
    · subst h0
      have hG2 : c.natAbs = G := by have := Hg.out; rwa [Int.natAbs_zero, Nat.gcd_zero_right] at this
      have hmx : max c (-c) = (G : Int) := by omega
      go_wp2
      go_ret
      exact ⟨rfl, hext⟩
    · have hne : (d == 0) = false := by rw [beq_eq_false_iff_ne]; exact h0
      have hlt := tmod_lt c d h0
      have hgt := gcd_tmod c d
      obtain ⟨m, hm⟩ : ∃ m, Int.tmod c d = m := ⟨_, rfl⟩
      rw [hm] at hlt hgt
      have hw : wrap64 (Int.tmod c d) = m := by rw [hm]; exact IntWalk.wrap64_in _ (by omega)
      have hw2 : IntKind.i64.wrap (Int.tmod c d) = m := by rw [hm]; exact IntWalk.i64_in _ (by omega)
      have Hgt := Lib.hid hgt
      clear hgt
      go_wp2_with fail
      have ES0 := Ext.refl wr
      refine wp_region_held_drew (S := Ext wr) (by kernel_rfl) ES0.drew (fun ES => ?_)
      clear ES0
      refine Late.start0 (fun _ _ _ _ _ => ⟨fun h => h, fun h => h⟩) ES (fun hAl hQ => ?_)
      refine Late.take (i := 0) (d := some 7) (v := ?v0_1) rfl rfl (by kernel_rfl) (by kernel_rfl) (by kernel_rfl) (by kernel_rfl) hQ (Or.inl ⟨by rfl, ?y0_1⟩) ?r0_1
      case y0_1 =>
        intro w' hSw
        go_simp
        try with_reducible rfl
      try simp only [Act.put]
      try simp only [List.setIfInBounds_toArray]
      try simp only [List.set_cons_succ]
      try simp only [List.set_cons_zero]
      refine Late.take (i := 1) (d := some 8) (v := ?v1_2) rfl rfl (by kernel_rfl) (by kernel_rfl) (by kernel_rfl) (by kernel_rfl) hQ (Or.inl ⟨by rfl, ?y1_2⟩) ?r1_2
      case y1_2 =>
        intro w' hSw
        go_simp
        try with_reducible rfl
      try simp only [Act.put]
      try simp only [List.setIfInBounds_toArray]
      try simp only [List.set_cons_succ]
      try simp only [List.set_cons_zero]
      refine Late.take (i := 2) (d := some 9) (v := ?v2_3) rfl rfl (by kernel_rfl) (by kernel_rfl) (by kernel_rfl) (by kernel_rfl) hQ (Or.inl ⟨by rfl, ?y2_3⟩) ?r2_3
      case y2_3 =>
        intro w' hSw
        go_simp
        try with_reducible rfl
      try simp only [Act.put]
      try simp only [List.setIfInBounds_toArray]
      try simp only [List.set_cons_succ]
      try simp only [List.set_cons_zero]
      refine Late.take (i := 3) (d := some 10) (v := ?v3_4) rfl rfl (by kernel_rfl) (by kernel_rfl) (by kernel_rfl) (by kernel_rfl) hQ (Or.inl ⟨by rfl, ?y3_4⟩) ?r3_4
      case y3_4 =>
        intro w' hSw
        go_simp
        try with_reducible rfl
      try simp only [Act.put]
      try simp only [List.setIfInBounds_toArray]
      try simp only [List.set_cons_succ]
      try simp only [List.set_cons_zero]
      refine Late.take (i := 4) (d := some 0) (v := ?v4_5) rfl rfl (by kernel_rfl) (by kernel_rfl) (by kernel_rfl) (by kernel_rfl) hQ (Or.inl ⟨by rfl, ?y4_5⟩) ?r4_5
      case y4_5 =>
        intro w' hSw
        go_simp
        try with_reducible rfl
      try simp only [Act.put]
      try simp only [List.setIfInBounds_toArray]
      try simp only [List.set_cons_succ]
      try simp only [List.set_cons_zero]
      refine Late.take (i := 5) (d := some 1) (v := ?v5_6) rfl rfl (by kernel_rfl) (by kernel_rfl) (by kernel_rfl) (by kernel_rfl) hQ (Or.inl ⟨by rfl, ?y5_6⟩) ?r5_6
      case y5_6 =>
        intro w' hSw
        go_simp
        try with_reducible rfl
      try simp only [Act.put]
      try simp only [List.setIfInBounds_toArray]
      try simp only [List.set_cons_succ]
      try simp only [List.set_cons_zero]
      refine Late.done0 (by kernel_rfl) (fun wz ez Ez => ?_)
      clear hAl hQ ES
      go_wp2_with fail
      refine ⟨⟨d, m, rfl, rfl, by rw [Hgt.out, Hg.out], h0, hd, by omega, hext.trans Ez⟩, ?_⟩
      simp only [intOf]
      exact hlt
theorem tdiv_abs_le (a b : Int) : (Int.tdiv a b).natAbs ≤ a.natAbs := by
  rw [Int.natAbs_tdiv]; exact Nat.div_le_self _ _
set_option maxHeartbeats 1000000 in
theorem p_lowest (N D : Int) (hD : 0 < D) (hN1 : N.natAbs < 9223372036854775808) (hD1 : D.natAbs < 9223372036854775808) : Calls Tryz.prog 132 #[.int .i64 N, .int .i64 D] w (RetNR (mkRat N D.natAbs) 2 w) := by
  obtain ⟨e1, e2⟩ := mkRat_parts N (D := D.natAbs) (by omega)
  obtain ⟨g, hg⟩ : ∃ g, Nat.gcd D.natAbs N.natAbs = g := ⟨_, rfl⟩
  have hg' : N.natAbs.gcd D.natAbs = g := by rw [← hg, Nat.gcd_comm]
  rw [hg'] at e1 e2
  have hgD : g ∣ D.natAbs := by rw [← hg']; exact Nat.gcd_dvd_right _ _
  have hgN : g ∣ N.natAbs := by rw [← hg']; exact Nat.gcd_dvd_left _ _
  have hg0 : 0 < g := Nat.pos_of_dvd_of_pos hgD (by omega)
  have hdN : (g : Int) ∣ N := Int.ofNat_dvd_left.2 hgN
  have hdD : (g : Int) ∣ D := Int.ofNat_dvd_left.2 hgD
  have hne : ((g : Int) == 0) = false := by rw [beq_eq_false_iff_ne]; omega
  have b1 := tdiv_abs_le N g
  have b2 := tdiv_abs_le D g
  obtain ⟨Q1, hQ1⟩ : ∃ Q, Int.tdiv N g = Q := ⟨_, rfl⟩
  obtain ⟨Q2, hQ2⟩ : ∃ Q, Int.tdiv D g = Q := ⟨_, rfl⟩
  rw [hQ1] at b1
  rw [hQ2] at b2
  have w1 : wrap64 (Int.tdiv N g) = Q1 := by rw [hQ1]; exact IntWalk.wrap64_in _ (by omega)
  have w2 : IntKind.i64.wrap (Int.tdiv N g) = Q1 := by rw [hQ1]; exact IntWalk.i64_in _ (by omega)
  have w3 : wrap64 (Int.tdiv D g) = Q2 := by rw [hQ2]; exact IntWalk.wrap64_in _ (by omega)
  have w4 : IntKind.i64.wrap (Int.tdiv D g) = Q2 := by rw [hQ2]; exact IntWalk.i64_in _ (by omega)
  have hgn : ¬ g = 0 := by omega
  have w5 : IntKind.i64.wrap Q1 = Q1 := IntWalk.i64_in _ (by omega)
  have w6 : IntKind.i64.wrap Q2 = Q2 := IntWalk.i64_in _ (by omega)
  have w7 : wrap64 Q1 = Q1 := IntWalk.wrap64_in _ (by omega)
  have w8 : wrap64 Q2 = Q2 := IntWalk.wrap64_in _ (by omega)
  have hN : (mkRat N D.natAbs).num = Q1 := by rw [e1, ← hQ1, Int.tdiv_eq_ediv_of_dvd hdN]
  have hDD : ((mkRat N D.natAbs).den : Int) = Q2 := by rw [e2, ← hQ2, Int.tdiv_eq_ediv_of_dvd hdD, Int.natCast_ediv, Int.natAbs_of_nonneg (Int.le_of_lt hD)]
  have HN := Lib.hid hN
  have HDD := Lib.hid hDD
  have Hg := Lib.hid hg
  clear hg hg' e1 e2 hgD hgN hdN hdD hN hDD
  go_enter Tryz.func132, Tryz.ntmps132
  go_upto_region 1 with (fail)
  obtain ⟨W, hW, extW, bz, hz⟩ := box1 w 26 #[Value.bool false, Value.slice none 0 0, Value.bool false, Value.slice none 0 0]
  rw [← hW]
  clear hW
  go_wp2_with fail
  refine (small_gcd D N (by omega) hD1 hN1).mono ?_
  rintro e wa ⟨rfl, hxa⟩
  rw [Hg.out]
  replace bz := bz.ext hxa
  replace extW := extW.trans hxa
  go_wp2_with fail
  refine wpL.start 9 (by kernel_rfl) (fun _ _ _ _ _ => ⟨fun h => h, fun h => h⟩) (fun hQ ES => ?_)
  refine wpL.take (i := 0) (d := some 9) (v := ?v0_14) rfl rfl (by kernel_rfl) (by kernel_rfl) (by kernel_rfl) (by kernel_rfl) hQ (Or.inl ⟨by rfl, ?y0_14⟩) ES ?r0_14
  case y0_14 =>
    intro w' hSw
    go_simp
    try with_reducible rfl
  try simp only [Act.put]
  try simp only [List.setIfInBounds_toArray]
  try simp only [List.set_cons_succ]
  try simp only [List.set_cons_zero]
  refine wpL.take (i := 1) (d := some 10) (v := ?v1_15) rfl rfl (by kernel_rfl) (by kernel_rfl) (by kernel_rfl) (by kernel_rfl) hQ (Or.inl ⟨by rfl, ?y1_15⟩) ES ?r1_15
  case y1_15 =>
    intro w' hSw
    go_simp
    try with_reducible rfl
  try simp only [Act.put]
  try simp only [List.setIfInBounds_toArray]
  try simp only [List.set_cons_succ]
  try simp only [List.set_cons_zero]
  refine wpL.take (i := 4) (d := some 13) (v := ?v4_16) rfl rfl (by kernel_rfl) (by kernel_rfl) (by kernel_rfl) (by kernel_rfl) hQ (Or.inl ⟨by rfl, ?y4_16⟩) ES ?r4_16
  case y4_16 =>
    intro w' hSw
    go_simp
    try with_reducible rfl
  try simp only [Act.put]
  try simp only [List.setIfInBounds_toArray]
  try simp only [List.set_cons_succ]
  try simp only [List.set_cons_zero]
  refine wpL.take (i := 5) (d := some 14) (v := ?v5_17) rfl rfl (by kernel_rfl) (by kernel_rfl) (by kernel_rfl) (by kernel_rfl) hQ (Or.inl ⟨by rfl, ?y5_17⟩) ES ?r5_17
  case y5_17 =>
    intro w' hSw
    go_simp
    try with_reducible rfl
  try simp only [Act.put]
  try simp only [List.setIfInBounds_toArray]
  try simp only [List.set_cons_succ]
  try simp only [List.set_cons_zero]
  refine wpL.take (i := 2) (d := some 11) (v := ?v2_18) rfl rfl (by kernel_rfl) (by kernel_rfl) (by kernel_rfl) (by kernel_rfl) hQ (Or.inl ⟨by rfl, ?y2_18⟩) ES ?r2_18
  case y2_18 =>
    intro w' hSw
    go_simp
    try with_reducible rfl
  try simp only [Act.put]
  try simp only [List.setIfInBounds_toArray]
  try simp only [List.set_cons_succ]
  try simp only [List.set_cons_zero]
  refine wpL.take (i := 6) (d := some 15) (v := ?v6_19) rfl rfl (by kernel_rfl) (by kernel_rfl) (by kernel_rfl) (by kernel_rfl) hQ (Or.inl ⟨by rfl, ?y6_19⟩) ES ?r6_19
  case y6_19 =>
    intro w' hSw
    go_simp
    try with_reducible rfl
  try simp only [Act.put]
  try simp only [List.setIfInBounds_toArray]
  try simp only [List.set_cons_succ]
  try simp only [List.set_cons_zero]
  refine wpL.call (i := 3) rfl (by kernel_rfl) (fun K hK => ?_)
  go_simp
  (go_at_call 104; refine (p_FromInt Q1 (by omega) (by omega)).mono ?_; rintro e wb ⟨s1, A1, n1, c1, rfl, h1, hx0⟩; have E0_2 := Ext.trans ES hx0)
  refine hK.out _ _ E0_2 ?_
  clear hK K
  try simp only [Act.put]
  try simp only [List.setIfInBounds_toArray]
  try simp only [List.set_cons_succ]
  try simp only [List.set_cons_zero]
  refine wpL.call (i := 7) rfl (by kernel_rfl) (fun K hK => ?_)
  go_simp
  (go_at_call 104; refine (p_FromInt Q2 (by omega) (by omega)).mono ?_; rintro e wc ⟨s2, A2, n2, c2, rfl, h2, hx1⟩; have E1_2 := Ext.trans E0_2 hx1)
  refine hK.out _ _ E1_2 ?_
  clear hK K
  try simp only [Act.put]
  try simp only [List.setIfInBounds_toArray]
  try simp only [List.set_cons_succ]
  try simp only [List.set_cons_zero]
  refine wpL.take (i := 8) (d := some 17) (v := ?v8_20) rfl rfl (by kernel_rfl) (by kernel_rfl) (by kernel_rfl) (by kernel_rfl) hQ (Or.inl ⟨by rfl, ?y8_20⟩) E1_2 ?r8_20
  case y8_20 =>
    intro w' hSw
    go_simp
    try with_reducible rfl
  try simp only [Act.put]
  try simp only [List.setIfInBounds_toArray]
  try simp only [List.set_cons_succ]
  try simp only [List.set_cons_zero]
  have z0 := (bz.ext E1_2).cell 0 _ rfl
  have z1 := (bz.ext E1_2).cell 1 _ rfl
  have z2 := (bz.ext E1_2).cell 2 _ rfl
  have z3 := (bz.ext E1_2).cell 3 _ rfl
  have f0 := (bz.ext E1_2).frozen 0
  have f1 := (bz.ext E1_2).frozen 1
  have f2 := (bz.ext E1_2).frozen 2
  have f3 := (bz.ext E1_2).frozen 3
  refine wpL.tail (i := 9) rfl (by kernel_rfl) (by kernel_rfl) (fun K hK => ?_)
  go_simp
  refine hK.out _ _ ?_
  clear hK K
  try simp only [Act.put]
  try simp only [List.setIfInBounds_toArray]
  try simp only [List.set_cons_succ]
  try simp only [List.set_cons_zero]
  refine wpL.done (by kernel_rfl) ?_ _
  clear hQ
  go_wp2_with fail
  clear b1 b2
  obtain ⟨b1, b2, b3, b4⟩ := fin_quad (s := s1) (A := A1) (n := n1) (c := c1) (t := s2) (B := A2) (m := n2) (d := c2) (bz.ext E1_2)
  have r0 := b1.cell 0 (.bool s1) rfl
  have r1 := b1.cell 1 (.slice A1 n1 c1) rfl
  have r2 := b1.cell 2 (.bool s2) rfl
  have r3 := b1.cell 3 (.slice A2 n2 c2) rfl
  unfold set4 at r0 r1 r2 r3
  refine bodyPost_ret (v := .agg #[.bool s1, .slice A1 n1 c1, .bool s2, .slice A2 n2 c2]) (by simp [results, Tryz.results132, go_sem, r0, r1, r2, r3]) rfl ⟨s1, A1, n1, c1, s2, A2, n2, c2, rfl, ⟨?_, ?_⟩, b3 _ (extW.trans E1_2) (by omega)⟩
  · rw [HN.out]
    exact b2 _ _ _ _ _ _ (h1.ext hx1)
  · rw [HDD.out]
    exact b2 _ _ _ _ _ _ h2
end
end Go.Proofs.YtoabhnofppledaaGreatDoor
namespace Go.Proofs.YtoabhnofppledaaGreatDoor
open Go.RowKit
attribute [local go_sem ↓] Go.wp_at_zero Go.wp_at_succ
/-- the numbers of a small rational number. -/
def Sm (q : Rat) (a b : Int) : Prop := a = q.num ∧ b = (q.den : Int) ∧ a.natAbs < 2147483648 ∧ b.natAbs < 2147483648
theorem NoWord.ints {a b : Int} : NoWord #[.int .i64 a, .int .i64 b] := by
  intro i k h
  match i with
  | 0 => simp at h
  | 1 => simp at h
  | i + 2 => simp at h
theorem fin_ints {w2 : World} {g : Nat} {T : TypeId} {x y a b : Int} (hb : Box w2 g T #[.int .i64 x, .int .i64 y]) :
    Box (set2 w2 g (.int .i64 a) (.int .i64 b)) g T #[.int .i64 a, .int .i64 b] ∧
    (∀ z L s' A' n' c', NI w2 z L s' A' n' c' → NI (set2 w2 g (.int .i64 a) (.int .i64 b)) z L s' A' n' c') ∧
    (∀ W, Ext W w2 → W.heap.size ≤ g → Ext W (set2 w2 g (.int .i64 a) (.int .i64 b))) ∧
    (∀ g' T' cs', g' ≠ g → Box w2 g' T' cs' → Box (set2 w2 g (.int .i64 a) (.int .i64 b)) g' T' cs') := by
  unfold set2
  have h1 : Box (w2.setCell ⟨g, 0, none⟩ (.int .i64 a)) g T #[.int .i64 a, .int .i64 y] := hb.set 0 (.int .i64 a)
  refine ⟨h1.set 1 (.int .i64 b), fun z L s' A' n' c' h => ?_, fun W e hg => ?_, fun g' T' cs' hg h => ?_⟩
  · exact (h.set hb NoWord.ints 0 _).set h1 NoWord.ints 1 _
  · exact (e.setCell hg _).setCell hg _
  · exact (h.far hg _).far hg _
section
variable {w w' : World} {z y : Int} {q p : Rat} {L M : Nat} {s t s' t' : Bool} {A B A' B' : Option Addr} {n c m d n' c' m' d' : Nat}
theorem p_Int64 (h : NI w z L s A n c) (hL : L ≤ 100000) : Calls Tryz.prog 154 #[.agg #[.bool s, .slice A n c]] w (RetV z w) := by
  obtain ⟨xs, hn, hx, hc, hcm, hi, hl⟩ := h.out
  rw [← hi.eq]
  exact int_Int64 hn hx hc hcm (by omega)
theorem NI.one_word (h : NI w z L s A n c) (h1 : n ≤ 1) : z.natAbs < 4294967296 := by
  obtain ⟨xs, hn, hx, hc, hcm, hi, hl⟩ := h.out
  have h2 := val_lt hx.1
  have h3 : 4294967296 ^ xs.length ≤ 4294967296 ^ 1 := Nat.pow_le_pow_right (by omega) (by omega)
  rw [hi.abs] at h2
  omega
def RetSm (q : Rat) (w : World) (e : Ending) (w' : World) : Prop := ∃ a b ok, e = .returned (.tuple #[.agg #[.int .i64 a, .int .i64 b], .bool ok]) ∧ (ok = true → Sm q a b) ∧ Ext w w'
set_option maxHeartbeats 2000000 in
theorem p_toSmall (h : NR w q L s A n c t B m d) (hL : L ≤ 20000) : Calls Tryz.prog 131 #[.agg #[.bool s, .slice A n c, .bool t, .slice B m d]] w (RetSm q w) := by
  have hnm : n ≤ 20000 ∧ m ≤ 20000 := by have := h.num.size; have := h.den.size; omega
  go_enter Tryz.func131, Tryz.ntmps131
  go_upto_region 1 with (fail)
  obtain ⟨W, hW, extW, bx, bz, hz⟩ := box2 w 26 88 #[.bool s, .slice A n c, .bool t, .slice B m d] #[Value.int .i64 0, Value.int .i64 0]
  rw [← hW]
  clear hW
  have x0 := bx.cell 0 (.bool s) rfl
  have x1 := bx.cell 1 (.slice A n c) rfl
  have x2 := bx.cell 2 (.bool t) rfl
  have x3 := bx.cell 3 (.slice B m d) rfl
  have hE := Ext.refl W
  by_cases hn : n ≤ 1
  · have d1 : decide ((1 : Int) < (n : Int)) = false := decide_eq_false (by omega)
    have d1' : decide (1 < n) = false := decide_eq_false (by omega)
    by_cases hm : m = 1
    · have d2 : ((m : Int) != 1) = false := by simp [hm]
      have hq1 := h.num.one_word hn
      have hq2 := h.den.one_word (by omega)
      have hv1 := (fit_yes (z := q.num) (by omega)).2
      have hv2 := (fit_yes (z := (q.den : Int)) (by omega)).2
      have Hv1 := Lib.hid hv1
      have Hv2 := Lib.hid hv2
      clear hv1 hv2
      subst hm
      go_wp2_with fail
      refine (p_Int64 (h.num.ext extW) (by omega)).mono ?_
      rintro e wa ⟨rfl, hxa⟩
      rw [Hv1.out]
      have x2 := (bx.ext hxa).cell 2 (.bool t) rfl
      have x3 := (bx.ext hxa).cell 3 (.slice B 1 d) rfl
      go_wp2_with fail
      refine (p_Int64 (h.den.ext (extW.trans hxa)) (by omega)).mono ?_
      rintro e wb ⟨rfl, hxb⟩
      rw [Hv2.out]
      clear x0 x1 x2 x3 hE
      have hE := hxa.trans hxb
      have z0 := (bz.ext hE).cell 0 _ rfl
      have z1 := (bz.ext hE).cell 1 _ rfl
      have f0 := (bz.ext hE).frozen 0
      have f1 := (bz.ext hE).frozen 1
      obtain ⟨a, ha⟩ : ∃ a, q.num = a := ⟨_, rfl⟩
      obtain ⟨b, hb⟩ : ∃ b, (q.den : Int) = b := ⟨_, rfl⟩
      have Ha := Lib.hid ha
      have Hb := Lib.hid hb
      rw [ha, hb]
      rw [ha] at hq1
      rw [hb] at hq2
      clear ha hb
      by_cases k1 : -2147483648 < a
      · have g1 : decide (-2147483648 < a) = true := decide_eq_true k1
        by_cases k2 : a < 2147483648
        · have g2 : decide (a < 2147483648) = true := decide_eq_true k2
          by_cases k3 : 0 < b
          · have g3 : decide (0 < b) = true := decide_eq_true k3
            by_cases k4 : b < 2147483648
            · have g4 : decide (b < 2147483648) = true := decide_eq_true k4
              go_wp2_with fail
              obtain ⟨b1, b2, b3, b4⟩ := fin_ints (a := a) (b := b) (bz.ext hE)
              have r0 := b1.cell 0 (.int .i64 (a)) rfl
              have r1 := b1.cell 1 (.int .i64 (b)) rfl
              unfold set2 at r0 r1
              exact bodyPost_ret (v := .tuple #[.agg #[.int .i64 (a), .int .i64 (b)], .bool true]) (by simp [results, Tryz.results131, go_sem, r0, r1]) rfl ⟨a, b, true, rfl, (fun _ => ⟨Ha.out.symm, Hb.out.symm, by omega, by omega⟩), b3 _ (extW.trans hE) (by omega)⟩
            · have g4 : decide (b < 2147483648) = false := decide_eq_false k4
              go_wp2_with fail
              obtain ⟨b1, b2, b3, b4⟩ := fin_ints (a := a) (b := b) (bz.ext hE)
              have r0 := b1.cell 0 (.int .i64 (a)) rfl
              have r1 := b1.cell 1 (.int .i64 (b)) rfl
              unfold set2 at r0 r1
              exact bodyPost_ret (v := .tuple #[.agg #[.int .i64 (a), .int .i64 (b)], .bool false]) (by simp [results, Tryz.results131, go_sem, r0, r1]) rfl ⟨a, b, false, rfl, (fun h => by cases h), b3 _ (extW.trans hE) (by omega)⟩
          · have g3 : decide (0 < b) = false := decide_eq_false k3
            go_wp2_with fail
            obtain ⟨b1, b2, b3, b4⟩ := fin_ints (a := a) (b := b) (bz.ext hE)
            have r0 := b1.cell 0 (.int .i64 (a)) rfl
            have r1 := b1.cell 1 (.int .i64 (b)) rfl
            unfold set2 at r0 r1
            exact bodyPost_ret (v := .tuple #[.agg #[.int .i64 (a), .int .i64 (b)], .bool false]) (by simp [results, Tryz.results131, go_sem, r0, r1]) rfl ⟨a, b, false, rfl, (fun h => by cases h), b3 _ (extW.trans hE) (by omega)⟩
        · have g2 : decide (a < 2147483648) = false := decide_eq_false k2
          go_wp2_with fail
          obtain ⟨b1, b2, b3, b4⟩ := fin_ints (a := a) (b := b) (bz.ext hE)
          have r0 := b1.cell 0 (.int .i64 (a)) rfl
          have r1 := b1.cell 1 (.int .i64 (b)) rfl
          unfold set2 at r0 r1
          exact bodyPost_ret (v := .tuple #[.agg #[.int .i64 (a), .int .i64 (b)], .bool false]) (by simp [results, Tryz.results131, go_sem, r0, r1]) rfl ⟨a, b, false, rfl, (fun h => by cases h), b3 _ (extW.trans hE) (by omega)⟩
      · have g1 : decide (-2147483648 < a) = false := decide_eq_false k1
        go_wp2_with fail
        obtain ⟨b1, b2, b3, b4⟩ := fin_ints (a := a) (b := b) (bz.ext hE)
        have r0 := b1.cell 0 (.int .i64 (a)) rfl
        have r1 := b1.cell 1 (.int .i64 (b)) rfl
        unfold set2 at r0 r1
        exact bodyPost_ret (v := .tuple #[.agg #[.int .i64 (a), .int .i64 (b)], .bool false]) (by simp [results, Tryz.results131, go_sem, r0, r1]) rfl ⟨a, b, false, rfl, (fun h => by cases h), b3 _ (extW.trans hE) (by omega)⟩
    · have d2 : ((m : Int) != 1) = true := by rw [bne_iff_ne]; omega
      have z0 := (bz.ext hE).cell 0 _ rfl
      have z1 := (bz.ext hE).cell 1 _ rfl
      have f0 := (bz.ext hE).frozen 0
      have f1 := (bz.ext hE).frozen 1
      go_wp2_with fail
      obtain ⟨b1, b2, b3, b4⟩ := fin_ints (a := 0) (b := 0) (bz.ext hE)
      have r0 := b1.cell 0 (.int .i64 (0)) rfl
      have r1 := b1.cell 1 (.int .i64 (0)) rfl
      unfold set2 at r0 r1
      exact bodyPost_ret (v := .tuple #[.agg #[.int .i64 (0), .int .i64 (0)], .bool false]) (by simp [results, Tryz.results131, go_sem, r0, r1]) rfl ⟨0, 0, false, rfl, (fun h => by cases h), b3 _ (extW.trans hE) (by omega)⟩
  · have d1 : decide ((1 : Int) < (n : Int)) = true := decide_eq_true (by omega)
    have d1' : decide (1 < n) = true := decide_eq_true (by omega)
    have z0 := (bz.ext hE).cell 0 _ rfl
    have z1 := (bz.ext hE).cell 1 _ rfl
    have f0 := (bz.ext hE).frozen 0
    have f1 := (bz.ext hE).frozen 1
    go_wp2_with fail
    obtain ⟨b1, b2, b3, b4⟩ := fin_ints (a := 0) (b := 0) (bz.ext hE)
    have r0 := b1.cell 0 (.int .i64 (0)) rfl
    have r1 := b1.cell 1 (.int .i64 (0)) rfl
    unfold set2 at r0 r1
    exact bodyPost_ret (v := .tuple #[.agg #[.int .i64 (0), .int .i64 (0)], .bool false]) (by simp [results, Tryz.results131, go_sem, r0, r1]) rfl ⟨0, 0, false, rfl, (fun h => by cases h), b3 _ (extW.trans hE) (by omega)⟩
theorem mul31 {a b : Int} (ha : a.natAbs < 2147483648) (hb : b.natAbs < 2147483648) : (a * b).natAbs < 4611686018427387904 := by
  rw [Int.natAbs_mul]
  have := Nat.mul_le_mul (Nat.le_of_lt_succ ha) (Nat.le_of_lt_succ hb)
  omega
set_option maxHeartbeats 1000000 in
theorem p_times {a b a' b' : Int} (h : Sm q a b) (k : Sm p a' b') : Calls Tryz.prog 106 #[.agg #[.int .i64 a, .int .i64 b], .agg #[.int .i64 a', .int .i64 b']] w (RetNR (q * p) 2 w) := by
  obtain ⟨h1, h2, h3, h4⟩ := h
  obtain ⟨k1, k2, k3, k4⟩ := k
  have hb0 : 0 < b := by have := q.den_pos; omega
  have hb0' : 0 < b' := by have := p.den_pos; omega
  have m1 := mul31 h3 k4
  have m2 := mul31 k3 h4
  have m3 := mul31 h4 k4
  have m4 := mul31 h3 k3
  have hpos : 0 < b * b' := Int.mul_pos hb0 hb0'
  have hval : mkRat (a * a') (b * b').natAbs = q * p := by
    rw [Rat.mul_def', Int.natAbs_mul, h1, h2, k1, k2, Int.natAbs_natCast, Int.natAbs_natCast]
  have Hval := Lib.hid hval
  clear hval h1 h2 k1 k2
  obtain ⟨u1, hu1⟩ : ∃ u, a * b' = u := ⟨_, rfl⟩
  obtain ⟨u2, hu2⟩ : ∃ u, a' * b = u := ⟨_, rfl⟩
  obtain ⟨u3, hu3⟩ : ∃ u, b * b' = u := ⟨_, rfl⟩
  obtain ⟨u4, hu4⟩ : ∃ u, a * a' = u := ⟨_, rfl⟩
  rw [hu1] at m1
  rw [hu2] at m2
  rw [hu3] at m3 hpos
  rw [hu4] at m4
  have Hu1 := Lib.hid hu1
  have Hu2 := Lib.hid hu2
  have Hu3 := Lib.hid hu3
  have Hu4 := Lib.hid hu4
  have w1 : IntKind.i64.wrap u1 = u1 := IntWalk.i64_in _ (by omega)
  have w2 : IntKind.i64.wrap u2 = u2 := IntWalk.i64_in _ (by omega)
  have w3 : IntKind.i64.wrap u3 = u3 := IntWalk.i64_in _ (by omega)
  have w4 : IntKind.i64.wrap u4 = u4 := IntWalk.i64_in _ (by omega)
  have v1 : wrap64 u1 = u1 := IntWalk.wrap64_in _ (by omega)
  have v2 : wrap64 u2 = u2 := IntWalk.wrap64_in _ (by omega)
  have v3 : wrap64 u3 = u3 := IntWalk.wrap64_in _ (by omega)
  have v4 : wrap64 u4 = u4 := IntWalk.wrap64_in _ (by omega)
  have w5 : IntKind.i64.wrap (u1 + u2) = u1 + u2 := IntWalk.i64_in _ (by omega)
  have v5 : wrap64 (u1 + u2) = u1 + u2 := IntWalk.wrap64_in _ (by omega)
  go_enter Tryz.func106, Tryz.ntmps106
  go_upto_region 1 with (fail)
  obtain ⟨W, hW, extW, bx, by_, bz, hz⟩ := box3 w 88 88 26 #[.int .i64 a, .int .i64 b] #[.int .i64 a', .int .i64 b'] #[Value.bool false, Value.slice none 0 0, Value.bool false, Value.slice none 0 0]
  rw [← hW]
  clear hW
  have x0 := bx.cell 0 (.int .i64 a) rfl
  have x1 := bx.cell 1 (.int .i64 b) rfl
  have y0 := by_.cell 0 (.int .i64 a') rfl
  have y1 := by_.cell 1 (.int .i64 b') rfl
  go_wp2_with fail
  refine (p_lowest _ _ hpos (by omega) (by omega)).mono ?_
  rintro e wa ⟨s, A, n, c, t, B, m, d, rfl, hr, hxa⟩
  rw [← Hu3.out] at hr
  have z0 := (bz.ext hxa).cell 0 _ rfl
  have z1 := (bz.ext hxa).cell 1 _ rfl
  have z2 := (bz.ext hxa).cell 2 _ rfl
  have z3 := (bz.ext hxa).cell 3 _ rfl
  have f0 := (bz.ext hxa).frozen 0
  have f1 := (bz.ext hxa).frozen 1
  have f2 := (bz.ext hxa).frozen 2
  have f3 := (bz.ext hxa).frozen 3
  go_wp2_with fail
  rw [← Hu4.out, Hval.out] at hr
  obtain ⟨b1, b2, b3, b4⟩ := fin_quad (s := s) (A := A) (n := n) (c := c) (t := t) (B := B) (m := m) (d := d) (bz.ext hxa)
  have r0 := b1.cell 0 (.bool s) rfl
  have r1 := b1.cell 1 (.slice A n c) rfl
  have r2 := b1.cell 2 (.bool t) rfl
  have r3 := b1.cell 3 (.slice B m d) rfl
  unfold set4 at r0 r1 r2 r3
  refine bodyPost_ret (v := .agg #[.bool s, .slice A n c, .bool t, .slice B m d]) (by simp [results, Tryz.results106, go_sem, r0, r1, r2, r3]) rfl ⟨s, A, n, c, t, B, m, d, rfl, ⟨?_, ?_⟩, b3 _ (extW.trans hxa) (by omega)⟩
  · exact b2 _ _ _ _ _ _ hr.num
  · exact b2 _ _ _ _ _ _ hr.den
end
end Go.Proofs.YtoabhnofppledaaGreatDoor
namespace Go.Proofs.YtoabhnofppledaaGreatDoor
open Go.RowKit
attribute [local go_sem ↓] Go.wp_at_zero Go.wp_at_succ
theorem Hd.take {P : Program} {ops : Array Oper} {Q : Exit → Act → World → Prop} {md : Region.Mode} {S : World → Prop} {n i : Nat} {oi : Oper} {d : Option Tmp} {v : Value} {L : Array Bool} {a : Act} {w : World} (hi : ops[i]? = some oi) (hd : oi.dst = d) (hs : Region.noSelect ops = true)
    (hf : Region.free md ops L i = true) (hr : (Region.ready md ops L).contains i = true) (hQ : QStill Q) (hy : YieldsIf P ops S oi v a) (hS : S w) (h : wpAnyH P md ops Q S n (L.setIfInBounds i true) (a.put d v) w) : wpAnyH P md ops Q S (n + 1) L a w := by
  subst hd
  exact wpAnyH_first hi (Region.noSelect_spec hs) (fun c a w => (hQ.put c a _ _ w).1) n L a w (fun j oj hj hne hun hno => Region.free_spec hi hf j oj hj hne hun hno) (by simpa using hr) hy hS h
section
variable {w w' : World} {z y : Int} {q p : Rat} {L M : Nat} {s t s' t' : Bool} {A B A' B' : Option Addr} {n c m d n' c' m' d' : Nat}
theorem fin_pairs {w2 : World} {g k : Nat} {T : TypeId} {x y u v a b c d : Int} (hb : Box w2 g T #[.int .i64 x, .int .i64 y]) (hc : Box w2 k T #[.int .i64 u, .int .i64 v]) (hne : g ≠ k) :
    Box (set2 (set2 w2 g (.int .i64 a) (.int .i64 b)) k (.int .i64 c) (.int .i64 d)) g T #[.int .i64 a, .int .i64 b] ∧
    Box (set2 (set2 w2 g (.int .i64 a) (.int .i64 b)) k (.int .i64 c) (.int .i64 d)) k T #[.int .i64 c, .int .i64 d] ∧
    (∀ W, Ext W w2 → W.heap.size ≤ g → W.heap.size ≤ k → Ext W (set2 (set2 w2 g (.int .i64 a) (.int .i64 b)) k (.int .i64 c) (.int .i64 d))) ∧ True := by
  obtain ⟨h1, _, h3, h4⟩ := fin_ints (a := a) (b := b) hb
  obtain ⟨j1, _, j3, j4⟩ := fin_ints (a := c) (b := d) (h4 k _ _ (Ne.symm hne) hc)
  exact ⟨j4 g _ _ hne h1, j1, fun W e hg hk => j3 W (h3 W e hg) hk, trivial⟩
def RetPair (q p : Rat) (w : World) (e : Ending) (w' : World) : Prop := ∃ a b c d ok, e = .returned (.tuple #[.agg #[.int .i64 a, .int .i64 b], .agg #[.int .i64 c, .int .i64 d], .bool ok]) ∧ (ok = true → Sm q a b ∧ Sm p c d) ∧ Ext w w'
set_option maxHeartbeats 2000000 in
theorem p_smallPair (h : NR w q L s A n c t B m d) (k : NR w p M s' A' n' c' t' B' m' d') (hL : L ≤ 20000) (hM : M ≤ 20000) : Calls Tryz.prog 98 #[.agg #[.bool s, .slice A n c, .bool t, .slice B m d], .agg #[.bool s', .slice A' n' c', .bool t', .slice B' m' d']] w (RetPair q p w) := by
  go_enter Tryz.func98, Tryz.ntmps98
  go_upto_region 1 with (fail)
  obtain ⟨W, hW, extW, bx, by_, b4, b5, hz⟩ := box4 w 26 26 88 88 #[.bool s, .slice A n c, .bool t, .slice B m d] #[.bool s', .slice A' n' c', .bool t', .slice B' m' d'] #[Value.int .i64 0, Value.int .i64 0] #[Value.int .i64 0, Value.int .i64 0]
  rw [← hW]
  clear hW
  have x0 := bx.cell 0 (.bool s) rfl
  have x1 := bx.cell 1 (.slice A n c) rfl
  have x2 := bx.cell 2 (.bool t) rfl
  have x3 := bx.cell 3 (.slice B m d) rfl
  go_wp2_with fail
  refine (p_toSmall (h.ext extW) hL).mono ?_
  rintro e wa ⟨a1, a2, ok1, rfl, hok1, hxa⟩
  clear x0 x1 x2 x3
  go_upto_region 2 with (fail)
  refine at_world (fun V => Ext W V ∧ Box V wa.heap.size 88 #[.int .i64 a1, .int .i64 a2]) ⟨hxa.alloc _, Box.new wa _ _⟩ ?_
  have hg7 : w.heap.size + 4 ≤ wa.heap.size := Nat.le_trans hz hxa.size
  generalize wa.heap.size = g7 at hg7 ⊢
  rintro V ⟨EV, x7⟩
  replace bx := bx.ext EV
  replace by_ := by_.ext EV
  replace b4 := b4.ext EV
  replace b5 := b5.ext EV
  replace extW := extW.trans EV
  have Hok1 := Lib.hid hok1
  clear hok1 EV hxa
  cases ok1 with
  | false =>
    have hE := Ext.refl V
    have z0 := (b4.ext hE).cell 0 _ rfl
    have z1 := (b4.ext hE).cell 1 _ rfl
    have f0 := (b4.ext hE).frozen 0
    have f1 := (b4.ext hE).frozen 1
    have z2 := (b5.ext hE).cell 0 _ rfl
    have z3 := (b5.ext hE).cell 1 _ rfl
    have f2 := (b5.ext hE).frozen 0
    have f3 := (b5.ext hE).frozen 1
    go_wp2_with fail
    obtain ⟨k1, k2, k3, _⟩ := fin_pairs (a := 0) (b := 0) (c := 0) (d := 0) (b4.ext hE) (b5.ext hE) (by omega)
    have r0 := k1.cell 0 (.int .i64 (0)) rfl
    have r1 := k1.cell 1 (.int .i64 (0)) rfl
    have r2 := k2.cell 0 (.int .i64 (0)) rfl
    have r3 := k2.cell 1 (.int .i64 (0)) rfl
    unfold set2 at r0 r1 r2 r3
    exact bodyPost_ret (v := .tuple #[.agg #[.int .i64 (0), .int .i64 (0)], .agg #[.int .i64 (0), .int .i64 (0)], .bool false]) (by simp [results, Tryz.results98, go_sem, r0, r1, r2, r3]) rfl ⟨0, 0, 0, 0, false, rfl, (fun h => by cases h), k3 _ (extW.trans hE) (by omega) (by omega)⟩
  | true =>
    have y0 := by_.cell 0 (.bool s') rfl
    have y1 := by_.cell 1 (.slice A' n' c') rfl
    have y2 := by_.cell 2 (.bool t') rfl
    have y3 := by_.cell 3 (.slice B' m' d') rfl
    go_wp2_with fail
    refine (p_toSmall (k.ext extW) hM).mono ?_
    rintro e wb ⟨c1, c2, ok2, rfl, hok2, hxb⟩
    clear y0 y1 y2 y3
    have Hok2 := Lib.hid hok2
    clear hok2
    go_upto_region 5 with (fail)
    refine at_world (fun V9 => Ext V V9 ∧ Box V9 wb.heap.size 88 #[.int .i64 c1, .int .i64 c2]) ⟨hxb.alloc _, Box.new wb _ _⟩ ?_
    have hg9 : w.heap.size + 4 ≤ wb.heap.size := by have := hxb.size; have := x7.lt; omega
    generalize wb.heap.size = g9 at hg9 ⊢
    rintro V9 ⟨EV, x9⟩
    replace x7 := x7.ext EV
    replace b4 := b4.ext EV
    replace b5 := b5.ext EV
    replace extW := extW.trans EV
    clear EV hxb
    have hE := Ext.refl V9
    have x70 := x7.cell 0 (.int .i64 a1) rfl
    have x71 := x7.cell 1 (.int .i64 a2) rfl
    have x90 := x9.cell 0 (.int .i64 c1) rfl
    have x91 := x9.cell 1 (.int .i64 c2) rfl
    have l7 : w.heap.size + 4 ≤ g7 := hg7
    have l9 : w.heap.size + 4 ≤ g9 := hg9
    have z0 := (b4.ext hE).cell 0 _ rfl
    have z1 := (b4.ext hE).cell 1 _ rfl
    have f0 := (b4.ext hE).frozen 0
    have f1 := (b4.ext hE).frozen 1
    have z2 := (b5.ext hE).cell 0 _ rfl
    have z3 := (b5.ext hE).cell 1 _ rfl
    have f2 := (b5.ext hE).frozen 0
    have f3 := (b5.ext hE).frozen 1
    refine wp_region_held_drew (S := (fun U => Box U g7 88 #[.int .i64 a1, .int .i64 a2] ∧ Box U g9 88 #[.int .i64 c1, .int .i64 c2])) (by kernel_rfl) ⟨x7.ext hE.drew, x9.ext hE.drew⟩ (fun HS => ?_)
    refine Hd.take (i := 0) (d := some 24) (v := ?v0_11) rfl rfl (by kernel_rfl) (by kernel_rfl) (by kernel_rfl) (fun _ _ _ _ _ => ⟨fun h => h, fun h => h⟩) (Or.inl ⟨by rfl, ?y0_11⟩) HS ?r0_11
    case y0_11 =>
      intro w' hSw
      have k0 := hSw.1.cell 0 _ rfl
      have k1 := hSw.1.cell 1 _ rfl
      have k2 := hSw.2.cell 0 _ rfl
      have k3 := hSw.2.cell 1 _ rfl
      go_simp
      try with_reducible rfl
    try simp only [Act.put]
    try simp only [List.setIfInBounds_toArray]
    try simp only [List.set_cons_succ]
    try simp only [List.set_cons_zero]
    refine Hd.take (i := 1) (d := some 25) (v := ?v1_12) rfl rfl (by kernel_rfl) (by kernel_rfl) (by kernel_rfl) (fun _ _ _ _ _ => ⟨fun h => h, fun h => h⟩) (Or.inl ⟨by rfl, ?y1_12⟩) HS ?r1_12
    case y1_12 =>
      intro w' hSw
      have k0 := hSw.1.cell 0 _ rfl
      have k1 := hSw.1.cell 1 _ rfl
      have k2 := hSw.2.cell 0 _ rfl
      have k3 := hSw.2.cell 1 _ rfl
      go_simp
      try with_reducible rfl
    try simp only [Act.put]
    try simp only [List.setIfInBounds_toArray]
    try simp only [List.set_cons_succ]
    try simp only [List.set_cons_zero]
    refine Hd.take (i := 2) (d := some 26) (v := ?v2_13) rfl rfl (by kernel_rfl) (by kernel_rfl) (by kernel_rfl) (fun _ _ _ _ _ => ⟨fun h => h, fun h => h⟩) (Or.inl ⟨by rfl, ?y2_13⟩) HS ?r2_13
    case y2_13 =>
      intro w' hSw
      have k0 := hSw.1.cell 0 _ rfl
      have k1 := hSw.1.cell 1 _ rfl
      have k2 := hSw.2.cell 0 _ rfl
      have k3 := hSw.2.cell 1 _ rfl
      go_simp
      try with_reducible rfl
    try simp only [Act.put]
    try simp only [List.setIfInBounds_toArray]
    try simp only [List.set_cons_succ]
    try simp only [List.set_cons_zero]
    have e4 := fin_ints (a := a1) (b := a2) b4
    refine wpAnyH_ready (rs := [3]) (by kernel_rfl) (by simp) (AllReadyH.cons rfl (fun K hK => ?_) AllReadyH.nil)
    go_simp
    refine hK.out _ _ ⟨(e4.2.2.2 _ _ _ (by omega) x7).ext (Ext.refl _).drew, (e4.2.2.2 _ _ _ (by omega) x9).ext (Ext.refl _).drew⟩ (fun _ => ?_)
    clear hK K
    try simp only [Act.put]
    try simp only [List.setIfInBounds_toArray]
    try simp only [List.set_cons_succ]
    try simp only [List.set_cons_zero]
    have e5 := e4.2.2.2 _ _ _ (by omega) b5
    have z40 := e5.cell 0 _ rfl
    have z41 := e5.cell 1 _ rfl
    have z42 := e5.frozen 0
    have z43 := e5.frozen 1
    have e6 := fin_ints (a := c1) (b := c2) e5
    unfold set2 at z40 z41 z42 z43
    refine wpAnyH_ready (rs := [4]) (by kernel_rfl) (by simp) (AllReadyH.cons rfl (fun K hK => ?_) AllReadyH.nil)
    go_simp
    refine hK.out _ _ ⟨(e6.2.2.2 _ _ _ (by omega) (e4.2.2.2 _ _ _ (by omega) x7)).ext (Ext.refl _).drew, (e6.2.2.2 _ _ _ (by omega) (e4.2.2.2 _ _ _ (by omega) x9)).ext (Ext.refl _).drew⟩ (fun _ => ?_)
    clear hK K
    try simp only [Act.put]
    try simp only [List.setIfInBounds_toArray]
    try simp only [List.set_cons_succ]
    try simp only [List.set_cons_zero]
    refine wpAnyH_ready (rs := [5]) (by kernel_rfl) (by simp) (AllReadyH.cons rfl (fun K hK => ?_) AllReadyH.nil)
    go_simp
    refine hK.out _ _ ⟨(e6.2.2.2 _ _ _ (by omega) (e4.2.2.2 _ _ _ (by omega) x7)).ext (Ext.refl _).drew, (e6.2.2.2 _ _ _ (by omega) (e4.2.2.2 _ _ _ (by omega) x9)).ext (Ext.refl _).drew⟩ (fun _ => ?_)
    clear hK K
    try simp only [Act.put]
    try simp only [List.setIfInBounds_toArray]
    try simp only [List.set_cons_succ]
    try simp only [List.set_cons_zero]
    refine wpAnyH_done (by kernel_rfl) ?_ _
    go_wp2_with fail
    obtain ⟨k1, k2, k3, _⟩ := fin_pairs (a := a1) (b := a2) (c := c1) (d := c2) (b4.ext hE) (b5.ext hE) (by omega)
    have r0 := k1.cell 0 (.int .i64 (a1)) rfl
    have r1 := k1.cell 1 (.int .i64 (a2)) rfl
    have r2 := k2.cell 0 (.int .i64 (c1)) rfl
    have r3 := k2.cell 1 (.int .i64 (c2)) rfl
    unfold set2 at r0 r1 r2 r3
    exact bodyPost_ret (v := .tuple #[.agg #[.int .i64 (a1), .int .i64 (a2)], .agg #[.int .i64 (c1), .int .i64 (c2)], .bool ok2]) (by simp [results, Tryz.results98, go_sem, r0, r1, r2, r3]) rfl ⟨a1, a2, c1, c2, ok2, rfl, (fun h => ⟨Hok1.out (by first | rfl | trivial), Hok2.out h⟩), (k3 _ (extW.trans hE) (by omega) (by omega)).drew⟩
end
end Go.Proofs.YtoabhnofppledaaGreatDoor
namespace Go.Proofs.YtoabhnofppledaaGreatDoor
open Go.RowKit
attribute [local go_sem ↓] Go.wp_at_zero Go.wp_at_succ
section
variable {w w' : World} {z y : Int} {q p : Rat} {L M : Nat} {s t s' t' : Bool} {A B A' B' : Option Addr} {n c m d n' c' m' d' : Nat}
theorem NR.pos (h : NR w q L s A n c t B m d) : 1 ≤ L := by
  have h1 := h.den.zero
  have h2 := h.den.size
  have h3 := q.den_nz
  omega
end
end Go.Proofs.YtoabhnofppledaaGreatDoor
namespace Go.Proofs.YtoabhnofppledaaGreatDoor
open Go.RowKit
attribute [local go_sem ↓] Go.wp_at_zero Go.wp_at_succ
section
variable {w w' : World} {z y : Int} {q p : Rat} {L M : Nat} {s t s' t' : Bool} {A B A' B' : Option Addr} {n c m d n' c' m' d' : Nat}
set_option maxHeartbeats 16000000 in
set_option maxRecDepth 100000 in
theorem p_MulR (h : NR w q L s A n c t B m d) (k : NR w p M s' A' n' c' t' B' m' d') (hL : L ≤ 1000) (hM : M ≤ 1000) (h64 : min L M < 64) (hT : Tab w) : Calls Tryz.prog 64 #[.agg #[.bool s, .slice A n c, .bool t, .slice B m d], .agg #[.bool s', .slice A' n' c', .bool t', .slice B' m' d']] w (RetNR (q * p) (L + M) w) := by
  have hL1 := h.pos
  have hM1 := k.pos
  go_enter Tryz.func64, Tryz.ntmps64
  go_upto_region 1 with (fail)
  obtain ⟨W, hW, extW, bx, by_, bz, hz⟩ := box3 w 26 26 26 #[.bool s, .slice A n c, .bool t, .slice B m d] #[.bool s', .slice A' n' c', .bool t', .slice B' m' d'] #[Value.bool false, Value.slice none 0 0, Value.bool false, Value.slice none 0 0]
  rw [← hW]
  clear hW
  replace h := h.ext extW
  replace k := k.ext extW
  have x0 := bx.cell 0 (.bool s) rfl
  have x1 := bx.cell 1 (.slice A n c) rfl
  have x2 := bx.cell 2 (.bool t) rfl
  have x3 := bx.cell 3 (.slice B m d) rfl
  have y0 := by_.cell 0 (.bool s') rfl
  have y1 := by_.cell 1 (.slice A' n' c') rfl
  have y2 := by_.cell 2 (.bool t') rfl
  have y3 := by_.cell 3 (.slice B' m' d') rfl
  go_wp2_with fail
  refine (p_smallPair h k (by omega) (by omega)).mono ?_
  rintro e wa ⟨a1, a2, c1, c2, ok, rfl, hok, hxa⟩
  have Hok := Lib.hid hok
  clear hok
  clear x0 x1 x2 x3
  clear y0 y1 y2 y3
  go_upto_region 2 with (fail)
  refine at_world (fun V => Ext W V ∧ Box V wa.heap.size 88 #[.int .i64 a1, .int .i64 a2] ∧ Box V (wa.heap.size + 1) 88 #[.int .i64 c1, .int .i64 c2]) ?_ ?_
  · obtain ⟨e1, e2, e3⟩ := two_new wa 88 #[.int .i64 a1, .int .i64 a2] #[.int .i64 c1, .int .i64 c2]
    exact ⟨hxa.trans e1, e2, e3⟩
  generalize wa.heap.size = g5
  clear hxa
  rintro V ⟨EV, b5, b6⟩
  replace bx := bx.ext EV
  replace by_ := by_.ext EV
  replace bz := bz.ext EV
  replace h := h.ext EV
  replace k := k.ext EV
  replace extW := extW.trans EV
  clear EV
  cases ok with
  | true =>
    obtain ⟨sm1, sm2⟩ := Hok.out (by first | rfl | trivial)
    have j0 := b5.cell 0 (.int .i64 a1) rfl
    have j1 := b5.cell 1 (.int .i64 a2) rfl
    have j2 := b6.cell 0 (.int .i64 c1) rfl
    have j3 := b6.cell 1 (.int .i64 c2) rfl
    go_wp2_with fail
    refine (p_times sm1 sm2).mono ?_
    rintro e wb ⟨s1, A1, n1, c1', t1, B1, m1, d1, rfl, hr, hxb⟩
    have z0 := (bz.ext hxb).cell 0 _ rfl
    have z1 := (bz.ext hxb).cell 1 _ rfl
    have z2 := (bz.ext hxb).cell 2 _ rfl
    have z3 := (bz.ext hxb).cell 3 _ rfl
    have f0 := (bz.ext hxb).frozen 0
    have f1 := (bz.ext hxb).frozen 1
    have f2 := (bz.ext hxb).frozen 2
    have f3 := (bz.ext hxb).frozen 3
    go_wp2_with fail
    obtain ⟨b1, b2, b3, b4⟩ := fin_quad (s := s1) (A := A1) (n := n1) (c := c1') (t := t1) (B := B1) (m := m1) (d := d1) (bz.ext hxb)
    have r0 := b1.cell 0 (.bool s1) rfl
    have r1 := b1.cell 1 (.slice A1 n1 c1') rfl
    have r2 := b1.cell 2 (.bool t1) rfl
    have r3 := b1.cell 3 (.slice B1 m1 d1) rfl
    unfold set4 at r0 r1 r2 r3
    refine bodyPost_ret (v := .agg #[.bool s1, .slice A1 n1 c1', .bool t1, .slice B1 m1 d1]) (by simp [results, Tryz.results64, go_sem, r0, r1, r2, r3]) rfl ⟨s1, A1, n1, c1', t1, B1, m1, d1, rfl, ⟨?_, ?_⟩, b3 _ (extW.trans hxb) (by omega)⟩
    · exact (b2 _ _ _ _ _ _ hr.num).le (by omega)
    · exact (b2 _ _ _ _ _ _ hr.den).le (by omega)
  | false =>
    go_wp2_with fail
    have ES0 := Ext.refl V
    refine wp_region_held_drew (S := Ext V) (by kernel_rfl) ES0.drew (fun ES => ?_)
    clear ES0
    refine Late.start2 (x := ⟨10, 8, 24, #[Value.bool false, Value.slice none 0 0]⟩) (y := ⟨11, 9, 24, #[Value.bool false, Value.slice none 0 0]⟩) (n := 12) ⟨_, rfl, rfl, rfl, fun a w => by go_simp⟩ ⟨_, rfl, rfl, rfl, fun a w => by go_simp⟩ (fun _ _ _ _ _ => ⟨fun h => h, fun h => h⟩) ES rfl (fun hAl hQ => ?_)
    refine Late.take (i := 0) (d := some 21) (v := ?v0_31) rfl rfl (by kernel_rfl) (by kernel_rfl) (by kernel_rfl) (by kernel_rfl) hQ (Or.inl ⟨by rfl, ?y0_31⟩) ?r0_31
    case y0_31 =>
      intro w' hSw
      have k00 := (bx.ext hSw).c4
      have k10 := (by_.ext hSw).c4
      go_simp
      try with_reducible rfl
    try simp only [Act.put]
    try simp only [List.setIfInBounds_toArray]
    try simp only [List.set_cons_succ]
    try simp only [List.set_cons_zero]
    refine Late.take (i := 2) (d := some 23) (v := ?v2_32) rfl rfl (by kernel_rfl) (by kernel_rfl) (by kernel_rfl) (by kernel_rfl) hQ (Or.inl ⟨by rfl, ?y2_32⟩) ?r2_32
    case y2_32 =>
      intro w' hSw
      have k00 := (bx.ext hSw).c4
      have k10 := (by_.ext hSw).c4
      go_simp
      try with_reducible rfl
    try simp only [Act.put]
    try simp only [List.setIfInBounds_toArray]
    try simp only [List.set_cons_succ]
    try simp only [List.set_cons_zero]
    refine Late.take (i := 5) (d := some 26) (v := ?v5_33) rfl rfl (by kernel_rfl) (by kernel_rfl) (by kernel_rfl) (by kernel_rfl) hQ (Or.inl ⟨by rfl, ?y5_33⟩) ?r5_33
    case y5_33 =>
      intro w' hSw
      have k00 := (bx.ext hSw).c4
      have k10 := (by_.ext hSw).c4
      go_simp
      try with_reducible rfl
    try simp only [Act.put]
    try simp only [List.setIfInBounds_toArray]
    try simp only [List.set_cons_succ]
    try simp only [List.set_cons_zero]
    refine Late.take (i := 7) (d := some 28) (v := ?v7_34) rfl rfl (by kernel_rfl) (by kernel_rfl) (by kernel_rfl) (by kernel_rfl) hQ (Or.inl ⟨by rfl, ?y7_34⟩) ?r7_34
    case y7_34 =>
      intro w' hSw
      have k00 := (bx.ext hSw).c4
      have k10 := (by_.ext hSw).c4
      go_simp
      try with_reducible rfl
    try simp only [Act.put]
    try simp only [List.setIfInBounds_toArray]
    try simp only [List.set_cons_succ]
    try simp only [List.set_cons_zero]
    refine Late.take (i := 1) (d := some 22) (v := ?v1_35) rfl rfl (by kernel_rfl) (by kernel_rfl) (by kernel_rfl) (by kernel_rfl) hQ (Or.inl ⟨by rfl, ?y1_35⟩) ?r1_35
    case y1_35 =>
      intro w' hSw
      have k00 := (bx.ext hSw).c4
      have k10 := (by_.ext hSw).c4
      go_simp
      try with_reducible rfl
    try simp only [Act.put]
    try simp only [List.setIfInBounds_toArray]
    try simp only [List.set_cons_succ]
    try simp only [List.set_cons_zero]
    refine Late.take (i := 3) (d := some 24) (v := ?v3_36) rfl rfl (by kernel_rfl) (by kernel_rfl) (by kernel_rfl) (by kernel_rfl) hQ (Or.inl ⟨by rfl, ?y3_36⟩) ?r3_36
    case y3_36 =>
      intro w' hSw
      have k00 := (bx.ext hSw).c4
      have k10 := (by_.ext hSw).c4
      go_simp
      try with_reducible rfl
    try simp only [Act.put]
    try simp only [List.setIfInBounds_toArray]
    try simp only [List.set_cons_succ]
    try simp only [List.set_cons_zero]
    refine Late.take (i := 6) (d := some 27) (v := ?v6_37) rfl rfl (by kernel_rfl) (by kernel_rfl) (by kernel_rfl) (by kernel_rfl) hQ (Or.inl ⟨by rfl, ?y6_37⟩) ?r6_37
    case y6_37 =>
      intro w' hSw
      have k00 := (bx.ext hSw).c4
      have k10 := (by_.ext hSw).c4
      go_simp
      try with_reducible rfl
    try simp only [Act.put]
    try simp only [List.setIfInBounds_toArray]
    try simp only [List.set_cons_succ]
    try simp only [List.set_cons_zero]
    refine Late.take (i := 8) (d := some 29) (v := ?v8_38) rfl rfl (by kernel_rfl) (by kernel_rfl) (by kernel_rfl) (by kernel_rfl) hQ (Or.inl ⟨by rfl, ?y8_38⟩) ?r8_38
    case y8_38 =>
      intro w' hSw
      have k00 := (bx.ext hSw).c4
      have k10 := (by_.ext hSw).c4
      go_simp
      try with_reducible rfl
    try simp only [Act.put]
    try simp only [List.setIfInBounds_toArray]
    try simp only [List.set_cons_succ]
    try simp only [List.set_cons_zero]
    refine Late.call (i := 4) rfl (by kernel_rfl) hAl (by kernel_rfl) (by kernel_rfl) (by kernel_rfl) hQ (fun w4 e4 E4 K hK => ?_)
    go_simp
    (go_at_call 92; refine (p_GCD (h.num.ext E4) (k.den.ext E4) (by omega) (by omega) (hT.ext (extW.trans E4))).mono ?_; rintro e wk1 ⟨s1, A1, n1, c1', rfl, h1, hx4⟩; rw [Int.natAbs_natCast] at h1)
    refine hK.out _ _ hx4 ?_
    clear hK K
    try simp only [Act.put]
    try simp only [List.setIfInBounds_toArray]
    try simp only [List.set_cons_succ]
    try simp only [List.set_cons_zero]
    refine Late.call (i := 9) rfl (by kernel_rfl) hAl (by kernel_rfl) (by kernel_rfl) (by kernel_rfl) hQ (fun w9 e9 E9 K hK => ?_)
    go_simp
    (go_at_call 92; refine (p_GCD (k.num.ext E9) (h.den.ext E9) (by omega) (by omega) (hT.ext (extW.trans E9))).mono ?_; rintro e wk2 ⟨s2, A2, n2, c2', rfl, h2, hx9⟩; rw [Int.natAbs_natCast] at h2)
    refine hK.out _ _ hx9 ?_
    clear hK K
    try simp only [Act.put]
    try simp only [List.setIfInBounds_toArray]
    try simp only [List.set_cons_succ]
    try simp only [List.set_cons_zero]
    refine Late.finish2 (hAl _ (by simp)) (hAl _ (by simp)) (by decide) (by decide) (by kernel_rfl) (by kernel_rfl) (by kernel_rfl) (fun wz g5 g6 ez Ez lg5 lg6 hne xb1 xb2 => ?_)
    clear hAl hQ ES
    have p10 := xb1.cell 0 (Value.bool false) rfl
    have p11 := xb1.cell 1 (Value.slice none 0 0) rfl
    have f10 := xb1.frozen 0
    have f11 := xb1.frozen 1
    have e4 := fin_dual (s := s1) (A := A1) (n := n1) (c := c1') xb1
    try simp only [Act.put]
    try simp only [List.setIfInBounds_toArray]
    try simp only [List.set_cons_succ]
    try simp only [List.set_cons_zero]
    refine wpAnyH_ready (rs := [12]) (by kernel_rfl) (by simp) (AllReadyH.cons rfl (fun K hK => ?_) AllReadyH.nil)
    go_simp
    refine hK.out _ _ (e4.2.2.1 _ Ez lg5) (fun _ => ?_)
    clear hK K
    try simp only [Act.put]
    try simp only [List.setIfInBounds_toArray]
    try simp only [List.set_cons_succ]
    try simp only [List.set_cons_zero]
    have e5 := e4.2.2.2 _ _ _ (Ne.symm hne) xb2
    refine any_world (fun U => Ext V U ∧ Box U g5 24 #[.bool s1, .slice A1 n1 c1'] ∧ Box U g6 24 #[Value.bool false, Value.slice none 0 0] ∧ NI U ((q.num.natAbs.gcd p.den : Nat) : Int) (max L M) s1 A1 n1 c1' ∧ NI U ((p.num.natAbs.gcd q.den : Nat) : Int) (max M L) s2 A2 n2 c2') ⟨e4.2.2.1 _ Ez lg5, e4.1, e5, e4.2.1 _ _ _ _ _ _ (h1.ext (e9.trans (hx9.trans ez))), e4.2.1 _ _ _ _ _ _ (h2.ext ez)⟩ ?_
    clear e4 e5 p10 p11 f10 f11 xb1 xb2
    rintro U ⟨EU, b8, xb2, h1, h2⟩
    have p10 := xb2.cell 0 (Value.bool false) rfl
    have p11 := xb2.cell 1 (Value.slice none 0 0) rfl
    have f10 := xb2.frozen 0
    have f11 := xb2.frozen 1
    have e4 := fin_dual (s := s2) (A := A2) (n := n2) (c := c2') xb2
    refine wpAnyH_ready (rs := [13]) (by kernel_rfl) (by simp) (AllReadyH.cons rfl (fun K hK => ?_) AllReadyH.nil)
    go_simp
    refine hK.out _ _ (e4.2.2.1 _ EU lg6) (fun _ => ?_)
    clear hK K
    try simp only [Act.put]
    try simp only [List.setIfInBounds_toArray]
    try simp only [List.set_cons_succ]
    try simp only [List.set_cons_zero]
    refine any_world (fun U2 => Ext V U2 ∧ Box U2 g5 24 #[.bool s1, .slice A1 n1 c1'] ∧ Box U2 g6 24 #[.bool s2, .slice A2 n2 c2'] ∧ NI U2 ((q.num.natAbs.gcd p.den : Nat) : Int) (max L M) s1 A1 n1 c1' ∧ NI U2 ((p.num.natAbs.gcd q.den : Nat) : Int) (max M L) s2 A2 n2 c2') ⟨e4.2.2.1 _ EU lg6, e4.2.2.2 _ _ _ hne b8, e4.1, e4.2.1 _ _ _ _ _ _ h1, e4.2.1 _ _ _ _ _ _ h2⟩ ?_
    clear e4 p10 p11 f10 f11 xb2 b8 h1 h2 lg5 lg6
    rintro U2 ⟨EU2, b8, b9, h1, h2⟩
    refine wpAnyH_done (by kernel_rfl) ?_ _
    replace bx := bx.ext EU2
    replace by_ := by_.ext EU2
    replace bz := bz.ext EU2
    replace h := h.ext EU2
    replace k := k.ext EU2
    replace extW := extW.trans EU2
    clear EU EU2 Ez ez
    obtain ⟨g, hge⟩ : ∃ g, q.num.natAbs.gcd p.den = g := ⟨_, rfl⟩
    obtain ⟨hq, hhe⟩ : ∃ g, p.num.natAbs.gcd q.den = g := ⟨_, rfl⟩
    rw [hge] at h1
    rw [hhe] at h2
    obtain ⟨q1, q2⟩ := rat_mul q p hge.symm hhe.symm
    have Hq1 := Lib.hid q1
    have Hq2 := Lib.hid q2
    have hgq : g ∣ q.num.natAbs := by rw [← hge]; exact Nat.gcd_dvd_left _ _
    have hgp : g ∣ p.den := by rw [← hge]; exact Nat.gcd_dvd_right _ _
    have hhp : hq ∣ p.num.natAbs := by rw [← hhe]; exact Nat.gcd_dvd_left _ _
    have hhq : hq ∣ q.den := by rw [← hhe]; exact Nat.gcd_dvd_right _ _
    have hg0 : (g : Int) ≠ 0 := by
      intro h0
      have : g = 0 := by omega
      rw [this] at hgp
      exact p.den_nz (Nat.eq_zero_of_zero_dvd hgp)
    have hh0 : (hq : Int) ≠ 0 := by
      intro h0
      have : hq = 0 := by omega
      rw [this] at hhq
      exact q.den_nz (Nat.eq_zero_of_zero_dvd hhq)
    have Hg0 := Lib.hid hg0
    have Hh0 := Lib.hid hh0
    have Hgq := Lib.hid (Int.ofNat_dvd_left.2 hgq)
    have Hgp := Lib.hid (Int.ofNat_dvd.2 hgp)
    have Hhp := Lib.hid (Int.ofNat_dvd_left.2 hhp)
    have Hhq := Lib.hid (Int.ofNat_dvd.2 hhq)
    have hg := h1
    have hh := h2
    clear hge hhe q1 q2 hgq hgp hhp hhq hg0 hh0 h1 h2
    go_wp2_with fail
    refine wpL.start 19 (by kernel_rfl) (fun _ _ _ _ _ => ⟨fun h => h, fun h => h⟩) (fun hQ ES => ?_)
    refine wpL.take (i := 0) (d := some 31) (v := ?v0_39) rfl rfl (by kernel_rfl) (by kernel_rfl) (by kernel_rfl) (by kernel_rfl) hQ (Or.inl ⟨by rfl, ?y0_39⟩) ES ?r0_39
    case y0_39 =>
      intro w' hSw
      have k00 := (bx.ext hSw).c4
      have k10 := (by_.ext hSw).c4
      have k20 := (b8.ext hSw).c2
      have k30 := (b9.ext hSw).c2
      go_simp
      try with_reducible rfl
    try simp only [Act.put]
    try simp only [List.setIfInBounds_toArray]
    try simp only [List.set_cons_succ]
    try simp only [List.set_cons_zero]
    refine wpL.take (i := 2) (d := some 33) (v := ?v2_40) rfl rfl (by kernel_rfl) (by kernel_rfl) (by kernel_rfl) (by kernel_rfl) hQ (Or.inl ⟨by rfl, ?y2_40⟩) ES ?r2_40
    case y2_40 =>
      intro w' hSw
      have k00 := (bx.ext hSw).c4
      have k10 := (by_.ext hSw).c4
      have k20 := (b8.ext hSw).c2
      have k30 := (b9.ext hSw).c2
      go_simp
      try with_reducible rfl
    try simp only [Act.put]
    try simp only [List.setIfInBounds_toArray]
    try simp only [List.set_cons_succ]
    try simp only [List.set_cons_zero]
    refine wpL.take (i := 4) (d := some 35) (v := ?v4_41) rfl rfl (by kernel_rfl) (by kernel_rfl) (by kernel_rfl) (by kernel_rfl) hQ (Or.inl ⟨by rfl, ?y4_41⟩) ES ?r4_41
    case y4_41 =>
      intro w' hSw
      have k00 := (bx.ext hSw).c4
      have k10 := (by_.ext hSw).c4
      have k20 := (b8.ext hSw).c2
      have k30 := (b9.ext hSw).c2
      go_simp
      try with_reducible rfl
    try simp only [Act.put]
    try simp only [List.setIfInBounds_toArray]
    try simp only [List.set_cons_succ]
    try simp only [List.set_cons_zero]
    refine wpL.take (i := 6) (d := some 37) (v := ?v6_42) rfl rfl (by kernel_rfl) (by kernel_rfl) (by kernel_rfl) (by kernel_rfl) hQ (Or.inl ⟨by rfl, ?y6_42⟩) ES ?r6_42
    case y6_42 =>
      intro w' hSw
      have k00 := (bx.ext hSw).c4
      have k10 := (by_.ext hSw).c4
      have k20 := (b8.ext hSw).c2
      have k30 := (b9.ext hSw).c2
      go_simp
      try with_reducible rfl
    try simp only [Act.put]
    try simp only [List.setIfInBounds_toArray]
    try simp only [List.set_cons_succ]
    try simp only [List.set_cons_zero]
    refine wpL.take (i := 9) (d := some 40) (v := ?v9_43) rfl rfl (by kernel_rfl) (by kernel_rfl) (by kernel_rfl) (by kernel_rfl) hQ (Or.inl ⟨by rfl, ?y9_43⟩) ES ?r9_43
    case y9_43 =>
      intro w' hSw
      have k00 := (bx.ext hSw).c4
      have k10 := (by_.ext hSw).c4
      have k20 := (b8.ext hSw).c2
      have k30 := (b9.ext hSw).c2
      go_simp
      try with_reducible rfl
    try simp only [Act.put]
    try simp only [List.setIfInBounds_toArray]
    try simp only [List.set_cons_succ]
    try simp only [List.set_cons_zero]
    refine wpL.take (i := 11) (d := some 42) (v := ?v11_44) rfl rfl (by kernel_rfl) (by kernel_rfl) (by kernel_rfl) (by kernel_rfl) hQ (Or.inl ⟨by rfl, ?y11_44⟩) ES ?r11_44
    case y11_44 =>
      intro w' hSw
      have k00 := (bx.ext hSw).c4
      have k10 := (by_.ext hSw).c4
      have k20 := (b8.ext hSw).c2
      have k30 := (b9.ext hSw).c2
      go_simp
      try with_reducible rfl
    try simp only [Act.put]
    try simp only [List.setIfInBounds_toArray]
    try simp only [List.set_cons_succ]
    try simp only [List.set_cons_zero]
    refine wpL.take (i := 13) (d := some 44) (v := ?v13_45) rfl rfl (by kernel_rfl) (by kernel_rfl) (by kernel_rfl) (by kernel_rfl) hQ (Or.inl ⟨by rfl, ?y13_45⟩) ES ?r13_45
    case y13_45 =>
      intro w' hSw
      have k00 := (bx.ext hSw).c4
      have k10 := (by_.ext hSw).c4
      have k20 := (b8.ext hSw).c2
      have k30 := (b9.ext hSw).c2
      go_simp
      try with_reducible rfl
    try simp only [Act.put]
    try simp only [List.setIfInBounds_toArray]
    try simp only [List.set_cons_succ]
    try simp only [List.set_cons_zero]
    refine wpL.take (i := 15) (d := some 46) (v := ?v15_46) rfl rfl (by kernel_rfl) (by kernel_rfl) (by kernel_rfl) (by kernel_rfl) hQ (Or.inl ⟨by rfl, ?y15_46⟩) ES ?r15_46
    case y15_46 =>
      intro w' hSw
      have k00 := (bx.ext hSw).c4
      have k10 := (by_.ext hSw).c4
      have k20 := (b8.ext hSw).c2
      have k30 := (b9.ext hSw).c2
      go_simp
      try with_reducible rfl
    try simp only [Act.put]
    try simp only [List.setIfInBounds_toArray]
    try simp only [List.set_cons_succ]
    try simp only [List.set_cons_zero]
    refine wpL.take (i := 1) (d := some 32) (v := ?v1_47) rfl rfl (by kernel_rfl) (by kernel_rfl) (by kernel_rfl) (by kernel_rfl) hQ (Or.inl ⟨by rfl, ?y1_47⟩) ES ?r1_47
    case y1_47 =>
      intro w' hSw
      have k00 := (bx.ext hSw).c4
      have k10 := (by_.ext hSw).c4
      have k20 := (b8.ext hSw).c2
      have k30 := (b9.ext hSw).c2
      go_simp
      try with_reducible rfl
    try simp only [Act.put]
    try simp only [List.setIfInBounds_toArray]
    try simp only [List.set_cons_succ]
    try simp only [List.set_cons_zero]
    refine wpL.take (i := 5) (d := some 36) (v := ?v5_48) rfl rfl (by kernel_rfl) (by kernel_rfl) (by kernel_rfl) (by kernel_rfl) hQ (Or.inl ⟨by rfl, ?y5_48⟩) ES ?r5_48
    case y5_48 =>
      intro w' hSw
      have k00 := (bx.ext hSw).c4
      have k10 := (by_.ext hSw).c4
      have k20 := (b8.ext hSw).c2
      have k30 := (b9.ext hSw).c2
      go_simp
      try with_reducible rfl
    try simp only [Act.put]
    try simp only [List.setIfInBounds_toArray]
    try simp only [List.set_cons_succ]
    try simp only [List.set_cons_zero]
    refine wpL.take (i := 10) (d := some 41) (v := ?v10_49) rfl rfl (by kernel_rfl) (by kernel_rfl) (by kernel_rfl) (by kernel_rfl) hQ (Or.inl ⟨by rfl, ?y10_49⟩) ES ?r10_49
    case y10_49 =>
      intro w' hSw
      have k00 := (bx.ext hSw).c4
      have k10 := (by_.ext hSw).c4
      have k20 := (b8.ext hSw).c2
      have k30 := (b9.ext hSw).c2
      go_simp
      try with_reducible rfl
    try simp only [Act.put]
    try simp only [List.setIfInBounds_toArray]
    try simp only [List.set_cons_succ]
    try simp only [List.set_cons_zero]
    refine wpL.take (i := 14) (d := some 45) (v := ?v14_50) rfl rfl (by kernel_rfl) (by kernel_rfl) (by kernel_rfl) (by kernel_rfl) hQ (Or.inl ⟨by rfl, ?y14_50⟩) ES ?r14_50
    case y14_50 =>
      intro w' hSw
      have k00 := (bx.ext hSw).c4
      have k10 := (by_.ext hSw).c4
      have k20 := (b8.ext hSw).c2
      have k30 := (b9.ext hSw).c2
      go_simp
      try with_reducible rfl
    try simp only [Act.put]
    try simp only [List.setIfInBounds_toArray]
    try simp only [List.set_cons_succ]
    try simp only [List.set_cons_zero]
    refine wpL.call (i := 3) rfl (by kernel_rfl) (fun K hK => ?_)
    go_simp
    (go_at_call 102; refine (p_divide (h.num.ext ES) (hg.ext ES) (by omega) (by omega) Hg0.out Hgq.out).mono ?_; rintro e wk1 ⟨s3, A3, n3, c3, rfl, h3, hx0⟩; have E0_5 := Ext.trans ES hx0)
    refine hK.out _ _ E0_5 ?_
    clear hK K
    try simp only [Act.put]
    try simp only [List.setIfInBounds_toArray]
    try simp only [List.set_cons_succ]
    try simp only [List.set_cons_zero]
    refine wpL.call (i := 7) rfl (by kernel_rfl) (fun K hK => ?_)
    go_simp
    (go_at_call 102; refine (p_divide (k.num.ext E0_5) (hh.ext E0_5) (by omega) (by omega) Hh0.out Hhp.out).mono ?_; rintro e wk2 ⟨s4, A4, n4, c4, rfl, h4, hx1⟩; have E1_5 := Ext.trans E0_5 hx1)
    refine hK.out _ _ E1_5 ?_
    clear hK K
    try simp only [Act.put]
    try simp only [List.setIfInBounds_toArray]
    try simp only [List.set_cons_succ]
    try simp only [List.set_cons_zero]
    refine wpL.call (i := 8) rfl (by kernel_rfl) (fun K hK => ?_)
    go_simp
    (go_at_call 94; refine (p_Mul (h3.ext hx1) h4 (by omega) (by omega) h64).mono ?_; rintro e wk3 ⟨s5, A5, n5, c5, rfl, h5, hx2⟩; have E2_5 := Ext.trans E1_5 hx2)
    refine hK.out _ _ E2_5 ?_
    clear hK K
    try simp only [Act.put]
    try simp only [List.setIfInBounds_toArray]
    try simp only [List.set_cons_succ]
    try simp only [List.set_cons_zero]
    refine wpL.call (i := 12) rfl (by kernel_rfl) (fun K hK => ?_)
    go_simp
    (go_at_call 102; refine (p_divide (h.den.ext E2_5) (hh.ext E2_5) (by omega) (by omega) Hh0.out Hhq.out).mono ?_; rintro e wk4 ⟨s6, A6, n6, c6, rfl, h6, hx3⟩; have E3_5 := Ext.trans E2_5 hx3)
    refine hK.out _ _ E3_5 ?_
    clear hK K
    try simp only [Act.put]
    try simp only [List.setIfInBounds_toArray]
    try simp only [List.set_cons_succ]
    try simp only [List.set_cons_zero]
    refine wpL.call (i := 16) rfl (by kernel_rfl) (fun K hK => ?_)
    go_simp
    (go_at_call 102; refine (p_divide (k.den.ext E3_5) (hg.ext E3_5) (by omega) (by omega) Hg0.out Hgp.out).mono ?_; rintro e wk5 ⟨s7, A7, n7, c7, rfl, h7, hx4⟩; have E4_5 := Ext.trans E3_5 hx4)
    refine hK.out _ _ E4_5 ?_
    clear hK K
    try simp only [Act.put]
    try simp only [List.setIfInBounds_toArray]
    try simp only [List.set_cons_succ]
    try simp only [List.set_cons_zero]
    refine wpL.call (i := 17) rfl (by kernel_rfl) (fun K hK => ?_)
    go_simp
    (go_at_call 94; refine (p_Mul (h6.ext hx4) h7 (by omega) (by omega) h64).mono ?_; rintro e wk6 ⟨s8, A8, n8, c8, rfl, h8, hx5⟩; have E5_5 := Ext.trans E4_5 hx5)
    refine hK.out _ _ E5_5 ?_
    clear hK K
    try simp only [Act.put]
    try simp only [List.setIfInBounds_toArray]
    try simp only [List.set_cons_succ]
    try simp only [List.set_cons_zero]
    refine wpL.take (i := 18) (d := some 49) (v := ?v18_51) rfl rfl (by kernel_rfl) (by kernel_rfl) (by kernel_rfl) (by kernel_rfl) hQ (Or.inl ⟨by rfl, ?y18_51⟩) E5_5 ?r18_51
    case y18_51 =>
      intro w' hSw
      have k00 := (bx.ext hSw).c4
      have k10 := (by_.ext hSw).c4
      have k20 := (b8.ext hSw).c2
      have k30 := (b9.ext hSw).c2
      go_simp
      try with_reducible rfl
    try simp only [Act.put]
    try simp only [List.setIfInBounds_toArray]
    try simp only [List.set_cons_succ]
    try simp only [List.set_cons_zero]
    have z0 := (bz.ext E5_5).cell 0 _ rfl
    have z1 := (bz.ext E5_5).cell 1 _ rfl
    have z2 := (bz.ext E5_5).cell 2 _ rfl
    have z3 := (bz.ext E5_5).cell 3 _ rfl
    have f0 := (bz.ext E5_5).frozen 0
    have f1 := (bz.ext E5_5).frozen 1
    have f2 := (bz.ext E5_5).frozen 2
    have f3 := (bz.ext E5_5).frozen 3
    refine wpL.tail (i := 19) rfl (by kernel_rfl) (by kernel_rfl) (fun K hK => ?_)
    go_simp
    refine hK.out _ _ ?_
    clear hK K
    try simp only [Act.put]
    try simp only [List.setIfInBounds_toArray]
    try simp only [List.set_cons_succ]
    try simp only [List.set_cons_zero]
    refine wpL.done (by kernel_rfl) ?_ _
    clear hQ
    go_wp2_with fail
    have hk1 : ((q.den : Int) / (hq : Int)) * ((p.den : Int) / (g : Int)) = ((q * p).den : Int) := by rw [Hq2.out]; simp
    rw [hk1] at h8
    rw [← Hq1.out] at h5
    obtain ⟨b1, b2, b3, b4⟩ := fin_quad (s := s5) (A := A5) (n := n5) (c := c5) (t := s8) (B := A8) (m := n8) (d := c8) (bz.ext E5_5)
    have r0 := b1.cell 0 (.bool s5) rfl
    have r1 := b1.cell 1 (.slice A5 n5 c5) rfl
    have r2 := b1.cell 2 (.bool s8) rfl
    have r3 := b1.cell 3 (.slice A8 n8 c8) rfl
    unfold set4 at r0 r1 r2 r3
    refine bodyPost_ret (v := .agg #[.bool s5, .slice A5 n5 c5, .bool s8, .slice A8 n8 c8]) (by simp [results, Tryz.results64, go_sem, r0, r1, r2, r3]) rfl ⟨s5, A5, n5, c5, s8, A8, n8, c8, rfl, ⟨?_, ?_⟩, b3 _ (extW.trans E5_5) (by omega)⟩
    · exact b2 _ _ _ _ _ _ (h5.ext (hx3.trans (hx4.trans hx5)))
    · exact b2 _ _ _ _ _ _ h8
end
end Go.Proofs.YtoabhnofppledaaGreatDoor
