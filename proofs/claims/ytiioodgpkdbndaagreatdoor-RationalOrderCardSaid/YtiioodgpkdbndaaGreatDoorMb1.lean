/- Walks and laws, a part. -/
import Derived.Test.YtiioodgpkdbndaaGreatDoorM0
import Derived.Test.YtiioodgpkdbndaaGreatDoorM1
import Derived.Test.YtiioodgpkdbndaaGreatDoorM2
import Derived.Test.YtiioodgpkdbndaaGreatDoorM3
import Derived.Test.YtiioodgpkdbndaaGreatDoorM4
import Derived.Test.YtiioodgpkdbndaaGreatDoorM5
import Derived.Test.YtiioodgpkdbndaaGreatDoorM6
import Derived.Test.YtiioodgpkdbndaaGreatDoorM7
import Derived.Test.YtiioodgpkdbndaaGreatDoorM8
import Derived.Test.YtiioodgpkdbndaaGreatDoorM9
import Derived.Test.YtiioodgpkdbndaaGreatDoorMb0
import Derived.Laws.BytesArg
import Derived.Test.YtiioodgpkdbndaaGreatDoorRows
import Derived.ProofKit
import Derived.Lib.SmallJoins
import Derived.Test.YtiioodgpkdbndaaGreatDoorCards
import Derived.Test.YtiioodgpkdbndaaGreatDoorTie
import Derived.LaidMore
import Derived.OpenShut
import Derived.LaidLaws
import Derived.Lay
import Derived.Lib.LaidTab
import Derived.SevenTiedAt
import Derived.Stop.Joined
import Derived.Stop.LaidErr
namespace Go.Proofs.YtiioodgpkdbndaaGreatDoor
open Go.RowKit
attribute [local go_sem ↓] Go.wp_at_zero Go.wp_at_succ
section
variable {w w' : World} {z y : Int} {q p : Rat} {L M : Nat} {s t s' t' : Bool} {A B A' B' : Option Addr} {n c m d n' c' m' d' : Nat}
set_option maxHeartbeats 1000000 in
theorem q_one (h : NI w z L s A n c) : Calls Tryz.prog 66 #[.agg #[.bool s, .slice A n c]] w fun e w' => e = .returned (.bool (decide (z = 1))) ∧ Ext w w' := by
  have h1 := h.one_iff
  by_cases hn : n = 1
  · subst hn
    obtain ⟨xs, hl, hx, _⟩ := h.out
    obtain ⟨b, off, rfl, hb, hc⟩ := hx.at_ (i := 0) (by omega)
    simp only [Nat.add_zero] at hc
    cases s with
    | true =>
      have hd : decide (z = 1) = false := decide_eq_false fun hz => by have := (h1.1 hz).1; cases this
      rw [hd]
      generalize (xs[0]'(by omega) : Nat) = k at hc
      have hc2 := ((Ext.refl w).alloc (.cells #[.bool true, .slice (some ⟨b, off, none⟩) 1 c] 24)).cellv hc
      clear h1 h hx hl
      by_cases hk : (k : Int) = 1
      · have hb1 : ((k : Int) == 1) = true := beq_iff_eq.2 hk
        go_enter Tryz.func66, Tryz.ntmps66
        go_wp2
        all_goals (go_ret; exact ⟨rfl, (Ext.refl w).alloc _⟩)
      · have hb1 : ((k : Int) == 1) = false := beq_eq_false_iff_ne.2 hk
        go_enter Tryz.func66, Tryz.ntmps66
        go_wp2
        all_goals (go_ret; exact ⟨rfl, (Ext.refl w).alloc _⟩)
    | false =>
      have hv : (decide (z = 1)) = (((xs[0]'(by omega) : Nat) : Int) == 1) := by
        by_cases hz : z = 1
        · obtain ⟨_, _, b', off', hA, hc'⟩ := h1.1 hz
          injection hA with hA
          injection hA with e1 e2
          subst e1; subst e2
          rw [hc] at hc'
          injection hc' with hc'
          injection hc' with _ hc'
          rw [hc']
          simp [hz]
        · have : ¬ ((xs[0]'(by omega) : Nat) : Int) = 1 := fun h2 => hz (h1.2 ⟨rfl, rfl, b, off, rfl, by rw [hc, h2]⟩)
          rw [decide_eq_false hz]
          exact (beq_eq_false_iff_ne.2 this).symm
      rw [hv]
      generalize (xs[0]'(by omega) : Nat) = k at hc
      have hc2 := ((Ext.refl w).alloc (.cells #[.bool false, .slice (some ⟨b, off, none⟩) 1 c] 24)).cellv hc
      clear h1 h hv hx hl
      by_cases hk : (k : Int) = 1
      · have hb1 : ((k : Int) == 1) = true := beq_iff_eq.2 hk
        rw [hb1]
        go_enter Tryz.func66, Tryz.ntmps66
        go_wp2
        all_goals (go_ret; exact ⟨rfl, (Ext.refl w).alloc _⟩)
      · have hb1 : ((k : Int) == 1) = false := beq_eq_false_iff_ne.2 hk
        rw [hb1]
        go_enter Tryz.func66, Tryz.ntmps66
        go_wp2
        all_goals (go_ret; exact ⟨rfl, (Ext.refl w).alloc _⟩)
  · have hd : decide (z = 1) = false := decide_eq_false fun hz => hn (h1.1 hz).2.1
    have hn2 : ((n : Int) == 1) = false := by rw [beq_eq_false_iff_ne]; omega
    rw [hd]
    go_enter Tryz.func66, Tryz.ntmps66
    go_wp2
    all_goals (go_ret; exact ⟨rfl, (Ext.refl w).alloc _⟩)
end
end Go.Proofs.YtiioodgpkdbndaaGreatDoor
namespace Go.Proofs.YtiioodgpkdbndaaGreatDoor
open Go.RowKit
attribute [local go_sem ↓] Go.wp_at_zero Go.wp_at_succ
section
variable {w w' : World} {z y : Int} {q p : Rat} {L M : Nat} {s t s' t' : Bool} {A B A' B' : Option Addr} {n c m d n' c' m' d' : Nat}
set_option maxHeartbeats 1000000 in
theorem q_SignR (h : NR w q L s A n c t B m d) (hL : L ≤ 1000) : Calls Tryz.prog 38 #[.agg #[.bool s, .slice A n c, .bool t, .slice B m d]] w fun e w' => e = .returned (.int .i64 q.num.sign) ∧ Ext w w' := by
  go_enter Tryz.func38, Tryz.ntmps38
  go_upto_region 1 with (fail)
  obtain ⟨W, hW, extW, bx, hz⟩ := box1 w 27 #[.bool s, .slice A n c, .bool t, .slice B m d]
  rw [← hW]
  clear hW
  have x0 := bx.cell 0 (.bool s) rfl
  have x1 := bx.cell 1 (.slice A n c) rfl
  go_wp2_with fail
  refine (q_Sign (h.num.ext extW) (by omega)).mono ?_
  rintro e wa ⟨rfl, hx0⟩
  go_wp2_with fail
  go_ret
  exact ⟨rfl, extW.trans hx0⟩
set_option maxHeartbeats 2000000 in
theorem q_CmpR (h : NR w q L s A n c t B m d) (k : NR w p M s' A' n' c' t' B' m' d') (hL : L ≤ 1000) (hM : M ≤ 1000) : Calls Tryz.prog 39 #[.agg #[.bool s, .slice A n c, .bool t, .slice B m d], .agg #[.bool s', .slice A' n' c', .bool t', .slice B' m' d']] w fun e w' => e = .returned (.int .i64 (ratCmp q p)) ∧ Ext w w' := by
  go_enter Tryz.func39, Tryz.ntmps39
  go_upto_region 1 with (fail)
  obtain ⟨W, hW, extW, bx, by_, hz⟩ := box2 w 27 27 #[.bool s, .slice A n c, .bool t, .slice B m d] #[.bool s', .slice A' n' c', .bool t', .slice B' m' d']
  rw [← hW]
  clear hW
  have ES0 := Ext.refl W
  refine wp_region_held_drew (S := Ext W) (by kernel_rfl) ES0.drew (fun ES => ?_)
  clear ES0
  refine Late.start0 (fun _ _ _ _ _ => ⟨fun h => h, fun h => h⟩) ES (fun hAl hQ => ?_)
  refine Late.take (i := 0) (d := some 5) (v := ?v0_39) rfl rfl (by kernel_rfl) (by kernel_rfl) (by kernel_rfl) (by kernel_rfl) hQ (Or.inl ⟨by rfl, ?y0_39⟩) ?r0_39
  case y0_39 =>
    intro w' hSw
    have k00 := (bx.ext hSw).c4
    have k10 := (by_.ext hSw).c4
    go_simp
    try with_reducible rfl
  try simp only [Act.put]
  try simp only [List.setIfInBounds_toArray]
  try simp only [List.set_cons_succ]
  try simp only [List.set_cons_zero]
  refine Late.take (i := 2) (d := some 7) (v := ?v2_40) rfl rfl (by kernel_rfl) (by kernel_rfl) (by kernel_rfl) (by kernel_rfl) hQ (Or.inl ⟨by rfl, ?y2_40⟩) ?r2_40
  case y2_40 =>
    intro w' hSw
    have k00 := (bx.ext hSw).c4
    have k10 := (by_.ext hSw).c4
    go_simp
    try with_reducible rfl
  try simp only [Act.put]
  try simp only [List.setIfInBounds_toArray]
  try simp only [List.set_cons_succ]
  try simp only [List.set_cons_zero]
  refine Late.take (i := 5) (d := some 10) (v := ?v5_41) rfl rfl (by kernel_rfl) (by kernel_rfl) (by kernel_rfl) (by kernel_rfl) hQ (Or.inl ⟨by rfl, ?y5_41⟩) ?r5_41
  case y5_41 =>
    intro w' hSw
    have k00 := (bx.ext hSw).c4
    have k10 := (by_.ext hSw).c4
    go_simp
    try with_reducible rfl
  try simp only [Act.put]
  try simp only [List.setIfInBounds_toArray]
  try simp only [List.set_cons_succ]
  try simp only [List.set_cons_zero]
  refine Late.take (i := 7) (d := some 12) (v := ?v7_42) rfl rfl (by kernel_rfl) (by kernel_rfl) (by kernel_rfl) (by kernel_rfl) hQ (Or.inl ⟨by rfl, ?y7_42⟩) ?r7_42
  case y7_42 =>
    intro w' hSw
    have k00 := (bx.ext hSw).c4
    have k10 := (by_.ext hSw).c4
    go_simp
    try with_reducible rfl
  try simp only [Act.put]
  try simp only [List.setIfInBounds_toArray]
  try simp only [List.set_cons_succ]
  try simp only [List.set_cons_zero]
  refine Late.take (i := 1) (d := some 6) (v := ?v1_43) rfl rfl (by kernel_rfl) (by kernel_rfl) (by kernel_rfl) (by kernel_rfl) hQ (Or.inl ⟨by rfl, ?y1_43⟩) ?r1_43
  case y1_43 =>
    intro w' hSw
    have k00 := (bx.ext hSw).c4
    have k10 := (by_.ext hSw).c4
    go_simp
    try with_reducible rfl
  try simp only [Act.put]
  try simp only [List.setIfInBounds_toArray]
  try simp only [List.set_cons_succ]
  try simp only [List.set_cons_zero]
  refine Late.take (i := 3) (d := some 8) (v := ?v3_44) rfl rfl (by kernel_rfl) (by kernel_rfl) (by kernel_rfl) (by kernel_rfl) hQ (Or.inl ⟨by rfl, ?y3_44⟩) ?r3_44
  case y3_44 =>
    intro w' hSw
    have k00 := (bx.ext hSw).c4
    have k10 := (by_.ext hSw).c4
    go_simp
    try with_reducible rfl
  try simp only [Act.put]
  try simp only [List.setIfInBounds_toArray]
  try simp only [List.set_cons_succ]
  try simp only [List.set_cons_zero]
  refine Late.take (i := 6) (d := some 11) (v := ?v6_45) rfl rfl (by kernel_rfl) (by kernel_rfl) (by kernel_rfl) (by kernel_rfl) hQ (Or.inl ⟨by rfl, ?y6_45⟩) ?r6_45
  case y6_45 =>
    intro w' hSw
    have k00 := (bx.ext hSw).c4
    have k10 := (by_.ext hSw).c4
    go_simp
    try with_reducible rfl
  try simp only [Act.put]
  try simp only [List.setIfInBounds_toArray]
  try simp only [List.set_cons_succ]
  try simp only [List.set_cons_zero]
  refine Late.take (i := 8) (d := some 13) (v := ?v8_46) rfl rfl (by kernel_rfl) (by kernel_rfl) (by kernel_rfl) (by kernel_rfl) hQ (Or.inl ⟨by rfl, ?y8_46⟩) ?r8_46
  case y8_46 =>
    intro w' hSw
    have k00 := (bx.ext hSw).c4
    have k10 := (by_.ext hSw).c4
    go_simp
    try with_reducible rfl
  try simp only [Act.put]
  try simp only [List.setIfInBounds_toArray]
  try simp only [List.set_cons_succ]
  try simp only [List.set_cons_zero]
  refine Late.call (i := 4) rfl (by kernel_rfl) hAl (by kernel_rfl) (by kernel_rfl) (by kernel_rfl) hQ (fun w4 e4 E4 K hK => ?_)
  go_simp
  (go_at_call 74; refine (q_Mul (h.num.ext (extW.trans E4)) (k.den.ext (extW.trans E4)) (by omega) (by omega)).mono ?_; rintro e m1 ⟨s1, A1, n1, c1, rfl, h1, hx4⟩)
  refine hK.out _ _ hx4 ?_
  clear hK K
  try simp only [Act.put]
  try simp only [List.setIfInBounds_toArray]
  try simp only [List.set_cons_succ]
  try simp only [List.set_cons_zero]
  refine Late.call (i := 9) rfl (by kernel_rfl) hAl (by kernel_rfl) (by kernel_rfl) (by kernel_rfl) hQ (fun w9 e9 E9 K hK => ?_)
  go_simp
  (go_at_call 74; refine (q_Mul (k.num.ext (extW.trans E9)) (h.den.ext (extW.trans E9)) (by omega) (by omega)).mono ?_; rintro e m2 ⟨s2, A2, n2, c2, rfl, h2, hx9⟩)
  refine hK.out _ _ hx9 ?_
  clear hK K
  try simp only [Act.put]
  try simp only [List.setIfInBounds_toArray]
  try simp only [List.set_cons_succ]
  try simp only [List.set_cons_zero]
  refine Late.call (i := 10) rfl (by kernel_rfl) hAl (by kernel_rfl) (by kernel_rfl) (by kernel_rfl) hQ (fun w10 e10 E10 K hK => ?_)
  go_simp
  (go_at_call 77; refine (q_Cmp (h1.ext (e9.trans (hx9.trans e10))) (h2.ext e10) (by omega) (by omega)).mono ?_; rintro e m3 ⟨rfl, hx10⟩)
  refine hK.out _ _ hx10 ?_
  clear hK K
  try simp only [Act.put]
  try simp only [List.setIfInBounds_toArray]
  try simp only [List.set_cons_succ]
  try simp only [List.set_cons_zero]
  refine Late.take (i := 11) (d := some 4) (v := ?v11_47) rfl rfl (by kernel_rfl) (by kernel_rfl) (by kernel_rfl) (by kernel_rfl) hQ (Or.inl ⟨by rfl, ?y11_47⟩) ?r11_47
  case y11_47 =>
    intro w' hSw
    have k00 := (bx.ext hSw).c4
    have k10 := (by_.ext hSw).c4
    go_simp
    try with_reducible rfl
  try simp only [Act.put]
  try simp only [List.setIfInBounds_toArray]
  try simp only [List.set_cons_succ]
  try simp only [List.set_cons_zero]
  refine Late.done0 (by kernel_rfl) (fun wz ez Ez => ?_)
  clear hAl hQ ES
  go_wp2_with fail
  go_ret
  exact ⟨rfl, extW.trans Ez⟩
end
end Go.Proofs.YtiioodgpkdbndaaGreatDoor
namespace Go.Proofs.YtiioodgpkdbndaaGreatDoor
open Go.RowKit
attribute [local go_sem ↓] Go.wp_at_zero Go.wp_at_succ
/-- the words of a number in lowest terms. -/
theorem NR.raw {w : World} {q : Rat} {L : Nat} {s : Bool} {A : Option Addr} {n c : Nat} {t : Bool} {B : Option Addr} {m d : Nat} (h : NR w q L s A n c t B m d) :
    ∃ xs ys, RI w A n c xs ∧ RI w B m d ys ∧ validQ s xs t ys = true ∧ n ≤ L ∧ m ≤ L ∧ (∀ w' A' c' B' d', RI w' A' n c' xs → RI w' B' m d' ys → NR w' q L s A' n c' t B' m d') := by
  obtain ⟨xs, h1, h2, h3, h4, h5, h6⟩ := h.num.out
  obtain ⟨ys, k1, k2, k3, k4, k5, k6⟩ := h.den.out
  refine ⟨xs, ys, ⟨h1, h2, h3, h4⟩, ⟨k1, k2, k3, k4⟩, ?_, h6, k6, fun w' A' c' B' d' r1 r2 => ⟨⟨xs, r1.len, r1.rd, r1.cap, r1.top, h5, h6⟩, ⟨ys, r2.len, r2.rd, r2.cap, r2.top, k5, k6⟩⟩⟩
  unfold validQ
  rw [validB_int h5, validB_int k5, h5.abs, k5.abs, k5.eq]
  have hd := q.den_pos
  have hr := q.reduced
  unfold Nat.Coprime at hr
  simp [hr]
  omega
section
variable {w w' : World} {z y : Int} {q p : Rat} {L M : Nat} {s t s' t' : Bool} {A B A' B' : Option Addr} {n c m d n' c' m' d' : Nat} {xs ys xs' ys' : List Nat}
set_option maxHeartbeats 4000000 in
theorem q_ValidRaw (h : RI w A n c xs) (k : RI w B m d ys) (h1 : n ≤ 3000) (h2 : m ≤ 3000) : Calls Tryz.prog 24 #[.agg #[.bool s, .slice A n c, .bool t, .slice B m d]] w fun e w' => e = .returned (.bool (validQ s xs t ys)) ∧ Ext w w' := by
  obtain ⟨r, hr⟩ : ∃ r, validQ s xs t ys = r := ⟨_, rfl⟩
  have HR := Lib.hid hr
  rw [hr]
  clear hr
  go_enter Tryz.func24, Tryz.ntmps24
  go_upto_region 1 with (fail)
  obtain ⟨W, hW, extW, bx, hz⟩ := box1 w 27 #[.bool s, .slice A n c, .bool t, .slice B m d]
  rw [← hW]
  clear hW
  replace h := h.ext extW
  replace k := k.ext extW
  have x0 := bx.cell 0 (.bool s) rfl
  have x1 := bx.cell 1 (.slice A n c) rfl
  have x2 := bx.cell 2 (.bool t) rfl
  have x3 := bx.cell 3 (.slice B m d) rfl
  go_wp2_with fail
  refine (ref_Valid h.len h.rd h.cap h.top (by omega)).mono ?_
  rintro e wa ⟨rfl, hxa⟩
  replace bx := bx.ext hxa
  replace h := h.ext hxa
  replace k := k.ext hxa
  replace extW := extW.trans hxa
  clear hxa x0 x1 x2 x3
  have x0 := bx.cell 0 (.bool s) rfl
  have x1 := bx.cell 1 (.slice A n c) rfl
  have x2 := bx.cell 2 (.bool t) rfl
  have x3 := bx.cell 3 (.slice B m d) rfl
  cases hv1 : validB s xs with
  | false =>
    go_wp2_with fail
    go_ret
    exact ⟨by rw [← HR.out]; unfold validQ; rw [hv1]; rfl, extW⟩
  | true =>
    go_wp2_with fail
    refine (ref_Valid k.len k.rd k.cap k.top (by omega)).mono ?_
    rintro e wb ⟨rfl, hxb⟩
    replace bx := bx.ext hxb
    replace h := h.ext hxb
    replace k := k.ext hxb
    replace extW := extW.trans hxb
    clear hxb x0 x1 x2 x3
    have x0 := bx.cell 0 (.bool s) rfl
    have x1 := bx.cell 1 (.slice A n c) rfl
    have x2 := bx.cell 2 (.bool t) rfl
    have x3 := bx.cell 3 (.slice B m d) rfl
    cases hv2 : validB t ys with
    | false =>
      go_wp2_with fail
      go_ret
      exact ⟨by rw [← HR.out]; unfold validQ; rw [hv1, hv2]; rfl, extW⟩
    | true =>
      have H1 := NI.of_raw (L := 3000) h hv1 h1
      have H2 := NI.of_raw (L := 3000) k hv2 h2
      have hvq : validQ s xs t ys = (decide (0 < ival t ys) && decide (((Nat.gcd (val xs) (val ys) : Nat) : Int) = 1)) := by unfold validQ; rw [hv1, hv2]; rfl
      rw [HR.out] at hvq
      have HVQ := Lib.hid hvq
      clear hv1 hv2 hvq HR
      go_wp2_with fail
      refine (q_Sign H2 (by omega)).mono ?_
      rintro e wc ⟨rfl, hxc⟩
      replace bx := bx.ext hxc
      replace H1 := H1.ext hxc
      replace H2 := H2.ext hxc
      replace extW := extW.trans hxc
      clear hxc x0 x1 x2 x3 h k
      have x0 := bx.cell 0 (.bool s) rfl
      have x1 := bx.cell 1 (.slice A n c) rfl
      have x2 := bx.cell 2 (.bool t) rfl
      have x3 := bx.cell 3 (.slice B m d) rfl
      by_cases hp : 0 < ival t ys
      · rw [Int.sign_eq_one_of_pos hp]
        have hvr : r = decide (((Nat.gcd (val xs) (val ys) : Nat) : Int) = 1) := by rw [HVQ.out, decide_eq_true hp, Bool.true_and]
        have HP := Lib.hid hvr
        clear HVQ hvr
        have ab1 := ival_ab s xs
        have ab2 := ival_ab t ys
        clear hp
        go_wp2_with fail
        refine (q_GCD H1 H2 (by omega) (by omega)).mono ?_
        rintro e wd ⟨s1, A1, n1, c1, rfl, hg, hxd⟩
        rw [ab1, ab2] at hg
        go_wp2_with fail
        refine (q_one hg).mono ?_
        rintro e we ⟨rfl, hxe⟩
        go_wp2_with fail
        go_ret
        exact ⟨by rw [HP.out]; rfl, extW.trans (hxd.trans hxe)⟩
      · have hvr : r = false := by rw [HVQ.out, decide_eq_false hp, Bool.false_and]
        subst hvr
        clear HVQ
        have hs : (ival t ys).sign = 0 ∨ (ival t ys).sign = -1 := by
          rcases Int.lt_trichotomy (ival t ys) 0 with h | h | h
          · exact Or.inr (Int.sign_eq_neg_one_of_neg h)
          · exact Or.inl (by rw [h]; rfl)
          · exact absurd h hp
        clear hp
        rcases hs with hs | hs
        · rw [hs]
          go_wp2_with fail
          go_ret
          exact ⟨rfl, extW⟩
        · rw [hs]
          go_wp2_with fail
          go_ret
          exact ⟨rfl, extW⟩
def fewB (n m : Nat) (s : Bool) (xs : List Nat) (t : Bool) (ys : List Nat) : Bool := decide (n ≤ 20) && (decide (m ≤ 20) && validQ s xs t ys)
set_option maxHeartbeats 2000000 in
theorem q_Few (h : RI w A n c xs) (k : RI w B m d ys) : Calls Tryz.prog 67 #[.agg #[.bool s, .slice A n c, .bool t, .slice B m d], .int .i64 20] w fun e w' => e = .returned (.bool (fewB n m s xs t ys)) ∧ Ext w w' := by
  by_cases h1 : n ≤ 20
  · have d1 : decide ((n : Int) ≤ (20 : Int)) = true := decide_eq_true (by omega)
    by_cases h2 : m ≤ 20
    · have d2 : decide ((m : Int) ≤ (20 : Int)) = true := decide_eq_true (by omega)
      have hf : fewB n m s xs t ys = validQ s xs t ys := by unfold fewB; rw [decide_eq_true h1, decide_eq_true h2]; rfl
      rw [hf]
      clear hf
      go_enter Tryz.func67, Tryz.ntmps67
      go_upto_region 1 with (fail)
      obtain ⟨W, hW, extW, bx, hz⟩ := box1 w 27 #[.bool s, .slice A n c, .bool t, .slice B m d]
      rw [← hW]
      clear hW
      replace h := h.ext extW
      replace k := k.ext extW
      have x0 := bx.cell 0 (.bool s) rfl
      have x1 := bx.cell 1 (.slice A n c) rfl
      have x2 := bx.cell 2 (.bool t) rfl
      have x3 := bx.cell 3 (.slice B m d) rfl
      go_wp2_with fail
      refine (q_ValidRaw h k (by omega) (by omega)).mono ?_
      rintro e wd ⟨rfl, hxd⟩
      go_wp2_with fail
      go_ret
      exact ⟨rfl, extW.trans hxd⟩
    · have d2 : decide ((m : Int) ≤ (20 : Int)) = false := decide_eq_false (by omega)
      have hf : fewB n m s xs t ys = false := by unfold fewB; rw [decide_eq_true h1, decide_eq_false h2]; rfl
      rw [hf]
      clear hf
      go_enter Tryz.func67, Tryz.ntmps67
      go_upto_region 1 with (fail)
      obtain ⟨W, hW, extW, bx, hz⟩ := box1 w 27 #[.bool s, .slice A n c, .bool t, .slice B m d]
      rw [← hW]
      clear hW
      replace h := h.ext extW
      replace k := k.ext extW
      have x0 := bx.cell 0 (.bool s) rfl
      have x1 := bx.cell 1 (.slice A n c) rfl
      have x2 := bx.cell 2 (.bool t) rfl
      have x3 := bx.cell 3 (.slice B m d) rfl
      go_wp2_with fail
      go_ret
      exact ⟨rfl, extW⟩
  · have d1 : decide ((n : Int) ≤ (20 : Int)) = false := decide_eq_false (by omega)
    have hf : fewB n m s xs t ys = false := by unfold fewB; rw [decide_eq_false h1]; rfl
    rw [hf]
    clear hf
    go_enter Tryz.func67, Tryz.ntmps67
    go_upto_region 1 with (fail)
    obtain ⟨W, hW, extW, bx, hz⟩ := box1 w 27 #[.bool s, .slice A n c, .bool t, .slice B m d]
    rw [← hW]
    clear hW
    replace h := h.ext extW
    replace k := k.ext extW
    have x0 := bx.cell 0 (.bool s) rfl
    have x1 := bx.cell 1 (.slice A n c) rfl
    have x2 := bx.cell 2 (.bool t) rfl
    have x3 := bx.cell 3 (.slice B m d) rfl
    go_wp2_with fail
    go_ret
    exact ⟨rfl, extW⟩
set_option maxHeartbeats 4000000 in
theorem few3 {g : Nat} {u u' : Bool} {C D : Option Addr} {l e l' e' : Nat} {zs zs' : List Nat} (hb : Box w g 27 #[.bool s, .slice A n c, .bool t, .slice B m d, .bool s', .slice A' n' c', .bool t', .slice B' m' d', .bool u, .slice C l e, .bool u', .slice D l' e']) (h0 : RI w A n c xs) (k0 : RI w B m d ys) (h1 : RI w A' n' c' xs') (k1 : RI w B' m' d' ys') (h2 : RI w C l e zs) (k2 : RI w D l' e' zs') :
    Calls Tryz.prog 25 #[.slice (some ⟨g, 0, none⟩) 3 3] w fun e w' => e = .returned (.bool (fewB n m s xs t ys && (fewB n' m' s' xs' t' ys' && (fewB l l' u zs u' zs')))) ∧ Ext w w' := by
  go_enter Tryz.func25, Tryz.ntmps25
  go_wp2_with fail
  go_loopw [7] (fun i wr => ∃ k : Nat, k ≤ 3 ∧ i = .int .i64 (k : Int) ∧ Ext w wr ∧ ((0 < k → fewB n m s xs t ys = true) ∧ (1 < k → fewB n' m' s' xs' t' ys' = true) ∧ (2 < k → fewB l l' u zs u' zs' = true))) (fun i _ => 3 - (intOf i).toNat)
  case atStart => exact ⟨0, by omega, rfl, Ext.refl _, by simp⟩
  case round =>
    obtain ⟨k, hk, rfl, hext, hall⟩ := hrel
    have HA := Lib.hid hall
    clear hall
    have c0 := (hb.ext hext).cell 0 (.bool s) rfl
    have c1 := (hb.ext hext).cell 1 (.slice A n c) rfl
    have c2 := (hb.ext hext).cell 2 (.bool t) rfl
    have c3 := (hb.ext hext).cell 3 (.slice B m d) rfl
    have c4 := (hb.ext hext).cell 4 (.bool s') rfl
    have c5 := (hb.ext hext).cell 5 (.slice A' n' c') rfl
    have c6 := (hb.ext hext).cell 6 (.bool t') rfl
    have c7 := (hb.ext hext).cell 7 (.slice B' m' d') rfl
    have c8 := (hb.ext hext).cell 8 (.bool u) rfl
    have c9 := (hb.ext hext).cell 9 (.slice C l e) rfl
    have c10 := (hb.ext hext).cell 10 (.bool u') rfl
    have c11 := (hb.ext hext).cell 11 (.slice D l' e') rfl
    have hk2 : k = 0 ∨ k = 1 ∨ k = 2 ∨ k = 3 := by omega
    rcases hk2 with rfl | rfl | rfl | rfl
    · go_wp2_with (fail)
      refine (q_Few (h0.ext (hext.alloc _)) (k0.ext (hext.alloc _))).mono ?_
      rintro e V ⟨rfl, hxv⟩
      replace hext := (hext.alloc _).trans hxv
      cases hf : fewB n m s xs t ys with
      | true =>
        have HF := Lib.hid hf
        clear hf
        go_wp2_with fail
        go_roundw
        case rel => exact ⟨1, by omega, rfl, hext, by have := HA.out; simp [HF.out] at this ⊢⟩
        case measure => simp [intOf]
      | false =>
        have HF := Lib.hid hf
        clear hf
        go_wp2_with fail
        go_ret
        exact ⟨by have := HA.out; simp [HF.out] at this ⊢, hext⟩
    · go_wp2_with (fail)
      refine (q_Few (h1.ext (hext.alloc _)) (k1.ext (hext.alloc _))).mono ?_
      rintro e V ⟨rfl, hxv⟩
      replace hext := (hext.alloc _).trans hxv
      cases hf : fewB n' m' s' xs' t' ys' with
      | true =>
        have HF := Lib.hid hf
        clear hf
        go_wp2_with fail
        go_roundw
        case rel => exact ⟨2, by omega, rfl, hext, by have := HA.out; simp [HF.out] at this ⊢; exact this⟩
        case measure => simp [intOf]
      | false =>
        have HF := Lib.hid hf
        clear hf
        go_wp2_with fail
        go_ret
        exact ⟨by have := HA.out; simp [HF.out] at this ⊢, hext⟩
    · go_wp2_with (fail)
      refine (q_Few (h2.ext (hext.alloc _)) (k2.ext (hext.alloc _))).mono ?_
      rintro e V ⟨rfl, hxv⟩
      replace hext := (hext.alloc _).trans hxv
      cases hf : fewB l l' u zs u' zs' with
      | true =>
        have HF := Lib.hid hf
        clear hf
        go_wp2_with fail
        go_roundw
        case rel => exact ⟨3, by omega, rfl, hext, by have := HA.out; simp [HF.out] at this ⊢; exact this⟩
        case measure => simp [intOf]
      | false =>
        have HF := Lib.hid hf
        clear hf
        go_wp2_with fail
        go_ret
        exact ⟨by have := HA.out; simp [HF.out] at this ⊢, hext⟩
    · go_wp2_with fail
      go_ret
      exact ⟨by have := HA.out; simp at this; simp [this], hext⟩
end
section
variable {A : Option Addr} {c n : Nat} {xs : List Nat} {w : World} {s : Bool}
end
section
variable {w w' : World} {z y : Int} {q p : Rat} {L M : Nat} {s t s' t' : Bool} {A B A' B' : Option Addr} {n c m d n' c' m' d' : Nat} {xs ys xs' ys' : List Nat}
end
end Go.Proofs.YtiioodgpkdbndaaGreatDoor
namespace Go.Proofs.YtiioodgpkdbndaaGreatDoor
open Go.RowKit
attribute [local go_sem ↓] Go.wp_at_zero Go.wp_at_succ
/-- numbers that few accepts. -/
theorem few_nr {w : World} {A B : Option Addr} {n c m d : Nat} {s t : Bool} {xs ys : List Nat} (h : RI w A n c xs) (k : RI w B m d ys) (hf : fewB n m s xs t ys = true) : ∃ q : Rat, NR w q 20 s A n c t B m d := by
  unfold fewB at hf
  simp only [Bool.and_eq_true, decide_eq_true_eq] at hf
  exact NR.of_raw h k hf.2.2 hf.1 hf.2.1
section
variable {w w' : World} {q p r : Rat} {L : Nat} {s t s' t' u u' : Bool} {A B A' B' C D : Option Addr} {n c m d n' c' m' d' l e0 l' e' : Nat} {xs ys xs' ys' zs zs' : List Nat}
variable {z y : Int} {M : Nat}
end
end Go.Proofs.YtiioodgpkdbndaaGreatDoor
namespace Go.Proofs.YtiioodgpkdbndaaGreatDoor
open Go.ChangeShapes Go.WideShapes Go.ChangeAt Go.RowKit Go.Joins
theorem Tryz.cellsI : Tryz.prog.cellsOf 24 = 2 := by kernel_rfl
theorem Tryz.cellsW : Tryz.prog.cellsOf 71 = 1 := by kernel_rfl
section
variable {H : Type} {enc : TypeId × Value → H} {W : World} {base : Nat} {held : Bool}
theorem open_words {m : Nat} {v : Value} {y : DataW H × List MemPlace} (h : DataW.trod enc Tryz.prog W base (fun _ => true) held m 22 [v] = some y) :
    ∃ A n c xs, v = .slice A n c ∧ List.length xs = n ∧ Rd W A xs ∧ n ≤ c ∧ c ≤ maxLen := by
  rcases open_ints Tryz.underlying22 Tryz.underlying71 Tryz.cellsW h with ⟨hcs, _⟩ | ⟨a, len, cap, zs, hcs, _, hl, hm, hz, _, hcell, hwf⟩
  · injection hcs with hcs _
    subst hcs
    exact ⟨none, 0, 0, [], rfl, rfl, Rd.nil _ _, Nat.le_refl _, Nat.zero_le _⟩
  · injection hcs with hcs _
    subst hcs
    simp only [if_true] at hz
    have hb : ∀ n ∈ zs, 0 ≤ n ∧ n ≤ 4294967295 := by
      intro n hn
      have := hwf n hn
      simp [Lit.wf, IntKind.min, IntKind.max, IntKind.bits, IntKind.signed] at this
      omega
    refine ⟨some a, len, cap, (zs.take len).map Int.toNat, rfl, by simp; omega, ⟨?_, ?_⟩, hl, hm⟩
    · intro x hx
      obtain ⟨n, hn, rfl⟩ := List.mem_map.1 hx
      have := hb n (List.mem_of_mem_take hn)
      omega
    · intro hne
      have hpos : 0 < zs.length := by
        rcases Nat.eq_zero_or_pos zs.length with h0 | h0
        · exfalso
          apply hne
          have : zs = [] := List.eq_nil_of_length_eq_zero h0
          rw [this]; simp
        · exact h0
      obtain ⟨b, off, spot⟩ := a
      have hc0 := hcell 0 hpos
      have hspot : spot = none := by
        cases spot with
        | none => rfl
        | some q => simp [Addr.add, World.cell?] at hc0; split at hc0 <;> simp at hc0
      subst hspot
      refine ⟨b, off, rfl, cell_lt (p := ⟨b, off, none⟩) (by simpa [Addr.add] using hc0), fun i hi => ?_⟩
      simp only [List.length_map, List.length_take] at hi
      have hc := hcell i (by omega)
      have e1 : (⟨b, off, none⟩ : Addr).add i = ⟨b, off + i, none⟩ := by unfold Addr.add; split <;> simp_all
      rw [e1] at hc
      rw [hc]
      simp only [List.getElem_map, List.getElem_take]
      have hi2 : i < zs.length := by omega
      have e2 : zs.getD i 0 = zs[i] := by simp [List.getD, hi2]
      rw [e2]
      have := hb zs[i] (List.getElem_mem hi2)
      congr 2
      omega
end
end Go.Proofs.YtiioodgpkdbndaaGreatDoor
namespace Go.Proofs.YtiioodgpkdbndaaGreatDoor
open Go.ChangeShapes Go.WideShapes Go.ChangeAt Go.RowKit Go.Joins
theorem cellsR : Tryz.prog.cellsOf 27 = 4 := by kernel_rfl
theorem cellsB : Tryz.prog.cellsOf 4 = 1 := by kernel_rfl
theorem cellsS : Tryz.prog.cellsOf 22 = 1 := by kernel_rfl
section
variable {H : Type} {enc : TypeId × Value → H} {W : World} {base : Nat} {held : Bool}
theorem open_intc {m : Nat} {c0 c1 : Value} {y : DataW H × List MemPlace} (h : DataW.trod enc Tryz.prog W base (fun _ => true) held m 24 [c0, c1] = some y) :
    ∃ s A n c xs, c0 = .bool s ∧ c1 = .slice A n c ∧ RI W A n c xs := by
  obtain ⟨y0, y1, k, _, _, h0, h1⟩ := trod_struct2 Tryz.underlying24 h
  rw [cellsB] at h0
  rw [cellsS] at h1
  simp only [List.drop_zero, List.drop_succ_cons, List.take_succ_cons, List.take_zero] at h0 h1
  obtain ⟨s, e0, _⟩ := DataW.trod_bool Tryz.underlying4 h0
  injection e0 with e0 _
  obtain ⟨A, n, c, xs, rfl, g1, g2, g3, g4⟩ := open_words h1
  exact ⟨s, A, n, c, xs, e0, rfl, g1, g2, g3, g4⟩
set_option maxRecDepth 100000 in
theorem open_rat {r : Reach} {b0 : Nat} {v : Value} {d : DataW H} {p : List MemPlace} (hv : Value.okWide Tryz.prog W r b0 27 v) (h : DataW.Trod enc Tryz.prog W base (fun _ => true) held 27 v d p) :
    ∃ s A n c t B m d xs ys, v = .agg #[.bool s, .slice A n c, .bool t, .slice B m d] ∧ RI W A n c xs ∧ RI W B m d ys := by
  obtain ⟨cs, rfl, hsz⟩ := okWide_struct Tryz.underlying27 hv
  obtain ⟨c0, c1, c2, c3, rfl⟩ := array4 (hsz.trans cellsR)
  obtain ⟨fuel, hf⟩ := h
  obtain ⟨y0, y1, k, _, _, h0, h1⟩ := trod_struct2 Tryz.underlying27 hf
  rw [Tryz.cellsI] at h0 h1
  simp only [Value.cells, List.drop_zero, List.drop_succ_cons, List.take_succ_cons, List.take_zero] at h0 h1
  obtain ⟨s, A, n, c, xs, rfl, rfl, r1⟩ := open_intc h0
  obtain ⟨t, B, m, d, ys, rfl, rfl, r2⟩ := open_intc h1
  exact ⟨s, A, n, c, t, B, m, d, xs, ys, rfl, r1, r2⟩
end
set_option maxRecDepth 100000
end Go.Proofs.YtiioodgpkdbndaaGreatDoor
namespace Go.Proofs.YtiioodgpkdbndaaGreatDoor
open Go.RowKit
attribute [local go_sem ↓] Go.wp_at_zero Go.wp_at_succ
theorem ratCmp_swap (q p : Rat) : ratCmp p q = -ratCmp q p := by
  unfold ratCmp
  rw [← Int.sign_neg]
  congr 1
  omega
/-- the comparison is the sign of the difference. -/
theorem ratCmp_sub (q p : Rat) : (q - p).num.sign = ratCmp q p := by
  unfold ratCmp
  rw [Rat.sub_def']
  obtain ⟨h1, _⟩ := mkRat_parts (q.num * p.den - p.num * q.den) (D := q.den * p.den) (Nat.mul_ne_zero q.den_nz p.den_nz)
  rw [h1]
  generalize hN : q.num * (p.den : Int) - p.num * (q.den : Int) = N
  have hg0 : 0 < Nat.gcd N.natAbs (q.den * p.den) := Nat.gcd_pos_of_pos_right _ (Nat.mul_pos q.den_pos p.den_pos)
  obtain ⟨c, hc⟩ : (Nat.gcd N.natAbs (q.den * p.den) : Int) ∣ N := Int.ofNat_dvd_left.2 (Nat.gcd_dvd_left _ _)
  generalize Nat.gcd N.natAbs (q.den * p.den) = g at *
  rw [hc, Int.mul_ediv_cancel_left _ (by omega), Int.sign_mul, Int.sign_eq_one_of_pos (show (0 : Int) < (g : Int) by omega), Int.one_mul]
theorem ratCmp_add (q p r : Rat) : ratCmp (q + r) (p + r) = ratCmp q p := by
  rw [← ratCmp_sub, ← ratCmp_sub]
  congr 2
  grind
theorem rat_sign_mul (a b : Rat) : (a * b).num.sign = a.num.sign * b.num.sign := by
  rw [Rat.mul_def']
  obtain ⟨h1, _⟩ := mkRat_parts (a.num * b.num) (D := a.den * b.den) (Nat.mul_ne_zero a.den_nz b.den_nz)
  rw [h1]
  generalize hN : a.num * b.num = N
  have hg0 : 0 < Nat.gcd N.natAbs (a.den * b.den) := Nat.gcd_pos_of_pos_right _ (Nat.mul_pos a.den_pos b.den_pos)
  obtain ⟨c, hc⟩ : (Nat.gcd N.natAbs (a.den * b.den) : Int) ∣ N := Int.ofNat_dvd_left.2 (Nat.gcd_dvd_left _ _)
  generalize Nat.gcd N.natAbs (a.den * b.den) = g at *
  rw [← Int.sign_mul, hN, hc, Int.mul_ediv_cancel_left _ (by omega), Int.sign_mul, Int.sign_eq_one_of_pos (show (0 : Int) < (g : Int) by omega), Int.one_mul]
theorem ratCmp_mul (q p r : Rat) : ratCmp (q * r) (p * r) = ratCmp q p * r.num.sign := by
  rw [← ratCmp_sub, ← ratCmp_sub, ← rat_sign_mul]
  congr 2
  grind
theorem sign_three (z : Int) : z.sign = -1 ∨ z.sign = 0 ∨ z.sign = 1 := by
  rcases Int.lt_trichotomy z 0 with h | h | h
  · exact .inl (Int.sign_eq_neg_one_of_neg h)
  · exact .inr (.inl (by rw [h]; rfl))
  · exact .inr (.inr (Int.sign_eq_one_of_pos h))
end Go.Proofs.YtiioodgpkdbndaaGreatDoor
namespace Go.Proofs.YtiioodgpkdbndaaGreatDoor
open Go.RowKit
attribute [local go_sem ↓] Go.wp_at_zero Go.wp_at_succ
section
variable {w w' : World} {q p r : Rat} {L : Nat} {s t s' t' u u' : Bool} {A B A' B' C D : Option Addr} {n c m d n' c' m' d' l e0 l' e' : Nat} {xs ys xs' ys' zs zs' : List Nat}
set_option maxHeartbeats 16000000 in
set_option maxRecDepth 100000 in
theorem order_mm (hA : Awake2) (hT : Tab w) (hP : TabP w) (h : NR w q 20 s A n c t B m d) (k : NR w p 20 s' A' n' c' t' B' m' d') (j : NR w r 20 u C l e0 u' D l' e') (hS : ratCmp q p = -1) (hC : r.num.sign = -1) :
    Calls Tryz.prog 6 #[.agg #[.bool s, .slice A n c, .bool t, .slice B m d], .agg #[.bool s', .slice A' n' c', .bool t', .slice B' m' d'], .agg #[.bool u, .slice C l e0, .bool u', .slice D l' e']] w fun e w' => e = .returned (.bool true) ∧ Ext w w' := by
  have HS := Lib.hid hS
  have HT := Lib.hid hC
  have HN := Lib.hid (show ratCmp p q = 1 by rw [ratCmp_swap, hS]; try rfl)
  have HD := Lib.hid (show (q - p).num.sign = -1 by rw [ratCmp_sub, hS])
  have HA1 := Lib.hid (show ratCmp (q + r) (p + r) = -1 by rw [ratCmp_add, hS])
  have HM1 := Lib.hid (show ratCmp (q * r) (p * r) = 1 by rw [ratCmp_mul, hS, hC]; rfl)
  have hw0 : IntKind.i64.wrap 0 = 0 := by decide
  have hw1 : IntKind.i64.wrap 1 = 1 := by decide
  have hw2 : IntKind.i64.wrap (-1) = -1 := by decide
  clear hS hC
  obtain ⟨xs, ys, ra0, rb0, hv0, hn0, hm0, _⟩ := h.raw
  obtain ⟨xs', ys', ra1, rb1, hv1, hn1, hm1, _⟩ := k.raw
  obtain ⟨zs, zs', ra2, rb2, hv2, hn2, hm2, _⟩ := j.raw
  have HF := Lib.hid (show (fewB n m s xs t ys && (fewB n' m' s' xs' t' ys' && (fewB l l' u zs u' zs'))) = true by unfold fewB; rw [decide_eq_true hn0, decide_eq_true hm0, hv0, decide_eq_true hn1, decide_eq_true hm1, hv1, decide_eq_true hn2, decide_eq_true hm2, hv2]; rfl)
  have hr0 := And.intro ra0 rb0
  have hr1 := And.intro ra1 rb1
  have hr2 := And.intro ra2 rb2
  clear ra0 rb0 hv0 hn0 hm0 ra1 rb1 hv1 hn1 hm1 ra2 rb2 hv2 hn2 hm2
  have HA := Lib.hid hA
  clear hA
  go_enter Tryz.func6, Tryz.ntmps6
  go_upto_region 1 with (fail)
  obtain ⟨W0, hW, extW, bx, by_, bz, hzz⟩ := box3 w 27 27 27 #[.bool s, .slice A n c, .bool t, .slice B m d] #[.bool s', .slice A' n' c', .bool t', .slice B' m' d'] #[.bool u, .slice C l e0, .bool u', .slice D l' e']
  rw [← hW]
  clear hW hzz
  go_wp2_with fail
  refine (HA.out _ (hT.ext extW) (hP.ext extW)).mono ?_
  rintro e W ⟨rfl, hxt⟩
  replace extW := extW.trans hxt
  replace bx := bx.ext hxt
  replace by_ := by_.ext hxt
  replace bz := bz.ext hxt
  clear hxt
  have bx0 := bx.cell 0 (.bool s) rfl
  have bx1 := bx.cell 1 (.slice A n c) rfl
  have bx2 := bx.cell 2 (.bool t) rfl
  have bx3 := bx.cell 3 (.slice B m d) rfl
  have by_0 := by_.cell 0 (.bool s') rfl
  have by_1 := by_.cell 1 (.slice A' n' c') rfl
  have by_2 := by_.cell 2 (.bool t') rfl
  have by_3 := by_.cell 3 (.slice B' m' d') rfl
  have bz0 := bz.cell 0 (.bool u) rfl
  have bz1 := bz.cell 1 (.slice C l e0) rfl
  have bz2 := bz.cell 2 (.bool u') rfl
  have bz3 := bz.cell 3 (.slice D l' e') rfl
  have hnb := Box.new W 27 #[.bool s, .slice A n c, .bool t, .slice B m d, .bool s', .slice A' n' c', .bool t', .slice B' m' d', .bool u, .slice C l e0, .bool u', .slice D l' e']
  have e1 := (Ext.refl W).alloc (.cells #[.bool s, .slice A n c, .bool t, .slice B m d, .bool s', .slice A' n' c', .bool t', .slice B' m' d', .bool u, .slice C l e0, .bool u', .slice D l' e'] 27)
  go_wp2_with fail
  refine (few3 hnb (hr0.1.ext (extW.trans e1)) (hr0.2.ext (extW.trans e1)) (hr1.1.ext (extW.trans e1)) (hr1.2.ext (extW.trans e1)) (hr2.1.ext (extW.trans e1)) (hr2.2.ext (extW.trans e1))).mono ?_
  rintro e W1 ⟨rfl, hxt⟩
  rw [HF.out]
  have ES := e1.trans hxt
  clear hnb e1 hxt
  clear bx0 bx1 bx2 bx3 by_0 by_1 by_2 by_3 bz0 bz1 bz2 bz3
  clear hr0 hr1 hr2 HF
  replace bx := bx.ext ES
  replace by_ := by_.ext ES
  replace bz := bz.ext ES
  replace extW := extW.trans ES
  replace h := h.ext extW
  replace k := k.ext extW
  replace j := j.ext extW
  clear ES
  have bx0 := bx.cell 0 (.bool s) rfl
  have bx1 := bx.cell 1 (.slice A n c) rfl
  have bx2 := bx.cell 2 (.bool t) rfl
  have bx3 := bx.cell 3 (.slice B m d) rfl
  have by_0 := by_.cell 0 (.bool s') rfl
  have by_1 := by_.cell 1 (.slice A' n' c') rfl
  have by_2 := by_.cell 2 (.bool t') rfl
  have by_3 := by_.cell 3 (.slice B' m' d') rfl
  go_wp2_with fail
  refine (p_CmpR h k (by omega) (by omega) (by omega)).mono ?_
  rintro e V ⟨rfl, hxd⟩
  rw [HS.out]
  replace bx := bx.ext hxd
  replace by_ := by_.ext hxd
  replace bz := bz.ext hxd
  replace h := h.ext hxd
  replace k := k.ext hxd
  replace j := j.ext hxd
  replace extW := extW.trans hxd
  clear hxd
  clear bx0 bx1 bx2 bx3 by_0 by_1 by_2 by_3
  go_wp2_with fail
  have ES0 := Ext.refl V
  refine wp_region_held_drew (S := Ext V) (by kernel_rfl) ES0.drew (fun ES => ?_)
  clear ES0
  refine Late.start0 (fun _ _ _ _ _ => ⟨fun h => h, fun h => h⟩) ES (fun hAl hQ => ?_)
  refine Late.take (i := 0) (d := some 22) (v := ?v0_29) rfl rfl (by kernel_rfl) (by kernel_rfl) (by kernel_rfl) (by kernel_rfl) hQ (Or.inl ⟨by rfl, ?y0_29⟩) ?r0_29
  case y0_29 =>
    intro w' hSw
    have k00 := (bx.ext hSw).c4
    have k10 := (by_.ext hSw).c4
    have k20 := (bz.ext hSw).c4
    go_simp
    try with_reducible rfl
  try simp only [Act.put]
  try simp only [List.setIfInBounds_toArray]
  try simp only [List.set_cons_succ]
  try simp only [List.set_cons_zero]
  refine Late.take (i := 2) (d := some 24) (v := ?v2_30) rfl rfl (by kernel_rfl) (by kernel_rfl) (by kernel_rfl) (by kernel_rfl) hQ (Or.inl ⟨by rfl, ?y2_30⟩) ?r2_30
  case y2_30 =>
    intro w' hSw
    have k00 := (bx.ext hSw).c4
    have k10 := (by_.ext hSw).c4
    have k20 := (bz.ext hSw).c4
    go_simp
    try with_reducible rfl
  try simp only [Act.put]
  try simp only [List.setIfInBounds_toArray]
  try simp only [List.set_cons_succ]
  try simp only [List.set_cons_zero]
  refine Late.call (i := 1) rfl (by kernel_rfl) hAl (by kernel_rfl) (by kernel_rfl) (by kernel_rfl) hQ (fun w1 e1 E1 K hK => ?_)
  go_simp
  (go_at_call 37; refine (p_SignR (h.ext E1) (by omega)).mono ?_; rintro e wk1 ⟨rfl, hx1⟩)
  refine hK.out _ _ hx1 ?_
  clear hK K
  try simp only [Act.put]
  try simp only [List.setIfInBounds_toArray]
  try simp only [List.set_cons_succ]
  try simp only [List.set_cons_zero]
  refine Late.call (i := 3) rfl (by kernel_rfl) hAl (by kernel_rfl) (by kernel_rfl) (by kernel_rfl) hQ (fun w3 e3 E3 K hK => ?_)
  go_simp
  (go_at_call 38; refine (q_SignR (h.ext E3) (by omega)).mono ?_; rintro e wk3 ⟨rfl, hx3⟩)
  refine hK.out _ _ hx3 ?_
  clear hK K
  try simp only [Act.put]
  try simp only [List.setIfInBounds_toArray]
  try simp only [List.set_cons_succ]
  try simp only [List.set_cons_zero]
  refine Late.take (i := 4) (d := some 26) (v := ?v4_31) rfl rfl (by kernel_rfl) (by kernel_rfl) (by kernel_rfl) (by kernel_rfl) hQ (Or.inl ⟨by rfl, ?y4_31⟩) ?r4_31
  case y4_31 =>
    intro w' hSw
    have k00 := (bx.ext hSw).c4
    have k10 := (by_.ext hSw).c4
    have k20 := (bz.ext hSw).c4
    go_simp
    try with_reducible rfl
  try simp only [Act.put]
  try simp only [List.setIfInBounds_toArray]
  try simp only [List.set_cons_succ]
  try simp only [List.set_cons_zero]
  refine Late.take (i := 5) (d := some 27) (v := ?v5_32) rfl rfl (by kernel_rfl) (by kernel_rfl) (by kernel_rfl) (by kernel_rfl) hQ (Or.inl ⟨by rfl, ?y5_32⟩) ?r5_32
  case y5_32 =>
    intro w' hSw
    have k00 := (bx.ext hSw).c4
    have k10 := (by_.ext hSw).c4
    have k20 := (bz.ext hSw).c4
    go_simp
    try with_reducible rfl
  try simp only [Act.put]
  try simp only [List.setIfInBounds_toArray]
  try simp only [List.set_cons_succ]
  try simp only [List.set_cons_zero]
  refine Late.take (i := 6) (d := some 28) (v := ?v6_33) rfl rfl (by kernel_rfl) (by kernel_rfl) (by kernel_rfl) (by kernel_rfl) hQ (Or.inl ⟨by rfl, ?y6_33⟩) ?r6_33
  case y6_33 =>
    intro w' hSw
    have k00 := (bx.ext hSw).c4
    have k10 := (by_.ext hSw).c4
    have k20 := (bz.ext hSw).c4
    go_simp
    try with_reducible rfl
  try simp only [Act.put]
  try simp only [List.setIfInBounds_toArray]
  try simp only [List.set_cons_succ]
  try simp only [List.set_cons_zero]
  refine Late.take (i := 7) (d := some 29) (v := ?v7_34) rfl rfl (by kernel_rfl) (by kernel_rfl) (by kernel_rfl) (by kernel_rfl) hQ (Or.inl ⟨by rfl, ?y7_34⟩) ?r7_34
  case y7_34 =>
    intro w' hSw
    have k00 := (bx.ext hSw).c4
    have k10 := (by_.ext hSw).c4
    have k20 := (bz.ext hSw).c4
    go_simp
    try with_reducible rfl
  try simp only [Act.put]
  try simp only [List.setIfInBounds_toArray]
  try simp only [List.set_cons_succ]
  try simp only [List.set_cons_zero]
  refine Late.take (i := 8) (d := some 30) (v := ?v8_35) rfl rfl (by kernel_rfl) (by kernel_rfl) (by kernel_rfl) (by kernel_rfl) hQ (Or.inl ⟨by rfl, ?y8_35⟩) ?r8_35
  case y8_35 =>
    intro w' hSw
    have k00 := (bx.ext hSw).c4
    have k10 := (by_.ext hSw).c4
    have k20 := (bz.ext hSw).c4
    go_simp
    try with_reducible rfl
  try simp only [Act.put]
  try simp only [List.setIfInBounds_toArray]
  try simp only [List.set_cons_succ]
  try simp only [List.set_cons_zero]
  refine Late.call (i := 9) rfl (by kernel_rfl) hAl (by kernel_rfl) (by kernel_rfl) (by kernel_rfl) hQ (fun w9 e9 E9 K hK => ?_)
  go_simp
  (go_at_call 39; refine (q_CmpR (h.ext E9) (k.ext E9) (by omega) (by omega)).mono ?_; rintro e wk9 ⟨rfl, hx9⟩; rw [HS.out])
  refine hK.out _ _ hx9 ?_
  clear hK K
  try simp only [Act.put]
  try simp only [List.setIfInBounds_toArray]
  try simp only [List.set_cons_succ]
  try simp only [List.set_cons_zero]
  refine Late.take (i := 10) (d := some 32) (v := ?v10_36) rfl rfl (by kernel_rfl) (by kernel_rfl) (by kernel_rfl) (by kernel_rfl) hQ (Or.inl ⟨by rfl, ?y10_36⟩) ?r10_36
  case y10_36 =>
    intro w' hSw
    have k00 := (bx.ext hSw).c4
    have k10 := (by_.ext hSw).c4
    have k20 := (bz.ext hSw).c4
    go_simp
    try with_reducible rfl
  try simp only [Act.put]
  try simp only [List.setIfInBounds_toArray]
  try simp only [List.set_cons_succ]
  try simp only [List.set_cons_zero]
  refine Late.take (i := 11) (d := some 33) (v := ?v11_37) rfl rfl (by kernel_rfl) (by kernel_rfl) (by kernel_rfl) (by kernel_rfl) hQ (Or.inl ⟨by rfl, ?y11_37⟩) ?r11_37
  case y11_37 =>
    intro w' hSw
    have k00 := (bx.ext hSw).c4
    have k10 := (by_.ext hSw).c4
    have k20 := (bz.ext hSw).c4
    go_simp
    try with_reducible rfl
  try simp only [Act.put]
  try simp only [List.setIfInBounds_toArray]
  try simp only [List.set_cons_succ]
  try simp only [List.set_cons_zero]
  refine Late.take (i := 12) (d := some 34) (v := ?v12_38) rfl rfl (by kernel_rfl) (by kernel_rfl) (by kernel_rfl) (by kernel_rfl) hQ (Or.inl ⟨by rfl, ?y12_38⟩) ?r12_38
  case y12_38 =>
    intro w' hSw
    have k00 := (bx.ext hSw).c4
    have k10 := (by_.ext hSw).c4
    have k20 := (bz.ext hSw).c4
    go_simp
    try with_reducible rfl
  try simp only [Act.put]
  try simp only [List.setIfInBounds_toArray]
  try simp only [List.set_cons_succ]
  try simp only [List.set_cons_zero]
  refine Late.take (i := 13) (d := some 35) (v := ?v13_39) rfl rfl (by kernel_rfl) (by kernel_rfl) (by kernel_rfl) (by kernel_rfl) hQ (Or.inl ⟨by rfl, ?y13_39⟩) ?r13_39
  case y13_39 =>
    intro w' hSw
    have k00 := (bx.ext hSw).c4
    have k10 := (by_.ext hSw).c4
    have k20 := (bz.ext hSw).c4
    go_simp
    try with_reducible rfl
  try simp only [Act.put]
  try simp only [List.setIfInBounds_toArray]
  try simp only [List.set_cons_succ]
  try simp only [List.set_cons_zero]
  refine Late.take (i := 14) (d := some 36) (v := ?v14_40) rfl rfl (by kernel_rfl) (by kernel_rfl) (by kernel_rfl) (by kernel_rfl) hQ (Or.inl ⟨by rfl, ?y14_40⟩) ?r14_40
  case y14_40 =>
    intro w' hSw
    have k00 := (bx.ext hSw).c4
    have k10 := (by_.ext hSw).c4
    have k20 := (bz.ext hSw).c4
    go_simp
    try with_reducible rfl
  try simp only [Act.put]
  try simp only [List.setIfInBounds_toArray]
  try simp only [List.set_cons_succ]
  try simp only [List.set_cons_zero]
  refine Late.take (i := 15) (d := some 37) (v := ?v15_41) rfl rfl (by kernel_rfl) (by kernel_rfl) (by kernel_rfl) (by kernel_rfl) hQ (Or.inl ⟨by rfl, ?y15_41⟩) ?r15_41
  case y15_41 =>
    intro w' hSw
    have k00 := (bx.ext hSw).c4
    have k10 := (by_.ext hSw).c4
    have k20 := (bz.ext hSw).c4
    go_simp
    try with_reducible rfl
  try simp only [Act.put]
  try simp only [List.setIfInBounds_toArray]
  try simp only [List.set_cons_succ]
  try simp only [List.set_cons_zero]
  refine Late.call (i := 16) rfl (by kernel_rfl) hAl (by kernel_rfl) (by kernel_rfl) (by kernel_rfl) hQ (fun w16 e16 E16 K hK => ?_)
  go_simp
  (go_at_call 36; refine (p_CmpR (k.ext E16) (h.ext E16) (by omega) (by omega) (by omega)).mono ?_; rintro e wk16 ⟨rfl, hx16⟩; rw [HN.out])
  refine hK.out _ _ hx16 ?_
  clear hK K
  try simp only [Act.put]
  try simp only [List.setIfInBounds_toArray]
  try simp only [List.set_cons_succ]
  try simp only [List.set_cons_zero]
  refine Late.take (i := 17) (d := some 39) (v := ?v17_42) rfl rfl (by kernel_rfl) (by kernel_rfl) (by kernel_rfl) (by kernel_rfl) hQ (Or.inl ⟨by rfl, ?y17_42⟩) ?r17_42
  case y17_42 =>
    intro w' hSw
    have k00 := (bx.ext hSw).c4
    have k10 := (by_.ext hSw).c4
    have k20 := (bz.ext hSw).c4
    go_simp
    try with_reducible rfl
  try simp only [Act.put]
  try simp only [List.setIfInBounds_toArray]
  try simp only [List.set_cons_succ]
  try simp only [List.set_cons_zero]
  refine Late.take (i := 18) (d := some 40) (v := ?v18_43) rfl rfl (by kernel_rfl) (by kernel_rfl) (by kernel_rfl) (by kernel_rfl) hQ (Or.inl ⟨by rfl, ?y18_43⟩) ?r18_43
  case y18_43 =>
    intro w' hSw
    have k00 := (bx.ext hSw).c4
    have k10 := (by_.ext hSw).c4
    have k20 := (bz.ext hSw).c4
    go_simp
    try with_reducible rfl
  try simp only [Act.put]
  try simp only [List.setIfInBounds_toArray]
  try simp only [List.set_cons_succ]
  try simp only [List.set_cons_zero]
  refine Late.take (i := 19) (d := some 41) (v := ?v19_44) rfl rfl (by kernel_rfl) (by kernel_rfl) (by kernel_rfl) (by kernel_rfl) hQ (Or.inl ⟨by rfl, ?y19_44⟩) ?r19_44
  case y19_44 =>
    intro w' hSw
    have k00 := (bx.ext hSw).c4
    have k10 := (by_.ext hSw).c4
    have k20 := (bz.ext hSw).c4
    go_simp
    try with_reducible rfl
  try simp only [Act.put]
  try simp only [List.setIfInBounds_toArray]
  try simp only [List.set_cons_succ]
  try simp only [List.set_cons_zero]
  refine Late.take (i := 20) (d := some 42) (v := ?v20_45) rfl rfl (by kernel_rfl) (by kernel_rfl) (by kernel_rfl) (by kernel_rfl) hQ (Or.inl ⟨by rfl, ?y20_45⟩) ?r20_45
  case y20_45 =>
    intro w' hSw
    have k00 := (bx.ext hSw).c4
    have k10 := (by_.ext hSw).c4
    have k20 := (bz.ext hSw).c4
    go_simp
    try with_reducible rfl
  try simp only [Act.put]
  try simp only [List.setIfInBounds_toArray]
  try simp only [List.set_cons_succ]
  try simp only [List.set_cons_zero]
  refine Late.take (i := 21) (d := some 43) (v := ?v21_46) rfl rfl (by kernel_rfl) (by kernel_rfl) (by kernel_rfl) (by kernel_rfl) hQ (Or.inl ⟨by rfl, ?y21_46⟩) ?r21_46
  case y21_46 =>
    intro w' hSw
    have k00 := (bx.ext hSw).c4
    have k10 := (by_.ext hSw).c4
    have k20 := (bz.ext hSw).c4
    go_simp
    try with_reducible rfl
  try simp only [Act.put]
  try simp only [List.setIfInBounds_toArray]
  try simp only [List.set_cons_succ]
  try simp only [List.set_cons_zero]
  refine Late.take (i := 22) (d := some 44) (v := ?v22_47) rfl rfl (by kernel_rfl) (by kernel_rfl) (by kernel_rfl) (by kernel_rfl) hQ (Or.inl ⟨by rfl, ?y22_47⟩) ?r22_47
  case y22_47 =>
    intro w' hSw
    have k00 := (bx.ext hSw).c4
    have k10 := (by_.ext hSw).c4
    have k20 := (bz.ext hSw).c4
    go_simp
    try with_reducible rfl
  try simp only [Act.put]
  try simp only [List.setIfInBounds_toArray]
  try simp only [List.set_cons_succ]
  try simp only [List.set_cons_zero]
  refine Late.take (i := 23) (d := some 45) (v := ?v23_48) rfl rfl (by kernel_rfl) (by kernel_rfl) (by kernel_rfl) (by kernel_rfl) hQ (Or.inl ⟨by rfl, ?y23_48⟩) ?r23_48
  case y23_48 =>
    intro w' hSw
    have k00 := (bx.ext hSw).c4
    have k10 := (by_.ext hSw).c4
    have k20 := (bz.ext hSw).c4
    go_simp
    try with_reducible rfl
  try simp only [Act.put]
  try simp only [List.setIfInBounds_toArray]
  try simp only [List.set_cons_succ]
  try simp only [List.set_cons_zero]
  refine Late.call (i := 24) rfl (by kernel_rfl) hAl (by kernel_rfl) (by kernel_rfl) (by kernel_rfl) hQ (fun w24 e24 E24 K hK => ?_)
  go_simp
  (go_at_call 30; refine (p_SubR (h.ext E24) (k.ext E24) (by omega) (by omega) (by omega) (hT.ext (extW.trans E24))).mono ?_; rintro e wk24 ⟨s1_, A1_, n1_, c1_, t1_, B1_, m1_, d1_, rfl, r1, hx24⟩)
  refine hK.out _ _ hx24 ?_
  clear hK K
  try simp only [Act.put]
  try simp only [List.setIfInBounds_toArray]
  try simp only [List.set_cons_succ]
  try simp only [List.set_cons_zero]
  refine Late.call (i := 25) rfl (by kernel_rfl) hAl (by kernel_rfl) (by kernel_rfl) (by kernel_rfl) hQ (fun w25 e25 E25 K hK => ?_)
  go_simp
  (replace r1 := r1.ext e25; go_at_call 37; refine (p_SignR r1 (by omega)).mono ?_; rintro e wk25 ⟨rfl, hx25⟩; replace r1 := r1.ext hx25; rw [HD.out])
  refine hK.out _ _ hx25 ?_
  clear hK K
  try simp only [Act.put]
  try simp only [List.setIfInBounds_toArray]
  try simp only [List.set_cons_succ]
  try simp only [List.set_cons_zero]
  refine Late.take (i := 26) (d := some 48) (v := ?v26_49) rfl rfl (by kernel_rfl) (by kernel_rfl) (by kernel_rfl) (by kernel_rfl) hQ (Or.inl ⟨by rfl, ?y26_49⟩) ?r26_49
  case y26_49 =>
    intro w' hSw
    have k00 := (bx.ext hSw).c4
    have k10 := (by_.ext hSw).c4
    have k20 := (bz.ext hSw).c4
    go_simp
    try with_reducible rfl
  try simp only [Act.put]
  try simp only [List.setIfInBounds_toArray]
  try simp only [List.set_cons_succ]
  try simp only [List.set_cons_zero]
  refine Late.take (i := 27) (d := some 49) (v := ?v27_50) rfl rfl (by kernel_rfl) (by kernel_rfl) (by kernel_rfl) (by kernel_rfl) hQ (Or.inl ⟨by rfl, ?y27_50⟩) ?r27_50
  case y27_50 =>
    intro w' hSw
    have k00 := (bx.ext hSw).c4
    have k10 := (by_.ext hSw).c4
    have k20 := (bz.ext hSw).c4
    go_simp
    try with_reducible rfl
  try simp only [Act.put]
  try simp only [List.setIfInBounds_toArray]
  try simp only [List.set_cons_succ]
  try simp only [List.set_cons_zero]
  refine Late.done0 (by kernel_rfl) (fun wz ez Ez => ?_)
  clear hAl hQ ES
  replace bx := bx.ext Ez
  replace by_ := by_.ext Ez
  replace bz := bz.ext Ez
  replace h := h.ext Ez
  replace k := k.ext Ez
  replace j := j.ext Ez
  replace extW := extW.trans Ez
  clear Ez ez
  go_wp2_with fail
  have ES0 := Ext.refl wz
  refine wp_region_held_drew (S := Ext wz) (by kernel_rfl) ES0.drew (fun ES => ?_)
  clear ES0
  refine Late.start0 (fun _ _ _ _ _ => ⟨fun h => h, fun h => h⟩) ES (fun hAl hQ => ?_)
  refine Late.take (i := 0) (d := some 50) (v := ?v0_51) rfl rfl (by kernel_rfl) (by kernel_rfl) (by kernel_rfl) (by kernel_rfl) hQ (Or.inl ⟨by rfl, ?y0_51⟩) ?r0_51
  case y0_51 =>
    intro w' hSw
    have k00 := (bx.ext hSw).c4
    have k10 := (by_.ext hSw).c4
    have k20 := (bz.ext hSw).c4
    go_simp
    try with_reducible rfl
  try simp only [Act.put]
  try simp only [List.setIfInBounds_toArray]
  try simp only [List.set_cons_succ]
  try simp only [List.set_cons_zero]
  refine Late.take (i := 1) (d := some 51) (v := ?v1_52) rfl rfl (by kernel_rfl) (by kernel_rfl) (by kernel_rfl) (by kernel_rfl) hQ (Or.inl ⟨by rfl, ?y1_52⟩) ?r1_52
  case y1_52 =>
    intro w' hSw
    have k00 := (bx.ext hSw).c4
    have k10 := (by_.ext hSw).c4
    have k20 := (bz.ext hSw).c4
    go_simp
    try with_reducible rfl
  try simp only [Act.put]
  try simp only [List.setIfInBounds_toArray]
  try simp only [List.set_cons_succ]
  try simp only [List.set_cons_zero]
  refine Late.take (i := 3) (d := some 53) (v := ?v3_53) rfl rfl (by kernel_rfl) (by kernel_rfl) (by kernel_rfl) (by kernel_rfl) hQ (Or.inl ⟨by rfl, ?y3_53⟩) ?r3_53
  case y3_53 =>
    intro w' hSw
    have k00 := (bx.ext hSw).c4
    have k10 := (by_.ext hSw).c4
    have k20 := (bz.ext hSw).c4
    go_simp
    try with_reducible rfl
  try simp only [Act.put]
  try simp only [List.setIfInBounds_toArray]
  try simp only [List.set_cons_succ]
  try simp only [List.set_cons_zero]
  refine Late.take (i := 4) (d := some 54) (v := ?v4_54) rfl rfl (by kernel_rfl) (by kernel_rfl) (by kernel_rfl) (by kernel_rfl) hQ (Or.inl ⟨by rfl, ?y4_54⟩) ?r4_54
  case y4_54 =>
    intro w' hSw
    have k00 := (bx.ext hSw).c4
    have k10 := (by_.ext hSw).c4
    have k20 := (bz.ext hSw).c4
    go_simp
    try with_reducible rfl
  try simp only [Act.put]
  try simp only [List.setIfInBounds_toArray]
  try simp only [List.set_cons_succ]
  try simp only [List.set_cons_zero]
  refine Late.take (i := 7) (d := some 57) (v := ?v7_55) rfl rfl (by kernel_rfl) (by kernel_rfl) (by kernel_rfl) (by kernel_rfl) hQ (Or.inl ⟨by rfl, ?y7_55⟩) ?r7_55
  case y7_55 =>
    intro w' hSw
    have k00 := (bx.ext hSw).c4
    have k10 := (by_.ext hSw).c4
    have k20 := (bz.ext hSw).c4
    go_simp
    try with_reducible rfl
  try simp only [Act.put]
  try simp only [List.setIfInBounds_toArray]
  try simp only [List.set_cons_succ]
  try simp only [List.set_cons_zero]
  refine Late.call (i := 2) rfl (by kernel_rfl) hAl (by kernel_rfl) (by kernel_rfl) (by kernel_rfl) hQ (fun w2 e2 E2 K hK => ?_)
  go_simp
  (go_at_call 28; refine (p_AddR (h.ext E2) (j.ext E2) (by omega) (by omega) (by omega) (hT.ext (extW.trans E2))).mono ?_; rintro e wk2 ⟨s2_, A2_, n2_, c2_, t2_, B2_, m2_, d2_, rfl, r1, hx2⟩)
  refine hK.out _ _ hx2 ?_
  clear hK K
  try simp only [Act.put]
  try simp only [List.setIfInBounds_toArray]
  try simp only [List.set_cons_succ]
  try simp only [List.set_cons_zero]
  refine Late.call (i := 5) rfl (by kernel_rfl) hAl (by kernel_rfl) (by kernel_rfl) (by kernel_rfl) hQ (fun w5 e5 E5 K hK => ?_)
  go_simp
  (replace r1 := r1.ext e5; go_at_call 28; refine (p_AddR (k.ext E5) (j.ext E5) (by omega) (by omega) (by omega) (hT.ext (extW.trans E5))).mono ?_; rintro e wk5 ⟨s3_, A3_, n3_, c3_, t3_, B3_, m3_, d3_, rfl, r2, hx5⟩; replace r1 := r1.ext hx5)
  refine hK.out _ _ hx5 ?_
  clear hK K
  try simp only [Act.put]
  try simp only [List.setIfInBounds_toArray]
  try simp only [List.set_cons_succ]
  try simp only [List.set_cons_zero]
  refine Late.call (i := 6) rfl (by kernel_rfl) hAl (by kernel_rfl) (by kernel_rfl) (by kernel_rfl) hQ (fun w6 e6 E6 K hK => ?_)
  go_simp
  (replace r1 := r1.ext e6; replace r2 := r2.ext e6; go_at_call 36; refine (p_CmpR r1 r2 (by omega) (by omega) (by omega)).mono ?_; rintro e wk6 ⟨rfl, hx6⟩; replace r1 := r1.ext hx6; replace r2 := r2.ext hx6; rw [HA1.out])
  refine hK.out _ _ hx6 ?_
  clear hK K
  try simp only [Act.put]
  try simp only [List.setIfInBounds_toArray]
  try simp only [List.set_cons_succ]
  try simp only [List.set_cons_zero]
  refine Late.take (i := 8) (d := some 58) (v := ?v8_56) rfl rfl (by kernel_rfl) (by kernel_rfl) (by kernel_rfl) (by kernel_rfl) hQ (Or.inl ⟨by rfl, ?y8_56⟩) ?r8_56
  case y8_56 =>
    intro w' hSw
    have k00 := (bx.ext hSw).c4
    have k10 := (by_.ext hSw).c4
    have k20 := (bz.ext hSw).c4
    go_simp
    try with_reducible rfl
  try simp only [Act.put]
  try simp only [List.setIfInBounds_toArray]
  try simp only [List.set_cons_succ]
  try simp only [List.set_cons_zero]
  refine Late.take (i := 9) (d := some 59) (v := ?v9_57) rfl rfl (by kernel_rfl) (by kernel_rfl) (by kernel_rfl) (by kernel_rfl) hQ (Or.inl ⟨by rfl, ?y9_57⟩) ?r9_57
  case y9_57 =>
    intro w' hSw
    have k00 := (bx.ext hSw).c4
    have k10 := (by_.ext hSw).c4
    have k20 := (bz.ext hSw).c4
    go_simp
    try with_reducible rfl
  try simp only [Act.put]
  try simp only [List.setIfInBounds_toArray]
  try simp only [List.set_cons_succ]
  try simp only [List.set_cons_zero]
  refine Late.take (i := 10) (d := some 60) (v := ?v10_58) rfl rfl (by kernel_rfl) (by kernel_rfl) (by kernel_rfl) (by kernel_rfl) hQ (Or.inl ⟨by rfl, ?y10_58⟩) ?r10_58
  case y10_58 =>
    intro w' hSw
    have k00 := (bx.ext hSw).c4
    have k10 := (by_.ext hSw).c4
    have k20 := (bz.ext hSw).c4
    go_simp
    try with_reducible rfl
  try simp only [Act.put]
  try simp only [List.setIfInBounds_toArray]
  try simp only [List.set_cons_succ]
  try simp only [List.set_cons_zero]
  refine Late.take (i := 11) (d := some 61) (v := ?v11_59) rfl rfl (by kernel_rfl) (by kernel_rfl) (by kernel_rfl) (by kernel_rfl) hQ (Or.inl ⟨by rfl, ?y11_59⟩) ?r11_59
  case y11_59 =>
    intro w' hSw
    have k00 := (bx.ext hSw).c4
    have k10 := (by_.ext hSw).c4
    have k20 := (bz.ext hSw).c4
    go_simp
    try with_reducible rfl
  try simp only [Act.put]
  try simp only [List.setIfInBounds_toArray]
  try simp only [List.set_cons_succ]
  try simp only [List.set_cons_zero]
  refine Late.take (i := 13) (d := some 63) (v := ?v13_60) rfl rfl (by kernel_rfl) (by kernel_rfl) (by kernel_rfl) (by kernel_rfl) hQ (Or.inl ⟨by rfl, ?y13_60⟩) ?r13_60
  case y13_60 =>
    intro w' hSw
    have k00 := (bx.ext hSw).c4
    have k10 := (by_.ext hSw).c4
    have k20 := (bz.ext hSw).c4
    go_simp
    try with_reducible rfl
  try simp only [Act.put]
  try simp only [List.setIfInBounds_toArray]
  try simp only [List.set_cons_succ]
  try simp only [List.set_cons_zero]
  refine Late.take (i := 14) (d := some 64) (v := ?v14_61) rfl rfl (by kernel_rfl) (by kernel_rfl) (by kernel_rfl) (by kernel_rfl) hQ (Or.inl ⟨by rfl, ?y14_61⟩) ?r14_61
  case y14_61 =>
    intro w' hSw
    have k00 := (bx.ext hSw).c4
    have k10 := (by_.ext hSw).c4
    have k20 := (bz.ext hSw).c4
    go_simp
    try with_reducible rfl
  try simp only [Act.put]
  try simp only [List.setIfInBounds_toArray]
  try simp only [List.set_cons_succ]
  try simp only [List.set_cons_zero]
  refine Late.take (i := 17) (d := some 67) (v := ?v17_62) rfl rfl (by kernel_rfl) (by kernel_rfl) (by kernel_rfl) (by kernel_rfl) hQ (Or.inl ⟨by rfl, ?y17_62⟩) ?r17_62
  case y17_62 =>
    intro w' hSw
    have k00 := (bx.ext hSw).c4
    have k10 := (by_.ext hSw).c4
    have k20 := (bz.ext hSw).c4
    go_simp
    try with_reducible rfl
  try simp only [Act.put]
  try simp only [List.setIfInBounds_toArray]
  try simp only [List.set_cons_succ]
  try simp only [List.set_cons_zero]
  refine Late.take (i := 18) (d := some 68) (v := ?v18_63) rfl rfl (by kernel_rfl) (by kernel_rfl) (by kernel_rfl) (by kernel_rfl) hQ (Or.inl ⟨by rfl, ?y18_63⟩) ?r18_63
  case y18_63 =>
    intro w' hSw
    have k00 := (bx.ext hSw).c4
    have k10 := (by_.ext hSw).c4
    have k20 := (bz.ext hSw).c4
    go_simp
    try with_reducible rfl
  try simp only [Act.put]
  try simp only [List.setIfInBounds_toArray]
  try simp only [List.set_cons_succ]
  try simp only [List.set_cons_zero]
  refine Late.call (i := 12) rfl (by kernel_rfl) hAl (by kernel_rfl) (by kernel_rfl) (by kernel_rfl) hQ (fun w12 e12 E12 K hK => ?_)
  go_simp
  (replace r1 := r1.ext e12; replace r2 := r2.ext e12; go_at_call 34; refine (p_MulR (h.ext E12) (j.ext E12) (by omega) (by omega) (by omega) (hT.ext (extW.trans E12))).mono ?_; rintro e wk12 ⟨s4_, A4_, n4_, c4_, t4_, B4_, m4_, d4_, rfl, r3, hx12⟩; replace r1 := r1.ext hx12; replace r2 := r2.ext hx12)
  refine hK.out _ _ hx12 ?_
  clear hK K
  try simp only [Act.put]
  try simp only [List.setIfInBounds_toArray]
  try simp only [List.set_cons_succ]
  try simp only [List.set_cons_zero]
  refine Late.call (i := 15) rfl (by kernel_rfl) hAl (by kernel_rfl) (by kernel_rfl) (by kernel_rfl) hQ (fun w15 e15 E15 K hK => ?_)
  go_simp
  (replace r1 := r1.ext e15; replace r2 := r2.ext e15; replace r3 := r3.ext e15; go_at_call 34; refine (p_MulR (k.ext E15) (j.ext E15) (by omega) (by omega) (by omega) (hT.ext (extW.trans E15))).mono ?_; rintro e wk15 ⟨s5_, A5_, n5_, c5_, t5_, B5_, m5_, d5_, rfl, r4, hx15⟩; replace r1 := r1.ext hx15; replace r2 := r2.ext hx15; replace r3 := r3.ext hx15)
  refine hK.out _ _ hx15 ?_
  clear hK K
  try simp only [Act.put]
  try simp only [List.setIfInBounds_toArray]
  try simp only [List.set_cons_succ]
  try simp only [List.set_cons_zero]
  refine Late.call (i := 16) rfl (by kernel_rfl) hAl (by kernel_rfl) (by kernel_rfl) (by kernel_rfl) hQ (fun w16 e16 E16 K hK => ?_)
  go_simp
  (replace r1 := r1.ext e16; replace r2 := r2.ext e16; replace r3 := r3.ext e16; replace r4 := r4.ext e16; go_at_call 36; refine (p_CmpR r3 r4 (by omega) (by omega) (by omega)).mono ?_; rintro e wk16 ⟨rfl, hx16⟩; replace r1 := r1.ext hx16; replace r2 := r2.ext hx16; replace r3 := r3.ext hx16; replace r4 := r4.ext hx16; rw [HM1.out])
  refine hK.out _ _ hx16 ?_
  clear hK K
  try simp only [Act.put]
  try simp only [List.setIfInBounds_toArray]
  try simp only [List.set_cons_succ]
  try simp only [List.set_cons_zero]
  refine Late.call (i := 19) rfl (by kernel_rfl) hAl (by kernel_rfl) (by kernel_rfl) (by kernel_rfl) hQ (fun w19 e19 E19 K hK => ?_)
  go_simp
  (replace r1 := r1.ext e19; replace r2 := r2.ext e19; replace r3 := r3.ext e19; replace r4 := r4.ext e19; go_at_call 37; refine (p_SignR (j.ext E19) (by omega)).mono ?_; rintro e wk19 ⟨rfl, hx19⟩; replace r1 := r1.ext hx19; replace r2 := r2.ext hx19; replace r3 := r3.ext hx19; replace r4 := r4.ext hx19; rw [HT.out])
  refine hK.out _ _ hx19 ?_
  clear hK K
  try simp only [Act.put]
  try simp only [List.setIfInBounds_toArray]
  try simp only [List.set_cons_succ]
  try simp only [List.set_cons_zero]
  refine Late.take (i := 20) (d := some 70) (v := ?v20_64) rfl rfl (by kernel_rfl) (by kernel_rfl) (by kernel_rfl) (by kernel_rfl) hQ (Or.inl ⟨by rfl, ?y20_64⟩) ?r20_64
  case y20_64 =>
    intro w' hSw
    have k00 := (bx.ext hSw).c4
    have k10 := (by_.ext hSw).c4
    have k20 := (bz.ext hSw).c4
    go_simp
    try with_reducible rfl
  try simp only [Act.put]
  try simp only [List.setIfInBounds_toArray]
  try simp only [List.set_cons_succ]
  try simp only [List.set_cons_zero]
  refine Late.take (i := 21) (d := some 71) (v := ?v21_65) rfl rfl (by kernel_rfl) (by kernel_rfl) (by kernel_rfl) (by kernel_rfl) hQ (Or.inl ⟨by rfl, ?y21_65⟩) ?r21_65
  case y21_65 =>
    intro w' hSw
    have k00 := (bx.ext hSw).c4
    have k10 := (by_.ext hSw).c4
    have k20 := (bz.ext hSw).c4
    go_simp
    try with_reducible rfl
  try simp only [Act.put]
  try simp only [List.setIfInBounds_toArray]
  try simp only [List.set_cons_succ]
  try simp only [List.set_cons_zero]
  refine Late.take (i := 22) (d := some 72) (v := ?v22_66) rfl rfl (by kernel_rfl) (by kernel_rfl) (by kernel_rfl) (by kernel_rfl) hQ (Or.inl ⟨by rfl, ?y22_66⟩) ?r22_66
  case y22_66 =>
    intro w' hSw
    have k00 := (bx.ext hSw).c4
    have k10 := (by_.ext hSw).c4
    have k20 := (bz.ext hSw).c4
    go_simp
    try with_reducible rfl
  try simp only [Act.put]
  try simp only [List.setIfInBounds_toArray]
  try simp only [List.set_cons_succ]
  try simp only [List.set_cons_zero]
  refine Late.take (i := 23) (d := some 6) (v := ?v23_67) rfl rfl (by kernel_rfl) (by kernel_rfl) (by kernel_rfl) (by kernel_rfl) hQ (Or.inl ⟨by rfl, ?y23_67⟩) ?r23_67
  case y23_67 =>
    intro w' hSw
    have k00 := (bx.ext hSw).c4
    have k10 := (by_.ext hSw).c4
    have k20 := (bz.ext hSw).c4
    go_simp
    try with_reducible rfl
  try simp only [Act.put]
  try simp only [List.setIfInBounds_toArray]
  try simp only [List.set_cons_succ]
  try simp only [List.set_cons_zero]
  refine Late.done0 (by kernel_rfl) (fun wy ez Ez => ?_)
  clear hAl hQ ES
  go_wp2_with fail
  go_ret
  exact ⟨rfl, extW.trans Ez⟩
set_option maxHeartbeats 16000000 in
set_option maxRecDepth 100000 in
theorem order_mz (hA : Awake2) (hT : Tab w) (hP : TabP w) (h : NR w q 20 s A n c t B m d) (k : NR w p 20 s' A' n' c' t' B' m' d') (j : NR w r 20 u C l e0 u' D l' e') (hS : ratCmp q p = -1) (hC : r.num.sign = 0) :
    Calls Tryz.prog 6 #[.agg #[.bool s, .slice A n c, .bool t, .slice B m d], .agg #[.bool s', .slice A' n' c', .bool t', .slice B' m' d'], .agg #[.bool u, .slice C l e0, .bool u', .slice D l' e']] w fun e w' => e = .returned (.bool true) ∧ Ext w w' := by
  have HS := Lib.hid hS
  have HT := Lib.hid hC
  have HN := Lib.hid (show ratCmp p q = 1 by rw [ratCmp_swap, hS]; try rfl)
  have HD := Lib.hid (show (q - p).num.sign = -1 by rw [ratCmp_sub, hS])
  have HA1 := Lib.hid (show ratCmp (q + r) (p + r) = -1 by rw [ratCmp_add, hS])
  have HM1 := Lib.hid (show ratCmp (q * r) (p * r) = 0 by rw [ratCmp_mul, hS, hC]; rfl)
  have hw0 : IntKind.i64.wrap 0 = 0 := by decide
  have hw1 : IntKind.i64.wrap 1 = 1 := by decide
  have hw2 : IntKind.i64.wrap (-1) = -1 := by decide
  clear hS hC
  obtain ⟨xs, ys, ra0, rb0, hv0, hn0, hm0, _⟩ := h.raw
  obtain ⟨xs', ys', ra1, rb1, hv1, hn1, hm1, _⟩ := k.raw
  obtain ⟨zs, zs', ra2, rb2, hv2, hn2, hm2, _⟩ := j.raw
  have HF := Lib.hid (show (fewB n m s xs t ys && (fewB n' m' s' xs' t' ys' && (fewB l l' u zs u' zs'))) = true by unfold fewB; rw [decide_eq_true hn0, decide_eq_true hm0, hv0, decide_eq_true hn1, decide_eq_true hm1, hv1, decide_eq_true hn2, decide_eq_true hm2, hv2]; rfl)
  have hr0 := And.intro ra0 rb0
  have hr1 := And.intro ra1 rb1
  have hr2 := And.intro ra2 rb2
  clear ra0 rb0 hv0 hn0 hm0 ra1 rb1 hv1 hn1 hm1 ra2 rb2 hv2 hn2 hm2
  have HA := Lib.hid hA
  clear hA
  go_enter Tryz.func6, Tryz.ntmps6
  go_upto_region 1 with (fail)
  obtain ⟨W0, hW, extW, bx, by_, bz, hzz⟩ := box3 w 27 27 27 #[.bool s, .slice A n c, .bool t, .slice B m d] #[.bool s', .slice A' n' c', .bool t', .slice B' m' d'] #[.bool u, .slice C l e0, .bool u', .slice D l' e']
  rw [← hW]
  clear hW hzz
  go_wp2_with fail
  refine (HA.out _ (hT.ext extW) (hP.ext extW)).mono ?_
  rintro e W ⟨rfl, hxt⟩
  replace extW := extW.trans hxt
  replace bx := bx.ext hxt
  replace by_ := by_.ext hxt
  replace bz := bz.ext hxt
  clear hxt
  have bx0 := bx.cell 0 (.bool s) rfl
  have bx1 := bx.cell 1 (.slice A n c) rfl
  have bx2 := bx.cell 2 (.bool t) rfl
  have bx3 := bx.cell 3 (.slice B m d) rfl
  have by_0 := by_.cell 0 (.bool s') rfl
  have by_1 := by_.cell 1 (.slice A' n' c') rfl
  have by_2 := by_.cell 2 (.bool t') rfl
  have by_3 := by_.cell 3 (.slice B' m' d') rfl
  have bz0 := bz.cell 0 (.bool u) rfl
  have bz1 := bz.cell 1 (.slice C l e0) rfl
  have bz2 := bz.cell 2 (.bool u') rfl
  have bz3 := bz.cell 3 (.slice D l' e') rfl
  have hnb := Box.new W 27 #[.bool s, .slice A n c, .bool t, .slice B m d, .bool s', .slice A' n' c', .bool t', .slice B' m' d', .bool u, .slice C l e0, .bool u', .slice D l' e']
  have e1 := (Ext.refl W).alloc (.cells #[.bool s, .slice A n c, .bool t, .slice B m d, .bool s', .slice A' n' c', .bool t', .slice B' m' d', .bool u, .slice C l e0, .bool u', .slice D l' e'] 27)
  go_wp2_with fail
  refine (few3 hnb (hr0.1.ext (extW.trans e1)) (hr0.2.ext (extW.trans e1)) (hr1.1.ext (extW.trans e1)) (hr1.2.ext (extW.trans e1)) (hr2.1.ext (extW.trans e1)) (hr2.2.ext (extW.trans e1))).mono ?_
  rintro e W1 ⟨rfl, hxt⟩
  rw [HF.out]
  have ES := e1.trans hxt
  clear hnb e1 hxt
  clear bx0 bx1 bx2 bx3 by_0 by_1 by_2 by_3 bz0 bz1 bz2 bz3
  clear hr0 hr1 hr2 HF
  replace bx := bx.ext ES
  replace by_ := by_.ext ES
  replace bz := bz.ext ES
  replace extW := extW.trans ES
  replace h := h.ext extW
  replace k := k.ext extW
  replace j := j.ext extW
  clear ES
  have bx0 := bx.cell 0 (.bool s) rfl
  have bx1 := bx.cell 1 (.slice A n c) rfl
  have bx2 := bx.cell 2 (.bool t) rfl
  have bx3 := bx.cell 3 (.slice B m d) rfl
  have by_0 := by_.cell 0 (.bool s') rfl
  have by_1 := by_.cell 1 (.slice A' n' c') rfl
  have by_2 := by_.cell 2 (.bool t') rfl
  have by_3 := by_.cell 3 (.slice B' m' d') rfl
  go_wp2_with fail
  refine (p_CmpR h k (by omega) (by omega) (by omega)).mono ?_
  rintro e V ⟨rfl, hxd⟩
  rw [HS.out]
  replace bx := bx.ext hxd
  replace by_ := by_.ext hxd
  replace bz := bz.ext hxd
  replace h := h.ext hxd
  replace k := k.ext hxd
  replace j := j.ext hxd
  replace extW := extW.trans hxd
  clear hxd
  clear bx0 bx1 bx2 bx3 by_0 by_1 by_2 by_3
  go_wp2_with fail
  have ES0 := Ext.refl V
  refine wp_region_held_drew (S := Ext V) (by kernel_rfl) ES0.drew (fun ES => ?_)
  clear ES0
  refine Late.start0 (fun _ _ _ _ _ => ⟨fun h => h, fun h => h⟩) ES (fun hAl hQ => ?_)
  refine Late.take (i := 0) (d := some 22) (v := ?v0_68) rfl rfl (by kernel_rfl) (by kernel_rfl) (by kernel_rfl) (by kernel_rfl) hQ (Or.inl ⟨by rfl, ?y0_68⟩) ?r0_68
  case y0_68 =>
    intro w' hSw
    have k00 := (bx.ext hSw).c4
    have k10 := (by_.ext hSw).c4
    have k20 := (bz.ext hSw).c4
    go_simp
    try with_reducible rfl
  try simp only [Act.put]
  try simp only [List.setIfInBounds_toArray]
  try simp only [List.set_cons_succ]
  try simp only [List.set_cons_zero]
  refine Late.take (i := 2) (d := some 24) (v := ?v2_69) rfl rfl (by kernel_rfl) (by kernel_rfl) (by kernel_rfl) (by kernel_rfl) hQ (Or.inl ⟨by rfl, ?y2_69⟩) ?r2_69
  case y2_69 =>
    intro w' hSw
    have k00 := (bx.ext hSw).c4
    have k10 := (by_.ext hSw).c4
    have k20 := (bz.ext hSw).c4
    go_simp
    try with_reducible rfl
  try simp only [Act.put]
  try simp only [List.setIfInBounds_toArray]
  try simp only [List.set_cons_succ]
  try simp only [List.set_cons_zero]
  refine Late.call (i := 1) rfl (by kernel_rfl) hAl (by kernel_rfl) (by kernel_rfl) (by kernel_rfl) hQ (fun w1 e1 E1 K hK => ?_)
  go_simp
  (go_at_call 37; refine (p_SignR (h.ext E1) (by omega)).mono ?_; rintro e wk1 ⟨rfl, hx1⟩)
  refine hK.out _ _ hx1 ?_
  clear hK K
  try simp only [Act.put]
  try simp only [List.setIfInBounds_toArray]
  try simp only [List.set_cons_succ]
  try simp only [List.set_cons_zero]
  refine Late.call (i := 3) rfl (by kernel_rfl) hAl (by kernel_rfl) (by kernel_rfl) (by kernel_rfl) hQ (fun w3 e3 E3 K hK => ?_)
  go_simp
  (go_at_call 38; refine (q_SignR (h.ext E3) (by omega)).mono ?_; rintro e wk3 ⟨rfl, hx3⟩)
  refine hK.out _ _ hx3 ?_
  clear hK K
  try simp only [Act.put]
  try simp only [List.setIfInBounds_toArray]
  try simp only [List.set_cons_succ]
  try simp only [List.set_cons_zero]
  refine Late.take (i := 4) (d := some 26) (v := ?v4_70) rfl rfl (by kernel_rfl) (by kernel_rfl) (by kernel_rfl) (by kernel_rfl) hQ (Or.inl ⟨by rfl, ?y4_70⟩) ?r4_70
  case y4_70 =>
    intro w' hSw
    have k00 := (bx.ext hSw).c4
    have k10 := (by_.ext hSw).c4
    have k20 := (bz.ext hSw).c4
    go_simp
    try with_reducible rfl
  try simp only [Act.put]
  try simp only [List.setIfInBounds_toArray]
  try simp only [List.set_cons_succ]
  try simp only [List.set_cons_zero]
  refine Late.take (i := 5) (d := some 27) (v := ?v5_71) rfl rfl (by kernel_rfl) (by kernel_rfl) (by kernel_rfl) (by kernel_rfl) hQ (Or.inl ⟨by rfl, ?y5_71⟩) ?r5_71
  case y5_71 =>
    intro w' hSw
    have k00 := (bx.ext hSw).c4
    have k10 := (by_.ext hSw).c4
    have k20 := (bz.ext hSw).c4
    go_simp
    try with_reducible rfl
  try simp only [Act.put]
  try simp only [List.setIfInBounds_toArray]
  try simp only [List.set_cons_succ]
  try simp only [List.set_cons_zero]
  refine Late.take (i := 6) (d := some 28) (v := ?v6_72) rfl rfl (by kernel_rfl) (by kernel_rfl) (by kernel_rfl) (by kernel_rfl) hQ (Or.inl ⟨by rfl, ?y6_72⟩) ?r6_72
  case y6_72 =>
    intro w' hSw
    have k00 := (bx.ext hSw).c4
    have k10 := (by_.ext hSw).c4
    have k20 := (bz.ext hSw).c4
    go_simp
    try with_reducible rfl
  try simp only [Act.put]
  try simp only [List.setIfInBounds_toArray]
  try simp only [List.set_cons_succ]
  try simp only [List.set_cons_zero]
  refine Late.take (i := 7) (d := some 29) (v := ?v7_73) rfl rfl (by kernel_rfl) (by kernel_rfl) (by kernel_rfl) (by kernel_rfl) hQ (Or.inl ⟨by rfl, ?y7_73⟩) ?r7_73
  case y7_73 =>
    intro w' hSw
    have k00 := (bx.ext hSw).c4
    have k10 := (by_.ext hSw).c4
    have k20 := (bz.ext hSw).c4
    go_simp
    try with_reducible rfl
  try simp only [Act.put]
  try simp only [List.setIfInBounds_toArray]
  try simp only [List.set_cons_succ]
  try simp only [List.set_cons_zero]
  refine Late.take (i := 8) (d := some 30) (v := ?v8_74) rfl rfl (by kernel_rfl) (by kernel_rfl) (by kernel_rfl) (by kernel_rfl) hQ (Or.inl ⟨by rfl, ?y8_74⟩) ?r8_74
  case y8_74 =>
    intro w' hSw
    have k00 := (bx.ext hSw).c4
    have k10 := (by_.ext hSw).c4
    have k20 := (bz.ext hSw).c4
    go_simp
    try with_reducible rfl
  try simp only [Act.put]
  try simp only [List.setIfInBounds_toArray]
  try simp only [List.set_cons_succ]
  try simp only [List.set_cons_zero]
  refine Late.call (i := 9) rfl (by kernel_rfl) hAl (by kernel_rfl) (by kernel_rfl) (by kernel_rfl) hQ (fun w9 e9 E9 K hK => ?_)
  go_simp
  (go_at_call 39; refine (q_CmpR (h.ext E9) (k.ext E9) (by omega) (by omega)).mono ?_; rintro e wk9 ⟨rfl, hx9⟩; rw [HS.out])
  refine hK.out _ _ hx9 ?_
  clear hK K
  try simp only [Act.put]
  try simp only [List.setIfInBounds_toArray]
  try simp only [List.set_cons_succ]
  try simp only [List.set_cons_zero]
  refine Late.take (i := 10) (d := some 32) (v := ?v10_75) rfl rfl (by kernel_rfl) (by kernel_rfl) (by kernel_rfl) (by kernel_rfl) hQ (Or.inl ⟨by rfl, ?y10_75⟩) ?r10_75
  case y10_75 =>
    intro w' hSw
    have k00 := (bx.ext hSw).c4
    have k10 := (by_.ext hSw).c4
    have k20 := (bz.ext hSw).c4
    go_simp
    try with_reducible rfl
  try simp only [Act.put]
  try simp only [List.setIfInBounds_toArray]
  try simp only [List.set_cons_succ]
  try simp only [List.set_cons_zero]
  refine Late.take (i := 11) (d := some 33) (v := ?v11_76) rfl rfl (by kernel_rfl) (by kernel_rfl) (by kernel_rfl) (by kernel_rfl) hQ (Or.inl ⟨by rfl, ?y11_76⟩) ?r11_76
  case y11_76 =>
    intro w' hSw
    have k00 := (bx.ext hSw).c4
    have k10 := (by_.ext hSw).c4
    have k20 := (bz.ext hSw).c4
    go_simp
    try with_reducible rfl
  try simp only [Act.put]
  try simp only [List.setIfInBounds_toArray]
  try simp only [List.set_cons_succ]
  try simp only [List.set_cons_zero]
  refine Late.take (i := 12) (d := some 34) (v := ?v12_77) rfl rfl (by kernel_rfl) (by kernel_rfl) (by kernel_rfl) (by kernel_rfl) hQ (Or.inl ⟨by rfl, ?y12_77⟩) ?r12_77
  case y12_77 =>
    intro w' hSw
    have k00 := (bx.ext hSw).c4
    have k10 := (by_.ext hSw).c4
    have k20 := (bz.ext hSw).c4
    go_simp
    try with_reducible rfl
  try simp only [Act.put]
  try simp only [List.setIfInBounds_toArray]
  try simp only [List.set_cons_succ]
  try simp only [List.set_cons_zero]
  refine Late.take (i := 13) (d := some 35) (v := ?v13_78) rfl rfl (by kernel_rfl) (by kernel_rfl) (by kernel_rfl) (by kernel_rfl) hQ (Or.inl ⟨by rfl, ?y13_78⟩) ?r13_78
  case y13_78 =>
    intro w' hSw
    have k00 := (bx.ext hSw).c4
    have k10 := (by_.ext hSw).c4
    have k20 := (bz.ext hSw).c4
    go_simp
    try with_reducible rfl
  try simp only [Act.put]
  try simp only [List.setIfInBounds_toArray]
  try simp only [List.set_cons_succ]
  try simp only [List.set_cons_zero]
  refine Late.take (i := 14) (d := some 36) (v := ?v14_79) rfl rfl (by kernel_rfl) (by kernel_rfl) (by kernel_rfl) (by kernel_rfl) hQ (Or.inl ⟨by rfl, ?y14_79⟩) ?r14_79
  case y14_79 =>
    intro w' hSw
    have k00 := (bx.ext hSw).c4
    have k10 := (by_.ext hSw).c4
    have k20 := (bz.ext hSw).c4
    go_simp
    try with_reducible rfl
  try simp only [Act.put]
  try simp only [List.setIfInBounds_toArray]
  try simp only [List.set_cons_succ]
  try simp only [List.set_cons_zero]
  refine Late.take (i := 15) (d := some 37) (v := ?v15_80) rfl rfl (by kernel_rfl) (by kernel_rfl) (by kernel_rfl) (by kernel_rfl) hQ (Or.inl ⟨by rfl, ?y15_80⟩) ?r15_80
  case y15_80 =>
    intro w' hSw
    have k00 := (bx.ext hSw).c4
    have k10 := (by_.ext hSw).c4
    have k20 := (bz.ext hSw).c4
    go_simp
    try with_reducible rfl
  try simp only [Act.put]
  try simp only [List.setIfInBounds_toArray]
  try simp only [List.set_cons_succ]
  try simp only [List.set_cons_zero]
  refine Late.call (i := 16) rfl (by kernel_rfl) hAl (by kernel_rfl) (by kernel_rfl) (by kernel_rfl) hQ (fun w16 e16 E16 K hK => ?_)
  go_simp
  (go_at_call 36; refine (p_CmpR (k.ext E16) (h.ext E16) (by omega) (by omega) (by omega)).mono ?_; rintro e wk16 ⟨rfl, hx16⟩; rw [HN.out])
  refine hK.out _ _ hx16 ?_
  clear hK K
  try simp only [Act.put]
  try simp only [List.setIfInBounds_toArray]
  try simp only [List.set_cons_succ]
  try simp only [List.set_cons_zero]
  refine Late.take (i := 17) (d := some 39) (v := ?v17_81) rfl rfl (by kernel_rfl) (by kernel_rfl) (by kernel_rfl) (by kernel_rfl) hQ (Or.inl ⟨by rfl, ?y17_81⟩) ?r17_81
  case y17_81 =>
    intro w' hSw
    have k00 := (bx.ext hSw).c4
    have k10 := (by_.ext hSw).c4
    have k20 := (bz.ext hSw).c4
    go_simp
    try with_reducible rfl
  try simp only [Act.put]
  try simp only [List.setIfInBounds_toArray]
  try simp only [List.set_cons_succ]
  try simp only [List.set_cons_zero]
  refine Late.take (i := 18) (d := some 40) (v := ?v18_82) rfl rfl (by kernel_rfl) (by kernel_rfl) (by kernel_rfl) (by kernel_rfl) hQ (Or.inl ⟨by rfl, ?y18_82⟩) ?r18_82
  case y18_82 =>
    intro w' hSw
    have k00 := (bx.ext hSw).c4
    have k10 := (by_.ext hSw).c4
    have k20 := (bz.ext hSw).c4
    go_simp
    try with_reducible rfl
  try simp only [Act.put]
  try simp only [List.setIfInBounds_toArray]
  try simp only [List.set_cons_succ]
  try simp only [List.set_cons_zero]
  refine Late.take (i := 19) (d := some 41) (v := ?v19_83) rfl rfl (by kernel_rfl) (by kernel_rfl) (by kernel_rfl) (by kernel_rfl) hQ (Or.inl ⟨by rfl, ?y19_83⟩) ?r19_83
  case y19_83 =>
    intro w' hSw
    have k00 := (bx.ext hSw).c4
    have k10 := (by_.ext hSw).c4
    have k20 := (bz.ext hSw).c4
    go_simp
    try with_reducible rfl
  try simp only [Act.put]
  try simp only [List.setIfInBounds_toArray]
  try simp only [List.set_cons_succ]
  try simp only [List.set_cons_zero]
  refine Late.take (i := 20) (d := some 42) (v := ?v20_84) rfl rfl (by kernel_rfl) (by kernel_rfl) (by kernel_rfl) (by kernel_rfl) hQ (Or.inl ⟨by rfl, ?y20_84⟩) ?r20_84
  case y20_84 =>
    intro w' hSw
    have k00 := (bx.ext hSw).c4
    have k10 := (by_.ext hSw).c4
    have k20 := (bz.ext hSw).c4
    go_simp
    try with_reducible rfl
  try simp only [Act.put]
  try simp only [List.setIfInBounds_toArray]
  try simp only [List.set_cons_succ]
  try simp only [List.set_cons_zero]
  refine Late.take (i := 21) (d := some 43) (v := ?v21_85) rfl rfl (by kernel_rfl) (by kernel_rfl) (by kernel_rfl) (by kernel_rfl) hQ (Or.inl ⟨by rfl, ?y21_85⟩) ?r21_85
  case y21_85 =>
    intro w' hSw
    have k00 := (bx.ext hSw).c4
    have k10 := (by_.ext hSw).c4
    have k20 := (bz.ext hSw).c4
    go_simp
    try with_reducible rfl
  try simp only [Act.put]
  try simp only [List.setIfInBounds_toArray]
  try simp only [List.set_cons_succ]
  try simp only [List.set_cons_zero]
  refine Late.take (i := 22) (d := some 44) (v := ?v22_86) rfl rfl (by kernel_rfl) (by kernel_rfl) (by kernel_rfl) (by kernel_rfl) hQ (Or.inl ⟨by rfl, ?y22_86⟩) ?r22_86
  case y22_86 =>
    intro w' hSw
    have k00 := (bx.ext hSw).c4
    have k10 := (by_.ext hSw).c4
    have k20 := (bz.ext hSw).c4
    go_simp
    try with_reducible rfl
  try simp only [Act.put]
  try simp only [List.setIfInBounds_toArray]
  try simp only [List.set_cons_succ]
  try simp only [List.set_cons_zero]
  refine Late.take (i := 23) (d := some 45) (v := ?v23_87) rfl rfl (by kernel_rfl) (by kernel_rfl) (by kernel_rfl) (by kernel_rfl) hQ (Or.inl ⟨by rfl, ?y23_87⟩) ?r23_87
  case y23_87 =>
    intro w' hSw
    have k00 := (bx.ext hSw).c4
    have k10 := (by_.ext hSw).c4
    have k20 := (bz.ext hSw).c4
    go_simp
    try with_reducible rfl
  try simp only [Act.put]
  try simp only [List.setIfInBounds_toArray]
  try simp only [List.set_cons_succ]
  try simp only [List.set_cons_zero]
  refine Late.call (i := 24) rfl (by kernel_rfl) hAl (by kernel_rfl) (by kernel_rfl) (by kernel_rfl) hQ (fun w24 e24 E24 K hK => ?_)
  go_simp
  (go_at_call 30; refine (p_SubR (h.ext E24) (k.ext E24) (by omega) (by omega) (by omega) (hT.ext (extW.trans E24))).mono ?_; rintro e wk24 ⟨s6_, A6_, n6_, c6_, t6_, B6_, m6_, d6_, rfl, r1, hx24⟩)
  refine hK.out _ _ hx24 ?_
  clear hK K
  try simp only [Act.put]
  try simp only [List.setIfInBounds_toArray]
  try simp only [List.set_cons_succ]
  try simp only [List.set_cons_zero]
  refine Late.call (i := 25) rfl (by kernel_rfl) hAl (by kernel_rfl) (by kernel_rfl) (by kernel_rfl) hQ (fun w25 e25 E25 K hK => ?_)
  go_simp
  (replace r1 := r1.ext e25; go_at_call 37; refine (p_SignR r1 (by omega)).mono ?_; rintro e wk25 ⟨rfl, hx25⟩; replace r1 := r1.ext hx25; rw [HD.out])
  refine hK.out _ _ hx25 ?_
  clear hK K
  try simp only [Act.put]
  try simp only [List.setIfInBounds_toArray]
  try simp only [List.set_cons_succ]
  try simp only [List.set_cons_zero]
  refine Late.take (i := 26) (d := some 48) (v := ?v26_88) rfl rfl (by kernel_rfl) (by kernel_rfl) (by kernel_rfl) (by kernel_rfl) hQ (Or.inl ⟨by rfl, ?y26_88⟩) ?r26_88
  case y26_88 =>
    intro w' hSw
    have k00 := (bx.ext hSw).c4
    have k10 := (by_.ext hSw).c4
    have k20 := (bz.ext hSw).c4
    go_simp
    try with_reducible rfl
  try simp only [Act.put]
  try simp only [List.setIfInBounds_toArray]
  try simp only [List.set_cons_succ]
  try simp only [List.set_cons_zero]
  refine Late.take (i := 27) (d := some 49) (v := ?v27_89) rfl rfl (by kernel_rfl) (by kernel_rfl) (by kernel_rfl) (by kernel_rfl) hQ (Or.inl ⟨by rfl, ?y27_89⟩) ?r27_89
  case y27_89 =>
    intro w' hSw
    have k00 := (bx.ext hSw).c4
    have k10 := (by_.ext hSw).c4
    have k20 := (bz.ext hSw).c4
    go_simp
    try with_reducible rfl
  try simp only [Act.put]
  try simp only [List.setIfInBounds_toArray]
  try simp only [List.set_cons_succ]
  try simp only [List.set_cons_zero]
  refine Late.done0 (by kernel_rfl) (fun wz ez Ez => ?_)
  clear hAl hQ ES
  replace bx := bx.ext Ez
  replace by_ := by_.ext Ez
  replace bz := bz.ext Ez
  replace h := h.ext Ez
  replace k := k.ext Ez
  replace j := j.ext Ez
  replace extW := extW.trans Ez
  clear Ez ez
  go_wp2_with fail
  have ES0 := Ext.refl wz
  refine wp_region_held_drew (S := Ext wz) (by kernel_rfl) ES0.drew (fun ES => ?_)
  clear ES0
  refine Late.start0 (fun _ _ _ _ _ => ⟨fun h => h, fun h => h⟩) ES (fun hAl hQ => ?_)
  refine Late.take (i := 0) (d := some 50) (v := ?v0_90) rfl rfl (by kernel_rfl) (by kernel_rfl) (by kernel_rfl) (by kernel_rfl) hQ (Or.inl ⟨by rfl, ?y0_90⟩) ?r0_90
  case y0_90 =>
    intro w' hSw
    have k00 := (bx.ext hSw).c4
    have k10 := (by_.ext hSw).c4
    have k20 := (bz.ext hSw).c4
    go_simp
    try with_reducible rfl
  try simp only [Act.put]
  try simp only [List.setIfInBounds_toArray]
  try simp only [List.set_cons_succ]
  try simp only [List.set_cons_zero]
  refine Late.take (i := 1) (d := some 51) (v := ?v1_91) rfl rfl (by kernel_rfl) (by kernel_rfl) (by kernel_rfl) (by kernel_rfl) hQ (Or.inl ⟨by rfl, ?y1_91⟩) ?r1_91
  case y1_91 =>
    intro w' hSw
    have k00 := (bx.ext hSw).c4
    have k10 := (by_.ext hSw).c4
    have k20 := (bz.ext hSw).c4
    go_simp
    try with_reducible rfl
  try simp only [Act.put]
  try simp only [List.setIfInBounds_toArray]
  try simp only [List.set_cons_succ]
  try simp only [List.set_cons_zero]
  refine Late.take (i := 3) (d := some 53) (v := ?v3_92) rfl rfl (by kernel_rfl) (by kernel_rfl) (by kernel_rfl) (by kernel_rfl) hQ (Or.inl ⟨by rfl, ?y3_92⟩) ?r3_92
  case y3_92 =>
    intro w' hSw
    have k00 := (bx.ext hSw).c4
    have k10 := (by_.ext hSw).c4
    have k20 := (bz.ext hSw).c4
    go_simp
    try with_reducible rfl
  try simp only [Act.put]
  try simp only [List.setIfInBounds_toArray]
  try simp only [List.set_cons_succ]
  try simp only [List.set_cons_zero]
  refine Late.take (i := 4) (d := some 54) (v := ?v4_93) rfl rfl (by kernel_rfl) (by kernel_rfl) (by kernel_rfl) (by kernel_rfl) hQ (Or.inl ⟨by rfl, ?y4_93⟩) ?r4_93
  case y4_93 =>
    intro w' hSw
    have k00 := (bx.ext hSw).c4
    have k10 := (by_.ext hSw).c4
    have k20 := (bz.ext hSw).c4
    go_simp
    try with_reducible rfl
  try simp only [Act.put]
  try simp only [List.setIfInBounds_toArray]
  try simp only [List.set_cons_succ]
  try simp only [List.set_cons_zero]
  refine Late.take (i := 7) (d := some 57) (v := ?v7_94) rfl rfl (by kernel_rfl) (by kernel_rfl) (by kernel_rfl) (by kernel_rfl) hQ (Or.inl ⟨by rfl, ?y7_94⟩) ?r7_94
  case y7_94 =>
    intro w' hSw
    have k00 := (bx.ext hSw).c4
    have k10 := (by_.ext hSw).c4
    have k20 := (bz.ext hSw).c4
    go_simp
    try with_reducible rfl
  try simp only [Act.put]
  try simp only [List.setIfInBounds_toArray]
  try simp only [List.set_cons_succ]
  try simp only [List.set_cons_zero]
  refine Late.call (i := 2) rfl (by kernel_rfl) hAl (by kernel_rfl) (by kernel_rfl) (by kernel_rfl) hQ (fun w2 e2 E2 K hK => ?_)
  go_simp
  (go_at_call 28; refine (p_AddR (h.ext E2) (j.ext E2) (by omega) (by omega) (by omega) (hT.ext (extW.trans E2))).mono ?_; rintro e wk2 ⟨s7_, A7_, n7_, c7_, t7_, B7_, m7_, d7_, rfl, r1, hx2⟩)
  refine hK.out _ _ hx2 ?_
  clear hK K
  try simp only [Act.put]
  try simp only [List.setIfInBounds_toArray]
  try simp only [List.set_cons_succ]
  try simp only [List.set_cons_zero]
  refine Late.call (i := 5) rfl (by kernel_rfl) hAl (by kernel_rfl) (by kernel_rfl) (by kernel_rfl) hQ (fun w5 e5 E5 K hK => ?_)
  go_simp
  (replace r1 := r1.ext e5; go_at_call 28; refine (p_AddR (k.ext E5) (j.ext E5) (by omega) (by omega) (by omega) (hT.ext (extW.trans E5))).mono ?_; rintro e wk5 ⟨s8_, A8_, n8_, c8_, t8_, B8_, m8_, d8_, rfl, r2, hx5⟩; replace r1 := r1.ext hx5)
  refine hK.out _ _ hx5 ?_
  clear hK K
  try simp only [Act.put]
  try simp only [List.setIfInBounds_toArray]
  try simp only [List.set_cons_succ]
  try simp only [List.set_cons_zero]
  refine Late.call (i := 6) rfl (by kernel_rfl) hAl (by kernel_rfl) (by kernel_rfl) (by kernel_rfl) hQ (fun w6 e6 E6 K hK => ?_)
  go_simp
  (replace r1 := r1.ext e6; replace r2 := r2.ext e6; go_at_call 36; refine (p_CmpR r1 r2 (by omega) (by omega) (by omega)).mono ?_; rintro e wk6 ⟨rfl, hx6⟩; replace r1 := r1.ext hx6; replace r2 := r2.ext hx6; rw [HA1.out])
  refine hK.out _ _ hx6 ?_
  clear hK K
  try simp only [Act.put]
  try simp only [List.setIfInBounds_toArray]
  try simp only [List.set_cons_succ]
  try simp only [List.set_cons_zero]
  refine Late.take (i := 8) (d := some 58) (v := ?v8_95) rfl rfl (by kernel_rfl) (by kernel_rfl) (by kernel_rfl) (by kernel_rfl) hQ (Or.inl ⟨by rfl, ?y8_95⟩) ?r8_95
  case y8_95 =>
    intro w' hSw
    have k00 := (bx.ext hSw).c4
    have k10 := (by_.ext hSw).c4
    have k20 := (bz.ext hSw).c4
    go_simp
    try with_reducible rfl
  try simp only [Act.put]
  try simp only [List.setIfInBounds_toArray]
  try simp only [List.set_cons_succ]
  try simp only [List.set_cons_zero]
  refine Late.take (i := 9) (d := some 59) (v := ?v9_96) rfl rfl (by kernel_rfl) (by kernel_rfl) (by kernel_rfl) (by kernel_rfl) hQ (Or.inl ⟨by rfl, ?y9_96⟩) ?r9_96
  case y9_96 =>
    intro w' hSw
    have k00 := (bx.ext hSw).c4
    have k10 := (by_.ext hSw).c4
    have k20 := (bz.ext hSw).c4
    go_simp
    try with_reducible rfl
  try simp only [Act.put]
  try simp only [List.setIfInBounds_toArray]
  try simp only [List.set_cons_succ]
  try simp only [List.set_cons_zero]
  refine Late.take (i := 10) (d := some 60) (v := ?v10_97) rfl rfl (by kernel_rfl) (by kernel_rfl) (by kernel_rfl) (by kernel_rfl) hQ (Or.inl ⟨by rfl, ?y10_97⟩) ?r10_97
  case y10_97 =>
    intro w' hSw
    have k00 := (bx.ext hSw).c4
    have k10 := (by_.ext hSw).c4
    have k20 := (bz.ext hSw).c4
    go_simp
    try with_reducible rfl
  try simp only [Act.put]
  try simp only [List.setIfInBounds_toArray]
  try simp only [List.set_cons_succ]
  try simp only [List.set_cons_zero]
  refine Late.take (i := 11) (d := some 61) (v := ?v11_98) rfl rfl (by kernel_rfl) (by kernel_rfl) (by kernel_rfl) (by kernel_rfl) hQ (Or.inl ⟨by rfl, ?y11_98⟩) ?r11_98
  case y11_98 =>
    intro w' hSw
    have k00 := (bx.ext hSw).c4
    have k10 := (by_.ext hSw).c4
    have k20 := (bz.ext hSw).c4
    go_simp
    try with_reducible rfl
  try simp only [Act.put]
  try simp only [List.setIfInBounds_toArray]
  try simp only [List.set_cons_succ]
  try simp only [List.set_cons_zero]
  refine Late.take (i := 13) (d := some 63) (v := ?v13_99) rfl rfl (by kernel_rfl) (by kernel_rfl) (by kernel_rfl) (by kernel_rfl) hQ (Or.inl ⟨by rfl, ?y13_99⟩) ?r13_99
  case y13_99 =>
    intro w' hSw
    have k00 := (bx.ext hSw).c4
    have k10 := (by_.ext hSw).c4
    have k20 := (bz.ext hSw).c4
    go_simp
    try with_reducible rfl
  try simp only [Act.put]
  try simp only [List.setIfInBounds_toArray]
  try simp only [List.set_cons_succ]
  try simp only [List.set_cons_zero]
  refine Late.take (i := 14) (d := some 64) (v := ?v14_100) rfl rfl (by kernel_rfl) (by kernel_rfl) (by kernel_rfl) (by kernel_rfl) hQ (Or.inl ⟨by rfl, ?y14_100⟩) ?r14_100
  case y14_100 =>
    intro w' hSw
    have k00 := (bx.ext hSw).c4
    have k10 := (by_.ext hSw).c4
    have k20 := (bz.ext hSw).c4
    go_simp
    try with_reducible rfl
  try simp only [Act.put]
  try simp only [List.setIfInBounds_toArray]
  try simp only [List.set_cons_succ]
  try simp only [List.set_cons_zero]
  refine Late.take (i := 17) (d := some 67) (v := ?v17_101) rfl rfl (by kernel_rfl) (by kernel_rfl) (by kernel_rfl) (by kernel_rfl) hQ (Or.inl ⟨by rfl, ?y17_101⟩) ?r17_101
  case y17_101 =>
    intro w' hSw
    have k00 := (bx.ext hSw).c4
    have k10 := (by_.ext hSw).c4
    have k20 := (bz.ext hSw).c4
    go_simp
    try with_reducible rfl
  try simp only [Act.put]
  try simp only [List.setIfInBounds_toArray]
  try simp only [List.set_cons_succ]
  try simp only [List.set_cons_zero]
  refine Late.take (i := 18) (d := some 68) (v := ?v18_102) rfl rfl (by kernel_rfl) (by kernel_rfl) (by kernel_rfl) (by kernel_rfl) hQ (Or.inl ⟨by rfl, ?y18_102⟩) ?r18_102
  case y18_102 =>
    intro w' hSw
    have k00 := (bx.ext hSw).c4
    have k10 := (by_.ext hSw).c4
    have k20 := (bz.ext hSw).c4
    go_simp
    try with_reducible rfl
  try simp only [Act.put]
  try simp only [List.setIfInBounds_toArray]
  try simp only [List.set_cons_succ]
  try simp only [List.set_cons_zero]
  refine Late.call (i := 12) rfl (by kernel_rfl) hAl (by kernel_rfl) (by kernel_rfl) (by kernel_rfl) hQ (fun w12 e12 E12 K hK => ?_)
  go_simp
  (replace r1 := r1.ext e12; replace r2 := r2.ext e12; go_at_call 34; refine (p_MulR (h.ext E12) (j.ext E12) (by omega) (by omega) (by omega) (hT.ext (extW.trans E12))).mono ?_; rintro e wk12 ⟨s9_, A9_, n9_, c9_, t9_, B9_, m9_, d9_, rfl, r3, hx12⟩; replace r1 := r1.ext hx12; replace r2 := r2.ext hx12)
  refine hK.out _ _ hx12 ?_
  clear hK K
  try simp only [Act.put]
  try simp only [List.setIfInBounds_toArray]
  try simp only [List.set_cons_succ]
  try simp only [List.set_cons_zero]
  refine Late.call (i := 15) rfl (by kernel_rfl) hAl (by kernel_rfl) (by kernel_rfl) (by kernel_rfl) hQ (fun w15 e15 E15 K hK => ?_)
  go_simp
  (replace r1 := r1.ext e15; replace r2 := r2.ext e15; replace r3 := r3.ext e15; go_at_call 34; refine (p_MulR (k.ext E15) (j.ext E15) (by omega) (by omega) (by omega) (hT.ext (extW.trans E15))).mono ?_; rintro e wk15 ⟨s10_, A10_, n10_, c10_, t10_, B10_, m10_, d10_, rfl, r4, hx15⟩; replace r1 := r1.ext hx15; replace r2 := r2.ext hx15; replace r3 := r3.ext hx15)
  refine hK.out _ _ hx15 ?_
  clear hK K
  try simp only [Act.put]
  try simp only [List.setIfInBounds_toArray]
  try simp only [List.set_cons_succ]
  try simp only [List.set_cons_zero]
  refine Late.call (i := 16) rfl (by kernel_rfl) hAl (by kernel_rfl) (by kernel_rfl) (by kernel_rfl) hQ (fun w16 e16 E16 K hK => ?_)
  go_simp
  (replace r1 := r1.ext e16; replace r2 := r2.ext e16; replace r3 := r3.ext e16; replace r4 := r4.ext e16; go_at_call 36; refine (p_CmpR r3 r4 (by omega) (by omega) (by omega)).mono ?_; rintro e wk16 ⟨rfl, hx16⟩; replace r1 := r1.ext hx16; replace r2 := r2.ext hx16; replace r3 := r3.ext hx16; replace r4 := r4.ext hx16; rw [HM1.out])
  refine hK.out _ _ hx16 ?_
  clear hK K
  try simp only [Act.put]
  try simp only [List.setIfInBounds_toArray]
  try simp only [List.set_cons_succ]
  try simp only [List.set_cons_zero]
  refine Late.call (i := 19) rfl (by kernel_rfl) hAl (by kernel_rfl) (by kernel_rfl) (by kernel_rfl) hQ (fun w19 e19 E19 K hK => ?_)
  go_simp
  (replace r1 := r1.ext e19; replace r2 := r2.ext e19; replace r3 := r3.ext e19; replace r4 := r4.ext e19; go_at_call 37; refine (p_SignR (j.ext E19) (by omega)).mono ?_; rintro e wk19 ⟨rfl, hx19⟩; replace r1 := r1.ext hx19; replace r2 := r2.ext hx19; replace r3 := r3.ext hx19; replace r4 := r4.ext hx19; rw [HT.out])
  refine hK.out _ _ hx19 ?_
  clear hK K
  try simp only [Act.put]
  try simp only [List.setIfInBounds_toArray]
  try simp only [List.set_cons_succ]
  try simp only [List.set_cons_zero]
  refine Late.take (i := 20) (d := some 70) (v := ?v20_103) rfl rfl (by kernel_rfl) (by kernel_rfl) (by kernel_rfl) (by kernel_rfl) hQ (Or.inl ⟨by rfl, ?y20_103⟩) ?r20_103
  case y20_103 =>
    intro w' hSw
    have k00 := (bx.ext hSw).c4
    have k10 := (by_.ext hSw).c4
    have k20 := (bz.ext hSw).c4
    go_simp
    try with_reducible rfl
  try simp only [Act.put]
  try simp only [List.setIfInBounds_toArray]
  try simp only [List.set_cons_succ]
  try simp only [List.set_cons_zero]
  refine Late.take (i := 21) (d := some 71) (v := ?v21_104) rfl rfl (by kernel_rfl) (by kernel_rfl) (by kernel_rfl) (by kernel_rfl) hQ (Or.inl ⟨by rfl, ?y21_104⟩) ?r21_104
  case y21_104 =>
    intro w' hSw
    have k00 := (bx.ext hSw).c4
    have k10 := (by_.ext hSw).c4
    have k20 := (bz.ext hSw).c4
    go_simp
    try with_reducible rfl
  try simp only [Act.put]
  try simp only [List.setIfInBounds_toArray]
  try simp only [List.set_cons_succ]
  try simp only [List.set_cons_zero]
  refine Late.take (i := 22) (d := some 72) (v := ?v22_105) rfl rfl (by kernel_rfl) (by kernel_rfl) (by kernel_rfl) (by kernel_rfl) hQ (Or.inl ⟨by rfl, ?y22_105⟩) ?r22_105
  case y22_105 =>
    intro w' hSw
    have k00 := (bx.ext hSw).c4
    have k10 := (by_.ext hSw).c4
    have k20 := (bz.ext hSw).c4
    go_simp
    try with_reducible rfl
  try simp only [Act.put]
  try simp only [List.setIfInBounds_toArray]
  try simp only [List.set_cons_succ]
  try simp only [List.set_cons_zero]
  refine Late.take (i := 23) (d := some 6) (v := ?v23_106) rfl rfl (by kernel_rfl) (by kernel_rfl) (by kernel_rfl) (by kernel_rfl) hQ (Or.inl ⟨by rfl, ?y23_106⟩) ?r23_106
  case y23_106 =>
    intro w' hSw
    have k00 := (bx.ext hSw).c4
    have k10 := (by_.ext hSw).c4
    have k20 := (bz.ext hSw).c4
    go_simp
    try with_reducible rfl
  try simp only [Act.put]
  try simp only [List.setIfInBounds_toArray]
  try simp only [List.set_cons_succ]
  try simp only [List.set_cons_zero]
  refine Late.done0 (by kernel_rfl) (fun wy ez Ez => ?_)
  clear hAl hQ ES
  go_wp2_with fail
  go_ret
  exact ⟨rfl, extW.trans Ez⟩
set_option maxHeartbeats 16000000 in
set_option maxRecDepth 100000 in
theorem order_mp (hA : Awake2) (hT : Tab w) (hP : TabP w) (h : NR w q 20 s A n c t B m d) (k : NR w p 20 s' A' n' c' t' B' m' d') (j : NR w r 20 u C l e0 u' D l' e') (hS : ratCmp q p = -1) (hC : r.num.sign = 1) :
    Calls Tryz.prog 6 #[.agg #[.bool s, .slice A n c, .bool t, .slice B m d], .agg #[.bool s', .slice A' n' c', .bool t', .slice B' m' d'], .agg #[.bool u, .slice C l e0, .bool u', .slice D l' e']] w fun e w' => e = .returned (.bool true) ∧ Ext w w' := by
  have HS := Lib.hid hS
  have HT := Lib.hid hC
  have HN := Lib.hid (show ratCmp p q = 1 by rw [ratCmp_swap, hS]; try rfl)
  have HD := Lib.hid (show (q - p).num.sign = -1 by rw [ratCmp_sub, hS])
  have HA1 := Lib.hid (show ratCmp (q + r) (p + r) = -1 by rw [ratCmp_add, hS])
  have HM1 := Lib.hid (show ratCmp (q * r) (p * r) = -1 by rw [ratCmp_mul, hS, hC]; rfl)
  have hw0 : IntKind.i64.wrap 0 = 0 := by decide
  have hw1 : IntKind.i64.wrap 1 = 1 := by decide
  have hw2 : IntKind.i64.wrap (-1) = -1 := by decide
  clear hS hC
  obtain ⟨xs, ys, ra0, rb0, hv0, hn0, hm0, _⟩ := h.raw
  obtain ⟨xs', ys', ra1, rb1, hv1, hn1, hm1, _⟩ := k.raw
  obtain ⟨zs, zs', ra2, rb2, hv2, hn2, hm2, _⟩ := j.raw
  have HF := Lib.hid (show (fewB n m s xs t ys && (fewB n' m' s' xs' t' ys' && (fewB l l' u zs u' zs'))) = true by unfold fewB; rw [decide_eq_true hn0, decide_eq_true hm0, hv0, decide_eq_true hn1, decide_eq_true hm1, hv1, decide_eq_true hn2, decide_eq_true hm2, hv2]; rfl)
  have hr0 := And.intro ra0 rb0
  have hr1 := And.intro ra1 rb1
  have hr2 := And.intro ra2 rb2
  clear ra0 rb0 hv0 hn0 hm0 ra1 rb1 hv1 hn1 hm1 ra2 rb2 hv2 hn2 hm2
  have HA := Lib.hid hA
  clear hA
  go_enter Tryz.func6, Tryz.ntmps6
  go_upto_region 1 with (fail)
  obtain ⟨W0, hW, extW, bx, by_, bz, hzz⟩ := box3 w 27 27 27 #[.bool s, .slice A n c, .bool t, .slice B m d] #[.bool s', .slice A' n' c', .bool t', .slice B' m' d'] #[.bool u, .slice C l e0, .bool u', .slice D l' e']
  rw [← hW]
  clear hW hzz
  go_wp2_with fail
  refine (HA.out _ (hT.ext extW) (hP.ext extW)).mono ?_
  rintro e W ⟨rfl, hxt⟩
  replace extW := extW.trans hxt
  replace bx := bx.ext hxt
  replace by_ := by_.ext hxt
  replace bz := bz.ext hxt
  clear hxt
  have bx0 := bx.cell 0 (.bool s) rfl
  have bx1 := bx.cell 1 (.slice A n c) rfl
  have bx2 := bx.cell 2 (.bool t) rfl
  have bx3 := bx.cell 3 (.slice B m d) rfl
  have by_0 := by_.cell 0 (.bool s') rfl
  have by_1 := by_.cell 1 (.slice A' n' c') rfl
  have by_2 := by_.cell 2 (.bool t') rfl
  have by_3 := by_.cell 3 (.slice B' m' d') rfl
  have bz0 := bz.cell 0 (.bool u) rfl
  have bz1 := bz.cell 1 (.slice C l e0) rfl
  have bz2 := bz.cell 2 (.bool u') rfl
  have bz3 := bz.cell 3 (.slice D l' e') rfl
  have hnb := Box.new W 27 #[.bool s, .slice A n c, .bool t, .slice B m d, .bool s', .slice A' n' c', .bool t', .slice B' m' d', .bool u, .slice C l e0, .bool u', .slice D l' e']
  have e1 := (Ext.refl W).alloc (.cells #[.bool s, .slice A n c, .bool t, .slice B m d, .bool s', .slice A' n' c', .bool t', .slice B' m' d', .bool u, .slice C l e0, .bool u', .slice D l' e'] 27)
  go_wp2_with fail
  refine (few3 hnb (hr0.1.ext (extW.trans e1)) (hr0.2.ext (extW.trans e1)) (hr1.1.ext (extW.trans e1)) (hr1.2.ext (extW.trans e1)) (hr2.1.ext (extW.trans e1)) (hr2.2.ext (extW.trans e1))).mono ?_
  rintro e W1 ⟨rfl, hxt⟩
  rw [HF.out]
  have ES := e1.trans hxt
  clear hnb e1 hxt
  clear bx0 bx1 bx2 bx3 by_0 by_1 by_2 by_3 bz0 bz1 bz2 bz3
  clear hr0 hr1 hr2 HF
  replace bx := bx.ext ES
  replace by_ := by_.ext ES
  replace bz := bz.ext ES
  replace extW := extW.trans ES
  replace h := h.ext extW
  replace k := k.ext extW
  replace j := j.ext extW
  clear ES
  have bx0 := bx.cell 0 (.bool s) rfl
  have bx1 := bx.cell 1 (.slice A n c) rfl
  have bx2 := bx.cell 2 (.bool t) rfl
  have bx3 := bx.cell 3 (.slice B m d) rfl
  have by_0 := by_.cell 0 (.bool s') rfl
  have by_1 := by_.cell 1 (.slice A' n' c') rfl
  have by_2 := by_.cell 2 (.bool t') rfl
  have by_3 := by_.cell 3 (.slice B' m' d') rfl
  go_wp2_with fail
  refine (p_CmpR h k (by omega) (by omega) (by omega)).mono ?_
  rintro e V ⟨rfl, hxd⟩
  rw [HS.out]
  replace bx := bx.ext hxd
  replace by_ := by_.ext hxd
  replace bz := bz.ext hxd
  replace h := h.ext hxd
  replace k := k.ext hxd
  replace j := j.ext hxd
  replace extW := extW.trans hxd
  clear hxd
  clear bx0 bx1 bx2 bx3 by_0 by_1 by_2 by_3
  go_wp2_with fail
  have ES0 := Ext.refl V
  refine wp_region_held_drew (S := Ext V) (by kernel_rfl) ES0.drew (fun ES => ?_)
  clear ES0
  refine Late.start0 (fun _ _ _ _ _ => ⟨fun h => h, fun h => h⟩) ES (fun hAl hQ => ?_)
  refine Late.take (i := 0) (d := some 22) (v := ?v0_107) rfl rfl (by kernel_rfl) (by kernel_rfl) (by kernel_rfl) (by kernel_rfl) hQ (Or.inl ⟨by rfl, ?y0_107⟩) ?r0_107
  case y0_107 =>
    intro w' hSw
    have k00 := (bx.ext hSw).c4
    have k10 := (by_.ext hSw).c4
    have k20 := (bz.ext hSw).c4
    go_simp
    try with_reducible rfl
  try simp only [Act.put]
  try simp only [List.setIfInBounds_toArray]
  try simp only [List.set_cons_succ]
  try simp only [List.set_cons_zero]
  refine Late.take (i := 2) (d := some 24) (v := ?v2_108) rfl rfl (by kernel_rfl) (by kernel_rfl) (by kernel_rfl) (by kernel_rfl) hQ (Or.inl ⟨by rfl, ?y2_108⟩) ?r2_108
  case y2_108 =>
    intro w' hSw
    have k00 := (bx.ext hSw).c4
    have k10 := (by_.ext hSw).c4
    have k20 := (bz.ext hSw).c4
    go_simp
    try with_reducible rfl
  try simp only [Act.put]
  try simp only [List.setIfInBounds_toArray]
  try simp only [List.set_cons_succ]
  try simp only [List.set_cons_zero]
  refine Late.call (i := 1) rfl (by kernel_rfl) hAl (by kernel_rfl) (by kernel_rfl) (by kernel_rfl) hQ (fun w1 e1 E1 K hK => ?_)
  go_simp
  (go_at_call 37; refine (p_SignR (h.ext E1) (by omega)).mono ?_; rintro e wk1 ⟨rfl, hx1⟩)
  refine hK.out _ _ hx1 ?_
  clear hK K
  try simp only [Act.put]
  try simp only [List.setIfInBounds_toArray]
  try simp only [List.set_cons_succ]
  try simp only [List.set_cons_zero]
  refine Late.call (i := 3) rfl (by kernel_rfl) hAl (by kernel_rfl) (by kernel_rfl) (by kernel_rfl) hQ (fun w3 e3 E3 K hK => ?_)
  go_simp
  (go_at_call 38; refine (q_SignR (h.ext E3) (by omega)).mono ?_; rintro e wk3 ⟨rfl, hx3⟩)
  refine hK.out _ _ hx3 ?_
  clear hK K
  try simp only [Act.put]
  try simp only [List.setIfInBounds_toArray]
  try simp only [List.set_cons_succ]
  try simp only [List.set_cons_zero]
  refine Late.take (i := 4) (d := some 26) (v := ?v4_109) rfl rfl (by kernel_rfl) (by kernel_rfl) (by kernel_rfl) (by kernel_rfl) hQ (Or.inl ⟨by rfl, ?y4_109⟩) ?r4_109
  case y4_109 =>
    intro w' hSw
    have k00 := (bx.ext hSw).c4
    have k10 := (by_.ext hSw).c4
    have k20 := (bz.ext hSw).c4
    go_simp
    try with_reducible rfl
  try simp only [Act.put]
  try simp only [List.setIfInBounds_toArray]
  try simp only [List.set_cons_succ]
  try simp only [List.set_cons_zero]
  refine Late.take (i := 5) (d := some 27) (v := ?v5_110) rfl rfl (by kernel_rfl) (by kernel_rfl) (by kernel_rfl) (by kernel_rfl) hQ (Or.inl ⟨by rfl, ?y5_110⟩) ?r5_110
  case y5_110 =>
    intro w' hSw
    have k00 := (bx.ext hSw).c4
    have k10 := (by_.ext hSw).c4
    have k20 := (bz.ext hSw).c4
    go_simp
    try with_reducible rfl
  try simp only [Act.put]
  try simp only [List.setIfInBounds_toArray]
  try simp only [List.set_cons_succ]
  try simp only [List.set_cons_zero]
  refine Late.take (i := 6) (d := some 28) (v := ?v6_111) rfl rfl (by kernel_rfl) (by kernel_rfl) (by kernel_rfl) (by kernel_rfl) hQ (Or.inl ⟨by rfl, ?y6_111⟩) ?r6_111
  case y6_111 =>
    intro w' hSw
    have k00 := (bx.ext hSw).c4
    have k10 := (by_.ext hSw).c4
    have k20 := (bz.ext hSw).c4
    go_simp
    try with_reducible rfl
  try simp only [Act.put]
  try simp only [List.setIfInBounds_toArray]
  try simp only [List.set_cons_succ]
  try simp only [List.set_cons_zero]
  refine Late.take (i := 7) (d := some 29) (v := ?v7_112) rfl rfl (by kernel_rfl) (by kernel_rfl) (by kernel_rfl) (by kernel_rfl) hQ (Or.inl ⟨by rfl, ?y7_112⟩) ?r7_112
  case y7_112 =>
    intro w' hSw
    have k00 := (bx.ext hSw).c4
    have k10 := (by_.ext hSw).c4
    have k20 := (bz.ext hSw).c4
    go_simp
    try with_reducible rfl
  try simp only [Act.put]
  try simp only [List.setIfInBounds_toArray]
  try simp only [List.set_cons_succ]
  try simp only [List.set_cons_zero]
  refine Late.take (i := 8) (d := some 30) (v := ?v8_113) rfl rfl (by kernel_rfl) (by kernel_rfl) (by kernel_rfl) (by kernel_rfl) hQ (Or.inl ⟨by rfl, ?y8_113⟩) ?r8_113
  case y8_113 =>
    intro w' hSw
    have k00 := (bx.ext hSw).c4
    have k10 := (by_.ext hSw).c4
    have k20 := (bz.ext hSw).c4
    go_simp
    try with_reducible rfl
  try simp only [Act.put]
  try simp only [List.setIfInBounds_toArray]
  try simp only [List.set_cons_succ]
  try simp only [List.set_cons_zero]
  refine Late.call (i := 9) rfl (by kernel_rfl) hAl (by kernel_rfl) (by kernel_rfl) (by kernel_rfl) hQ (fun w9 e9 E9 K hK => ?_)
  go_simp
  (go_at_call 39; refine (q_CmpR (h.ext E9) (k.ext E9) (by omega) (by omega)).mono ?_; rintro e wk9 ⟨rfl, hx9⟩; rw [HS.out])
  refine hK.out _ _ hx9 ?_
  clear hK K
  try simp only [Act.put]
  try simp only [List.setIfInBounds_toArray]
  try simp only [List.set_cons_succ]
  try simp only [List.set_cons_zero]
  refine Late.take (i := 10) (d := some 32) (v := ?v10_114) rfl rfl (by kernel_rfl) (by kernel_rfl) (by kernel_rfl) (by kernel_rfl) hQ (Or.inl ⟨by rfl, ?y10_114⟩) ?r10_114
  case y10_114 =>
    intro w' hSw
    have k00 := (bx.ext hSw).c4
    have k10 := (by_.ext hSw).c4
    have k20 := (bz.ext hSw).c4
    go_simp
    try with_reducible rfl
  try simp only [Act.put]
  try simp only [List.setIfInBounds_toArray]
  try simp only [List.set_cons_succ]
  try simp only [List.set_cons_zero]
  refine Late.take (i := 11) (d := some 33) (v := ?v11_115) rfl rfl (by kernel_rfl) (by kernel_rfl) (by kernel_rfl) (by kernel_rfl) hQ (Or.inl ⟨by rfl, ?y11_115⟩) ?r11_115
  case y11_115 =>
    intro w' hSw
    have k00 := (bx.ext hSw).c4
    have k10 := (by_.ext hSw).c4
    have k20 := (bz.ext hSw).c4
    go_simp
    try with_reducible rfl
  try simp only [Act.put]
  try simp only [List.setIfInBounds_toArray]
  try simp only [List.set_cons_succ]
  try simp only [List.set_cons_zero]
  refine Late.take (i := 12) (d := some 34) (v := ?v12_116) rfl rfl (by kernel_rfl) (by kernel_rfl) (by kernel_rfl) (by kernel_rfl) hQ (Or.inl ⟨by rfl, ?y12_116⟩) ?r12_116
  case y12_116 =>
    intro w' hSw
    have k00 := (bx.ext hSw).c4
    have k10 := (by_.ext hSw).c4
    have k20 := (bz.ext hSw).c4
    go_simp
    try with_reducible rfl
  try simp only [Act.put]
  try simp only [List.setIfInBounds_toArray]
  try simp only [List.set_cons_succ]
  try simp only [List.set_cons_zero]
  refine Late.take (i := 13) (d := some 35) (v := ?v13_117) rfl rfl (by kernel_rfl) (by kernel_rfl) (by kernel_rfl) (by kernel_rfl) hQ (Or.inl ⟨by rfl, ?y13_117⟩) ?r13_117
  case y13_117 =>
    intro w' hSw
    have k00 := (bx.ext hSw).c4
    have k10 := (by_.ext hSw).c4
    have k20 := (bz.ext hSw).c4
    go_simp
    try with_reducible rfl
  try simp only [Act.put]
  try simp only [List.setIfInBounds_toArray]
  try simp only [List.set_cons_succ]
  try simp only [List.set_cons_zero]
  refine Late.take (i := 14) (d := some 36) (v := ?v14_118) rfl rfl (by kernel_rfl) (by kernel_rfl) (by kernel_rfl) (by kernel_rfl) hQ (Or.inl ⟨by rfl, ?y14_118⟩) ?r14_118
  case y14_118 =>
    intro w' hSw
    have k00 := (bx.ext hSw).c4
    have k10 := (by_.ext hSw).c4
    have k20 := (bz.ext hSw).c4
    go_simp
    try with_reducible rfl
  try simp only [Act.put]
  try simp only [List.setIfInBounds_toArray]
  try simp only [List.set_cons_succ]
  try simp only [List.set_cons_zero]
  refine Late.take (i := 15) (d := some 37) (v := ?v15_119) rfl rfl (by kernel_rfl) (by kernel_rfl) (by kernel_rfl) (by kernel_rfl) hQ (Or.inl ⟨by rfl, ?y15_119⟩) ?r15_119
  case y15_119 =>
    intro w' hSw
    have k00 := (bx.ext hSw).c4
    have k10 := (by_.ext hSw).c4
    have k20 := (bz.ext hSw).c4
    go_simp
    try with_reducible rfl
  try simp only [Act.put]
  try simp only [List.setIfInBounds_toArray]
  try simp only [List.set_cons_succ]
  try simp only [List.set_cons_zero]
  refine Late.call (i := 16) rfl (by kernel_rfl) hAl (by kernel_rfl) (by kernel_rfl) (by kernel_rfl) hQ (fun w16 e16 E16 K hK => ?_)
  go_simp
  (go_at_call 36; refine (p_CmpR (k.ext E16) (h.ext E16) (by omega) (by omega) (by omega)).mono ?_; rintro e wk16 ⟨rfl, hx16⟩; rw [HN.out])
  refine hK.out _ _ hx16 ?_
  clear hK K
  try simp only [Act.put]
  try simp only [List.setIfInBounds_toArray]
  try simp only [List.set_cons_succ]
  try simp only [List.set_cons_zero]
  refine Late.take (i := 17) (d := some 39) (v := ?v17_120) rfl rfl (by kernel_rfl) (by kernel_rfl) (by kernel_rfl) (by kernel_rfl) hQ (Or.inl ⟨by rfl, ?y17_120⟩) ?r17_120
  case y17_120 =>
    intro w' hSw
    have k00 := (bx.ext hSw).c4
    have k10 := (by_.ext hSw).c4
    have k20 := (bz.ext hSw).c4
    go_simp
    try with_reducible rfl
  try simp only [Act.put]
  try simp only [List.setIfInBounds_toArray]
  try simp only [List.set_cons_succ]
  try simp only [List.set_cons_zero]
  refine Late.take (i := 18) (d := some 40) (v := ?v18_121) rfl rfl (by kernel_rfl) (by kernel_rfl) (by kernel_rfl) (by kernel_rfl) hQ (Or.inl ⟨by rfl, ?y18_121⟩) ?r18_121
  case y18_121 =>
    intro w' hSw
    have k00 := (bx.ext hSw).c4
    have k10 := (by_.ext hSw).c4
    have k20 := (bz.ext hSw).c4
    go_simp
    try with_reducible rfl
  try simp only [Act.put]
  try simp only [List.setIfInBounds_toArray]
  try simp only [List.set_cons_succ]
  try simp only [List.set_cons_zero]
  refine Late.take (i := 19) (d := some 41) (v := ?v19_122) rfl rfl (by kernel_rfl) (by kernel_rfl) (by kernel_rfl) (by kernel_rfl) hQ (Or.inl ⟨by rfl, ?y19_122⟩) ?r19_122
  case y19_122 =>
    intro w' hSw
    have k00 := (bx.ext hSw).c4
    have k10 := (by_.ext hSw).c4
    have k20 := (bz.ext hSw).c4
    go_simp
    try with_reducible rfl
  try simp only [Act.put]
  try simp only [List.setIfInBounds_toArray]
  try simp only [List.set_cons_succ]
  try simp only [List.set_cons_zero]
  refine Late.take (i := 20) (d := some 42) (v := ?v20_123) rfl rfl (by kernel_rfl) (by kernel_rfl) (by kernel_rfl) (by kernel_rfl) hQ (Or.inl ⟨by rfl, ?y20_123⟩) ?r20_123
  case y20_123 =>
    intro w' hSw
    have k00 := (bx.ext hSw).c4
    have k10 := (by_.ext hSw).c4
    have k20 := (bz.ext hSw).c4
    go_simp
    try with_reducible rfl
  try simp only [Act.put]
  try simp only [List.setIfInBounds_toArray]
  try simp only [List.set_cons_succ]
  try simp only [List.set_cons_zero]
  refine Late.take (i := 21) (d := some 43) (v := ?v21_124) rfl rfl (by kernel_rfl) (by kernel_rfl) (by kernel_rfl) (by kernel_rfl) hQ (Or.inl ⟨by rfl, ?y21_124⟩) ?r21_124
  case y21_124 =>
    intro w' hSw
    have k00 := (bx.ext hSw).c4
    have k10 := (by_.ext hSw).c4
    have k20 := (bz.ext hSw).c4
    go_simp
    try with_reducible rfl
  try simp only [Act.put]
  try simp only [List.setIfInBounds_toArray]
  try simp only [List.set_cons_succ]
  try simp only [List.set_cons_zero]
  refine Late.take (i := 22) (d := some 44) (v := ?v22_125) rfl rfl (by kernel_rfl) (by kernel_rfl) (by kernel_rfl) (by kernel_rfl) hQ (Or.inl ⟨by rfl, ?y22_125⟩) ?r22_125
  case y22_125 =>
    intro w' hSw
    have k00 := (bx.ext hSw).c4
    have k10 := (by_.ext hSw).c4
    have k20 := (bz.ext hSw).c4
    go_simp
    try with_reducible rfl
  try simp only [Act.put]
  try simp only [List.setIfInBounds_toArray]
  try simp only [List.set_cons_succ]
  try simp only [List.set_cons_zero]
  refine Late.take (i := 23) (d := some 45) (v := ?v23_126) rfl rfl (by kernel_rfl) (by kernel_rfl) (by kernel_rfl) (by kernel_rfl) hQ (Or.inl ⟨by rfl, ?y23_126⟩) ?r23_126
  case y23_126 =>
    intro w' hSw
    have k00 := (bx.ext hSw).c4
    have k10 := (by_.ext hSw).c4
    have k20 := (bz.ext hSw).c4
    go_simp
    try with_reducible rfl
  try simp only [Act.put]
  try simp only [List.setIfInBounds_toArray]
  try simp only [List.set_cons_succ]
  try simp only [List.set_cons_zero]
  refine Late.call (i := 24) rfl (by kernel_rfl) hAl (by kernel_rfl) (by kernel_rfl) (by kernel_rfl) hQ (fun w24 e24 E24 K hK => ?_)
  go_simp
  (go_at_call 30; refine (p_SubR (h.ext E24) (k.ext E24) (by omega) (by omega) (by omega) (hT.ext (extW.trans E24))).mono ?_; rintro e wk24 ⟨s11_, A11_, n11_, c11_, t11_, B11_, m11_, d11_, rfl, r1, hx24⟩)
  refine hK.out _ _ hx24 ?_
  clear hK K
  try simp only [Act.put]
  try simp only [List.setIfInBounds_toArray]
  try simp only [List.set_cons_succ]
  try simp only [List.set_cons_zero]
  refine Late.call (i := 25) rfl (by kernel_rfl) hAl (by kernel_rfl) (by kernel_rfl) (by kernel_rfl) hQ (fun w25 e25 E25 K hK => ?_)
  go_simp
  (replace r1 := r1.ext e25; go_at_call 37; refine (p_SignR r1 (by omega)).mono ?_; rintro e wk25 ⟨rfl, hx25⟩; replace r1 := r1.ext hx25; rw [HD.out])
  refine hK.out _ _ hx25 ?_
  clear hK K
  try simp only [Act.put]
  try simp only [List.setIfInBounds_toArray]
  try simp only [List.set_cons_succ]
  try simp only [List.set_cons_zero]
  refine Late.take (i := 26) (d := some 48) (v := ?v26_127) rfl rfl (by kernel_rfl) (by kernel_rfl) (by kernel_rfl) (by kernel_rfl) hQ (Or.inl ⟨by rfl, ?y26_127⟩) ?r26_127
  case y26_127 =>
    intro w' hSw
    have k00 := (bx.ext hSw).c4
    have k10 := (by_.ext hSw).c4
    have k20 := (bz.ext hSw).c4
    go_simp
    try with_reducible rfl
  try simp only [Act.put]
  try simp only [List.setIfInBounds_toArray]
  try simp only [List.set_cons_succ]
  try simp only [List.set_cons_zero]
  refine Late.take (i := 27) (d := some 49) (v := ?v27_128) rfl rfl (by kernel_rfl) (by kernel_rfl) (by kernel_rfl) (by kernel_rfl) hQ (Or.inl ⟨by rfl, ?y27_128⟩) ?r27_128
  case y27_128 =>
    intro w' hSw
    have k00 := (bx.ext hSw).c4
    have k10 := (by_.ext hSw).c4
    have k20 := (bz.ext hSw).c4
    go_simp
    try with_reducible rfl
  try simp only [Act.put]
  try simp only [List.setIfInBounds_toArray]
  try simp only [List.set_cons_succ]
  try simp only [List.set_cons_zero]
  refine Late.done0 (by kernel_rfl) (fun wz ez Ez => ?_)
  clear hAl hQ ES
  replace bx := bx.ext Ez
  replace by_ := by_.ext Ez
  replace bz := bz.ext Ez
  replace h := h.ext Ez
  replace k := k.ext Ez
  replace j := j.ext Ez
  replace extW := extW.trans Ez
  clear Ez ez
  go_wp2_with fail
  have ES0 := Ext.refl wz
  refine wp_region_held_drew (S := Ext wz) (by kernel_rfl) ES0.drew (fun ES => ?_)
  clear ES0
  refine Late.start0 (fun _ _ _ _ _ => ⟨fun h => h, fun h => h⟩) ES (fun hAl hQ => ?_)
  refine Late.take (i := 0) (d := some 50) (v := ?v0_129) rfl rfl (by kernel_rfl) (by kernel_rfl) (by kernel_rfl) (by kernel_rfl) hQ (Or.inl ⟨by rfl, ?y0_129⟩) ?r0_129
  case y0_129 =>
    intro w' hSw
    have k00 := (bx.ext hSw).c4
    have k10 := (by_.ext hSw).c4
    have k20 := (bz.ext hSw).c4
    go_simp
    try with_reducible rfl
  try simp only [Act.put]
  try simp only [List.setIfInBounds_toArray]
  try simp only [List.set_cons_succ]
  try simp only [List.set_cons_zero]
  refine Late.take (i := 1) (d := some 51) (v := ?v1_130) rfl rfl (by kernel_rfl) (by kernel_rfl) (by kernel_rfl) (by kernel_rfl) hQ (Or.inl ⟨by rfl, ?y1_130⟩) ?r1_130
  case y1_130 =>
    intro w' hSw
    have k00 := (bx.ext hSw).c4
    have k10 := (by_.ext hSw).c4
    have k20 := (bz.ext hSw).c4
    go_simp
    try with_reducible rfl
  try simp only [Act.put]
  try simp only [List.setIfInBounds_toArray]
  try simp only [List.set_cons_succ]
  try simp only [List.set_cons_zero]
  refine Late.take (i := 3) (d := some 53) (v := ?v3_131) rfl rfl (by kernel_rfl) (by kernel_rfl) (by kernel_rfl) (by kernel_rfl) hQ (Or.inl ⟨by rfl, ?y3_131⟩) ?r3_131
  case y3_131 =>
    intro w' hSw
    have k00 := (bx.ext hSw).c4
    have k10 := (by_.ext hSw).c4
    have k20 := (bz.ext hSw).c4
    go_simp
    try with_reducible rfl
  try simp only [Act.put]
  try simp only [List.setIfInBounds_toArray]
  try simp only [List.set_cons_succ]
  try simp only [List.set_cons_zero]
  refine Late.take (i := 4) (d := some 54) (v := ?v4_132) rfl rfl (by kernel_rfl) (by kernel_rfl) (by kernel_rfl) (by kernel_rfl) hQ (Or.inl ⟨by rfl, ?y4_132⟩) ?r4_132
  case y4_132 =>
    intro w' hSw
    have k00 := (bx.ext hSw).c4
    have k10 := (by_.ext hSw).c4
    have k20 := (bz.ext hSw).c4
    go_simp
    try with_reducible rfl
  try simp only [Act.put]
  try simp only [List.setIfInBounds_toArray]
  try simp only [List.set_cons_succ]
  try simp only [List.set_cons_zero]
  refine Late.take (i := 7) (d := some 57) (v := ?v7_133) rfl rfl (by kernel_rfl) (by kernel_rfl) (by kernel_rfl) (by kernel_rfl) hQ (Or.inl ⟨by rfl, ?y7_133⟩) ?r7_133
  case y7_133 =>
    intro w' hSw
    have k00 := (bx.ext hSw).c4
    have k10 := (by_.ext hSw).c4
    have k20 := (bz.ext hSw).c4
    go_simp
    try with_reducible rfl
  try simp only [Act.put]
  try simp only [List.setIfInBounds_toArray]
  try simp only [List.set_cons_succ]
  try simp only [List.set_cons_zero]
  refine Late.call (i := 2) rfl (by kernel_rfl) hAl (by kernel_rfl) (by kernel_rfl) (by kernel_rfl) hQ (fun w2 e2 E2 K hK => ?_)
  go_simp
  (go_at_call 28; refine (p_AddR (h.ext E2) (j.ext E2) (by omega) (by omega) (by omega) (hT.ext (extW.trans E2))).mono ?_; rintro e wk2 ⟨s12_, A12_, n12_, c12_, t12_, B12_, m12_, d12_, rfl, r1, hx2⟩)
  refine hK.out _ _ hx2 ?_
  clear hK K
  try simp only [Act.put]
  try simp only [List.setIfInBounds_toArray]
  try simp only [List.set_cons_succ]
  try simp only [List.set_cons_zero]
  refine Late.call (i := 5) rfl (by kernel_rfl) hAl (by kernel_rfl) (by kernel_rfl) (by kernel_rfl) hQ (fun w5 e5 E5 K hK => ?_)
  go_simp
  (replace r1 := r1.ext e5; go_at_call 28; refine (p_AddR (k.ext E5) (j.ext E5) (by omega) (by omega) (by omega) (hT.ext (extW.trans E5))).mono ?_; rintro e wk5 ⟨s13_, A13_, n13_, c13_, t13_, B13_, m13_, d13_, rfl, r2, hx5⟩; replace r1 := r1.ext hx5)
  refine hK.out _ _ hx5 ?_
  clear hK K
  try simp only [Act.put]
  try simp only [List.setIfInBounds_toArray]
  try simp only [List.set_cons_succ]
  try simp only [List.set_cons_zero]
  refine Late.call (i := 6) rfl (by kernel_rfl) hAl (by kernel_rfl) (by kernel_rfl) (by kernel_rfl) hQ (fun w6 e6 E6 K hK => ?_)
  go_simp
  (replace r1 := r1.ext e6; replace r2 := r2.ext e6; go_at_call 36; refine (p_CmpR r1 r2 (by omega) (by omega) (by omega)).mono ?_; rintro e wk6 ⟨rfl, hx6⟩; replace r1 := r1.ext hx6; replace r2 := r2.ext hx6; rw [HA1.out])
  refine hK.out _ _ hx6 ?_
  clear hK K
  try simp only [Act.put]
  try simp only [List.setIfInBounds_toArray]
  try simp only [List.set_cons_succ]
  try simp only [List.set_cons_zero]
  refine Late.take (i := 8) (d := some 58) (v := ?v8_134) rfl rfl (by kernel_rfl) (by kernel_rfl) (by kernel_rfl) (by kernel_rfl) hQ (Or.inl ⟨by rfl, ?y8_134⟩) ?r8_134
  case y8_134 =>
    intro w' hSw
    have k00 := (bx.ext hSw).c4
    have k10 := (by_.ext hSw).c4
    have k20 := (bz.ext hSw).c4
    go_simp
    try with_reducible rfl
  try simp only [Act.put]
  try simp only [List.setIfInBounds_toArray]
  try simp only [List.set_cons_succ]
  try simp only [List.set_cons_zero]
  refine Late.take (i := 9) (d := some 59) (v := ?v9_135) rfl rfl (by kernel_rfl) (by kernel_rfl) (by kernel_rfl) (by kernel_rfl) hQ (Or.inl ⟨by rfl, ?y9_135⟩) ?r9_135
  case y9_135 =>
    intro w' hSw
    have k00 := (bx.ext hSw).c4
    have k10 := (by_.ext hSw).c4
    have k20 := (bz.ext hSw).c4
    go_simp
    try with_reducible rfl
  try simp only [Act.put]
  try simp only [List.setIfInBounds_toArray]
  try simp only [List.set_cons_succ]
  try simp only [List.set_cons_zero]
  refine Late.take (i := 10) (d := some 60) (v := ?v10_136) rfl rfl (by kernel_rfl) (by kernel_rfl) (by kernel_rfl) (by kernel_rfl) hQ (Or.inl ⟨by rfl, ?y10_136⟩) ?r10_136
  case y10_136 =>
    intro w' hSw
    have k00 := (bx.ext hSw).c4
    have k10 := (by_.ext hSw).c4
    have k20 := (bz.ext hSw).c4
    go_simp
    try with_reducible rfl
  try simp only [Act.put]
  try simp only [List.setIfInBounds_toArray]
  try simp only [List.set_cons_succ]
  try simp only [List.set_cons_zero]
  refine Late.take (i := 11) (d := some 61) (v := ?v11_137) rfl rfl (by kernel_rfl) (by kernel_rfl) (by kernel_rfl) (by kernel_rfl) hQ (Or.inl ⟨by rfl, ?y11_137⟩) ?r11_137
  case y11_137 =>
    intro w' hSw
    have k00 := (bx.ext hSw).c4
    have k10 := (by_.ext hSw).c4
    have k20 := (bz.ext hSw).c4
    go_simp
    try with_reducible rfl
  try simp only [Act.put]
  try simp only [List.setIfInBounds_toArray]
  try simp only [List.set_cons_succ]
  try simp only [List.set_cons_zero]
  refine Late.take (i := 13) (d := some 63) (v := ?v13_138) rfl rfl (by kernel_rfl) (by kernel_rfl) (by kernel_rfl) (by kernel_rfl) hQ (Or.inl ⟨by rfl, ?y13_138⟩) ?r13_138
  case y13_138 =>
    intro w' hSw
    have k00 := (bx.ext hSw).c4
    have k10 := (by_.ext hSw).c4
    have k20 := (bz.ext hSw).c4
    go_simp
    try with_reducible rfl
  try simp only [Act.put]
  try simp only [List.setIfInBounds_toArray]
  try simp only [List.set_cons_succ]
  try simp only [List.set_cons_zero]
  refine Late.take (i := 14) (d := some 64) (v := ?v14_139) rfl rfl (by kernel_rfl) (by kernel_rfl) (by kernel_rfl) (by kernel_rfl) hQ (Or.inl ⟨by rfl, ?y14_139⟩) ?r14_139
  case y14_139 =>
    intro w' hSw
    have k00 := (bx.ext hSw).c4
    have k10 := (by_.ext hSw).c4
    have k20 := (bz.ext hSw).c4
    go_simp
    try with_reducible rfl
  try simp only [Act.put]
  try simp only [List.setIfInBounds_toArray]
  try simp only [List.set_cons_succ]
  try simp only [List.set_cons_zero]
  refine Late.take (i := 17) (d := some 67) (v := ?v17_140) rfl rfl (by kernel_rfl) (by kernel_rfl) (by kernel_rfl) (by kernel_rfl) hQ (Or.inl ⟨by rfl, ?y17_140⟩) ?r17_140
  case y17_140 =>
    intro w' hSw
    have k00 := (bx.ext hSw).c4
    have k10 := (by_.ext hSw).c4
    have k20 := (bz.ext hSw).c4
    go_simp
    try with_reducible rfl
  try simp only [Act.put]
  try simp only [List.setIfInBounds_toArray]
  try simp only [List.set_cons_succ]
  try simp only [List.set_cons_zero]
  refine Late.take (i := 18) (d := some 68) (v := ?v18_141) rfl rfl (by kernel_rfl) (by kernel_rfl) (by kernel_rfl) (by kernel_rfl) hQ (Or.inl ⟨by rfl, ?y18_141⟩) ?r18_141
  case y18_141 =>
    intro w' hSw
    have k00 := (bx.ext hSw).c4
    have k10 := (by_.ext hSw).c4
    have k20 := (bz.ext hSw).c4
    go_simp
    try with_reducible rfl
  try simp only [Act.put]
  try simp only [List.setIfInBounds_toArray]
  try simp only [List.set_cons_succ]
  try simp only [List.set_cons_zero]
  refine Late.call (i := 12) rfl (by kernel_rfl) hAl (by kernel_rfl) (by kernel_rfl) (by kernel_rfl) hQ (fun w12 e12 E12 K hK => ?_)
  go_simp
  (replace r1 := r1.ext e12; replace r2 := r2.ext e12; go_at_call 34; refine (p_MulR (h.ext E12) (j.ext E12) (by omega) (by omega) (by omega) (hT.ext (extW.trans E12))).mono ?_; rintro e wk12 ⟨s14_, A14_, n14_, c14_, t14_, B14_, m14_, d14_, rfl, r3, hx12⟩; replace r1 := r1.ext hx12; replace r2 := r2.ext hx12)
  refine hK.out _ _ hx12 ?_
  clear hK K
  try simp only [Act.put]
  try simp only [List.setIfInBounds_toArray]
  try simp only [List.set_cons_succ]
  try simp only [List.set_cons_zero]
  refine Late.call (i := 15) rfl (by kernel_rfl) hAl (by kernel_rfl) (by kernel_rfl) (by kernel_rfl) hQ (fun w15 e15 E15 K hK => ?_)
  go_simp
  (replace r1 := r1.ext e15; replace r2 := r2.ext e15; replace r3 := r3.ext e15; go_at_call 34; refine (p_MulR (k.ext E15) (j.ext E15) (by omega) (by omega) (by omega) (hT.ext (extW.trans E15))).mono ?_; rintro e wk15 ⟨s15_, A15_, n15_, c15_, t15_, B15_, m15_, d15_, rfl, r4, hx15⟩; replace r1 := r1.ext hx15; replace r2 := r2.ext hx15; replace r3 := r3.ext hx15)
  refine hK.out _ _ hx15 ?_
  clear hK K
  try simp only [Act.put]
  try simp only [List.setIfInBounds_toArray]
  try simp only [List.set_cons_succ]
  try simp only [List.set_cons_zero]
  refine Late.call (i := 16) rfl (by kernel_rfl) hAl (by kernel_rfl) (by kernel_rfl) (by kernel_rfl) hQ (fun w16 e16 E16 K hK => ?_)
  go_simp
  (replace r1 := r1.ext e16; replace r2 := r2.ext e16; replace r3 := r3.ext e16; replace r4 := r4.ext e16; go_at_call 36; refine (p_CmpR r3 r4 (by omega) (by omega) (by omega)).mono ?_; rintro e wk16 ⟨rfl, hx16⟩; replace r1 := r1.ext hx16; replace r2 := r2.ext hx16; replace r3 := r3.ext hx16; replace r4 := r4.ext hx16; rw [HM1.out])
  refine hK.out _ _ hx16 ?_
  clear hK K
  try simp only [Act.put]
  try simp only [List.setIfInBounds_toArray]
  try simp only [List.set_cons_succ]
  try simp only [List.set_cons_zero]
  refine Late.call (i := 19) rfl (by kernel_rfl) hAl (by kernel_rfl) (by kernel_rfl) (by kernel_rfl) hQ (fun w19 e19 E19 K hK => ?_)
  go_simp
  (replace r1 := r1.ext e19; replace r2 := r2.ext e19; replace r3 := r3.ext e19; replace r4 := r4.ext e19; go_at_call 37; refine (p_SignR (j.ext E19) (by omega)).mono ?_; rintro e wk19 ⟨rfl, hx19⟩; replace r1 := r1.ext hx19; replace r2 := r2.ext hx19; replace r3 := r3.ext hx19; replace r4 := r4.ext hx19; rw [HT.out])
  refine hK.out _ _ hx19 ?_
  clear hK K
  try simp only [Act.put]
  try simp only [List.setIfInBounds_toArray]
  try simp only [List.set_cons_succ]
  try simp only [List.set_cons_zero]
  refine Late.take (i := 20) (d := some 70) (v := ?v20_142) rfl rfl (by kernel_rfl) (by kernel_rfl) (by kernel_rfl) (by kernel_rfl) hQ (Or.inl ⟨by rfl, ?y20_142⟩) ?r20_142
  case y20_142 =>
    intro w' hSw
    have k00 := (bx.ext hSw).c4
    have k10 := (by_.ext hSw).c4
    have k20 := (bz.ext hSw).c4
    go_simp
    try with_reducible rfl
  try simp only [Act.put]
  try simp only [List.setIfInBounds_toArray]
  try simp only [List.set_cons_succ]
  try simp only [List.set_cons_zero]
  refine Late.take (i := 21) (d := some 71) (v := ?v21_143) rfl rfl (by kernel_rfl) (by kernel_rfl) (by kernel_rfl) (by kernel_rfl) hQ (Or.inl ⟨by rfl, ?y21_143⟩) ?r21_143
  case y21_143 =>
    intro w' hSw
    have k00 := (bx.ext hSw).c4
    have k10 := (by_.ext hSw).c4
    have k20 := (bz.ext hSw).c4
    go_simp
    try with_reducible rfl
  try simp only [Act.put]
  try simp only [List.setIfInBounds_toArray]
  try simp only [List.set_cons_succ]
  try simp only [List.set_cons_zero]
  refine Late.take (i := 22) (d := some 72) (v := ?v22_144) rfl rfl (by kernel_rfl) (by kernel_rfl) (by kernel_rfl) (by kernel_rfl) hQ (Or.inl ⟨by rfl, ?y22_144⟩) ?r22_144
  case y22_144 =>
    intro w' hSw
    have k00 := (bx.ext hSw).c4
    have k10 := (by_.ext hSw).c4
    have k20 := (bz.ext hSw).c4
    go_simp
    try with_reducible rfl
  try simp only [Act.put]
  try simp only [List.setIfInBounds_toArray]
  try simp only [List.set_cons_succ]
  try simp only [List.set_cons_zero]
  refine Late.take (i := 23) (d := some 6) (v := ?v23_145) rfl rfl (by kernel_rfl) (by kernel_rfl) (by kernel_rfl) (by kernel_rfl) hQ (Or.inl ⟨by rfl, ?y23_145⟩) ?r23_145
  case y23_145 =>
    intro w' hSw
    have k00 := (bx.ext hSw).c4
    have k10 := (by_.ext hSw).c4
    have k20 := (bz.ext hSw).c4
    go_simp
    try with_reducible rfl
  try simp only [Act.put]
  try simp only [List.setIfInBounds_toArray]
  try simp only [List.set_cons_succ]
  try simp only [List.set_cons_zero]
  refine Late.done0 (by kernel_rfl) (fun wy ez Ez => ?_)
  clear hAl hQ ES
  go_wp2_with fail
  go_ret
  exact ⟨rfl, extW.trans Ez⟩
end
end Go.Proofs.YtiioodgpkdbndaaGreatDoor
