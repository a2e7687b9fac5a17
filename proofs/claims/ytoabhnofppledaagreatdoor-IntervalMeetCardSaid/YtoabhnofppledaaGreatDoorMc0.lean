/- Walks and laws, a part. -/
import Derived.Test.YtoabhnofppledaaGreatDoorM0
import Derived.Test.YtoabhnofppledaaGreatDoorM1
import Derived.Test.YtoabhnofppledaaGreatDoorM2
import Derived.Test.YtoabhnofppledaaGreatDoorM3
import Derived.Test.YtoabhnofppledaaGreatDoorM4
import Derived.Test.YtoabhnofppledaaGreatDoorM5
import Derived.Test.YtoabhnofppledaaGreatDoorM6
import Derived.Test.YtoabhnofppledaaGreatDoorM7
import Derived.Test.YtoabhnofppledaaGreatDoorM8
import Derived.Test.YtoabhnofppledaaGreatDoorM9
import Derived.Test.YtoabhnofppledaaGreatDoorCards
import Derived.Test.YtoabhnofppledaaGreatDoorTie
import Derived.LaidMore
import Derived.OpenShut
import Derived.LaidLaws
import Derived.Lib.LaidTab
import Derived.SevenTiedAt
import Derived.Stop.Joined
namespace Go.Proofs.YtoabhnofppledaaGreatDoor
open Go.RowKit
attribute [local go_sem ↓] Go.wp_at_zero Go.wp_at_succ
section
variable {w w' : World} {q p lo hi lo' hi' x : Rat} {L M : Nat} {s t s' t' sx tx u v u' v' : Bool} {A B A' B' Ax Bx C D C' D' : Option Addr} {n c m d n' c' m' d' nx cx mx dx i j k l i' j' k' l' : Nat} {qs : List Rat}
set_option maxHeartbeats 4000000 in
theorem q_ZeroV : Calls Tryz.prog 28 #[.agg #[.bool false, .slice none 0 0, .bool false, .slice none 0 0, .bool false, .slice none 0 0, .bool false, .slice none 0 0]] w fun e w' => e = .returned (.bool true) ∧ Ext w w' := by
  go_enter Tryz.func28, Tryz.ntmps28
  go_upto_region 1 with (fail)
  obtain ⟨W, hW, ext, bx, hz⟩ := box1 w 28 #[.bool false, .slice none 0 0, .bool false, .slice none 0 0, .bool false, .slice none 0 0, .bool false, .slice none 0 0]
  rw [← hW]
  clear hW hz
  have k0 := bx.cell 0 (.bool false) rfl
  have k1 := bx.cell 1 (.slice none 0 0) rfl
  have k2 := bx.cell 2 (.bool false) rfl
  have k3 := bx.cell 3 (.slice none 0 0) rfl
  have k4 := bx.cell 4 (.bool false) rfl
  have k5 := bx.cell 5 (.slice none 0 0) rfl
  have k6 := bx.cell 6 (.bool false) rfl
  have k7 := bx.cell 7 (.slice none 0 0) rfl
  go_wp2_with fail
  go_ret
  exact ⟨rfl, ext⟩
end
end Go.Proofs.YtoabhnofppledaaGreatDoor
namespace Go.Proofs.YtoabhnofppledaaGreatDoor
open Go.RowKit
attribute [local go_sem ↓] Go.wp_at_zero Go.wp_at_succ
def few10 (n m : Nat) (s : Bool) (xs : List Nat) (t : Bool) (ys : List Nat) : Bool := decide (n ≤ 10) && (decide (m ≤ 10) && validQ s xs t ys)
/-- an interval with ends of at most ten words. -/
def fewV (n m n' m' : Nat) (s : Bool) (xs : List Nat) (t : Bool) (ys : List Nat) (s' : Bool) (xs' : List Nat) (t' : Bool) (ys' : List Nat) : Bool :=
  few10 n m s xs t ys && (few10 n' m' s' xs' t' ys' && validV s xs t ys s' xs' t' ys')
theorem few10_le {n m : Nat} {s : Bool} {xs : List Nat} {t : Bool} {ys : List Nat} (h : few10 n m s xs t ys = true) : n ≤ 10 ∧ m ≤ 10 ∧ validQ s xs t ys = true := by
  unfold few10 at h
  simp only [Bool.and_eq_true, decide_eq_true_eq] at h
  exact ⟨h.1, h.2.1, h.2.2⟩
theorem few_iv {w : World} {s t s' t' : Bool} {A B A' B' : Option Addr} {n c m d n' c' m' d' : Nat} {xs ys xs' ys' : List Nat} (h : RI w A n c xs) (k : RI w B m d ys) (h' : RI w A' n' c' xs') (k' : RI w B' m' d' ys') (hf : fewV n m n' m' s xs t ys s' xs' t' ys' = true) :
    IV w (rawQ s xs t ys) (rawQ s' xs' t' ys') 10 s A n c t B m d s' A' n' c' t' B' m' d' ∧ rawQ s xs t ys ≤ rawQ s' xs' t' ys' := by
  unfold fewV validV at hf
  simp only [Bool.and_eq_true, decide_eq_true_eq] at hf
  obtain ⟨f1, f2, f3, f4, f5⟩ := hf
  obtain ⟨a1, a2, a3⟩ := few10_le f1
  obtain ⟨b1, b2, b3⟩ := few10_le f2
  exact ⟨⟨NR.of_raw' h k a3 a1 a2, NR.of_raw' h' k' b3 b1 b2⟩, f5⟩
section
variable {w w' : World} {L M : Nat} {s t s' t' : Bool} {A B A' B' : Option Addr} {n c m d n' c' m' d' : Nat} {xs ys xs' ys' : List Nat}
set_option maxHeartbeats 4000000 in
theorem q_Few10 (h : RI w A n c xs) (k : RI w B m d ys) : Calls Tryz.prog 34 #[.agg #[.bool s, .slice A n c, .bool t, .slice B m d], .int .i64 10] w fun e w' => e = .returned (.bool (few10 n m s xs t ys)) ∧ Ext w w' := by
  by_cases h1 : n ≤ 10
  · have d1 : decide ((n : Int) ≤ (10 : Int)) = true := decide_eq_true (by omega)
    by_cases h2 : m ≤ 10
    · have d2 : decide ((m : Int) ≤ (10 : Int)) = true := decide_eq_true (by omega)
      have hf : few10 n m s xs t ys = validQ s xs t ys := by unfold few10; rw [decide_eq_true h1, decide_eq_true h2]; rfl
      rw [hf]
      clear hf
      go_enter Tryz.func34, Tryz.ntmps34
      go_upto_region 1 with (fail)
      obtain ⟨W, hW, extW, bx, hz⟩ := box1 w 26 #[.bool s, .slice A n c, .bool t, .slice B m d]
      rw [← hW]
      clear hW
      replace h := h.ext extW
      replace k := k.ext extW
      have x0 := bx.cell 0 (.bool s) rfl
      have x1 := bx.cell 1 (.slice A n c) rfl
      have x2 := bx.cell 2 (.bool t) rfl
      have x3 := bx.cell 3 (.slice B m d) rfl
      go_wp2_with fail
      refine (q_ValidRaw h k (by omega) (by omega)).mono ?_
      rintro e wd ⟨rfl, hxd⟩
      go_wp2_with fail
      go_ret
      exact ⟨rfl, extW.trans hxd⟩
    · have d2 : decide ((m : Int) ≤ (10 : Int)) = false := decide_eq_false (by omega)
      have hf : few10 n m s xs t ys = false := by unfold few10; rw [decide_eq_true h1, decide_eq_false h2]; rfl
      rw [hf]
      clear hf
      go_enter Tryz.func34, Tryz.ntmps34
      go_upto_region 1 with (fail)
      obtain ⟨W, hW, extW, bx, hz⟩ := box1 w 26 #[.bool s, .slice A n c, .bool t, .slice B m d]
      rw [← hW]
      clear hW
      replace h := h.ext extW
      replace k := k.ext extW
      have x0 := bx.cell 0 (.bool s) rfl
      have x1 := bx.cell 1 (.slice A n c) rfl
      have x2 := bx.cell 2 (.bool t) rfl
      have x3 := bx.cell 3 (.slice B m d) rfl
      go_wp2_with fail
      go_ret
      exact ⟨rfl, extW⟩
  · have d1 : decide ((n : Int) ≤ (10 : Int)) = false := decide_eq_false (by omega)
    have hf : few10 n m s xs t ys = false := by unfold few10; rw [decide_eq_false h1]; rfl
    rw [hf]
    clear hf
    go_enter Tryz.func34, Tryz.ntmps34
    go_upto_region 1 with (fail)
    obtain ⟨W, hW, extW, bx, hz⟩ := box1 w 26 #[.bool s, .slice A n c, .bool t, .slice B m d]
    rw [← hW]
    clear hW
    replace h := h.ext extW
    replace k := k.ext extW
    have x0 := bx.cell 0 (.bool s) rfl
    have x1 := bx.cell 1 (.slice A n c) rfl
    have x2 := bx.cell 2 (.bool t) rfl
    have x3 := bx.cell 3 (.slice B m d) rfl
    go_wp2_with fail
    go_ret
    exact ⟨rfl, extW⟩
set_option maxHeartbeats 4000000 in
theorem q_FewV (h : RI w A n c xs) (k : RI w B m d ys) (h' : RI w A' n' c' xs') (k' : RI w B' m' d' ys') : Calls Tryz.prog 54 #[.agg #[.bool s, .slice A n c, .bool t, .slice B m d, .bool s', .slice A' n' c', .bool t', .slice B' m' d'], .int .i64 10] w fun e w' => e = .returned (.bool (fewV n m n' m' s xs t ys s' xs' t' ys')) ∧ Ext w w' := by
  obtain ⟨r, hr⟩ : ∃ r, fewV n m n' m' s xs t ys s' xs' t' ys' = r := ⟨_, rfl⟩
  have HR := Lib.hid hr
  rw [hr]
  clear hr
  go_enter Tryz.func54, Tryz.ntmps54
  go_upto_region 1 with (fail)
  obtain ⟨W, hW, ext, bx, hz⟩ := box1 w 28 #[.bool s, .slice A n c, .bool t, .slice B m d, .bool s', .slice A' n' c', .bool t', .slice B' m' d']
  rw [← hW]
  clear hW hz
  have k0 := bx.cell 0 (.bool s) rfl
  have k1 := bx.cell 1 (.slice A n c) rfl
  have k2 := bx.cell 2 (.bool t) rfl
  have k3 := bx.cell 3 (.slice B m d) rfl
  have k4 := bx.cell 4 (.bool s') rfl
  have k5 := bx.cell 5 (.slice A' n' c') rfl
  have k6 := bx.cell 6 (.bool t') rfl
  have k7 := bx.cell 7 (.slice B' m' d') rfl
  cases hv : few10 n m s xs t ys with
  | false =>
    have HV := Lib.hid hv
    clear hv
    go_wp2_with fail
    refine (q_Few10 (h.ext ext) (k.ext ext)).mono ?_
    rintro e V ⟨rfl, hxc⟩
    rw [HV.out]
    go_wp2_with fail
    go_ret
    refine ⟨?_, ext.trans hxc⟩
    rw [← HR.out, fewV, HV.out]; rfl
  | true =>
    have hb1 := few10_le hv
    have HV := Lib.hid hv
    clear hv
    go_wp2_with fail
    refine (q_Few10 (h.ext ext) (k.ext ext)).mono ?_
    rintro e V ⟨rfl, hxc⟩
    rw [HV.out]
    replace bx := bx.ext hxc
    replace ext := ext.trans hxc
    clear hxc k0 k1 k2 k3 k4 k5 k6 k7
    have k0 := bx.cell 0 (.bool s) rfl
    have k1 := bx.cell 1 (.slice A n c) rfl
    have k2 := bx.cell 2 (.bool t) rfl
    have k3 := bx.cell 3 (.slice B m d) rfl
    have k4 := bx.cell 4 (.bool s') rfl
    have k5 := bx.cell 5 (.slice A' n' c') rfl
    have k6 := bx.cell 6 (.bool t') rfl
    have k7 := bx.cell 7 (.slice B' m' d') rfl
    cases hv' : few10 n' m' s' xs' t' ys' with
    | false =>
      have HV' := Lib.hid hv'
      clear hv'
      have HB := Lib.hid hb1
      clear hb1
      go_wp2_with fail
      refine (q_Few10 (h'.ext ext) (k'.ext ext)).mono ?_
      rintro e V2 ⟨rfl, hxc⟩
      rw [HV'.out]
      go_wp2_with fail
      go_ret
      refine ⟨?_, ext.trans hxc⟩
      rw [← HR.out, fewV, HV.out, HV'.out]; rfl
    | true =>
      have hb2 := few10_le hv'
      have HV' := Lib.hid hv'
      clear hv'
      have HB := Lib.hid (And.intro hb1 hb2)
      clear hb1 hb2
      go_wp2_with fail
      refine (q_Few10 (h'.ext ext) (k'.ext ext)).mono ?_
      rintro e V2 ⟨rfl, hxc⟩
      rw [HV'.out]
      replace bx := bx.ext hxc
      replace ext := ext.trans hxc
      clear hxc k0 k1 k2 k3 k4 k5 k6 k7
      have k0 := bx.cell 0 (.bool s) rfl
      have k1 := bx.cell 1 (.slice A n c) rfl
      have k2 := bx.cell 2 (.bool t) rfl
      have k3 := bx.cell 3 (.slice B m d) rfl
      have k4 := bx.cell 4 (.bool s') rfl
      have k5 := bx.cell 5 (.slice A' n' c') rfl
      have k6 := bx.cell 6 (.bool t') rfl
      have k7 := bx.cell 7 (.slice B' m' d') rfl
      go_wp2_with fail
      refine (q_ValidV (h.ext ext) (k.ext ext) (h'.ext ext) (k'.ext ext) (by have := HB.out; omega) (by have := HB.out; omega) (by have := HB.out; omega) (by have := HB.out; omega)).mono ?_
      rintro e V3 ⟨rfl, hxc⟩
      go_wp2_with fail
      go_ret
      refine ⟨?_, ext.trans hxc⟩
      rw [← HR.out, fewV, HV.out, HV'.out]; rfl
end
end Go.Proofs.YtoabhnofppledaaGreatDoor
namespace Go.Proofs.YtoabhnofppledaaGreatDoor
open Go.RowKit
attribute [local go_sem ↓] Go.wp_at_zero Go.wp_at_succ
set_option maxHeartbeats 8000000 in
theorem fewI2 {w : World} {g : Nat} {sa1 ta1 sa2 ta2 : Bool} {Aa1 Ba1 Aa2 Ba2 : Option Addr} {na1 ca1 ma1 da1 na2 ca2 ma2 da2 : Nat} {xa1 ya1 xa2 ya2 : List Nat} {sb1 tb1 sb2 tb2 : Bool} {Ab1 Bb1 Ab2 Bb2 : Option Addr} {nb1 cb1 mb1 db1 nb2 cb2 mb2 db2 : Nat} {xb1 yb1 xb2 yb2 : List Nat} (hbox : Box w g 28 #[.bool sa1, .slice Aa1 na1 ca1, .bool ta1, .slice Ba1 ma1 da1, .bool sa2, .slice Aa2 na2 ca2, .bool ta2, .slice Ba2 ma2 da2, .bool sb1, .slice Ab1 nb1 cb1, .bool tb1, .slice Bb1 mb1 db1, .bool sb2, .slice Ab2 nb2 cb2, .bool tb2, .slice Bb2 mb2 db2]) (ha : RawV w Aa1 na1 ca1 xa1 Ba1 ma1 da1 ya1 Aa2 na2 ca2 xa2 Ba2 ma2 da2 ya2) (hb : RawV w Ab1 nb1 cb1 xb1 Bb1 mb1 db1 yb1 Ab2 nb2 cb2 xb2 Bb2 mb2 db2 yb2) :
    Calls Tryz.prog 15 #[.slice (some ⟨g, 0, none⟩) 2 2] w fun e w' => e = .returned (.bool (fewV na1 ma1 na2 ma2 sa1 xa1 ta1 ya1 sa2 xa2 ta2 ya2 && (fewV nb1 mb1 nb2 mb2 sb1 xb1 tb1 yb1 sb2 xb2 tb2 yb2))) ∧ Ext w w' := by
  go_enter Tryz.func15, Tryz.ntmps15
  go_wp2_with fail
  go_loopw [7] (fun i wr => ∃ k : Nat, k ≤ 2 ∧ i = .int .i64 (k : Int) ∧ Ext w wr ∧ ((0 < k → fewV na1 ma1 na2 ma2 sa1 xa1 ta1 ya1 sa2 xa2 ta2 ya2 = true) ∧ (1 < k → fewV nb1 mb1 nb2 mb2 sb1 xb1 tb1 yb1 sb2 xb2 tb2 yb2 = true))) (fun i _ => 2 - (intOf i).toNat)
  case atStart => exact ⟨0, by omega, rfl, Ext.refl _, by simp⟩
  case round =>
    obtain ⟨k, hk, rfl, hext, hall⟩ := hrel
    have HA := Lib.hid hall
    clear hall
    have c0 := (hbox.ext hext).cell 0 (.bool sa1) rfl
    have c1 := (hbox.ext hext).cell 1 (.slice Aa1 na1 ca1) rfl
    have c2 := (hbox.ext hext).cell 2 (.bool ta1) rfl
    have c3 := (hbox.ext hext).cell 3 (.slice Ba1 ma1 da1) rfl
    have c4 := (hbox.ext hext).cell 4 (.bool sa2) rfl
    have c5 := (hbox.ext hext).cell 5 (.slice Aa2 na2 ca2) rfl
    have c6 := (hbox.ext hext).cell 6 (.bool ta2) rfl
    have c7 := (hbox.ext hext).cell 7 (.slice Ba2 ma2 da2) rfl
    have c8 := (hbox.ext hext).cell 8 (.bool sb1) rfl
    have c9 := (hbox.ext hext).cell 9 (.slice Ab1 nb1 cb1) rfl
    have c10 := (hbox.ext hext).cell 10 (.bool tb1) rfl
    have c11 := (hbox.ext hext).cell 11 (.slice Bb1 mb1 db1) rfl
    have c12 := (hbox.ext hext).cell 12 (.bool sb2) rfl
    have c13 := (hbox.ext hext).cell 13 (.slice Ab2 nb2 cb2) rfl
    have c14 := (hbox.ext hext).cell 14 (.bool tb2) rfl
    have c15 := (hbox.ext hext).cell 15 (.slice Bb2 mb2 db2) rfl
    have hk2 : k = 0 ∨ k = 1 ∨ k = 2 := by omega
    rcases hk2 with rfl | rfl | rfl
    · go_wp2_with (fail)
      refine (q_FewV (ha.ext (hext.alloc _)).1 (ha.ext (hext.alloc _)).2.1 (ha.ext (hext.alloc _)).2.2.1 (ha.ext (hext.alloc _)).2.2.2).mono ?_
      rintro e V ⟨rfl, hxv⟩
      replace hext := (hext.alloc _).trans hxv
      cases hf : fewV na1 ma1 na2 ma2 sa1 xa1 ta1 ya1 sa2 xa2 ta2 ya2 with
      | true =>
        have HF := Lib.hid hf
        clear hf
        go_wp2_with fail
        go_roundw
        case rel => exact ⟨1, by omega, rfl, hext, by have := HA.out; simp [HF.out] at this ⊢; try exact this⟩
        case measure => simp [intOf]
      | false =>
        have HF := Lib.hid hf
        clear hf
        go_wp2_with fail
        go_ret
        exact ⟨by have := HA.out; simp [HF.out] at this ⊢, hext⟩
    · go_wp2_with (fail)
      refine (q_FewV (hb.ext (hext.alloc _)).1 (hb.ext (hext.alloc _)).2.1 (hb.ext (hext.alloc _)).2.2.1 (hb.ext (hext.alloc _)).2.2.2).mono ?_
      rintro e V ⟨rfl, hxv⟩
      replace hext := (hext.alloc _).trans hxv
      cases hf : fewV nb1 mb1 nb2 mb2 sb1 xb1 tb1 yb1 sb2 xb2 tb2 yb2 with
      | true =>
        have HF := Lib.hid hf
        clear hf
        go_wp2_with fail
        go_roundw
        case rel => exact ⟨2, by omega, rfl, hext, by have := HA.out; simp [HF.out] at this ⊢; try exact this⟩
        case measure => simp [intOf]
      | false =>
        have HF := Lib.hid hf
        clear hf
        go_wp2_with fail
        go_ret
        exact ⟨by have := HA.out; simp [HF.out] at this ⊢, hext⟩
    · go_wp2_with fail
      go_ret
      exact ⟨by have := HA.out; simp at this; simp [this], hext⟩
end Go.Proofs.YtoabhnofppledaaGreatDoor
namespace Go.Proofs.YtoabhnofppledaaGreatDoor
open Go.ChangeShapes Go.WideShapes Go.ChangeAt Go.RowKit Go.Joins
section
variable {H : Type} {enc : TypeId × Value → H} {W : World} {base : Nat} {held : Bool}
set_option maxRecDepth 100000 in
theorem open_rat {r : Reach} {b0 : Nat} {v : Value} {d : DataW H} {p : List MemPlace} (hv : Value.okWide Tryz.prog W r b0 26 v) (h : DataW.Trod enc Tryz.prog W base (fun _ => true) held 26 v d p) :
    ∃ s A n c t B m d xs ys, v = .agg #[.bool s, .slice A n c, .bool t, .slice B m d] ∧ RI W A n c xs ∧ RI W B m d ys := by
  obtain ⟨cs, rfl, hsz⟩ := okWide_struct Tryz.underlying26 hv
  obtain ⟨c0, c1, c2, c3, rfl⟩ := array4 (hsz.trans cellsR)
  obtain ⟨fuel, hf⟩ := h
  obtain ⟨s, A, n, c, t, B, m, d, xs, ys, rfl, rfl, rfl, rfl, r1, r2⟩ := open_ratc hf
  exact ⟨s, A, n, c, t, B, m, d, xs, ys, rfl, r1, r2⟩
end
end Go.Proofs.YtoabhnofppledaaGreatDoor
namespace Go.Proofs.YtoabhnofppledaaGreatDoor
open Go.RowKit
section
variable {P : Program} {md : Region.Mode} {ops : Array Oper} {Q : Exit → Act → World → Prop} {W0 : World}
theorem Late.two {AL : List Al} {n i i2 : Nat} {o o2 : Oper} {L : Array Bool} {a : Act} {w : World} (ho : ops[i]? = some o) (ho2 : ops[i2]? = some o2) (hs : Region.noSelect ops = true) (hal : ∀ x ∈ AL, IsAl P ops x)
    (hr : Region.ready md ops (allMarks L AL) = [i, i2]) (hri : (Region.ready md ops L).contains i = true) (hp : sep ops AL i o = true) (hp2 : sep ops AL i2 o2 = true) (hQ : QStill Q)
    (h : ∀ w', Ext w w' → Ext W0 w' → ∀ K : Act → World → Prop, Shut (∀ a' w'', Ext w' w'' → Late P md ops Q W0 AL n (L.setIfInBounds i true) a' w'' → K a' w'') → if Region.wanted o (yielded ops a.tmps) = true then Oper.wp P o a w' K Q else K (a.put o.dst undef) w')
    (h2 : ∀ w', Ext w w' → Ext W0 w' → ∀ K : Act → World → Prop, Shut (∀ a' w'', Ext w' w'' → Late P md ops Q W0 AL n (L.setIfInBounds i2 true) a' w'' → K a' w'') → if Region.wanted o2 (yielded ops a.tmps) = true then Oper.wp P o2 a w' K Q else K (a.put o2.dst undef) w') :
    Late P md ops Q W0 AL (n + 1) L a w := by
  have fin : ∀ (j : Nat) (oj : Oper) (hoj : ops[j]? = some oj) (hpj : sep ops AL j oj = true)
      (hj : ∀ w', Ext w w' → Ext W0 w' → ∀ K : Act → World → Prop, Shut (∀ a' w'', Ext w' w'' → Late P md ops Q W0 AL n (L.setIfInBounds j true) a' w'' → K a' w'') → if Region.wanted oj (yielded ops a.tmps) = true then Oper.wp P oj a w' K Q else K (a.put oj.dst undef) w')
      (w' : World) (_ : Ext w w') (_ : Ext W0 w') (D : List (Al × Nat)) (_ : Val W0 AL w' D) (f : Nat) (_ : n + 1 + AL.length = f + 1 + D.length),
      wpOp P ops Q j (fun a' w'' => Ext W0 w'' ∧ wpAnyH P md ops Q (Ext W0) f ((marks L D).setIfInBounds j true) a' w'') (lays a D) w' := by
    intro j oj hoj hpj hj w' e hS D hD f hl
    have hsep := fun y (hy : y ∈ D) => sep_spec hpj (hD.mem y hy)
    refine wpOp_lays hoj (fun cs b => Region.noSelect_spec hs j oj cs b hoj) hQ D _ a (fun y hy => (hsep y hy).2) (wpOp_step hoj fun K' hK => hj w' e hS K' (fun a' w'' e' hL => hK a' w'' ?_))
    have hS' := hS.trans e'
    refine ⟨hS', ?_⟩
    have := hL w'' (Ext.refl _) hS' D (hD.ext e') f (by omega)
    rwa [marks_set D L j (fun y hy => (hsep y hy).1)] at this
  have go : ∀ (k : Nat) w', Ext w w' → Ext W0 w' → ∀ D, Val W0 AL w' D → AL.length ≤ D.length + k → ∀ f, n + 1 + AL.length = f + D.length → wpAnyH P md ops Q (Ext W0) f (marks L D) (lays a D) w' := by
    intro k
    induction k with
    | zero =>
      intro w' e hS D hD hk f hl
      have hlen := hD.len
      obtain ⟨f, rfl⟩ : ∃ k, f = k + 1 := ⟨f - 1, by omega⟩
      have hsep := fun y (hy : y ∈ D) => sep_spec hp (hD.mem y hy)
      have hir : i ∈ Region.ready md ops (marks L D) := ready_marks D L (by simpa using hri) (fun y hy => (hsep y hy).1)
      refine ⟨(fun h0 => by rw [h0] at hir; cases hir), fun j hj => ?_⟩
      have hji : j = i ∨ j = i2 := by
        by_cases hx : ∃ x ∈ AL, x.i = j
        · obtain ⟨x, hx, rfl⟩ := hx
          have hun := (marks_un D L x.i (mem_ready.1 hj).1).2
          have := hD.len_lt hx hun
          omega
        · have := ready_all hD.mem hj (fun x hx' e => hx ⟨x, hx', e⟩)
          rw [hr] at this
          simpa using this
      rcases hji with e' | e'
      · rw [e']; exact fin i o ho hp h w' e hS D hD f hl
      · rw [e']; exact fin i2 o2 ho2 hp2 h2 w' e hS D hD f hl
    | succ k ih =>
      intro w' e hS D hD hk f hl
      have hlen := hD.len
      obtain ⟨f, rfl⟩ : ∃ k, f = k + 1 := ⟨f - 1, by omega⟩
      have hsep := fun y (hy : y ∈ D) => sep_spec hp (hD.mem y hy)
      have hir : i ∈ Region.ready md ops (marks L D) := ready_marks D L (by simpa using hri) (fun y hy => (hsep y hy).1)
      refine ⟨(fun h0 => by rw [h0] at hir; cases hir), fun j hj => ?_⟩
      by_cases hx : ∃ x ∈ AL, x.i = j
      · obtain ⟨x, hx, rfl⟩ := hx
        have hun := (marks_un D L x.i (mem_ready.1 hj).1).2
        refine wpOp_alloc (hal x hx) ?_
        have e1 := (Ext.refl w').alloc (.cells x.cs x.t)
        have hS1 := hS.trans e1
        refine ⟨hS1, ?_⟩
        have := ih (w'.alloc (.cells x.cs x.t)) (e.trans e1) hS1 (D ++ [(x, w'.heap.size)]) (hD.snoc hx hun hS) (by simp; omega) f (by simp; omega)
        rwa [marks_snoc, lays_snoc] at this
      · have := ready_all hD.mem hj (fun x hx' e => hx ⟨x, hx', e⟩)
        rw [hr] at this
        have hji : j = i ∨ j = i2 := by simpa using this
        rcases hji with e' | e'
        · rw [e']; exact fin i o ho hp h w' e hS D hD f hl
        · rw [e']; exact fin i2 o2 ho2 hp2 h2 w' e hS D hD f hl
  exact fun w' e hS D hD f hl => go AL.length w' e hS D hD (by omega) f hl
end
end Go.Proofs.YtoabhnofppledaaGreatDoor
namespace Go.Proofs.YtoabhnofppledaaGreatDoor
open Go.RowKit
attribute [local go_sem ↓] Go.wp_at_zero Go.wp_at_succ
/-- the greater one of two numbers. -/
def mxR (a b : Rat) : Rat := if a < b then b else a
/-- the less one of two numbers. -/
def mnR (a b : Rat) : Rat := if b < a then b else a
/-- the common numbers of two intervals, and whether there are any. -/
def RetMeet (lo hi lo' hi' : Rat) (L : Nat) (w : World) (e : Ending) (w' : World) : Prop :=
  (mxR lo lo' ≤ mnR hi hi' ∧ ∃ s A n c t B m d s' A' n' c' t' B' m' d', e = .returned (.tuple #[.agg #[.bool s, .slice A n c, .bool t, .slice B m d, .bool s', .slice A' n' c', .bool t', .slice B' m' d'], .bool true]) ∧ IV w' (mxR lo lo') (mnR hi hi') L s A n c t B m d s' A' n' c' t' B' m' d' ∧ Ext w w') ∨
  (¬ mxR lo lo' ≤ mnR hi hi' ∧ e = .returned (.tuple #[.agg #[.bool false, .slice none 0 0, .bool false, .slice none 0 0, .bool false, .slice none 0 0, .bool false, .slice none 0 0], .bool false]) ∧ Ext w w')
section
variable {w w' : World} {q p lo hi lo' hi' x : Rat} {L M : Nat} {s t s' t' sx tx u v u' v' : Bool} {A B A' B' Ax Bx C D C' D' : Option Addr} {n c m d n' c' m' d' nx cx mx dx i j k l i' j' k' l' : Nat} {qs : List Rat}
set_option maxHeartbeats 8000000 in
set_option maxRecDepth 100000 in
theorem q_Meet_111 (h : IV w lo hi L s A n c t B m d s' A' n' c' t' B' m' d') (h' : IV w lo' hi' L u C i j v D k l u' C' i' j' v' D' k' l') (hL : L ≤ 20) (c1 : lo < lo') (c2 : hi' < hi) (c3 : ¬ hi' < lo') : Calls Tryz.prog 42 #[.agg #[.bool s, .slice A n c, .bool t, .slice B m d, .bool s', .slice A' n' c', .bool t', .slice B' m' d'], .agg #[.bool u, .slice C i j, .bool v, .slice D k l, .bool u', .slice C' i' j', .bool v', .slice D' k' l']] w (RetMeet lo hi lo' hi' L w) := by
  have hmx : mxR lo lo' = lo' := by unfold mxR; rw [if_pos c1]
  have hmn : mnR hi hi' = hi' := by unfold mnR; rw [if_pos c2]
  have HM := Lib.hid (And.intro hmx hmn)
  have HC := Lib.hid (show lo' ≤ hi' from Rat.not_lt.1 c3)
  obtain ⟨U1, hU1, d1⟩ : ∃ S, ratCmp lo' lo = S ∧ decide (0 < S) = true := ⟨_, rfl, decide_eq_true (ratCmp_gt.2 c1)⟩
  obtain ⟨U2, hU2, d2⟩ : ∃ S, ratCmp hi' hi = S ∧ decide (S < 0) = true := ⟨_, rfl, decide_eq_true (ratCmp_lt.2 c2)⟩
  obtain ⟨U3, hU3, d3⟩ : ∃ S, ratCmp lo' hi' = S ∧ decide (0 < S) = false := ⟨_, rfl, decide_eq_false (fun k => c3 (ratCmp_gt.1 k))⟩
  have HU1 := Lib.hid hU1
  have HU2 := Lib.hid hU2
  have HU3 := Lib.hid hU3
  clear hmx hmn c1 c2 c3 hU1 hU2 hU3
  go_enter Tryz.func42, Tryz.ntmps42
  go_upto_region 1 with (fail)
  obtain ⟨W, hW, ext, bx, by_, bz, hz⟩ := box3 w 28 28 28 #[.bool s, .slice A n c, .bool t, .slice B m d, .bool s', .slice A' n' c', .bool t', .slice B' m' d'] #[.bool u, .slice C i j, .bool v, .slice D k l, .bool u', .slice C' i' j', .bool v', .slice D' k' l'] #[Value.bool false, Value.slice none 0 0, Value.bool false, Value.slice none 0 0, Value.bool false, Value.slice none 0 0, Value.bool false, Value.slice none 0 0]
  rw [← hW]
  clear hW hz
  have hlz := bz.lt
  have k0 := bx.cell 0 (.bool s) rfl
  have k1 := bx.cell 1 (.slice A n c) rfl
  have k2 := bx.cell 2 (.bool t) rfl
  have k3 := bx.cell 3 (.slice B m d) rfl
  have k4 := bx.cell 4 (.bool s') rfl
  have k5 := bx.cell 5 (.slice A' n' c') rfl
  have k6 := bx.cell 6 (.bool t') rfl
  have k7 := bx.cell 7 (.slice B' m' d') rfl
  go_upto_region 2 with (fail)
  refine at_world (fun V => Ext w V ∧ Box V (w.heap.size + 1) 28 #[.bool u, .slice C i j, .bool v, .slice D k l, .bool u', .slice C' i' j', .bool v', .slice D' k' l'] ∧ Box V (w.heap.size + 1 + 1) 28 #[Value.bool false, Value.slice none 0 0, Value.bool false, Value.slice none 0 0, Value.bool false, Value.slice none 0 0, Value.bool false, Value.slice none 0 0] ∧ Box V W.heap.size 28 #[.bool s, .slice A n c, .bool t, .slice B m d, .bool s', .slice A' n' c', .bool t', .slice B' m' d']) ⟨ext.alloc _, by_.ext ((Ext.refl W).alloc _), bz.ext ((Ext.refl W).alloc _), Box.new W _ _⟩ ?_
  generalize W.heap.size = g6 at hlz ⊢
  clear k0 k1 k2 k3 k4 k5 k6 k7 ext bx by_ bz
  rintro V ⟨ext, by_, bz, b6⟩
  have x0 := by_.cell 0 (.bool u) rfl
  have x1 := by_.cell 1 (.slice C i j) rfl
  have x2 := by_.cell 2 (.bool v) rfl
  have x3 := by_.cell 3 (.slice D k l) rfl
  have x4 := by_.cell 4 (.bool u') rfl
  have x5 := by_.cell 5 (.slice C' i' j') rfl
  have x6 := by_.cell 6 (.bool v') rfl
  have x7 := by_.cell 7 (.slice D' k' l') rfl
  have k0 := b6.cell 0 (.bool s) rfl
  have k1 := b6.cell 1 (.slice A n c) rfl
  have k2 := b6.cell 2 (.bool t) rfl
  have k3 := b6.cell 3 (.slice B m d) rfl
  have k4 := b6.cell 4 (.bool s') rfl
  have k5 := b6.cell 5 (.slice A' n' c') rfl
  have k6 := b6.cell 6 (.bool t') rfl
  have k7 := b6.cell 7 (.slice B' m' d') rfl
  go_wp2_with fail
  refine (q_CmpR (h'.low.ext ext) (h.low.ext ext) (by omega) (by omega)).mono ?_
  rintro e Wa ⟨rfl, hxt⟩
  rw [HU1.out]
  replace by_ := by_.ext hxt
  replace bz := bz.ext hxt
  replace b6 := b6.ext hxt
  replace ext := ext.trans hxt
  clear hxt x0 x1 x2 x3 x4 x5 x6 x7 k0 k1 k2 k3 k4 k5 k6 k7
  have y0 := b6.cell 0 _ rfl
  have y1 := b6.cell 1 _ rfl
  have y2 := b6.cell 2 _ rfl
  have y3 := b6.cell 3 _ rfl
  have f0 := b6.frozen 0
  have f1 := b6.frozen 1
  have f2 := b6.frozen 2
  have f3 := b6.frozen 3
  have x0 := by_.cell 0 (.bool u) rfl
  have x1 := by_.cell 1 (.slice C i j) rfl
  have x2 := by_.cell 2 (.bool v) rfl
  have x3 := by_.cell 3 (.slice D k l) rfl
  have x4 := by_.cell 4 (.bool u') rfl
  have x5 := by_.cell 5 (.slice C' i' j') rfl
  have x6 := by_.cell 6 (.bool v') rfl
  have x7 := by_.cell 7 (.slice D' k' l') rfl
  go_upto_region 4 with (fail)
  have F := (((((FinOK.refl (T := 28) b6 NoWord.oct).step 0 (v := .bool u) (by intro k h; cases h)).step 1 (v := .slice C i j) (by intro k h; cases h)).step 2 (v := .bool v) (by intro k h; cases h)).step 3 (v := .slice D k l) (by intro k h; cases h))
  simp only [List.setIfInBounds_toArray, List.set_cons_succ, List.set_cons_zero] at F
  refine at_world (fun Y1 => Ext w Y1 ∧ Box Y1 (w.heap.size + 1) 28 #[.bool u, .slice C i j, .bool v, .slice D k l, .bool u', .slice C' i' j', .bool v', .slice D' k' l'] ∧ Box Y1 (w.heap.size + 1 + 1) 28 #[Value.bool false, Value.slice none 0 0, Value.bool false, Value.slice none 0 0, Value.bool false, Value.slice none 0 0, Value.bool false, Value.slice none 0 0] ∧ Box Y1 g6 28 #[.bool u, .slice C i j, .bool v, .slice D k l, .bool s', .slice A' n' c', .bool t', .slice B' m' d']) ⟨F.ext _ ext (by omega), F.far _ _ _ (by omega) by_, F.far _ _ _ (by omega) bz, F.box⟩ ?_
  clear F x0 x1 x2 x3 x4 x5 x6 x7 y0 y1 y2 y3 f0 f1 f2 f3 ext by_ bz b6
  rintro Y1 ⟨ext, by_, bz, b6⟩
  have x0 := by_.cell 0 (.bool u) rfl
  have x1 := by_.cell 1 (.slice C i j) rfl
  have x2 := by_.cell 2 (.bool v) rfl
  have x3 := by_.cell 3 (.slice D k l) rfl
  have x4 := by_.cell 4 (.bool u') rfl
  have x5 := by_.cell 5 (.slice C' i' j') rfl
  have x6 := by_.cell 6 (.bool v') rfl
  have x7 := by_.cell 7 (.slice D' k' l') rfl
  have k0 := b6.cell 0 (.bool u) rfl
  have k1 := b6.cell 1 (.slice C i j) rfl
  have k2 := b6.cell 2 (.bool v) rfl
  have k3 := b6.cell 3 (.slice D k l) rfl
  have k4 := b6.cell 4 (.bool s') rfl
  have k5 := b6.cell 5 (.slice A' n' c') rfl
  have k6 := b6.cell 6 (.bool t') rfl
  have k7 := b6.cell 7 (.slice B' m' d') rfl
  go_wp2_with fail
  refine (q_CmpR (h'.high.ext ext) (h.high.ext ext) (by omega) (by omega)).mono ?_
  rintro e Wb ⟨rfl, hxt⟩
  rw [HU2.out]
  replace by_ := by_.ext hxt
  replace bz := bz.ext hxt
  replace b6 := b6.ext hxt
  replace ext := ext.trans hxt
  clear hxt x0 x1 x2 x3 x4 x5 x6 x7 k0 k1 k2 k3 k4 k5 k6 k7
  have y0 := b6.cell 4 _ rfl
  have y1 := b6.cell 5 _ rfl
  have y2 := b6.cell 6 _ rfl
  have y3 := b6.cell 7 _ rfl
  have f0 := b6.frozen 4
  have f1 := b6.frozen 5
  have f2 := b6.frozen 6
  have f3 := b6.frozen 7
  have x0 := by_.cell 0 (.bool u) rfl
  have x1 := by_.cell 1 (.slice C i j) rfl
  have x2 := by_.cell 2 (.bool v) rfl
  have x3 := by_.cell 3 (.slice D k l) rfl
  have x4 := by_.cell 4 (.bool u') rfl
  have x5 := by_.cell 5 (.slice C' i' j') rfl
  have x6 := by_.cell 6 (.bool v') rfl
  have x7 := by_.cell 7 (.slice D' k' l') rfl
  go_upto_region 6 with (fail)
  have F := (((((FinOK.refl (T := 28) b6 NoWord.oct).step 4 (v := .bool u') (by intro k h; cases h)).step 5 (v := .slice C' i' j') (by intro k h; cases h)).step 6 (v := .bool v') (by intro k h; cases h)).step 7 (v := .slice D' k' l') (by intro k h; cases h))
  simp only [List.setIfInBounds_toArray, List.set_cons_succ, List.set_cons_zero] at F
  refine at_world (fun Y2 => Ext w Y2 ∧ Box Y2 (w.heap.size + 1) 28 #[.bool u, .slice C i j, .bool v, .slice D k l, .bool u', .slice C' i' j', .bool v', .slice D' k' l'] ∧ Box Y2 (w.heap.size + 1 + 1) 28 #[Value.bool false, Value.slice none 0 0, Value.bool false, Value.slice none 0 0, Value.bool false, Value.slice none 0 0, Value.bool false, Value.slice none 0 0] ∧ Box Y2 g6 28 #[.bool u, .slice C i j, .bool v, .slice D k l, .bool u', .slice C' i' j', .bool v', .slice D' k' l']) ⟨F.ext _ ext (by omega), F.far _ _ _ (by omega) by_, F.far _ _ _ (by omega) bz, F.box⟩ ?_
  clear F x0 x1 x2 x3 x4 x5 x6 x7 y0 y1 y2 y3 f0 f1 f2 f3 ext by_ bz b6
  rintro Y2 ⟨ext, by_, bz, b6⟩
  have x0 := by_.cell 0 (.bool u) rfl
  have x1 := by_.cell 1 (.slice C i j) rfl
  have x2 := by_.cell 2 (.bool v) rfl
  have x3 := by_.cell 3 (.slice D k l) rfl
  have x4 := by_.cell 4 (.bool u') rfl
  have x5 := by_.cell 5 (.slice C' i' j') rfl
  have x6 := by_.cell 6 (.bool v') rfl
  have x7 := by_.cell 7 (.slice D' k' l') rfl
  have k0 := b6.cell 0 (.bool u) rfl
  have k1 := b6.cell 1 (.slice C i j) rfl
  have k2 := b6.cell 2 (.bool v) rfl
  have k3 := b6.cell 3 (.slice D k l) rfl
  have k4 := b6.cell 4 (.bool u') rfl
  have k5 := b6.cell 5 (.slice C' i' j') rfl
  have k6 := b6.cell 6 (.bool v') rfl
  have k7 := b6.cell 7 (.slice D' k' l') rfl
  go_wp2_with fail
  refine (q_CmpR (h'.low.ext ext) (h'.high.ext ext) (by omega) (by omega)).mono ?_
  rintro e Wc ⟨rfl, hxt⟩
  rw [HU3.out]
  replace by_ := by_.ext hxt
  replace bz := bz.ext hxt
  replace b6 := b6.ext hxt
  replace ext := ext.trans hxt
  clear hxt x0 x1 x2 x3 x4 x5 x6 x7 k0 k1 k2 k3 k4 k5 k6 k7
  have k0 := b6.cell 0 (.bool u) rfl
  have k1 := b6.cell 1 (.slice C i j) rfl
  have k2 := b6.cell 2 (.bool v) rfl
  have k3 := b6.cell 3 (.slice D k l) rfl
  have k4 := b6.cell 4 (.bool u') rfl
  have k5 := b6.cell 5 (.slice C' i' j') rfl
  have k6 := b6.cell 6 (.bool v') rfl
  have k7 := b6.cell 7 (.slice D' k' l') rfl
  have hx1 := Ext.refl Wc
  have z0 := (bz.ext hx1).cell 0 _ rfl
  have f0 := (bz.ext hx1).frozen 0
  have z1 := (bz.ext hx1).cell 1 _ rfl
  have f1 := (bz.ext hx1).frozen 1
  have z2 := (bz.ext hx1).cell 2 _ rfl
  have f2 := (bz.ext hx1).frozen 2
  have z3 := (bz.ext hx1).cell 3 _ rfl
  have f3 := (bz.ext hx1).frozen 3
  have z4 := (bz.ext hx1).cell 4 _ rfl
  have f4 := (bz.ext hx1).frozen 4
  have z5 := (bz.ext hx1).cell 5 _ rfl
  have f5 := (bz.ext hx1).frozen 5
  have z6 := (bz.ext hx1).cell 6 _ rfl
  have f6 := (bz.ext hx1).frozen 6
  have z7 := (bz.ext hx1).cell 7 _ rfl
  have f7 := (bz.ext hx1).frozen 7
  go_wp2_with fail
  obtain ⟨b1, b2, b3, b4⟩ := fin_oct (v0 := (.bool u)) (v1 := (.slice C i j)) (v2 := (.bool v)) (v3 := (.slice D k l)) (v4 := (.bool u')) (v5 := (.slice C' i' j')) (v6 := (.bool v')) (v7 := (.slice D' k' l')) (bz.ext hx1)
  have r0 := b1.cell 0 (.bool u) rfl
  have r1 := b1.cell 1 (.slice C i j) rfl
  have r2 := b1.cell 2 (.bool v) rfl
  have r3 := b1.cell 3 (.slice D k l) rfl
  have r4 := b1.cell 4 (.bool u') rfl
  have r5 := b1.cell 5 (.slice C' i' j') rfl
  have r6 := b1.cell 6 (.bool v') rfl
  have r7 := b1.cell 7 (.slice D' k' l') rfl
  unfold set8 at r0 r1 r2 r3 r4 r5 r6 r7
  have q1 := b2 _ _ _ _ _ _ (h'.low.ext ext).num
  have q2 := b2 _ _ _ _ _ _ (h'.low.ext ext).den
  have q3 := b2 _ _ _ _ _ _ (h'.high.ext ext).num
  have q4 := b2 _ _ _ _ _ _ (h'.high.ext ext).den
  refine bodyPost_ret (v := .tuple #[.agg #[.bool u, .slice C i j, .bool v, .slice D k l, .bool u', .slice C' i' j', .bool v', .slice D' k' l'], .bool true]) (by simp [results, Tryz.results42, go_sem, r0, r1, r2, r3, r4, r5, r6, r7]) rfl (by rw [RetMeet, HM.out.1, HM.out.2]; exact .inl ⟨HC.out, u, C, i, j, v, D, k, l, u', C', i', j', v', D', k', l', rfl, ⟨⟨q1, q2⟩, ⟨q3, q4⟩⟩, b3 _ (ext.trans hx1) (by omega)⟩)
set_option maxHeartbeats 8000000 in
set_option maxRecDepth 100000 in
theorem q_Meet_110 (h : IV w lo hi L s A n c t B m d s' A' n' c' t' B' m' d') (h' : IV w lo' hi' L u C i j v D k l u' C' i' j' v' D' k' l') (hL : L ≤ 20) (c1 : lo < lo') (c2 : hi' < hi) (c3 : hi' < lo') : Calls Tryz.prog 42 #[.agg #[.bool s, .slice A n c, .bool t, .slice B m d, .bool s', .slice A' n' c', .bool t', .slice B' m' d'], .agg #[.bool u, .slice C i j, .bool v, .slice D k l, .bool u', .slice C' i' j', .bool v', .slice D' k' l']] w (RetMeet lo hi lo' hi' L w) := by
  have hmx : mxR lo lo' = lo' := by unfold mxR; rw [if_pos c1]
  have hmn : mnR hi hi' = hi' := by unfold mnR; rw [if_pos c2]
  have HM := Lib.hid (And.intro hmx hmn)
  have HC := Lib.hid (show ¬ lo' ≤ hi' from fun k => Rat.not_le.2 c3 k)
  obtain ⟨U1, hU1, d1⟩ : ∃ S, ratCmp lo' lo = S ∧ decide (0 < S) = true := ⟨_, rfl, decide_eq_true (ratCmp_gt.2 c1)⟩
  obtain ⟨U2, hU2, d2⟩ : ∃ S, ratCmp hi' hi = S ∧ decide (S < 0) = true := ⟨_, rfl, decide_eq_true (ratCmp_lt.2 c2)⟩
  obtain ⟨U3, hU3, d3⟩ : ∃ S, ratCmp lo' hi' = S ∧ decide (0 < S) = true := ⟨_, rfl, decide_eq_true (ratCmp_gt.2 c3)⟩
  have HU1 := Lib.hid hU1
  have HU2 := Lib.hid hU2
  have HU3 := Lib.hid hU3
  clear hmx hmn c1 c2 c3 hU1 hU2 hU3
  go_enter Tryz.func42, Tryz.ntmps42
  go_upto_region 1 with (fail)
  obtain ⟨W, hW, ext, bx, by_, bz, hz⟩ := box3 w 28 28 28 #[.bool s, .slice A n c, .bool t, .slice B m d, .bool s', .slice A' n' c', .bool t', .slice B' m' d'] #[.bool u, .slice C i j, .bool v, .slice D k l, .bool u', .slice C' i' j', .bool v', .slice D' k' l'] #[Value.bool false, Value.slice none 0 0, Value.bool false, Value.slice none 0 0, Value.bool false, Value.slice none 0 0, Value.bool false, Value.slice none 0 0]
  rw [← hW]
  clear hW hz
  have hlz := bz.lt
  have k0 := bx.cell 0 (.bool s) rfl
  have k1 := bx.cell 1 (.slice A n c) rfl
  have k2 := bx.cell 2 (.bool t) rfl
  have k3 := bx.cell 3 (.slice B m d) rfl
  have k4 := bx.cell 4 (.bool s') rfl
  have k5 := bx.cell 5 (.slice A' n' c') rfl
  have k6 := bx.cell 6 (.bool t') rfl
  have k7 := bx.cell 7 (.slice B' m' d') rfl
  go_upto_region 2 with (fail)
  refine at_world (fun V => Ext w V ∧ Box V (w.heap.size + 1) 28 #[.bool u, .slice C i j, .bool v, .slice D k l, .bool u', .slice C' i' j', .bool v', .slice D' k' l'] ∧ Box V (w.heap.size + 1 + 1) 28 #[Value.bool false, Value.slice none 0 0, Value.bool false, Value.slice none 0 0, Value.bool false, Value.slice none 0 0, Value.bool false, Value.slice none 0 0] ∧ Box V W.heap.size 28 #[.bool s, .slice A n c, .bool t, .slice B m d, .bool s', .slice A' n' c', .bool t', .slice B' m' d']) ⟨ext.alloc _, by_.ext ((Ext.refl W).alloc _), bz.ext ((Ext.refl W).alloc _), Box.new W _ _⟩ ?_
  generalize W.heap.size = g6 at hlz ⊢
  clear k0 k1 k2 k3 k4 k5 k6 k7 ext bx by_ bz
  rintro V ⟨ext, by_, bz, b6⟩
  have x0 := by_.cell 0 (.bool u) rfl
  have x1 := by_.cell 1 (.slice C i j) rfl
  have x2 := by_.cell 2 (.bool v) rfl
  have x3 := by_.cell 3 (.slice D k l) rfl
  have x4 := by_.cell 4 (.bool u') rfl
  have x5 := by_.cell 5 (.slice C' i' j') rfl
  have x6 := by_.cell 6 (.bool v') rfl
  have x7 := by_.cell 7 (.slice D' k' l') rfl
  have k0 := b6.cell 0 (.bool s) rfl
  have k1 := b6.cell 1 (.slice A n c) rfl
  have k2 := b6.cell 2 (.bool t) rfl
  have k3 := b6.cell 3 (.slice B m d) rfl
  have k4 := b6.cell 4 (.bool s') rfl
  have k5 := b6.cell 5 (.slice A' n' c') rfl
  have k6 := b6.cell 6 (.bool t') rfl
  have k7 := b6.cell 7 (.slice B' m' d') rfl
  go_wp2_with fail
  refine (q_CmpR (h'.low.ext ext) (h.low.ext ext) (by omega) (by omega)).mono ?_
  rintro e Wa ⟨rfl, hxt⟩
  rw [HU1.out]
  replace by_ := by_.ext hxt
  replace bz := bz.ext hxt
  replace b6 := b6.ext hxt
  replace ext := ext.trans hxt
  clear hxt x0 x1 x2 x3 x4 x5 x6 x7 k0 k1 k2 k3 k4 k5 k6 k7
  have y0 := b6.cell 0 _ rfl
  have y1 := b6.cell 1 _ rfl
  have y2 := b6.cell 2 _ rfl
  have y3 := b6.cell 3 _ rfl
  have f0 := b6.frozen 0
  have f1 := b6.frozen 1
  have f2 := b6.frozen 2
  have f3 := b6.frozen 3
  have x0 := by_.cell 0 (.bool u) rfl
  have x1 := by_.cell 1 (.slice C i j) rfl
  have x2 := by_.cell 2 (.bool v) rfl
  have x3 := by_.cell 3 (.slice D k l) rfl
  have x4 := by_.cell 4 (.bool u') rfl
  have x5 := by_.cell 5 (.slice C' i' j') rfl
  have x6 := by_.cell 6 (.bool v') rfl
  have x7 := by_.cell 7 (.slice D' k' l') rfl
  go_upto_region 4 with (fail)
  have F := (((((FinOK.refl (T := 28) b6 NoWord.oct).step 0 (v := .bool u) (by intro k h; cases h)).step 1 (v := .slice C i j) (by intro k h; cases h)).step 2 (v := .bool v) (by intro k h; cases h)).step 3 (v := .slice D k l) (by intro k h; cases h))
  simp only [List.setIfInBounds_toArray, List.set_cons_succ, List.set_cons_zero] at F
  refine at_world (fun Y1 => Ext w Y1 ∧ Box Y1 (w.heap.size + 1) 28 #[.bool u, .slice C i j, .bool v, .slice D k l, .bool u', .slice C' i' j', .bool v', .slice D' k' l'] ∧ Box Y1 (w.heap.size + 1 + 1) 28 #[Value.bool false, Value.slice none 0 0, Value.bool false, Value.slice none 0 0, Value.bool false, Value.slice none 0 0, Value.bool false, Value.slice none 0 0] ∧ Box Y1 g6 28 #[.bool u, .slice C i j, .bool v, .slice D k l, .bool s', .slice A' n' c', .bool t', .slice B' m' d']) ⟨F.ext _ ext (by omega), F.far _ _ _ (by omega) by_, F.far _ _ _ (by omega) bz, F.box⟩ ?_
  clear F x0 x1 x2 x3 x4 x5 x6 x7 y0 y1 y2 y3 f0 f1 f2 f3 ext by_ bz b6
  rintro Y1 ⟨ext, by_, bz, b6⟩
  have x0 := by_.cell 0 (.bool u) rfl
  have x1 := by_.cell 1 (.slice C i j) rfl
  have x2 := by_.cell 2 (.bool v) rfl
  have x3 := by_.cell 3 (.slice D k l) rfl
  have x4 := by_.cell 4 (.bool u') rfl
  have x5 := by_.cell 5 (.slice C' i' j') rfl
  have x6 := by_.cell 6 (.bool v') rfl
  have x7 := by_.cell 7 (.slice D' k' l') rfl
  have k0 := b6.cell 0 (.bool u) rfl
  have k1 := b6.cell 1 (.slice C i j) rfl
  have k2 := b6.cell 2 (.bool v) rfl
  have k3 := b6.cell 3 (.slice D k l) rfl
  have k4 := b6.cell 4 (.bool s') rfl
  have k5 := b6.cell 5 (.slice A' n' c') rfl
  have k6 := b6.cell 6 (.bool t') rfl
  have k7 := b6.cell 7 (.slice B' m' d') rfl
  go_wp2_with fail
  refine (q_CmpR (h'.high.ext ext) (h.high.ext ext) (by omega) (by omega)).mono ?_
  rintro e Wb ⟨rfl, hxt⟩
  rw [HU2.out]
  replace by_ := by_.ext hxt
  replace bz := bz.ext hxt
  replace b6 := b6.ext hxt
  replace ext := ext.trans hxt
  clear hxt x0 x1 x2 x3 x4 x5 x6 x7 k0 k1 k2 k3 k4 k5 k6 k7
  have y0 := b6.cell 4 _ rfl
  have y1 := b6.cell 5 _ rfl
  have y2 := b6.cell 6 _ rfl
  have y3 := b6.cell 7 _ rfl
  have f0 := b6.frozen 4
  have f1 := b6.frozen 5
  have f2 := b6.frozen 6
  have f3 := b6.frozen 7
  have x0 := by_.cell 0 (.bool u) rfl
  have x1 := by_.cell 1 (.slice C i j) rfl
  have x2 := by_.cell 2 (.bool v) rfl
  have x3 := by_.cell 3 (.slice D k l) rfl
  have x4 := by_.cell 4 (.bool u') rfl
  have x5 := by_.cell 5 (.slice C' i' j') rfl
  have x6 := by_.cell 6 (.bool v') rfl
  have x7 := by_.cell 7 (.slice D' k' l') rfl
  go_upto_region 6 with (fail)
  have F := (((((FinOK.refl (T := 28) b6 NoWord.oct).step 4 (v := .bool u') (by intro k h; cases h)).step 5 (v := .slice C' i' j') (by intro k h; cases h)).step 6 (v := .bool v') (by intro k h; cases h)).step 7 (v := .slice D' k' l') (by intro k h; cases h))
  simp only [List.setIfInBounds_toArray, List.set_cons_succ, List.set_cons_zero] at F
  refine at_world (fun Y2 => Ext w Y2 ∧ Box Y2 (w.heap.size + 1) 28 #[.bool u, .slice C i j, .bool v, .slice D k l, .bool u', .slice C' i' j', .bool v', .slice D' k' l'] ∧ Box Y2 (w.heap.size + 1 + 1) 28 #[Value.bool false, Value.slice none 0 0, Value.bool false, Value.slice none 0 0, Value.bool false, Value.slice none 0 0, Value.bool false, Value.slice none 0 0] ∧ Box Y2 g6 28 #[.bool u, .slice C i j, .bool v, .slice D k l, .bool u', .slice C' i' j', .bool v', .slice D' k' l']) ⟨F.ext _ ext (by omega), F.far _ _ _ (by omega) by_, F.far _ _ _ (by omega) bz, F.box⟩ ?_
  clear F x0 x1 x2 x3 x4 x5 x6 x7 y0 y1 y2 y3 f0 f1 f2 f3 ext by_ bz b6
  rintro Y2 ⟨ext, by_, bz, b6⟩
  have x0 := by_.cell 0 (.bool u) rfl
  have x1 := by_.cell 1 (.slice C i j) rfl
  have x2 := by_.cell 2 (.bool v) rfl
  have x3 := by_.cell 3 (.slice D k l) rfl
  have x4 := by_.cell 4 (.bool u') rfl
  have x5 := by_.cell 5 (.slice C' i' j') rfl
  have x6 := by_.cell 6 (.bool v') rfl
  have x7 := by_.cell 7 (.slice D' k' l') rfl
  have k0 := b6.cell 0 (.bool u) rfl
  have k1 := b6.cell 1 (.slice C i j) rfl
  have k2 := b6.cell 2 (.bool v) rfl
  have k3 := b6.cell 3 (.slice D k l) rfl
  have k4 := b6.cell 4 (.bool u') rfl
  have k5 := b6.cell 5 (.slice C' i' j') rfl
  have k6 := b6.cell 6 (.bool v') rfl
  have k7 := b6.cell 7 (.slice D' k' l') rfl
  go_wp2_with fail
  refine (q_CmpR (h'.low.ext ext) (h'.high.ext ext) (by omega) (by omega)).mono ?_
  rintro e Wc ⟨rfl, hxt⟩
  rw [HU3.out]
  replace by_ := by_.ext hxt
  replace bz := bz.ext hxt
  replace b6 := b6.ext hxt
  replace ext := ext.trans hxt
  clear hxt x0 x1 x2 x3 x4 x5 x6 x7 k0 k1 k2 k3 k4 k5 k6 k7
  have hx1 := Ext.refl Wc
  have z0 := (bz.ext hx1).cell 0 _ rfl
  have f0 := (bz.ext hx1).frozen 0
  have z1 := (bz.ext hx1).cell 1 _ rfl
  have f1 := (bz.ext hx1).frozen 1
  have z2 := (bz.ext hx1).cell 2 _ rfl
  have f2 := (bz.ext hx1).frozen 2
  have z3 := (bz.ext hx1).cell 3 _ rfl
  have f3 := (bz.ext hx1).frozen 3
  have z4 := (bz.ext hx1).cell 4 _ rfl
  have f4 := (bz.ext hx1).frozen 4
  have z5 := (bz.ext hx1).cell 5 _ rfl
  have f5 := (bz.ext hx1).frozen 5
  have z6 := (bz.ext hx1).cell 6 _ rfl
  have f6 := (bz.ext hx1).frozen 6
  have z7 := (bz.ext hx1).cell 7 _ rfl
  have f7 := (bz.ext hx1).frozen 7
  go_wp2_with fail
  obtain ⟨b1, b2, b3, b4⟩ := fin_oct (v0 := (.bool false)) (v1 := (.slice none 0 0)) (v2 := (.bool false)) (v3 := (.slice none 0 0)) (v4 := (.bool false)) (v5 := (.slice none 0 0)) (v6 := (.bool false)) (v7 := (.slice none 0 0)) (bz.ext hx1)
  have r0 := b1.cell 0 (.bool false) rfl
  have r1 := b1.cell 1 (.slice none 0 0) rfl
  have r2 := b1.cell 2 (.bool false) rfl
  have r3 := b1.cell 3 (.slice none 0 0) rfl
  have r4 := b1.cell 4 (.bool false) rfl
  have r5 := b1.cell 5 (.slice none 0 0) rfl
  have r6 := b1.cell 6 (.bool false) rfl
  have r7 := b1.cell 7 (.slice none 0 0) rfl
  unfold set8 at r0 r1 r2 r3 r4 r5 r6 r7
  refine bodyPost_ret (v := .tuple #[.agg #[.bool false, .slice none 0 0, .bool false, .slice none 0 0, .bool false, .slice none 0 0, .bool false, .slice none 0 0], .bool false]) (by simp [results, Tryz.results42, go_sem, r0, r1, r2, r3, r4, r5, r6, r7]) rfl (by rw [RetMeet, HM.out.1, HM.out.2]; exact .inr ⟨HC.out, rfl, b3 _ (ext.trans hx1) (by omega)⟩)
set_option maxHeartbeats 8000000 in
set_option maxRecDepth 100000 in
theorem q_Meet_101 (h : IV w lo hi L s A n c t B m d s' A' n' c' t' B' m' d') (h' : IV w lo' hi' L u C i j v D k l u' C' i' j' v' D' k' l') (hL : L ≤ 20) (c1 : lo < lo') (c2 : ¬ hi' < hi) (c3 : ¬ hi < lo') : Calls Tryz.prog 42 #[.agg #[.bool s, .slice A n c, .bool t, .slice B m d, .bool s', .slice A' n' c', .bool t', .slice B' m' d'], .agg #[.bool u, .slice C i j, .bool v, .slice D k l, .bool u', .slice C' i' j', .bool v', .slice D' k' l']] w (RetMeet lo hi lo' hi' L w) := by
  have hmx : mxR lo lo' = lo' := by unfold mxR; rw [if_pos c1]
  have hmn : mnR hi hi' = hi := by unfold mnR; rw [if_neg c2]
  have HM := Lib.hid (And.intro hmx hmn)
  have HC := Lib.hid (show lo' ≤ hi from Rat.not_lt.1 c3)
  obtain ⟨U1, hU1, d1⟩ : ∃ S, ratCmp lo' lo = S ∧ decide (0 < S) = true := ⟨_, rfl, decide_eq_true (ratCmp_gt.2 c1)⟩
  obtain ⟨U2, hU2, d2⟩ : ∃ S, ratCmp hi' hi = S ∧ decide (S < 0) = false := ⟨_, rfl, decide_eq_false (fun k => c2 (ratCmp_lt.1 k))⟩
  obtain ⟨U3, hU3, d3⟩ : ∃ S, ratCmp lo' hi = S ∧ decide (0 < S) = false := ⟨_, rfl, decide_eq_false (fun k => c3 (ratCmp_gt.1 k))⟩
  have HU1 := Lib.hid hU1
  have HU2 := Lib.hid hU2
  have HU3 := Lib.hid hU3
  clear hmx hmn c1 c2 c3 hU1 hU2 hU3
  go_enter Tryz.func42, Tryz.ntmps42
  go_upto_region 1 with (fail)
  obtain ⟨W, hW, ext, bx, by_, bz, hz⟩ := box3 w 28 28 28 #[.bool s, .slice A n c, .bool t, .slice B m d, .bool s', .slice A' n' c', .bool t', .slice B' m' d'] #[.bool u, .slice C i j, .bool v, .slice D k l, .bool u', .slice C' i' j', .bool v', .slice D' k' l'] #[Value.bool false, Value.slice none 0 0, Value.bool false, Value.slice none 0 0, Value.bool false, Value.slice none 0 0, Value.bool false, Value.slice none 0 0]
  rw [← hW]
  clear hW hz
  have hlz := bz.lt
  have k0 := bx.cell 0 (.bool s) rfl
  have k1 := bx.cell 1 (.slice A n c) rfl
  have k2 := bx.cell 2 (.bool t) rfl
  have k3 := bx.cell 3 (.slice B m d) rfl
  have k4 := bx.cell 4 (.bool s') rfl
  have k5 := bx.cell 5 (.slice A' n' c') rfl
  have k6 := bx.cell 6 (.bool t') rfl
  have k7 := bx.cell 7 (.slice B' m' d') rfl
  go_upto_region 2 with (fail)
  refine at_world (fun V => Ext w V ∧ Box V (w.heap.size + 1) 28 #[.bool u, .slice C i j, .bool v, .slice D k l, .bool u', .slice C' i' j', .bool v', .slice D' k' l'] ∧ Box V (w.heap.size + 1 + 1) 28 #[Value.bool false, Value.slice none 0 0, Value.bool false, Value.slice none 0 0, Value.bool false, Value.slice none 0 0, Value.bool false, Value.slice none 0 0] ∧ Box V W.heap.size 28 #[.bool s, .slice A n c, .bool t, .slice B m d, .bool s', .slice A' n' c', .bool t', .slice B' m' d']) ⟨ext.alloc _, by_.ext ((Ext.refl W).alloc _), bz.ext ((Ext.refl W).alloc _), Box.new W _ _⟩ ?_
  generalize W.heap.size = g6 at hlz ⊢
  clear k0 k1 k2 k3 k4 k5 k6 k7 ext bx by_ bz
  rintro V ⟨ext, by_, bz, b6⟩
  have x0 := by_.cell 0 (.bool u) rfl
  have x1 := by_.cell 1 (.slice C i j) rfl
  have x2 := by_.cell 2 (.bool v) rfl
  have x3 := by_.cell 3 (.slice D k l) rfl
  have x4 := by_.cell 4 (.bool u') rfl
  have x5 := by_.cell 5 (.slice C' i' j') rfl
  have x6 := by_.cell 6 (.bool v') rfl
  have x7 := by_.cell 7 (.slice D' k' l') rfl
  have k0 := b6.cell 0 (.bool s) rfl
  have k1 := b6.cell 1 (.slice A n c) rfl
  have k2 := b6.cell 2 (.bool t) rfl
  have k3 := b6.cell 3 (.slice B m d) rfl
  have k4 := b6.cell 4 (.bool s') rfl
  have k5 := b6.cell 5 (.slice A' n' c') rfl
  have k6 := b6.cell 6 (.bool t') rfl
  have k7 := b6.cell 7 (.slice B' m' d') rfl
  go_wp2_with fail
  refine (q_CmpR (h'.low.ext ext) (h.low.ext ext) (by omega) (by omega)).mono ?_
  rintro e Wa ⟨rfl, hxt⟩
  rw [HU1.out]
  replace by_ := by_.ext hxt
  replace bz := bz.ext hxt
  replace b6 := b6.ext hxt
  replace ext := ext.trans hxt
  clear hxt x0 x1 x2 x3 x4 x5 x6 x7 k0 k1 k2 k3 k4 k5 k6 k7
  have y0 := b6.cell 0 _ rfl
  have y1 := b6.cell 1 _ rfl
  have y2 := b6.cell 2 _ rfl
  have y3 := b6.cell 3 _ rfl
  have f0 := b6.frozen 0
  have f1 := b6.frozen 1
  have f2 := b6.frozen 2
  have f3 := b6.frozen 3
  have x0 := by_.cell 0 (.bool u) rfl
  have x1 := by_.cell 1 (.slice C i j) rfl
  have x2 := by_.cell 2 (.bool v) rfl
  have x3 := by_.cell 3 (.slice D k l) rfl
  have x4 := by_.cell 4 (.bool u') rfl
  have x5 := by_.cell 5 (.slice C' i' j') rfl
  have x6 := by_.cell 6 (.bool v') rfl
  have x7 := by_.cell 7 (.slice D' k' l') rfl
  go_upto_region 4 with (fail)
  have F := (((((FinOK.refl (T := 28) b6 NoWord.oct).step 0 (v := .bool u) (by intro k h; cases h)).step 1 (v := .slice C i j) (by intro k h; cases h)).step 2 (v := .bool v) (by intro k h; cases h)).step 3 (v := .slice D k l) (by intro k h; cases h))
  simp only [List.setIfInBounds_toArray, List.set_cons_succ, List.set_cons_zero] at F
  refine at_world (fun Y1 => Ext w Y1 ∧ Box Y1 (w.heap.size + 1) 28 #[.bool u, .slice C i j, .bool v, .slice D k l, .bool u', .slice C' i' j', .bool v', .slice D' k' l'] ∧ Box Y1 (w.heap.size + 1 + 1) 28 #[Value.bool false, Value.slice none 0 0, Value.bool false, Value.slice none 0 0, Value.bool false, Value.slice none 0 0, Value.bool false, Value.slice none 0 0] ∧ Box Y1 g6 28 #[.bool u, .slice C i j, .bool v, .slice D k l, .bool s', .slice A' n' c', .bool t', .slice B' m' d']) ⟨F.ext _ ext (by omega), F.far _ _ _ (by omega) by_, F.far _ _ _ (by omega) bz, F.box⟩ ?_
  clear F x0 x1 x2 x3 x4 x5 x6 x7 y0 y1 y2 y3 f0 f1 f2 f3 ext by_ bz b6
  rintro Y1 ⟨ext, by_, bz, b6⟩
  have x0 := by_.cell 0 (.bool u) rfl
  have x1 := by_.cell 1 (.slice C i j) rfl
  have x2 := by_.cell 2 (.bool v) rfl
  have x3 := by_.cell 3 (.slice D k l) rfl
  have x4 := by_.cell 4 (.bool u') rfl
  have x5 := by_.cell 5 (.slice C' i' j') rfl
  have x6 := by_.cell 6 (.bool v') rfl
  have x7 := by_.cell 7 (.slice D' k' l') rfl
  have k0 := b6.cell 0 (.bool u) rfl
  have k1 := b6.cell 1 (.slice C i j) rfl
  have k2 := b6.cell 2 (.bool v) rfl
  have k3 := b6.cell 3 (.slice D k l) rfl
  have k4 := b6.cell 4 (.bool s') rfl
  have k5 := b6.cell 5 (.slice A' n' c') rfl
  have k6 := b6.cell 6 (.bool t') rfl
  have k7 := b6.cell 7 (.slice B' m' d') rfl
  go_wp2_with fail
  refine (q_CmpR (h'.high.ext ext) (h.high.ext ext) (by omega) (by omega)).mono ?_
  rintro e Wb ⟨rfl, hxt⟩
  rw [HU2.out]
  replace by_ := by_.ext hxt
  replace bz := bz.ext hxt
  replace b6 := b6.ext hxt
  replace ext := ext.trans hxt
  clear hxt x0 x1 x2 x3 x4 x5 x6 x7 k0 k1 k2 k3 k4 k5 k6 k7
  have x0 := by_.cell 0 (.bool u) rfl
  have x1 := by_.cell 1 (.slice C i j) rfl
  have x2 := by_.cell 2 (.bool v) rfl
  have x3 := by_.cell 3 (.slice D k l) rfl
  have x4 := by_.cell 4 (.bool u') rfl
  have x5 := by_.cell 5 (.slice C' i' j') rfl
  have x6 := by_.cell 6 (.bool v') rfl
  have x7 := by_.cell 7 (.slice D' k' l') rfl
  have k0 := b6.cell 0 (.bool u) rfl
  have k1 := b6.cell 1 (.slice C i j) rfl
  have k2 := b6.cell 2 (.bool v) rfl
  have k3 := b6.cell 3 (.slice D k l) rfl
  have k4 := b6.cell 4 (.bool s') rfl
  have k5 := b6.cell 5 (.slice A' n' c') rfl
  have k6 := b6.cell 6 (.bool t') rfl
  have k7 := b6.cell 7 (.slice B' m' d') rfl
  go_wp2_with fail
  refine (q_CmpR (h'.low.ext ext) (h.high.ext ext) (by omega) (by omega)).mono ?_
  rintro e Wc ⟨rfl, hxt⟩
  rw [HU3.out]
  replace by_ := by_.ext hxt
  replace bz := bz.ext hxt
  replace b6 := b6.ext hxt
  replace ext := ext.trans hxt
  clear hxt x0 x1 x2 x3 x4 x5 x6 x7 k0 k1 k2 k3 k4 k5 k6 k7
  have k0 := b6.cell 0 (.bool u) rfl
  have k1 := b6.cell 1 (.slice C i j) rfl
  have k2 := b6.cell 2 (.bool v) rfl
  have k3 := b6.cell 3 (.slice D k l) rfl
  have k4 := b6.cell 4 (.bool s') rfl
  have k5 := b6.cell 5 (.slice A' n' c') rfl
  have k6 := b6.cell 6 (.bool t') rfl
  have k7 := b6.cell 7 (.slice B' m' d') rfl
  have hx1 := Ext.refl Wc
  have z0 := (bz.ext hx1).cell 0 _ rfl
  have f0 := (bz.ext hx1).frozen 0
  have z1 := (bz.ext hx1).cell 1 _ rfl
  have f1 := (bz.ext hx1).frozen 1
  have z2 := (bz.ext hx1).cell 2 _ rfl
  have f2 := (bz.ext hx1).frozen 2
  have z3 := (bz.ext hx1).cell 3 _ rfl
  have f3 := (bz.ext hx1).frozen 3
  have z4 := (bz.ext hx1).cell 4 _ rfl
  have f4 := (bz.ext hx1).frozen 4
  have z5 := (bz.ext hx1).cell 5 _ rfl
  have f5 := (bz.ext hx1).frozen 5
  have z6 := (bz.ext hx1).cell 6 _ rfl
  have f6 := (bz.ext hx1).frozen 6
  have z7 := (bz.ext hx1).cell 7 _ rfl
  have f7 := (bz.ext hx1).frozen 7
  go_wp2_with fail
  obtain ⟨b1, b2, b3, b4⟩ := fin_oct (v0 := (.bool u)) (v1 := (.slice C i j)) (v2 := (.bool v)) (v3 := (.slice D k l)) (v4 := (.bool s')) (v5 := (.slice A' n' c')) (v6 := (.bool t')) (v7 := (.slice B' m' d')) (bz.ext hx1)
  have r0 := b1.cell 0 (.bool u) rfl
  have r1 := b1.cell 1 (.slice C i j) rfl
  have r2 := b1.cell 2 (.bool v) rfl
  have r3 := b1.cell 3 (.slice D k l) rfl
  have r4 := b1.cell 4 (.bool s') rfl
  have r5 := b1.cell 5 (.slice A' n' c') rfl
  have r6 := b1.cell 6 (.bool t') rfl
  have r7 := b1.cell 7 (.slice B' m' d') rfl
  unfold set8 at r0 r1 r2 r3 r4 r5 r6 r7
  have q1 := b2 _ _ _ _ _ _ (h'.low.ext ext).num
  have q2 := b2 _ _ _ _ _ _ (h'.low.ext ext).den
  have q3 := b2 _ _ _ _ _ _ (h.high.ext ext).num
  have q4 := b2 _ _ _ _ _ _ (h.high.ext ext).den
  refine bodyPost_ret (v := .tuple #[.agg #[.bool u, .slice C i j, .bool v, .slice D k l, .bool s', .slice A' n' c', .bool t', .slice B' m' d'], .bool true]) (by simp [results, Tryz.results42, go_sem, r0, r1, r2, r3, r4, r5, r6, r7]) rfl (by rw [RetMeet, HM.out.1, HM.out.2]; exact .inl ⟨HC.out, u, C, i, j, v, D, k, l, s', A', n', c', t', B', m', d', rfl, ⟨⟨q1, q2⟩, ⟨q3, q4⟩⟩, b3 _ (ext.trans hx1) (by omega)⟩)
set_option maxHeartbeats 8000000 in
set_option maxRecDepth 100000 in
theorem q_Meet_100 (h : IV w lo hi L s A n c t B m d s' A' n' c' t' B' m' d') (h' : IV w lo' hi' L u C i j v D k l u' C' i' j' v' D' k' l') (hL : L ≤ 20) (c1 : lo < lo') (c2 : ¬ hi' < hi) (c3 : hi < lo') : Calls Tryz.prog 42 #[.agg #[.bool s, .slice A n c, .bool t, .slice B m d, .bool s', .slice A' n' c', .bool t', .slice B' m' d'], .agg #[.bool u, .slice C i j, .bool v, .slice D k l, .bool u', .slice C' i' j', .bool v', .slice D' k' l']] w (RetMeet lo hi lo' hi' L w) := by
  have hmx : mxR lo lo' = lo' := by unfold mxR; rw [if_pos c1]
  have hmn : mnR hi hi' = hi := by unfold mnR; rw [if_neg c2]
  have HM := Lib.hid (And.intro hmx hmn)
  have HC := Lib.hid (show ¬ lo' ≤ hi from fun k => Rat.not_le.2 c3 k)
  obtain ⟨U1, hU1, d1⟩ : ∃ S, ratCmp lo' lo = S ∧ decide (0 < S) = true := ⟨_, rfl, decide_eq_true (ratCmp_gt.2 c1)⟩
  obtain ⟨U2, hU2, d2⟩ : ∃ S, ratCmp hi' hi = S ∧ decide (S < 0) = false := ⟨_, rfl, decide_eq_false (fun k => c2 (ratCmp_lt.1 k))⟩
  obtain ⟨U3, hU3, d3⟩ : ∃ S, ratCmp lo' hi = S ∧ decide (0 < S) = true := ⟨_, rfl, decide_eq_true (ratCmp_gt.2 c3)⟩
  have HU1 := Lib.hid hU1
  have HU2 := Lib.hid hU2
  have HU3 := Lib.hid hU3
  clear hmx hmn c1 c2 c3 hU1 hU2 hU3
  go_enter Tryz.func42, Tryz.ntmps42
  go_upto_region 1 with (fail)
  obtain ⟨W, hW, ext, bx, by_, bz, hz⟩ := box3 w 28 28 28 #[.bool s, .slice A n c, .bool t, .slice B m d, .bool s', .slice A' n' c', .bool t', .slice B' m' d'] #[.bool u, .slice C i j, .bool v, .slice D k l, .bool u', .slice C' i' j', .bool v', .slice D' k' l'] #[Value.bool false, Value.slice none 0 0, Value.bool false, Value.slice none 0 0, Value.bool false, Value.slice none 0 0, Value.bool false, Value.slice none 0 0]
  rw [← hW]
  clear hW hz
  have hlz := bz.lt
  have k0 := bx.cell 0 (.bool s) rfl
  have k1 := bx.cell 1 (.slice A n c) rfl
  have k2 := bx.cell 2 (.bool t) rfl
  have k3 := bx.cell 3 (.slice B m d) rfl
  have k4 := bx.cell 4 (.bool s') rfl
  have k5 := bx.cell 5 (.slice A' n' c') rfl
  have k6 := bx.cell 6 (.bool t') rfl
  have k7 := bx.cell 7 (.slice B' m' d') rfl
  go_upto_region 2 with (fail)
  refine at_world (fun V => Ext w V ∧ Box V (w.heap.size + 1) 28 #[.bool u, .slice C i j, .bool v, .slice D k l, .bool u', .slice C' i' j', .bool v', .slice D' k' l'] ∧ Box V (w.heap.size + 1 + 1) 28 #[Value.bool false, Value.slice none 0 0, Value.bool false, Value.slice none 0 0, Value.bool false, Value.slice none 0 0, Value.bool false, Value.slice none 0 0] ∧ Box V W.heap.size 28 #[.bool s, .slice A n c, .bool t, .slice B m d, .bool s', .slice A' n' c', .bool t', .slice B' m' d']) ⟨ext.alloc _, by_.ext ((Ext.refl W).alloc _), bz.ext ((Ext.refl W).alloc _), Box.new W _ _⟩ ?_
  generalize W.heap.size = g6 at hlz ⊢
  clear k0 k1 k2 k3 k4 k5 k6 k7 ext bx by_ bz
  rintro V ⟨ext, by_, bz, b6⟩
  have x0 := by_.cell 0 (.bool u) rfl
  have x1 := by_.cell 1 (.slice C i j) rfl
  have x2 := by_.cell 2 (.bool v) rfl
  have x3 := by_.cell 3 (.slice D k l) rfl
  have x4 := by_.cell 4 (.bool u') rfl
  have x5 := by_.cell 5 (.slice C' i' j') rfl
  have x6 := by_.cell 6 (.bool v') rfl
  have x7 := by_.cell 7 (.slice D' k' l') rfl
  have k0 := b6.cell 0 (.bool s) rfl
  have k1 := b6.cell 1 (.slice A n c) rfl
  have k2 := b6.cell 2 (.bool t) rfl
  have k3 := b6.cell 3 (.slice B m d) rfl
  have k4 := b6.cell 4 (.bool s') rfl
  have k5 := b6.cell 5 (.slice A' n' c') rfl
  have k6 := b6.cell 6 (.bool t') rfl
  have k7 := b6.cell 7 (.slice B' m' d') rfl
  go_wp2_with fail
  refine (q_CmpR (h'.low.ext ext) (h.low.ext ext) (by omega) (by omega)).mono ?_
  rintro e Wa ⟨rfl, hxt⟩
  rw [HU1.out]
  replace by_ := by_.ext hxt
  replace bz := bz.ext hxt
  replace b6 := b6.ext hxt
  replace ext := ext.trans hxt
  clear hxt x0 x1 x2 x3 x4 x5 x6 x7 k0 k1 k2 k3 k4 k5 k6 k7
  have y0 := b6.cell 0 _ rfl
  have y1 := b6.cell 1 _ rfl
  have y2 := b6.cell 2 _ rfl
  have y3 := b6.cell 3 _ rfl
  have f0 := b6.frozen 0
  have f1 := b6.frozen 1
  have f2 := b6.frozen 2
  have f3 := b6.frozen 3
  have x0 := by_.cell 0 (.bool u) rfl
  have x1 := by_.cell 1 (.slice C i j) rfl
  have x2 := by_.cell 2 (.bool v) rfl
  have x3 := by_.cell 3 (.slice D k l) rfl
  have x4 := by_.cell 4 (.bool u') rfl
  have x5 := by_.cell 5 (.slice C' i' j') rfl
  have x6 := by_.cell 6 (.bool v') rfl
  have x7 := by_.cell 7 (.slice D' k' l') rfl
  go_upto_region 4 with (fail)
  have F := (((((FinOK.refl (T := 28) b6 NoWord.oct).step 0 (v := .bool u) (by intro k h; cases h)).step 1 (v := .slice C i j) (by intro k h; cases h)).step 2 (v := .bool v) (by intro k h; cases h)).step 3 (v := .slice D k l) (by intro k h; cases h))
  simp only [List.setIfInBounds_toArray, List.set_cons_succ, List.set_cons_zero] at F
  refine at_world (fun Y1 => Ext w Y1 ∧ Box Y1 (w.heap.size + 1) 28 #[.bool u, .slice C i j, .bool v, .slice D k l, .bool u', .slice C' i' j', .bool v', .slice D' k' l'] ∧ Box Y1 (w.heap.size + 1 + 1) 28 #[Value.bool false, Value.slice none 0 0, Value.bool false, Value.slice none 0 0, Value.bool false, Value.slice none 0 0, Value.bool false, Value.slice none 0 0] ∧ Box Y1 g6 28 #[.bool u, .slice C i j, .bool v, .slice D k l, .bool s', .slice A' n' c', .bool t', .slice B' m' d']) ⟨F.ext _ ext (by omega), F.far _ _ _ (by omega) by_, F.far _ _ _ (by omega) bz, F.box⟩ ?_
  clear F x0 x1 x2 x3 x4 x5 x6 x7 y0 y1 y2 y3 f0 f1 f2 f3 ext by_ bz b6
  rintro Y1 ⟨ext, by_, bz, b6⟩
  have x0 := by_.cell 0 (.bool u) rfl
  have x1 := by_.cell 1 (.slice C i j) rfl
  have x2 := by_.cell 2 (.bool v) rfl
  have x3 := by_.cell 3 (.slice D k l) rfl
  have x4 := by_.cell 4 (.bool u') rfl
  have x5 := by_.cell 5 (.slice C' i' j') rfl
  have x6 := by_.cell 6 (.bool v') rfl
  have x7 := by_.cell 7 (.slice D' k' l') rfl
  have k0 := b6.cell 0 (.bool u) rfl
  have k1 := b6.cell 1 (.slice C i j) rfl
  have k2 := b6.cell 2 (.bool v) rfl
  have k3 := b6.cell 3 (.slice D k l) rfl
  have k4 := b6.cell 4 (.bool s') rfl
  have k5 := b6.cell 5 (.slice A' n' c') rfl
  have k6 := b6.cell 6 (.bool t') rfl
  have k7 := b6.cell 7 (.slice B' m' d') rfl
  go_wp2_with fail
  refine (q_CmpR (h'.high.ext ext) (h.high.ext ext) (by omega) (by omega)).mono ?_
  rintro e Wb ⟨rfl, hxt⟩
  rw [HU2.out]
  replace by_ := by_.ext hxt
  replace bz := bz.ext hxt
  replace b6 := b6.ext hxt
  replace ext := ext.trans hxt
  clear hxt x0 x1 x2 x3 x4 x5 x6 x7 k0 k1 k2 k3 k4 k5 k6 k7
  have x0 := by_.cell 0 (.bool u) rfl
  have x1 := by_.cell 1 (.slice C i j) rfl
  have x2 := by_.cell 2 (.bool v) rfl
  have x3 := by_.cell 3 (.slice D k l) rfl
  have x4 := by_.cell 4 (.bool u') rfl
  have x5 := by_.cell 5 (.slice C' i' j') rfl
  have x6 := by_.cell 6 (.bool v') rfl
  have x7 := by_.cell 7 (.slice D' k' l') rfl
  have k0 := b6.cell 0 (.bool u) rfl
  have k1 := b6.cell 1 (.slice C i j) rfl
  have k2 := b6.cell 2 (.bool v) rfl
  have k3 := b6.cell 3 (.slice D k l) rfl
  have k4 := b6.cell 4 (.bool s') rfl
  have k5 := b6.cell 5 (.slice A' n' c') rfl
  have k6 := b6.cell 6 (.bool t') rfl
  have k7 := b6.cell 7 (.slice B' m' d') rfl
  go_wp2_with fail
  refine (q_CmpR (h'.low.ext ext) (h.high.ext ext) (by omega) (by omega)).mono ?_
  rintro e Wc ⟨rfl, hxt⟩
  rw [HU3.out]
  replace by_ := by_.ext hxt
  replace bz := bz.ext hxt
  replace b6 := b6.ext hxt
  replace ext := ext.trans hxt
  clear hxt x0 x1 x2 x3 x4 x5 x6 x7 k0 k1 k2 k3 k4 k5 k6 k7
  have hx1 := Ext.refl Wc
  have z0 := (bz.ext hx1).cell 0 _ rfl
  have f0 := (bz.ext hx1).frozen 0
  have z1 := (bz.ext hx1).cell 1 _ rfl
  have f1 := (bz.ext hx1).frozen 1
  have z2 := (bz.ext hx1).cell 2 _ rfl
  have f2 := (bz.ext hx1).frozen 2
  have z3 := (bz.ext hx1).cell 3 _ rfl
  have f3 := (bz.ext hx1).frozen 3
  have z4 := (bz.ext hx1).cell 4 _ rfl
  have f4 := (bz.ext hx1).frozen 4
  have z5 := (bz.ext hx1).cell 5 _ rfl
  have f5 := (bz.ext hx1).frozen 5
  have z6 := (bz.ext hx1).cell 6 _ rfl
  have f6 := (bz.ext hx1).frozen 6
  have z7 := (bz.ext hx1).cell 7 _ rfl
  have f7 := (bz.ext hx1).frozen 7
  go_wp2_with fail
  obtain ⟨b1, b2, b3, b4⟩ := fin_oct (v0 := (.bool false)) (v1 := (.slice none 0 0)) (v2 := (.bool false)) (v3 := (.slice none 0 0)) (v4 := (.bool false)) (v5 := (.slice none 0 0)) (v6 := (.bool false)) (v7 := (.slice none 0 0)) (bz.ext hx1)
  have r0 := b1.cell 0 (.bool false) rfl
  have r1 := b1.cell 1 (.slice none 0 0) rfl
  have r2 := b1.cell 2 (.bool false) rfl
  have r3 := b1.cell 3 (.slice none 0 0) rfl
  have r4 := b1.cell 4 (.bool false) rfl
  have r5 := b1.cell 5 (.slice none 0 0) rfl
  have r6 := b1.cell 6 (.bool false) rfl
  have r7 := b1.cell 7 (.slice none 0 0) rfl
  unfold set8 at r0 r1 r2 r3 r4 r5 r6 r7
  refine bodyPost_ret (v := .tuple #[.agg #[.bool false, .slice none 0 0, .bool false, .slice none 0 0, .bool false, .slice none 0 0, .bool false, .slice none 0 0], .bool false]) (by simp [results, Tryz.results42, go_sem, r0, r1, r2, r3, r4, r5, r6, r7]) rfl (by rw [RetMeet, HM.out.1, HM.out.2]; exact .inr ⟨HC.out, rfl, b3 _ (ext.trans hx1) (by omega)⟩)
set_option maxHeartbeats 8000000 in
set_option maxRecDepth 100000 in
theorem q_Meet_011 (h : IV w lo hi L s A n c t B m d s' A' n' c' t' B' m' d') (h' : IV w lo' hi' L u C i j v D k l u' C' i' j' v' D' k' l') (hL : L ≤ 20) (c1 : ¬ lo < lo') (c2 : hi' < hi) (c3 : ¬ hi' < lo) : Calls Tryz.prog 42 #[.agg #[.bool s, .slice A n c, .bool t, .slice B m d, .bool s', .slice A' n' c', .bool t', .slice B' m' d'], .agg #[.bool u, .slice C i j, .bool v, .slice D k l, .bool u', .slice C' i' j', .bool v', .slice D' k' l']] w (RetMeet lo hi lo' hi' L w) := by
  have hmx : mxR lo lo' = lo := by unfold mxR; rw [if_neg c1]
  have hmn : mnR hi hi' = hi' := by unfold mnR; rw [if_pos c2]
  have HM := Lib.hid (And.intro hmx hmn)
  have HC := Lib.hid (show lo ≤ hi' from Rat.not_lt.1 c3)
  obtain ⟨U1, hU1, d1⟩ : ∃ S, ratCmp lo' lo = S ∧ decide (0 < S) = false := ⟨_, rfl, decide_eq_false (fun k => c1 (ratCmp_gt.1 k))⟩
  obtain ⟨U2, hU2, d2⟩ : ∃ S, ratCmp hi' hi = S ∧ decide (S < 0) = true := ⟨_, rfl, decide_eq_true (ratCmp_lt.2 c2)⟩
  obtain ⟨U3, hU3, d3⟩ : ∃ S, ratCmp lo hi' = S ∧ decide (0 < S) = false := ⟨_, rfl, decide_eq_false (fun k => c3 (ratCmp_gt.1 k))⟩
  have HU1 := Lib.hid hU1
  have HU2 := Lib.hid hU2
  have HU3 := Lib.hid hU3
  clear hmx hmn c1 c2 c3 hU1 hU2 hU3
  go_enter Tryz.func42, Tryz.ntmps42
  go_upto_region 1 with (fail)
  obtain ⟨W, hW, ext, bx, by_, bz, hz⟩ := box3 w 28 28 28 #[.bool s, .slice A n c, .bool t, .slice B m d, .bool s', .slice A' n' c', .bool t', .slice B' m' d'] #[.bool u, .slice C i j, .bool v, .slice D k l, .bool u', .slice C' i' j', .bool v', .slice D' k' l'] #[Value.bool false, Value.slice none 0 0, Value.bool false, Value.slice none 0 0, Value.bool false, Value.slice none 0 0, Value.bool false, Value.slice none 0 0]
  rw [← hW]
  clear hW hz
  have hlz := bz.lt
  have k0 := bx.cell 0 (.bool s) rfl
  have k1 := bx.cell 1 (.slice A n c) rfl
  have k2 := bx.cell 2 (.bool t) rfl
  have k3 := bx.cell 3 (.slice B m d) rfl
  have k4 := bx.cell 4 (.bool s') rfl
  have k5 := bx.cell 5 (.slice A' n' c') rfl
  have k6 := bx.cell 6 (.bool t') rfl
  have k7 := bx.cell 7 (.slice B' m' d') rfl
  go_upto_region 2 with (fail)
  refine at_world (fun V => Ext w V ∧ Box V (w.heap.size + 1) 28 #[.bool u, .slice C i j, .bool v, .slice D k l, .bool u', .slice C' i' j', .bool v', .slice D' k' l'] ∧ Box V (w.heap.size + 1 + 1) 28 #[Value.bool false, Value.slice none 0 0, Value.bool false, Value.slice none 0 0, Value.bool false, Value.slice none 0 0, Value.bool false, Value.slice none 0 0] ∧ Box V W.heap.size 28 #[.bool s, .slice A n c, .bool t, .slice B m d, .bool s', .slice A' n' c', .bool t', .slice B' m' d']) ⟨ext.alloc _, by_.ext ((Ext.refl W).alloc _), bz.ext ((Ext.refl W).alloc _), Box.new W _ _⟩ ?_
  generalize W.heap.size = g6 at hlz ⊢
  clear k0 k1 k2 k3 k4 k5 k6 k7 ext bx by_ bz
  rintro V ⟨ext, by_, bz, b6⟩
  have x0 := by_.cell 0 (.bool u) rfl
  have x1 := by_.cell 1 (.slice C i j) rfl
  have x2 := by_.cell 2 (.bool v) rfl
  have x3 := by_.cell 3 (.slice D k l) rfl
  have x4 := by_.cell 4 (.bool u') rfl
  have x5 := by_.cell 5 (.slice C' i' j') rfl
  have x6 := by_.cell 6 (.bool v') rfl
  have x7 := by_.cell 7 (.slice D' k' l') rfl
  have k0 := b6.cell 0 (.bool s) rfl
  have k1 := b6.cell 1 (.slice A n c) rfl
  have k2 := b6.cell 2 (.bool t) rfl
  have k3 := b6.cell 3 (.slice B m d) rfl
  have k4 := b6.cell 4 (.bool s') rfl
  have k5 := b6.cell 5 (.slice A' n' c') rfl
  have k6 := b6.cell 6 (.bool t') rfl
  have k7 := b6.cell 7 (.slice B' m' d') rfl
  go_wp2_with fail
  refine (q_CmpR (h'.low.ext ext) (h.low.ext ext) (by omega) (by omega)).mono ?_
  rintro e Wa ⟨rfl, hxt⟩
  rw [HU1.out]
  replace by_ := by_.ext hxt
  replace bz := bz.ext hxt
  replace b6 := b6.ext hxt
  replace ext := ext.trans hxt
  clear hxt x0 x1 x2 x3 x4 x5 x6 x7 k0 k1 k2 k3 k4 k5 k6 k7
  have x0 := by_.cell 0 (.bool u) rfl
  have x1 := by_.cell 1 (.slice C i j) rfl
  have x2 := by_.cell 2 (.bool v) rfl
  have x3 := by_.cell 3 (.slice D k l) rfl
  have x4 := by_.cell 4 (.bool u') rfl
  have x5 := by_.cell 5 (.slice C' i' j') rfl
  have x6 := by_.cell 6 (.bool v') rfl
  have x7 := by_.cell 7 (.slice D' k' l') rfl
  have k0 := b6.cell 0 (.bool s) rfl
  have k1 := b6.cell 1 (.slice A n c) rfl
  have k2 := b6.cell 2 (.bool t) rfl
  have k3 := b6.cell 3 (.slice B m d) rfl
  have k4 := b6.cell 4 (.bool s') rfl
  have k5 := b6.cell 5 (.slice A' n' c') rfl
  have k6 := b6.cell 6 (.bool t') rfl
  have k7 := b6.cell 7 (.slice B' m' d') rfl
  go_wp2_with fail
  refine (q_CmpR (h'.high.ext ext) (h.high.ext ext) (by omega) (by omega)).mono ?_
  rintro e Wb ⟨rfl, hxt⟩
  rw [HU2.out]
  replace by_ := by_.ext hxt
  replace bz := bz.ext hxt
  replace b6 := b6.ext hxt
  replace ext := ext.trans hxt
  clear hxt x0 x1 x2 x3 x4 x5 x6 x7 k0 k1 k2 k3 k4 k5 k6 k7
  have y0 := b6.cell 4 _ rfl
  have y1 := b6.cell 5 _ rfl
  have y2 := b6.cell 6 _ rfl
  have y3 := b6.cell 7 _ rfl
  have f0 := b6.frozen 4
  have f1 := b6.frozen 5
  have f2 := b6.frozen 6
  have f3 := b6.frozen 7
  have x0 := by_.cell 0 (.bool u) rfl
  have x1 := by_.cell 1 (.slice C i j) rfl
  have x2 := by_.cell 2 (.bool v) rfl
  have x3 := by_.cell 3 (.slice D k l) rfl
  have x4 := by_.cell 4 (.bool u') rfl
  have x5 := by_.cell 5 (.slice C' i' j') rfl
  have x6 := by_.cell 6 (.bool v') rfl
  have x7 := by_.cell 7 (.slice D' k' l') rfl
  go_upto_region 6 with (fail)
  have F := (((((FinOK.refl (T := 28) b6 NoWord.oct).step 4 (v := .bool u') (by intro k h; cases h)).step 5 (v := .slice C' i' j') (by intro k h; cases h)).step 6 (v := .bool v') (by intro k h; cases h)).step 7 (v := .slice D' k' l') (by intro k h; cases h))
  simp only [List.setIfInBounds_toArray, List.set_cons_succ, List.set_cons_zero] at F
  refine at_world (fun Y2 => Ext w Y2 ∧ Box Y2 (w.heap.size + 1) 28 #[.bool u, .slice C i j, .bool v, .slice D k l, .bool u', .slice C' i' j', .bool v', .slice D' k' l'] ∧ Box Y2 (w.heap.size + 1 + 1) 28 #[Value.bool false, Value.slice none 0 0, Value.bool false, Value.slice none 0 0, Value.bool false, Value.slice none 0 0, Value.bool false, Value.slice none 0 0] ∧ Box Y2 g6 28 #[.bool s, .slice A n c, .bool t, .slice B m d, .bool u', .slice C' i' j', .bool v', .slice D' k' l']) ⟨F.ext _ ext (by omega), F.far _ _ _ (by omega) by_, F.far _ _ _ (by omega) bz, F.box⟩ ?_
  clear F x0 x1 x2 x3 x4 x5 x6 x7 y0 y1 y2 y3 f0 f1 f2 f3 ext by_ bz b6
  rintro Y2 ⟨ext, by_, bz, b6⟩
  have x0 := by_.cell 0 (.bool u) rfl
  have x1 := by_.cell 1 (.slice C i j) rfl
  have x2 := by_.cell 2 (.bool v) rfl
  have x3 := by_.cell 3 (.slice D k l) rfl
  have x4 := by_.cell 4 (.bool u') rfl
  have x5 := by_.cell 5 (.slice C' i' j') rfl
  have x6 := by_.cell 6 (.bool v') rfl
  have x7 := by_.cell 7 (.slice D' k' l') rfl
  have k0 := b6.cell 0 (.bool s) rfl
  have k1 := b6.cell 1 (.slice A n c) rfl
  have k2 := b6.cell 2 (.bool t) rfl
  have k3 := b6.cell 3 (.slice B m d) rfl
  have k4 := b6.cell 4 (.bool u') rfl
  have k5 := b6.cell 5 (.slice C' i' j') rfl
  have k6 := b6.cell 6 (.bool v') rfl
  have k7 := b6.cell 7 (.slice D' k' l') rfl
  go_wp2_with fail
  refine (q_CmpR (h.low.ext ext) (h'.high.ext ext) (by omega) (by omega)).mono ?_
  rintro e Wc ⟨rfl, hxt⟩
  rw [HU3.out]
  replace by_ := by_.ext hxt
  replace bz := bz.ext hxt
  replace b6 := b6.ext hxt
  replace ext := ext.trans hxt
  clear hxt x0 x1 x2 x3 x4 x5 x6 x7 k0 k1 k2 k3 k4 k5 k6 k7
  have k0 := b6.cell 0 (.bool s) rfl
  have k1 := b6.cell 1 (.slice A n c) rfl
  have k2 := b6.cell 2 (.bool t) rfl
  have k3 := b6.cell 3 (.slice B m d) rfl
  have k4 := b6.cell 4 (.bool u') rfl
  have k5 := b6.cell 5 (.slice C' i' j') rfl
  have k6 := b6.cell 6 (.bool v') rfl
  have k7 := b6.cell 7 (.slice D' k' l') rfl
  have hx1 := Ext.refl Wc
  have z0 := (bz.ext hx1).cell 0 _ rfl
  have f0 := (bz.ext hx1).frozen 0
  have z1 := (bz.ext hx1).cell 1 _ rfl
  have f1 := (bz.ext hx1).frozen 1
  have z2 := (bz.ext hx1).cell 2 _ rfl
  have f2 := (bz.ext hx1).frozen 2
  have z3 := (bz.ext hx1).cell 3 _ rfl
  have f3 := (bz.ext hx1).frozen 3
  have z4 := (bz.ext hx1).cell 4 _ rfl
  have f4 := (bz.ext hx1).frozen 4
  have z5 := (bz.ext hx1).cell 5 _ rfl
  have f5 := (bz.ext hx1).frozen 5
  have z6 := (bz.ext hx1).cell 6 _ rfl
  have f6 := (bz.ext hx1).frozen 6
  have z7 := (bz.ext hx1).cell 7 _ rfl
  have f7 := (bz.ext hx1).frozen 7
  go_wp2_with fail
  obtain ⟨b1, b2, b3, b4⟩ := fin_oct (v0 := (.bool s)) (v1 := (.slice A n c)) (v2 := (.bool t)) (v3 := (.slice B m d)) (v4 := (.bool u')) (v5 := (.slice C' i' j')) (v6 := (.bool v')) (v7 := (.slice D' k' l')) (bz.ext hx1)
  have r0 := b1.cell 0 (.bool s) rfl
  have r1 := b1.cell 1 (.slice A n c) rfl
  have r2 := b1.cell 2 (.bool t) rfl
  have r3 := b1.cell 3 (.slice B m d) rfl
  have r4 := b1.cell 4 (.bool u') rfl
  have r5 := b1.cell 5 (.slice C' i' j') rfl
  have r6 := b1.cell 6 (.bool v') rfl
  have r7 := b1.cell 7 (.slice D' k' l') rfl
  unfold set8 at r0 r1 r2 r3 r4 r5 r6 r7
  have q1 := b2 _ _ _ _ _ _ (h.low.ext ext).num
  have q2 := b2 _ _ _ _ _ _ (h.low.ext ext).den
  have q3 := b2 _ _ _ _ _ _ (h'.high.ext ext).num
  have q4 := b2 _ _ _ _ _ _ (h'.high.ext ext).den
  refine bodyPost_ret (v := .tuple #[.agg #[.bool s, .slice A n c, .bool t, .slice B m d, .bool u', .slice C' i' j', .bool v', .slice D' k' l'], .bool true]) (by simp [results, Tryz.results42, go_sem, r0, r1, r2, r3, r4, r5, r6, r7]) rfl (by rw [RetMeet, HM.out.1, HM.out.2]; exact .inl ⟨HC.out, s, A, n, c, t, B, m, d, u', C', i', j', v', D', k', l', rfl, ⟨⟨q1, q2⟩, ⟨q3, q4⟩⟩, b3 _ (ext.trans hx1) (by omega)⟩)
set_option maxHeartbeats 8000000 in
set_option maxRecDepth 100000 in
theorem q_Meet_010 (h : IV w lo hi L s A n c t B m d s' A' n' c' t' B' m' d') (h' : IV w lo' hi' L u C i j v D k l u' C' i' j' v' D' k' l') (hL : L ≤ 20) (c1 : ¬ lo < lo') (c2 : hi' < hi) (c3 : hi' < lo) : Calls Tryz.prog 42 #[.agg #[.bool s, .slice A n c, .bool t, .slice B m d, .bool s', .slice A' n' c', .bool t', .slice B' m' d'], .agg #[.bool u, .slice C i j, .bool v, .slice D k l, .bool u', .slice C' i' j', .bool v', .slice D' k' l']] w (RetMeet lo hi lo' hi' L w) := by
  have hmx : mxR lo lo' = lo := by unfold mxR; rw [if_neg c1]
  have hmn : mnR hi hi' = hi' := by unfold mnR; rw [if_pos c2]
  have HM := Lib.hid (And.intro hmx hmn)
  have HC := Lib.hid (show ¬ lo ≤ hi' from fun k => Rat.not_le.2 c3 k)
  obtain ⟨U1, hU1, d1⟩ : ∃ S, ratCmp lo' lo = S ∧ decide (0 < S) = false := ⟨_, rfl, decide_eq_false (fun k => c1 (ratCmp_gt.1 k))⟩
  obtain ⟨U2, hU2, d2⟩ : ∃ S, ratCmp hi' hi = S ∧ decide (S < 0) = true := ⟨_, rfl, decide_eq_true (ratCmp_lt.2 c2)⟩
  obtain ⟨U3, hU3, d3⟩ : ∃ S, ratCmp lo hi' = S ∧ decide (0 < S) = true := ⟨_, rfl, decide_eq_true (ratCmp_gt.2 c3)⟩
  have HU1 := Lib.hid hU1
  have HU2 := Lib.hid hU2
  have HU3 := Lib.hid hU3
  clear hmx hmn c1 c2 c3 hU1 hU2 hU3
  go_enter Tryz.func42, Tryz.ntmps42
  go_upto_region 1 with (fail)
  obtain ⟨W, hW, ext, bx, by_, bz, hz⟩ := box3 w 28 28 28 #[.bool s, .slice A n c, .bool t, .slice B m d, .bool s', .slice A' n' c', .bool t', .slice B' m' d'] #[.bool u, .slice C i j, .bool v, .slice D k l, .bool u', .slice C' i' j', .bool v', .slice D' k' l'] #[Value.bool false, Value.slice none 0 0, Value.bool false, Value.slice none 0 0, Value.bool false, Value.slice none 0 0, Value.bool false, Value.slice none 0 0]
  rw [← hW]
  clear hW hz
  have hlz := bz.lt
  have k0 := bx.cell 0 (.bool s) rfl
  have k1 := bx.cell 1 (.slice A n c) rfl
  have k2 := bx.cell 2 (.bool t) rfl
  have k3 := bx.cell 3 (.slice B m d) rfl
  have k4 := bx.cell 4 (.bool s') rfl
  have k5 := bx.cell 5 (.slice A' n' c') rfl
  have k6 := bx.cell 6 (.bool t') rfl
  have k7 := bx.cell 7 (.slice B' m' d') rfl
  go_upto_region 2 with (fail)
  refine at_world (fun V => Ext w V ∧ Box V (w.heap.size + 1) 28 #[.bool u, .slice C i j, .bool v, .slice D k l, .bool u', .slice C' i' j', .bool v', .slice D' k' l'] ∧ Box V (w.heap.size + 1 + 1) 28 #[Value.bool false, Value.slice none 0 0, Value.bool false, Value.slice none 0 0, Value.bool false, Value.slice none 0 0, Value.bool false, Value.slice none 0 0] ∧ Box V W.heap.size 28 #[.bool s, .slice A n c, .bool t, .slice B m d, .bool s', .slice A' n' c', .bool t', .slice B' m' d']) ⟨ext.alloc _, by_.ext ((Ext.refl W).alloc _), bz.ext ((Ext.refl W).alloc _), Box.new W _ _⟩ ?_
  generalize W.heap.size = g6 at hlz ⊢
  clear k0 k1 k2 k3 k4 k5 k6 k7 ext bx by_ bz
  rintro V ⟨ext, by_, bz, b6⟩
  have x0 := by_.cell 0 (.bool u) rfl
  have x1 := by_.cell 1 (.slice C i j) rfl
  have x2 := by_.cell 2 (.bool v) rfl
  have x3 := by_.cell 3 (.slice D k l) rfl
  have x4 := by_.cell 4 (.bool u') rfl
  have x5 := by_.cell 5 (.slice C' i' j') rfl
  have x6 := by_.cell 6 (.bool v') rfl
  have x7 := by_.cell 7 (.slice D' k' l') rfl
  have k0 := b6.cell 0 (.bool s) rfl
  have k1 := b6.cell 1 (.slice A n c) rfl
  have k2 := b6.cell 2 (.bool t) rfl
  have k3 := b6.cell 3 (.slice B m d) rfl
  have k4 := b6.cell 4 (.bool s') rfl
  have k5 := b6.cell 5 (.slice A' n' c') rfl
  have k6 := b6.cell 6 (.bool t') rfl
  have k7 := b6.cell 7 (.slice B' m' d') rfl
  go_wp2_with fail
  refine (q_CmpR (h'.low.ext ext) (h.low.ext ext) (by omega) (by omega)).mono ?_
  rintro e Wa ⟨rfl, hxt⟩
  rw [HU1.out]
  replace by_ := by_.ext hxt
  replace bz := bz.ext hxt
  replace b6 := b6.ext hxt
  replace ext := ext.trans hxt
  clear hxt x0 x1 x2 x3 x4 x5 x6 x7 k0 k1 k2 k3 k4 k5 k6 k7
  have x0 := by_.cell 0 (.bool u) rfl
  have x1 := by_.cell 1 (.slice C i j) rfl
  have x2 := by_.cell 2 (.bool v) rfl
  have x3 := by_.cell 3 (.slice D k l) rfl
  have x4 := by_.cell 4 (.bool u') rfl
  have x5 := by_.cell 5 (.slice C' i' j') rfl
  have x6 := by_.cell 6 (.bool v') rfl
  have x7 := by_.cell 7 (.slice D' k' l') rfl
  have k0 := b6.cell 0 (.bool s) rfl
  have k1 := b6.cell 1 (.slice A n c) rfl
  have k2 := b6.cell 2 (.bool t) rfl
  have k3 := b6.cell 3 (.slice B m d) rfl
  have k4 := b6.cell 4 (.bool s') rfl
  have k5 := b6.cell 5 (.slice A' n' c') rfl
  have k6 := b6.cell 6 (.bool t') rfl
  have k7 := b6.cell 7 (.slice B' m' d') rfl
  go_wp2_with fail
  refine (q_CmpR (h'.high.ext ext) (h.high.ext ext) (by omega) (by omega)).mono ?_
  rintro e Wb ⟨rfl, hxt⟩
  rw [HU2.out]
  replace by_ := by_.ext hxt
  replace bz := bz.ext hxt
  replace b6 := b6.ext hxt
  replace ext := ext.trans hxt
  clear hxt x0 x1 x2 x3 x4 x5 x6 x7 k0 k1 k2 k3 k4 k5 k6 k7
  have y0 := b6.cell 4 _ rfl
  have y1 := b6.cell 5 _ rfl
  have y2 := b6.cell 6 _ rfl
  have y3 := b6.cell 7 _ rfl
  have f0 := b6.frozen 4
  have f1 := b6.frozen 5
  have f2 := b6.frozen 6
  have f3 := b6.frozen 7
  have x0 := by_.cell 0 (.bool u) rfl
  have x1 := by_.cell 1 (.slice C i j) rfl
  have x2 := by_.cell 2 (.bool v) rfl
  have x3 := by_.cell 3 (.slice D k l) rfl
  have x4 := by_.cell 4 (.bool u') rfl
  have x5 := by_.cell 5 (.slice C' i' j') rfl
  have x6 := by_.cell 6 (.bool v') rfl
  have x7 := by_.cell 7 (.slice D' k' l') rfl
  go_upto_region 6 with (fail)
  have F := (((((FinOK.refl (T := 28) b6 NoWord.oct).step 4 (v := .bool u') (by intro k h; cases h)).step 5 (v := .slice C' i' j') (by intro k h; cases h)).step 6 (v := .bool v') (by intro k h; cases h)).step 7 (v := .slice D' k' l') (by intro k h; cases h))
  simp only [List.setIfInBounds_toArray, List.set_cons_succ, List.set_cons_zero] at F
  refine at_world (fun Y2 => Ext w Y2 ∧ Box Y2 (w.heap.size + 1) 28 #[.bool u, .slice C i j, .bool v, .slice D k l, .bool u', .slice C' i' j', .bool v', .slice D' k' l'] ∧ Box Y2 (w.heap.size + 1 + 1) 28 #[Value.bool false, Value.slice none 0 0, Value.bool false, Value.slice none 0 0, Value.bool false, Value.slice none 0 0, Value.bool false, Value.slice none 0 0] ∧ Box Y2 g6 28 #[.bool s, .slice A n c, .bool t, .slice B m d, .bool u', .slice C' i' j', .bool v', .slice D' k' l']) ⟨F.ext _ ext (by omega), F.far _ _ _ (by omega) by_, F.far _ _ _ (by omega) bz, F.box⟩ ?_
  clear F x0 x1 x2 x3 x4 x5 x6 x7 y0 y1 y2 y3 f0 f1 f2 f3 ext by_ bz b6
  rintro Y2 ⟨ext, by_, bz, b6⟩
  have x0 := by_.cell 0 (.bool u) rfl
  have x1 := by_.cell 1 (.slice C i j) rfl
  have x2 := by_.cell 2 (.bool v) rfl
  have x3 := by_.cell 3 (.slice D k l) rfl
  have x4 := by_.cell 4 (.bool u') rfl
  have x5 := by_.cell 5 (.slice C' i' j') rfl
  have x6 := by_.cell 6 (.bool v') rfl
  have x7 := by_.cell 7 (.slice D' k' l') rfl
  have k0 := b6.cell 0 (.bool s) rfl
  have k1 := b6.cell 1 (.slice A n c) rfl
  have k2 := b6.cell 2 (.bool t) rfl
  have k3 := b6.cell 3 (.slice B m d) rfl
  have k4 := b6.cell 4 (.bool u') rfl
  have k5 := b6.cell 5 (.slice C' i' j') rfl
  have k6 := b6.cell 6 (.bool v') rfl
  have k7 := b6.cell 7 (.slice D' k' l') rfl
  go_wp2_with fail
  refine (q_CmpR (h.low.ext ext) (h'.high.ext ext) (by omega) (by omega)).mono ?_
  rintro e Wc ⟨rfl, hxt⟩
  rw [HU3.out]
  replace by_ := by_.ext hxt
  replace bz := bz.ext hxt
  replace b6 := b6.ext hxt
  replace ext := ext.trans hxt
  clear hxt x0 x1 x2 x3 x4 x5 x6 x7 k0 k1 k2 k3 k4 k5 k6 k7
  have hx1 := Ext.refl Wc
  have z0 := (bz.ext hx1).cell 0 _ rfl
  have f0 := (bz.ext hx1).frozen 0
  have z1 := (bz.ext hx1).cell 1 _ rfl
  have f1 := (bz.ext hx1).frozen 1
  have z2 := (bz.ext hx1).cell 2 _ rfl
  have f2 := (bz.ext hx1).frozen 2
  have z3 := (bz.ext hx1).cell 3 _ rfl
  have f3 := (bz.ext hx1).frozen 3
  have z4 := (bz.ext hx1).cell 4 _ rfl
  have f4 := (bz.ext hx1).frozen 4
  have z5 := (bz.ext hx1).cell 5 _ rfl
  have f5 := (bz.ext hx1).frozen 5
  have z6 := (bz.ext hx1).cell 6 _ rfl
  have f6 := (bz.ext hx1).frozen 6
  have z7 := (bz.ext hx1).cell 7 _ rfl
  have f7 := (bz.ext hx1).frozen 7
  go_wp2_with fail
  obtain ⟨b1, b2, b3, b4⟩ := fin_oct (v0 := (.bool false)) (v1 := (.slice none 0 0)) (v2 := (.bool false)) (v3 := (.slice none 0 0)) (v4 := (.bool false)) (v5 := (.slice none 0 0)) (v6 := (.bool false)) (v7 := (.slice none 0 0)) (bz.ext hx1)
  have r0 := b1.cell 0 (.bool false) rfl
  have r1 := b1.cell 1 (.slice none 0 0) rfl
  have r2 := b1.cell 2 (.bool false) rfl
  have r3 := b1.cell 3 (.slice none 0 0) rfl
  have r4 := b1.cell 4 (.bool false) rfl
  have r5 := b1.cell 5 (.slice none 0 0) rfl
  have r6 := b1.cell 6 (.bool false) rfl
  have r7 := b1.cell 7 (.slice none 0 0) rfl
  unfold set8 at r0 r1 r2 r3 r4 r5 r6 r7
  refine bodyPost_ret (v := .tuple #[.agg #[.bool false, .slice none 0 0, .bool false, .slice none 0 0, .bool false, .slice none 0 0, .bool false, .slice none 0 0], .bool false]) (by simp [results, Tryz.results42, go_sem, r0, r1, r2, r3, r4, r5, r6, r7]) rfl (by rw [RetMeet, HM.out.1, HM.out.2]; exact .inr ⟨HC.out, rfl, b3 _ (ext.trans hx1) (by omega)⟩)
set_option maxHeartbeats 8000000 in
set_option maxRecDepth 100000 in
theorem q_Meet_001 (h : IV w lo hi L s A n c t B m d s' A' n' c' t' B' m' d') (h' : IV w lo' hi' L u C i j v D k l u' C' i' j' v' D' k' l') (hL : L ≤ 20) (c1 : ¬ lo < lo') (c2 : ¬ hi' < hi) (c3 : ¬ hi < lo) : Calls Tryz.prog 42 #[.agg #[.bool s, .slice A n c, .bool t, .slice B m d, .bool s', .slice A' n' c', .bool t', .slice B' m' d'], .agg #[.bool u, .slice C i j, .bool v, .slice D k l, .bool u', .slice C' i' j', .bool v', .slice D' k' l']] w (RetMeet lo hi lo' hi' L w) := by
  have hmx : mxR lo lo' = lo := by unfold mxR; rw [if_neg c1]
  have hmn : mnR hi hi' = hi := by unfold mnR; rw [if_neg c2]
  have HM := Lib.hid (And.intro hmx hmn)
  have HC := Lib.hid (show lo ≤ hi from Rat.not_lt.1 c3)
  obtain ⟨U1, hU1, d1⟩ : ∃ S, ratCmp lo' lo = S ∧ decide (0 < S) = false := ⟨_, rfl, decide_eq_false (fun k => c1 (ratCmp_gt.1 k))⟩
  obtain ⟨U2, hU2, d2⟩ : ∃ S, ratCmp hi' hi = S ∧ decide (S < 0) = false := ⟨_, rfl, decide_eq_false (fun k => c2 (ratCmp_lt.1 k))⟩
  obtain ⟨U3, hU3, d3⟩ : ∃ S, ratCmp lo hi = S ∧ decide (0 < S) = false := ⟨_, rfl, decide_eq_false (fun k => c3 (ratCmp_gt.1 k))⟩
  have HU1 := Lib.hid hU1
  have HU2 := Lib.hid hU2
  have HU3 := Lib.hid hU3
  clear hmx hmn c1 c2 c3 hU1 hU2 hU3
  go_enter Tryz.func42, Tryz.ntmps42
  go_upto_region 1 with (fail)
  obtain ⟨W, hW, ext, bx, by_, bz, hz⟩ := box3 w 28 28 28 #[.bool s, .slice A n c, .bool t, .slice B m d, .bool s', .slice A' n' c', .bool t', .slice B' m' d'] #[.bool u, .slice C i j, .bool v, .slice D k l, .bool u', .slice C' i' j', .bool v', .slice D' k' l'] #[Value.bool false, Value.slice none 0 0, Value.bool false, Value.slice none 0 0, Value.bool false, Value.slice none 0 0, Value.bool false, Value.slice none 0 0]
  rw [← hW]
  clear hW hz
  have hlz := bz.lt
  have k0 := bx.cell 0 (.bool s) rfl
  have k1 := bx.cell 1 (.slice A n c) rfl
  have k2 := bx.cell 2 (.bool t) rfl
  have k3 := bx.cell 3 (.slice B m d) rfl
  have k4 := bx.cell 4 (.bool s') rfl
  have k5 := bx.cell 5 (.slice A' n' c') rfl
  have k6 := bx.cell 6 (.bool t') rfl
  have k7 := bx.cell 7 (.slice B' m' d') rfl
  go_upto_region 2 with (fail)
  refine at_world (fun V => Ext w V ∧ Box V (w.heap.size + 1) 28 #[.bool u, .slice C i j, .bool v, .slice D k l, .bool u', .slice C' i' j', .bool v', .slice D' k' l'] ∧ Box V (w.heap.size + 1 + 1) 28 #[Value.bool false, Value.slice none 0 0, Value.bool false, Value.slice none 0 0, Value.bool false, Value.slice none 0 0, Value.bool false, Value.slice none 0 0] ∧ Box V W.heap.size 28 #[.bool s, .slice A n c, .bool t, .slice B m d, .bool s', .slice A' n' c', .bool t', .slice B' m' d']) ⟨ext.alloc _, by_.ext ((Ext.refl W).alloc _), bz.ext ((Ext.refl W).alloc _), Box.new W _ _⟩ ?_
  generalize W.heap.size = g6 at hlz ⊢
  clear k0 k1 k2 k3 k4 k5 k6 k7 ext bx by_ bz
  rintro V ⟨ext, by_, bz, b6⟩
  have x0 := by_.cell 0 (.bool u) rfl
  have x1 := by_.cell 1 (.slice C i j) rfl
  have x2 := by_.cell 2 (.bool v) rfl
  have x3 := by_.cell 3 (.slice D k l) rfl
  have x4 := by_.cell 4 (.bool u') rfl
  have x5 := by_.cell 5 (.slice C' i' j') rfl
  have x6 := by_.cell 6 (.bool v') rfl
  have x7 := by_.cell 7 (.slice D' k' l') rfl
  have k0 := b6.cell 0 (.bool s) rfl
  have k1 := b6.cell 1 (.slice A n c) rfl
  have k2 := b6.cell 2 (.bool t) rfl
  have k3 := b6.cell 3 (.slice B m d) rfl
  have k4 := b6.cell 4 (.bool s') rfl
  have k5 := b6.cell 5 (.slice A' n' c') rfl
  have k6 := b6.cell 6 (.bool t') rfl
  have k7 := b6.cell 7 (.slice B' m' d') rfl
  go_wp2_with fail
  refine (q_CmpR (h'.low.ext ext) (h.low.ext ext) (by omega) (by omega)).mono ?_
  rintro e Wa ⟨rfl, hxt⟩
  rw [HU1.out]
  replace by_ := by_.ext hxt
  replace bz := bz.ext hxt
  replace b6 := b6.ext hxt
  replace ext := ext.trans hxt
  clear hxt x0 x1 x2 x3 x4 x5 x6 x7 k0 k1 k2 k3 k4 k5 k6 k7
  have x0 := by_.cell 0 (.bool u) rfl
  have x1 := by_.cell 1 (.slice C i j) rfl
  have x2 := by_.cell 2 (.bool v) rfl
  have x3 := by_.cell 3 (.slice D k l) rfl
  have x4 := by_.cell 4 (.bool u') rfl
  have x5 := by_.cell 5 (.slice C' i' j') rfl
  have x6 := by_.cell 6 (.bool v') rfl
  have x7 := by_.cell 7 (.slice D' k' l') rfl
  have k0 := b6.cell 0 (.bool s) rfl
  have k1 := b6.cell 1 (.slice A n c) rfl
  have k2 := b6.cell 2 (.bool t) rfl
  have k3 := b6.cell 3 (.slice B m d) rfl
  have k4 := b6.cell 4 (.bool s') rfl
  have k5 := b6.cell 5 (.slice A' n' c') rfl
  have k6 := b6.cell 6 (.bool t') rfl
  have k7 := b6.cell 7 (.slice B' m' d') rfl
  go_wp2_with fail
  refine (q_CmpR (h'.high.ext ext) (h.high.ext ext) (by omega) (by omega)).mono ?_
  rintro e Wb ⟨rfl, hxt⟩
  rw [HU2.out]
  replace by_ := by_.ext hxt
  replace bz := bz.ext hxt
  replace b6 := b6.ext hxt
  replace ext := ext.trans hxt
  clear hxt x0 x1 x2 x3 x4 x5 x6 x7 k0 k1 k2 k3 k4 k5 k6 k7
  have x0 := by_.cell 0 (.bool u) rfl
  have x1 := by_.cell 1 (.slice C i j) rfl
  have x2 := by_.cell 2 (.bool v) rfl
  have x3 := by_.cell 3 (.slice D k l) rfl
  have x4 := by_.cell 4 (.bool u') rfl
  have x5 := by_.cell 5 (.slice C' i' j') rfl
  have x6 := by_.cell 6 (.bool v') rfl
  have x7 := by_.cell 7 (.slice D' k' l') rfl
  have k0 := b6.cell 0 (.bool s) rfl
  have k1 := b6.cell 1 (.slice A n c) rfl
  have k2 := b6.cell 2 (.bool t) rfl
  have k3 := b6.cell 3 (.slice B m d) rfl
  have k4 := b6.cell 4 (.bool s') rfl
  have k5 := b6.cell 5 (.slice A' n' c') rfl
  have k6 := b6.cell 6 (.bool t') rfl
  have k7 := b6.cell 7 (.slice B' m' d') rfl
  go_wp2_with fail
  refine (q_CmpR (h.low.ext ext) (h.high.ext ext) (by omega) (by omega)).mono ?_
  rintro e Wc ⟨rfl, hxt⟩
  rw [HU3.out]
  replace by_ := by_.ext hxt
  replace bz := bz.ext hxt
  replace b6 := b6.ext hxt
  replace ext := ext.trans hxt
  clear hxt x0 x1 x2 x3 x4 x5 x6 x7 k0 k1 k2 k3 k4 k5 k6 k7
  have k0 := b6.cell 0 (.bool s) rfl
  have k1 := b6.cell 1 (.slice A n c) rfl
  have k2 := b6.cell 2 (.bool t) rfl
  have k3 := b6.cell 3 (.slice B m d) rfl
  have k4 := b6.cell 4 (.bool s') rfl
  have k5 := b6.cell 5 (.slice A' n' c') rfl
  have k6 := b6.cell 6 (.bool t') rfl
  have k7 := b6.cell 7 (.slice B' m' d') rfl
  have hx1 := Ext.refl Wc
  have z0 := (bz.ext hx1).cell 0 _ rfl
  have f0 := (bz.ext hx1).frozen 0
  have z1 := (bz.ext hx1).cell 1 _ rfl
  have f1 := (bz.ext hx1).frozen 1
  have z2 := (bz.ext hx1).cell 2 _ rfl
  have f2 := (bz.ext hx1).frozen 2
  have z3 := (bz.ext hx1).cell 3 _ rfl
  have f3 := (bz.ext hx1).frozen 3
  have z4 := (bz.ext hx1).cell 4 _ rfl
  have f4 := (bz.ext hx1).frozen 4
  have z5 := (bz.ext hx1).cell 5 _ rfl
  have f5 := (bz.ext hx1).frozen 5
  have z6 := (bz.ext hx1).cell 6 _ rfl
  have f6 := (bz.ext hx1).frozen 6
  have z7 := (bz.ext hx1).cell 7 _ rfl
  have f7 := (bz.ext hx1).frozen 7
  go_wp2_with fail
  obtain ⟨b1, b2, b3, b4⟩ := fin_oct (v0 := (.bool s)) (v1 := (.slice A n c)) (v2 := (.bool t)) (v3 := (.slice B m d)) (v4 := (.bool s')) (v5 := (.slice A' n' c')) (v6 := (.bool t')) (v7 := (.slice B' m' d')) (bz.ext hx1)
  have r0 := b1.cell 0 (.bool s) rfl
  have r1 := b1.cell 1 (.slice A n c) rfl
  have r2 := b1.cell 2 (.bool t) rfl
  have r3 := b1.cell 3 (.slice B m d) rfl
  have r4 := b1.cell 4 (.bool s') rfl
  have r5 := b1.cell 5 (.slice A' n' c') rfl
  have r6 := b1.cell 6 (.bool t') rfl
  have r7 := b1.cell 7 (.slice B' m' d') rfl
  unfold set8 at r0 r1 r2 r3 r4 r5 r6 r7
  have q1 := b2 _ _ _ _ _ _ (h.low.ext ext).num
  have q2 := b2 _ _ _ _ _ _ (h.low.ext ext).den
  have q3 := b2 _ _ _ _ _ _ (h.high.ext ext).num
  have q4 := b2 _ _ _ _ _ _ (h.high.ext ext).den
  refine bodyPost_ret (v := .tuple #[.agg #[.bool s, .slice A n c, .bool t, .slice B m d, .bool s', .slice A' n' c', .bool t', .slice B' m' d'], .bool true]) (by simp [results, Tryz.results42, go_sem, r0, r1, r2, r3, r4, r5, r6, r7]) rfl (by rw [RetMeet, HM.out.1, HM.out.2]; exact .inl ⟨HC.out, s, A, n, c, t, B, m, d, s', A', n', c', t', B', m', d', rfl, ⟨⟨q1, q2⟩, ⟨q3, q4⟩⟩, b3 _ (ext.trans hx1) (by omega)⟩)
set_option maxHeartbeats 8000000 in
set_option maxRecDepth 100000 in
theorem q_Meet_000 (h : IV w lo hi L s A n c t B m d s' A' n' c' t' B' m' d') (h' : IV w lo' hi' L u C i j v D k l u' C' i' j' v' D' k' l') (hL : L ≤ 20) (c1 : ¬ lo < lo') (c2 : ¬ hi' < hi) (c3 : hi < lo) : Calls Tryz.prog 42 #[.agg #[.bool s, .slice A n c, .bool t, .slice B m d, .bool s', .slice A' n' c', .bool t', .slice B' m' d'], .agg #[.bool u, .slice C i j, .bool v, .slice D k l, .bool u', .slice C' i' j', .bool v', .slice D' k' l']] w (RetMeet lo hi lo' hi' L w) := by
  have hmx : mxR lo lo' = lo := by unfold mxR; rw [if_neg c1]
  have hmn : mnR hi hi' = hi := by unfold mnR; rw [if_neg c2]
  have HM := Lib.hid (And.intro hmx hmn)
  have HC := Lib.hid (show ¬ lo ≤ hi from fun k => Rat.not_le.2 c3 k)
  obtain ⟨U1, hU1, d1⟩ : ∃ S, ratCmp lo' lo = S ∧ decide (0 < S) = false := ⟨_, rfl, decide_eq_false (fun k => c1 (ratCmp_gt.1 k))⟩
  obtain ⟨U2, hU2, d2⟩ : ∃ S, ratCmp hi' hi = S ∧ decide (S < 0) = false := ⟨_, rfl, decide_eq_false (fun k => c2 (ratCmp_lt.1 k))⟩
  obtain ⟨U3, hU3, d3⟩ : ∃ S, ratCmp lo hi = S ∧ decide (0 < S) = true := ⟨_, rfl, decide_eq_true (ratCmp_gt.2 c3)⟩
  have HU1 := Lib.hid hU1
  have HU2 := Lib.hid hU2
  have HU3 := Lib.hid hU3
  clear hmx hmn c1 c2 c3 hU1 hU2 hU3
  go_enter Tryz.func42, Tryz.ntmps42
  go_upto_region 1 with (fail)
  obtain ⟨W, hW, ext, bx, by_, bz, hz⟩ := box3 w 28 28 28 #[.bool s, .slice A n c, .bool t, .slice B m d, .bool s', .slice A' n' c', .bool t', .slice B' m' d'] #[.bool u, .slice C i j, .bool v, .slice D k l, .bool u', .slice C' i' j', .bool v', .slice D' k' l'] #[Value.bool false, Value.slice none 0 0, Value.bool false, Value.slice none 0 0, Value.bool false, Value.slice none 0 0, Value.bool false, Value.slice none 0 0]
  rw [← hW]
  clear hW hz
  have hlz := bz.lt
  have k0 := bx.cell 0 (.bool s) rfl
  have k1 := bx.cell 1 (.slice A n c) rfl
  have k2 := bx.cell 2 (.bool t) rfl
  have k3 := bx.cell 3 (.slice B m d) rfl
  have k4 := bx.cell 4 (.bool s') rfl
  have k5 := bx.cell 5 (.slice A' n' c') rfl
  have k6 := bx.cell 6 (.bool t') rfl
  have k7 := bx.cell 7 (.slice B' m' d') rfl
  go_upto_region 2 with (fail)
  refine at_world (fun V => Ext w V ∧ Box V (w.heap.size + 1) 28 #[.bool u, .slice C i j, .bool v, .slice D k l, .bool u', .slice C' i' j', .bool v', .slice D' k' l'] ∧ Box V (w.heap.size + 1 + 1) 28 #[Value.bool false, Value.slice none 0 0, Value.bool false, Value.slice none 0 0, Value.bool false, Value.slice none 0 0, Value.bool false, Value.slice none 0 0] ∧ Box V W.heap.size 28 #[.bool s, .slice A n c, .bool t, .slice B m d, .bool s', .slice A' n' c', .bool t', .slice B' m' d']) ⟨ext.alloc _, by_.ext ((Ext.refl W).alloc _), bz.ext ((Ext.refl W).alloc _), Box.new W _ _⟩ ?_
  generalize W.heap.size = g6 at hlz ⊢
  clear k0 k1 k2 k3 k4 k5 k6 k7 ext bx by_ bz
  rintro V ⟨ext, by_, bz, b6⟩
  have x0 := by_.cell 0 (.bool u) rfl
  have x1 := by_.cell 1 (.slice C i j) rfl
  have x2 := by_.cell 2 (.bool v) rfl
  have x3 := by_.cell 3 (.slice D k l) rfl
  have x4 := by_.cell 4 (.bool u') rfl
  have x5 := by_.cell 5 (.slice C' i' j') rfl
  have x6 := by_.cell 6 (.bool v') rfl
  have x7 := by_.cell 7 (.slice D' k' l') rfl
  have k0 := b6.cell 0 (.bool s) rfl
  have k1 := b6.cell 1 (.slice A n c) rfl
  have k2 := b6.cell 2 (.bool t) rfl
  have k3 := b6.cell 3 (.slice B m d) rfl
  have k4 := b6.cell 4 (.bool s') rfl
  have k5 := b6.cell 5 (.slice A' n' c') rfl
  have k6 := b6.cell 6 (.bool t') rfl
  have k7 := b6.cell 7 (.slice B' m' d') rfl
  go_wp2_with fail
  refine (q_CmpR (h'.low.ext ext) (h.low.ext ext) (by omega) (by omega)).mono ?_
  rintro e Wa ⟨rfl, hxt⟩
  rw [HU1.out]
  replace by_ := by_.ext hxt
  replace bz := bz.ext hxt
  replace b6 := b6.ext hxt
  replace ext := ext.trans hxt
  clear hxt x0 x1 x2 x3 x4 x5 x6 x7 k0 k1 k2 k3 k4 k5 k6 k7
  have x0 := by_.cell 0 (.bool u) rfl
  have x1 := by_.cell 1 (.slice C i j) rfl
  have x2 := by_.cell 2 (.bool v) rfl
  have x3 := by_.cell 3 (.slice D k l) rfl
  have x4 := by_.cell 4 (.bool u') rfl
  have x5 := by_.cell 5 (.slice C' i' j') rfl
  have x6 := by_.cell 6 (.bool v') rfl
  have x7 := by_.cell 7 (.slice D' k' l') rfl
  have k0 := b6.cell 0 (.bool s) rfl
  have k1 := b6.cell 1 (.slice A n c) rfl
  have k2 := b6.cell 2 (.bool t) rfl
  have k3 := b6.cell 3 (.slice B m d) rfl
  have k4 := b6.cell 4 (.bool s') rfl
  have k5 := b6.cell 5 (.slice A' n' c') rfl
  have k6 := b6.cell 6 (.bool t') rfl
  have k7 := b6.cell 7 (.slice B' m' d') rfl
  go_wp2_with fail
  refine (q_CmpR (h'.high.ext ext) (h.high.ext ext) (by omega) (by omega)).mono ?_
  rintro e Wb ⟨rfl, hxt⟩
  rw [HU2.out]
  replace by_ := by_.ext hxt
  replace bz := bz.ext hxt
  replace b6 := b6.ext hxt
  replace ext := ext.trans hxt
  clear hxt x0 x1 x2 x3 x4 x5 x6 x7 k0 k1 k2 k3 k4 k5 k6 k7
  have x0 := by_.cell 0 (.bool u) rfl
  have x1 := by_.cell 1 (.slice C i j) rfl
  have x2 := by_.cell 2 (.bool v) rfl
  have x3 := by_.cell 3 (.slice D k l) rfl
  have x4 := by_.cell 4 (.bool u') rfl
  have x5 := by_.cell 5 (.slice C' i' j') rfl
  have x6 := by_.cell 6 (.bool v') rfl
  have x7 := by_.cell 7 (.slice D' k' l') rfl
  have k0 := b6.cell 0 (.bool s) rfl
  have k1 := b6.cell 1 (.slice A n c) rfl
  have k2 := b6.cell 2 (.bool t) rfl
  have k3 := b6.cell 3 (.slice B m d) rfl
  have k4 := b6.cell 4 (.bool s') rfl
  have k5 := b6.cell 5 (.slice A' n' c') rfl
  have k6 := b6.cell 6 (.bool t') rfl
  have k7 := b6.cell 7 (.slice B' m' d') rfl
  go_wp2_with fail
  refine (q_CmpR (h.low.ext ext) (h.high.ext ext) (by omega) (by omega)).mono ?_
  rintro e Wc ⟨rfl, hxt⟩
  rw [HU3.out]
  replace by_ := by_.ext hxt
  replace bz := bz.ext hxt
  replace b6 := b6.ext hxt
  replace ext := ext.trans hxt
  clear hxt x0 x1 x2 x3 x4 x5 x6 x7 k0 k1 k2 k3 k4 k5 k6 k7
  have hx1 := Ext.refl Wc
  have z0 := (bz.ext hx1).cell 0 _ rfl
  have f0 := (bz.ext hx1).frozen 0
  have z1 := (bz.ext hx1).cell 1 _ rfl
  have f1 := (bz.ext hx1).frozen 1
  have z2 := (bz.ext hx1).cell 2 _ rfl
  have f2 := (bz.ext hx1).frozen 2
  have z3 := (bz.ext hx1).cell 3 _ rfl
  have f3 := (bz.ext hx1).frozen 3
  have z4 := (bz.ext hx1).cell 4 _ rfl
  have f4 := (bz.ext hx1).frozen 4
  have z5 := (bz.ext hx1).cell 5 _ rfl
  have f5 := (bz.ext hx1).frozen 5
  have z6 := (bz.ext hx1).cell 6 _ rfl
  have f6 := (bz.ext hx1).frozen 6
  have z7 := (bz.ext hx1).cell 7 _ rfl
  have f7 := (bz.ext hx1).frozen 7
  go_wp2_with fail
  obtain ⟨b1, b2, b3, b4⟩ := fin_oct (v0 := (.bool false)) (v1 := (.slice none 0 0)) (v2 := (.bool false)) (v3 := (.slice none 0 0)) (v4 := (.bool false)) (v5 := (.slice none 0 0)) (v6 := (.bool false)) (v7 := (.slice none 0 0)) (bz.ext hx1)
  have r0 := b1.cell 0 (.bool false) rfl
  have r1 := b1.cell 1 (.slice none 0 0) rfl
  have r2 := b1.cell 2 (.bool false) rfl
  have r3 := b1.cell 3 (.slice none 0 0) rfl
  have r4 := b1.cell 4 (.bool false) rfl
  have r5 := b1.cell 5 (.slice none 0 0) rfl
  have r6 := b1.cell 6 (.bool false) rfl
  have r7 := b1.cell 7 (.slice none 0 0) rfl
  unfold set8 at r0 r1 r2 r3 r4 r5 r6 r7
  refine bodyPost_ret (v := .tuple #[.agg #[.bool false, .slice none 0 0, .bool false, .slice none 0 0, .bool false, .slice none 0 0, .bool false, .slice none 0 0], .bool false]) (by simp [results, Tryz.results42, go_sem, r0, r1, r2, r3, r4, r5, r6, r7]) rfl (by rw [RetMeet, HM.out.1, HM.out.2]; exact .inr ⟨HC.out, rfl, b3 _ (ext.trans hx1) (by omega)⟩)
theorem q_MeetV (h : IV w lo hi L s A n c t B m d s' A' n' c' t' B' m' d') (h' : IV w lo' hi' L u C i j v D k l u' C' i' j' v' D' k' l') (hL : L ≤ 20) : Calls Tryz.prog 42 #[.agg #[.bool s, .slice A n c, .bool t, .slice B m d, .bool s', .slice A' n' c', .bool t', .slice B' m' d'], .agg #[.bool u, .slice C i j, .bool v, .slice D k l, .bool u', .slice C' i' j', .bool v', .slice D' k' l']] w (RetMeet lo hi lo' hi' L w) := by
  by_cases c1 : lo < lo' <;> by_cases c2 : hi' < hi
  · by_cases c3 : hi' < lo'
    · exact q_Meet_110 h h' hL c1 c2 c3
    · exact q_Meet_111 h h' hL c1 c2 c3
  · by_cases c3 : hi < lo'
    · exact q_Meet_100 h h' hL c1 c2 c3
    · exact q_Meet_101 h h' hL c1 c2 c3
  · by_cases c3 : hi' < lo
    · exact q_Meet_010 h h' hL c1 c2 c3
    · exact q_Meet_011 h h' hL c1 c2 c3
  · by_cases c3 : hi < lo
    · exact q_Meet_000 h h' hL c1 c2 c3
    · exact q_Meet_001 h h' hL c1 c2 c3
end
end Go.Proofs.YtoabhnofppledaaGreatDoor
namespace Go.Proofs.YtoabhnofppledaaGreatDoor
open Go.RowKit
theorem RetMeet.yes {lo hi lo' hi' : Rat} {L : Nat} {w w' : World} {e : Ending} (h : RetMeet lo hi lo' hi' L w e w') (hm : mxR lo lo' ≤ mnR hi hi') : ∃ s A n c t B m d s' A' n' c' t' B' m' d', e = .returned (.tuple #[.agg #[.bool s, .slice A n c, .bool t, .slice B m d, .bool s', .slice A' n' c', .bool t', .slice B' m' d'], .bool true]) ∧ IV w' (mxR lo lo') (mnR hi hi') L s A n c t B m d s' A' n' c' t' B' m' d' ∧ Ext w w' :=
  h.elim (fun k => k.2) (fun k => absurd hm k.1)
theorem RetMeet.no {lo hi lo' hi' : Rat} {L : Nat} {w w' : World} {e : Ending} (h : RetMeet lo hi lo' hi' L w e w') (hm : ¬ mxR lo lo' ≤ mnR hi hi') : e = .returned (.tuple #[.agg #[.bool false, .slice none 0 0, .bool false, .slice none 0 0, .bool false, .slice none 0 0, .bool false, .slice none 0 0], .bool false]) ∧ Ext w w' :=
  h.elim (fun k => absurd k.1 hm) (fun k => k.2)
end Go.Proofs.YtoabhnofppledaaGreatDoor
namespace Go.Proofs.YtoabhnofppledaaGreatDoor
open Go.RowKit
attribute [local go_sem ↓] Go.wp_at_zero Go.wp_at_succ
theorem hull2_hi {l h a b : Rat} (hu : IsHull l h [a, b]) : h = mxR a b := by
  obtain ⟨_, h2, h3⟩ := hu
  have ha := (h3 a (by simp)).2
  have hb := (h3 b (by simp)).2
  simp only [List.mem_cons, List.not_mem_nil, or_false] at h2
  unfold mxR
  rcases h2 with e | e
  · subst e
    split
    · rename_i k; exact absurd hb (Rat.not_le.2 k)
    · rfl
  · subst e
    split
    · rfl
    · rename_i k; exact Rat.le_antisymm (Rat.not_lt.1 k) ha
theorem hull2_lo {l h a b : Rat} (hu : IsHull l h [a, b]) : l = mnR a b := by
  obtain ⟨h1, _, h3⟩ := hu
  have ha := (h3 a (by simp)).1
  have hb := (h3 b (by simp)).1
  simp only [List.mem_cons, List.not_mem_nil, or_false] at h1
  unfold mnR
  rcases h1 with e | e
  · subst e
    split
    · rename_i k; exact absurd hb (Rat.not_le.2 k)
    · rfl
  · subst e
    split
    · rfl
    · rename_i k; exact Rat.le_antisymm ha (Rat.not_lt.1 k)
section
variable {w w' : World} {q p lo hi lo' hi' x : Rat} {L M : Nat} {s t s' t' sx tx u v u' v' : Bool} {A B A' B' Ax Bx C D C' D' : Option Addr} {n c m d n' c' m' d' nx cx mx dx i j k l i' j' k' l' : Nat} {qs : List Rat}
set_option maxHeartbeats 16000000 in
set_option maxRecDepth 100000 in
theorem p_Meet_y (h : IV w lo hi L s A n c t B m d s' A' n' c' t' B' m' d') (h' : IV w lo' hi' L u C i j v D k l u' C' i' j' v' D' k' l') (hL : L ≤ 20) (hc : mxR lo lo' ≤ mnR hi hi') : Calls Tryz.prog 41 #[.agg #[.bool s, .slice A n c, .bool t, .slice B m d, .bool s', .slice A' n' c', .bool t', .slice B' m' d'], .agg #[.bool u, .slice C i j, .bool v, .slice D k l, .bool u', .slice C' i' j', .bool v', .slice D' k' l']] w (RetMeet lo hi lo' hi' L w) := by
  obtain ⟨U3, hU3, d3⟩ : ∃ S, ratCmp (mxR lo lo') (mnR hi hi') = S ∧ decide (0 < S) = false := ⟨_, rfl, decide_eq_false (fun k => Rat.not_le.2 (ratCmp_gt.1 k) hc)⟩
  have HU := Lib.hid hU3
  have HC := Lib.hid hc
  clear hU3 hc
  go_enter Tryz.func41, Tryz.ntmps41
  go_upto_region 1 with (fail)
  obtain ⟨W, hW, ext, bx, by_, bz, hz⟩ := box3 w 28 28 28 #[.bool s, .slice A n c, .bool t, .slice B m d, .bool s', .slice A' n' c', .bool t', .slice B' m' d'] #[.bool u, .slice C i j, .bool v, .slice D k l, .bool u', .slice C' i' j', .bool v', .slice D' k' l'] #[Value.bool false, Value.slice none 0 0, Value.bool false, Value.slice none 0 0, Value.bool false, Value.slice none 0 0, Value.bool false, Value.slice none 0 0]
  rw [← hW]
  clear hW hz
  have ES0 := Ext.refl W
  refine wp_region_held_drew (S := Ext W) (by kernel_rfl) ES0.drew (fun ES => ?_)
  clear ES0
  refine Late.start2 (x := ⟨12, 6, 28, #[Value.bool false, Value.slice none 0 0, Value.bool false, Value.slice none 0 0, Value.bool false, Value.slice none 0 0, Value.bool false, Value.slice none 0 0]⟩) (y := ⟨13, 7, 28, #[Value.bool false, Value.slice none 0 0, Value.bool false, Value.slice none 0 0, Value.bool false, Value.slice none 0 0, Value.bool false, Value.slice none 0 0]⟩) (n := 14) ⟨_, rfl, rfl, rfl, fun a w => by go_simp⟩ ⟨_, rfl, rfl, rfl, fun a w => by go_simp⟩ (fun _ _ _ _ _ => ⟨fun h => h, fun h => h⟩) ES rfl (fun hAl hQ => ?_)
  refine Late.take (i := 0) (d := some 8) (v := ?v0_141) rfl rfl (by kernel_rfl) (by kernel_rfl) (by kernel_rfl) (by kernel_rfl) hQ (Or.inl ⟨by rfl, ?y0_141⟩) ?r0_141
  case y0_141 =>
    intro w' hSw
    have k00 := (bx.ext hSw).c8
    have k10 := (by_.ext hSw).c8
    go_simp
    try with_reducible rfl
  try simp only [Act.put]
  try simp only [List.setIfInBounds_toArray]
  try simp only [List.set_cons_succ]
  try simp only [List.set_cons_zero]
  refine Late.take (i := 1) (d := some 9) (v := ?v1_142) rfl rfl (by kernel_rfl) (by kernel_rfl) (by kernel_rfl) (by kernel_rfl) hQ (Or.inl ⟨by rfl, ?y1_142⟩) ?r1_142
  case y1_142 =>
    intro w' hSw
    have k00 := (bx.ext hSw).c8
    have k10 := (by_.ext hSw).c8
    go_simp
    try with_reducible rfl
  try simp only [Act.put]
  try simp only [List.setIfInBounds_toArray]
  try simp only [List.set_cons_succ]
  try simp only [List.set_cons_zero]
  refine Late.take (i := 2) (d := some 10) (v := ?v2_143) rfl rfl (by kernel_rfl) (by kernel_rfl) (by kernel_rfl) (by kernel_rfl) hQ (Or.inl ⟨by rfl, ?y2_143⟩) ?r2_143
  case y2_143 =>
    intro w' hSw
    have k00 := (bx.ext hSw).c8
    have k10 := (by_.ext hSw).c8
    go_simp
    try with_reducible rfl
  try simp only [Act.put]
  try simp only [List.setIfInBounds_toArray]
  try simp only [List.set_cons_succ]
  try simp only [List.set_cons_zero]
  refine Late.take (i := 3) (d := some 11) (v := ?v3_144) rfl rfl (by kernel_rfl) (by kernel_rfl) (by kernel_rfl) (by kernel_rfl) hQ (Or.inl ⟨by rfl, ?y3_144⟩) ?r3_144
  case y3_144 =>
    intro w' hSw
    have k00 := (bx.ext hSw).c8
    have k10 := (by_.ext hSw).c8
    go_simp
    try with_reducible rfl
  try simp only [Act.put]
  try simp only [List.setIfInBounds_toArray]
  try simp only [List.set_cons_succ]
  try simp only [List.set_cons_zero]
  refine Late.take (i := 6) (d := some 14) (v := ?v6_145) rfl rfl (by kernel_rfl) (by kernel_rfl) (by kernel_rfl) (by kernel_rfl) hQ (Or.inl ⟨by rfl, ?y6_145⟩) ?r6_145
  case y6_145 =>
    intro w' hSw
    have k00 := (bx.ext hSw).c8
    have k10 := (by_.ext hSw).c8
    go_simp
    try with_reducible rfl
  try simp only [Act.put]
  try simp only [List.setIfInBounds_toArray]
  try simp only [List.set_cons_succ]
  try simp only [List.set_cons_zero]
  refine Late.take (i := 7) (d := some 15) (v := ?v7_146) rfl rfl (by kernel_rfl) (by kernel_rfl) (by kernel_rfl) (by kernel_rfl) hQ (Or.inl ⟨by rfl, ?y7_146⟩) ?r7_146
  case y7_146 =>
    intro w' hSw
    have k00 := (bx.ext hSw).c8
    have k10 := (by_.ext hSw).c8
    go_simp
    try with_reducible rfl
  try simp only [Act.put]
  try simp only [List.setIfInBounds_toArray]
  try simp only [List.set_cons_succ]
  try simp only [List.set_cons_zero]
  refine Late.take (i := 8) (d := some 16) (v := ?v8_147) rfl rfl (by kernel_rfl) (by kernel_rfl) (by kernel_rfl) (by kernel_rfl) hQ (Or.inl ⟨by rfl, ?y8_147⟩) ?r8_147
  case y8_147 =>
    intro w' hSw
    have k00 := (bx.ext hSw).c8
    have k10 := (by_.ext hSw).c8
    go_simp
    try with_reducible rfl
  try simp only [Act.put]
  try simp only [List.setIfInBounds_toArray]
  try simp only [List.set_cons_succ]
  try simp only [List.set_cons_zero]
  refine Late.take (i := 9) (d := some 17) (v := ?v9_148) rfl rfl (by kernel_rfl) (by kernel_rfl) (by kernel_rfl) (by kernel_rfl) hQ (Or.inl ⟨by rfl, ?y9_148⟩) ?r9_148
  case y9_148 =>
    intro w' hSw
    have k00 := (bx.ext hSw).c8
    have k10 := (by_.ext hSw).c8
    go_simp
    try with_reducible rfl
  try simp only [Act.put]
  try simp only [List.setIfInBounds_toArray]
  try simp only [List.set_cons_succ]
  try simp only [List.set_cons_zero]
  refine Late.two (i := 4) (i2 := 10) rfl rfl (by kernel_rfl) hAl (by kernel_rfl) (by kernel_rfl) (by kernel_rfl) (by kernel_rfl) hQ (fun w4 e4 E4 K hK => ?_) (fun w10 e10 E10 K hK => ?_)
  · have hx4 := (Ext.refl w4).alloc (.cells #[.bool s, .slice A n c, .bool t, .slice B m d, .bool u, .slice C i j, .bool v, .slice D k l] 26)
    have rA : RatsAt (w4.alloc (.cells #[.bool s, .slice A n c, .bool t, .slice B m d, .bool u, .slice C i j, .bool v, .slice D k l] 26)) w4.heap.size 0 [lo, lo'] L := RatsAt.of_box (Box.new w4 26 #[.bool s, .slice A n c, .bool t, .slice B m d, .bool u, .slice C i j, .bool v, .slice D k l]) (.cons ((h.low.ext (ext.trans E4)).ext hx4) (.cons ((h'.low.ext (ext.trans E4)).ext hx4) .nil))
    go_simp
    refine hK.out _ _ hx4 ?_
    clear hK K
    try simp only [Act.put]
    try simp only [List.setIfInBounds_toArray]
    try simp only [List.set_cons_succ]
    try simp only [List.set_cons_zero]
    generalize w4.heap.size = gA at rA ⊢
    refine Late.two (i := 5) (i2 := 10) rfl rfl (by kernel_rfl) hAl (by kernel_rfl) (by kernel_rfl) (by kernel_rfl) (by kernel_rfl) hQ (fun w5 e5 E5 K hK => ?_) (fun w10 e10 E10 K hK => ?_)
    · go_simp
      (go_at_call 82; refine (p_enclose (rA.ext e5) (n := 2) (by rfl) (by omega) (by omega) (by omega)).mono ?_; rintro e wk5 ⟨pA, qA, huA, s71_, A71_, n71_, c71_, t71_, B71_, m71_, d71_, s72_, A72_, n72_, c72_, t72_, B72_, m72_, d72_, rfl, yA, hx5⟩; have HA := Lib.hid (hull2_hi huA); clear huA rA)
      refine hK.out _ _ hx5 ?_
      clear hK K
      try simp only [Act.put]
      try simp only [List.setIfInBounds_toArray]
      try simp only [List.set_cons_succ]
      try simp only [List.set_cons_zero]
      refine Late.call (i := 10) rfl (by kernel_rfl) hAl (by kernel_rfl) (by kernel_rfl) (by kernel_rfl) hQ (fun w10 e10 E10 K hK => ?_)
      have hx10 := (Ext.refl w10).alloc (.cells #[.bool s', .slice A' n' c', .bool t', .slice B' m' d', .bool u', .slice C' i' j', .bool v', .slice D' k' l'] 26)
      have rB : RatsAt (w10.alloc (.cells #[.bool s', .slice A' n' c', .bool t', .slice B' m' d', .bool u', .slice C' i' j', .bool v', .slice D' k' l'] 26)) w10.heap.size 0 [hi, hi'] L := RatsAt.of_box (Box.new w10 26 #[.bool s', .slice A' n' c', .bool t', .slice B' m' d', .bool u', .slice C' i' j', .bool v', .slice D' k' l']) (.cons ((h.high.ext (ext.trans E10)).ext hx10) (.cons ((h'.high.ext (ext.trans E10)).ext hx10) .nil))
      go_simp
      refine hK.out _ _ hx10 ?_
      clear hK K
      try simp only [Act.put]
      try simp only [List.setIfInBounds_toArray]
      try simp only [List.set_cons_succ]
      try simp only [List.set_cons_zero]
      generalize w10.heap.size = gB at rB ⊢
      refine Late.call (i := 11) rfl (by kernel_rfl) hAl (by kernel_rfl) (by kernel_rfl) (by kernel_rfl) hQ (fun w11 e11 E11 K hK => ?_)
      go_simp
      (go_at_call 82; refine (p_enclose (rB.ext e11) (n := 2) (by rfl) (by omega) (by omega) (by omega)).mono ?_; rintro e wk11 ⟨pB, qB, huB, s81_, A81_, n81_, c81_, t81_, B81_, m81_, d81_, s82_, A82_, n82_, c82_, t82_, B82_, m82_, d82_, rfl, yB, hx11⟩; have HB := Lib.hid (hull2_lo huB); clear huB rB)
      refine hK.out _ _ hx11 ?_
      clear hK K
      try simp only [Act.put]
      try simp only [List.setIfInBounds_toArray]
      try simp only [List.set_cons_succ]
      try simp only [List.set_cons_zero]
      refine Late.finish2 (hAl _ (by simp)) (hAl _ (by simp)) (by decide) (by decide) (by kernel_rfl) (by kernel_rfl) (by kernel_rfl) (fun wz g5 g6 ez Ez lg5 lg6 hne xb1 xb2 => ?_)
      clear hAl hQ ES
      have p10 := xb1.cell 0 _ rfl
      have f10 := xb1.frozen 0
      have p11 := xb1.cell 1 _ rfl
      have f11 := xb1.frozen 1
      have p12 := xb1.cell 2 _ rfl
      have f12 := xb1.frozen 2
      have p13 := xb1.cell 3 _ rfl
      have f13 := xb1.frozen 3
      have p14 := xb1.cell 4 _ rfl
      have f14 := xb1.frozen 4
      have p15 := xb1.cell 5 _ rfl
      have f15 := xb1.frozen 5
      have p16 := xb1.cell 6 _ rfl
      have f16 := xb1.frozen 6
      have p17 := xb1.cell 7 _ rfl
      have f17 := xb1.frozen 7
      try simp only [Act.put]
      try simp only [List.setIfInBounds_toArray]
      try simp only [List.set_cons_succ]
      try simp only [List.set_cons_zero]
      have e8 := fin_oct (T := 28) (v0 := (.bool s71_)) (v1 := (.slice A71_ n71_ c71_)) (v2 := (.bool t71_)) (v3 := (.slice B71_ m71_ d71_)) (v4 := (.bool s72_)) (v5 := (.slice A72_ n72_ c72_)) (v6 := (.bool t72_)) (v7 := (.slice B72_ m72_ d72_)) xb1
      refine wpAnyH_ready (rs := [14]) (by kernel_rfl) (by simp) (AllReadyH.cons rfl (fun K hK => ?_) AllReadyH.nil)
      go_simp
      refine hK.out _ _ (e8.2.2.1 _ Ez lg5) (fun _ => ?_)
      clear hK K
      try simp only [Act.put]
      try simp only [List.setIfInBounds_toArray]
      try simp only [List.set_cons_succ]
      try simp only [List.set_cons_zero]
      refine any_world (fun U => Ext W U ∧ Box U g5 28 #[.bool s71_, .slice A71_ n71_ c71_, .bool t71_, .slice B71_ m71_ d71_, .bool s72_, .slice A72_ n72_ c72_, .bool t72_, .slice B72_ m72_ d72_] ∧ Box U g6 28 #[Value.bool false, Value.slice none 0 0, Value.bool false, Value.slice none 0 0, Value.bool false, Value.slice none 0 0, Value.bool false, Value.slice none 0 0] ∧ IV U pA qA L s71_ A71_ n71_ c71_ t71_ B71_ m71_ d71_ s72_ A72_ n72_ c72_ t72_ B72_ m72_ d72_ ∧ IV U pB qB L s81_ A81_ n81_ c81_ t81_ B81_ m81_ d81_ s82_ A82_ n82_ c82_ t82_ B82_ m82_ d82_) ⟨e8.2.2.1 _ Ez lg5, e8.1, e8.2.2.2 _ _ _ (Ne.symm hne) xb2, ⟨⟨e8.2.1 _ _ _ _ _ _ (yA.ext (e10.trans (hx10.trans (e11.trans (hx11.trans ez))))).low.num, e8.2.1 _ _ _ _ _ _ (yA.ext (e10.trans (hx10.trans (e11.trans (hx11.trans ez))))).low.den⟩, ⟨e8.2.1 _ _ _ _ _ _ (yA.ext (e10.trans (hx10.trans (e11.trans (hx11.trans ez))))).high.num, e8.2.1 _ _ _ _ _ _ (yA.ext (e10.trans (hx10.trans (e11.trans (hx11.trans ez))))).high.den⟩⟩, ⟨⟨e8.2.1 _ _ _ _ _ _ (yB.ext ez).low.num, e8.2.1 _ _ _ _ _ _ (yB.ext ez).low.den⟩, ⟨e8.2.1 _ _ _ _ _ _ (yB.ext ez).high.num, e8.2.1 _ _ _ _ _ _ (yB.ext ez).high.den⟩⟩⟩ ?_
      clear e8 xb1 xb2 yA yB p10 f10 p11 f11 p12 f12 p13 f13 p14 f14 p15 f15 p16 f16 p17 f17
      rintro U ⟨EU, xb1, xb2, yA, yB⟩
      have p10 := xb2.cell 0 _ rfl
      have f10 := xb2.frozen 0
      have p11 := xb2.cell 1 _ rfl
      have f11 := xb2.frozen 1
      have p12 := xb2.cell 2 _ rfl
      have f12 := xb2.frozen 2
      have p13 := xb2.cell 3 _ rfl
      have f13 := xb2.frozen 3
      have p14 := xb2.cell 4 _ rfl
      have f14 := xb2.frozen 4
      have p15 := xb2.cell 5 _ rfl
      have f15 := xb2.frozen 5
      have p16 := xb2.cell 6 _ rfl
      have f16 := xb2.frozen 6
      have p17 := xb2.cell 7 _ rfl
      have f17 := xb2.frozen 7
      have e8 := fin_oct (T := 28) (v0 := (.bool s81_)) (v1 := (.slice A81_ n81_ c81_)) (v2 := (.bool t81_)) (v3 := (.slice B81_ m81_ d81_)) (v4 := (.bool s82_)) (v5 := (.slice A82_ n82_ c82_)) (v6 := (.bool t82_)) (v7 := (.slice B82_ m82_ d82_)) xb2
      refine wpAnyH_ready (rs := [15]) (by kernel_rfl) (by simp) (AllReadyH.cons rfl (fun K hK => ?_) AllReadyH.nil)
      go_simp
      refine hK.out _ _ (e8.2.2.1 _ EU lg6) (fun _ => ?_)
      clear hK K
      try simp only [Act.put]
      try simp only [List.setIfInBounds_toArray]
      try simp only [List.set_cons_succ]
      try simp only [List.set_cons_zero]
      refine any_world (fun X => Ext W X ∧ Box X g5 28 #[.bool s71_, .slice A71_ n71_ c71_, .bool t71_, .slice B71_ m71_ d71_, .bool s72_, .slice A72_ n72_ c72_, .bool t72_, .slice B72_ m72_ d72_] ∧ Box X g6 28 #[.bool s81_, .slice A81_ n81_ c81_, .bool t81_, .slice B81_ m81_ d81_, .bool s82_, .slice A82_ n82_ c82_, .bool t82_, .slice B82_ m82_ d82_] ∧ IV X pA qA L s71_ A71_ n71_ c71_ t71_ B71_ m71_ d71_ s72_ A72_ n72_ c72_ t72_ B72_ m72_ d72_ ∧ IV X pB qB L s81_ A81_ n81_ c81_ t81_ B81_ m81_ d81_ s82_ A82_ n82_ c82_ t82_ B82_ m82_ d82_) ⟨e8.2.2.1 _ EU lg6, e8.2.2.2 _ _ _ hne xb1, e8.1, ⟨⟨e8.2.1 _ _ _ _ _ _ yA.low.num, e8.2.1 _ _ _ _ _ _ yA.low.den⟩, ⟨e8.2.1 _ _ _ _ _ _ yA.high.num, e8.2.1 _ _ _ _ _ _ yA.high.den⟩⟩, ⟨⟨e8.2.1 _ _ _ _ _ _ yB.low.num, e8.2.1 _ _ _ _ _ _ yB.low.den⟩, ⟨e8.2.1 _ _ _ _ _ _ yB.high.num, e8.2.1 _ _ _ _ _ _ yB.high.den⟩⟩⟩ ?_
      clear e8 xb1 xb2 yA yB EU Ez p10 f10 p11 f11 p12 f12 p13 f13 p14 f14 p15 f15 p16 f16 p17 f17
      rintro X ⟨EX, xb1, xb2, yA, yB⟩
      have hqA := HA.out
      have hpB := HB.out
      subst hqA hpB
      refine wpAnyH_done (by kernel_rfl) ?_ _
      replace bz := bz.ext EX
      replace ext := ext.trans EX
      clear EX
      have k0 := xb1.cell 0 (.bool s71_) rfl
      have k1 := xb1.cell 1 (.slice A71_ n71_ c71_) rfl
      have k2 := xb1.cell 2 (.bool t71_) rfl
      have k3 := xb1.cell 3 (.slice B71_ m71_ d71_) rfl
      have k4 := xb1.cell 4 (.bool s72_) rfl
      have k5 := xb1.cell 5 (.slice A72_ n72_ c72_) rfl
      have k6 := xb1.cell 6 (.bool t72_) rfl
      have k7 := xb1.cell 7 (.slice B72_ m72_ d72_) rfl
      have x0 := xb2.cell 0 (.bool s81_) rfl
      have x1 := xb2.cell 1 (.slice A81_ n81_ c81_) rfl
      have x2 := xb2.cell 2 (.bool t81_) rfl
      have x3 := xb2.cell 3 (.slice B81_ m81_ d81_) rfl
      have x4 := xb2.cell 4 (.bool s82_) rfl
      have x5 := xb2.cell 5 (.slice A82_ n82_ c82_) rfl
      have x6 := xb2.cell 6 (.bool t82_) rfl
      have x7 := xb2.cell 7 (.slice B82_ m82_ d82_) rfl
      go_wp2_with fail
      refine (p_CmpR yA.high yB.low (by omega) (by omega) (by omega)).mono ?_
      rintro e Wc ⟨rfl, hxt⟩
      rw [HU.out]
      replace bz := bz.ext hxt
      replace xb1 := xb1.ext hxt
      replace xb2 := xb2.ext hxt
      replace yA := yA.ext hxt
      replace yB := yB.ext hxt
      replace ext := ext.trans hxt
      clear hxt k0 k1 k2 k3 k4 k5 k6 k7 x0 x1 x2 x3 x4 x5 x6 x7
      have k0 := xb1.cell 0 (.bool s71_) rfl
      have k1 := xb1.cell 1 (.slice A71_ n71_ c71_) rfl
      have k2 := xb1.cell 2 (.bool t71_) rfl
      have k3 := xb1.cell 3 (.slice B71_ m71_ d71_) rfl
      have k4 := xb1.cell 4 (.bool s72_) rfl
      have k5 := xb1.cell 5 (.slice A72_ n72_ c72_) rfl
      have k6 := xb1.cell 6 (.bool t72_) rfl
      have k7 := xb1.cell 7 (.slice B72_ m72_ d72_) rfl
      have x0 := xb2.cell 0 (.bool s81_) rfl
      have x1 := xb2.cell 1 (.slice A81_ n81_ c81_) rfl
      have x2 := xb2.cell 2 (.bool t81_) rfl
      have x3 := xb2.cell 3 (.slice B81_ m81_ d81_) rfl
      have x4 := xb2.cell 4 (.bool s82_) rfl
      have x5 := xb2.cell 5 (.slice A82_ n82_ c82_) rfl
      have x6 := xb2.cell 6 (.bool t82_) rfl
      have x7 := xb2.cell 7 (.slice B82_ m82_ d82_) rfl
      have hx1 := Ext.refl Wc
      have z0 := (bz.ext hx1).cell 0 _ rfl
      have f0 := (bz.ext hx1).frozen 0
      have z1 := (bz.ext hx1).cell 1 _ rfl
      have f1 := (bz.ext hx1).frozen 1
      have z2 := (bz.ext hx1).cell 2 _ rfl
      have f2 := (bz.ext hx1).frozen 2
      have z3 := (bz.ext hx1).cell 3 _ rfl
      have f3 := (bz.ext hx1).frozen 3
      have z4 := (bz.ext hx1).cell 4 _ rfl
      have f4 := (bz.ext hx1).frozen 4
      have z5 := (bz.ext hx1).cell 5 _ rfl
      have f5 := (bz.ext hx1).frozen 5
      have z6 := (bz.ext hx1).cell 6 _ rfl
      have f6 := (bz.ext hx1).frozen 6
      have z7 := (bz.ext hx1).cell 7 _ rfl
      have f7 := (bz.ext hx1).frozen 7
      go_wp2_with fail
      obtain ⟨b1, b2, b3, b4⟩ := fin_oct (v0 := (.bool s72_)) (v1 := (.slice A72_ n72_ c72_)) (v2 := (.bool t72_)) (v3 := (.slice B72_ m72_ d72_)) (v4 := (.bool s81_)) (v5 := (.slice A81_ n81_ c81_)) (v6 := (.bool t81_)) (v7 := (.slice B81_ m81_ d81_)) (bz.ext hx1)
      have r0 := b1.cell 0 (.bool s72_) rfl
      have r1 := b1.cell 1 (.slice A72_ n72_ c72_) rfl
      have r2 := b1.cell 2 (.bool t72_) rfl
      have r3 := b1.cell 3 (.slice B72_ m72_ d72_) rfl
      have r4 := b1.cell 4 (.bool s81_) rfl
      have r5 := b1.cell 5 (.slice A81_ n81_ c81_) rfl
      have r6 := b1.cell 6 (.bool t81_) rfl
      have r7 := b1.cell 7 (.slice B81_ m81_ d81_) rfl
      unfold set8 at r0 r1 r2 r3 r4 r5 r6 r7
      have q1 := b2 _ _ _ _ _ _ yA.high.num
      have q2 := b2 _ _ _ _ _ _ yA.high.den
      have q3 := b2 _ _ _ _ _ _ yB.low.num
      have q4 := b2 _ _ _ _ _ _ yB.low.den
      refine bodyPost_ret (v := .tuple #[.agg #[.bool s72_, .slice A72_ n72_ c72_, .bool t72_, .slice B72_ m72_ d72_, .bool s81_, .slice A81_ n81_ c81_, .bool t81_, .slice B81_ m81_ d81_], .bool true]) (by simp [results, Tryz.results41, go_sem, r0, r1, r2, r3, r4, r5, r6, r7]) rfl (.inl ⟨HC.out, s72_, A72_, n72_, c72_, t72_, B72_, m72_, d72_, s81_, A81_, n81_, c81_, t81_, B81_, m81_, d81_, rfl, ⟨⟨q1, q2⟩, ⟨q3, q4⟩⟩, b3 _ (ext.trans hx1) (by omega)⟩)
    · have hx10 := (Ext.refl w10).alloc (.cells #[.bool s', .slice A' n' c', .bool t', .slice B' m' d', .bool u', .slice C' i' j', .bool v', .slice D' k' l'] 26)
      have rB : RatsAt (w10.alloc (.cells #[.bool s', .slice A' n' c', .bool t', .slice B' m' d', .bool u', .slice C' i' j', .bool v', .slice D' k' l'] 26)) w10.heap.size 0 [hi, hi'] L := RatsAt.of_box (Box.new w10 26 #[.bool s', .slice A' n' c', .bool t', .slice B' m' d', .bool u', .slice C' i' j', .bool v', .slice D' k' l']) (.cons ((h.high.ext (ext.trans E10)).ext hx10) (.cons ((h'.high.ext (ext.trans E10)).ext hx10) .nil))
      go_simp
      refine hK.out _ _ hx10 ?_
      clear hK K
      try simp only [Act.put]
      try simp only [List.setIfInBounds_toArray]
      try simp only [List.set_cons_succ]
      try simp only [List.set_cons_zero]
      generalize w10.heap.size = gB at rB ⊢
      refine Late.call (i := 5) rfl (by kernel_rfl) hAl (by kernel_rfl) (by kernel_rfl) (by kernel_rfl) hQ (fun w5 e5 E5 K hK => ?_)
      go_simp
      (go_at_call 82; refine (p_enclose (rA.ext (e10.trans (hx10.trans e5))) (n := 2) (by rfl) (by omega) (by omega) (by omega)).mono ?_; rintro e wk5 ⟨pA, qA, huA, s71_, A71_, n71_, c71_, t71_, B71_, m71_, d71_, s72_, A72_, n72_, c72_, t72_, B72_, m72_, d72_, rfl, yA, hx5⟩; have HA := Lib.hid (hull2_hi huA); clear huA rA)
      refine hK.out _ _ hx5 ?_
      clear hK K
      try simp only [Act.put]
      try simp only [List.setIfInBounds_toArray]
      try simp only [List.set_cons_succ]
      try simp only [List.set_cons_zero]
      refine Late.call (i := 11) rfl (by kernel_rfl) hAl (by kernel_rfl) (by kernel_rfl) (by kernel_rfl) hQ (fun w11 e11 E11 K hK => ?_)
      go_simp
      (go_at_call 82; refine (p_enclose (rB.ext (e5.trans (hx5.trans e11))) (n := 2) (by rfl) (by omega) (by omega) (by omega)).mono ?_; rintro e wk11 ⟨pB, qB, huB, s81_, A81_, n81_, c81_, t81_, B81_, m81_, d81_, s82_, A82_, n82_, c82_, t82_, B82_, m82_, d82_, rfl, yB, hx11⟩; have HB := Lib.hid (hull2_lo huB); clear huB rB)
      refine hK.out _ _ hx11 ?_
      clear hK K
      try simp only [Act.put]
      try simp only [List.setIfInBounds_toArray]
      try simp only [List.set_cons_succ]
      try simp only [List.set_cons_zero]
      refine Late.finish2 (hAl _ (by simp)) (hAl _ (by simp)) (by decide) (by decide) (by kernel_rfl) (by kernel_rfl) (by kernel_rfl) (fun wz g5 g6 ez Ez lg5 lg6 hne xb1 xb2 => ?_)
      clear hAl hQ ES
      have p10 := xb1.cell 0 _ rfl
      have f10 := xb1.frozen 0
      have p11 := xb1.cell 1 _ rfl
      have f11 := xb1.frozen 1
      have p12 := xb1.cell 2 _ rfl
      have f12 := xb1.frozen 2
      have p13 := xb1.cell 3 _ rfl
      have f13 := xb1.frozen 3
      have p14 := xb1.cell 4 _ rfl
      have f14 := xb1.frozen 4
      have p15 := xb1.cell 5 _ rfl
      have f15 := xb1.frozen 5
      have p16 := xb1.cell 6 _ rfl
      have f16 := xb1.frozen 6
      have p17 := xb1.cell 7 _ rfl
      have f17 := xb1.frozen 7
      try simp only [Act.put]
      try simp only [List.setIfInBounds_toArray]
      try simp only [List.set_cons_succ]
      try simp only [List.set_cons_zero]
      have e8 := fin_oct (T := 28) (v0 := (.bool s71_)) (v1 := (.slice A71_ n71_ c71_)) (v2 := (.bool t71_)) (v3 := (.slice B71_ m71_ d71_)) (v4 := (.bool s72_)) (v5 := (.slice A72_ n72_ c72_)) (v6 := (.bool t72_)) (v7 := (.slice B72_ m72_ d72_)) xb1
      refine wpAnyH_ready (rs := [14]) (by kernel_rfl) (by simp) (AllReadyH.cons rfl (fun K hK => ?_) AllReadyH.nil)
      go_simp
      refine hK.out _ _ (e8.2.2.1 _ Ez lg5) (fun _ => ?_)
      clear hK K
      try simp only [Act.put]
      try simp only [List.setIfInBounds_toArray]
      try simp only [List.set_cons_succ]
      try simp only [List.set_cons_zero]
      refine any_world (fun U => Ext W U ∧ Box U g5 28 #[.bool s71_, .slice A71_ n71_ c71_, .bool t71_, .slice B71_ m71_ d71_, .bool s72_, .slice A72_ n72_ c72_, .bool t72_, .slice B72_ m72_ d72_] ∧ Box U g6 28 #[Value.bool false, Value.slice none 0 0, Value.bool false, Value.slice none 0 0, Value.bool false, Value.slice none 0 0, Value.bool false, Value.slice none 0 0] ∧ IV U pA qA L s71_ A71_ n71_ c71_ t71_ B71_ m71_ d71_ s72_ A72_ n72_ c72_ t72_ B72_ m72_ d72_ ∧ IV U pB qB L s81_ A81_ n81_ c81_ t81_ B81_ m81_ d81_ s82_ A82_ n82_ c82_ t82_ B82_ m82_ d82_) ⟨e8.2.2.1 _ Ez lg5, e8.1, e8.2.2.2 _ _ _ (Ne.symm hne) xb2, ⟨⟨e8.2.1 _ _ _ _ _ _ (yA.ext (e11.trans (hx11.trans ez))).low.num, e8.2.1 _ _ _ _ _ _ (yA.ext (e11.trans (hx11.trans ez))).low.den⟩, ⟨e8.2.1 _ _ _ _ _ _ (yA.ext (e11.trans (hx11.trans ez))).high.num, e8.2.1 _ _ _ _ _ _ (yA.ext (e11.trans (hx11.trans ez))).high.den⟩⟩, ⟨⟨e8.2.1 _ _ _ _ _ _ (yB.ext ez).low.num, e8.2.1 _ _ _ _ _ _ (yB.ext ez).low.den⟩, ⟨e8.2.1 _ _ _ _ _ _ (yB.ext ez).high.num, e8.2.1 _ _ _ _ _ _ (yB.ext ez).high.den⟩⟩⟩ ?_
      clear e8 xb1 xb2 yA yB p10 f10 p11 f11 p12 f12 p13 f13 p14 f14 p15 f15 p16 f16 p17 f17
      rintro U ⟨EU, xb1, xb2, yA, yB⟩
      have p10 := xb2.cell 0 _ rfl
      have f10 := xb2.frozen 0
      have p11 := xb2.cell 1 _ rfl
      have f11 := xb2.frozen 1
      have p12 := xb2.cell 2 _ rfl
      have f12 := xb2.frozen 2
      have p13 := xb2.cell 3 _ rfl
      have f13 := xb2.frozen 3
      have p14 := xb2.cell 4 _ rfl
      have f14 := xb2.frozen 4
      have p15 := xb2.cell 5 _ rfl
      have f15 := xb2.frozen 5
      have p16 := xb2.cell 6 _ rfl
      have f16 := xb2.frozen 6
      have p17 := xb2.cell 7 _ rfl
      have f17 := xb2.frozen 7
      have e8 := fin_oct (T := 28) (v0 := (.bool s81_)) (v1 := (.slice A81_ n81_ c81_)) (v2 := (.bool t81_)) (v3 := (.slice B81_ m81_ d81_)) (v4 := (.bool s82_)) (v5 := (.slice A82_ n82_ c82_)) (v6 := (.bool t82_)) (v7 := (.slice B82_ m82_ d82_)) xb2
      refine wpAnyH_ready (rs := [15]) (by kernel_rfl) (by simp) (AllReadyH.cons rfl (fun K hK => ?_) AllReadyH.nil)
      go_simp
      refine hK.out _ _ (e8.2.2.1 _ EU lg6) (fun _ => ?_)
      clear hK K
      try simp only [Act.put]
      try simp only [List.setIfInBounds_toArray]
      try simp only [List.set_cons_succ]
      try simp only [List.set_cons_zero]
      refine any_world (fun X => Ext W X ∧ Box X g5 28 #[.bool s71_, .slice A71_ n71_ c71_, .bool t71_, .slice B71_ m71_ d71_, .bool s72_, .slice A72_ n72_ c72_, .bool t72_, .slice B72_ m72_ d72_] ∧ Box X g6 28 #[.bool s81_, .slice A81_ n81_ c81_, .bool t81_, .slice B81_ m81_ d81_, .bool s82_, .slice A82_ n82_ c82_, .bool t82_, .slice B82_ m82_ d82_] ∧ IV X pA qA L s71_ A71_ n71_ c71_ t71_ B71_ m71_ d71_ s72_ A72_ n72_ c72_ t72_ B72_ m72_ d72_ ∧ IV X pB qB L s81_ A81_ n81_ c81_ t81_ B81_ m81_ d81_ s82_ A82_ n82_ c82_ t82_ B82_ m82_ d82_) ⟨e8.2.2.1 _ EU lg6, e8.2.2.2 _ _ _ hne xb1, e8.1, ⟨⟨e8.2.1 _ _ _ _ _ _ yA.low.num, e8.2.1 _ _ _ _ _ _ yA.low.den⟩, ⟨e8.2.1 _ _ _ _ _ _ yA.high.num, e8.2.1 _ _ _ _ _ _ yA.high.den⟩⟩, ⟨⟨e8.2.1 _ _ _ _ _ _ yB.low.num, e8.2.1 _ _ _ _ _ _ yB.low.den⟩, ⟨e8.2.1 _ _ _ _ _ _ yB.high.num, e8.2.1 _ _ _ _ _ _ yB.high.den⟩⟩⟩ ?_
      clear e8 xb1 xb2 yA yB EU Ez p10 f10 p11 f11 p12 f12 p13 f13 p14 f14 p15 f15 p16 f16 p17 f17
      rintro X ⟨EX, xb1, xb2, yA, yB⟩
      have hqA := HA.out
      have hpB := HB.out
      subst hqA hpB
      refine wpAnyH_done (by kernel_rfl) ?_ _
      replace bz := bz.ext EX
      replace ext := ext.trans EX
      clear EX
      have k0 := xb1.cell 0 (.bool s71_) rfl
      have k1 := xb1.cell 1 (.slice A71_ n71_ c71_) rfl
      have k2 := xb1.cell 2 (.bool t71_) rfl
      have k3 := xb1.cell 3 (.slice B71_ m71_ d71_) rfl
      have k4 := xb1.cell 4 (.bool s72_) rfl
      have k5 := xb1.cell 5 (.slice A72_ n72_ c72_) rfl
      have k6 := xb1.cell 6 (.bool t72_) rfl
      have k7 := xb1.cell 7 (.slice B72_ m72_ d72_) rfl
      have x0 := xb2.cell 0 (.bool s81_) rfl
      have x1 := xb2.cell 1 (.slice A81_ n81_ c81_) rfl
      have x2 := xb2.cell 2 (.bool t81_) rfl
      have x3 := xb2.cell 3 (.slice B81_ m81_ d81_) rfl
      have x4 := xb2.cell 4 (.bool s82_) rfl
      have x5 := xb2.cell 5 (.slice A82_ n82_ c82_) rfl
      have x6 := xb2.cell 6 (.bool t82_) rfl
      have x7 := xb2.cell 7 (.slice B82_ m82_ d82_) rfl
      go_wp2_with fail
      refine (p_CmpR yA.high yB.low (by omega) (by omega) (by omega)).mono ?_
      rintro e Wc ⟨rfl, hxt⟩
      rw [HU.out]
      replace bz := bz.ext hxt
      replace xb1 := xb1.ext hxt
      replace xb2 := xb2.ext hxt
      replace yA := yA.ext hxt
      replace yB := yB.ext hxt
      replace ext := ext.trans hxt
      clear hxt k0 k1 k2 k3 k4 k5 k6 k7 x0 x1 x2 x3 x4 x5 x6 x7
      have k0 := xb1.cell 0 (.bool s71_) rfl
      have k1 := xb1.cell 1 (.slice A71_ n71_ c71_) rfl
      have k2 := xb1.cell 2 (.bool t71_) rfl
      have k3 := xb1.cell 3 (.slice B71_ m71_ d71_) rfl
      have k4 := xb1.cell 4 (.bool s72_) rfl
      have k5 := xb1.cell 5 (.slice A72_ n72_ c72_) rfl
      have k6 := xb1.cell 6 (.bool t72_) rfl
      have k7 := xb1.cell 7 (.slice B72_ m72_ d72_) rfl
      have x0 := xb2.cell 0 (.bool s81_) rfl
      have x1 := xb2.cell 1 (.slice A81_ n81_ c81_) rfl
      have x2 := xb2.cell 2 (.bool t81_) rfl
      have x3 := xb2.cell 3 (.slice B81_ m81_ d81_) rfl
      have x4 := xb2.cell 4 (.bool s82_) rfl
      have x5 := xb2.cell 5 (.slice A82_ n82_ c82_) rfl
      have x6 := xb2.cell 6 (.bool t82_) rfl
      have x7 := xb2.cell 7 (.slice B82_ m82_ d82_) rfl
      have hx1 := Ext.refl Wc
      have z0 := (bz.ext hx1).cell 0 _ rfl
      have f0 := (bz.ext hx1).frozen 0
      have z1 := (bz.ext hx1).cell 1 _ rfl
      have f1 := (bz.ext hx1).frozen 1
      have z2 := (bz.ext hx1).cell 2 _ rfl
      have f2 := (bz.ext hx1).frozen 2
      have z3 := (bz.ext hx1).cell 3 _ rfl
      have f3 := (bz.ext hx1).frozen 3
      have z4 := (bz.ext hx1).cell 4 _ rfl
      have f4 := (bz.ext hx1).frozen 4
      have z5 := (bz.ext hx1).cell 5 _ rfl
      have f5 := (bz.ext hx1).frozen 5
      have z6 := (bz.ext hx1).cell 6 _ rfl
      have f6 := (bz.ext hx1).frozen 6
      have z7 := (bz.ext hx1).cell 7 _ rfl
      have f7 := (bz.ext hx1).frozen 7
      go_wp2_with fail
      obtain ⟨b1, b2, b3, b4⟩ := fin_oct (v0 := (.bool s72_)) (v1 := (.slice A72_ n72_ c72_)) (v2 := (.bool t72_)) (v3 := (.slice B72_ m72_ d72_)) (v4 := (.bool s81_)) (v5 := (.slice A81_ n81_ c81_)) (v6 := (.bool t81_)) (v7 := (.slice B81_ m81_ d81_)) (bz.ext hx1)
      have r0 := b1.cell 0 (.bool s72_) rfl
      have r1 := b1.cell 1 (.slice A72_ n72_ c72_) rfl
      have r2 := b1.cell 2 (.bool t72_) rfl
      have r3 := b1.cell 3 (.slice B72_ m72_ d72_) rfl
      have r4 := b1.cell 4 (.bool s81_) rfl
      have r5 := b1.cell 5 (.slice A81_ n81_ c81_) rfl
      have r6 := b1.cell 6 (.bool t81_) rfl
      have r7 := b1.cell 7 (.slice B81_ m81_ d81_) rfl
      unfold set8 at r0 r1 r2 r3 r4 r5 r6 r7
      have q1 := b2 _ _ _ _ _ _ yA.high.num
      have q2 := b2 _ _ _ _ _ _ yA.high.den
      have q3 := b2 _ _ _ _ _ _ yB.low.num
      have q4 := b2 _ _ _ _ _ _ yB.low.den
      refine bodyPost_ret (v := .tuple #[.agg #[.bool s72_, .slice A72_ n72_ c72_, .bool t72_, .slice B72_ m72_ d72_, .bool s81_, .slice A81_ n81_ c81_, .bool t81_, .slice B81_ m81_ d81_], .bool true]) (by simp [results, Tryz.results41, go_sem, r0, r1, r2, r3, r4, r5, r6, r7]) rfl (.inl ⟨HC.out, s72_, A72_, n72_, c72_, t72_, B72_, m72_, d72_, s81_, A81_, n81_, c81_, t81_, B81_, m81_, d81_, rfl, ⟨⟨q1, q2⟩, ⟨q3, q4⟩⟩, b3 _ (ext.trans hx1) (by omega)⟩)
  · have hx10 := (Ext.refl w10).alloc (.cells #[.bool s', .slice A' n' c', .bool t', .slice B' m' d', .bool u', .slice C' i' j', .bool v', .slice D' k' l'] 26)
    have rB : RatsAt (w10.alloc (.cells #[.bool s', .slice A' n' c', .bool t', .slice B' m' d', .bool u', .slice C' i' j', .bool v', .slice D' k' l'] 26)) w10.heap.size 0 [hi, hi'] L := RatsAt.of_box (Box.new w10 26 #[.bool s', .slice A' n' c', .bool t', .slice B' m' d', .bool u', .slice C' i' j', .bool v', .slice D' k' l']) (.cons ((h.high.ext (ext.trans E10)).ext hx10) (.cons ((h'.high.ext (ext.trans E10)).ext hx10) .nil))
    go_simp
    refine hK.out _ _ hx10 ?_
    clear hK K
    try simp only [Act.put]
    try simp only [List.setIfInBounds_toArray]
    try simp only [List.set_cons_succ]
    try simp only [List.set_cons_zero]
    generalize w10.heap.size = gB at rB ⊢
    refine Late.call (i := 4) rfl (by kernel_rfl) hAl (by kernel_rfl) (by kernel_rfl) (by kernel_rfl) hQ (fun w4 e4 E4 K hK => ?_)
    have hx4 := (Ext.refl w4).alloc (.cells #[.bool s, .slice A n c, .bool t, .slice B m d, .bool u, .slice C i j, .bool v, .slice D k l] 26)
    have rA : RatsAt (w4.alloc (.cells #[.bool s, .slice A n c, .bool t, .slice B m d, .bool u, .slice C i j, .bool v, .slice D k l] 26)) w4.heap.size 0 [lo, lo'] L := RatsAt.of_box (Box.new w4 26 #[.bool s, .slice A n c, .bool t, .slice B m d, .bool u, .slice C i j, .bool v, .slice D k l]) (.cons ((h.low.ext (ext.trans E4)).ext hx4) (.cons ((h'.low.ext (ext.trans E4)).ext hx4) .nil))
    go_simp
    refine hK.out _ _ hx4 ?_
    clear hK K
    try simp only [Act.put]
    try simp only [List.setIfInBounds_toArray]
    try simp only [List.set_cons_succ]
    try simp only [List.set_cons_zero]
    generalize w4.heap.size = gA at rA ⊢
    refine Late.call (i := 5) rfl (by kernel_rfl) hAl (by kernel_rfl) (by kernel_rfl) (by kernel_rfl) hQ (fun w5 e5 E5 K hK => ?_)
    go_simp
    (go_at_call 82; refine (p_enclose (rA.ext e5) (n := 2) (by rfl) (by omega) (by omega) (by omega)).mono ?_; rintro e wk5 ⟨pA, qA, huA, s71_, A71_, n71_, c71_, t71_, B71_, m71_, d71_, s72_, A72_, n72_, c72_, t72_, B72_, m72_, d72_, rfl, yA, hx5⟩; have HA := Lib.hid (hull2_hi huA); clear huA rA)
    refine hK.out _ _ hx5 ?_
    clear hK K
    try simp only [Act.put]
    try simp only [List.setIfInBounds_toArray]
    try simp only [List.set_cons_succ]
    try simp only [List.set_cons_zero]
    refine Late.call (i := 11) rfl (by kernel_rfl) hAl (by kernel_rfl) (by kernel_rfl) (by kernel_rfl) hQ (fun w11 e11 E11 K hK => ?_)
    go_simp
    (go_at_call 82; refine (p_enclose (rB.ext (e4.trans (hx4.trans (e5.trans (hx5.trans e11))))) (n := 2) (by rfl) (by omega) (by omega) (by omega)).mono ?_; rintro e wk11 ⟨pB, qB, huB, s81_, A81_, n81_, c81_, t81_, B81_, m81_, d81_, s82_, A82_, n82_, c82_, t82_, B82_, m82_, d82_, rfl, yB, hx11⟩; have HB := Lib.hid (hull2_lo huB); clear huB rB)
    refine hK.out _ _ hx11 ?_
    clear hK K
    try simp only [Act.put]
    try simp only [List.setIfInBounds_toArray]
    try simp only [List.set_cons_succ]
    try simp only [List.set_cons_zero]
    refine Late.finish2 (hAl _ (by simp)) (hAl _ (by simp)) (by decide) (by decide) (by kernel_rfl) (by kernel_rfl) (by kernel_rfl) (fun wz g5 g6 ez Ez lg5 lg6 hne xb1 xb2 => ?_)
    clear hAl hQ ES
    have p10 := xb1.cell 0 _ rfl
    have f10 := xb1.frozen 0
    have p11 := xb1.cell 1 _ rfl
    have f11 := xb1.frozen 1
    have p12 := xb1.cell 2 _ rfl
    have f12 := xb1.frozen 2
    have p13 := xb1.cell 3 _ rfl
    have f13 := xb1.frozen 3
    have p14 := xb1.cell 4 _ rfl
    have f14 := xb1.frozen 4
    have p15 := xb1.cell 5 _ rfl
    have f15 := xb1.frozen 5
    have p16 := xb1.cell 6 _ rfl
    have f16 := xb1.frozen 6
    have p17 := xb1.cell 7 _ rfl
    have f17 := xb1.frozen 7
    try simp only [Act.put]
    try simp only [List.setIfInBounds_toArray]
    try simp only [List.set_cons_succ]
    try simp only [List.set_cons_zero]
    have e8 := fin_oct (T := 28) (v0 := (.bool s71_)) (v1 := (.slice A71_ n71_ c71_)) (v2 := (.bool t71_)) (v3 := (.slice B71_ m71_ d71_)) (v4 := (.bool s72_)) (v5 := (.slice A72_ n72_ c72_)) (v6 := (.bool t72_)) (v7 := (.slice B72_ m72_ d72_)) xb1
    refine wpAnyH_ready (rs := [14]) (by kernel_rfl) (by simp) (AllReadyH.cons rfl (fun K hK => ?_) AllReadyH.nil)
    go_simp
    refine hK.out _ _ (e8.2.2.1 _ Ez lg5) (fun _ => ?_)
    clear hK K
    try simp only [Act.put]
    try simp only [List.setIfInBounds_toArray]
    try simp only [List.set_cons_succ]
    try simp only [List.set_cons_zero]
    refine any_world (fun U => Ext W U ∧ Box U g5 28 #[.bool s71_, .slice A71_ n71_ c71_, .bool t71_, .slice B71_ m71_ d71_, .bool s72_, .slice A72_ n72_ c72_, .bool t72_, .slice B72_ m72_ d72_] ∧ Box U g6 28 #[Value.bool false, Value.slice none 0 0, Value.bool false, Value.slice none 0 0, Value.bool false, Value.slice none 0 0, Value.bool false, Value.slice none 0 0] ∧ IV U pA qA L s71_ A71_ n71_ c71_ t71_ B71_ m71_ d71_ s72_ A72_ n72_ c72_ t72_ B72_ m72_ d72_ ∧ IV U pB qB L s81_ A81_ n81_ c81_ t81_ B81_ m81_ d81_ s82_ A82_ n82_ c82_ t82_ B82_ m82_ d82_) ⟨e8.2.2.1 _ Ez lg5, e8.1, e8.2.2.2 _ _ _ (Ne.symm hne) xb2, ⟨⟨e8.2.1 _ _ _ _ _ _ (yA.ext (e11.trans (hx11.trans ez))).low.num, e8.2.1 _ _ _ _ _ _ (yA.ext (e11.trans (hx11.trans ez))).low.den⟩, ⟨e8.2.1 _ _ _ _ _ _ (yA.ext (e11.trans (hx11.trans ez))).high.num, e8.2.1 _ _ _ _ _ _ (yA.ext (e11.trans (hx11.trans ez))).high.den⟩⟩, ⟨⟨e8.2.1 _ _ _ _ _ _ (yB.ext ez).low.num, e8.2.1 _ _ _ _ _ _ (yB.ext ez).low.den⟩, ⟨e8.2.1 _ _ _ _ _ _ (yB.ext ez).high.num, e8.2.1 _ _ _ _ _ _ (yB.ext ez).high.den⟩⟩⟩ ?_
    clear e8 xb1 xb2 yA yB p10 f10 p11 f11 p12 f12 p13 f13 p14 f14 p15 f15 p16 f16 p17 f17
    rintro U ⟨EU, xb1, xb2, yA, yB⟩
    have p10 := xb2.cell 0 _ rfl
    have f10 := xb2.frozen 0
    have p11 := xb2.cell 1 _ rfl
    have f11 := xb2.frozen 1
    have p12 := xb2.cell 2 _ rfl
    have f12 := xb2.frozen 2
    have p13 := xb2.cell 3 _ rfl
    have f13 := xb2.frozen 3
    have p14 := xb2.cell 4 _ rfl
    have f14 := xb2.frozen 4
    have p15 := xb2.cell 5 _ rfl
    have f15 := xb2.frozen 5
    have p16 := xb2.cell 6 _ rfl
    have f16 := xb2.frozen 6
    have p17 := xb2.cell 7 _ rfl
    have f17 := xb2.frozen 7
    have e8 := fin_oct (T := 28) (v0 := (.bool s81_)) (v1 := (.slice A81_ n81_ c81_)) (v2 := (.bool t81_)) (v3 := (.slice B81_ m81_ d81_)) (v4 := (.bool s82_)) (v5 := (.slice A82_ n82_ c82_)) (v6 := (.bool t82_)) (v7 := (.slice B82_ m82_ d82_)) xb2
    refine wpAnyH_ready (rs := [15]) (by kernel_rfl) (by simp) (AllReadyH.cons rfl (fun K hK => ?_) AllReadyH.nil)
    go_simp
    refine hK.out _ _ (e8.2.2.1 _ EU lg6) (fun _ => ?_)
    clear hK K
    try simp only [Act.put]
    try simp only [List.setIfInBounds_toArray]
    try simp only [List.set_cons_succ]
    try simp only [List.set_cons_zero]
    refine any_world (fun X => Ext W X ∧ Box X g5 28 #[.bool s71_, .slice A71_ n71_ c71_, .bool t71_, .slice B71_ m71_ d71_, .bool s72_, .slice A72_ n72_ c72_, .bool t72_, .slice B72_ m72_ d72_] ∧ Box X g6 28 #[.bool s81_, .slice A81_ n81_ c81_, .bool t81_, .slice B81_ m81_ d81_, .bool s82_, .slice A82_ n82_ c82_, .bool t82_, .slice B82_ m82_ d82_] ∧ IV X pA qA L s71_ A71_ n71_ c71_ t71_ B71_ m71_ d71_ s72_ A72_ n72_ c72_ t72_ B72_ m72_ d72_ ∧ IV X pB qB L s81_ A81_ n81_ c81_ t81_ B81_ m81_ d81_ s82_ A82_ n82_ c82_ t82_ B82_ m82_ d82_) ⟨e8.2.2.1 _ EU lg6, e8.2.2.2 _ _ _ hne xb1, e8.1, ⟨⟨e8.2.1 _ _ _ _ _ _ yA.low.num, e8.2.1 _ _ _ _ _ _ yA.low.den⟩, ⟨e8.2.1 _ _ _ _ _ _ yA.high.num, e8.2.1 _ _ _ _ _ _ yA.high.den⟩⟩, ⟨⟨e8.2.1 _ _ _ _ _ _ yB.low.num, e8.2.1 _ _ _ _ _ _ yB.low.den⟩, ⟨e8.2.1 _ _ _ _ _ _ yB.high.num, e8.2.1 _ _ _ _ _ _ yB.high.den⟩⟩⟩ ?_
    clear e8 xb1 xb2 yA yB EU Ez p10 f10 p11 f11 p12 f12 p13 f13 p14 f14 p15 f15 p16 f16 p17 f17
    rintro X ⟨EX, xb1, xb2, yA, yB⟩
    have hqA := HA.out
    have hpB := HB.out
    subst hqA hpB
    refine wpAnyH_done (by kernel_rfl) ?_ _
    replace bz := bz.ext EX
    replace ext := ext.trans EX
    clear EX
    have k0 := xb1.cell 0 (.bool s71_) rfl
    have k1 := xb1.cell 1 (.slice A71_ n71_ c71_) rfl
    have k2 := xb1.cell 2 (.bool t71_) rfl
    have k3 := xb1.cell 3 (.slice B71_ m71_ d71_) rfl
    have k4 := xb1.cell 4 (.bool s72_) rfl
    have k5 := xb1.cell 5 (.slice A72_ n72_ c72_) rfl
    have k6 := xb1.cell 6 (.bool t72_) rfl
    have k7 := xb1.cell 7 (.slice B72_ m72_ d72_) rfl
    have x0 := xb2.cell 0 (.bool s81_) rfl
    have x1 := xb2.cell 1 (.slice A81_ n81_ c81_) rfl
    have x2 := xb2.cell 2 (.bool t81_) rfl
    have x3 := xb2.cell 3 (.slice B81_ m81_ d81_) rfl
    have x4 := xb2.cell 4 (.bool s82_) rfl
    have x5 := xb2.cell 5 (.slice A82_ n82_ c82_) rfl
    have x6 := xb2.cell 6 (.bool t82_) rfl
    have x7 := xb2.cell 7 (.slice B82_ m82_ d82_) rfl
    go_wp2_with fail
    refine (p_CmpR yA.high yB.low (by omega) (by omega) (by omega)).mono ?_
    rintro e Wc ⟨rfl, hxt⟩
    rw [HU.out]
    replace bz := bz.ext hxt
    replace xb1 := xb1.ext hxt
    replace xb2 := xb2.ext hxt
    replace yA := yA.ext hxt
    replace yB := yB.ext hxt
    replace ext := ext.trans hxt
    clear hxt k0 k1 k2 k3 k4 k5 k6 k7 x0 x1 x2 x3 x4 x5 x6 x7
    have k0 := xb1.cell 0 (.bool s71_) rfl
    have k1 := xb1.cell 1 (.slice A71_ n71_ c71_) rfl
    have k2 := xb1.cell 2 (.bool t71_) rfl
    have k3 := xb1.cell 3 (.slice B71_ m71_ d71_) rfl
    have k4 := xb1.cell 4 (.bool s72_) rfl
    have k5 := xb1.cell 5 (.slice A72_ n72_ c72_) rfl
    have k6 := xb1.cell 6 (.bool t72_) rfl
    have k7 := xb1.cell 7 (.slice B72_ m72_ d72_) rfl
    have x0 := xb2.cell 0 (.bool s81_) rfl
    have x1 := xb2.cell 1 (.slice A81_ n81_ c81_) rfl
    have x2 := xb2.cell 2 (.bool t81_) rfl
    have x3 := xb2.cell 3 (.slice B81_ m81_ d81_) rfl
    have x4 := xb2.cell 4 (.bool s82_) rfl
    have x5 := xb2.cell 5 (.slice A82_ n82_ c82_) rfl
    have x6 := xb2.cell 6 (.bool t82_) rfl
    have x7 := xb2.cell 7 (.slice B82_ m82_ d82_) rfl
    have hx1 := Ext.refl Wc
    have z0 := (bz.ext hx1).cell 0 _ rfl
    have f0 := (bz.ext hx1).frozen 0
    have z1 := (bz.ext hx1).cell 1 _ rfl
    have f1 := (bz.ext hx1).frozen 1
    have z2 := (bz.ext hx1).cell 2 _ rfl
    have f2 := (bz.ext hx1).frozen 2
    have z3 := (bz.ext hx1).cell 3 _ rfl
    have f3 := (bz.ext hx1).frozen 3
    have z4 := (bz.ext hx1).cell 4 _ rfl
    have f4 := (bz.ext hx1).frozen 4
    have z5 := (bz.ext hx1).cell 5 _ rfl
    have f5 := (bz.ext hx1).frozen 5
    have z6 := (bz.ext hx1).cell 6 _ rfl
    have f6 := (bz.ext hx1).frozen 6
    have z7 := (bz.ext hx1).cell 7 _ rfl
    have f7 := (bz.ext hx1).frozen 7
    go_wp2_with fail
    obtain ⟨b1, b2, b3, b4⟩ := fin_oct (v0 := (.bool s72_)) (v1 := (.slice A72_ n72_ c72_)) (v2 := (.bool t72_)) (v3 := (.slice B72_ m72_ d72_)) (v4 := (.bool s81_)) (v5 := (.slice A81_ n81_ c81_)) (v6 := (.bool t81_)) (v7 := (.slice B81_ m81_ d81_)) (bz.ext hx1)
    have r0 := b1.cell 0 (.bool s72_) rfl
    have r1 := b1.cell 1 (.slice A72_ n72_ c72_) rfl
    have r2 := b1.cell 2 (.bool t72_) rfl
    have r3 := b1.cell 3 (.slice B72_ m72_ d72_) rfl
    have r4 := b1.cell 4 (.bool s81_) rfl
    have r5 := b1.cell 5 (.slice A81_ n81_ c81_) rfl
    have r6 := b1.cell 6 (.bool t81_) rfl
    have r7 := b1.cell 7 (.slice B81_ m81_ d81_) rfl
    unfold set8 at r0 r1 r2 r3 r4 r5 r6 r7
    have q1 := b2 _ _ _ _ _ _ yA.high.num
    have q2 := b2 _ _ _ _ _ _ yA.high.den
    have q3 := b2 _ _ _ _ _ _ yB.low.num
    have q4 := b2 _ _ _ _ _ _ yB.low.den
    refine bodyPost_ret (v := .tuple #[.agg #[.bool s72_, .slice A72_ n72_ c72_, .bool t72_, .slice B72_ m72_ d72_, .bool s81_, .slice A81_ n81_ c81_, .bool t81_, .slice B81_ m81_ d81_], .bool true]) (by simp [results, Tryz.results41, go_sem, r0, r1, r2, r3, r4, r5, r6, r7]) rfl (.inl ⟨HC.out, s72_, A72_, n72_, c72_, t72_, B72_, m72_, d72_, s81_, A81_, n81_, c81_, t81_, B81_, m81_, d81_, rfl, ⟨⟨q1, q2⟩, ⟨q3, q4⟩⟩, b3 _ (ext.trans hx1) (by omega)⟩)
set_option maxHeartbeats 16000000 in
set_option maxRecDepth 100000 in
theorem p_Meet_n (h : IV w lo hi L s A n c t B m d s' A' n' c' t' B' m' d') (h' : IV w lo' hi' L u C i j v D k l u' C' i' j' v' D' k' l') (hL : L ≤ 20) (hc : ¬ mxR lo lo' ≤ mnR hi hi') : Calls Tryz.prog 41 #[.agg #[.bool s, .slice A n c, .bool t, .slice B m d, .bool s', .slice A' n' c', .bool t', .slice B' m' d'], .agg #[.bool u, .slice C i j, .bool v, .slice D k l, .bool u', .slice C' i' j', .bool v', .slice D' k' l']] w (RetMeet lo hi lo' hi' L w) := by
  obtain ⟨U3, hU3, d3⟩ : ∃ S, ratCmp (mxR lo lo') (mnR hi hi') = S ∧ decide (0 < S) = true := ⟨_, rfl, decide_eq_true (ratCmp_gt.2 (Rat.not_le.1 hc))⟩
  have HU := Lib.hid hU3
  have HC := Lib.hid hc
  clear hU3 hc
  go_enter Tryz.func41, Tryz.ntmps41
  go_upto_region 1 with (fail)
  obtain ⟨W, hW, ext, bx, by_, bz, hz⟩ := box3 w 28 28 28 #[.bool s, .slice A n c, .bool t, .slice B m d, .bool s', .slice A' n' c', .bool t', .slice B' m' d'] #[.bool u, .slice C i j, .bool v, .slice D k l, .bool u', .slice C' i' j', .bool v', .slice D' k' l'] #[Value.bool false, Value.slice none 0 0, Value.bool false, Value.slice none 0 0, Value.bool false, Value.slice none 0 0, Value.bool false, Value.slice none 0 0]
  rw [← hW]
  clear hW hz
  have ES0 := Ext.refl W
  refine wp_region_held_drew (S := Ext W) (by kernel_rfl) ES0.drew (fun ES => ?_)
  clear ES0
  refine Late.start2 (x := ⟨12, 6, 28, #[Value.bool false, Value.slice none 0 0, Value.bool false, Value.slice none 0 0, Value.bool false, Value.slice none 0 0, Value.bool false, Value.slice none 0 0]⟩) (y := ⟨13, 7, 28, #[Value.bool false, Value.slice none 0 0, Value.bool false, Value.slice none 0 0, Value.bool false, Value.slice none 0 0, Value.bool false, Value.slice none 0 0]⟩) (n := 14) ⟨_, rfl, rfl, rfl, fun a w => by go_simp⟩ ⟨_, rfl, rfl, rfl, fun a w => by go_simp⟩ (fun _ _ _ _ _ => ⟨fun h => h, fun h => h⟩) ES rfl (fun hAl hQ => ?_)
  refine Late.take (i := 0) (d := some 8) (v := ?v0_149) rfl rfl (by kernel_rfl) (by kernel_rfl) (by kernel_rfl) (by kernel_rfl) hQ (Or.inl ⟨by rfl, ?y0_149⟩) ?r0_149
  case y0_149 =>
    intro w' hSw
    have k00 := (bx.ext hSw).c8
    have k10 := (by_.ext hSw).c8
    go_simp
    try with_reducible rfl
  try simp only [Act.put]
  try simp only [List.setIfInBounds_toArray]
  try simp only [List.set_cons_succ]
  try simp only [List.set_cons_zero]
  refine Late.take (i := 1) (d := some 9) (v := ?v1_150) rfl rfl (by kernel_rfl) (by kernel_rfl) (by kernel_rfl) (by kernel_rfl) hQ (Or.inl ⟨by rfl, ?y1_150⟩) ?r1_150
  case y1_150 =>
    intro w' hSw
    have k00 := (bx.ext hSw).c8
    have k10 := (by_.ext hSw).c8
    go_simp
    try with_reducible rfl
  try simp only [Act.put]
  try simp only [List.setIfInBounds_toArray]
  try simp only [List.set_cons_succ]
  try simp only [List.set_cons_zero]
  refine Late.take (i := 2) (d := some 10) (v := ?v2_151) rfl rfl (by kernel_rfl) (by kernel_rfl) (by kernel_rfl) (by kernel_rfl) hQ (Or.inl ⟨by rfl, ?y2_151⟩) ?r2_151
  case y2_151 =>
    intro w' hSw
    have k00 := (bx.ext hSw).c8
    have k10 := (by_.ext hSw).c8
    go_simp
    try with_reducible rfl
  try simp only [Act.put]
  try simp only [List.setIfInBounds_toArray]
  try simp only [List.set_cons_succ]
  try simp only [List.set_cons_zero]
  refine Late.take (i := 3) (d := some 11) (v := ?v3_152) rfl rfl (by kernel_rfl) (by kernel_rfl) (by kernel_rfl) (by kernel_rfl) hQ (Or.inl ⟨by rfl, ?y3_152⟩) ?r3_152
  case y3_152 =>
    intro w' hSw
    have k00 := (bx.ext hSw).c8
    have k10 := (by_.ext hSw).c8
    go_simp
    try with_reducible rfl
  try simp only [Act.put]
  try simp only [List.setIfInBounds_toArray]
  try simp only [List.set_cons_succ]
  try simp only [List.set_cons_zero]
  refine Late.take (i := 6) (d := some 14) (v := ?v6_153) rfl rfl (by kernel_rfl) (by kernel_rfl) (by kernel_rfl) (by kernel_rfl) hQ (Or.inl ⟨by rfl, ?y6_153⟩) ?r6_153
  case y6_153 =>
    intro w' hSw
    have k00 := (bx.ext hSw).c8
    have k10 := (by_.ext hSw).c8
    go_simp
    try with_reducible rfl
  try simp only [Act.put]
  try simp only [List.setIfInBounds_toArray]
  try simp only [List.set_cons_succ]
  try simp only [List.set_cons_zero]
  refine Late.take (i := 7) (d := some 15) (v := ?v7_154) rfl rfl (by kernel_rfl) (by kernel_rfl) (by kernel_rfl) (by kernel_rfl) hQ (Or.inl ⟨by rfl, ?y7_154⟩) ?r7_154
  case y7_154 =>
    intro w' hSw
    have k00 := (bx.ext hSw).c8
    have k10 := (by_.ext hSw).c8
    go_simp
    try with_reducible rfl
  try simp only [Act.put]
  try simp only [List.setIfInBounds_toArray]
  try simp only [List.set_cons_succ]
  try simp only [List.set_cons_zero]
  refine Late.take (i := 8) (d := some 16) (v := ?v8_155) rfl rfl (by kernel_rfl) (by kernel_rfl) (by kernel_rfl) (by kernel_rfl) hQ (Or.inl ⟨by rfl, ?y8_155⟩) ?r8_155
  case y8_155 =>
    intro w' hSw
    have k00 := (bx.ext hSw).c8
    have k10 := (by_.ext hSw).c8
    go_simp
    try with_reducible rfl
  try simp only [Act.put]
  try simp only [List.setIfInBounds_toArray]
  try simp only [List.set_cons_succ]
  try simp only [List.set_cons_zero]
  refine Late.take (i := 9) (d := some 17) (v := ?v9_156) rfl rfl (by kernel_rfl) (by kernel_rfl) (by kernel_rfl) (by kernel_rfl) hQ (Or.inl ⟨by rfl, ?y9_156⟩) ?r9_156
  case y9_156 =>
    intro w' hSw
    have k00 := (bx.ext hSw).c8
    have k10 := (by_.ext hSw).c8
    go_simp
    try with_reducible rfl
  try simp only [Act.put]
  try simp only [List.setIfInBounds_toArray]
  try simp only [List.set_cons_succ]
  try simp only [List.set_cons_zero]
  refine Late.two (i := 4) (i2 := 10) rfl rfl (by kernel_rfl) hAl (by kernel_rfl) (by kernel_rfl) (by kernel_rfl) (by kernel_rfl) hQ (fun w4 e4 E4 K hK => ?_) (fun w10 e10 E10 K hK => ?_)
  · have hx4 := (Ext.refl w4).alloc (.cells #[.bool s, .slice A n c, .bool t, .slice B m d, .bool u, .slice C i j, .bool v, .slice D k l] 26)
    have rA : RatsAt (w4.alloc (.cells #[.bool s, .slice A n c, .bool t, .slice B m d, .bool u, .slice C i j, .bool v, .slice D k l] 26)) w4.heap.size 0 [lo, lo'] L := RatsAt.of_box (Box.new w4 26 #[.bool s, .slice A n c, .bool t, .slice B m d, .bool u, .slice C i j, .bool v, .slice D k l]) (.cons ((h.low.ext (ext.trans E4)).ext hx4) (.cons ((h'.low.ext (ext.trans E4)).ext hx4) .nil))
    go_simp
    refine hK.out _ _ hx4 ?_
    clear hK K
    try simp only [Act.put]
    try simp only [List.setIfInBounds_toArray]
    try simp only [List.set_cons_succ]
    try simp only [List.set_cons_zero]
    generalize w4.heap.size = gA at rA ⊢
    refine Late.two (i := 5) (i2 := 10) rfl rfl (by kernel_rfl) hAl (by kernel_rfl) (by kernel_rfl) (by kernel_rfl) (by kernel_rfl) hQ (fun w5 e5 E5 K hK => ?_) (fun w10 e10 E10 K hK => ?_)
    · go_simp
      (go_at_call 82; refine (p_enclose (rA.ext e5) (n := 2) (by rfl) (by omega) (by omega) (by omega)).mono ?_; rintro e wk5 ⟨pA, qA, huA, s71_, A71_, n71_, c71_, t71_, B71_, m71_, d71_, s72_, A72_, n72_, c72_, t72_, B72_, m72_, d72_, rfl, yA, hx5⟩; have HA := Lib.hid (hull2_hi huA); clear huA rA)
      refine hK.out _ _ hx5 ?_
      clear hK K
      try simp only [Act.put]
      try simp only [List.setIfInBounds_toArray]
      try simp only [List.set_cons_succ]
      try simp only [List.set_cons_zero]
      refine Late.call (i := 10) rfl (by kernel_rfl) hAl (by kernel_rfl) (by kernel_rfl) (by kernel_rfl) hQ (fun w10 e10 E10 K hK => ?_)
      have hx10 := (Ext.refl w10).alloc (.cells #[.bool s', .slice A' n' c', .bool t', .slice B' m' d', .bool u', .slice C' i' j', .bool v', .slice D' k' l'] 26)
      have rB : RatsAt (w10.alloc (.cells #[.bool s', .slice A' n' c', .bool t', .slice B' m' d', .bool u', .slice C' i' j', .bool v', .slice D' k' l'] 26)) w10.heap.size 0 [hi, hi'] L := RatsAt.of_box (Box.new w10 26 #[.bool s', .slice A' n' c', .bool t', .slice B' m' d', .bool u', .slice C' i' j', .bool v', .slice D' k' l']) (.cons ((h.high.ext (ext.trans E10)).ext hx10) (.cons ((h'.high.ext (ext.trans E10)).ext hx10) .nil))
      go_simp
      refine hK.out _ _ hx10 ?_
      clear hK K
      try simp only [Act.put]
      try simp only [List.setIfInBounds_toArray]
      try simp only [List.set_cons_succ]
      try simp only [List.set_cons_zero]
      generalize w10.heap.size = gB at rB ⊢
      refine Late.call (i := 11) rfl (by kernel_rfl) hAl (by kernel_rfl) (by kernel_rfl) (by kernel_rfl) hQ (fun w11 e11 E11 K hK => ?_)
      go_simp
      (go_at_call 82; refine (p_enclose (rB.ext e11) (n := 2) (by rfl) (by omega) (by omega) (by omega)).mono ?_; rintro e wk11 ⟨pB, qB, huB, s81_, A81_, n81_, c81_, t81_, B81_, m81_, d81_, s82_, A82_, n82_, c82_, t82_, B82_, m82_, d82_, rfl, yB, hx11⟩; have HB := Lib.hid (hull2_lo huB); clear huB rB)
      refine hK.out _ _ hx11 ?_
      clear hK K
      try simp only [Act.put]
      try simp only [List.setIfInBounds_toArray]
      try simp only [List.set_cons_succ]
      try simp only [List.set_cons_zero]
      refine Late.finish2 (hAl _ (by simp)) (hAl _ (by simp)) (by decide) (by decide) (by kernel_rfl) (by kernel_rfl) (by kernel_rfl) (fun wz g5 g6 ez Ez lg5 lg6 hne xb1 xb2 => ?_)
      clear hAl hQ ES
      have p10 := xb1.cell 0 _ rfl
      have f10 := xb1.frozen 0
      have p11 := xb1.cell 1 _ rfl
      have f11 := xb1.frozen 1
      have p12 := xb1.cell 2 _ rfl
      have f12 := xb1.frozen 2
      have p13 := xb1.cell 3 _ rfl
      have f13 := xb1.frozen 3
      have p14 := xb1.cell 4 _ rfl
      have f14 := xb1.frozen 4
      have p15 := xb1.cell 5 _ rfl
      have f15 := xb1.frozen 5
      have p16 := xb1.cell 6 _ rfl
      have f16 := xb1.frozen 6
      have p17 := xb1.cell 7 _ rfl
      have f17 := xb1.frozen 7
      try simp only [Act.put]
      try simp only [List.setIfInBounds_toArray]
      try simp only [List.set_cons_succ]
      try simp only [List.set_cons_zero]
      have e8 := fin_oct (T := 28) (v0 := (.bool s71_)) (v1 := (.slice A71_ n71_ c71_)) (v2 := (.bool t71_)) (v3 := (.slice B71_ m71_ d71_)) (v4 := (.bool s72_)) (v5 := (.slice A72_ n72_ c72_)) (v6 := (.bool t72_)) (v7 := (.slice B72_ m72_ d72_)) xb1
      refine wpAnyH_ready (rs := [14]) (by kernel_rfl) (by simp) (AllReadyH.cons rfl (fun K hK => ?_) AllReadyH.nil)
      go_simp
      refine hK.out _ _ (e8.2.2.1 _ Ez lg5) (fun _ => ?_)
      clear hK K
      try simp only [Act.put]
      try simp only [List.setIfInBounds_toArray]
      try simp only [List.set_cons_succ]
      try simp only [List.set_cons_zero]
      refine any_world (fun U => Ext W U ∧ Box U g5 28 #[.bool s71_, .slice A71_ n71_ c71_, .bool t71_, .slice B71_ m71_ d71_, .bool s72_, .slice A72_ n72_ c72_, .bool t72_, .slice B72_ m72_ d72_] ∧ Box U g6 28 #[Value.bool false, Value.slice none 0 0, Value.bool false, Value.slice none 0 0, Value.bool false, Value.slice none 0 0, Value.bool false, Value.slice none 0 0] ∧ IV U pA qA L s71_ A71_ n71_ c71_ t71_ B71_ m71_ d71_ s72_ A72_ n72_ c72_ t72_ B72_ m72_ d72_ ∧ IV U pB qB L s81_ A81_ n81_ c81_ t81_ B81_ m81_ d81_ s82_ A82_ n82_ c82_ t82_ B82_ m82_ d82_) ⟨e8.2.2.1 _ Ez lg5, e8.1, e8.2.2.2 _ _ _ (Ne.symm hne) xb2, ⟨⟨e8.2.1 _ _ _ _ _ _ (yA.ext (e10.trans (hx10.trans (e11.trans (hx11.trans ez))))).low.num, e8.2.1 _ _ _ _ _ _ (yA.ext (e10.trans (hx10.trans (e11.trans (hx11.trans ez))))).low.den⟩, ⟨e8.2.1 _ _ _ _ _ _ (yA.ext (e10.trans (hx10.trans (e11.trans (hx11.trans ez))))).high.num, e8.2.1 _ _ _ _ _ _ (yA.ext (e10.trans (hx10.trans (e11.trans (hx11.trans ez))))).high.den⟩⟩, ⟨⟨e8.2.1 _ _ _ _ _ _ (yB.ext ez).low.num, e8.2.1 _ _ _ _ _ _ (yB.ext ez).low.den⟩, ⟨e8.2.1 _ _ _ _ _ _ (yB.ext ez).high.num, e8.2.1 _ _ _ _ _ _ (yB.ext ez).high.den⟩⟩⟩ ?_
      clear e8 xb1 xb2 yA yB p10 f10 p11 f11 p12 f12 p13 f13 p14 f14 p15 f15 p16 f16 p17 f17
      rintro U ⟨EU, xb1, xb2, yA, yB⟩
      have p10 := xb2.cell 0 _ rfl
      have f10 := xb2.frozen 0
      have p11 := xb2.cell 1 _ rfl
      have f11 := xb2.frozen 1
      have p12 := xb2.cell 2 _ rfl
      have f12 := xb2.frozen 2
      have p13 := xb2.cell 3 _ rfl
      have f13 := xb2.frozen 3
      have p14 := xb2.cell 4 _ rfl
      have f14 := xb2.frozen 4
      have p15 := xb2.cell 5 _ rfl
      have f15 := xb2.frozen 5
      have p16 := xb2.cell 6 _ rfl
      have f16 := xb2.frozen 6
      have p17 := xb2.cell 7 _ rfl
      have f17 := xb2.frozen 7
      have e8 := fin_oct (T := 28) (v0 := (.bool s81_)) (v1 := (.slice A81_ n81_ c81_)) (v2 := (.bool t81_)) (v3 := (.slice B81_ m81_ d81_)) (v4 := (.bool s82_)) (v5 := (.slice A82_ n82_ c82_)) (v6 := (.bool t82_)) (v7 := (.slice B82_ m82_ d82_)) xb2
      refine wpAnyH_ready (rs := [15]) (by kernel_rfl) (by simp) (AllReadyH.cons rfl (fun K hK => ?_) AllReadyH.nil)
      go_simp
      refine hK.out _ _ (e8.2.2.1 _ EU lg6) (fun _ => ?_)
      clear hK K
      try simp only [Act.put]
      try simp only [List.setIfInBounds_toArray]
      try simp only [List.set_cons_succ]
      try simp only [List.set_cons_zero]
      refine any_world (fun X => Ext W X ∧ Box X g5 28 #[.bool s71_, .slice A71_ n71_ c71_, .bool t71_, .slice B71_ m71_ d71_, .bool s72_, .slice A72_ n72_ c72_, .bool t72_, .slice B72_ m72_ d72_] ∧ Box X g6 28 #[.bool s81_, .slice A81_ n81_ c81_, .bool t81_, .slice B81_ m81_ d81_, .bool s82_, .slice A82_ n82_ c82_, .bool t82_, .slice B82_ m82_ d82_] ∧ IV X pA qA L s71_ A71_ n71_ c71_ t71_ B71_ m71_ d71_ s72_ A72_ n72_ c72_ t72_ B72_ m72_ d72_ ∧ IV X pB qB L s81_ A81_ n81_ c81_ t81_ B81_ m81_ d81_ s82_ A82_ n82_ c82_ t82_ B82_ m82_ d82_) ⟨e8.2.2.1 _ EU lg6, e8.2.2.2 _ _ _ hne xb1, e8.1, ⟨⟨e8.2.1 _ _ _ _ _ _ yA.low.num, e8.2.1 _ _ _ _ _ _ yA.low.den⟩, ⟨e8.2.1 _ _ _ _ _ _ yA.high.num, e8.2.1 _ _ _ _ _ _ yA.high.den⟩⟩, ⟨⟨e8.2.1 _ _ _ _ _ _ yB.low.num, e8.2.1 _ _ _ _ _ _ yB.low.den⟩, ⟨e8.2.1 _ _ _ _ _ _ yB.high.num, e8.2.1 _ _ _ _ _ _ yB.high.den⟩⟩⟩ ?_
      clear e8 xb1 xb2 yA yB EU Ez p10 f10 p11 f11 p12 f12 p13 f13 p14 f14 p15 f15 p16 f16 p17 f17
      rintro X ⟨EX, xb1, xb2, yA, yB⟩
      have hqA := HA.out
      have hpB := HB.out
      subst hqA hpB
      refine wpAnyH_done (by kernel_rfl) ?_ _
      replace bz := bz.ext EX
      replace ext := ext.trans EX
      clear EX
      have k0 := xb1.cell 0 (.bool s71_) rfl
      have k1 := xb1.cell 1 (.slice A71_ n71_ c71_) rfl
      have k2 := xb1.cell 2 (.bool t71_) rfl
      have k3 := xb1.cell 3 (.slice B71_ m71_ d71_) rfl
      have k4 := xb1.cell 4 (.bool s72_) rfl
      have k5 := xb1.cell 5 (.slice A72_ n72_ c72_) rfl
      have k6 := xb1.cell 6 (.bool t72_) rfl
      have k7 := xb1.cell 7 (.slice B72_ m72_ d72_) rfl
      have x0 := xb2.cell 0 (.bool s81_) rfl
      have x1 := xb2.cell 1 (.slice A81_ n81_ c81_) rfl
      have x2 := xb2.cell 2 (.bool t81_) rfl
      have x3 := xb2.cell 3 (.slice B81_ m81_ d81_) rfl
      have x4 := xb2.cell 4 (.bool s82_) rfl
      have x5 := xb2.cell 5 (.slice A82_ n82_ c82_) rfl
      have x6 := xb2.cell 6 (.bool t82_) rfl
      have x7 := xb2.cell 7 (.slice B82_ m82_ d82_) rfl
      go_wp2_with fail
      refine (p_CmpR yA.high yB.low (by omega) (by omega) (by omega)).mono ?_
      rintro e Wc ⟨rfl, hxt⟩
      rw [HU.out]
      replace bz := bz.ext hxt
      replace xb1 := xb1.ext hxt
      replace xb2 := xb2.ext hxt
      replace yA := yA.ext hxt
      replace yB := yB.ext hxt
      replace ext := ext.trans hxt
      clear hxt k0 k1 k2 k3 k4 k5 k6 k7 x0 x1 x2 x3 x4 x5 x6 x7
      have hx1 := Ext.refl Wc
      have z0 := (bz.ext hx1).cell 0 _ rfl
      have f0 := (bz.ext hx1).frozen 0
      have z1 := (bz.ext hx1).cell 1 _ rfl
      have f1 := (bz.ext hx1).frozen 1
      have z2 := (bz.ext hx1).cell 2 _ rfl
      have f2 := (bz.ext hx1).frozen 2
      have z3 := (bz.ext hx1).cell 3 _ rfl
      have f3 := (bz.ext hx1).frozen 3
      have z4 := (bz.ext hx1).cell 4 _ rfl
      have f4 := (bz.ext hx1).frozen 4
      have z5 := (bz.ext hx1).cell 5 _ rfl
      have f5 := (bz.ext hx1).frozen 5
      have z6 := (bz.ext hx1).cell 6 _ rfl
      have f6 := (bz.ext hx1).frozen 6
      have z7 := (bz.ext hx1).cell 7 _ rfl
      have f7 := (bz.ext hx1).frozen 7
      go_wp2_with fail
      obtain ⟨b1, b2, b3, b4⟩ := fin_oct (v0 := (.bool false)) (v1 := (.slice none 0 0)) (v2 := (.bool false)) (v3 := (.slice none 0 0)) (v4 := (.bool false)) (v5 := (.slice none 0 0)) (v6 := (.bool false)) (v7 := (.slice none 0 0)) (bz.ext hx1)
      have r0 := b1.cell 0 (.bool false) rfl
      have r1 := b1.cell 1 (.slice none 0 0) rfl
      have r2 := b1.cell 2 (.bool false) rfl
      have r3 := b1.cell 3 (.slice none 0 0) rfl
      have r4 := b1.cell 4 (.bool false) rfl
      have r5 := b1.cell 5 (.slice none 0 0) rfl
      have r6 := b1.cell 6 (.bool false) rfl
      have r7 := b1.cell 7 (.slice none 0 0) rfl
      unfold set8 at r0 r1 r2 r3 r4 r5 r6 r7
      refine bodyPost_ret (v := .tuple #[.agg #[.bool false, .slice none 0 0, .bool false, .slice none 0 0, .bool false, .slice none 0 0, .bool false, .slice none 0 0], .bool false]) (by simp [results, Tryz.results41, go_sem, r0, r1, r2, r3, r4, r5, r6, r7]) rfl (.inr ⟨HC.out, rfl, b3 _ (ext.trans hx1) (by omega)⟩)
    · have hx10 := (Ext.refl w10).alloc (.cells #[.bool s', .slice A' n' c', .bool t', .slice B' m' d', .bool u', .slice C' i' j', .bool v', .slice D' k' l'] 26)
      have rB : RatsAt (w10.alloc (.cells #[.bool s', .slice A' n' c', .bool t', .slice B' m' d', .bool u', .slice C' i' j', .bool v', .slice D' k' l'] 26)) w10.heap.size 0 [hi, hi'] L := RatsAt.of_box (Box.new w10 26 #[.bool s', .slice A' n' c', .bool t', .slice B' m' d', .bool u', .slice C' i' j', .bool v', .slice D' k' l']) (.cons ((h.high.ext (ext.trans E10)).ext hx10) (.cons ((h'.high.ext (ext.trans E10)).ext hx10) .nil))
      go_simp
      refine hK.out _ _ hx10 ?_
      clear hK K
      try simp only [Act.put]
      try simp only [List.setIfInBounds_toArray]
      try simp only [List.set_cons_succ]
      try simp only [List.set_cons_zero]
      generalize w10.heap.size = gB at rB ⊢
      refine Late.call (i := 5) rfl (by kernel_rfl) hAl (by kernel_rfl) (by kernel_rfl) (by kernel_rfl) hQ (fun w5 e5 E5 K hK => ?_)
      go_simp
      (go_at_call 82; refine (p_enclose (rA.ext (e10.trans (hx10.trans e5))) (n := 2) (by rfl) (by omega) (by omega) (by omega)).mono ?_; rintro e wk5 ⟨pA, qA, huA, s71_, A71_, n71_, c71_, t71_, B71_, m71_, d71_, s72_, A72_, n72_, c72_, t72_, B72_, m72_, d72_, rfl, yA, hx5⟩; have HA := Lib.hid (hull2_hi huA); clear huA rA)
      refine hK.out _ _ hx5 ?_
      clear hK K
      try simp only [Act.put]
      try simp only [List.setIfInBounds_toArray]
      try simp only [List.set_cons_succ]
      try simp only [List.set_cons_zero]
      refine Late.call (i := 11) rfl (by kernel_rfl) hAl (by kernel_rfl) (by kernel_rfl) (by kernel_rfl) hQ (fun w11 e11 E11 K hK => ?_)
      go_simp
      (go_at_call 82; refine (p_enclose (rB.ext (e5.trans (hx5.trans e11))) (n := 2) (by rfl) (by omega) (by omega) (by omega)).mono ?_; rintro e wk11 ⟨pB, qB, huB, s81_, A81_, n81_, c81_, t81_, B81_, m81_, d81_, s82_, A82_, n82_, c82_, t82_, B82_, m82_, d82_, rfl, yB, hx11⟩; have HB := Lib.hid (hull2_lo huB); clear huB rB)
      refine hK.out _ _ hx11 ?_
      clear hK K
      try simp only [Act.put]
      try simp only [List.setIfInBounds_toArray]
      try simp only [List.set_cons_succ]
      try simp only [List.set_cons_zero]
      refine Late.finish2 (hAl _ (by simp)) (hAl _ (by simp)) (by decide) (by decide) (by kernel_rfl) (by kernel_rfl) (by kernel_rfl) (fun wz g5 g6 ez Ez lg5 lg6 hne xb1 xb2 => ?_)
      clear hAl hQ ES
      have p10 := xb1.cell 0 _ rfl
      have f10 := xb1.frozen 0
      have p11 := xb1.cell 1 _ rfl
      have f11 := xb1.frozen 1
      have p12 := xb1.cell 2 _ rfl
      have f12 := xb1.frozen 2
      have p13 := xb1.cell 3 _ rfl
      have f13 := xb1.frozen 3
      have p14 := xb1.cell 4 _ rfl
      have f14 := xb1.frozen 4
      have p15 := xb1.cell 5 _ rfl
      have f15 := xb1.frozen 5
      have p16 := xb1.cell 6 _ rfl
      have f16 := xb1.frozen 6
      have p17 := xb1.cell 7 _ rfl
      have f17 := xb1.frozen 7
      try simp only [Act.put]
      try simp only [List.setIfInBounds_toArray]
      try simp only [List.set_cons_succ]
      try simp only [List.set_cons_zero]
      have e8 := fin_oct (T := 28) (v0 := (.bool s71_)) (v1 := (.slice A71_ n71_ c71_)) (v2 := (.bool t71_)) (v3 := (.slice B71_ m71_ d71_)) (v4 := (.bool s72_)) (v5 := (.slice A72_ n72_ c72_)) (v6 := (.bool t72_)) (v7 := (.slice B72_ m72_ d72_)) xb1
      refine wpAnyH_ready (rs := [14]) (by kernel_rfl) (by simp) (AllReadyH.cons rfl (fun K hK => ?_) AllReadyH.nil)
      go_simp
      refine hK.out _ _ (e8.2.2.1 _ Ez lg5) (fun _ => ?_)
      clear hK K
      try simp only [Act.put]
      try simp only [List.setIfInBounds_toArray]
      try simp only [List.set_cons_succ]
      try simp only [List.set_cons_zero]
      refine any_world (fun U => Ext W U ∧ Box U g5 28 #[.bool s71_, .slice A71_ n71_ c71_, .bool t71_, .slice B71_ m71_ d71_, .bool s72_, .slice A72_ n72_ c72_, .bool t72_, .slice B72_ m72_ d72_] ∧ Box U g6 28 #[Value.bool false, Value.slice none 0 0, Value.bool false, Value.slice none 0 0, Value.bool false, Value.slice none 0 0, Value.bool false, Value.slice none 0 0] ∧ IV U pA qA L s71_ A71_ n71_ c71_ t71_ B71_ m71_ d71_ s72_ A72_ n72_ c72_ t72_ B72_ m72_ d72_ ∧ IV U pB qB L s81_ A81_ n81_ c81_ t81_ B81_ m81_ d81_ s82_ A82_ n82_ c82_ t82_ B82_ m82_ d82_) ⟨e8.2.2.1 _ Ez lg5, e8.1, e8.2.2.2 _ _ _ (Ne.symm hne) xb2, ⟨⟨e8.2.1 _ _ _ _ _ _ (yA.ext (e11.trans (hx11.trans ez))).low.num, e8.2.1 _ _ _ _ _ _ (yA.ext (e11.trans (hx11.trans ez))).low.den⟩, ⟨e8.2.1 _ _ _ _ _ _ (yA.ext (e11.trans (hx11.trans ez))).high.num, e8.2.1 _ _ _ _ _ _ (yA.ext (e11.trans (hx11.trans ez))).high.den⟩⟩, ⟨⟨e8.2.1 _ _ _ _ _ _ (yB.ext ez).low.num, e8.2.1 _ _ _ _ _ _ (yB.ext ez).low.den⟩, ⟨e8.2.1 _ _ _ _ _ _ (yB.ext ez).high.num, e8.2.1 _ _ _ _ _ _ (yB.ext ez).high.den⟩⟩⟩ ?_
      clear e8 xb1 xb2 yA yB p10 f10 p11 f11 p12 f12 p13 f13 p14 f14 p15 f15 p16 f16 p17 f17
      rintro U ⟨EU, xb1, xb2, yA, yB⟩
      have p10 := xb2.cell 0 _ rfl
      have f10 := xb2.frozen 0
      have p11 := xb2.cell 1 _ rfl
      have f11 := xb2.frozen 1
      have p12 := xb2.cell 2 _ rfl
      have f12 := xb2.frozen 2
      have p13 := xb2.cell 3 _ rfl
      have f13 := xb2.frozen 3
      have p14 := xb2.cell 4 _ rfl
      have f14 := xb2.frozen 4
      have p15 := xb2.cell 5 _ rfl
      have f15 := xb2.frozen 5
      have p16 := xb2.cell 6 _ rfl
      have f16 := xb2.frozen 6
      have p17 := xb2.cell 7 _ rfl
      have f17 := xb2.frozen 7
      have e8 := fin_oct (T := 28) (v0 := (.bool s81_)) (v1 := (.slice A81_ n81_ c81_)) (v2 := (.bool t81_)) (v3 := (.slice B81_ m81_ d81_)) (v4 := (.bool s82_)) (v5 := (.slice A82_ n82_ c82_)) (v6 := (.bool t82_)) (v7 := (.slice B82_ m82_ d82_)) xb2
      refine wpAnyH_ready (rs := [15]) (by kernel_rfl) (by simp) (AllReadyH.cons rfl (fun K hK => ?_) AllReadyH.nil)
      go_simp
      refine hK.out _ _ (e8.2.2.1 _ EU lg6) (fun _ => ?_)
      clear hK K
      try simp only [Act.put]
      try simp only [List.setIfInBounds_toArray]
      try simp only [List.set_cons_succ]
      try simp only [List.set_cons_zero]
      refine any_world (fun X => Ext W X ∧ Box X g5 28 #[.bool s71_, .slice A71_ n71_ c71_, .bool t71_, .slice B71_ m71_ d71_, .bool s72_, .slice A72_ n72_ c72_, .bool t72_, .slice B72_ m72_ d72_] ∧ Box X g6 28 #[.bool s81_, .slice A81_ n81_ c81_, .bool t81_, .slice B81_ m81_ d81_, .bool s82_, .slice A82_ n82_ c82_, .bool t82_, .slice B82_ m82_ d82_] ∧ IV X pA qA L s71_ A71_ n71_ c71_ t71_ B71_ m71_ d71_ s72_ A72_ n72_ c72_ t72_ B72_ m72_ d72_ ∧ IV X pB qB L s81_ A81_ n81_ c81_ t81_ B81_ m81_ d81_ s82_ A82_ n82_ c82_ t82_ B82_ m82_ d82_) ⟨e8.2.2.1 _ EU lg6, e8.2.2.2 _ _ _ hne xb1, e8.1, ⟨⟨e8.2.1 _ _ _ _ _ _ yA.low.num, e8.2.1 _ _ _ _ _ _ yA.low.den⟩, ⟨e8.2.1 _ _ _ _ _ _ yA.high.num, e8.2.1 _ _ _ _ _ _ yA.high.den⟩⟩, ⟨⟨e8.2.1 _ _ _ _ _ _ yB.low.num, e8.2.1 _ _ _ _ _ _ yB.low.den⟩, ⟨e8.2.1 _ _ _ _ _ _ yB.high.num, e8.2.1 _ _ _ _ _ _ yB.high.den⟩⟩⟩ ?_
      clear e8 xb1 xb2 yA yB EU Ez p10 f10 p11 f11 p12 f12 p13 f13 p14 f14 p15 f15 p16 f16 p17 f17
      rintro X ⟨EX, xb1, xb2, yA, yB⟩
      have hqA := HA.out
      have hpB := HB.out
      subst hqA hpB
      refine wpAnyH_done (by kernel_rfl) ?_ _
      replace bz := bz.ext EX
      replace ext := ext.trans EX
      clear EX
      have k0 := xb1.cell 0 (.bool s71_) rfl
      have k1 := xb1.cell 1 (.slice A71_ n71_ c71_) rfl
      have k2 := xb1.cell 2 (.bool t71_) rfl
      have k3 := xb1.cell 3 (.slice B71_ m71_ d71_) rfl
      have k4 := xb1.cell 4 (.bool s72_) rfl
      have k5 := xb1.cell 5 (.slice A72_ n72_ c72_) rfl
      have k6 := xb1.cell 6 (.bool t72_) rfl
      have k7 := xb1.cell 7 (.slice B72_ m72_ d72_) rfl
      have x0 := xb2.cell 0 (.bool s81_) rfl
      have x1 := xb2.cell 1 (.slice A81_ n81_ c81_) rfl
      have x2 := xb2.cell 2 (.bool t81_) rfl
      have x3 := xb2.cell 3 (.slice B81_ m81_ d81_) rfl
      have x4 := xb2.cell 4 (.bool s82_) rfl
      have x5 := xb2.cell 5 (.slice A82_ n82_ c82_) rfl
      have x6 := xb2.cell 6 (.bool t82_) rfl
      have x7 := xb2.cell 7 (.slice B82_ m82_ d82_) rfl
      go_wp2_with fail
      refine (p_CmpR yA.high yB.low (by omega) (by omega) (by omega)).mono ?_
      rintro e Wc ⟨rfl, hxt⟩
      rw [HU.out]
      replace bz := bz.ext hxt
      replace xb1 := xb1.ext hxt
      replace xb2 := xb2.ext hxt
      replace yA := yA.ext hxt
      replace yB := yB.ext hxt
      replace ext := ext.trans hxt
      clear hxt k0 k1 k2 k3 k4 k5 k6 k7 x0 x1 x2 x3 x4 x5 x6 x7
      have hx1 := Ext.refl Wc
      have z0 := (bz.ext hx1).cell 0 _ rfl
      have f0 := (bz.ext hx1).frozen 0
      have z1 := (bz.ext hx1).cell 1 _ rfl
      have f1 := (bz.ext hx1).frozen 1
      have z2 := (bz.ext hx1).cell 2 _ rfl
      have f2 := (bz.ext hx1).frozen 2
      have z3 := (bz.ext hx1).cell 3 _ rfl
      have f3 := (bz.ext hx1).frozen 3
      have z4 := (bz.ext hx1).cell 4 _ rfl
      have f4 := (bz.ext hx1).frozen 4
      have z5 := (bz.ext hx1).cell 5 _ rfl
      have f5 := (bz.ext hx1).frozen 5
      have z6 := (bz.ext hx1).cell 6 _ rfl
      have f6 := (bz.ext hx1).frozen 6
      have z7 := (bz.ext hx1).cell 7 _ rfl
      have f7 := (bz.ext hx1).frozen 7
      go_wp2_with fail
      obtain ⟨b1, b2, b3, b4⟩ := fin_oct (v0 := (.bool false)) (v1 := (.slice none 0 0)) (v2 := (.bool false)) (v3 := (.slice none 0 0)) (v4 := (.bool false)) (v5 := (.slice none 0 0)) (v6 := (.bool false)) (v7 := (.slice none 0 0)) (bz.ext hx1)
      have r0 := b1.cell 0 (.bool false) rfl
      have r1 := b1.cell 1 (.slice none 0 0) rfl
      have r2 := b1.cell 2 (.bool false) rfl
      have r3 := b1.cell 3 (.slice none 0 0) rfl
      have r4 := b1.cell 4 (.bool false) rfl
      have r5 := b1.cell 5 (.slice none 0 0) rfl
      have r6 := b1.cell 6 (.bool false) rfl
      have r7 := b1.cell 7 (.slice none 0 0) rfl
      unfold set8 at r0 r1 r2 r3 r4 r5 r6 r7
      refine bodyPost_ret (v := .tuple #[.agg #[.bool false, .slice none 0 0, .bool false, .slice none 0 0, .bool false, .slice none 0 0, .bool false, .slice none 0 0], .bool false]) (by simp [results, Tryz.results41, go_sem, r0, r1, r2, r3, r4, r5, r6, r7]) rfl (.inr ⟨HC.out, rfl, b3 _ (ext.trans hx1) (by omega)⟩)
  · have hx10 := (Ext.refl w10).alloc (.cells #[.bool s', .slice A' n' c', .bool t', .slice B' m' d', .bool u', .slice C' i' j', .bool v', .slice D' k' l'] 26)
    have rB : RatsAt (w10.alloc (.cells #[.bool s', .slice A' n' c', .bool t', .slice B' m' d', .bool u', .slice C' i' j', .bool v', .slice D' k' l'] 26)) w10.heap.size 0 [hi, hi'] L := RatsAt.of_box (Box.new w10 26 #[.bool s', .slice A' n' c', .bool t', .slice B' m' d', .bool u', .slice C' i' j', .bool v', .slice D' k' l']) (.cons ((h.high.ext (ext.trans E10)).ext hx10) (.cons ((h'.high.ext (ext.trans E10)).ext hx10) .nil))
    go_simp
    refine hK.out _ _ hx10 ?_
    clear hK K
    try simp only [Act.put]
    try simp only [List.setIfInBounds_toArray]
    try simp only [List.set_cons_succ]
    try simp only [List.set_cons_zero]
    generalize w10.heap.size = gB at rB ⊢
    refine Late.call (i := 4) rfl (by kernel_rfl) hAl (by kernel_rfl) (by kernel_rfl) (by kernel_rfl) hQ (fun w4 e4 E4 K hK => ?_)
    have hx4 := (Ext.refl w4).alloc (.cells #[.bool s, .slice A n c, .bool t, .slice B m d, .bool u, .slice C i j, .bool v, .slice D k l] 26)
    have rA : RatsAt (w4.alloc (.cells #[.bool s, .slice A n c, .bool t, .slice B m d, .bool u, .slice C i j, .bool v, .slice D k l] 26)) w4.heap.size 0 [lo, lo'] L := RatsAt.of_box (Box.new w4 26 #[.bool s, .slice A n c, .bool t, .slice B m d, .bool u, .slice C i j, .bool v, .slice D k l]) (.cons ((h.low.ext (ext.trans E4)).ext hx4) (.cons ((h'.low.ext (ext.trans E4)).ext hx4) .nil))
    go_simp
    refine hK.out _ _ hx4 ?_
    clear hK K
    try simp only [Act.put]
    try simp only [List.setIfInBounds_toArray]
    try simp only [List.set_cons_succ]
    try simp only [List.set_cons_zero]
    generalize w4.heap.size = gA at rA ⊢
    refine Late.call (i := 5) rfl (by kernel_rfl) hAl (by kernel_rfl) (by kernel_rfl) (by kernel_rfl) hQ (fun w5 e5 E5 K hK => ?_)
    go_simp
    (go_at_call 82; refine (p_enclose (rA.ext e5) (n := 2) (by rfl) (by omega) (by omega) (by omega)).mono ?_; rintro e wk5 ⟨pA, qA, huA, s71_, A71_, n71_, c71_, t71_, B71_, m71_, d71_, s72_, A72_, n72_, c72_, t72_, B72_, m72_, d72_, rfl, yA, hx5⟩; have HA := Lib.hid (hull2_hi huA); clear huA rA)
    refine hK.out _ _ hx5 ?_
    clear hK K
    try simp only [Act.put]
    try simp only [List.setIfInBounds_toArray]
    try simp only [List.set_cons_succ]
    try simp only [List.set_cons_zero]
    refine Late.call (i := 11) rfl (by kernel_rfl) hAl (by kernel_rfl) (by kernel_rfl) (by kernel_rfl) hQ (fun w11 e11 E11 K hK => ?_)
    go_simp
    (go_at_call 82; refine (p_enclose (rB.ext (e4.trans (hx4.trans (e5.trans (hx5.trans e11))))) (n := 2) (by rfl) (by omega) (by omega) (by omega)).mono ?_; rintro e wk11 ⟨pB, qB, huB, s81_, A81_, n81_, c81_, t81_, B81_, m81_, d81_, s82_, A82_, n82_, c82_, t82_, B82_, m82_, d82_, rfl, yB, hx11⟩; have HB := Lib.hid (hull2_lo huB); clear huB rB)
    refine hK.out _ _ hx11 ?_
    clear hK K
    try simp only [Act.put]
    try simp only [List.setIfInBounds_toArray]
    try simp only [List.set_cons_succ]
    try simp only [List.set_cons_zero]
    refine Late.finish2 (hAl _ (by simp)) (hAl _ (by simp)) (by decide) (by decide) (by kernel_rfl) (by kernel_rfl) (by kernel_rfl) (fun wz g5 g6 ez Ez lg5 lg6 hne xb1 xb2 => ?_)
    clear hAl hQ ES
    have p10 := xb1.cell 0 _ rfl
    have f10 := xb1.frozen 0
    have p11 := xb1.cell 1 _ rfl
    have f11 := xb1.frozen 1
    have p12 := xb1.cell 2 _ rfl
    have f12 := xb1.frozen 2
    have p13 := xb1.cell 3 _ rfl
    have f13 := xb1.frozen 3
    have p14 := xb1.cell 4 _ rfl
    have f14 := xb1.frozen 4
    have p15 := xb1.cell 5 _ rfl
    have f15 := xb1.frozen 5
    have p16 := xb1.cell 6 _ rfl
    have f16 := xb1.frozen 6
    have p17 := xb1.cell 7 _ rfl
    have f17 := xb1.frozen 7
    try simp only [Act.put]
    try simp only [List.setIfInBounds_toArray]
    try simp only [List.set_cons_succ]
    try simp only [List.set_cons_zero]
    have e8 := fin_oct (T := 28) (v0 := (.bool s71_)) (v1 := (.slice A71_ n71_ c71_)) (v2 := (.bool t71_)) (v3 := (.slice B71_ m71_ d71_)) (v4 := (.bool s72_)) (v5 := (.slice A72_ n72_ c72_)) (v6 := (.bool t72_)) (v7 := (.slice B72_ m72_ d72_)) xb1
    refine wpAnyH_ready (rs := [14]) (by kernel_rfl) (by simp) (AllReadyH.cons rfl (fun K hK => ?_) AllReadyH.nil)
    go_simp
    refine hK.out _ _ (e8.2.2.1 _ Ez lg5) (fun _ => ?_)
    clear hK K
    try simp only [Act.put]
    try simp only [List.setIfInBounds_toArray]
    try simp only [List.set_cons_succ]
    try simp only [List.set_cons_zero]
    refine any_world (fun U => Ext W U ∧ Box U g5 28 #[.bool s71_, .slice A71_ n71_ c71_, .bool t71_, .slice B71_ m71_ d71_, .bool s72_, .slice A72_ n72_ c72_, .bool t72_, .slice B72_ m72_ d72_] ∧ Box U g6 28 #[Value.bool false, Value.slice none 0 0, Value.bool false, Value.slice none 0 0, Value.bool false, Value.slice none 0 0, Value.bool false, Value.slice none 0 0] ∧ IV U pA qA L s71_ A71_ n71_ c71_ t71_ B71_ m71_ d71_ s72_ A72_ n72_ c72_ t72_ B72_ m72_ d72_ ∧ IV U pB qB L s81_ A81_ n81_ c81_ t81_ B81_ m81_ d81_ s82_ A82_ n82_ c82_ t82_ B82_ m82_ d82_) ⟨e8.2.2.1 _ Ez lg5, e8.1, e8.2.2.2 _ _ _ (Ne.symm hne) xb2, ⟨⟨e8.2.1 _ _ _ _ _ _ (yA.ext (e11.trans (hx11.trans ez))).low.num, e8.2.1 _ _ _ _ _ _ (yA.ext (e11.trans (hx11.trans ez))).low.den⟩, ⟨e8.2.1 _ _ _ _ _ _ (yA.ext (e11.trans (hx11.trans ez))).high.num, e8.2.1 _ _ _ _ _ _ (yA.ext (e11.trans (hx11.trans ez))).high.den⟩⟩, ⟨⟨e8.2.1 _ _ _ _ _ _ (yB.ext ez).low.num, e8.2.1 _ _ _ _ _ _ (yB.ext ez).low.den⟩, ⟨e8.2.1 _ _ _ _ _ _ (yB.ext ez).high.num, e8.2.1 _ _ _ _ _ _ (yB.ext ez).high.den⟩⟩⟩ ?_
    clear e8 xb1 xb2 yA yB p10 f10 p11 f11 p12 f12 p13 f13 p14 f14 p15 f15 p16 f16 p17 f17
    rintro U ⟨EU, xb1, xb2, yA, yB⟩
    have p10 := xb2.cell 0 _ rfl
    have f10 := xb2.frozen 0
    have p11 := xb2.cell 1 _ rfl
    have f11 := xb2.frozen 1
    have p12 := xb2.cell 2 _ rfl
    have f12 := xb2.frozen 2
    have p13 := xb2.cell 3 _ rfl
    have f13 := xb2.frozen 3
    have p14 := xb2.cell 4 _ rfl
    have f14 := xb2.frozen 4
    have p15 := xb2.cell 5 _ rfl
    have f15 := xb2.frozen 5
    have p16 := xb2.cell 6 _ rfl
    have f16 := xb2.frozen 6
    have p17 := xb2.cell 7 _ rfl
    have f17 := xb2.frozen 7
    have e8 := fin_oct (T := 28) (v0 := (.bool s81_)) (v1 := (.slice A81_ n81_ c81_)) (v2 := (.bool t81_)) (v3 := (.slice B81_ m81_ d81_)) (v4 := (.bool s82_)) (v5 := (.slice A82_ n82_ c82_)) (v6 := (.bool t82_)) (v7 := (.slice B82_ m82_ d82_)) xb2
    refine wpAnyH_ready (rs := [15]) (by kernel_rfl) (by simp) (AllReadyH.cons rfl (fun K hK => ?_) AllReadyH.nil)
    go_simp
    refine hK.out _ _ (e8.2.2.1 _ EU lg6) (fun _ => ?_)
    clear hK K
    try simp only [Act.put]
    try simp only [List.setIfInBounds_toArray]
    try simp only [List.set_cons_succ]
    try simp only [List.set_cons_zero]
    refine any_world (fun X => Ext W X ∧ Box X g5 28 #[.bool s71_, .slice A71_ n71_ c71_, .bool t71_, .slice B71_ m71_ d71_, .bool s72_, .slice A72_ n72_ c72_, .bool t72_, .slice B72_ m72_ d72_] ∧ Box X g6 28 #[.bool s81_, .slice A81_ n81_ c81_, .bool t81_, .slice B81_ m81_ d81_, .bool s82_, .slice A82_ n82_ c82_, .bool t82_, .slice B82_ m82_ d82_] ∧ IV X pA qA L s71_ A71_ n71_ c71_ t71_ B71_ m71_ d71_ s72_ A72_ n72_ c72_ t72_ B72_ m72_ d72_ ∧ IV X pB qB L s81_ A81_ n81_ c81_ t81_ B81_ m81_ d81_ s82_ A82_ n82_ c82_ t82_ B82_ m82_ d82_) ⟨e8.2.2.1 _ EU lg6, e8.2.2.2 _ _ _ hne xb1, e8.1, ⟨⟨e8.2.1 _ _ _ _ _ _ yA.low.num, e8.2.1 _ _ _ _ _ _ yA.low.den⟩, ⟨e8.2.1 _ _ _ _ _ _ yA.high.num, e8.2.1 _ _ _ _ _ _ yA.high.den⟩⟩, ⟨⟨e8.2.1 _ _ _ _ _ _ yB.low.num, e8.2.1 _ _ _ _ _ _ yB.low.den⟩, ⟨e8.2.1 _ _ _ _ _ _ yB.high.num, e8.2.1 _ _ _ _ _ _ yB.high.den⟩⟩⟩ ?_
    clear e8 xb1 xb2 yA yB EU Ez p10 f10 p11 f11 p12 f12 p13 f13 p14 f14 p15 f15 p16 f16 p17 f17
    rintro X ⟨EX, xb1, xb2, yA, yB⟩
    have hqA := HA.out
    have hpB := HB.out
    subst hqA hpB
    refine wpAnyH_done (by kernel_rfl) ?_ _
    replace bz := bz.ext EX
    replace ext := ext.trans EX
    clear EX
    have k0 := xb1.cell 0 (.bool s71_) rfl
    have k1 := xb1.cell 1 (.slice A71_ n71_ c71_) rfl
    have k2 := xb1.cell 2 (.bool t71_) rfl
    have k3 := xb1.cell 3 (.slice B71_ m71_ d71_) rfl
    have k4 := xb1.cell 4 (.bool s72_) rfl
    have k5 := xb1.cell 5 (.slice A72_ n72_ c72_) rfl
    have k6 := xb1.cell 6 (.bool t72_) rfl
    have k7 := xb1.cell 7 (.slice B72_ m72_ d72_) rfl
    have x0 := xb2.cell 0 (.bool s81_) rfl
    have x1 := xb2.cell 1 (.slice A81_ n81_ c81_) rfl
    have x2 := xb2.cell 2 (.bool t81_) rfl
    have x3 := xb2.cell 3 (.slice B81_ m81_ d81_) rfl
    have x4 := xb2.cell 4 (.bool s82_) rfl
    have x5 := xb2.cell 5 (.slice A82_ n82_ c82_) rfl
    have x6 := xb2.cell 6 (.bool t82_) rfl
    have x7 := xb2.cell 7 (.slice B82_ m82_ d82_) rfl
    go_wp2_with fail
    refine (p_CmpR yA.high yB.low (by omega) (by omega) (by omega)).mono ?_
    rintro e Wc ⟨rfl, hxt⟩
    rw [HU.out]
    replace bz := bz.ext hxt
    replace xb1 := xb1.ext hxt
    replace xb2 := xb2.ext hxt
    replace yA := yA.ext hxt
    replace yB := yB.ext hxt
    replace ext := ext.trans hxt
    clear hxt k0 k1 k2 k3 k4 k5 k6 k7 x0 x1 x2 x3 x4 x5 x6 x7
    have hx1 := Ext.refl Wc
    have z0 := (bz.ext hx1).cell 0 _ rfl
    have f0 := (bz.ext hx1).frozen 0
    have z1 := (bz.ext hx1).cell 1 _ rfl
    have f1 := (bz.ext hx1).frozen 1
    have z2 := (bz.ext hx1).cell 2 _ rfl
    have f2 := (bz.ext hx1).frozen 2
    have z3 := (bz.ext hx1).cell 3 _ rfl
    have f3 := (bz.ext hx1).frozen 3
    have z4 := (bz.ext hx1).cell 4 _ rfl
    have f4 := (bz.ext hx1).frozen 4
    have z5 := (bz.ext hx1).cell 5 _ rfl
    have f5 := (bz.ext hx1).frozen 5
    have z6 := (bz.ext hx1).cell 6 _ rfl
    have f6 := (bz.ext hx1).frozen 6
    have z7 := (bz.ext hx1).cell 7 _ rfl
    have f7 := (bz.ext hx1).frozen 7
    go_wp2_with fail
    obtain ⟨b1, b2, b3, b4⟩ := fin_oct (v0 := (.bool false)) (v1 := (.slice none 0 0)) (v2 := (.bool false)) (v3 := (.slice none 0 0)) (v4 := (.bool false)) (v5 := (.slice none 0 0)) (v6 := (.bool false)) (v7 := (.slice none 0 0)) (bz.ext hx1)
    have r0 := b1.cell 0 (.bool false) rfl
    have r1 := b1.cell 1 (.slice none 0 0) rfl
    have r2 := b1.cell 2 (.bool false) rfl
    have r3 := b1.cell 3 (.slice none 0 0) rfl
    have r4 := b1.cell 4 (.bool false) rfl
    have r5 := b1.cell 5 (.slice none 0 0) rfl
    have r6 := b1.cell 6 (.bool false) rfl
    have r7 := b1.cell 7 (.slice none 0 0) rfl
    unfold set8 at r0 r1 r2 r3 r4 r5 r6 r7
    refine bodyPost_ret (v := .tuple #[.agg #[.bool false, .slice none 0 0, .bool false, .slice none 0 0, .bool false, .slice none 0 0, .bool false, .slice none 0 0], .bool false]) (by simp [results, Tryz.results41, go_sem, r0, r1, r2, r3, r4, r5, r6, r7]) rfl (.inr ⟨HC.out, rfl, b3 _ (ext.trans hx1) (by omega)⟩)
theorem p_MeetV (h : IV w lo hi L s A n c t B m d s' A' n' c' t' B' m' d') (h' : IV w lo' hi' L u C i j v D k l u' C' i' j' v' D' k' l') (hL : L ≤ 20) : Calls Tryz.prog 41 #[.agg #[.bool s, .slice A n c, .bool t, .slice B m d, .bool s', .slice A' n' c', .bool t', .slice B' m' d'], .agg #[.bool u, .slice C i j, .bool v, .slice D k l, .bool u', .slice C' i' j', .bool v', .slice D' k' l']] w (RetMeet lo hi lo' hi' L w) := by
  by_cases hc : mxR lo lo' ≤ mnR hi hi'
  · exact p_Meet_y h h' hL hc
  · exact p_Meet_n h h' hL hc
end
end Go.Proofs.YtoabhnofppledaaGreatDoor
