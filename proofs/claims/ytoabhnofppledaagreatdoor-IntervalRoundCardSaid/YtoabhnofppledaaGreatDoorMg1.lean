/- For every interval and every number of bits the law IntervalRound returns true: Round returns the specified interval, the arguments keep their values, and the examples of the chapter hold. Condition: the table math/bits.deBruijn64tab holds what its initialiser lays (tied by the given card). -/
import Derived.Test.YtoabhnofppledaaGreatDoorM0
import Derived.Test.YtoabhnofppledaaGreatDoorM1
import Derived.Test.YtoabhnofppledaaGreatDoorM2
import Derived.Test.YtoabhnofppledaaGreatDoorM3
import Derived.Test.YtoabhnofppledaaGreatDoorM4
import Derived.Test.YtoabhnofppledaaGreatDoorM5
import Derived.Test.YtoabhnofppledaaGreatDoorM6
import Derived.Test.YtoabhnofppledaaGreatDoorM7
import Derived.Test.YtoabhnofppledaaGreatDoorM8
import Derived.Test.YtoabhnofppledaaGreatDoorM9
import Derived.Test.YtoabhnofppledaaGreatDoorMg0
namespace Go.Proofs.YtoabhnofppledaaGreatDoor
open Go.RowKit
attribute [local go_sem ↓] Go.wp_at_zero Go.wp_at_succ
section
variable {w w' : World} {q p lo hi lo' hi' x : Rat} {L M : Nat} {s t s' t' sx tx u v u' v' : Bool} {A B A' B' Ax Bx C D C' D' : Option Addr} {n c m d n' c' m' d' nx cx mx dx i j k l i' j' k' l' : Nat} {qs : List Rat}
set_option maxHeartbeats 4000000 in
theorem p_Within (h : IV w lo hi L s A n c t B m d s' A' n' c' t' B' m' d') (g : IV w lo' hi' M u C i j v D k l u' C' i' j' v' D' k' l') (hL : L ≤ 60) (hM : M ≤ 60) : Calls Tryz.prog 33 #[.agg #[.bool s, .slice A n c, .bool t, .slice B m d, .bool s', .slice A' n' c', .bool t', .slice B' m' d'], .agg #[.bool u, .slice C i j, .bool v, .slice D k l, .bool u', .slice C' i' j', .bool v', .slice D' k' l']] w fun e w' => e = .returned (.bool (inB lo' hi' lo && inB lo' hi' hi)) ∧ Ext w w' := by
  go_enter Tryz.func33, Tryz.ntmps33
  go_upto_region 1 with (fail)
  obtain ⟨W, hW, ext, bx, by_, hz⟩ := box2 w 28 28 #[.bool s, .slice A n c, .bool t, .slice B m d, .bool s', .slice A' n' c', .bool t', .slice B' m' d'] #[.bool u, .slice C i j, .bool v, .slice D k l, .bool u', .slice C' i' j', .bool v', .slice D' k' l']
  rw [← hW]
  clear hW hz
  have hl := h.low.ext ext
  have hh := h.high.ext ext
  have hg := g.ext ext
  have k0 := bx.cell 0 (.bool s) rfl
  have k1 := bx.cell 1 (.slice A n c) rfl
  have k2 := bx.cell 2 (.bool t) rfl
  have k3 := bx.cell 3 (.slice B m d) rfl
  have k4 := bx.cell 4 (.bool s') rfl
  have k5 := bx.cell 5 (.slice A' n' c') rfl
  have k6 := bx.cell 6 (.bool t') rfl
  have k7 := bx.cell 7 (.slice B' m' d') rfl
  have x0 := by_.cell 0 (.bool u) rfl
  have x1 := by_.cell 1 (.slice C i j) rfl
  have x2 := by_.cell 2 (.bool v) rfl
  have x3 := by_.cell 3 (.slice D k l) rfl
  have x4 := by_.cell 4 (.bool u') rfl
  have x5 := by_.cell 5 (.slice C' i' j') rfl
  have x6 := by_.cell 6 (.bool v') rfl
  have x7 := by_.cell 7 (.slice D' k' l') rfl
  go_wp2_with fail
  refine (p_Contains hg hl (by omega) (by omega)).mono ?_
  rintro e V ⟨rfl, hxc⟩
  replace bx := bx.ext hxc
  replace by_ := by_.ext hxc
  replace hl := hl.ext hxc
  replace hh := hh.ext hxc
  replace hg := hg.ext hxc
  replace ext := ext.trans hxc
  clear hxc k0 x0 k1 x1 k2 x2 k3 x3 k4 x4 k5 x5 k6 x6 k7 x7
  have k0 := bx.cell 0 (.bool s) rfl
  have k1 := bx.cell 1 (.slice A n c) rfl
  have k2 := bx.cell 2 (.bool t) rfl
  have k3 := bx.cell 3 (.slice B m d) rfl
  have k4 := bx.cell 4 (.bool s') rfl
  have k5 := bx.cell 5 (.slice A' n' c') rfl
  have k6 := bx.cell 6 (.bool t') rfl
  have k7 := bx.cell 7 (.slice B' m' d') rfl
  have x0 := by_.cell 0 (.bool u) rfl
  have x1 := by_.cell 1 (.slice C i j) rfl
  have x2 := by_.cell 2 (.bool v) rfl
  have x3 := by_.cell 3 (.slice D k l) rfl
  have x4 := by_.cell 4 (.bool u') rfl
  have x5 := by_.cell 5 (.slice C' i' j') rfl
  have x6 := by_.cell 6 (.bool v') rfl
  have x7 := by_.cell 7 (.slice D' k' l') rfl
  cases h1 : inB lo' hi' lo
  · go_wp2_with fail
    go_ret
    exact ⟨by rw [h1]; rfl, ext⟩
  · go_wp2_with fail
    refine (p_Contains hg hh (by omega) (by omega)).mono ?_
    rintro e V2 ⟨rfl, hxc⟩
    replace ext := ext.trans hxc
    go_wp2_with fail
    go_ret
    exact ⟨by rw [h1]; rfl, ext⟩
end
end Go.Proofs.YtoabhnofppledaaGreatDoor
namespace Go.Proofs.YtoabhnofppledaaGreatDoor
open Go.RowKit
attribute [local go_sem ↓] Go.wp_at_zero Go.wp_at_succ
section
variable {w w' : World} {q p lo hi lo' hi' x : Rat} {L M : Nat} {s t s' t' sx tx u v u' v' : Bool} {A B A' B' Ax Bx C D C' D' : Option Addr} {n c m d n' c' m' d' nx cx mx dx i j k l i' j' k' l' : Nat} {qs : List Rat}
set_option maxHeartbeats 4000000 in
theorem q_ZeroV : Calls Tryz.prog 28 #[.agg #[.bool false, .slice none 0 0, .bool false, .slice none 0 0, .bool false, .slice none 0 0, .bool false, .slice none 0 0]] w fun e w' => e = .returned (.bool true) ∧ Ext w w' := by
  go_enter Tryz.func28, Tryz.ntmps28
  go_upto_region 1 with (fail)
  obtain ⟨W, hW, ext, bx, hz⟩ := box1 w 28 #[.bool false, .slice none 0 0, .bool false, .slice none 0 0, .bool false, .slice none 0 0, .bool false, .slice none 0 0]
  rw [← hW]
  clear hW hz
  have k0 := bx.cell 0 (.bool false) rfl
  have k1 := bx.cell 1 (.slice none 0 0) rfl
  have k2 := bx.cell 2 (.bool false) rfl
  have k3 := bx.cell 3 (.slice none 0 0) rfl
  have k4 := bx.cell 4 (.bool false) rfl
  have k5 := bx.cell 5 (.slice none 0 0) rfl
  have k6 := bx.cell 6 (.bool false) rfl
  have k7 := bx.cell 7 (.slice none 0 0) rfl
  go_wp2_with fail
  go_ret
  exact ⟨rfl, ext⟩
end
end Go.Proofs.YtoabhnofppledaaGreatDoor
namespace Go.Proofs.YtoabhnofppledaaGreatDoor
open Go.RowKit
attribute [local go_sem ↓] Go.wp_at_zero Go.wp_at_succ
def few10 (n m : Nat) (s : Bool) (xs : List Nat) (t : Bool) (ys : List Nat) : Bool := decide (n ≤ 10) && (decide (m ≤ 10) && validQ s xs t ys)
/-- an interval with ends of at most ten words. -/
def fewV (n m n' m' : Nat) (s : Bool) (xs : List Nat) (t : Bool) (ys : List Nat) (s' : Bool) (xs' : List Nat) (t' : Bool) (ys' : List Nat) : Bool :=
  few10 n m s xs t ys && (few10 n' m' s' xs' t' ys' && validV s xs t ys s' xs' t' ys')
theorem few10_le {n m : Nat} {s : Bool} {xs : List Nat} {t : Bool} {ys : List Nat} (h : few10 n m s xs t ys = true) : n ≤ 10 ∧ m ≤ 10 ∧ validQ s xs t ys = true := by
  unfold few10 at h
  simp only [Bool.and_eq_true, decide_eq_true_eq] at h
  exact ⟨h.1, h.2.1, h.2.2⟩
theorem few_iv {w : World} {s t s' t' : Bool} {A B A' B' : Option Addr} {n c m d n' c' m' d' : Nat} {xs ys xs' ys' : List Nat} (h : RI w A n c xs) (k : RI w B m d ys) (h' : RI w A' n' c' xs') (k' : RI w B' m' d' ys') (hf : fewV n m n' m' s xs t ys s' xs' t' ys' = true) :
    IV w (rawQ s xs t ys) (rawQ s' xs' t' ys') 10 s A n c t B m d s' A' n' c' t' B' m' d' ∧ rawQ s xs t ys ≤ rawQ s' xs' t' ys' := by
  unfold fewV validV at hf
  simp only [Bool.and_eq_true, decide_eq_true_eq] at hf
  obtain ⟨f1, f2, f3, f4, f5⟩ := hf
  obtain ⟨a1, a2, a3⟩ := few10_le f1
  obtain ⟨b1, b2, b3⟩ := few10_le f2
  exact ⟨⟨NR.of_raw' h k a3 a1 a2, NR.of_raw' h' k' b3 b1 b2⟩, f5⟩
section
variable {w w' : World} {L M : Nat} {s t s' t' : Bool} {A B A' B' : Option Addr} {n c m d n' c' m' d' : Nat} {xs ys xs' ys' : List Nat}
set_option maxHeartbeats 4000000 in
theorem q_Few10 (h : RI w A n c xs) (k : RI w B m d ys) : Calls Tryz.prog 34 #[.agg #[.bool s, .slice A n c, .bool t, .slice B m d], .int .i64 10] w fun e w' => e = .returned (.bool (few10 n m s xs t ys)) ∧ Ext w w' := by
  by_cases h1 : n ≤ 10
  · have d1 : decide ((n : Int) ≤ (10 : Int)) = true := decide_eq_true (by omega)
    by_cases h2 : m ≤ 10
    · have d2 : decide ((m : Int) ≤ (10 : Int)) = true := decide_eq_true (by omega)
      have hf : few10 n m s xs t ys = validQ s xs t ys := by unfold few10; rw [decide_eq_true h1, decide_eq_true h2]; rfl
      rw [hf]
      clear hf
      go_enter Tryz.func34, Tryz.ntmps34
      go_upto_region 1 with (fail)
      obtain ⟨W, hW, extW, bx, hz⟩ := box1 w 26 #[.bool s, .slice A n c, .bool t, .slice B m d]
      rw [← hW]
      clear hW
      replace h := h.ext extW
      replace k := k.ext extW
      have x0 := bx.cell 0 (.bool s) rfl
      have x1 := bx.cell 1 (.slice A n c) rfl
      have x2 := bx.cell 2 (.bool t) rfl
      have x3 := bx.cell 3 (.slice B m d) rfl
      go_wp2_with fail
      refine (q_ValidRaw h k (by omega) (by omega)).mono ?_
      rintro e wd ⟨rfl, hxd⟩
      go_wp2_with fail
      go_ret
      exact ⟨rfl, extW.trans hxd⟩
    · have d2 : decide ((m : Int) ≤ (10 : Int)) = false := decide_eq_false (by omega)
      have hf : few10 n m s xs t ys = false := by unfold few10; rw [decide_eq_true h1, decide_eq_false h2]; rfl
      rw [hf]
      clear hf
      go_enter Tryz.func34, Tryz.ntmps34
      go_upto_region 1 with (fail)
      obtain ⟨W, hW, extW, bx, hz⟩ := box1 w 26 #[.bool s, .slice A n c, .bool t, .slice B m d]
      rw [← hW]
      clear hW
      replace h := h.ext extW
      replace k := k.ext extW
      have x0 := bx.cell 0 (.bool s) rfl
      have x1 := bx.cell 1 (.slice A n c) rfl
      have x2 := bx.cell 2 (.bool t) rfl
      have x3 := bx.cell 3 (.slice B m d) rfl
      go_wp2_with fail
      go_ret
      exact ⟨rfl, extW⟩
  · have d1 : decide ((n : Int) ≤ (10 : Int)) = false := decide_eq_false (by omega)
    have hf : few10 n m s xs t ys = false := by unfold few10; rw [decide_eq_false h1]; rfl
    rw [hf]
    clear hf
    go_enter Tryz.func34, Tryz.ntmps34
    go_upto_region 1 with (fail)
    obtain ⟨W, hW, extW, bx, hz⟩ := box1 w 26 #[.bool s, .slice A n c, .bool t, .slice B m d]
    rw [← hW]
    clear hW
    replace h := h.ext extW
    replace k := k.ext extW
    have x0 := bx.cell 0 (.bool s) rfl
    have x1 := bx.cell 1 (.slice A n c) rfl
    have x2 := bx.cell 2 (.bool t) rfl
    have x3 := bx.cell 3 (.slice B m d) rfl
    go_wp2_with fail
    go_ret
    exact ⟨rfl, extW⟩
set_option maxHeartbeats 4000000 in
theorem q_FewV (h : RI w A n c xs) (k : RI w B m d ys) (h' : RI w A' n' c' xs') (k' : RI w B' m' d' ys') : Calls Tryz.prog 54 #[.agg #[.bool s, .slice A n c, .bool t, .slice B m d, .bool s', .slice A' n' c', .bool t', .slice B' m' d'], .int .i64 10] w fun e w' => e = .returned (.bool (fewV n m n' m' s xs t ys s' xs' t' ys')) ∧ Ext w w' := by
  obtain ⟨r, hr⟩ : ∃ r, fewV n m n' m' s xs t ys s' xs' t' ys' = r := ⟨_, rfl⟩
  have HR := Lib.hid hr
  rw [hr]
  clear hr
  go_enter Tryz.func54, Tryz.ntmps54
  go_upto_region 1 with (fail)
  obtain ⟨W, hW, ext, bx, hz⟩ := box1 w 28 #[.bool s, .slice A n c, .bool t, .slice B m d, .bool s', .slice A' n' c', .bool t', .slice B' m' d']
  rw [← hW]
  clear hW hz
  have k0 := bx.cell 0 (.bool s) rfl
  have k1 := bx.cell 1 (.slice A n c) rfl
  have k2 := bx.cell 2 (.bool t) rfl
  have k3 := bx.cell 3 (.slice B m d) rfl
  have k4 := bx.cell 4 (.bool s') rfl
  have k5 := bx.cell 5 (.slice A' n' c') rfl
  have k6 := bx.cell 6 (.bool t') rfl
  have k7 := bx.cell 7 (.slice B' m' d') rfl
  cases hv : few10 n m s xs t ys with
  | false =>
    have HV := Lib.hid hv
    clear hv
    go_wp2_with fail
    refine (q_Few10 (h.ext ext) (k.ext ext)).mono ?_
    rintro e V ⟨rfl, hxc⟩
    rw [HV.out]
    go_wp2_with fail
    go_ret
    refine ⟨?_, ext.trans hxc⟩
    rw [← HR.out, fewV, HV.out]; rfl
  | true =>
    have hb1 := few10_le hv
    have HV := Lib.hid hv
    clear hv
    go_wp2_with fail
    refine (q_Few10 (h.ext ext) (k.ext ext)).mono ?_
    rintro e V ⟨rfl, hxc⟩
    rw [HV.out]
    replace bx := bx.ext hxc
    replace ext := ext.trans hxc
    clear hxc k0 k1 k2 k3 k4 k5 k6 k7
    have k0 := bx.cell 0 (.bool s) rfl
    have k1 := bx.cell 1 (.slice A n c) rfl
    have k2 := bx.cell 2 (.bool t) rfl
    have k3 := bx.cell 3 (.slice B m d) rfl
    have k4 := bx.cell 4 (.bool s') rfl
    have k5 := bx.cell 5 (.slice A' n' c') rfl
    have k6 := bx.cell 6 (.bool t') rfl
    have k7 := bx.cell 7 (.slice B' m' d') rfl
    cases hv' : few10 n' m' s' xs' t' ys' with
    | false =>
      have HV' := Lib.hid hv'
      clear hv'
      have HB := Lib.hid hb1
      clear hb1
      go_wp2_with fail
      refine (q_Few10 (h'.ext ext) (k'.ext ext)).mono ?_
      rintro e V2 ⟨rfl, hxc⟩
      rw [HV'.out]
      go_wp2_with fail
      go_ret
      refine ⟨?_, ext.trans hxc⟩
      rw [← HR.out, fewV, HV.out, HV'.out]; rfl
    | true =>
      have hb2 := few10_le hv'
      have HV' := Lib.hid hv'
      clear hv'
      have HB := Lib.hid (And.intro hb1 hb2)
      clear hb1 hb2
      go_wp2_with fail
      refine (q_Few10 (h'.ext ext) (k'.ext ext)).mono ?_
      rintro e V2 ⟨rfl, hxc⟩
      rw [HV'.out]
      replace bx := bx.ext hxc
      replace ext := ext.trans hxc
      clear hxc k0 k1 k2 k3 k4 k5 k6 k7
      have k0 := bx.cell 0 (.bool s) rfl
      have k1 := bx.cell 1 (.slice A n c) rfl
      have k2 := bx.cell 2 (.bool t) rfl
      have k3 := bx.cell 3 (.slice B m d) rfl
      have k4 := bx.cell 4 (.bool s') rfl
      have k5 := bx.cell 5 (.slice A' n' c') rfl
      have k6 := bx.cell 6 (.bool t') rfl
      have k7 := bx.cell 7 (.slice B' m' d') rfl
      go_wp2_with fail
      refine (q_ValidV (h.ext ext) (k.ext ext) (h'.ext ext) (k'.ext ext) (by have := HB.out; omega) (by have := HB.out; omega) (by have := HB.out; omega) (by have := HB.out; omega)).mono ?_
      rintro e V3 ⟨rfl, hxc⟩
      go_wp2_with fail
      go_ret
      refine ⟨?_, ext.trans hxc⟩
      rw [← HR.out, fewV, HV.out, HV'.out]; rfl
end
end Go.Proofs.YtoabhnofppledaaGreatDoor
namespace Go.Proofs.YtoabhnofppledaaGreatDoor
open Go.RowKit
attribute [local go_sem ↓] Go.wp_at_zero Go.wp_at_succ
set_option maxHeartbeats 8000000 in
theorem fewI1 {w : World} {g : Nat} {sa1 ta1 sa2 ta2 : Bool} {Aa1 Ba1 Aa2 Ba2 : Option Addr} {na1 ca1 ma1 da1 na2 ca2 ma2 da2 : Nat} {xa1 ya1 xa2 ya2 : List Nat} (hbox : Box w g 28 #[.bool sa1, .slice Aa1 na1 ca1, .bool ta1, .slice Ba1 ma1 da1, .bool sa2, .slice Aa2 na2 ca2, .bool ta2, .slice Ba2 ma2 da2]) (ha : RawV w Aa1 na1 ca1 xa1 Ba1 ma1 da1 ya1 Aa2 na2 ca2 xa2 Ba2 ma2 da2 ya2) :
    Calls Tryz.prog 15 #[.slice (some ⟨g, 0, none⟩) 1 1] w fun e w' => e = .returned (.bool (fewV na1 ma1 na2 ma2 sa1 xa1 ta1 ya1 sa2 xa2 ta2 ya2)) ∧ Ext w w' := by
  go_enter Tryz.func15, Tryz.ntmps15
  go_wp2_with fail
  go_loopw [7] (fun i wr => ∃ k : Nat, k ≤ 1 ∧ i = .int .i64 (k : Int) ∧ Ext w wr ∧ ((0 < k → fewV na1 ma1 na2 ma2 sa1 xa1 ta1 ya1 sa2 xa2 ta2 ya2 = true))) (fun i _ => 1 - (intOf i).toNat)
  case atStart => exact ⟨0, by omega, rfl, Ext.refl _, by simp⟩
  case round =>
    obtain ⟨k, hk, rfl, hext, hall⟩ := hrel
    have HA := Lib.hid hall
    clear hall
    have c0 := (hbox.ext hext).cell 0 (.bool sa1) rfl
    have c1 := (hbox.ext hext).cell 1 (.slice Aa1 na1 ca1) rfl
    have c2 := (hbox.ext hext).cell 2 (.bool ta1) rfl
    have c3 := (hbox.ext hext).cell 3 (.slice Ba1 ma1 da1) rfl
    have c4 := (hbox.ext hext).cell 4 (.bool sa2) rfl
    have c5 := (hbox.ext hext).cell 5 (.slice Aa2 na2 ca2) rfl
    have c6 := (hbox.ext hext).cell 6 (.bool ta2) rfl
    have c7 := (hbox.ext hext).cell 7 (.slice Ba2 ma2 da2) rfl
    have hk2 : k = 0 ∨ k = 1 := by omega
    rcases hk2 with rfl | rfl
    · go_wp2_with (fail)
      refine (q_FewV (ha.ext (hext.alloc _)).1 (ha.ext (hext.alloc _)).2.1 (ha.ext (hext.alloc _)).2.2.1 (ha.ext (hext.alloc _)).2.2.2).mono ?_
      rintro e V ⟨rfl, hxv⟩
      replace hext := (hext.alloc _).trans hxv
      cases hf : fewV na1 ma1 na2 ma2 sa1 xa1 ta1 ya1 sa2 xa2 ta2 ya2 with
      | true =>
        have HF := Lib.hid hf
        clear hf
        go_wp2_with fail
        go_roundw
        case rel => exact ⟨1, by omega, rfl, hext, by have := HA.out; simp [HF.out] at this ⊢; try exact this⟩
        case measure => simp [intOf]
      | false =>
        have HF := Lib.hid hf
        clear hf
        go_wp2_with fail
        go_ret
        exact ⟨by have := HA.out; simp [HF.out] at this ⊢, hext⟩
    · go_wp2_with fail
      go_ret
      exact ⟨by have := HA.out; simp at this; simp [this], hext⟩
end Go.Proofs.YtoabhnofppledaaGreatDoor
namespace Go.Proofs.YtoabhnofppledaaGreatDoor
theorem mkQ_cross {z u : Int} (hu : 0 < u) : (mkQ z u).num * u = z * ((mkQ z u).den : Int) := by
  unfold mkQ
  rw [if_neg (by omega)]
  have h := (Rat.mkRat_eq_iff (n₁ := (mkRat z u.natAbs).num) (n₂ := z) (mkRat z u.natAbs).den_nz (show u.natAbs ≠ 0 by omega)).1 (Rat.mkRat_self _)
  have e : ((u.natAbs : Nat) : Int) = u := by omega
  rw [e] at h
  exact h
theorem mkQ_le {z u : Int} {q : Rat} (hu : 0 < u) : mkQ z u ≤ q ↔ z * (q.den : Int) ≤ q.num * u := by
  have c := mkQ_cross (z := z) hu
  have hd := denI (mkQ z u)
  rw [Rat.le_iff]
  have e1 : (mkQ z u).num * (q.den : Int) * u = z * (q.den : Int) * ((mkQ z u).den : Int) := by rw [Int.mul_right_comm, c, Int.mul_right_comm]
  have e2 : q.num * ((mkQ z u).den : Int) * u = q.num * u * ((mkQ z u).den : Int) := Int.mul_right_comm _ _ _
  constructor
  · intro h
    have h' := mul_le_in hu h
    rw [e1, e2] at h'
    exact mul_le_out hd h'
  · intro h
    have h' := mul_le_in hd h
    rw [← e1, ← e2] at h'
    exact mul_le_out hu h'
theorem le_mkQ {z u : Int} {q : Rat} (hu : 0 < u) : q ≤ mkQ z u ↔ q.num * u ≤ z * (q.den : Int) := by
  have c := mkQ_cross (z := z) hu
  have hd := denI (mkQ z u)
  rw [Rat.le_iff]
  have e1 : (mkQ z u).num * (q.den : Int) * u = z * (q.den : Int) * ((mkQ z u).den : Int) := by rw [Int.mul_right_comm, c, Int.mul_right_comm]
  have e2 : q.num * ((mkQ z u).den : Int) * u = q.num * u * ((mkQ z u).den : Int) := Int.mul_right_comm _ _ _
  constructor
  · intro h
    have h' := mul_le_in hu h
    rw [e1, e2] at h'
    exact mul_le_out hd h'
  · intro h
    have h' := mul_le_in hd h
    rw [← e1, ← e2] at h'
    exact mul_le_out hu h'
end Go.Proofs.YtoabhnofppledaaGreatDoor
namespace Go.Proofs.YtoabhnofppledaaGreatDoor
open Go.RowKit
attribute [local go_sem ↓] Go.wp_at_zero Go.wp_at_succ
section
variable {n : Nat} {xs : List Nat} {s : Bool}
theorem pow_half {z : Int} {k : Nat} (h : k % 2 = 0) : z ^ (k / 2) * z ^ (k / 2) = z ^ k := by
  rw [← Int.pow_add]; congr 1; omega
theorem pow_half1 {z : Int} {k : Nat} (h : k % 2 = 1) : z ^ (k / 2) * z ^ (k / 2) * z = z ^ k := by
  rw [← Int.pow_add, ← Int.pow_succ]; congr 1; omega
set_option maxHeartbeats 4000000 in
theorem ref_power (hn : xs.length = n) (hn20 : n ≤ 20) : ∀ (k : Nat), k ≤ 4096 → ∀ (A : Option Addr) (c : Nat) (w : World), Rd w A xs → n ≤ c → c ≤ maxLen →
    Calls Tryz.prog 141 #[.agg #[.bool s, .slice A n c], .int .i64 (k : Int)] w (RetI ((ival s xs) ^ k) (max 2 ((n + 4) * k)) w) := by
  have Hn := Lib.hid hn
  clear hn
  intro k
  induction k using Nat.strongRecOn with
  | ind k ih =>
    intro hk A c w hx hc hcm
    have IH := Lib.hid ih
    clear ih
    by_cases h0 : k = 0
    · subst h0
      go_enter Tryz.func141, Tryz.ntmps141
      go_upto_region 1 with (fail)
      obtain ⟨W, hW, extW, bx, bz, hz⟩ := box2 w 24 24 #[.bool s, .slice A n c] #[.bool false, .slice none 0 0]
      rw [← hW]
      clear hW
      go_wp2_with fail
      refine (ref_FromInt 1 (by omega) (by omega)).mono ?_
      rintro e w1 ⟨b1, A1, c1, ps, rfl, hr1, hc1, hm1, hi1, hl1, hx1⟩
      have bz1 := bz.ext hx1
      have z0 := bz1.cell 0 (.bool false) rfl
      have z1 := bz1.cell 1 (.slice none 0 0) rfl
      have f0 := bz1.frozen 0
      have f1 := bz1.frozen 1
      go_wp2_with fail
      obtain ⟨r1, r2, r3, r4⟩ := fin_pair (b := b1) (n := ps.length) (c := c1) (extW.trans hx1) (by omega) bz1 hr1
      exact bodyPost_ret (v := .agg #[.bool b1, .slice A1 ps.length c1]) (by simp [results, Tryz.results141, go_sem, r3, r4]) rfl ⟨b1, A1, c1, ps, rfl, r1, hc1, hm1, by rw [Int.pow_zero]; exact hi1, by omega, r2⟩
    · have Hh := Lib.hid (show (k : Int) / 2 = ((k / 2 : Nat) : Int) by omega)
      have hk2 : (n + 4) * (k / 2) + (n + 4) * (k / 2) ≤ (n + 4) * k := by rw [← Nat.mul_add]; exact Nat.mul_le_mul_left _ (by omega)
      have hk3 : k % 2 = 1 → (n + 4) * (k / 2) + (n + 4) * (k / 2) + (n + 4) ≤ (n + 4) * k := fun h => by rw [← Nat.mul_add, ← Nat.mul_succ]; exact Nat.mul_le_mul_left _ (by omega)
      have hk4 : (n + 4) * k ≤ 98304 := Nat.mul_le_mul (show n + 4 ≤ 24 by omega) hk
      have hk5 : k / 2 = 0 → k = 1 := fun h => by omega
      have hk6 : 1 ≤ k / 2 → n + 4 ≤ (n + 4) * (k / 2) := fun h => Nat.le_mul_of_pos_right _ h
      have hk7 : n + 4 ≤ (n + 4) * k := Nat.le_mul_of_pos_right _ (by omega)
      have hk8 : k / 2 = 0 → (n + 4) * (k / 2) = 0 := fun h => by rw [h]; rfl
      have H2 := Lib.hid hk2
      have H3 := Lib.hid hk3
      have H4 := Lib.hid hk4
      have H5 := Lib.hid hk5
      have H6 := Lib.hid hk6
      have H7 := Lib.hid hk7
      have H8 := Lib.hid hk8
      clear hk2 hk3 hk4 hk5 hk6 hk7 hk8
      have t0 : ((k : Int) == 0) = false := by rw [beq_eq_false_iff_ne]; omega
      go_enter Tryz.func141, Tryz.ntmps141
      go_upto_region 1 with (fail)
      obtain ⟨W, hW, extW, bx, bz, hz⟩ := box2 w 24 24 #[.bool s, .slice A n c] #[.bool false, .slice none 0 0]
      rw [← hW]
      clear hW
      have x0 := bx.cell 0 (.bool s) rfl
      have x1 := bx.cell 1 (.slice A n c) rfl
      go_wp2_with fail
      rw [Hh.out]
      refine (IH.out (k / 2) (by omega) (by omega) A c _ (hx.ext extW) hc hcm).mono ?_
      rintro e w1 ⟨b1, A1, c1, ps, rfl, hr1, hc1, hm1, hi1, hl1, hx1⟩
      clear x0 x1
      go_upto_region 4 with (fail)
      refine at_world (fun V => Ext W V ∧ Box V w1.heap.size 24 #[.bool b1, .slice A1 ps.length c1] ∧ Rd V A1 ps ∧ W.heap.size ≤ w1.heap.size) ⟨hx1.alloc _, Box.new w1 _ _, hr1.ext ((Ext.refl w1).alloc _), hx1.size⟩ ?_
      generalize w1.heap.size = g5
      clear hr1 hx1
      rintro V ⟨EV, b5, hr1, hg5⟩
      have x0 := b5.cell 0 (.bool b1) rfl
      have x1 := b5.cell 1 (.slice A1 ps.length c1) rfl
      have hps : ps.length ≤ 98304 := by have := H2.out; have := H4.out; omega
      go_wp2_with fail
      refine (ref_Mul rfl rfl hr1 hr1 hc1 hm1 hc1 hm1 (by omega) (by omega)).mono ?_
      rintro e w2 ⟨b2, A2, c2, qs, rfl, hr2, hc2, hm2, hi2, hl2, hx2⟩
      rw [hi1.eq] at hi2
      clear x0 x1
      have hq2 : qs.length ≤ max 4 ((n + 4) * k) := by
        have h1 := H2.out
        have h2 := H8.out
        have h3 := H6.out
        by_cases hz0 : k / 2 = 0
        · have := h2 hz0; omega
        · have := h3 (by omega); omega
      have hq3 : k % 2 = 1 → qs.length + n ≤ (n + 4) * k := fun h => by
        have h1 := H3.out h
        have h2 := H8.out
        have h3 := H6.out
        by_cases hz0 : k / 2 = 0
        · have := h2 hz0; omega
        · have := h3 (by omega); omega
      have HQ3 := Lib.hid hq3
      clear hq3
      go_upto_region 5 with (fail)
      refine at_world (fun U => Ext W U ∧ Box U w2.heap.size 24 #[.bool b2, .slice A2 qs.length c2] ∧ Rd U A2 qs ∧ W.heap.size ≤ w2.heap.size) ⟨(EV.trans hx2).alloc _, Box.new w2 _ _, hr2.ext ((Ext.refl w2).alloc _), (EV.trans hx2).size⟩ ?_
      generalize w2.heap.size = g6
      clear hr2 hx2 b5 hr1 EV
      rintro U ⟨EU, b6, hr2, hg6⟩
      have bx1 := bx.ext EU
      have bz1 := bz.ext EU
      have q0 := b6.cell 0 (.bool b2) rfl
      have q1 := b6.cell 1 (.slice A2 qs.length c2) rfl
      by_cases hodd : k % 2 = 1
      · have t1 : (((k : Int) % 2) == 1) = true := by rw [beq_iff_eq]; omega
        have hi3 := pow_half1 (z := ival s xs) hodd
        have HI3 := Lib.hid hi3
        have Ho := Lib.hid hodd
        clear hi3 hodd
        have x0 := bx1.cell 0 (.bool s) rfl
        have x1 := bx1.cell 1 (.slice A n c) rfl
        go_wp2_with fail
        refine (ref_Mul rfl Hn.out hr2 ((hx.ext extW).ext EU) hc2 hm2 hc hcm (by have := H4.out; omega) (by omega)).mono ?_
        rintro e w3 ⟨b3, A3, c3, rs, rfl, hr3, hc3, hm3, hi4, hl3, hx3⟩
        rw [hi2.eq, HI3.out] at hi4
        have b63 := b6.ext hx3
        have bz3 := bz1.ext hx3
        clear x0 x1 q0 q1
        have q0 := b63.cell 0 (.bool b2) rfl
        have q1 := b63.cell 1 (.slice A2 qs.length c2) rfl
        have f0 := b63.frozen 0
        have f1 := b63.frozen 1
        have hp := put_box (b := b3) (A := A3) (n := rs.length) (c := c3) b63
        have hrp := hp.2.2.1 A3 rs hr3
        have hzp := hp.2.1 _ _ _ (show w.heap.size + 1 ≠ g6 by omega) bz3
        have hep := hp.2.2.2 _ (EU.trans hx3) hg6
        have hbp := hp.1
        clear hp
        go_upto_region 7 with (fail)
        refine at_world (fun Y => Ext W Y ∧ Box Y g6 24 #[.bool b3, .slice A3 rs.length c3] ∧ Rd Y A3 rs ∧ Box Y (w.heap.size + 1) 24 #[.bool false, .slice none 0 0]) ⟨hep, hbp, hrp, hzp⟩ ?_
        clear hep hbp hrp hzp q0 q1 f0 f1 b6 b63 bz3 bz1
        rintro Y ⟨EY, b6, hr3, bz1⟩
        have q0 := b6.cell 0 (.bool b3) rfl
        have q1 := b6.cell 1 (.slice A3 rs.length c3) rfl
        have z0 := bz1.cell 0 (.bool false) rfl
        have z1 := bz1.cell 1 (.slice none 0 0) rfl
        have f0 := bz1.frozen 0
        have f1 := bz1.frozen 1
        go_wp2_with fail
        obtain ⟨r1, r2, r3, r4⟩ := fin_pair (b := b3) (n := rs.length) (c := c3) (extW.trans EY) (by omega) bz1 hr3
        exact bodyPost_ret (v := .agg #[.bool b3, .slice A3 rs.length c3]) (by simp [results, Tryz.results141, go_sem, r3, r4]) rfl ⟨b3, A3, c3, rs, rfl, r1, hc3, hm3, hi4, by have := HQ3.out Ho.out; have := Hn.out; omega, r2⟩
      · have t1 : (((k : Int) % 2) == 1) = false := by rw [beq_eq_false_iff_ne]; omega
        have hi3 := pow_half (z := ival s xs) (show k % 2 = 0 by omega)
        rw [hi3] at hi2
        have Ho := Lib.hid (show 1 ≤ k / 2 by omega)
        clear hi3 hodd
        have z0 := bz1.cell 0 (.bool false) rfl
        have z1 := bz1.cell 1 (.slice none 0 0) rfl
        have f0 := bz1.frozen 0
        have f1 := bz1.frozen 1
        go_wp2_with fail
        obtain ⟨r1, r2, r3, r4⟩ := fin_pair (b := b2) (n := qs.length) (c := c2) (extW.trans EU) (by omega) bz1 hr2
        exact bodyPost_ret (v := .agg #[.bool b2, .slice A2 qs.length c2]) (by simp [results, Tryz.results141, go_sem, r3, r4]) rfl ⟨b2, A2, c2, qs, rfl, r1, hc2, hm2, hi2, by have := H7.out; omega, r2⟩
set_option maxHeartbeats 1000000 in
theorem ref_Pow {A : Option Addr} {c k : Nat} {w : World} (hn : xs.length = n) (hx : Rd w A xs) (hc : n ≤ c) (hcm : c ≤ maxLen) (hk : k ≤ 4096) (hn20 : n ≤ 20) :
    Calls Tryz.prog 112 #[.agg #[.bool s, .slice A n c], .int .i64 (k : Int)] w (RetIE ((ival s xs) ^ k) (max 2 ((n + 4) * k)) 0 w) := by
  have HP := Lib.hid (fun (A : Option Addr) (c : Nat) (w : World) => ref_power (s := s) hn hn20 k hk A c w)
  clear hn
  have t0 : decide ((4096 : Int) < (k : Int)) = false := decide_eq_false (by omega)
  go_enter Tryz.func112, Tryz.ntmps112
  go_upto_region 1 with (fail)
  obtain ⟨W, hW, extW, bx, bz, hz⟩ := box2 w 24 24 #[.bool s, .slice A n c] #[.bool false, .slice none 0 0]
  rw [← hW]
  clear hW
  have x0 := bx.cell 0 (.bool s) rfl
  have x1 := bx.cell 1 (.slice A n c) rfl
  go_wp2_with fail
  refine (HP.out A c _ (hx.ext extW) hc hcm).mono ?_
  rintro e w3 ⟨b3, A3, c3, rs, rfl, hr3, hc3, hm3, hi3, hl3, ext3⟩
  have bz3 := bz.ext ext3
  have z0 := bz3.cell 0 (.bool false) rfl
  have z1 := bz3.cell 1 (.slice none 0 0) rfl
  have f0 := bz3.frozen 0
  have f1 := bz3.frozen 1
  go_wp2_with fail
  obtain ⟨r1, r2, r3, r4⟩ := fin_pair (b := b3) (n := rs.length) (c := c3) (extW.trans ext3) (by omega) bz3 hr3
  exact bodyPost_ret (v := .tuple #[.agg #[.bool b3, .slice A3 rs.length c3], .int .i64 0]) (by simp [results, Tryz.results112, go_sem, r3, r4]) rfl ⟨b3, A3, c3, rs, rfl, r1, hc3, hm3, hi3, hl3, r2⟩
end
end Go.Proofs.YtoabhnofppledaaGreatDoor
namespace Go.Proofs.YtoabhnofppledaaGreatDoor
open Go.RowKit
attribute [local go_sem ↓] Go.wp_at_zero Go.wp_at_succ
theorem mkQ_one (z : Int) : mkQ z 1 = (z : Rat) := by
  unfold mkQ
  rw [if_neg (by omega)]
  exact Rat.mkRat_one z
theorem mkQ_neg {z u : Int} (hu : 0 < u) : -(mkQ z u) = mkQ (-z) u := by
  unfold mkQ
  rw [if_neg (by omega), if_neg (by omega), Rat.neg_mkRat]
theorem NR.of_int {w : World} {z : Int} {L : Nat} {s : Bool} {A : Option Addr} {n c : Nat} {t : Bool} {B : Option Addr} {m d : Nat} (h : NR w (z : Rat) L s A n c t B m d) : NI w z L s A n c := by
  have := h.num
  rwa [Rat.num_intCast] at this
section
variable {w w' : World} {q p lo hi lo' hi' x : Rat} {L M : Nat} {s t s' t' sx tx u v u' v' : Bool} {A B A' B' Ax Bx C D C' D' : Option Addr} {n c m d n' c' m' d' nx cx mx dx i j k l i' j' k' l' : Nat} {qs : List Rat} {z y : Int}
set_option maxHeartbeats 2000000 in
theorem q_unit {w : World} {k : Nat} (hk : k ≤ 200) : Calls Tryz.prog 73 #[.int .i64 (k : Int)] w (RetNR ((2 ^ k : Int) : Rat) 13 w) := by
  have HS := Lib.hid (pow_small (b := 2) (.inl rfl) hk)
  go_enter Tryz.func73, Tryz.ntmps73
  go_upto_region 1 with (fail)
  obtain ⟨W, hW, extW, bz, hz⟩ := box1 w 26 #[Value.bool false, Value.slice none 0 0, Value.bool false, Value.slice none 0 0]
  rw [← hW]
  clear hW
  go_wp2_with fail
  refine (q_FromInt 2 (by omega) (by omega)).mono ?_
  rintro e wa ⟨s1, A1, n1, c1, rfl, h1, hx1⟩
  replace h1 := h1.tight' (M := 1) (by omega)
  go_wp2_with fail
  obtain ⟨xs, hn, hx, hc, hcm, hi, hl⟩ := h1.out
  refine (ref_Pow hn hx hc hcm (show k ≤ 4096 by omega) (by omega)).mono ?_
  rintro e wb ⟨s2, A2, c2, ys, rfl, g1, g2, g3, g4, g5, hx2⟩
  rw [hi.eq] at g4
  obtain ⟨n2, hn2⟩ : ∃ n, ys.length = n := ⟨_, rfl⟩
  have h2 : NI wb (2 ^ k) 13 s2 A2 n2 c2 := (NI.mk (L := max 2 ((n1 + 4) * k)) ⟨ys, hn2, g1, by omega, g3, g4, by omega⟩).tight' HS.out
  rw [hn2]
  have hx3 := hx1.trans hx2
  clear hn hx hc hcm hi hl g1 g2 g3 g4 g5 hn2 h1 hx1 hx2
  go_upto_region 2 with (fail)
  refine at_world (fun V => Ext W V ∧ Box V wb.heap.size 24 #[.bool s2, .slice A2 n2 c2] ∧ NI V (2 ^ k) 13 s2 A2 n2 c2) ⟨hx3.alloc _, Box.new wb _ _, h2.ext ((Ext.refl wb).alloc _)⟩ ?_
  generalize wb.heap.size = g8
  clear hx3 h2
  rintro V ⟨EV, b8, h2⟩
  replace bz := bz.ext EV
  replace extW := extW.trans EV
  clear EV
  refine wpL.start 3 (by kernel_rfl) (fun _ _ _ _ _ => ⟨fun h => h, fun h => h⟩) (fun hQ ES => ?_)
  refine wpL.take (i := 0) (d := some 11) (v := ?v0_106) rfl rfl (by kernel_rfl) (by kernel_rfl) (by kernel_rfl) (by kernel_rfl) hQ (Or.inl ⟨by rfl, ?y0_106⟩) ES ?r0_106
  case y0_106 =>
    intro w' hSw
    have k00 := (b8.ext hSw).c2
    go_simp
    try with_reducible rfl
  try simp only [Act.put]
  try simp only [List.setIfInBounds_toArray]
  try simp only [List.set_cons_succ]
  try simp only [List.set_cons_zero]
  refine wpL.call (i := 1) rfl (by kernel_rfl) (fun K hK => ?_)
  go_simp
  (go_at_call 78; refine (q_FromInt 1 (by omega) (by omega)).mono ?_; rintro e wa2 ⟨s3, A3, n3, c3, rfl, h3, hx0⟩; have E0_2 := Ext.trans ES hx0)
  refine hK.out _ _ E0_2 ?_
  clear hK K
  try simp only [Act.put]
  try simp only [List.setIfInBounds_toArray]
  try simp only [List.set_cons_succ]
  try simp only [List.set_cons_zero]
  refine wpL.call (i := 2) rfl (by kernel_rfl) (fun K hK => ?_)
  go_simp
  (go_at_call 76; refine (q_Make_nz (h2.ext E0_2) h3 (by omega) (by omega) (by omega)).mono ?_; rintro e wb2 ⟨s1, A1, n1, c1, t1, B1, m1, d1, rfl, g1, hx1⟩; have E1_2 := Ext.trans E0_2 hx1)
  refine hK.out _ _ E1_2 ?_
  clear hK K
  try simp only [Act.put]
  try simp only [List.setIfInBounds_toArray]
  try simp only [List.set_cons_succ]
  try simp only [List.set_cons_zero]
  have z0 := (bz.ext E1_2).cell 0 _ rfl
  have z1 := (bz.ext E1_2).cell 1 _ rfl
  have z2 := (bz.ext E1_2).cell 2 _ rfl
  have z3 := (bz.ext E1_2).cell 3 _ rfl
  have f0 := (bz.ext E1_2).frozen 0
  have f1 := (bz.ext E1_2).frozen 1
  have f2 := (bz.ext E1_2).frozen 2
  have f3 := (bz.ext E1_2).frozen 3
  refine wpL.tail (i := 3) rfl (by kernel_rfl) (by kernel_rfl) (fun K hK => ?_)
  go_simp
  refine hK.out _ _ ?_
  clear hK K
  try simp only [Act.put]
  try simp only [List.setIfInBounds_toArray]
  try simp only [List.set_cons_succ]
  try simp only [List.set_cons_zero]
  refine wpL.done (by kernel_rfl) ?_ _
  clear hQ
  go_wp2_with fail
  rw [mkQ_one] at g1
  obtain ⟨b1, b2, b3, b4⟩ := fin_quad (s := s1) (A := A1) (n := n1) (c := c1) (t := t1) (B := B1) (m := m1) (d := d1) (bz.ext E1_2)
  have r0 := b1.cell 0 (.bool s1) rfl
  have r1 := b1.cell 1 (.slice A1 n1 c1) rfl
  have r2 := b1.cell 2 (.bool t1) rfl
  have r3 := b1.cell 3 (.slice B1 m1 d1) rfl
  unfold set4 at r0 r1 r2 r3
  refine bodyPost_ret (v := .agg #[.bool s1, .slice A1 n1 c1, .bool t1, .slice B1 m1 d1]) (by simp [results, Tryz.results73, go_sem, r0, r1, r2, r3]) rfl ⟨s1, A1, n1, c1, t1, B1, m1, d1, rfl, ⟨?_, ?_⟩, b3 _ (extW.trans E1_2) (by omega)⟩
  · exact (b2 _ _ _ _ _ _ g1.num).le (by omega)
  · exact (b2 _ _ _ _ _ _ g1.den).le (by omega)
set_option maxHeartbeats 4000000 in
theorem q_down {k : Nat} (h : NR w q L sx Ax nx cx tx Bx mx dx) (hL : L ≤ 60) (hk : k ≤ 200) : Calls Tryz.prog 80 #[.agg #[.bool sx, .slice Ax nx cx, .bool tx, .slice Bx mx dx], .int .i64 (k : Int)] w fun e w' => ∃ z, IsFl q (2 ^ k) z ∧ RetNR (mkQ z (2 ^ k)) (L + 13) w e w' := by
  have HU := Lib.hid (show (2 : Int) ^ k ≠ 0 from Int.ne_of_gt (pow_pos2 k))
  go_enter Tryz.func80, Tryz.ntmps80
  go_upto_region 1 with (fail)
  obtain ⟨W, hW, ext, bx, bz, hz⟩ := box2 w 26 26 #[.bool sx, .slice Ax nx cx, .bool tx, .slice Bx mx dx] #[Value.bool false, Value.slice none 0 0, Value.bool false, Value.slice none 0 0]
  rw [← hW]
  clear hW hz
  go_wp2_with fail
  refine (q_unit hk).mono ?_
  rintro e wa ⟨u, C, i, j, v, D, kU, l, rfl, hu, hxa⟩
  go_upto_region 2 with (fail)
  refine at_world (fun V => Ext W V ∧ Box V wa.heap.size 26 #[.bool u, .slice C i j, .bool v, .slice D kU l] ∧ NR V ((2 ^ k : Int) : Rat) 13 u C i j v D kU l) ⟨hxa.alloc _, Box.new wa _ _, hu.ext ((Ext.refl wa).alloc _)⟩ ?_
  generalize wa.heap.size = g5
  clear hxa hu
  rintro V ⟨EV, b5, hu⟩
  replace bx := bx.ext EV
  replace bz := bz.ext EV
  replace ext := ext.trans EV
  clear EV
  refine wpL.start 7 (by kernel_rfl) (fun _ _ _ _ _ => ⟨fun h => h, fun h => h⟩) (fun hQ ES => ?_)
  refine wpL.take (i := 0) (d := some 8) (v := ?v0_107) rfl rfl (by kernel_rfl) (by kernel_rfl) (by kernel_rfl) (by kernel_rfl) hQ (Or.inl ⟨by rfl, ?y0_107⟩) ES ?r0_107
  case y0_107 =>
    intro w' hSw
    have k00 := (bx.ext hSw).c4
    have k10 := (b5.ext hSw).c4
    go_simp
    try with_reducible rfl
  try simp only [Act.put]
  try simp only [List.setIfInBounds_toArray]
  try simp only [List.set_cons_succ]
  try simp only [List.set_cons_zero]
  refine wpL.take (i := 1) (d := some 9) (v := ?v1_108) rfl rfl (by kernel_rfl) (by kernel_rfl) (by kernel_rfl) (by kernel_rfl) hQ (Or.inl ⟨by rfl, ?y1_108⟩) ES ?r1_108
  case y1_108 =>
    intro w' hSw
    have k00 := (bx.ext hSw).c4
    have k10 := (b5.ext hSw).c4
    go_simp
    try with_reducible rfl
  try simp only [Act.put]
  try simp only [List.setIfInBounds_toArray]
  try simp only [List.set_cons_succ]
  try simp only [List.set_cons_zero]
  refine wpL.take (i := 4) (d := some 12) (v := ?v4_109) rfl rfl (by kernel_rfl) (by kernel_rfl) (by kernel_rfl) (by kernel_rfl) hQ (Or.inl ⟨by rfl, ?y4_109⟩) ES ?r4_109
  case y4_109 =>
    intro w' hSw
    have k00 := (bx.ext hSw).c4
    have k10 := (b5.ext hSw).c4
    go_simp
    try with_reducible rfl
  try simp only [Act.put]
  try simp only [List.setIfInBounds_toArray]
  try simp only [List.set_cons_succ]
  try simp only [List.set_cons_zero]
  refine wpL.take (i := 5) (d := some 13) (v := ?v5_110) rfl rfl (by kernel_rfl) (by kernel_rfl) (by kernel_rfl) (by kernel_rfl) hQ (Or.inl ⟨by rfl, ?y5_110⟩) ES ?r5_110
  case y5_110 =>
    intro w' hSw
    have k00 := (bx.ext hSw).c4
    have k10 := (b5.ext hSw).c4
    go_simp
    try with_reducible rfl
  try simp only [Act.put]
  try simp only [List.setIfInBounds_toArray]
  try simp only [List.set_cons_succ]
  try simp only [List.set_cons_zero]
  refine wpL.call (i := 2) rfl (by kernel_rfl) (fun K hK => ?_)
  go_simp
  (go_at_call 44; refine (q_MulR (h.ext (ext.trans ES)) (hu.ext ES) (by omega) (by omega)).mono ?_; rintro e wa2 ⟨s1, A1, n1, c1, t1, B1, m1, d1, rfl, g1, hx0⟩; have E0_2 := Ext.trans ES hx0)
  refine hK.out _ _ E0_2 ?_
  clear hK K
  try simp only [Act.put]
  try simp only [List.setIfInBounds_toArray]
  try simp only [List.set_cons_succ]
  try simp only [List.set_cons_zero]
  refine wpL.call (i := 3) rfl (by kernel_rfl) (fun K hK => ?_)
  go_simp
  (go_at_call 75; refine (q_Floor g1 (by omega)).mono ?_; rintro e wb2 ⟨z, r, hdm, s3, A3, n3, c3, rfl, g2, hx1⟩; have HF := Lib.hid (IsFl.of_mul rfl hdm); replace g2 := g2.tight g1.num (dm_natAbs (denI _) hdm); clear hdm g1; have E1_2 := Ext.trans E0_2 hx1)
  refine hK.out _ _ E1_2 ?_
  clear hK K
  try simp only [Act.put]
  try simp only [List.setIfInBounds_toArray]
  try simp only [List.set_cons_succ]
  try simp only [List.set_cons_zero]
  refine wpL.call (i := 6) rfl (by kernel_rfl) (fun K hK => ?_)
  go_simp
  (go_at_call 76; refine (q_Make_nz g2 (hu.ext E1_2).of_int (by omega) (by omega) HU.out).mono ?_; rintro e wc2 ⟨s2, A2, n2, c2, t2, B2, m2, d2, rfl, g3, hx2⟩; have E2_2 := Ext.trans E1_2 hx2)
  refine hK.out _ _ E2_2 ?_
  clear hK K
  try simp only [Act.put]
  try simp only [List.setIfInBounds_toArray]
  try simp only [List.set_cons_succ]
  try simp only [List.set_cons_zero]
  have z0 := (bz.ext E2_2).cell 0 _ rfl
  have z1 := (bz.ext E2_2).cell 1 _ rfl
  have z2 := (bz.ext E2_2).cell 2 _ rfl
  have z3 := (bz.ext E2_2).cell 3 _ rfl
  have f0 := (bz.ext E2_2).frozen 0
  have f1 := (bz.ext E2_2).frozen 1
  have f2 := (bz.ext E2_2).frozen 2
  have f3 := (bz.ext E2_2).frozen 3
  refine wpL.tail (i := 7) rfl (by kernel_rfl) (by kernel_rfl) (fun K hK => ?_)
  go_simp
  refine hK.out _ _ ?_
  clear hK K
  try simp only [Act.put]
  try simp only [List.setIfInBounds_toArray]
  try simp only [List.set_cons_succ]
  try simp only [List.set_cons_zero]
  refine wpL.done (by kernel_rfl) ?_ _
  clear hQ
  go_wp2_with fail
  obtain ⟨b1, b2, b3, b4⟩ := fin_quad (s := s2) (A := A2) (n := n2) (c := c2) (t := t2) (B := B2) (m := m2) (d := d2) (bz.ext E2_2)
  have r0 := b1.cell 0 (.bool s2) rfl
  have r1 := b1.cell 1 (.slice A2 n2 c2) rfl
  have r2 := b1.cell 2 (.bool t2) rfl
  have r3 := b1.cell 3 (.slice B2 m2 d2) rfl
  unfold set4 at r0 r1 r2 r3
  refine bodyPost_ret (v := .agg #[.bool s2, .slice A2 n2 c2, .bool t2, .slice B2 m2 d2]) (by simp [results, Tryz.results80, go_sem, r0, r1, r2, r3]) rfl ⟨z, HF.out, s2, A2, n2, c2, t2, B2, m2, d2, rfl, ⟨?_, ?_⟩, b3 _ (ext.trans E2_2) (by omega)⟩
  · exact (b2 _ _ _ _ _ _ g3.num).le (by omega)
  · exact (b2 _ _ _ _ _ _ g3.den).le (by omega)
set_option maxHeartbeats 4000000 in
theorem q_up {k : Nat} (h : NR w q L sx Ax nx cx tx Bx mx dx) (hL : L ≤ 60) (hk : k ≤ 200) : Calls Tryz.prog 81 #[.agg #[.bool sx, .slice Ax nx cx, .bool tx, .slice Bx mx dx], .int .i64 (k : Int)] w fun e w' => ∃ z, IsCl q (2 ^ k) z ∧ RetNR (mkQ z (2 ^ k)) (L + 13) w e w' := by
  go_enter Tryz.func81, Tryz.ntmps81
  go_upto_region 1 with (fail)
  obtain ⟨W, hW, ext, bx, bz, hz⟩ := box2 w 26 26 #[.bool sx, .slice Ax nx cx, .bool tx, .slice Bx mx dx] #[Value.bool false, Value.slice none 0 0, Value.bool false, Value.slice none 0 0]
  rw [← hW]
  clear hW hz
  have hx := h.ext ext
  have x0 := bx.cell 0 (.bool sx) rfl
  have x1 := bx.cell 1 (.slice Ax nx cx) rfl
  have x2 := bx.cell 2 (.bool tx) rfl
  have x3 := bx.cell 3 (.slice Bx mx dx) rfl
  go_wp2_with fail
  refine (q_NegR hx (by omega)).mono ?_
  rintro e wa ⟨u, C, i, j, v, D, kU, l, rfl, hu, hxa⟩
  clear x0 x1 x2 x3
  go_wp2_with fail
  refine (q_down hu hL hk).mono ?_
  rintro e wb ⟨z, hf, s1, A1, n1, c1, t1, B1, m1, d1, rfl, g1, hxb⟩
  have HF := Lib.hid (IsCl.of_neg hf)
  clear hf
  go_wp2_with fail
  refine (q_NegR g1 (by omega)).mono ?_
  rintro e wc ⟨s2, A2, n2, c2, t2, B2, m2, d2, rfl, g2, hxc⟩
  have hE := hxa.trans (hxb.trans hxc)
  have z0 := (bz.ext hE).cell 0 _ rfl
  have z1 := (bz.ext hE).cell 1 _ rfl
  have z2 := (bz.ext hE).cell 2 _ rfl
  have z3 := (bz.ext hE).cell 3 _ rfl
  have f0 := (bz.ext hE).frozen 0
  have f1 := (bz.ext hE).frozen 1
  have f2 := (bz.ext hE).frozen 2
  have f3 := (bz.ext hE).frozen 3
  go_wp2_with fail
  rw [mkQ_neg (pow_pos2 k)] at g2
  obtain ⟨b1, b2, b3, b4⟩ := fin_quad (s := s2) (A := A2) (n := n2) (c := c2) (t := t2) (B := B2) (m := m2) (d := d2) (bz.ext hE)
  have r0 := b1.cell 0 (.bool s2) rfl
  have r1 := b1.cell 1 (.slice A2 n2 c2) rfl
  have r2 := b1.cell 2 (.bool t2) rfl
  have r3 := b1.cell 3 (.slice B2 m2 d2) rfl
  unfold set4 at r0 r1 r2 r3
  refine bodyPost_ret (v := .agg #[.bool s2, .slice A2 n2 c2, .bool t2, .slice B2 m2 d2]) (by simp [results, Tryz.results81, go_sem, r0, r1, r2, r3]) rfl ⟨-z, HF.out, s2, A2, n2, c2, t2, B2, m2, d2, rfl, ⟨?_, ?_⟩, b3 _ (ext.trans hE) (by omega)⟩
  · exact b2 _ _ _ _ _ _ g2.num
  · exact b2 _ _ _ _ _ _ g2.den
set_option maxHeartbeats 8000000 in
set_option maxRecDepth 100000 in
theorem q_RoundV {k : Nat} (h : IV w lo hi L s A n c t B m d s' A' n' c' t' B' m' d') (hL : L ≤ 20) (hk : k ≤ 200) : Calls Tryz.prog 32 #[.agg #[.bool s, .slice A n c, .bool t, .slice B m d, .bool s', .slice A' n' c', .bool t', .slice B' m' d'], .int .i64 (k : Int)] w (RetRnd lo hi k (L + 13) w) := by
  have Hk := Lib.hid hk
  have d0 : decide ((k : Int) < 0) = false := decide_eq_false (by omega)
  have d1 : decide ((4096 : Int) < (k : Int)) = false := decide_eq_false (by omega)
  go_enter Tryz.func32, Tryz.ntmps32
  go_upto_region 1 with (fail)
  obtain ⟨W, hW, ext, bx, bz, hz⟩ := box2 w 28 28 #[.bool s, .slice A n c, .bool t, .slice B m d, .bool s', .slice A' n' c', .bool t', .slice B' m' d'] #[Value.bool false, Value.slice none 0 0, Value.bool false, Value.slice none 0 0, Value.bool false, Value.slice none 0 0, Value.bool false, Value.slice none 0 0]
  rw [← hW]
  clear hW hz
  go_upto_region 3 with (fail)
  clear d0 d1
  refine wpL.start 9 (by kernel_rfl) (fun _ _ _ _ _ => ⟨fun h => h, fun h => h⟩) (fun hQ ES => ?_)
  refine wpL.take (i := 0) (d := some 12) (v := ?v0_111) rfl rfl (by kernel_rfl) (by kernel_rfl) (by kernel_rfl) (by kernel_rfl) hQ (Or.inl ⟨by rfl, ?y0_111⟩) ES ?r0_111
  case y0_111 =>
    intro w' hSw
    have k00 := (bx.ext hSw).c8
    go_simp
    try with_reducible rfl
  try simp only [Act.put]
  try simp only [List.setIfInBounds_toArray]
  try simp only [List.set_cons_succ]
  try simp only [List.set_cons_zero]
  refine wpL.take (i := 2) (d := some 14) (v := ?v2_112) rfl rfl (by kernel_rfl) (by kernel_rfl) (by kernel_rfl) (by kernel_rfl) hQ (Or.inl ⟨by rfl, ?y2_112⟩) ES ?r2_112
  case y2_112 =>
    intro w' hSw
    have k00 := (bx.ext hSw).c8
    go_simp
    try with_reducible rfl
  try simp only [Act.put]
  try simp only [List.setIfInBounds_toArray]
  try simp only [List.set_cons_succ]
  try simp only [List.set_cons_zero]
  refine wpL.take (i := 4) (d := some 16) (v := ?v4_113) rfl rfl (by kernel_rfl) (by kernel_rfl) (by kernel_rfl) (by kernel_rfl) hQ (Or.inl ⟨by rfl, ?y4_113⟩) ES ?r4_113
  case y4_113 =>
    intro w' hSw
    have k00 := (bx.ext hSw).c8
    go_simp
    try with_reducible rfl
  try simp only [Act.put]
  try simp only [List.setIfInBounds_toArray]
  try simp only [List.set_cons_succ]
  try simp only [List.set_cons_zero]
  refine wpL.take (i := 6) (d := some 18) (v := ?v6_114) rfl rfl (by kernel_rfl) (by kernel_rfl) (by kernel_rfl) (by kernel_rfl) hQ (Or.inl ⟨by rfl, ?y6_114⟩) ES ?r6_114
  case y6_114 =>
    intro w' hSw
    have k00 := (bx.ext hSw).c8
    go_simp
    try with_reducible rfl
  try simp only [Act.put]
  try simp only [List.setIfInBounds_toArray]
  try simp only [List.set_cons_succ]
  try simp only [List.set_cons_zero]
  refine wpL.take (i := 1) (d := some 13) (v := ?v1_115) rfl rfl (by kernel_rfl) (by kernel_rfl) (by kernel_rfl) (by kernel_rfl) hQ (Or.inl ⟨by rfl, ?y1_115⟩) ES ?r1_115
  case y1_115 =>
    intro w' hSw
    have k00 := (bx.ext hSw).c8
    go_simp
    try with_reducible rfl
  try simp only [Act.put]
  try simp only [List.setIfInBounds_toArray]
  try simp only [List.set_cons_succ]
  try simp only [List.set_cons_zero]
  refine wpL.take (i := 5) (d := some 17) (v := ?v5_116) rfl rfl (by kernel_rfl) (by kernel_rfl) (by kernel_rfl) (by kernel_rfl) hQ (Or.inl ⟨by rfl, ?y5_116⟩) ES ?r5_116
  case y5_116 =>
    intro w' hSw
    have k00 := (bx.ext hSw).c8
    go_simp
    try with_reducible rfl
  try simp only [Act.put]
  try simp only [List.setIfInBounds_toArray]
  try simp only [List.set_cons_succ]
  try simp only [List.set_cons_zero]
  refine wpL.call (i := 3) rfl (by kernel_rfl) (fun K hK => ?_)
  go_simp
  (go_at_call 80; refine (q_down (h.low.ext (ext.trans ES)) (by omega) Hk.out).mono ?_; rintro e wc ⟨zA, hf1, s1, A1, n1, c1, t1, B1, m1, d1, rfl, g1, hx0⟩; have HF1 := Lib.hid hf1; clear hf1; have E0_3 := Ext.trans ES hx0)
  refine hK.out _ _ E0_3 ?_
  clear hK K
  try simp only [Act.put]
  try simp only [List.setIfInBounds_toArray]
  try simp only [List.set_cons_succ]
  try simp only [List.set_cons_zero]
  refine wpL.call (i := 7) rfl (by kernel_rfl) (fun K hK => ?_)
  go_simp
  (go_at_call 81; refine (q_up (h.high.ext (ext.trans E0_3)) (by omega) Hk.out).mono ?_; rintro e we ⟨zB, hf2, s2, A2, n2, c2, t2, B2, m2, d2, rfl, g2, hx1⟩; have HF2 := Lib.hid hf2; clear hf2; replace g1 := g1.ext hx1; have E1_3 := Ext.trans E0_3 hx1)
  refine hK.out _ _ E1_3 ?_
  clear hK K
  try simp only [Act.put]
  try simp only [List.setIfInBounds_toArray]
  try simp only [List.set_cons_succ]
  try simp only [List.set_cons_zero]
  refine wpL.take (i := 8) (d := some 20) (v := ?v8_117) rfl rfl (by kernel_rfl) (by kernel_rfl) (by kernel_rfl) (by kernel_rfl) hQ (Or.inl ⟨by rfl, ?y8_117⟩) E1_3 ?r8_117
  case y8_117 =>
    intro w' hSw
    have k00 := (bx.ext hSw).c8
    go_simp
    try with_reducible rfl
  try simp only [Act.put]
  try simp only [List.setIfInBounds_toArray]
  try simp only [List.set_cons_succ]
  try simp only [List.set_cons_zero]
  have z0 := (bz.ext E1_3).cell 0 _ rfl
  have f0 := (bz.ext E1_3).frozen 0
  have z1 := (bz.ext E1_3).cell 1 _ rfl
  have f1 := (bz.ext E1_3).frozen 1
  have z2 := (bz.ext E1_3).cell 2 _ rfl
  have f2 := (bz.ext E1_3).frozen 2
  have z3 := (bz.ext E1_3).cell 3 _ rfl
  have f3 := (bz.ext E1_3).frozen 3
  have z4 := (bz.ext E1_3).cell 4 _ rfl
  have f4 := (bz.ext E1_3).frozen 4
  have z5 := (bz.ext E1_3).cell 5 _ rfl
  have f5 := (bz.ext E1_3).frozen 5
  have z6 := (bz.ext E1_3).cell 6 _ rfl
  have f6 := (bz.ext E1_3).frozen 6
  have z7 := (bz.ext E1_3).cell 7 _ rfl
  have f7 := (bz.ext E1_3).frozen 7
  refine wpL.tail (i := 9) rfl (by kernel_rfl) (by kernel_rfl) (fun K hK => ?_)
  go_simp
  refine hK.out _ _ ?_
  clear hK K
  try simp only [Act.put]
  try simp only [List.setIfInBounds_toArray]
  try simp only [List.set_cons_succ]
  try simp only [List.set_cons_zero]
  refine wpL.done (by kernel_rfl) ?_ _
  clear hQ
  go_wp2_with fail
  obtain ⟨b1, b2, b3, b4⟩ := fin_oct (v0 := (.bool s1)) (v1 := (.slice A1 n1 c1)) (v2 := (.bool t1)) (v3 := (.slice B1 m1 d1)) (v4 := (.bool s2)) (v5 := (.slice A2 n2 c2)) (v6 := (.bool t2)) (v7 := (.slice B2 m2 d2)) (bz.ext E1_3)
  have r0 := b1.cell 0 (.bool s1) rfl
  have r1 := b1.cell 1 (.slice A1 n1 c1) rfl
  have r2 := b1.cell 2 (.bool t1) rfl
  have r3 := b1.cell 3 (.slice B1 m1 d1) rfl
  have r4 := b1.cell 4 (.bool s2) rfl
  have r5 := b1.cell 5 (.slice A2 n2 c2) rfl
  have r6 := b1.cell 6 (.bool t2) rfl
  have r7 := b1.cell 7 (.slice B2 m2 d2) rfl
  unfold set8 at r0 r1 r2 r3 r4 r5 r6 r7
  refine bodyPost_ret (v := .agg #[.bool s1, .slice A1 n1 c1, .bool t1, .slice B1 m1 d1, .bool s2, .slice A2 n2 c2, .bool t2, .slice B2 m2 d2]) (by simp [results, Tryz.results32, go_sem, r0, r1, r2, r3, r4, r5, r6, r7]) rfl ⟨zA, zB, HF1.out, HF2.out, s1, A1, n1, c1, t1, B1, m1, d1, s2, A2, n2, c2, t2, B2, m2, d2, rfl, ⟨⟨?_, ?_⟩, ⟨?_, ?_⟩⟩, b3 _ (ext.trans E1_3) (by omega)⟩
  · exact b2 _ _ _ _ _ _ g1.num
  · exact b2 _ _ _ _ _ _ g1.den
  · exact b2 _ _ _ _ _ _ g2.num
  · exact b2 _ _ _ _ _ _ g2.den
end
end Go.Proofs.YtoabhnofppledaaGreatDoor
namespace Go.Proofs.YtoabhnofppledaaGreatDoor
open Go.RowKit
attribute [local go_sem ↓] Go.wp_at_zero Go.wp_at_succ
set_option maxHeartbeats 4000000 in
theorem round3_no0 {w : World} {sa1 ta1 sa2 ta2 : Bool} {Aa1 Ba1 Aa2 Ba2 : Option Addr} {na1 ca1 ma1 da1 na2 ca2 ma2 da2 : Nat} {xa1 ya1 xa2 ya2 : List Nat} {k : Int} (hA : Awake3) (hT : Tab w) (hr0 : RawV w Aa1 na1 ca1 xa1 Ba1 ma1 da1 ya1 Aa2 na2 ca2 xa2 Ba2 ma2 da2 ya2) (_ha : -9223372036854775808 ≤ k) (_hb : k < 9223372036854775808) (hf0 : (fewV na1 ma1 na2 ma2 sa1 xa1 ta1 ya1 sa2 xa2 ta2 ya2) = false) :
    Calls Tryz.prog 7 #[.agg #[.bool sa1, .slice Aa1 na1 ca1, .bool ta1, .slice Ba1 ma1 da1, .bool sa2, .slice Aa2 na2 ca2, .bool ta2, .slice Ba2 ma2 da2], .int .i64 k] w fun e w' => e = .returned (.bool true) ∧ Ext w w' := by
  have HF0 := Lib.hid hf0
  clear hf0
  have HA := Lib.hid hA
  clear hA
  go_enter Tryz.func7, Tryz.ntmps7
  go_upto_region 1 with (fail)
  obtain ⟨W0, hW, extW, bx, hzz⟩ := box1 w 28 #[.bool sa1, .slice Aa1 na1 ca1, .bool ta1, .slice Ba1 ma1 da1, .bool sa2, .slice Aa2 na2 ca2, .bool ta2, .slice Ba2 ma2 da2]
  rw [← hW]
  clear hW hzz
  go_wp2_with fail
  refine (HA.out _ (hT.ext extW)).mono ?_
  rintro e W ⟨rfl, hxt⟩
  replace bx := bx.ext hxt
  replace extW := extW.trans hxt
  clear hxt
  have k0 := bx.cell 0 (.bool sa1) rfl
  have k1 := bx.cell 1 (.slice Aa1 na1 ca1) rfl
  have k2 := bx.cell 2 (.bool ta1) rfl
  have k3 := bx.cell 3 (.slice Ba1 ma1 da1) rfl
  have k4 := bx.cell 4 (.bool sa2) rfl
  have k5 := bx.cell 5 (.slice Aa2 na2 ca2) rfl
  have k6 := bx.cell 6 (.bool ta2) rfl
  have k7 := bx.cell 7 (.slice Ba2 ma2 da2) rfl
  have hnb := Box.new W 28 #[.bool sa1, .slice Aa1 na1 ca1, .bool ta1, .slice Ba1 ma1 da1, .bool sa2, .slice Aa2 na2 ca2, .bool ta2, .slice Ba2 ma2 da2]
  have e1 := (Ext.refl W).alloc (.cells #[.bool sa1, .slice Aa1 na1 ca1, .bool ta1, .slice Ba1 ma1 da1, .bool sa2, .slice Aa2 na2 ca2, .bool ta2, .slice Ba2 ma2 da2] 28)
  go_wp2_with fail
  refine (fewI1 hnb (hr0.ext (extW.trans e1))).mono ?_
  rintro e W1 ⟨rfl, hxt⟩
  rw [HF0.out]
  have ES := e1.trans hxt
  clear hnb e1 hxt
  clear k0 k1 k2 k3 k4 k5 k6 k7
  replace bx := bx.ext ES
  replace extW := extW.trans ES
  clear ES
  go_wp2_with fail
  refine (HA.out _ (hT.ext extW)).mono ?_
  rintro e W9 ⟨rfl, hxt⟩
  go_wp2_with fail
  go_ret
  exact ⟨rfl, extW.trans hxt⟩
set_option maxHeartbeats 8000000 in
set_option maxRecDepth 100000 in
theorem round3_outf {w : World} {sa1 ta1 sa2 ta2 : Bool} {Aa1 Ba1 Aa2 Ba2 : Option Addr} {na1 ca1 ma1 da1 na2 ca2 ma2 da2 : Nat} {xa1 ya1 xa2 ya2 : List Nat} {k : Int} (hA : Awake3) (hT : Tab w) (hr0 : RawV w Aa1 na1 ca1 xa1 Ba1 ma1 da1 ya1 Aa2 na2 ca2 xa2 Ba2 ma2 da2 ya2) (hf0 : (fewV na1 ma1 na2 ma2 sa1 xa1 ta1 ya1 sa2 xa2 ta2 ya2) = true) (hk : k < 0 ∨ 4096 < k) (d1 : decide ((200 : Int) < k) = false) (d3 : decide (k < 0) = true) :
    Calls Tryz.prog 7 #[.agg #[.bool sa1, .slice Aa1 na1 ca1, .bool ta1, .slice Ba1 ma1 da1, .bool sa2, .slice Aa2 na2 ca2, .bool ta2, .slice Ba2 ma2 da2], .int .i64 k] w fun e w' => e = .returned (.bool true) ∧ Ext w w' := by
  have HF0 := Lib.hid hf0
  have HK := Lib.hid hk
  clear hf0 hk
  have HA := Lib.hid hA
  clear hA
  go_enter Tryz.func7, Tryz.ntmps7
  go_upto_region 1 with (fail)
  obtain ⟨W0, hW, extW, bx, hzz⟩ := box1 w 28 #[.bool sa1, .slice Aa1 na1 ca1, .bool ta1, .slice Ba1 ma1 da1, .bool sa2, .slice Aa2 na2 ca2, .bool ta2, .slice Ba2 ma2 da2]
  rw [← hW]
  clear hW hzz
  go_wp2_with fail
  refine (HA.out _ (hT.ext extW)).mono ?_
  rintro e W ⟨rfl, hxt⟩
  replace bx := bx.ext hxt
  replace extW := extW.trans hxt
  clear hxt
  have k0 := bx.cell 0 (.bool sa1) rfl
  have k1 := bx.cell 1 (.slice Aa1 na1 ca1) rfl
  have k2 := bx.cell 2 (.bool ta1) rfl
  have k3 := bx.cell 3 (.slice Ba1 ma1 da1) rfl
  have k4 := bx.cell 4 (.bool sa2) rfl
  have k5 := bx.cell 5 (.slice Aa2 na2 ca2) rfl
  have k6 := bx.cell 6 (.bool ta2) rfl
  have k7 := bx.cell 7 (.slice Ba2 ma2 da2) rfl
  have hnb := Box.new W 28 #[.bool sa1, .slice Aa1 na1 ca1, .bool ta1, .slice Ba1 ma1 da1, .bool sa2, .slice Aa2 na2 ca2, .bool ta2, .slice Ba2 ma2 da2]
  have e1 := (Ext.refl W).alloc (.cells #[.bool sa1, .slice Aa1 na1 ca1, .bool ta1, .slice Ba1 ma1 da1, .bool sa2, .slice Aa2 na2 ca2, .bool ta2, .slice Ba2 ma2 da2] 28)
  go_wp2_with fail
  refine (fewI1 hnb (hr0.ext (extW.trans e1))).mono ?_
  rintro e W1 ⟨rfl, hxt⟩
  rw [HF0.out]
  have ES := e1.trans hxt
  clear hnb e1 hxt
  clear k0 k1 k2 k3 k4 k5 k6 k7
  replace bx := bx.ext ES
  replace extW := extW.trans ES
  clear ES
  have k0 := bx.cell 0 (.bool sa1) rfl
  have k1 := bx.cell 1 (.slice Aa1 na1 ca1) rfl
  have k2 := bx.cell 2 (.bool ta1) rfl
  have k3 := bx.cell 3 (.slice Ba1 ma1 da1) rfl
  have k4 := bx.cell 4 (.bool sa2) rfl
  have k5 := bx.cell 5 (.slice Aa2 na2 ca2) rfl
  have k6 := bx.cell 6 (.bool ta2) rfl
  have k7 := bx.cell 7 (.slice Ba2 ma2 da2) rfl
  go_wp2_with fail
  refine (p_RoundV_no HK.out).mono ?_
  rintro e Wa ⟨rfl, hxt⟩
  clear k0 k1 k2 k3 k4 k5 k6 k7
  replace bx := bx.ext hxt
  replace extW := extW.trans hxt
  clear hxt
  go_upto_region 4 with (fail)
  refine at_world (fun V => Ext Wa V ∧ Box V Wa.heap.size 28 #[.bool false, .slice none 0 0, .bool false, .slice none 0 0, .bool false, .slice none 0 0, .bool false, .slice none 0 0]) ⟨(Ext.refl Wa).alloc _, Box.new Wa _ _⟩ ?_
  generalize Wa.heap.size = g5
  rintro Wav ⟨EV, b5⟩
  replace bx := bx.ext EV
  replace extW := extW.trans EV
  clear EV
  have z0 := b5.cell 0 (.bool false) rfl
  have z1 := b5.cell 1 (.slice none 0 0) rfl
  have z2 := b5.cell 2 (.bool false) rfl
  have z3 := b5.cell 3 (.slice none 0 0) rfl
  have z4 := b5.cell 4 (.bool false) rfl
  have z5 := b5.cell 5 (.slice none 0 0) rfl
  have z6 := b5.cell 6 (.bool false) rfl
  have z7 := b5.cell 7 (.slice none 0 0) rfl
  go_wp2_with fail
  refine (q_ZeroV).mono ?_
  rintro e Wc ⟨rfl, hxt⟩
  go_wp2_with fail
  go_ret
  exact ⟨rfl, extW.trans hxt⟩
set_option maxHeartbeats 8000000 in
set_option maxRecDepth 100000 in
theorem round3_outt {w : World} {sa1 ta1 sa2 ta2 : Bool} {Aa1 Ba1 Aa2 Ba2 : Option Addr} {na1 ca1 ma1 da1 na2 ca2 ma2 da2 : Nat} {xa1 ya1 xa2 ya2 : List Nat} {k : Int} (hA : Awake3) (hT : Tab w) (hr0 : RawV w Aa1 na1 ca1 xa1 Ba1 ma1 da1 ya1 Aa2 na2 ca2 xa2 Ba2 ma2 da2 ya2) (hf0 : (fewV na1 ma1 na2 ma2 sa1 xa1 ta1 ya1 sa2 xa2 ta2 ya2) = true) (hk : k < 0 ∨ 4096 < k) (d1 : decide ((200 : Int) < k) = true) (d2 : decide (k ≤ 4096) = false) (d3 : decide (k < 0) = false) (d4 : decide (4096 < k) = true) :
    Calls Tryz.prog 7 #[.agg #[.bool sa1, .slice Aa1 na1 ca1, .bool ta1, .slice Ba1 ma1 da1, .bool sa2, .slice Aa2 na2 ca2, .bool ta2, .slice Ba2 ma2 da2], .int .i64 k] w fun e w' => e = .returned (.bool true) ∧ Ext w w' := by
  have HF0 := Lib.hid hf0
  have HK := Lib.hid hk
  clear hf0 hk
  have HA := Lib.hid hA
  clear hA
  go_enter Tryz.func7, Tryz.ntmps7
  go_upto_region 1 with (fail)
  obtain ⟨W0, hW, extW, bx, hzz⟩ := box1 w 28 #[.bool sa1, .slice Aa1 na1 ca1, .bool ta1, .slice Ba1 ma1 da1, .bool sa2, .slice Aa2 na2 ca2, .bool ta2, .slice Ba2 ma2 da2]
  rw [← hW]
  clear hW hzz
  go_wp2_with fail
  refine (HA.out _ (hT.ext extW)).mono ?_
  rintro e W ⟨rfl, hxt⟩
  replace bx := bx.ext hxt
  replace extW := extW.trans hxt
  clear hxt
  have k0 := bx.cell 0 (.bool sa1) rfl
  have k1 := bx.cell 1 (.slice Aa1 na1 ca1) rfl
  have k2 := bx.cell 2 (.bool ta1) rfl
  have k3 := bx.cell 3 (.slice Ba1 ma1 da1) rfl
  have k4 := bx.cell 4 (.bool sa2) rfl
  have k5 := bx.cell 5 (.slice Aa2 na2 ca2) rfl
  have k6 := bx.cell 6 (.bool ta2) rfl
  have k7 := bx.cell 7 (.slice Ba2 ma2 da2) rfl
  have hnb := Box.new W 28 #[.bool sa1, .slice Aa1 na1 ca1, .bool ta1, .slice Ba1 ma1 da1, .bool sa2, .slice Aa2 na2 ca2, .bool ta2, .slice Ba2 ma2 da2]
  have e1 := (Ext.refl W).alloc (.cells #[.bool sa1, .slice Aa1 na1 ca1, .bool ta1, .slice Ba1 ma1 da1, .bool sa2, .slice Aa2 na2 ca2, .bool ta2, .slice Ba2 ma2 da2] 28)
  go_wp2_with fail
  refine (fewI1 hnb (hr0.ext (extW.trans e1))).mono ?_
  rintro e W1 ⟨rfl, hxt⟩
  rw [HF0.out]
  have ES := e1.trans hxt
  clear hnb e1 hxt
  clear k0 k1 k2 k3 k4 k5 k6 k7
  replace bx := bx.ext ES
  replace extW := extW.trans ES
  clear ES
  have k0 := bx.cell 0 (.bool sa1) rfl
  have k1 := bx.cell 1 (.slice Aa1 na1 ca1) rfl
  have k2 := bx.cell 2 (.bool ta1) rfl
  have k3 := bx.cell 3 (.slice Ba1 ma1 da1) rfl
  have k4 := bx.cell 4 (.bool sa2) rfl
  have k5 := bx.cell 5 (.slice Aa2 na2 ca2) rfl
  have k6 := bx.cell 6 (.bool ta2) rfl
  have k7 := bx.cell 7 (.slice Ba2 ma2 da2) rfl
  go_wp2_with fail
  refine (p_RoundV_no HK.out).mono ?_
  rintro e Wa ⟨rfl, hxt⟩
  clear k0 k1 k2 k3 k4 k5 k6 k7
  replace bx := bx.ext hxt
  replace extW := extW.trans hxt
  clear hxt
  go_upto_region 4 with (fail)
  refine at_world (fun V => Ext Wa V ∧ Box V Wa.heap.size 28 #[.bool false, .slice none 0 0, .bool false, .slice none 0 0, .bool false, .slice none 0 0, .bool false, .slice none 0 0]) ⟨(Ext.refl Wa).alloc _, Box.new Wa _ _⟩ ?_
  generalize Wa.heap.size = g5
  rintro Wav ⟨EV, b5⟩
  replace bx := bx.ext EV
  replace extW := extW.trans EV
  clear EV
  have z0 := b5.cell 0 (.bool false) rfl
  have z1 := b5.cell 1 (.slice none 0 0) rfl
  have z2 := b5.cell 2 (.bool false) rfl
  have z3 := b5.cell 3 (.slice none 0 0) rfl
  have z4 := b5.cell 4 (.bool false) rfl
  have z5 := b5.cell 5 (.slice none 0 0) rfl
  have z6 := b5.cell 6 (.bool false) rfl
  have z7 := b5.cell 7 (.slice none 0 0) rfl
  go_wp2_with fail
  refine (q_ZeroV).mono ?_
  rintro e Wc ⟨rfl, hxt⟩
  go_wp2_with fail
  go_ret
  exact ⟨rfl, extW.trans hxt⟩
set_option maxHeartbeats 4000000 in
theorem round3_mid {w : World} {sa1 ta1 sa2 ta2 : Bool} {Aa1 Ba1 Aa2 Ba2 : Option Addr} {na1 ca1 ma1 da1 na2 ca2 ma2 da2 : Nat} {xa1 ya1 xa2 ya2 : List Nat} {k : Int} (hA : Awake3) (hT : Tab w) (hr0 : RawV w Aa1 na1 ca1 xa1 Ba1 ma1 da1 ya1 Aa2 na2 ca2 xa2 Ba2 ma2 da2 ya2) (hf0 : (fewV na1 ma1 na2 ma2 sa1 xa1 ta1 ya1 sa2 xa2 ta2 ya2) = true) (d1 : decide ((200 : Int) < k) = true) (d2 : decide (k ≤ 4096) = true) :
    Calls Tryz.prog 7 #[.agg #[.bool sa1, .slice Aa1 na1 ca1, .bool ta1, .slice Ba1 ma1 da1, .bool sa2, .slice Aa2 na2 ca2, .bool ta2, .slice Ba2 ma2 da2], .int .i64 k] w fun e w' => e = .returned (.bool true) ∧ Ext w w' := by
  have HF0 := Lib.hid hf0
  clear hf0
  have HA := Lib.hid hA
  clear hA
  go_enter Tryz.func7, Tryz.ntmps7
  go_upto_region 1 with (fail)
  obtain ⟨W0, hW, extW, bx, hzz⟩ := box1 w 28 #[.bool sa1, .slice Aa1 na1 ca1, .bool ta1, .slice Ba1 ma1 da1, .bool sa2, .slice Aa2 na2 ca2, .bool ta2, .slice Ba2 ma2 da2]
  rw [← hW]
  clear hW hzz
  go_wp2_with fail
  refine (HA.out _ (hT.ext extW)).mono ?_
  rintro e W ⟨rfl, hxt⟩
  replace bx := bx.ext hxt
  replace extW := extW.trans hxt
  clear hxt
  have k0 := bx.cell 0 (.bool sa1) rfl
  have k1 := bx.cell 1 (.slice Aa1 na1 ca1) rfl
  have k2 := bx.cell 2 (.bool ta1) rfl
  have k3 := bx.cell 3 (.slice Ba1 ma1 da1) rfl
  have k4 := bx.cell 4 (.bool sa2) rfl
  have k5 := bx.cell 5 (.slice Aa2 na2 ca2) rfl
  have k6 := bx.cell 6 (.bool ta2) rfl
  have k7 := bx.cell 7 (.slice Ba2 ma2 da2) rfl
  have hnb := Box.new W 28 #[.bool sa1, .slice Aa1 na1 ca1, .bool ta1, .slice Ba1 ma1 da1, .bool sa2, .slice Aa2 na2 ca2, .bool ta2, .slice Ba2 ma2 da2]
  have e1 := (Ext.refl W).alloc (.cells #[.bool sa1, .slice Aa1 na1 ca1, .bool ta1, .slice Ba1 ma1 da1, .bool sa2, .slice Aa2 na2 ca2, .bool ta2, .slice Ba2 ma2 da2] 28)
  go_wp2_with fail
  refine (fewI1 hnb (hr0.ext (extW.trans e1))).mono ?_
  rintro e W1 ⟨rfl, hxt⟩
  rw [HF0.out]
  have ES := e1.trans hxt
  clear hnb e1 hxt
  clear k0 k1 k2 k3 k4 k5 k6 k7
  replace bx := bx.ext ES
  replace extW := extW.trans ES
  clear ES
  go_wp2_with fail
  refine (HA.out _ (hT.ext extW)).mono ?_
  rintro e W9 ⟨rfl, hxt⟩
  go_wp2_with fail
  go_ret
  exact ⟨rfl, extW.trans hxt⟩
set_option maxHeartbeats 8000000 in
set_option maxRecDepth 100000 in
theorem round3_main {w : World} {sa1 ta1 sa2 ta2 : Bool} {Aa1 Ba1 Aa2 Ba2 : Option Addr} {na1 ca1 ma1 da1 na2 ca2 ma2 da2 : Nat} {xa1 ya1 xa2 ya2 : List Nat} {j : Nat} {lo0 hi0 : Rat} (hA : Awake3) (hT : Tab w) (hr0 : RawV w Aa1 na1 ca1 xa1 Ba1 ma1 da1 ya1 Aa2 na2 ca2 xa2 Ba2 ma2 da2 ya2) (hf0 : (fewV na1 ma1 na2 ma2 sa1 xa1 ta1 ya1 sa2 xa2 ta2 ya2) = true) (h0 : IV w lo0 hi0 10 sa1 Aa1 na1 ca1 ta1 Ba1 ma1 da1 sa2 Aa2 na2 ca2 ta2 Ba2 ma2 da2) (le0 : lo0 ≤ hi0) (hj : j ≤ 200) :
    Calls Tryz.prog 7 #[.agg #[.bool sa1, .slice Aa1 na1 ca1, .bool ta1, .slice Ba1 ma1 da1, .bool sa2, .slice Aa2 na2 ca2, .bool ta2, .slice Ba2 ma2 da2], .int .i64 (j : Int)] w fun e w' => e = .returned (.bool true) ∧ Ext w w' := by
  have d1 : decide ((200 : Int) < (j : Int)) = false := decide_eq_false (by omega)
  have d3 : decide ((j : Int) < 0) = false := decide_eq_false (by omega)
  have d4 : decide ((4096 : Int) < (j : Int)) = false := decide_eq_false (by omega)
  have HF0 := Lib.hid hf0
  have HN := Lib.hid (And.intro le0 hj)
  clear hf0 le0
  have HA := Lib.hid hA
  clear hA
  go_enter Tryz.func7, Tryz.ntmps7
  go_upto_region 1 with (fail)
  obtain ⟨W0, hW, extW, bx, hzz⟩ := box1 w 28 #[.bool sa1, .slice Aa1 na1 ca1, .bool ta1, .slice Ba1 ma1 da1, .bool sa2, .slice Aa2 na2 ca2, .bool ta2, .slice Ba2 ma2 da2]
  rw [← hW]
  clear hW hzz
  go_wp2_with fail
  refine (HA.out _ (hT.ext extW)).mono ?_
  rintro e W ⟨rfl, hxt⟩
  replace bx := bx.ext hxt
  replace extW := extW.trans hxt
  clear hxt
  have k0 := bx.cell 0 (.bool sa1) rfl
  have k1 := bx.cell 1 (.slice Aa1 na1 ca1) rfl
  have k2 := bx.cell 2 (.bool ta1) rfl
  have k3 := bx.cell 3 (.slice Ba1 ma1 da1) rfl
  have k4 := bx.cell 4 (.bool sa2) rfl
  have k5 := bx.cell 5 (.slice Aa2 na2 ca2) rfl
  have k6 := bx.cell 6 (.bool ta2) rfl
  have k7 := bx.cell 7 (.slice Ba2 ma2 da2) rfl
  have hnb := Box.new W 28 #[.bool sa1, .slice Aa1 na1 ca1, .bool ta1, .slice Ba1 ma1 da1, .bool sa2, .slice Aa2 na2 ca2, .bool ta2, .slice Ba2 ma2 da2]
  have e1 := (Ext.refl W).alloc (.cells #[.bool sa1, .slice Aa1 na1 ca1, .bool ta1, .slice Ba1 ma1 da1, .bool sa2, .slice Aa2 na2 ca2, .bool ta2, .slice Ba2 ma2 da2] 28)
  go_wp2_with fail
  refine (fewI1 hnb (hr0.ext (extW.trans e1))).mono ?_
  rintro e W1 ⟨rfl, hxt⟩
  rw [HF0.out]
  have ES := e1.trans hxt
  clear hnb e1 hxt
  clear k0 k1 k2 k3 k4 k5 k6 k7
  replace bx := bx.ext ES
  replace extW := extW.trans ES
  clear ES
  have k0 := bx.cell 0 (.bool sa1) rfl
  have k1 := bx.cell 1 (.slice Aa1 na1 ca1) rfl
  have k2 := bx.cell 2 (.bool ta1) rfl
  have k3 := bx.cell 3 (.slice Ba1 ma1 da1) rfl
  have k4 := bx.cell 4 (.bool sa2) rfl
  have k5 := bx.cell 5 (.slice Aa2 na2 ca2) rfl
  have k6 := bx.cell 6 (.bool ta2) rfl
  have k7 := bx.cell 7 (.slice Ba2 ma2 da2) rfl
  go_wp2_with fail
  refine (p_RoundV (k := j) (h0.ext extW) (by omega) HN.out.2 (hT.ext extW)).mono ?_
  rintro e Wa ⟨zA, zB, hg1, hg2, s1_, A1_, n1_, c1_, t1_, B1_, m1_, d1_, s1', A1', n1', c1', t1', B1', m1', d1', rfl, y1, hxt⟩
  have HG := Lib.hid (And.intro hg1 hg2)
  have HI := Lib.hid (show (inB (mkQ zA (2 ^ j)) (mkQ zB (2 ^ j)) lo0 && inB (mkQ zA (2 ^ j)) (mkQ zB (2 ^ j)) hi0) = true by
    have u0 := pow_pos2 j
    have q1 := (mkQ_le u0).2 hg1.le
    have q2 := (le_mkQ u0).2 hg2.le
    unfold inB
    rw [decide_eq_true q1, decide_eq_true (Rat.le_trans HN.out.1 q2), decide_eq_true (Rat.le_trans q1 HN.out.1), decide_eq_true q2]
    rfl)
  clear hg1 hg2
  clear k0 k1 k2 k3 k4 k5 k6 k7
  replace bx := bx.ext hxt
  replace extW := extW.trans hxt
  clear hxt
  go_upto_region 4 with (fail)
  refine at_world (fun V => Ext Wa V ∧ Box V Wa.heap.size 28 #[.bool s1_, .slice A1_ n1_ c1_, .bool t1_, .slice B1_ m1_ d1_, .bool s1', .slice A1' n1' c1', .bool t1', .slice B1' m1' d1'] ∧ IV V (mkQ zA (2 ^ j)) (mkQ zB (2 ^ j)) (10 + 14) s1_ A1_ n1_ c1_ t1_ B1_ m1_ d1_ s1' A1' n1' c1' t1' B1' m1' d1') ⟨(Ext.refl Wa).alloc _, Box.new Wa _ _, y1.ext ((Ext.refl Wa).alloc _)⟩ ?_
  generalize Wa.heap.size = g5
  clear y1
  rintro Wav ⟨EV, b5, y1⟩
  replace bx := bx.ext EV
  replace extW := extW.trans EV
  clear EV
  go_upto_region 6 with (fail)
  clear d1 d3 d4
  have ES0 := Ext.refl Wav
  refine wp_region_held_drew (S := Ext Wav) (by kernel_rfl) ES0.drew (fun ES => ?_)
  clear ES0
  refine Late.start0 (fun _ _ _ _ _ => ⟨fun h => h, fun h => h⟩) ES (fun hAl hQ => ?_)
  refine Late.take (i := 0) (d := some 34) (v := ?v0_106) rfl rfl (by kernel_rfl) (by kernel_rfl) (by kernel_rfl) (by kernel_rfl) hQ (Or.inl ⟨by rfl, ?y0_106⟩) ?r0_106
  case y0_106 =>
    intro w' hSw
    have k00 := (bx.ext hSw).c8
    have k10 := (b5.ext hSw).c8
    go_simp
    try with_reducible rfl
  try simp only [Act.put]
  try simp only [List.setIfInBounds_toArray]
  try simp only [List.set_cons_succ]
  try simp only [List.set_cons_zero]
  refine Late.take (i := 1) (d := some 35) (v := ?v1_107) rfl rfl (by kernel_rfl) (by kernel_rfl) (by kernel_rfl) (by kernel_rfl) hQ (Or.inl ⟨by rfl, ?y1_107⟩) ?r1_107
  case y1_107 =>
    intro w' hSw
    have k00 := (bx.ext hSw).c8
    have k10 := (b5.ext hSw).c8
    go_simp
    try with_reducible rfl
  try simp only [Act.put]
  try simp only [List.setIfInBounds_toArray]
  try simp only [List.set_cons_succ]
  try simp only [List.set_cons_zero]
  refine Late.take (i := 2) (d := some 36) (v := ?v2_108) rfl rfl (by kernel_rfl) (by kernel_rfl) (by kernel_rfl) (by kernel_rfl) hQ (Or.inl ⟨by rfl, ?y2_108⟩) ?r2_108
  case y2_108 =>
    intro w' hSw
    have k00 := (bx.ext hSw).c8
    have k10 := (b5.ext hSw).c8
    go_simp
    try with_reducible rfl
  try simp only [Act.put]
  try simp only [List.setIfInBounds_toArray]
  try simp only [List.set_cons_succ]
  try simp only [List.set_cons_zero]
  refine Late.call (i := 3) rfl (by kernel_rfl) hAl (by kernel_rfl) (by kernel_rfl) (by kernel_rfl) hQ (fun w3 e3 E3 K hK => ?_)
  go_simp
  (go_at_call 32; refine (q_RoundV (k := j) (h0.ext (extW.trans E3)) (by omega) HN.out.2).mono ?_; rintro e wk3 ⟨zC, zD, hg1, hg2, s2_, A2_, n2_, c2_, t2_, B2_, m2_, d2_, s2', A2', n2', c2', t2', B2', m2', d2', rfl, y2, hx3⟩; obtain rfl := HG.out.1.unique hg1; obtain rfl := HG.out.2.unique hg2; clear hg1 hg2)
  refine hK.out _ _ hx3 ?_
  clear hK K
  try simp only [Act.put]
  try simp only [List.setIfInBounds_toArray]
  try simp only [List.set_cons_succ]
  try simp only [List.set_cons_zero]
  refine Late.call (i := 4) rfl (by kernel_rfl) hAl (by kernel_rfl) (by kernel_rfl) (by kernel_rfl) hQ (fun w4 e4 E4 K hK => ?_)
  go_simp
  (replace y2 := y2.ext e4; go_at_call 16; refine (q_SameV (y1.ext E4) y2).mono ?_; rintro e wk4 ⟨rfl, hx4⟩; replace y2 := y2.ext hx4)
  refine hK.out _ _ hx4 ?_
  clear hK K
  try simp only [Act.put]
  try simp only [List.setIfInBounds_toArray]
  try simp only [List.set_cons_succ]
  try simp only [List.set_cons_zero]
  refine Late.take (i := 5) (d := some 39) (v := ?v5_109) rfl rfl (by kernel_rfl) (by kernel_rfl) (by kernel_rfl) (by kernel_rfl) hQ (Or.inl ⟨by rfl, ?y5_109⟩) ?r5_109
  case y5_109 =>
    intro w' hSw
    have k00 := (bx.ext hSw).c8
    have k10 := (b5.ext hSw).c8
    go_simp
    try with_reducible rfl
  try simp only [Act.put]
  try simp only [List.setIfInBounds_toArray]
  try simp only [List.set_cons_succ]
  try simp only [List.set_cons_zero]
  refine Late.take (i := 6) (d := some 40) (v := ?v6_110) rfl rfl (by kernel_rfl) (by kernel_rfl) (by kernel_rfl) (by kernel_rfl) hQ (Or.inl ⟨by rfl, ?y6_110⟩) ?r6_110
  case y6_110 =>
    intro w' hSw
    have k00 := (bx.ext hSw).c8
    have k10 := (b5.ext hSw).c8
    go_simp
    try with_reducible rfl
  try simp only [Act.put]
  try simp only [List.setIfInBounds_toArray]
  try simp only [List.set_cons_succ]
  try simp only [List.set_cons_zero]
  refine Late.take (i := 7) (d := some 41) (v := ?v7_111) rfl rfl (by kernel_rfl) (by kernel_rfl) (by kernel_rfl) (by kernel_rfl) hQ (Or.inl ⟨by rfl, ?y7_111⟩) ?r7_111
  case y7_111 =>
    intro w' hSw
    have k00 := (bx.ext hSw).c8
    have k10 := (b5.ext hSw).c8
    go_simp
    try with_reducible rfl
  try simp only [Act.put]
  try simp only [List.setIfInBounds_toArray]
  try simp only [List.set_cons_succ]
  try simp only [List.set_cons_zero]
  refine Late.call (i := 8) rfl (by kernel_rfl) hAl (by kernel_rfl) (by kernel_rfl) (by kernel_rfl) hQ (fun w8 e8 E8 K hK => ?_)
  go_simp
  (replace y2 := y2.ext e8; go_at_call 33; refine (p_Within (h0.ext (extW.trans E8)) (y1.ext E8) (by omega) (by omega)).mono ?_; rintro e wk8 ⟨rfl, hx8⟩; replace y2 := y2.ext hx8; rw [HI.out])
  refine hK.out _ _ hx8 ?_
  clear hK K
  try simp only [Act.put]
  try simp only [List.setIfInBounds_toArray]
  try simp only [List.set_cons_succ]
  try simp only [List.set_cons_zero]
  refine Late.take (i := 9) (d := some 43) (v := ?v9_112) rfl rfl (by kernel_rfl) (by kernel_rfl) (by kernel_rfl) (by kernel_rfl) hQ (Or.inl ⟨by rfl, ?y9_112⟩) ?r9_112
  case y9_112 =>
    intro w' hSw
    have k00 := (bx.ext hSw).c8
    have k10 := (b5.ext hSw).c8
    go_simp
    try with_reducible rfl
  try simp only [Act.put]
  try simp only [List.setIfInBounds_toArray]
  try simp only [List.set_cons_succ]
  try simp only [List.set_cons_zero]
  refine Late.take (i := 10) (d := some 4) (v := ?v10_113) rfl rfl (by kernel_rfl) (by kernel_rfl) (by kernel_rfl) (by kernel_rfl) hQ (Or.inl ⟨by rfl, ?y10_113⟩) ?r10_113
  case y10_113 =>
    intro w' hSw
    have k00 := (bx.ext hSw).c8
    have k10 := (b5.ext hSw).c8
    go_simp
    try with_reducible rfl
  try simp only [Act.put]
  try simp only [List.setIfInBounds_toArray]
  try simp only [List.set_cons_succ]
  try simp only [List.set_cons_zero]
  refine Late.done0 (by kernel_rfl) (fun wz ez Ez => ?_)
  clear hAl hQ ES
  go_wp2_with fail
  go_ret
  exact ⟨rfl, extW.trans Ez⟩
theorem round3_any {w : World} {sa1 ta1 sa2 ta2 : Bool} {Aa1 Ba1 Aa2 Ba2 : Option Addr} {na1 ca1 ma1 da1 na2 ca2 ma2 da2 : Nat} {xa1 ya1 xa2 ya2 : List Nat} {k : Int} (hA : Awake3) (hT : Tab w) (hr0 : RawV w Aa1 na1 ca1 xa1 Ba1 ma1 da1 ya1 Aa2 na2 ca2 xa2 Ba2 ma2 da2 ya2) (ha : -9223372036854775808 ≤ k) (hb : k < 9223372036854775808) :
    Calls Tryz.prog 7 #[.agg #[.bool sa1, .slice Aa1 na1 ca1, .bool ta1, .slice Ba1 ma1 da1, .bool sa2, .slice Aa2 na2 ca2, .bool ta2, .slice Ba2 ma2 da2], .int .i64 k] w fun e w' => e = .returned (.bool true) ∧ Ext w w' := by
  cases hf0 : (fewV na1 ma1 na2 ma2 sa1 xa1 ta1 ya1 sa2 xa2 ta2 ya2) with
  | false => exact round3_no0 hA hT hr0 ha hb hf0
  | true =>
  have hf' := hf0
  obtain ⟨h0, le0⟩ := few_iv hr0.1 hr0.2.1 hr0.2.2.1 hr0.2.2.2 hf'
  generalize rawQ sa1 xa1 ta1 ya1 = lo0 at h0 le0
  generalize rawQ sa2 xa2 ta2 ya2 = hi0 at h0 le0
  clear hf'
  by_cases hlo : k < 0
  · exact round3_outf hA hT hr0 hf0 (.inl hlo) (decide_eq_false (by omega)) (decide_eq_true hlo)
  by_cases hhi : 4096 < k
  · exact round3_outt hA hT hr0 hf0 (.inr hhi) (decide_eq_true (by omega)) (decide_eq_false (by omega)) (decide_eq_false hlo) (decide_eq_true hhi)
  by_cases hm : 200 < k
  · exact round3_mid hA hT hr0 hf0 (decide_eq_true hm) (decide_eq_true (by omega))
  obtain ⟨j, rfl⟩ := Int.eq_ofNat_of_zero_le (show 0 ≤ k by omega)
  exact round3_main hA hT hr0 hf0 h0 le0 (by omega)
end Go.Proofs.YtoabhnofppledaaGreatDoor
namespace Go.Proofs.YtoabhnofppledaaGreatDoor
open Go.ChangeShapes Go.WideShapes Go.ChangeAt Go.RowKit Go.Joins
set_option maxRecDepth 100000
theorem round3_lifted (os : Os) (started : os.Started) (H : Type) (enc : TypeId × Value → H) :
    ReturnsInHanded {} Tryz.checked os 7 .any (fun w args => (Rows.intervalRoundSpec.pre enc Tryz.prog Tryz.f7 [] false w args ∧ laidMetH Tryz.prog laidI w) ∧ sizedMet enc Tryz.prog Tryz.f7 (OpenSpec.ofChange Rows.intervalRoundSpec) false w args)
      (Rows.intervalRoundSpec.post enc Tryz.prog Tryz.f7 false true false false) := by
  refine returnsInHanded_of_change_and (C := Tryz.checked) (X := fun w _ => laidMetH Tryz.prog laidI w) (fun _ _ _ hh h => h.of_heap hh) Tryz.own started (by kernel_rfl) Tryz.func7
    (ChangeSpec.witness_shaped (enc := enc) (C := Tryz.checked) (os := os) (X := fun w _ => laidMetH Tryz.prog laidI w) false (World.doorLaid Tryz.prog 400 os) #[Value.agg #[.bool false, .slice none 0 0, .bool false, .slice none 0 0, .bool false, .slice none 0 0, .bool false, .slice none 0 0], .int .i64 0] 8 rfl (World.shaped_of_RefB (by kernel_rfl) (by kernel_rfl)) (by kernel_rfl) (by kernel_rfl) (by kernel_rfl) (doorI_met os _)) ?_
  intro W base args ds gs before hval0 hW _ _ hL _
  have hval : ∀ (j : Nat) t v, Tryz.f7.params[j]? = some t → args[j]? = some v → Value.okWide Tryz.prog W .any base t v := hval0
  have hW' := hW
  have hlt : ∀ p ∈ before, p.block < W.heap.size := fun p hp => hW.lt p hp
  obtain ⟨p, q, hA0, hV, rfl, _, _⟩ := hW
  have hA : DataW.TrodAll enc Tryz.prog W 0 (fun _ => true) true Tryz.f7.params.toList args.toList ds p := hA0
  rw [Tryz.params7] at hA hval
  obtain ⟨v0, v1, d0, d1, p0, p1, rfl, rfl, rfl, h0, h1⟩ := trodAll_two hA
  obtain ⟨rfl, rfl⟩ := trodVars_none hV
  simp only [List.append_nil] at hW' hlt
  obtain ⟨sa1, Aa1, na1, ca1, ta1, Ba1, ma1, da1, sa2, Aa2, na2, ca2, ta2, Ba2, ma2, da2, xa1, ya1, xa2, ya2, rfl, hr0⟩ := open_iv (hval 0 28 v0 rfl rfl) h0
  obtain ⟨k1, rfl, _, _, hwf1⟩ := open_int Tryz.underlying3 (hval 1 3 v1 rfl rfl) h1
  simp [Lit.wf, IntKind.min, IntKind.max, IntKind.bits, IntKind.signed] at hwf1
  clear hA0 hval0
  have hT := tab_of_laidH hL
  refine (round3_any awake3 hT hr0 (by omega) (by omega)).mono fun e W' ⟨he, hext⟩ => ?_
  subst he
  have hb : Below W.heap.size W W' := hext
  have g0 := Below.trod Tryz.laidOut (by kernel_rfl) (of_decide_eq_true (by kernel_rfl)) h0 hb (fun p hp => hlt p (List.mem_append.2 (.inl hp)))
  have g1 := Below.trod Tryz.laidOut (by kernel_rfl) (of_decide_eq_true (by kernel_rfl)) h1 hb (fun p hp => hlt p (List.mem_append.2 (.inr hp)))
  exact ⟨_, rfl, _, _, _, [], (p0 ++ p1), [], hW', trodAll_mk1 (shut_bool Tryz.underlying4 true), trodAll_mk2 g0 g1, rfl, Below.frame hb _, fun h => by cases h⟩
theorem round3_row_holds : Rows.IntervalRoundSaid :=
  OpenClaim.holds_of_wide 7 Tryz.f7 rfl rfl rfl rfl rfl rfl rfl ⟨rfl, rfl, rfl, rfl, rfl⟩ rfl rfl rfl rfl rfl (by kernel_rfl) Tryz.func7 (by kernel_rfl)
    (of_decide_eq_true (by kernel_rfl)) (by unfold Func.isWrapper; first | (rw [if_neg (of_decide_eq_false (by kernel_rfl))]; exact ⟨rfl, rfl⟩) | (rw [if_pos (by decide +kernel)]; kernel_rfl))
    (fun os started H enc _ => round3_lifted os started H enc)
theorem round3_holds : Rows.IntervalRoundCardSaid :=
  Claim7.holds_tied_plain_at .later [] [.data] true Rows.intervalRoundCard.stood.harness false
    round3_row_holds (fun _ h => by cases h) (by kernel_rfl) (fun _ h => by cases h) intervalRound_row_tie rfl ⟨rfl, rfl⟩ (by kernel_rfl) rfl
    (fun f fn hf hfn => by
      obtain rfl : f = 7 := Option.some.inj ((show Tryz.prog.funcNamed "setsquare/setsquarelaw03.IntervalRound" = some 7 by kernel_rfl).symm.trans hf) |>.symm
      obtain rfl : fn = Tryz.f7 := (Option.some.inj (Tryz.func7.symm.trans hfn)).symm
      exact ⟨by kernel_rfl, fun j t ht => by
        rw [Tryz.params7] at ht
        have hm : t ∈ [28, 3] := by simpa using Array.mem_of_getElem? ht
        have hall : ([28, 3].all fun u => !Tryz.prog.wantsStandIn u) = true := by kernel_rfl
        exact (show Tryz.prog.wantsStandIn t = false by simpa using List.all_eq_true.1 hall t hm)⟩)
    (by kernel_rfl)
end Go.Proofs.YtoabhnofppledaaGreatDoor
