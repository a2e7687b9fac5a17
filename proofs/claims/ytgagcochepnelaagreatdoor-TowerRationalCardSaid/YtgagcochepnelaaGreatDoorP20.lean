/- For every tower with three elements the law TowerRational returns true: Zero and Rational recognise 0 and the rational numbers, and the examples of the chapter hold. Condition: the table math/bits.deBruijn64tab holds what its initialiser lays (tied by the given card). -/
import Derived.Test.YtgagcochepnelaaGreatDoorP0
import Derived.Test.YtgagcochepnelaaGreatDoorP1
import Derived.Test.YtgagcochepnelaaGreatDoorP2
import Derived.Test.YtgagcochepnelaaGreatDoorP3
import Derived.Test.YtgagcochepnelaaGreatDoorP4
import Derived.Test.YtgagcochepnelaaGreatDoorP5
import Derived.Test.YtgagcochepnelaaGreatDoorP6
import Derived.Test.YtgagcochepnelaaGreatDoorP7
import Derived.Test.YtgagcochepnelaaGreatDoorP8
import Derived.Test.YtgagcochepnelaaGreatDoorP9
import Derived.Test.YtgagcochepnelaaGreatDoorP10
import Derived.Test.YtgagcochepnelaaGreatDoorP11
import Derived.Test.YtgagcochepnelaaGreatDoorP12
import Derived.Test.YtgagcochepnelaaGreatDoorP13
import Derived.Test.YtgagcochepnelaaGreatDoorCards
import Derived.Test.YtgagcochepnelaaGreatDoorTie
import Derived.LaidMore
import Derived.OpenShut
import Derived.Lib.SmallJoins
import Derived.LaidLaws
import Derived.Deep.Slices
import Derived.Lib.LaidTab
import Derived.SevenTiedAt
import Derived.Stop.Joined
set_option linter.unusedSimpArgs false
set_option linter.unusedVariables false
set_option maxHeartbeats 64000000
namespace Go.Proofs.YtgagcochepnelaaGreatDoor
section
open Go.RowKit
attribute [local go_sem ↓] Go.wp_at_zero Go.wp_at_succ
def ratT : List Rat -> Option Rat
 | [] => none
 | q :: qs => if zeroB qs = true then some q else none
def RetOR (o : Option Rat) (L : Nat) (w : World) (e : Ending) (w' : World) : Prop :=
 match o with
 | none => e = .returned (.tuple #[.agg #[.bool false, .slice none 0 0, .bool false, .slice none 0 0], .bool false]) /\ Ext w w'
 | some q => ∃ s A n c t B m d, e = .returned (.tuple #[.agg #[.bool s, .slice A n c, .bool t, .slice B m d], .bool true]) /\ NR w' q L s A n c t B m d /\ Ext w w'
section
variable {w w' : World} {q x : Rat} {L M : Nat} {s t : Bool} {A B : Option Addr} {n c m d : Nat} {sx tx : Bool} {Ax Bx : Option Addr} {nx cx mx dx : Nat} {qs ps : List Rat} {rs : List RawR} {ts us : List (List RawR)}
theorem q_ZeroT (h : Pol w A n c qs L) (hn : n <= 100000) : Calls Tryz.prog 36 #[.slice A n c] w fun e w' => e = .returned (.bool (zeroB qs)) /\ Ext w w' := by
 have Hlen := Lib.hid h.len
 go_enter Tryz.func36, Tryz.ntmps36
 go_wp2_with fail
 go_loopw [3] (fun i wr => ∃ k : Nat, k <= n /\ i = .int .i64 (k : Int) /\ Ext w wr /\ zeroB (qs.take k) = true) (fun i _ => n - (intOf i).toNat)
 case atStart => exact ⟨0, by omega, rfl, Ext.refl _, by simp [zeroB]⟩
 case round =>
  obtain ⟨k, hk, rfl, ext, hall⟩ := hrel;have HA := Lib.hid hall;clear hall
  by_cases hlt : k < n
  ·have hj : k < qs.length := by rw [Hlen.out]; exact hlt
   have hI : (k : Int) < (n : Int) := by omega
   obtain ⟨p, off, rfl, hr⟩ := h.at_ (fun e => by rw [e] at hj; exact absurd hj (Nat.not_lt_zero _));obtain ⟨sx, Ax, nx, cx, tx, Bx, mx, dx, e0, e1, e2, e3, hx⟩ := (hr.ext ext).at_ k hj;have e0' : wr.cell? ⟨p, off + k * 4, none⟩ = some (.bool sx) := by rw [Nat.mul_comm]; exact e0
   have e1' : wr.cell? ⟨p, off + k * 4 + 1, none⟩ = some (.slice Ax nx cx) := by rw [Nat.mul_comm]; exact e1
   have e2' : wr.cell? ⟨p, off + k * 4 + 2, none⟩ = some (.bool tx) := by rw [Nat.mul_comm]; exact e2
   have e3' : wr.cell? ⟨p, off + k * 4 + 3, none⟩ = some (.slice Bx mx dx) := by rw [Nat.mul_comm]; exact e3
   have HT := Lib.hid (show zeroB (qs.take (k + 1)) = (zeroB (qs.take k) && decide (qs[k] = 0)) by unfold zeroB; rw [List.take_succ_eq_append_getElem hj, List.all_append]; simp)
   have HM := Lib.hid (fun hf : qs[k] ≠ 0 => show zeroB qs = false by
    unfold zeroB;rw [List.all_eq_false];exact ⟨qs[k], List.getElem_mem hj, by simpa using hf⟩)
   generalize qs[k] = r at hx HT HM;have hz0 : nx = 0 ↔ r = 0 := hx.num.zero.trans Rat.num_eq_zero;clear e0 e1 e2 e3
   by_cases hq : r = 0
   ·have hx0 := hz0.2 hq
    have HQ := Lib.hid hq;clear hq hz0;subst hx0
    go_wp2_with fail
    go_roundw
    case rel => exact ⟨k + 1, by omega, by go_num, ext, by rw [HT.out, HA.out, decide_eq_true HQ.out]; rfl⟩
    case measure => simp [intOf]; omega
   ·have hx0 : 0 < nx := by
     rcases Nat.eq_zero_or_pos nx with h0 | h0
     ·exact absurd (hz0.1 h0) hq
     ·exact h0
    have hxi : (0 : Int) < (nx : Int) := by omega
    have HQ := Lib.hid hq;clear hq hz0
    go_wp2_with fail
    go_ret
    exact ⟨by rw [HM.out HQ.out]; rfl, ext⟩
  ·have hI : (n : Int) <= (k : Int) := by omega
   go_wp2_with fail
   go_ret
   refine ⟨?_, ext⟩;have ha := HA.out;rw [List.take_of_length_le (by rw [Hlen.out]; omega)] at ha;rw [ha]; rfl
theorem p_RationalT (h : Pol w A n c qs L) (hL : L <= 1000) (hn : n <= 100000) : Calls Tryz.prog 33 #[.slice A n c] w (RetOR (ratT qs) L w) := by
 have hcap := h.cap;have htop := h.top
 rcases Nat.eq_zero_or_pos n with hn0 | hn0
 ·subst hn0
  have hq : qs = [] := List.eq_nil_of_length_eq_zero h.len;subst hq
  go_enter Tryz.func33, Tryz.ntmps33
  go_upto_region 1 with (fail)
  obtain ⟨W, hW, EW, bz, hz⟩ := box1 w 30 #[Value.bool false, Value.slice none 0 0, Value.bool false, Value.slice none 0 0];rw [<- hW];clear hW;have z0 := bz.cell 0 _ rfl;have z1 := bz.cell 1 _ rfl;have z2 := bz.cell 2 _ rfl;have z3 := bz.cell 3 _ rfl;have f0 := bz.frozen 0;have f1 := bz.frozen 1;have f2 := bz.frozen 2;have f3 := bz.frozen 3
  go_wp2_with fail
  obtain ⟨b1, b2, b3, b4⟩ := fin_quad (s := false) (A := Option.none) (n := 0) (c := 0) (t := false) (B := Option.none) (m := 0) (d := 0) bz;have r0 := b1.cell 0 (.bool false) rfl;have r1 := b1.cell 1 (.slice Option.none 0 0) rfl;have r2 := b1.cell 2 (.bool false) rfl;have r3 := b1.cell 3 (.slice Option.none 0 0) rfl;unfold set4 at r0 r1 r2 r3;refine bodyPost_ret (v := .tuple #[.agg #[.bool false, .slice Option.none 0 0, .bool false, .slice Option.none 0 0], .bool false]) (by simp [results, Tryz.results33, go_sem, r0, r1, r2, r3]) rfl ?_;exact ⟨rfl, b3 _ EW (by omega)⟩
 ·have hj : 0 < qs.length := by rw [h.len]; exact hn0
  obtain ⟨b, off, rfl, hr⟩ := h.at_ (fun e => by rw [e] at hj; exact absurd hj (Nat.not_lt_zero _));obtain ⟨sx, Ax, nx, cx, tx, Bx, mx, dx, e0, e1, e2, e3, hx⟩ := hr.at_ 0 hj;rw [Nat.mul_zero, Nat.add_zero] at e0 e1 e2 e3
  have HR := Lib.hid (show ratT qs = if zeroB (qs.drop 1) = true then some qs[0] else none by
   cases qs with
   | nil => simp at hj
   | cons q qs => rfl)
  generalize qs[0] = q0 at hx HR;have g1 : ((n : Int) == 0) = false := beq_eq_false_iff_ne.2 (by omega);have k1 : (1 : Int) <= (n : Int) := by omega
  have k2 : (1 : Int) <= (c : Int) := by omega
  have k3 : (n : Int) <= (c : Int) := by omega
  have hI : (0 : Int) < (n : Int) := by omega
  by_cases hc : c = 1
  ·subst hc
   have hn1 : n = 1 := by omega
   subst hn1;have hdr : qs.drop 1 = [] := List.eq_nil_of_length_eq_zero (by rw [List.length_drop, h.len])
   go_enter Tryz.func33, Tryz.ntmps33
   go_upto_region 1 with (fail)
   obtain ⟨W, hW, EW, bz, hz⟩ := box1 w 30 #[Value.bool false, Value.slice none 0 0, Value.bool false, Value.slice none 0 0];rw [<- hW];clear hW;replace e0 := EW.cellv e0;replace e1 := EW.cellv e1;replace e2 := EW.cellv e2;replace e3 := EW.cellv e3;replace hx := hx.ext EW
   go_wp2_with fail
   refine (p_ZeroT (qs := qs.drop 1) (by rw [hdr]; exact Pol.nilT _ _ _ L (by unfold maxLen; omega)) (by omega) (by omega)).mono ?_;rintro e V ⟨rfl, hx1⟩;replace bz := bz.ext hx1;replace EW := EW.trans hx1
   cases hzb : zeroB (qs.drop 1) with
   | false =>
    have HZ := Lib.hid hzb;clear hzb;have z0 := bz.cell 0 _ rfl;have z1 := bz.cell 1 _ rfl;have z2 := bz.cell 2 _ rfl;have z3 := bz.cell 3 _ rfl;have f0 := bz.frozen 0;have f1 := bz.frozen 1;have f2 := bz.frozen 2;have f3 := bz.frozen 3
    go_wp2_with fail
    obtain ⟨b1, b2, b3, b4⟩ := fin_quad (s := false) (A := Option.none) (n := 0) (c := 0) (t := false) (B := Option.none) (m := 0) (d := 0) bz;have r0 := b1.cell 0 (.bool false) rfl;have r1 := b1.cell 1 (.slice Option.none 0 0) rfl;have r2 := b1.cell 2 (.bool false) rfl;have r3 := b1.cell 3 (.slice Option.none 0 0) rfl;unfold set4 at r0 r1 r2 r3;refine bodyPost_ret (v := .tuple #[.agg #[.bool false, .slice Option.none 0 0, .bool false, .slice Option.none 0 0], .bool false]) (by simp [results, Tryz.results33, go_sem, r0, r1, r2, r3]) rfl ?_;rw [HR.out, HZ.out]; exact ⟨rfl, b3 _ EW (by omega)⟩
   | true =>
    have HZ := Lib.hid hzb;clear hzb;replace e0 := hx1.cellv e0;replace e1 := hx1.cellv e1;replace e2 := hx1.cellv e2;replace e3 := hx1.cellv e3;replace hx := hx.ext hx1
    go_wp2_with fail
    refine (p_cloneT hx (by omega)).mono ?_;rintro e V2 ⟨s7, A7, n7, c7, t7, B7, m7, d7, rfl, h7, hx2⟩;replace bz := bz.ext hx2;replace EW := EW.trans hx2;have z0 := bz.cell 0 _ rfl;have z1 := bz.cell 1 _ rfl;have z2 := bz.cell 2 _ rfl;have z3 := bz.cell 3 _ rfl;have f0 := bz.frozen 0;have f1 := bz.frozen 1;have f2 := bz.frozen 2;have f3 := bz.frozen 3
    go_wp2_with fail
    obtain ⟨b1, b2, b3, b4⟩ := fin_quad (s := s7) (A := A7) (n := n7) (c := c7) (t := t7) (B := B7) (m := m7) (d := d7) bz;have r0 := b1.cell 0 (.bool s7) rfl;have r1 := b1.cell 1 (.slice A7 n7 c7) rfl;have r2 := b1.cell 2 (.bool t7) rfl;have r3 := b1.cell 3 (.slice B7 m7 d7) rfl;unfold set4 at r0 r1 r2 r3;refine bodyPost_ret (v := .tuple #[.agg #[.bool s7, .slice A7 n7 c7, .bool t7, .slice B7 m7 d7], .bool true]) (by simp [results, Tryz.results33, go_sem, r0, r1, r2, r3]) rfl ?_;rw [HR.out, HZ.out];exact ⟨_, _, _, _, _, _, _, _, rfl, ⟨b2 _ _ _ _ _ _ h7.num, b2 _ _ _ _ _ _ h7.den⟩, b3 _ EW (by omega)⟩
  ·have k4 : ¬ c = 1 := hc
   go_enter Tryz.func33, Tryz.ntmps33
   go_upto_region 1 with (fail)
   obtain ⟨W, hW, EW, bz, hz⟩ := box1 w 30 #[Value.bool false, Value.slice none 0 0, Value.bool false, Value.slice none 0 0];rw [<- hW];clear hW;have hd := (h.dropT (k := 1) (by omega)).ext EW;replace e0 := EW.cellv e0;replace e1 := EW.cellv e1;replace e2 := EW.cellv e2;replace e3 := EW.cellv e3;replace hx := hx.ext EW
   go_wp2_with fail
   refine (p_ZeroT (qs := qs.drop 1) (hd) (by omega) (by omega)).mono ?_;rintro e V ⟨rfl, hx1⟩;replace bz := bz.ext hx1;replace EW := EW.trans hx1
   cases hzb : zeroB (qs.drop 1) with
   | false =>
    have HZ := Lib.hid hzb;clear hzb;have z0 := bz.cell 0 _ rfl;have z1 := bz.cell 1 _ rfl;have z2 := bz.cell 2 _ rfl;have z3 := bz.cell 3 _ rfl;have f0 := bz.frozen 0;have f1 := bz.frozen 1;have f2 := bz.frozen 2;have f3 := bz.frozen 3
    go_wp2_with fail
    obtain ⟨b1, b2, b3, b4⟩ := fin_quad (s := false) (A := Option.none) (n := 0) (c := 0) (t := false) (B := Option.none) (m := 0) (d := 0) bz;have r0 := b1.cell 0 (.bool false) rfl;have r1 := b1.cell 1 (.slice Option.none 0 0) rfl;have r2 := b1.cell 2 (.bool false) rfl;have r3 := b1.cell 3 (.slice Option.none 0 0) rfl;unfold set4 at r0 r1 r2 r3;refine bodyPost_ret (v := .tuple #[.agg #[.bool false, .slice Option.none 0 0, .bool false, .slice Option.none 0 0], .bool false]) (by simp [results, Tryz.results33, go_sem, r0, r1, r2, r3]) rfl ?_;rw [HR.out, HZ.out]; exact ⟨rfl, b3 _ EW (by omega)⟩
   | true =>
    have HZ := Lib.hid hzb;clear hzb;replace e0 := hx1.cellv e0;replace e1 := hx1.cellv e1;replace e2 := hx1.cellv e2;replace e3 := hx1.cellv e3;replace hx := hx.ext hx1
    go_wp2_with fail
    refine (p_cloneT hx (by omega)).mono ?_;rintro e V2 ⟨s7, A7, n7, c7, t7, B7, m7, d7, rfl, h7, hx2⟩;replace bz := bz.ext hx2;replace EW := EW.trans hx2;have z0 := bz.cell 0 _ rfl;have z1 := bz.cell 1 _ rfl;have z2 := bz.cell 2 _ rfl;have z3 := bz.cell 3 _ rfl;have f0 := bz.frozen 0;have f1 := bz.frozen 1;have f2 := bz.frozen 2;have f3 := bz.frozen 3
    go_wp2_with fail
    obtain ⟨b1, b2, b3, b4⟩ := fin_quad (s := s7) (A := A7) (n := n7) (c := c7) (t := t7) (B := B7) (m := m7) (d := d7) bz;have r0 := b1.cell 0 (.bool s7) rfl;have r1 := b1.cell 1 (.slice A7 n7 c7) rfl;have r2 := b1.cell 2 (.bool t7) rfl;have r3 := b1.cell 3 (.slice B7 m7 d7) rfl;unfold set4 at r0 r1 r2 r3;refine bodyPost_ret (v := .tuple #[.agg #[.bool s7, .slice A7 n7 c7, .bool t7, .slice B7 m7 d7], .bool true]) (by simp [results, Tryz.results33, go_sem, r0, r1, r2, r3]) rfl ?_;rw [HR.out, HZ.out];exact ⟨_, _, _, _, _, _, _, _, rfl, ⟨b2 _ _ _ _ _ _ h7.num, b2 _ _ _ _ _ _ h7.den⟩, b3 _ EW (by omega)⟩
theorem q_RationalT (h : Pol w A n c qs L) (hL : L <= 1000) (hn : n <= 100000) : Calls Tryz.prog 34 #[.slice A n c] w (RetOR (ratT qs) L w) := by
 have hcap := h.cap;have htop := h.top
 rcases Nat.eq_zero_or_pos n with hn0 | hn0
 ·subst hn0
  have hq : qs = [] := List.eq_nil_of_length_eq_zero h.len;subst hq
  go_enter Tryz.func34, Tryz.ntmps34
  go_upto_region 1 with (fail)
  obtain ⟨W, hW, EW, bz, hz⟩ := box1 w 30 #[Value.bool false, Value.slice none 0 0, Value.bool false, Value.slice none 0 0];rw [<- hW];clear hW;have z0 := bz.cell 0 _ rfl;have z1 := bz.cell 1 _ rfl;have z2 := bz.cell 2 _ rfl;have z3 := bz.cell 3 _ rfl;have f0 := bz.frozen 0;have f1 := bz.frozen 1;have f2 := bz.frozen 2;have f3 := bz.frozen 3
  go_wp2_with fail
  obtain ⟨b1, b2, b3, b4⟩ := fin_quad (s := false) (A := Option.none) (n := 0) (c := 0) (t := false) (B := Option.none) (m := 0) (d := 0) bz;have r0 := b1.cell 0 (.bool false) rfl;have r1 := b1.cell 1 (.slice Option.none 0 0) rfl;have r2 := b1.cell 2 (.bool false) rfl;have r3 := b1.cell 3 (.slice Option.none 0 0) rfl;unfold set4 at r0 r1 r2 r3;refine bodyPost_ret (v := .tuple #[.agg #[.bool false, .slice Option.none 0 0, .bool false, .slice Option.none 0 0], .bool false]) (by simp [results, Tryz.results34, go_sem, r0, r1, r2, r3]) rfl ?_;exact ⟨rfl, b3 _ EW (by omega)⟩
 ·have hj : 0 < qs.length := by rw [h.len]; exact hn0
  obtain ⟨b, off, rfl, hr⟩ := h.at_ (fun e => by rw [e] at hj; exact absurd hj (Nat.not_lt_zero _));obtain ⟨sx, Ax, nx, cx, tx, Bx, mx, dx, e0, e1, e2, e3, hx⟩ := hr.at_ 0 hj;rw [Nat.mul_zero, Nat.add_zero] at e0 e1 e2 e3
  have HR := Lib.hid (show ratT qs = if zeroB (qs.drop 1) = true then some qs[0] else none by
   cases qs with
   | nil => simp at hj
   | cons q qs => rfl)
  generalize qs[0] = q0 at hx HR;have g1 : ((n : Int) == 0) = false := beq_eq_false_iff_ne.2 (by omega);have k1 : (1 : Int) <= (n : Int) := by omega
  have k2 : (1 : Int) <= (c : Int) := by omega
  have k3 : (n : Int) <= (c : Int) := by omega
  have hI : (0 : Int) < (n : Int) := by omega
  by_cases hc : c = 1
  ·subst hc
   have hn1 : n = 1 := by omega
   subst hn1;have hdr : qs.drop 1 = [] := List.eq_nil_of_length_eq_zero (by rw [List.length_drop, h.len])
   go_enter Tryz.func34, Tryz.ntmps34
   go_upto_region 1 with (fail)
   obtain ⟨W, hW, EW, bz, hz⟩ := box1 w 30 #[Value.bool false, Value.slice none 0 0, Value.bool false, Value.slice none 0 0];rw [<- hW];clear hW;replace e0 := EW.cellv e0;replace e1 := EW.cellv e1;replace e2 := EW.cellv e2;replace e3 := EW.cellv e3;replace hx := hx.ext EW
   go_wp2_with fail
   refine (q_ZeroT (qs := qs.drop 1) (by rw [hdr]; exact Pol.nilT _ _ _ L (by unfold maxLen; omega)) (by omega)).mono ?_;rintro e V ⟨rfl, hx1⟩;replace bz := bz.ext hx1;replace EW := EW.trans hx1
   cases hzb : zeroB (qs.drop 1) with
   | false =>
    have HZ := Lib.hid hzb;clear hzb;have z0 := bz.cell 0 _ rfl;have z1 := bz.cell 1 _ rfl;have z2 := bz.cell 2 _ rfl;have z3 := bz.cell 3 _ rfl;have f0 := bz.frozen 0;have f1 := bz.frozen 1;have f2 := bz.frozen 2;have f3 := bz.frozen 3
    go_wp2_with fail
    obtain ⟨b1, b2, b3, b4⟩ := fin_quad (s := false) (A := Option.none) (n := 0) (c := 0) (t := false) (B := Option.none) (m := 0) (d := 0) bz;have r0 := b1.cell 0 (.bool false) rfl;have r1 := b1.cell 1 (.slice Option.none 0 0) rfl;have r2 := b1.cell 2 (.bool false) rfl;have r3 := b1.cell 3 (.slice Option.none 0 0) rfl;unfold set4 at r0 r1 r2 r3;refine bodyPost_ret (v := .tuple #[.agg #[.bool false, .slice Option.none 0 0, .bool false, .slice Option.none 0 0], .bool false]) (by simp [results, Tryz.results34, go_sem, r0, r1, r2, r3]) rfl ?_;rw [HR.out, HZ.out]; exact ⟨rfl, b3 _ EW (by omega)⟩
   | true =>
    have HZ := Lib.hid hzb;clear hzb;replace e0 := hx1.cellv e0;replace e1 := hx1.cellv e1;replace e2 := hx1.cellv e2;replace e3 := hx1.cellv e3;replace hx := hx.ext hx1;have z0 := bz.cell 0 _ rfl;have z1 := bz.cell 1 _ rfl;have z2 := bz.cell 2 _ rfl;have z3 := bz.cell 3 _ rfl;have f0 := bz.frozen 0;have f1 := bz.frozen 1;have f2 := bz.frozen 2;have f3 := bz.frozen 3
    go_wp2_with fail
    obtain ⟨b1, b2, b3, b4⟩ := fin_quad (s := sx) (A := Ax) (n := nx) (c := cx) (t := tx) (B := Bx) (m := mx) (d := dx) bz;have r0 := b1.cell 0 (.bool sx) rfl;have r1 := b1.cell 1 (.slice Ax nx cx) rfl;have r2 := b1.cell 2 (.bool tx) rfl;have r3 := b1.cell 3 (.slice Bx mx dx) rfl;unfold set4 at r0 r1 r2 r3;refine bodyPost_ret (v := .tuple #[.agg #[.bool sx, .slice Ax nx cx, .bool tx, .slice Bx mx dx], .bool true]) (by simp [results, Tryz.results34, go_sem, r0, r1, r2, r3]) rfl ?_;rw [HR.out, HZ.out];exact ⟨_, _, _, _, _, _, _, _, rfl, ⟨b2 _ _ _ _ _ _ hx.num, b2 _ _ _ _ _ _ hx.den⟩, b3 _ EW (by omega)⟩
  ·have k4 : ¬ c = 1 := hc
   go_enter Tryz.func34, Tryz.ntmps34
   go_upto_region 1 with (fail)
   obtain ⟨W, hW, EW, bz, hz⟩ := box1 w 30 #[Value.bool false, Value.slice none 0 0, Value.bool false, Value.slice none 0 0];rw [<- hW];clear hW;have hd := (h.dropT (k := 1) (by omega)).ext EW;replace e0 := EW.cellv e0;replace e1 := EW.cellv e1;replace e2 := EW.cellv e2;replace e3 := EW.cellv e3;replace hx := hx.ext EW
   go_wp2_with fail
   refine (q_ZeroT (qs := qs.drop 1) (hd) (by omega)).mono ?_;rintro e V ⟨rfl, hx1⟩;replace bz := bz.ext hx1;replace EW := EW.trans hx1
   cases hzb : zeroB (qs.drop 1) with
   | false =>
    have HZ := Lib.hid hzb;clear hzb;have z0 := bz.cell 0 _ rfl;have z1 := bz.cell 1 _ rfl;have z2 := bz.cell 2 _ rfl;have z3 := bz.cell 3 _ rfl;have f0 := bz.frozen 0;have f1 := bz.frozen 1;have f2 := bz.frozen 2;have f3 := bz.frozen 3
    go_wp2_with fail
    obtain ⟨b1, b2, b3, b4⟩ := fin_quad (s := false) (A := Option.none) (n := 0) (c := 0) (t := false) (B := Option.none) (m := 0) (d := 0) bz;have r0 := b1.cell 0 (.bool false) rfl;have r1 := b1.cell 1 (.slice Option.none 0 0) rfl;have r2 := b1.cell 2 (.bool false) rfl;have r3 := b1.cell 3 (.slice Option.none 0 0) rfl;unfold set4 at r0 r1 r2 r3;refine bodyPost_ret (v := .tuple #[.agg #[.bool false, .slice Option.none 0 0, .bool false, .slice Option.none 0 0], .bool false]) (by simp [results, Tryz.results34, go_sem, r0, r1, r2, r3]) rfl ?_;rw [HR.out, HZ.out]; exact ⟨rfl, b3 _ EW (by omega)⟩
   | true =>
    have HZ := Lib.hid hzb;clear hzb;replace e0 := hx1.cellv e0;replace e1 := hx1.cellv e1;replace e2 := hx1.cellv e2;replace e3 := hx1.cellv e3;replace hx := hx.ext hx1;have z0 := bz.cell 0 _ rfl;have z1 := bz.cell 1 _ rfl;have z2 := bz.cell 2 _ rfl;have z3 := bz.cell 3 _ rfl;have f0 := bz.frozen 0;have f1 := bz.frozen 1;have f2 := bz.frozen 2;have f3 := bz.frozen 3
    go_wp2_with fail
    obtain ⟨b1, b2, b3, b4⟩ := fin_quad (s := sx) (A := Ax) (n := nx) (c := cx) (t := tx) (B := Bx) (m := mx) (d := dx) bz;have r0 := b1.cell 0 (.bool sx) rfl;have r1 := b1.cell 1 (.slice Ax nx cx) rfl;have r2 := b1.cell 2 (.bool tx) rfl;have r3 := b1.cell 3 (.slice Bx mx dx) rfl;unfold set4 at r0 r1 r2 r3;refine bodyPost_ret (v := .tuple #[.agg #[.bool sx, .slice Ax nx cx, .bool tx, .slice Bx mx dx], .bool true]) (by simp [results, Tryz.results34, go_sem, r0, r1, r2, r3]) rfl ?_;rw [HR.out, HZ.out];exact ⟨_, _, _, _, _, _, _, _, rfl, ⟨b2 _ _ _ _ _ _ hx.num, b2 _ _ _ _ _ _ hx.den⟩, b3 _ EW (by omega)⟩
end
end
section
open Go.RowKit
attribute [local go_sem ↓] Go.wp_at_zero Go.wp_at_succ
attribute [local go_sem ↓] Go.wp_at_zero Go.wp_at_succ
theorem first_ofT {P : Nat -> Prop} : ∀ (n k : Nat), k < n -> P k -> ∃ f, f <= k /\ P f /\ ∀ j, j < f -> ¬ P j := by
 intro n
 induction n with
 | zero => intro k hk; omega
 | succ n ih =>
  intro k hk hp
  by_cases h : ∃ j, j < k /\ P j
  ·obtain ⟨j, hj, hpj⟩ := h
   obtain ⟨f, hf, h1, h2⟩ := ih j (by omega) hpj;exact ⟨f, by omega, h1, h2⟩
  ·exact ⟨k, Nat.le_refl _, hp, fun j hj hpj => h ⟨j, hj, hpj⟩⟩
section
variable {w w' : World} {q p r : Rat} {L : Nat} {s t s' t' u u' : Bool} {A B A' B' C D : Option Addr} {n c m d n' c' m' d' l e0 l' e' : Nat} {xs ys xs' ys' zs zs' : List Nat}
variable {z y : Int} {M : Nat}
theorem q_SameInt_neT (h : NI w z L s A n c) (k : NI w y M t B m d) (hne : z ≠ y) : Calls Tryz.prog 81 #[.agg #[.bool s, .slice A n c], .agg #[.bool t, .slice B m d]] w fun e w' => e = .returned (.bool false) /\ Ext w w' := by
 obtain ⟨xs, hn, hx, hc, hcm, hi, hl⟩ := h.out;obtain ⟨ys, hm, hy, hd, hdm, hj, hk⟩ := k.out;have hN9 : n <= 9223372036854775807 := by unfold maxLen at hcm; omega
 by_cases hst : s = t
 ·by_cases hnm : n = m
  ·subst hst
   subst hnm;have hxy : xs ≠ ys := fun e => hne (by rw [<- hi.eq, <- hj.eq, e])
   have hex : ∃ k, ∃ hk : k < n, xs[k]'(by omega) ≠ ys[k]'(by omega) := by
    refine Classical.byContradiction fun hno => hxy (List.ext_getElem (by omega) fun k h1 h2 => ?_)
    exact Classical.byContradiction fun hn' => hno ⟨k, by omega, hn'⟩
   obtain ⟨k0, hk0, hn0⟩ := hex;obtain ⟨f, hf, hf1, hf2⟩ := first_ofT (P := fun k => ∃ hk : k < n, xs[k]'(by omega) ≠ ys[k]'(by omega)) (k0 + 1) k0 (by omega) ⟨hk0, hn0⟩;obtain ⟨hfn, hfd⟩ := hf1;have HE := Lib.hid (fun j (hjf : j < f) (hjx : j < xs.length) (hjy : j < ys.length) => show xs[j] = ys[j] from Classical.byContradiction fun hn' => hf2 j hjf ⟨by omega, hn'⟩);have HF := Lib.hid (fun (h1 : f < xs.length) (h2 : f < ys.length) => show xs[f] ≠ ys[f] from hfd);have Hn := Lib.hid hn;have Hm := Lib.hid hm;clear h k hi hj hl hk hn hm hne hxy hk0 hn0 hf2 hfd
   go_enter Tryz.func81, Tryz.ntmps81
   go_upto_region 1 with (fail)
   obtain ⟨W, hW, extW, bx, by_, hz⟩ := box2 w 28 28 #[.bool s, .slice A n c] #[.bool s, .slice B n d];rw [<- hW];clear hW;replace hx := hx.ext extW;replace hy := hy.ext extW;have x0 := bx.cell 0 (.bool s) rfl;have x1 := bx.cell 1 (.slice A n c) rfl;have y0 := by_.cell 0 (.bool s) rfl;have y1 := by_.cell 1 (.slice B n d) rfl;have hss : (s != s) = false := by simp
   have hnn : ((n : Int) != (n : Int)) = false := by simp
   go_wp2
   clear x0 x1 y0 y1 hss hnn
   go_loopw [5] (fun i V => ∃ k : Nat, i = .int .i64 (k : Int) /\ k <= f /\ Ext W V) (fun i _ => f - (intOf i).toNat)
   case atStart => exact ⟨0, rfl, by omega, Ext.refl _⟩
   case round =>
    obtain ⟨k, rfl, hk, hext⟩ := hrel;have x1 := (bx.ext hext).cell 1 (.slice A n c) rfl;have y1 := (by_.ext hext).cell 1 (.slice B n d) rfl;have hlx : k < xs.length := by rw [Hn.out]; omega
    have hly : k < ys.length := by rw [Hm.out]; omega
    obtain ⟨b1, o1, rfl, hb1, hc1⟩ := (hx.ext hext).at_ hlx;obtain ⟨b2, o2, rfl, hb2, hc2⟩ := (hy.ext hext).at_ hly;have i1 : (k : Int) < (n : Int) := by omega
    by_cases hlt : k < f
    ·have heq := HE.out k hlt hlx hly
     generalize xs[k] = v at hc1 heq;subst heq;have hne : ((ys[k] : Int) != (ys[k] : Int)) = false := by simp
     go_upto_region 6 with (fail)
     go_quiet (fail)
     go_wp2_with fail
     go_roundw
     case rel => exact ⟨k + 1, by go_num, by omega, hext.drewN _⟩
     case measure => simp [intOf]; omega
    ·obtain rfl : k = f := by omega
     have hfd := HF.out hlx hly;generalize xs[k] = v at hc1 hfd;generalize ys[k] = u at hc2 hfd;have hne : ((v : Int) != (u : Int)) = true := by rw [bne_iff_ne]; omega
     clear hfd
     go_upto_region 6 with (fail)
     go_quiet (fail)
     go_wp2_with fail
     go_ret
     exact ⟨rfl, extW.trans (hext.drewN _)⟩
  ·subst hst
   have hss : (s != s) = false := by simp
   have hnn : ((n : Int) != (m : Int)) = true := by rw [bne_iff_ne]; omega
   go_enter Tryz.func81, Tryz.ntmps81
   go_upto_region 1 with (fail)
   obtain ⟨W, hW, extW, bx, by_, hz⟩ := box2 w 28 28 #[.bool s, .slice A n c] #[.bool s, .slice B m d];rw [<- hW];clear hW;have x0 := bx.cell 0 (.bool s) rfl;have x1 := bx.cell 1 (.slice A n c) rfl;have y0 := by_.cell 0 (.bool s) rfl;have y1 := by_.cell 1 (.slice B m d) rfl
   go_wp2_with fail
   go_ret
   exact ⟨rfl, extW⟩
 ·have hss : (s != t) = true := by cases s <;> cases t <;> simp_all
  go_enter Tryz.func81, Tryz.ntmps81
  go_upto_region 1 with (fail)
  obtain ⟨W, hW, extW, bx, by_, hz⟩ := box2 w 28 28 #[.bool s, .slice A n c] #[.bool t, .slice B m d];rw [<- hW];clear hW;have x0 := bx.cell 0 (.bool s) rfl;have x1 := bx.cell 1 (.slice A n c) rfl;have y0 := by_.cell 0 (.bool t) rfl;have y1 := by_.cell 1 (.slice B m d) rfl
  go_wp2_with fail
  go_ret
  exact ⟨rfl, extW⟩
theorem q_Same_neT (h : NR w q L s A n c t B m d) (k : NR w p M s' A' n' c' t' B' m' d') (hne : q.num ≠ p.num) : Calls Tryz.prog 37 #[.agg #[.bool s, .slice A n c, .bool t, .slice B m d], .agg #[.bool s', .slice A' n' c', .bool t', .slice B' m' d']] w fun e w' => e = .returned (.bool false) /\ Ext w w' := by
 have HN := Lib.hid hne;clear hne
 go_enter Tryz.func37, Tryz.ntmps37
 go_upto_region 1 with (fail)
 obtain ⟨W, hW, extW, bx, by_, hz⟩ := box2 w 30 30 #[.bool s, .slice A n c, .bool t, .slice B m d] #[.bool s', .slice A' n' c', .bool t', .slice B' m' d'];rw [<- hW];clear hW;replace h := h.ext extW;replace k := k.ext extW;have x0 := bx.cell 0 (.bool s) rfl;have x1 := bx.cell 1 (.slice A n c) rfl;have x2 := bx.cell 2 (.bool t) rfl;have x3 := bx.cell 3 (.slice B m d) rfl;have y0 := by_.cell 0 (.bool s') rfl;have y1 := by_.cell 1 (.slice A' n' c') rfl;have y2 := by_.cell 2 (.bool t') rfl;have y3 := by_.cell 3 (.slice B' m' d') rfl
 go_wp2_with fail
 refine (q_SameInt_neT h.num k.num HN.out).mono ?_;rintro e wb ⟨rfl, hxb⟩
 go_wp2_with fail
 go_ret
 exact ⟨rfl, extW.trans hxb⟩
theorem q_Same_denT (h : NR w q L s A n c t B m d) (k : NR w p M s' A' n' c' t' B' m' d') (hnum : q.num = p.num) (hden : ((q.den : Nat) : Int) ≠ ((p.den : Nat) : Int)) : Calls Tryz.prog 37 #[.agg #[.bool s, .slice A n c, .bool t, .slice B m d], .agg #[.bool s', .slice A' n' c', .bool t', .slice B' m' d']] w fun e w' => e = .returned (.bool false) /\ Ext w w' := by
 have HN := Lib.hid hnum;have HD := Lib.hid hden;clear hnum hden
 go_enter Tryz.func37, Tryz.ntmps37
 go_upto_region 1 with (fail)
 obtain ⟨W, hW, extW, bx, by_, hz⟩ := box2 w 30 30 #[.bool s, .slice A n c, .bool t, .slice B m d] #[.bool s', .slice A' n' c', .bool t', .slice B' m' d'];rw [<- hW];clear hW;replace h := h.ext extW;replace k := k.ext extW;have x0 := bx.cell 0 (.bool s) rfl;have x1 := bx.cell 1 (.slice A n c) rfl;have x2 := bx.cell 2 (.bool t) rfl;have x3 := bx.cell 3 (.slice B m d) rfl;have y0 := by_.cell 0 (.bool s') rfl;have y1 := by_.cell 1 (.slice A' n' c') rfl;have y2 := by_.cell 2 (.bool t') rfl;have y3 := by_.cell 3 (.slice B' m' d') rfl
 go_wp2_with fail
 have kn := k.num;rw [<- HN.out] at kn;refine (q_SameInt h.num kn).mono ?_;rintro e wb ⟨rfl, hxb⟩;clear kn;replace bx := bx.ext hxb;replace by_ := by_.ext hxb;replace h := h.ext hxb;replace k := k.ext hxb;replace extW := extW.trans hxb;clear hxb x0 x1 x2 x3 y0 y1 y2 y3;have x0 := bx.cell 0 (.bool s) rfl;have x1 := bx.cell 1 (.slice A n c) rfl;have x2 := bx.cell 2 (.bool t) rfl;have x3 := bx.cell 3 (.slice B m d) rfl;have y0 := by_.cell 0 (.bool s') rfl;have y1 := by_.cell 1 (.slice A' n' c') rfl;have y2 := by_.cell 2 (.bool t') rfl;have y3 := by_.cell 3 (.slice B' m' d') rfl
 go_wp2_with fail
 refine (q_SameInt_neT h.den k.den HD.out).mono ?_;rintro e wc ⟨rfl, hxc⟩
 go_wp2_with fail
 go_ret
 exact ⟨rfl, extW.trans hxc⟩
theorem q_SameD (h : NR w q L s A n c t B m d) (k : NR w p M s' A' n' c' t' B' m' d') : Calls Tryz.prog 37 #[.agg #[.bool s, .slice A n c, .bool t, .slice B m d], .agg #[.bool s', .slice A' n' c', .bool t', .slice B' m' d']] w fun e w' => e = .returned (.bool (decide (q = p))) /\ Ext w w' := by
 by_cases hq : q = p
 ·subst hq
  rw [decide_eq_true rfl];exact q_Same h k
 ·rw [decide_eq_false hq]
  by_cases hnum : q.num = p.num
  ·refine q_Same_denT h k hnum (fun e => hq (Rat.ext hnum (by omega)))
  ·exact q_Same_neT h k hnum
end
end
section
open Go.RowKit
attribute [local go_sem ↓] Go.wp_at_zero Go.wp_at_succ
section
variable {w w' : World} {q x : Rat} {L M : Nat} {s t : Bool} {A B : Option Addr} {n c m d : Nat} {sx tx : Bool} {Ax Bx : Option Addr} {nx cx mx dx : Nat} {qs ps : List Rat} {rs : List RawR} {ts us : List (List RawR)}
def rightB (ts : List (List RawR)) (a b c : List RawR) : Bool := fewB4 ts [a, b, c] && (formedB ts [a] && (formedB ts [b] && formedB ts [c]))
theorem fewB4_parts {ts : List (List RawR)} {a b c : List RawR} (h : fewB4 ts [a, b, c] = true) : ts.length <= 4 /\ (∀ l ∈ ts, l.length <= 16 /\ l.all (fun r => r.le 4) = true) /\ (a.length <= 16 /\ a.all (fun r => r.le 4) = true) /\ (b.length <= 16 /\ b.all (fun r => r.le 4) = true) /\ (c.length <= 16 /\ c.all (fun r => r.le 4) = true) := by
 unfold fewB4 fewL at h;rw [Bool.and_eq_true, decide_eq_true_eq, List.all_eq_true] at h
 have hp : ∀ l ∈ ts ++ [a, b, c], l.length <= 16 /\ l.all (fun r => r.le 4) = true := fun l hl => by
  have := h.2 l hl;rw [Bool.and_eq_true, decide_eq_true_eq] at this;exact this
 exact ⟨h.1, fun l hl => hp l (List.mem_append_left _ hl), hp a (by simp), hp b (by simp), hp c (by simp)⟩
theorem RawT.three {g : Nat} {T : TypeId} {D : Option Addr} {l e : Nat} {r1 r2 r3 : List RawR} (hb : Box w g T #[.slice A n c, .slice B m d, .slice D l e]) (h : RawP w A n c r1) (h' : RawP w B m d r2) (h'' : RawP w D l e r3) : RawT w (some ⟨g, 0, .none⟩) 3 3 [r1, r2, r3] :=
 ⟨rfl, Nat.le_refl _, by unfold maxLen; omega, fun _ => ⟨g, 0, rfl, fun i hi => by
  have hi' : i = 0 \/ i = 1 \/ i = 2 := by simp at hi; omega
  rcases hi' with rfl | rfl | rfl
  ·exact ⟨A, n, c, hb.cell 0 _ rfl, h⟩
  ·exact ⟨B, m, d, hb.cell 1 _ rfl, h'⟩
  ·exact ⟨D, l, e, hb.cell 2 _ rfl, h''⟩⟩⟩
theorem p_rightL {A1 A2 A3 : Option Addr} {n1 c1 n2 c2 n3 c3 : Nat} {r1 r2 r3 : List RawR} (h : RawT w A n c ts) (h1 : RawP w A1 n1 c1 r1) (h2 : RawP w A2 n2 c2 r2) (h3 : RawP w A3 n3 c3 r3) :
  Calls Tryz.prog 32 #[.agg #[.slice A n c, .slice A1 n1 c1, .slice A2 n2 c2, .slice A3 n3 c3]] w fun e w' => e = .returned (.bool (rightB ts r1 r2 r3)) /\ Ext w w' := by
 have hsz := World.size_alloc w (.cells #[.slice A n c, .slice A1 n1 c1, .slice A2 n2 c2, .slice A3 n3 c3] 25)
 go_enter Tryz.func32, Tryz.ntmps32
 go_upto_region 1 with (fail)
 obtain ⟨W, hW, EW, bx, hz⟩ := box1 w 25 #[.slice A n c, .slice A1 n1 c1, .slice A2 n2 c2, .slice A3 n3 c3];rw [<- hW];clear hW hz hsz;have hnb := Box.new W 23 #[.slice A1 n1 c1, .slice A2 n2 c2, .slice A3 n3 c3];have e1 := (Ext.refl W).alloc (.cells #[.slice A1 n1 c1, .slice A2 n2 c2, .slice A3 n3 c3] 23);have x0 := bx.cell 0 (.slice A n c) rfl;have x1 := bx.cell 1 (.slice A1 n1 c1) rfl;have x2 := bx.cell 2 (.slice A2 n2 c2) rfl;have x3 := bx.cell 3 (.slice A3 n3 c3) rfl
 go_wp2_with fail
 refine (q_FewT (h.ext (EW.trans e1)) (RawT.three hnb (h1.ext (EW.trans e1)) (h2.ext (EW.trans e1)) (h3.ext (EW.trans e1))) (by omega)).mono ?_;rintro e V ⟨rfl, hx⟩;clear x0 x1 x2 x3 hnb;replace EW := EW.trans (e1.trans hx);replace bx := bx.ext (e1.trans hx);clear e1 hx
 cases hf : fewB4 ts [r1, r2, r3] with
 | false =>
  have HF := Lib.hid hf;clear hf
  go_wp2_with fail
  go_ret
  exact ⟨by unfold rightB; rw [HF.out]; rfl, EW⟩
 | true =>
  obtain ⟨p0, p1, p2, p3, p4⟩ := fewB4_parts hf;have HF := Lib.hid hf;have hn4 : n <= 16 := by rw [<- h.len]; omega
  have hr : ∀ l ∈ ts, l.all (fun r => r.le 1000) = true := fun l hl => le_1000 (p1 l hl).2
  have hrl : ∀ l ∈ ts, l.length <= 100000 := fun l hl => Nat.le_trans (p1 l hl).1 (by omega)
  have q1 := le_1000 p2.2;have q2 := le_1000 p3.2;have q3 := le_1000 p4.2;have m1 : n1 <= 16 := by rw [<- h1.len]; exact p2.1
  have m2 : n2 <= 16 := by rw [<- h2.len]; exact p3.1
  have m3 : n3 <= 16 := by rw [<- h3.len]; exact p4.1
  clear hf p0 p1 p2 p3 p4;have x0 := bx.cell 0 (.slice A n c) rfl;have x1 := bx.cell 1 (.slice A1 n1 c1) rfl
  go_wp2_with fail
  refine (q_FormedT (h.ext EW) (h1.ext EW) hn4 (by omega) hr hrl q1).mono ?_;rintro e V2 ⟨rfl, hx⟩;clear x0 x1;replace EW := EW.trans hx;replace bx := bx.ext hx;clear hx
  cases hf1 : formedB ts [r1] with
  | false =>
   have H1 := Lib.hid hf1;clear hf1
   go_wp2_with fail
   go_ret
   exact ⟨by unfold rightB; rw [HF.out, H1.out]; rfl, EW⟩
  | true =>
   have H1 := Lib.hid hf1;clear hf1;have x0 := bx.cell 0 (.slice A n c) rfl;have x2 := bx.cell 2 (.slice A2 n2 c2) rfl
   go_wp2_with fail
   refine (q_FormedT (h.ext EW) (h2.ext EW) hn4 (by omega) hr hrl q2).mono ?_;rintro e V3 ⟨rfl, hx⟩;clear x0 x2;replace EW := EW.trans hx;replace bx := bx.ext hx;clear hx
   cases hf2 : formedB ts [r2] with
   | false =>
    have H2 := Lib.hid hf2;clear hf2
    go_wp2_with fail
    go_ret
    exact ⟨by unfold rightB; rw [HF.out, H1.out, H2.out]; rfl, EW⟩
   | true =>
    have H2 := Lib.hid hf2;clear hf2;have x0 := bx.cell 0 (.slice A n c) rfl;have x3 := bx.cell 3 (.slice A3 n3 c3) rfl
    go_wp2_with fail
    refine (q_FormedT (h.ext EW) (h3.ext EW) hn4 (by omega) hr hrl q3).mono ?_;rintro e V4 ⟨rfl, hx⟩
    go_wp2_with fail
    go_ret
    exact ⟨by unfold rightB; rw [HF.out, H1.out, H2.out]; rfl, EW.trans hx⟩
end
section
variable {w w' : World} {A A1 A2 A3 : Option Addr} {n c n1 c1 n2 c2 n3 c3 L : Nat} {qs : List Rat} {ts : List (List RawR)} {r1 r2 r3 : List RawR}
theorem formed_bundle (h : RawT w A n c ts) (h1 : RawP w A1 n1 c1 r1) (hf : formedB ts [r1] = true) (l4 : ∀ l ∈ ts, l.all (fun r => r.le L) = true) (k4 : r1.all (fun r => r.le L) = true) :
  PolT w A n c (ts.map fun l => l.map RawR.q) L /\ TowL (ts.map fun l => l.map RawR.q) /\ Pol w A1 n1 c1 (r1.map RawR.q) L /\ n1 = 2 ^ n := by
 unfold formedB at hf;rw [Bool.and_eq_true] at hf;obtain ⟨f1, f2⟩ := hf;have f3 := towerB_at ts 0 f1;simp only [List.all_cons, List.all_nil, Bool.and_true] at f2;obtain ⟨g1, g2⟩ := validL_parts f2;refine ⟨h.polT (fun l hl => ?_) l4, fun i hi => ?_, h1.polV g2 k4, ?_⟩
 ·obtain ⟨i, hi, rfl⟩ := List.getElem_of_mem hl
  exact (validL_parts (f3 i hi)).2
 ·rw [List.length_map] at hi
  rw [List.getElem_map, List.length_map, (validL_parts (f3 i hi)).1, Nat.zero_add]
 ·rw [<- h1.len, g1, h.len]
theorem right_bundle (h : RawT w A n c ts) (h1 : RawP w A1 n1 c1 r1) (h2 : RawP w A2 n2 c2 r2) (h3 : RawP w A3 n3 c3 r3) (hr : rightB ts r1 r2 r3 = true) :
  ∃ T qa qb qc, PolT w A n c T 4 /\ TowL T /\ n <= 4 /\ (Pol w A1 n1 c1 qa 4 /\ n1 = 2 ^ n) /\ (Pol w A2 n2 c2 qb 4 /\ n2 = 2 ^ n) /\ (Pol w A3 n3 c3 qc 4 /\ n3 = 2 ^ n) := by
 unfold rightB at hr;simp only [Bool.and_eq_true] at hr;obtain ⟨f0, f1, f2, f3⟩ := hr;obtain ⟨p0, p1, p2, p3, p4⟩ := fewB4_parts f0;have l4 : ∀ l ∈ ts, l.all (fun r => r.le 4) = true := fun l hl => (p1 l hl).2
 obtain ⟨a1, a2, a3, a4⟩ := formed_bundle h h1 f1 l4 p2.2;obtain ⟨_, _, b3, b4⟩ := formed_bundle h h2 f2 l4 p3.2;obtain ⟨_, _, c3, c4⟩ := formed_bundle h h3 f3 l4 p4.2;exact ⟨_, _, _, _, a1, a2, by rw [<- h.len]; exact p0, ⟨a3, a4⟩, ⟨b3, b4⟩, ⟨c3, c4⟩⟩
end
end
section
open Go.ChangeShapes Go.WideShapes Go.ChangeAt Go.RowKit Go.Joins
section
variable {H : Type} {enc : TypeId × Value -> H} {W : World} {base : Nat} {held : Bool}
set_option maxRecDepth 100000 in
theorem open_case {r : Reach} {b0 : Nat} {v : Value} {d : DataW H} {p : List MemPlace} (hv : Value.okWide Tryz.prog W r b0 25 v) (h : DataW.Trod enc Tryz.prog W base (fun _ => true) held 25 v d p) :
  ∃ A n c A1 n1 c1 A2 n2 c2 A3 n3 c3 ts r1 r2 r3, v = .agg #[.slice A n c, .slice A1 n1 c1, .slice A2 n2 c2, .slice A3 n3 c3] /\ RawT W A n c ts /\ RawP W A1 n1 c1 r1 /\ RawP W A2 n2 c2 r2 /\ RawP W A3 n3 c3 r3 := by
 obtain ⟨v0, v1, v2, v3, y0, y1, y2, y3, n, rfl, _, _, h0, h1, h2, h3⟩ := open_agg4 Tryz.underlying25 (by kernel_rfl) (by kernel_rfl) hv h;obtain ⟨A, n, c, ts, rfl, g⟩ := open_ratss h0;obtain ⟨A1, n1, c1, r1, rfl, g1⟩ := open_ratsc h1;obtain ⟨A2, n2, c2, r2, rfl, g2⟩ := open_ratsc h2;obtain ⟨A3, n3, c3, r3, rfl, g3⟩ := open_ratsc h3;exact ⟨A, n, c, A1, n1, c1, A2, n2, c2, A3, n3, c3, ts, r1, r2, r3, rfl, g, g1, g2, g3⟩
end
end
section
open Go.RowKit
attribute [local go_sem ↓] Go.wp_at_zero Go.wp_at_succ
set_option maxRecDepth 100000 in
theorem rational6_any {w : World} {A A1 A2 A3 : Option Addr} {n c n1 c1 n2 c2 n3 c3 : Nat} {ts : List (List RawR)} {r1 r2 r3 : List RawR} (hA : Awake6) (hT : Tab w) (h : RawT w A n c ts) (h1 : RawP w A1 n1 c1 r1) (h2 : RawP w A2 n2 c2 r2) (h3 : RawP w A3 n3 c3 r3) :
  Calls Tryz.prog 5 #[.agg #[.slice A n c, .slice A1 n1 c1, .slice A2 n2 c2, .slice A3 n3 c3]] w (fun e w' => e = .returned (.bool true) /\ Ext w w') := by
 go_enter Tryz.func5, Tryz.ntmps5
 go_upto_region 1 with (fail)
 obtain ⟨W, hW, EW, bx, hz⟩ := box1 w 25 #[.slice A n c, .slice A1 n1 c1, .slice A2 n2 c2, .slice A3 n3 c3];rw [<- hW];clear hW hz;have HA := Lib.hid hA;clear hA
 go_wp2_with fail
 refine (HA.out _ (hT.ext EW)).mono ?_;rintro e V1 ⟨rfl, hx⟩;replace bx := bx.ext hx;replace EW := EW.trans hx;clear hx;have x0 := bx.cell 0 (.slice A n c) rfl;have x1 := bx.cell 1 (.slice A1 n1 c1) rfl;have x2 := bx.cell 2 (.slice A2 n2 c2) rfl;have x3 := bx.cell 3 (.slice A3 n3 c3) rfl
 go_wp2_with fail
 refine (p_rightL (h.ext EW) (h1.ext EW) (h2.ext EW) (h3.ext EW)).mono ?_;rintro e V2 ⟨rfl, hx⟩;replace bx := bx.ext hx;replace EW := EW.trans hx;clear hx x0 x1 x2 x3
 cases hrb : rightB ts r1 r2 r3 with
 | false =>
  go_wp2_with fail
  refine (HA.out _ (hT.ext EW)).mono ?_;rintro e V3 ⟨rfl, hx⟩
  go_wp2_with fail
  go_ret
  exact ⟨rfl, EW.trans hx⟩
 | true =>
  obtain ⟨T, qa, qb, qc, hp, ht, hn4, ⟨ha, ha2⟩, ⟨hb, hb2⟩, ⟨hc, hc2⟩⟩ := right_bundle h h1 h2 h3 hrb;have HN1 := Lib.hid ha2;have HN2 := Lib.hid hb2;have HN3 := Lib.hid hc2;have hm1 : n1 <= 16 := by rw [ha2]; exact (m_few n (by omega)).2.2.2.2.2.2
  have hm2 : n2 <= 16 := by rw [hb2]; exact (m_few n (by omega)).2.2.2.2.2.2
  have hm3 : n3 <= 16 := by rw [hc2]; exact (m_few n (by omega)).2.2.2.2.2.2
  replace hp := hp.ext EW;replace ha := ha.ext EW;replace hb := hb.ext EW;replace hc := hc.ext EW;clear h h1 h2 h3 hrb ha2 hb2 hc2;have x1 := bx.cell 1 (.slice A1 n1 c1) rfl
  cases ho : ratT qa with
  | none =>
   go_wp2_with fail
   refine (p_RationalT ha (by omega) (by omega)).mono ?_;intro e V3 hret;rw [ho] at hret;obtain ⟨rfl, hx⟩ := hret;clear x1
   go_upto_region 4 with (fail)
   obtain ⟨V4, hV4, ex, by_, hz⟩ := box1 V3 30 #[.bool false, .slice Option.none 0 0, .bool false, .slice Option.none 0 0];rw [<- hV4];generalize V3.heap.size = g3 at by_ ⊢;clear hV4 hz;replace hx := hx.trans ex;replace bx := bx.ext hx;replace ha := ha.ext hx;replace EW := EW.trans hx;clear ex hx;have x1 := bx.cell 1 (.slice A1 n1 c1) rfl
   go_wp2_with fail
   refine (q_RationalT ha (by omega) (by omega)).mono ?_;intro e V5 hret;rw [ho] at hret;obtain ⟨rfl, hx⟩ := hret;clear x1
   go_upto_region 5 with (fail)
   obtain ⟨V6, hV6, ex, bz, hz⟩ := box1 V5 30 #[.bool false, .slice Option.none 0 0, .bool false, .slice Option.none 0 0];rw [<- hV6];generalize V5.heap.size = g5_ at bz ⊢;clear hV6 hz;replace hx := hx.trans ex;replace bx := bx.ext hx;replace by_ := by_.ext hx;replace ha := ha.ext hx;replace EW := EW.trans hx;clear ex hx
   cases hzb : zeroB qa with
   | true =>
    have ES0 := Ext.refl V6;refine wp_region_held_drew (S := Ext V6) (by kernel_rfl) ES0.drew (fun ES => ?_);clear ES0;refine Late.s0 ES (fun hAl hQ => ?_);refine Late.u 0 27 hQ ?_
    try simp only [zP]
    refine Late.u 3 30 hQ ?_
    try simp only [zP]
    refine Late.t 1 28 ?v_2 hQ ?y_2 ?_
    case y_2 => intro w' hSw;have k00 := (bx.ext hSw).c4;have k10 := (by_.ext hSw).c4;have k20 := (bz.ext hSw).c4;go_simp;try rfl
    try simp only [zP]
    refine Late.t 4 31 ?v_3 hQ ?y_3 ?_
    case y_3 => intro w' hSw;have k00 := (bx.ext hSw).c4;have k10 := (by_.ext hSw).c4;have k20 := (bz.ext hSw).c4;go_simp;try rfl
    try simp only [zP]
    refine Late.cl (i := 2) rfl hAl hQ (fun w2 e2 E2 K hK => ?_);go_simp
    (go_at_call 35; refine (p_ZeroT (ha.ext E2) (by omega) (by omega)).mono ?_; rintro e wk2 ⟨rfl, hx2⟩; rw [hzb])
    refine hK.out _ _ hx2 ?_;clear hK K
    try simp only [zP]
    refine Late.cl (i := 5) rfl hAl hQ (fun w5 e5 E5 K hK => ?_);go_simp
    (go_at_call 36; refine (q_ZeroT (ha.ext E5) (by omega)).mono ?_; rintro e wk5 ⟨rfl, hx5⟩; rw [hzb])
    refine hK.out _ _ hx5 ?_;clear hK K
    try simp only [zP]
    refine Late.u 6 33 hQ ?_
    try simp only [zP]
    refine Late.u 7 34 hQ ?_
    try simp only [zP]
    refine Late.u 8 35 hQ ?_
    try simp only [zP]
    refine Late.u 9 36 hQ ?_
    try simp only [zP]
    refine Late.u 10 37 hQ ?_
    try simp only [zP]
    refine Late.u 11 38 hQ ?_
    try simp only [zP]
    refine Late.u 12 39 hQ ?_
    try simp only [zP]
    refine Late.u 13 40 hQ ?_
    try simp only [zP]
    refine Late.u 14 41 hQ ?_
    try simp only [zP]
    refine Late.u 15 42 hQ ?_
    try simp only [zP]
    refine Late.tk (i := 16) (d := some 43) (v := undef) rfl rfl hQ (Or.inr ⟨by kernel_rfl, rfl⟩) ?_
    try simp only [zP]
    refine Late.tk (i := 17) (d := some 44) (v := undef) rfl rfl hQ (Or.inr ⟨by kernel_rfl, rfl⟩) ?_
    try simp only [zP]
    refine Late.tk (i := 18) (d := some 45) (v := undef) rfl rfl hQ (Or.inr ⟨by kernel_rfl, rfl⟩) ?_
    try simp only [zP]
    refine Late.u 19 46 hQ ?_
    try simp only [zP]
    refine Late.u 20 47 hQ ?_
    try simp only [zP]
    refine Late.u 21 2 hQ ?_
    try simp only [zP]
    refine Late.d0 (fun wz ez Ez => ?_);clear hAl hQ ES
    go_wp2_with fail
    go_ret
    exact ⟨rfl, EW.trans Ez⟩
   | false =>
    have ES0 := Ext.refl V6;refine wp_region_held_drew (S := Ext V6) (by kernel_rfl) ES0.drew (fun ES => ?_);clear ES0;refine Late.s0 ES (fun hAl hQ => ?_);refine Late.u 0 27 hQ ?_
    try simp only [zP]
    refine Late.u 3 30 hQ ?_
    try simp only [zP]
    refine Late.t 1 28 ?v_j hQ ?y_j ?_
    case y_j => intro w' hSw;have k00 := (bx.ext hSw).c4;have k10 := (by_.ext hSw).c4;have k20 := (bz.ext hSw).c4;go_simp;try rfl
    try simp only [zP]
    refine Late.t 4 31 ?v_k hQ ?y_k ?_
    case y_k => intro w' hSw;have k00 := (bx.ext hSw).c4;have k10 := (by_.ext hSw).c4;have k20 := (bz.ext hSw).c4;go_simp;try rfl
    try simp only [zP]
    refine Late.cl (i := 2) rfl hAl hQ (fun w2 e2 E2 K hK => ?_);go_simp
    (go_at_call 35; refine (p_ZeroT (ha.ext E2) (by omega) (by omega)).mono ?_; rintro e wk2 ⟨rfl, hx2⟩; rw [hzb])
    refine hK.out _ _ hx2 ?_;clear hK K
    try simp only [zP]
    refine Late.cl (i := 5) rfl hAl hQ (fun w5 e5 E5 K hK => ?_);go_simp
    (go_at_call 36; refine (q_ZeroT (ha.ext E5) (by omega)).mono ?_; rintro e wk5 ⟨rfl, hx5⟩; rw [hzb])
    refine hK.out _ _ hx5 ?_;clear hK K
    try simp only [zP]
    refine Late.u 6 33 hQ ?_
    try simp only [zP]
    refine Late.u 7 34 hQ ?_
    try simp only [zP]
    refine Late.u 8 35 hQ ?_
    try simp only [zP]
    refine Late.u 9 36 hQ ?_
    try simp only [zP]
    refine Late.u 10 37 hQ ?_
    try simp only [zP]
    refine Late.u 11 38 hQ ?_
    try simp only [zP]
    refine Late.u 12 39 hQ ?_
    try simp only [zP]
    refine Late.u 13 40 hQ ?_
    try simp only [zP]
    refine Late.u 14 41 hQ ?_
    try simp only [zP]
    refine Late.u 15 42 hQ ?_
    try simp only [zP]
    refine Late.tk (i := 16) (d := some 43) (v := undef) rfl rfl hQ (Or.inr ⟨by kernel_rfl, rfl⟩) ?_
    try simp only [zP]
    refine Late.tk (i := 17) (d := some 44) (v := undef) rfl rfl hQ (Or.inr ⟨by kernel_rfl, rfl⟩) ?_
    try simp only [zP]
    refine Late.tk (i := 18) (d := some 45) (v := undef) rfl rfl hQ (Or.inr ⟨by kernel_rfl, rfl⟩) ?_
    try simp only [zP]
    refine Late.u 19 46 hQ ?_
    try simp only [zP]
    refine Late.u 20 47 hQ ?_
    try simp only [zP]
    refine Late.u 21 2 hQ ?_
    try simp only [zP]
    refine Late.d0 (fun wz ez Ez => ?_);clear hAl hQ ES
    go_wp2_with fail
    go_ret
    exact ⟨rfl, EW.trans Ez⟩
  | some q =>
   go_wp2_with fail
   refine (p_RationalT ha (by omega) (by omega)).mono ?_;intro e V3 hret;rw [ho] at hret;obtain ⟨s5, B5, m5, d5, t5, C5, l5, e5, rfl, hq, hx⟩ := hret;clear x1
   go_upto_region 4 with (fail)
   obtain ⟨V4, hV4, ex, by_, hz⟩ := box1 V3 30 #[.bool s5, .slice B5 m5 d5, .bool t5, .slice C5 l5 e5];rw [<- hV4];generalize V3.heap.size = g3 at by_ ⊢;clear hV4 hz;replace hq := hq.ext ex;replace hx := hx.trans ex;replace bx := bx.ext hx;replace ha := ha.ext hx;replace EW := EW.trans hx;clear ex hx;have x1 := bx.cell 1 (.slice A1 n1 c1) rfl
   go_wp2_with fail
   refine (q_RationalT ha (by omega) (by omega)).mono ?_;intro e V5 hret;rw [ho] at hret;obtain ⟨s6, B6, m6, d6, t6, C6, l6, e6, rfl, hq2, hx⟩ := hret;clear x1
   go_upto_region 5 with (fail)
   obtain ⟨V6, hV6, ex, bz, hz⟩ := box1 V5 30 #[.bool s6, .slice B6 m6 d6, .bool t6, .slice C6 l6 e6];rw [<- hV6];generalize V5.heap.size = g5_ at bz ⊢;clear hV6 hz;replace hq2 := hq2.ext ex;replace hx := hx.trans ex;replace bx := bx.ext hx;replace by_ := by_.ext hx;replace ha := ha.ext hx;replace hq := hq.ext hx;replace EW := EW.trans hx;clear ex hx
   cases hzb : zeroB qa with
   | true =>
    have ES0 := Ext.refl V6;refine wp_region_held_drew (S := Ext V6) (by kernel_rfl) ES0.drew (fun ES => ?_);clear ES0;refine Late.s0 ES (fun hAl hQ => ?_);refine Late.u 0 27 hQ ?_
    try simp only [zP]
    refine Late.u 3 30 hQ ?_
    try simp only [zP]
    refine Late.t 1 28 ?v_10 hQ ?y_10 ?_
    case y_10 => intro w' hSw;have k00 := (bx.ext hSw).c4;have k10 := (by_.ext hSw).c4;have k20 := (bz.ext hSw).c4;go_simp;try rfl
    try simp only [zP]
    refine Late.t 4 31 ?v_11 hQ ?y_11 ?_
    case y_11 => intro w' hSw;have k00 := (bx.ext hSw).c4;have k10 := (by_.ext hSw).c4;have k20 := (bz.ext hSw).c4;go_simp;try rfl
    try simp only [zP]
    refine Late.cl (i := 2) rfl hAl hQ (fun w2 e2 E2 K hK => ?_);go_simp
    (go_at_call 35; refine (p_ZeroT (ha.ext E2) (by omega) (by omega)).mono ?_; rintro e wk2 ⟨rfl, hx2⟩; rw [hzb])
    refine hK.out _ _ hx2 ?_;clear hK K
    try simp only [zP]
    refine Late.cl (i := 5) rfl hAl hQ (fun w5 e5 E5 K hK => ?_);go_simp
    (go_at_call 36; refine (q_ZeroT (ha.ext E5) (by omega)).mono ?_; rintro e wk5 ⟨rfl, hx5⟩; rw [hzb])
    refine hK.out _ _ hx5 ?_;clear hK K
    try simp only [zP]
    refine Late.u 6 33 hQ ?_
    try simp only [zP]
    refine Late.u 7 34 hQ ?_
    try simp only [zP]
    refine Late.u 8 35 hQ ?_
    try simp only [zP]
    refine Late.u 9 36 hQ ?_
    try simp only [zP]
    refine Late.u 10 37 hQ ?_
    try simp only [zP]
    refine Late.u 11 38 hQ ?_
    try simp only [zP]
    refine Late.u 12 39 hQ ?_
    try simp only [zP]
    refine Late.u 13 40 hQ ?_
    try simp only [zP]
    refine Late.u 14 41 hQ ?_
    try simp only [zP]
    refine Late.u 15 42 hQ ?_
    try simp only [zP]
    refine Late.t 16 43 ?v_1c hQ ?y_1c ?_
    case y_1c => intro w' hSw;have k00 := (bx.ext hSw).c4;have k10 := (by_.ext hSw).c4;have k20 := (bz.ext hSw).c4;go_simp;try rfl
    try simp only [zP]
    refine Late.t 17 44 ?v_1d hQ ?y_1d ?_
    case y_1d => intro w' hSw;have k00 := (bx.ext hSw).c4;have k10 := (by_.ext hSw).c4;have k20 := (bz.ext hSw).c4;go_simp;try rfl
    try simp only [zP]
    refine Late.cl (i := 18) rfl hAl hQ (fun w18 e18 E18 K hK => ?_);go_simp
    (go_at_call 37; refine (q_SameD (hq.ext E18) (hq2.ext E18)).mono ?_; rintro e wk18 ⟨rfl, hx18⟩; rw [decide_eq_true (rfl : q = q)])
    refine hK.out _ _ hx18 ?_;clear hK K
    try simp only [zP]
    refine Late.u 19 46 hQ ?_
    try simp only [zP]
    refine Late.u 20 47 hQ ?_
    try simp only [zP]
    refine Late.u 21 2 hQ ?_
    try simp only [zP]
    refine Late.d0 (fun wz ez Ez => ?_);clear hAl hQ ES
    go_wp2_with fail
    go_ret
    exact ⟨rfl, EW.trans Ez⟩
   | false =>
    have ES0 := Ext.refl V6;refine wp_region_held_drew (S := Ext V6) (by kernel_rfl) ES0.drew (fun ES => ?_);clear ES0;refine Late.s0 ES (fun hAl hQ => ?_);refine Late.u 0 27 hQ ?_
    try simp only [zP]
    refine Late.u 3 30 hQ ?_
    try simp only [zP]
    refine Late.t 1 28 ?v_1j hQ ?y_1j ?_
    case y_1j => intro w' hSw;have k00 := (bx.ext hSw).c4;have k10 := (by_.ext hSw).c4;have k20 := (bz.ext hSw).c4;go_simp;try rfl
    try simp only [zP]
    refine Late.t 4 31 ?v_1k hQ ?y_1k ?_
    case y_1k => intro w' hSw;have k00 := (bx.ext hSw).c4;have k10 := (by_.ext hSw).c4;have k20 := (bz.ext hSw).c4;go_simp;try rfl
    try simp only [zP]
    refine Late.cl (i := 2) rfl hAl hQ (fun w2 e2 E2 K hK => ?_);go_simp
    (go_at_call 35; refine (p_ZeroT (ha.ext E2) (by omega) (by omega)).mono ?_; rintro e wk2 ⟨rfl, hx2⟩; rw [hzb])
    refine hK.out _ _ hx2 ?_;clear hK K
    try simp only [zP]
    refine Late.cl (i := 5) rfl hAl hQ (fun w5 e5 E5 K hK => ?_);go_simp
    (go_at_call 36; refine (q_ZeroT (ha.ext E5) (by omega)).mono ?_; rintro e wk5 ⟨rfl, hx5⟩; rw [hzb])
    refine hK.out _ _ hx5 ?_;clear hK K
    try simp only [zP]
    refine Late.u 6 33 hQ ?_
    try simp only [zP]
    refine Late.u 7 34 hQ ?_
    try simp only [zP]
    refine Late.u 8 35 hQ ?_
    try simp only [zP]
    refine Late.u 9 36 hQ ?_
    try simp only [zP]
    refine Late.u 10 37 hQ ?_
    try simp only [zP]
    refine Late.u 11 38 hQ ?_
    try simp only [zP]
    refine Late.u 12 39 hQ ?_
    try simp only [zP]
    refine Late.u 13 40 hQ ?_
    try simp only [zP]
    refine Late.u 14 41 hQ ?_
    try simp only [zP]
    refine Late.u 15 42 hQ ?_
    try simp only [zP]
    refine Late.t 16 43 ?v_1v hQ ?y_1v ?_
    case y_1v => intro w' hSw;have k00 := (bx.ext hSw).c4;have k10 := (by_.ext hSw).c4;have k20 := (bz.ext hSw).c4;go_simp;try rfl
    try simp only [zP]
    refine Late.t 17 44 ?v_1w hQ ?y_1w ?_
    case y_1w => intro w' hSw;have k00 := (bx.ext hSw).c4;have k10 := (by_.ext hSw).c4;have k20 := (bz.ext hSw).c4;go_simp;try rfl
    try simp only [zP]
    refine Late.cl (i := 18) rfl hAl hQ (fun w18 e18 E18 K hK => ?_);go_simp
    (go_at_call 37; refine (q_SameD (hq.ext E18) (hq2.ext E18)).mono ?_; rintro e wk18 ⟨rfl, hx18⟩; rw [decide_eq_true (rfl : q = q)])
    refine hK.out _ _ hx18 ?_;clear hK K
    try simp only [zP]
    refine Late.u 19 46 hQ ?_
    try simp only [zP]
    refine Late.u 20 47 hQ ?_
    try simp only [zP]
    refine Late.u 21 2 hQ ?_
    try simp only [zP]
    refine Late.d0 (fun wz ez Ez => ?_);clear hAl hQ ES
    go_wp2_with fail
    go_ret
    exact ⟨rfl, EW.trans Ez⟩
end
section
open Go.ChangeShapes Go.WideShapes Go.ChangeAt Go.RowKit Go.Joins
set_option maxRecDepth 100000
theorem rational6_lifted (os : Os) (started : os.Started) (H : Type) (enc : TypeId × Value -> H) :
  ReturnsInHanded {} Tryz.checked os 5 .any (fun w args => (Rows.towerRationalSpec.pre enc Tryz.prog Tryz.f5 [] false w args /\ laidMetH Tryz.prog laidI w) /\ sizedMet enc Tryz.prog Tryz.f5 (OpenSpec.ofChange Rows.towerRationalSpec) false w args)
   (Rows.towerRationalSpec.post enc Tryz.prog Tryz.f5 false true false false) := by
 refine returnsInHanded_of_change_and (C := Tryz.checked) (X := fun w _ => laidMetH Tryz.prog laidI w) (fun _ _ _ hh h => h.of_heap hh) Tryz.own started (by kernel_rfl) Tryz.func5
  (ChangeSpec.witness_shaped (enc := enc) (C := Tryz.checked) (os := os) (X := fun w _ => laidMetH Tryz.prog laidI w) false (World.doorLaid Tryz.prog 400 os) #[Value.agg #[Value.slice none 0 0, Value.slice none 0 0, Value.slice none 0 0, Value.slice none 0 0]] 8 rfl (World.shaped_of_RefB (by kernel_rfl) (by kernel_rfl)) (by kernel_rfl) (by kernel_rfl) (by kernel_rfl) (doorI_met os _)) ?_
 intro W base args ds gs before hval0 hW _ _ hL _;have hval : ∀ (j : Nat) t v, Tryz.f5.params[j]? = some t -> args[j]? = some v -> Value.okWide Tryz.prog W .any base t v := hval0;have hW' := hW;have hlt : ∀ p ∈ before, p.block < W.heap.size := fun p hp => hW.lt p hp
 obtain ⟨p, q, hA0, hV, rfl, _, _⟩ := hW;have hA : DataW.TrodAll enc Tryz.prog W 0 (fun _ => true) true Tryz.f5.params.toList args.toList ds p := hA0;rw [Tryz.params5] at hA hval;obtain ⟨v0, d0, rfl, rfl, h0⟩ := trodAll_one hA;obtain ⟨rfl, rfl⟩ := trodVars_none hV;simp only [List.append_nil] at hW' hlt;obtain ⟨A, n, c, A1, n1, c1, A2, n2, c2, A3, n3, c3, ts, r1, r2, r3, rfl, hr0, hr1, hr2, hr3⟩ := open_case (hval 0 25 v0 rfl rfl) h0;clear hA0 hval0;have hT := tab_of_laidH hL;refine (rational6_any awake6 hT hr0 hr1 hr2 hr3).mono fun e W' ⟨he, hext⟩ => ?_
 subst he;have hb : Below W.heap.size W W' := hext;have g0 := Below.trod Tryz.laidOut (by kernel_rfl) (of_decide_eq_true (by kernel_rfl)) h0 hb (fun p hp => hlt p hp);exact ⟨_, rfl, _, _, _, [], p, [], hW', trodAll_mk1 (shut_bool Tryz.underlying4 true), trodAll_mk1 g0, rfl, Below.frame hb _, fun h => by cases h⟩
theorem rational6_row_holds : Rows.TowerRationalSaid :=
 OpenClaim.holds_of_wide 5 Tryz.f5 rfl rfl rfl rfl rfl rfl rfl ⟨rfl, rfl, rfl, rfl, rfl⟩ rfl rfl rfl rfl rfl (by kernel_rfl) Tryz.func5 (by kernel_rfl)
  (of_decide_eq_true (by kernel_rfl)) (by unfold Func.isWrapper; first | (rw [if_neg (of_decide_eq_false (by kernel_rfl))]; exact ⟨rfl, rfl⟩) | (rw [if_pos (by decide +kernel)]; kernel_rfl))
  (fun os started H enc _ => rational6_lifted os started H enc)
theorem rational6_holds : Rows.TowerRationalCardSaid :=
 Claim7.holds_tied_plain_at .later [] [.data] true Rows.towerRationalCard.stood.harness false
  rational6_row_holds (fun _ h => by cases h) (by kernel_rfl) (fun _ h => by cases h) towerRational_row_tie rfl ⟨rfl, rfl⟩ (by kernel_rfl) rfl
  (fun f fn hf hfn => by
   obtain rfl : f = 5 := Option.some.inj ((show Tryz.prog.funcNamed "setsquare/setsquarelaw06.TowerRational" = some 5 by kernel_rfl).symm.trans hf) |>.symm;obtain rfl : fn = Tryz.f5 := (Option.some.inj (Tryz.func5.symm.trans hfn)).symm
   exact ⟨by kernel_rfl, fun j t ht => by
    rw [Tryz.params5] at ht;have hm : t ∈ [25] := by simpa using Array.mem_of_getElem? ht
    have hall : ([25].all fun u => !Tryz.prog.wantsStandIn u) = true := by kernel_rfl
    exact (show Tryz.prog.wantsStandIn t = false by simpa using List.all_eq_true.1 hall t hm)⟩)
  (by kernel_rfl)
end
end Go.Proofs.YtgagcochepnelaaGreatDoor
