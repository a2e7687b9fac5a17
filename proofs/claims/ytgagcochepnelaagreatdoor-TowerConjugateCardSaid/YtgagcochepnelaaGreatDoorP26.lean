/- Walks and laws, a part. -/
import Derived.Test.YtgagcochepnelaaGreatDoorP0
import Derived.Test.YtgagcochepnelaaGreatDoorP1
import Derived.Test.YtgagcochepnelaaGreatDoorP2
import Derived.Test.YtgagcochepnelaaGreatDoorP3
import Derived.Test.YtgagcochepnelaaGreatDoorP4
import Derived.Test.YtgagcochepnelaaGreatDoorP5
import Derived.Test.YtgagcochepnelaaGreatDoorP6
import Derived.Test.YtgagcochepnelaaGreatDoorP7
import Derived.Test.YtgagcochepnelaaGreatDoorP8
import Derived.Test.YtgagcochepnelaaGreatDoorP9
import Derived.Test.YtgagcochepnelaaGreatDoorP10
import Derived.Test.YtgagcochepnelaaGreatDoorP11
import Derived.Test.YtgagcochepnelaaGreatDoorP12
import Derived.Test.YtgagcochepnelaaGreatDoorP13
import Derived.Test.YtgagcochepnelaaGreatDoorP25
set_option linter.unusedSimpArgs false
set_option linter.unusedVariables false
set_option maxHeartbeats 64000000
namespace Go.Proofs.YtgagcochepnelaaGreatDoor
open Go.RowKit
attribute [local go_sem ↓] Go.wp_at_zero Go.wp_at_succ
section
variable {w w' : World} {z y : Int} {q p : Rat} {L M : Nat} {s t s' t' : Bool} {A B A' B' : Option Addr} {n c m d n' c' m' d' : Nat}
theorem rat_add_ones {q p : Rat} (h1 : (q.den : Int) = 1) (h2 : (p.den : Int) = 1) : (q + p).num = q.num + p.num /\ ((q + p).den : Int) = (q.den : Int) := by
 have e1 : q.den = 1 := by omega
 have e2 : p.den = 1 := by omega
 have h := rat_add_one h1 h2;rw [<- h, e1];exact ⟨rfl, rfl⟩
theorem rat_add_cop {q p : Rat} (h : Nat.gcd q.den p.den = 1) : (q + p).num = q.num * (p.den : Int) + p.num * (q.den : Int) /\ ((q + p).den : Int) = (q.den : Int) * (p.den : Int) := by
 obtain ⟨a, b, _, _⟩ := rat_add q p (g := 1) (D1 := q.den) (D2 := p.den) (S := q.num * (p.den : Int) + p.num * (q.den : Int)) (r := 1) h.symm (by simp) (by simp) rfl (by simp);rw [a, b];simp
set_option maxRecDepth 100000 in
theorem q_AddR (h : NR w q L s A n c t B m d) (k : NR w p M s' A' n' c' t' B' m' d') (hL : L <= 1000) (hM : M <= 1000) : Calls Tryz.prog 84 #[.agg #[.bool s, .slice A n c, .bool t, .slice B m d], .agg #[.bool s', .slice A' n' c', .bool t', .slice B' m' d']] w (RetNR (q + p) (L + M + 1) w) := by
 have hL1 := h.pos;have hM1 := k.pos
 go_enter Tryz.func84, Tryz.ntmps84
 go_upto_region 1 with (fail)
 obtain ⟨W, hW, extW, bx, by_, bz, hz⟩ := box3 w 30 30 30 #[.bool s, .slice A n c, .bool t, .slice B m d] #[.bool s', .slice A' n' c', .bool t', .slice B' m' d'] #[Value.bool false, Value.slice none 0 0, Value.bool false, Value.slice none 0 0];rw [<- hW];clear hW;replace h := h.ext extW;replace k := k.ext extW;have hz1 := h.num.zero;have hz2 := k.num.zero
 by_cases hq0 : q.num = 0
 ·have hn2 : ((n : Int) == 0) = true := by rw [beq_iff_eq]; have := hz1.2 hq0; omega
  have hqp : q + p = p := by rw [Rat.num_eq_zero.1 hq0, Rat.zero_add]
  clear hz1 hz2 hq0;have hE := Ext.refl W;have x0 := bx.cell 0 (.bool s) rfl;have x1 := bx.cell 1 (.slice A n c) rfl;have x2 := bx.cell 2 (.bool t) rfl;have x3 := bx.cell 3 (.slice B m d) rfl;have y0 := by_.cell 0 (.bool s') rfl;have y1 := by_.cell 1 (.slice A' n' c') rfl;have y2 := by_.cell 2 (.bool t') rfl;have y3 := by_.cell 3 (.slice B' m' d') rfl;have z0 := (bz.ext hE).cell 0 _ rfl;have z1 := (bz.ext hE).cell 1 _ rfl;have z2 := (bz.ext hE).cell 2 _ rfl;have z3 := (bz.ext hE).cell 3 _ rfl;have f0 := (bz.ext hE).frozen 0;have f1 := (bz.ext hE).frozen 1;have f2 := (bz.ext hE).frozen 2;have f3 := (bz.ext hE).frozen 3
  go_wp2_with fail
  obtain ⟨b1, b2, b3, b4⟩ := fin_quad (s := s') (A := A') (n := n') (c := c') (t := t') (B := B') (m := m') (d := d') (bz.ext hE);have r0 := b1.cell 0 (.bool s') rfl;have r1 := b1.cell 1 (.slice A' n' c') rfl;have r2 := b1.cell 2 (.bool t') rfl;have r3 := b1.cell 3 (.slice B' m' d') rfl;unfold set4 at r0 r1 r2 r3;refine bodyPost_ret (v := .agg #[.bool s', .slice A' n' c', .bool t', .slice B' m' d']) (by simp [results, Tryz.results84, go_sem, r0, r1, r2, r3]) rfl ⟨s', A', n', c', t', B', m', d', rfl, ⟨?_, ?_⟩, b3 _ (extW.trans hE) (by omega)⟩
  ·rw [hqp]; exact (b2 _ _ _ _ _ _ k.num).le (by omega)
  ·rw [hqp]; exact (b2 _ _ _ _ _ _ k.den).le (by omega)
 ·have hn2 : ((n : Int) == 0) = false := by rw [beq_eq_false_iff_ne]; intro h0; exact hq0 (hz1.1 (by omega))
  by_cases hp0 : p.num = 0
  ·have hm2 : ((n' : Int) == 0) = true := by rw [beq_iff_eq]; have := hz2.2 hp0; omega
   have hqp : q + p = q := by rw [Rat.num_eq_zero.1 hp0, Rat.add_zero]
   clear hz1 hz2 hq0 hp0;have hE := Ext.refl W;have x0 := bx.cell 0 (.bool s) rfl;have x1 := bx.cell 1 (.slice A n c) rfl;have x2 := bx.cell 2 (.bool t) rfl;have x3 := bx.cell 3 (.slice B m d) rfl;have y0 := by_.cell 0 (.bool s') rfl;have y1 := by_.cell 1 (.slice A' n' c') rfl;have y2 := by_.cell 2 (.bool t') rfl;have y3 := by_.cell 3 (.slice B' m' d') rfl;have z0 := (bz.ext hE).cell 0 _ rfl;have z1 := (bz.ext hE).cell 1 _ rfl;have z2 := (bz.ext hE).cell 2 _ rfl;have z3 := (bz.ext hE).cell 3 _ rfl;have f0 := (bz.ext hE).frozen 0;have f1 := (bz.ext hE).frozen 1;have f2 := (bz.ext hE).frozen 2;have f3 := (bz.ext hE).frozen 3
   go_wp2_with fail
   obtain ⟨b1, b2, b3, b4⟩ := fin_quad (s := s) (A := A) (n := n) (c := c) (t := t) (B := B) (m := m) (d := d) (bz.ext hE);have r0 := b1.cell 0 (.bool s) rfl;have r1 := b1.cell 1 (.slice A n c) rfl;have r2 := b1.cell 2 (.bool t) rfl;have r3 := b1.cell 3 (.slice B m d) rfl;unfold set4 at r0 r1 r2 r3;refine bodyPost_ret (v := .agg #[.bool s, .slice A n c, .bool t, .slice B m d]) (by simp [results, Tryz.results84, go_sem, r0, r1, r2, r3]) rfl ⟨s, A, n, c, t, B, m, d, rfl, ⟨?_, ?_⟩, b3 _ (extW.trans hE) (by omega)⟩
   ·rw [hqp]; exact (b2 _ _ _ _ _ _ h.num).le (by omega)
   ·rw [hqp]; exact (b2 _ _ _ _ _ _ h.den).le (by omega)
  ·have hm2 : ((n' : Int) == 0) = false := by rw [beq_eq_false_iff_ne]; intro h0; exact hp0 (hz2.1 (by omega))
   clear hz1 hz2 hq0 hp0;have x1 := bx.cell 1 (.slice A n c) rfl;have y1 := by_.cell 1 (.slice A' n' c') rfl
   go_upto_region 5 with (fail)
   clear x1 y1;have x0 := bx.cell 0 (.bool s) rfl;have x1 := bx.cell 1 (.slice A n c) rfl;have x2 := bx.cell 2 (.bool t) rfl;have x3 := bx.cell 3 (.slice B m d) rfl
   go_wp2_with fail
   refine (q_one h.den).mono ?_;rintro e wb ⟨rfl, hxb⟩;replace bx := bx.ext hxb;replace by_ := by_.ext hxb;replace bz := bz.ext hxb;replace h := h.ext hxb;replace k := k.ext hxb;replace extW := extW.trans hxb;clear hxb;clear x0 x1 x2 x3
   by_cases h1 : (q.den : Int) = 1
   case' neg =>
    rw [decide_eq_false h1]
    clear h1
   case' pos =>
    rw [decide_eq_true h1]
    have H1 := Lib.hid h1;clear h1;have y2 := by_.cell 2 (.bool t') rfl;have y3 := by_.cell 3 (.slice B' m' d') rfl
    go_wp2_with fail
    refine (q_one k.den).mono ?_;rintro e wb ⟨rfl, hxc⟩;replace bx := bx.ext hxc;replace by_ := by_.ext hxc;replace bz := bz.ext hxc;replace h := h.ext hxc;replace k := k.ext hxc;replace extW := extW.trans hxc;clear hxc y2 y3
    by_cases h2 : (p.den : Int) = 1
    ·rw [decide_eq_true h2]
     have H2 := Lib.hid h2;clear h2
     go_wp2_with fail
     refine wpL.st 8 (fun hQ ES => ?_);refine wpL.u 0 31 hQ ES ?_
     try simp only [zP]
     refine wpL.u 2 33 hQ ES ?_
     try simp only [zP]
     refine wpL.u 5 36 hQ ES ?_
     try simp only [zP]
     refine wpL.t 1 32 ?v_3 hQ ?y_3 ES ?_
     case y_3 => intro w' hSw;have k00 := (bx.ext hSw).c4;have k10 := (by_.ext hSw).c4;go_simp;try rfl
     try simp only [zP]
     refine wpL.t 3 34 ?v_4 hQ ?y_4 ES ?_
     case y_4 => intro w' hSw;have k00 := (bx.ext hSw).c4;have k10 := (by_.ext hSw).c4;go_simp;try rfl
     try simp only [zP]
     refine wpL.t 6 37 ?v_5 hQ ?y_5 ES ?_
     case y_5 => intro w' hSw;have k00 := (bx.ext hSw).c4;have k10 := (by_.ext hSw).c4;go_simp;try rfl
     try simp only [zP]
     refine wpL.cl (i := 4) rfl (fun K hK => ?_);go_simp
     (go_at_call 122; refine (q_Add (h.num.ext ES) (k.num.ext ES) (by omega) (by omega)).mono ?_; rintro e wk1 ⟨s5, A5, n5, c5, rfl, h5, hx0⟩; have E0_6 := Ext.trans ES hx0)
     refine hK.out _ _ E0_6 ?_;clear hK K
     try simp only [zP]
     refine wpL.u 7 38 hQ E0_6 ?_
     try simp only [zP]
     have z0 := (bz.ext E0_6).cell 0 _ rfl;have z1 := (bz.ext E0_6).cell 1 _ rfl;have z2 := (bz.ext E0_6).cell 2 _ rfl;have z3 := (bz.ext E0_6).cell 3 _ rfl;have f0 := (bz.ext E0_6).frozen 0;have f1 := (bz.ext E0_6).frozen 1;have f2 := (bz.ext E0_6).frozen 2;have f3 := (bz.ext E0_6).frozen 3;refine wpL.tl (i := 8) rfl (fun K hK => ?_);go_simp;refine hK.out _ _ ?_;clear hK K
     try simp only [zP]
     refine wpL.done (by kernel_rfl) ?_ _;clear hQ
     go_wp2_with fail
     obtain ⟨e5, e6⟩ := rat_add_ones H1.out H2.out;obtain ⟨b1, b2, b3, b4⟩ := fin_quad (s := s5) (A := A5) (n := n5) (c := c5) (t := t) (B := B) (m := m) (d := d) (bz.ext E0_6);have r0 := b1.cell 0 (.bool s5) rfl;have r1 := b1.cell 1 (.slice A5 n5 c5) rfl;have r2 := b1.cell 2 (.bool t) rfl;have r3 := b1.cell 3 (.slice B m d) rfl;unfold set4 at r0 r1 r2 r3;refine bodyPost_ret (v := .agg #[.bool s5, .slice A5 n5 c5, .bool t, .slice B m d]) (by simp [results, Tryz.results84, go_sem, r0, r1, r2, r3]) rfl ⟨s5, A5, n5, c5, t, B, m, d, rfl, ⟨?_, ?_⟩, b3 _ (extW.trans E0_6) (by omega)⟩
     ·rw [e5]; exact (b2 _ _ _ _ _ _ h5).le (by omega)
     ·rw [e6]; exact (b2 _ _ _ _ _ _ (h.den.ext E0_6)).le (by omega)
    rw [decide_eq_false h2]
    clear h2
   all_goals
    have x0 := bx.cell 0 (.bool s) rfl;have x1 := bx.cell 1 (.slice A n c) rfl;have x2 := bx.cell 2 (.bool t) rfl;have x3 := bx.cell 3 (.slice B m d) rfl;have y0 := by_.cell 0 (.bool s') rfl;have y1 := by_.cell 1 (.slice A' n' c') rfl;have y2 := by_.cell 2 (.bool t') rfl;have y3 := by_.cell 3 (.slice B' m' d') rfl
    go_wp2_with fail
    refine (q_GCD h.den k.den (by omega) (by omega)).mono ?_;rintro e we ⟨s1, A1, n1, c1', rfl, hg, hxe⟩;rw [Int.natAbs_natCast, Int.natAbs_natCast] at hg;obtain ⟨g, hge⟩ : ∃ g, Nat.gcd q.den p.den = g := ⟨_, rfl⟩;rw [hge] at hg;have hgq : g ∣ q.den := by rw [<- hge]; exact Nat.gcd_dvd_left _ _
    have hgp : g ∣ p.den := by rw [<- hge]; exact Nat.gcd_dvd_right _ _
    have hg0 : (g : Int) ≠ 0 := by
     intro h0;have : g = 0 := by omega
     rw [this] at hgq;have := Nat.eq_zero_of_zero_dvd hgq;exact q.den_nz this
    have Hge := Lib.hid hge.symm;have Hg0 := Lib.hid hg0;have Hgq := Lib.hid (Int.ofNat_dvd.2 hgq);have Hgp := Lib.hid (Int.ofNat_dvd.2 hgp);clear hge hg0 hgq hgp;clear x0 x1 x2 x3;clear y0 y1 y2 y3
    go_upto_region 8 with (fail)
    refine at_world (fun V8 => Ext wb V8 /\ Box V8 we.heap.size 28 #[.bool s1, .slice A1 n1 c1'] /\ NI V8 (g : Int) (max L M) s1 A1 n1 c1') ⟨hxe.alloc _, Box.new we _ _, hg.ext ((Ext.refl we).alloc _)⟩ ?_;generalize we.heap.size = g8;clear hxe hg;rintro V8 ⟨EV, b8, hg⟩;replace bx := bx.ext EV;replace by_ := by_.ext EV;replace bz := bz.ext EV;replace h := h.ext EV;replace k := k.ext EV;replace extW := extW.trans EV;clear EV;have j0 := b8.cell 0 (.bool s1) rfl;have j1 := b8.cell 1 (.slice A1 n1 c1') rfl
    go_wp2_with fail
    refine (q_one hg).mono ?_;rintro e V7 ⟨rfl, hx7'⟩;replace bx := bx.ext hx7';replace by_ := by_.ext hx7';replace bz := bz.ext hx7';replace b8 := b8.ext hx7';replace h := h.ext hx7';replace k := k.ext hx7';replace hg := hg.ext hx7';replace extW := extW.trans hx7';clear hx7' j0 j1
    by_cases h1g : (g : Int) = 1
    ·rw [decide_eq_true h1g]
     have Hg1 := Lib.hid (show Nat.gcd q.den p.den = 1 by rw [<- Hge.out]; omega);clear h1g
     go_wp2_with fail
     have ES0 := Ext.refl V7;refine wp_region_held_drew (S := Ext V7) (by kernel_rfl) ES0.drew (fun ES => ?_);clear ES0;refine Late.start1 (x := ⟨11, 6, 28, #[Value.bool false, Value.slice none 0 0]⟩) (n := 12) ⟨_, rfl, rfl, rfl, fun a w => by go_simp⟩ (fun _ _ _ _ _ => ⟨fun h => h, fun h => h⟩) ES rfl (fun hAl hQ => ?_);refine Late.t 0 46 ?_ hQ ?_ ?_;rotate_left
     ·intro w' hSw;go_simp;try rfl
     try simp only [zP]
     refine Late.t 2 48 ?_ hQ ?_ ?_;rotate_left
     ·intro w' hSw;go_simp;try rfl
     try simp only [zP]
     refine Late.t 5 51 ?_ hQ ?_ ?_;rotate_left
     ·intro w' hSw;go_simp;try rfl
     try simp only [zP]
     refine Late.t 7 53 ?_ hQ ?_ ?_;rotate_left
     ·intro w' hSw;go_simp;try rfl
     try simp only [zP]
     refine Late.t 1 47 ?_ hQ ?_ ?_;rotate_left
     ·intro w' hSw;have k00 := (bx.ext hSw).c4;have k10 := (by_.ext hSw).c4;go_simp;try rfl
     try simp only [zP]
     refine Late.t 3 49 ?_ hQ ?_ ?_;rotate_left
     ·intro w' hSw;have k00 := (bx.ext hSw).c4;have k10 := (by_.ext hSw).c4;go_simp;try rfl
     try simp only [zP]
     refine Late.t 6 52 ?_ hQ ?_ ?_;rotate_left
     ·intro w' hSw;have k00 := (bx.ext hSw).c4;have k10 := (by_.ext hSw).c4;go_simp;try rfl
     try simp only [zP]
     refine Late.t 8 54 ?_ hQ ?_ ?_;rotate_left
     ·intro w' hSw;have k00 := (bx.ext hSw).c4;have k10 := (by_.ext hSw).c4;go_simp;try rfl
     try simp only [zP]
     refine Late.cl (i := 4) rfl hAl hQ (fun w4 e4 E4 K hK => ?_);go_simp
     (go_at_call 123; refine (q_Mul (h.num.ext E4) (k.den.ext E4) (by omega) (by omega)).mono ?_; rintro e wk2 ⟨s2, A2, n2, c2, rfl, h2, hx4⟩)
     refine hK.out _ _ hx4 ?_;clear hK K
     try simp only [zP]
     refine Late.cl (i := 9) rfl hAl hQ (fun w9 e9 E9 K hK => ?_);go_simp
     (go_at_call 123; refine (q_Mul (k.num.ext E9) (h.den.ext E9) (by omega) (by omega)).mono ?_; rintro e wk3 ⟨s3, A3, n3, c3, rfl, h3, hx9⟩)
     refine hK.out _ _ hx9 ?_;clear hK K
     try simp only [zP]
     refine Late.cl (i := 10) rfl hAl hQ (fun w10 e10 E10 K hK => ?_);go_simp
     (go_at_call 122; refine (q_Add (h2.ext (e9.trans (hx9.trans e10))) (h3.ext e10) (by omega) (by omega)).mono ?_; rintro e wk4 ⟨s4, A4, n4, c4, rfl, h4, hx10⟩)
     refine hK.out _ _ hx10 ?_;clear hK K
     try simp only [zP]
     refine Late.finish1 (hAl _ (by simp)) (by kernel_rfl) (fun wz g10 ez Ez lg5 xb1 => ?_);clear hAl hQ ES;have f10 := xb1.cell 0 (Value.bool false) rfl;have f11 := xb1.cell 1 (Value.slice none 0 0) rfl;have f12 := xb1.frozen 0;have f13 := xb1.frozen 1;have e4 := fin_dual (s := s4) (A := A4) (n := n4) (c := c4) xb1
     try simp only [zP]
     refine wpAnyH_ready (rs := [12]) (by kernel_rfl) (by simp) (AllReadyH.cons rfl (fun K hK => ?_) AllReadyH.nil);go_simp;refine hK.out _ _ (e4.2.2.1 _ Ez lg5) (fun _ => ?_);clear hK K
     try simp only [zP]
     refine any_world (fun U => Ext V7 U /\ Box U g10 28 #[.bool s4, .slice A4 n4 c4] /\ NI U (q.num * (p.den : Int) + p.num * (q.den : Int)) (L + M + 1) s4 A4 n4 c4) ⟨e4.2.2.1 _ Ez lg5, e4.1, (e4.2.1 _ _ _ _ _ _ (h4.ext ez)).le (by omega)⟩ ?_;clear e4 f10 f11 f12 f13 xb1 lg5;rintro U ⟨EU, b10, hS⟩;refine wpAnyH_done (by kernel_rfl) ?_ _;replace bx := bx.ext EU;replace by_ := by_.ext EU;replace bz := bz.ext EU;replace h := h.ext EU;replace k := k.ext EU;replace extW := extW.trans EU;clear EU Ez ez
     go_wp2_with fail
     refine wpL.st 7 (fun hQ ES => ?_);refine wpL.t 0 57 ?_ hQ ?_ ES ?_;rotate_left
     ·intro w' hSw;have k00 := (b10.ext hSw).c2;have k10 := (bx.ext hSw).c4;have k20 := (by_.ext hSw).c4;go_simp;try rfl
     try simp only [zP]
     refine wpL.t 1 58 ?_ hQ ?_ ES ?_;rotate_left
     ·intro w' hSw;go_simp;try rfl
     try simp only [zP]
     refine wpL.t 3 60 ?_ hQ ?_ ES ?_;rotate_left
     ·intro w' hSw;go_simp;try rfl
     try simp only [zP]
     refine wpL.t 2 59 ?_ hQ ?_ ES ?_;rotate_left
     ·intro w' hSw;have k00 := (b10.ext hSw).c2;have k10 := (bx.ext hSw).c4;have k20 := (by_.ext hSw).c4;go_simp;try rfl
     try simp only [zP]
     refine wpL.t 4 61 ?_ hQ ?_ ES ?_;rotate_left
     ·intro w' hSw;have k00 := (b10.ext hSw).c2;have k10 := (bx.ext hSw).c4;have k20 := (by_.ext hSw).c4;go_simp;try rfl
     try simp only [zP]
     refine wpL.cl (i := 5) rfl (fun K hK => ?_);go_simp
     (go_at_call 123; refine (q_Mul (h.den.ext ES) (k.den.ext ES) (by omega) (by omega)).mono ?_; rintro e wk1 ⟨s5, A5, n5, c5, rfl, h5, hx0⟩; have E0_10 := Ext.trans ES hx0)
     refine hK.out _ _ E0_10 ?_;clear hK K
     try simp only [zP]
     refine wpL.t 6 63 ?_ hQ ?_ E0_10 ?_;rotate_left
     ·intro w' hSw;go_simp;try rfl
     try simp only [zP]
     have z0 := (bz.ext E0_10).cell 0 _ rfl;have z1 := (bz.ext E0_10).cell 1 _ rfl;have z2 := (bz.ext E0_10).cell 2 _ rfl;have z3 := (bz.ext E0_10).cell 3 _ rfl;have f0 := (bz.ext E0_10).frozen 0;have f1 := (bz.ext E0_10).frozen 1;have f2 := (bz.ext E0_10).frozen 2;have f3 := (bz.ext E0_10).frozen 3;refine wpL.tl (i := 7) rfl (fun K hK => ?_);go_simp;refine hK.out _ _ ?_;clear hK K
     try simp only [zP]
     refine wpL.done (by kernel_rfl) ?_ _;clear hQ
     go_wp2_with fail
     obtain ⟨e5, e6⟩ := rat_add_cop Hg1.out;obtain ⟨b1, b2, b3, b4⟩ := fin_quad (s := s4) (A := A4) (n := n4) (c := c4) (t := s5) (B := A5) (m := n5) (d := c5) (bz.ext E0_10);have r0 := b1.cell 0 (.bool s4) rfl;have r1 := b1.cell 1 (.slice A4 n4 c4) rfl;have r2 := b1.cell 2 (.bool s5) rfl;have r3 := b1.cell 3 (.slice A5 n5 c5) rfl;unfold set4 at r0 r1 r2 r3;refine bodyPost_ret (v := .agg #[.bool s4, .slice A4 n4 c4, .bool s5, .slice A5 n5 c5]) (by simp [results, Tryz.results84, go_sem, r0, r1, r2, r3]) rfl ⟨s4, A4, n4, c4, s5, A5, n5, c5, rfl, ⟨?_, ?_⟩, b3 _ (extW.trans E0_10) (by omega)⟩
     ·rw [e5]; exact b2 _ _ _ _ _ _ (hS.ext E0_10)
     ·rw [e6]; exact (b2 _ _ _ _ _ _ h5).le (by omega)
    ·rw [decide_eq_false h1g]
     clear h1g
     go_wp2_with fail
     have ES0 := Ext.refl V7;refine wp_region_held_drew (S := Ext V7) (by kernel_rfl) ES0.drew (fun ES => ?_);clear ES0;refine Late.start2 (x := ⟨8, 7, 28, #[Value.bool false, Value.slice none 0 0]⟩) (y := ⟨9, 8, 28, #[Value.bool false, Value.slice none 0 0]⟩) (n := 10) ⟨_, rfl, rfl, rfl, fun a w => by go_simp⟩ ⟨_, rfl, rfl, rfl, fun a w => by go_simp⟩ (fun _ _ _ _ _ => ⟨fun h => h, fun h => h⟩) ES rfl (fun hAl hQ => ?_);refine Late.t 0 64 ?_ hQ ?_ ?_;rotate_left
     ·intro w' hSw;go_simp;try rfl
     try simp only [zP]
     refine Late.t 2 66 ?_ hQ ?_ ?_;rotate_left
     ·intro w' hSw;have k00 := (bx.ext hSw).c4;have k10 := (by_.ext hSw).c4;have k20 := (b8.ext hSw).c2;go_simp;try rfl
     try simp only [zP]
     refine Late.t 4 68 ?_ hQ ?_ ?_;rotate_left
     ·intro w' hSw;go_simp;try rfl
     try simp only [zP]
     refine Late.t 6 70 ?_ hQ ?_ ?_;rotate_left
     ·intro w' hSw;have k00 := (bx.ext hSw).c4;have k10 := (by_.ext hSw).c4;have k20 := (b8.ext hSw).c2;go_simp;try rfl
     try simp only [zP]
     refine Late.t 1 65 ?_ hQ ?_ ?_;rotate_left
     ·intro w' hSw;have k00 := (bx.ext hSw).c4;have k10 := (by_.ext hSw).c4;have k20 := (b8.ext hSw).c2;go_simp;try rfl
     try simp only [zP]
     refine Late.t 5 69 ?_ hQ ?_ ?_;rotate_left
     ·intro w' hSw;have k00 := (bx.ext hSw).c4;have k10 := (by_.ext hSw).c4;have k20 := (b8.ext hSw).c2;go_simp;try rfl
     try simp only [zP]
     refine Late.cl (i := 3) rfl hAl hQ (fun w3 e3 E3 K hK => ?_);go_simp
     (go_at_call 124; refine (q_quo (h.den.ext E3) (hg.ext E3) (by omega) (by omega) Hg0.out Hgq.out).mono ?_; rintro e wk1 ⟨s2, A2, n2, c2', rfl, h1, hx3⟩)
     refine hK.out _ _ hx3 ?_;clear hK K
     try simp only [zP]
     refine Late.cl (i := 7) rfl hAl hQ (fun w7 e7 E7 K hK => ?_);go_simp
     (go_at_call 124; refine (q_quo (k.den.ext E7) (hg.ext E7) (by omega) (by omega) Hg0.out Hgp.out).mono ?_; rintro e wk2 ⟨s3, A3, n3, c3, rfl, h2, hx7⟩)
     refine hK.out _ _ hx7 ?_;clear hK K
     try simp only [zP]
     refine Late.finish2 (hAl _ (by simp)) (hAl _ (by simp)) (by decide) (by decide) (by kernel_rfl) (by kernel_rfl) (by kernel_rfl) (fun wz g9 g9y ez Ez lg5 lg6 hne xb1 xb2 => ?_);clear hAl hQ ES;have p10 := xb1.cell 0 (Value.bool false) rfl;have p11 := xb1.cell 1 (Value.slice none 0 0) rfl;have f10 := xb1.frozen 0;have f11 := xb1.frozen 1;have e4 := fin_dual (s := s2) (A := A2) (n := n2) (c := c2') xb1
     try simp only [zP]
     refine wpAnyH_ready (rs := [10]) (by kernel_rfl) (by simp) (AllReadyH.cons rfl (fun K hK => ?_) AllReadyH.nil);go_simp;refine hK.out _ _ (e4.2.2.1 _ Ez lg5) (fun _ => ?_);clear hK K
     try simp only [zP]
     have e5 := e4.2.2.2 _ _ _ (Ne.symm hne) xb2;refine any_world (fun U => Ext V7 U /\ Box U g9 28 #[.bool s2, .slice A2 n2 c2'] /\ Box U g9y 28 #[Value.bool false, Value.slice none 0 0] /\ NI U ((q.den : Int) / (g : Int)) L s2 A2 n2 c2' /\ NI U ((p.den : Int) / (g : Int)) M s3 A3 n3 c3) ⟨e4.2.2.1 _ Ez lg5, e4.1, e5, e4.2.1 _ _ _ _ _ _ (h1.ext (e7.trans (hx7.trans ez))), e4.2.1 _ _ _ _ _ _ (h2.ext ez)⟩ ?_;clear e4 e5 p10 p11 f10 f11 xb1 xb2;rintro U ⟨EU, b9, xb2, h1, h2⟩;have p10 := xb2.cell 0 (Value.bool false) rfl;have p11 := xb2.cell 1 (Value.slice none 0 0) rfl;have f10 := xb2.frozen 0;have f11 := xb2.frozen 1;have e4 := fin_dual (s := s3) (A := A3) (n := n3) (c := c3) xb2;refine wpAnyH_ready (rs := [11]) (by kernel_rfl) (by simp) (AllReadyH.cons rfl (fun K hK => ?_) AllReadyH.nil);go_simp;refine hK.out _ _ (e4.2.2.1 _ EU lg6) (fun _ => ?_);clear hK K
     try simp only [zP]
     refine any_world (fun U2 => Ext V7 U2 /\ Box U2 g9 28 #[.bool s2, .slice A2 n2 c2'] /\ Box U2 g9y 28 #[.bool s3, .slice A3 n3 c3] /\ NI U2 ((q.den : Int) / (g : Int)) L s2 A2 n2 c2' /\ NI U2 ((p.den : Int) / (g : Int)) M s3 A3 n3 c3) ⟨e4.2.2.1 _ EU lg6, e4.2.2.2 _ _ _ hne b9, e4.1, e4.2.1 _ _ _ _ _ _ h1, e4.2.1 _ _ _ _ _ _ h2⟩ ?_;clear e4 p10 p11 f10 f11 xb2 b9 h1 h2 lg5 lg6;rintro U2 ⟨EU2, b9, b9y, hD1, hD2⟩;refine wpAnyH_done (by kernel_rfl) ?_ _;replace bx := bx.ext EU2;replace by_ := by_.ext EU2;replace bz := bz.ext EU2;replace b8 := b8.ext EU2;replace h := h.ext EU2;replace k := k.ext EU2;replace hg := hg.ext EU2;replace extW := extW.trans EU2;clear EU EU2 Ez ez
     go_wp2_with fail
     have ES0 := Ext.refl U2;refine wp_region_held_drew (S := Ext U2) (by kernel_rfl) ES0.drew (fun ES => ?_);clear ES0;refine Late.start1 (x := ⟨9, 9, 28, #[Value.bool false, Value.slice none 0 0]⟩) (n := 10) ⟨_, rfl, rfl, rfl, fun a w => by go_simp⟩ (fun _ _ _ _ _ => ⟨fun h => h, fun h => h⟩) ES rfl (fun hAl hQ => ?_);refine Late.t 0 72 ?_ hQ ?_ ?_;rotate_left
     ·intro w' hSw;go_simp;try rfl
     try simp only [zP]
     refine Late.t 2 74 ?_ hQ ?_ ?_;rotate_left
     ·intro w' hSw;have k00 := (bx.ext hSw).c4;have k10 := (by_.ext hSw).c4;have k20 := (b9.ext hSw).c2;have k30 := (b9y.ext hSw).c2;go_simp;try rfl
     try simp only [zP]
     refine Late.t 4 76 ?_ hQ ?_ ?_;rotate_left
     ·intro w' hSw;go_simp;try rfl
     try simp only [zP]
     refine Late.t 6 78 ?_ hQ ?_ ?_;rotate_left
     ·intro w' hSw;have k00 := (bx.ext hSw).c4;have k10 := (by_.ext hSw).c4;have k20 := (b9.ext hSw).c2;have k30 := (b9y.ext hSw).c2;go_simp;try rfl
     try simp only [zP]
     refine Late.t 1 73 ?_ hQ ?_ ?_;rotate_left
     ·intro w' hSw;have k00 := (bx.ext hSw).c4;have k10 := (by_.ext hSw).c4;have k20 := (b9.ext hSw).c2;have k30 := (b9y.ext hSw).c2;go_simp;try rfl
     try simp only [zP]
     refine Late.t 5 77 ?_ hQ ?_ ?_;rotate_left
     ·intro w' hSw;have k00 := (bx.ext hSw).c4;have k10 := (by_.ext hSw).c4;have k20 := (b9.ext hSw).c2;have k30 := (b9y.ext hSw).c2;go_simp;try rfl
     try simp only [zP]
     refine Late.cl (i := 3) rfl hAl hQ (fun w3 e3 E3 K hK => ?_);go_simp
     (go_at_call 123; refine (q_Mul (h.num.ext E3) (hD2.ext E3) (by omega) (by omega)).mono ?_; rintro e wk2 ⟨s5, A5, n5, c5, rfl, h2, hx3⟩)
     refine hK.out _ _ hx3 ?_;clear hK K
     try simp only [zP]
     refine Late.cl (i := 7) rfl hAl hQ (fun w7 e7 E7 K hK => ?_);go_simp
     (go_at_call 123; refine (q_Mul (k.num.ext E7) (hD1.ext E7) (by omega) (by omega)).mono ?_; rintro e wk3 ⟨s6, A6, n6, c6, rfl, h3, hx7⟩)
     refine hK.out _ _ hx7 ?_;clear hK K
     try simp only [zP]
     refine Late.cl (i := 8) rfl hAl hQ (fun w8 e8 E8 K hK => ?_);go_simp
     (go_at_call 122; refine (q_Add (h2.ext (e7.trans (hx7.trans e8))) (h3.ext e8) (by omega) (by omega)).mono ?_; rintro e wk4 ⟨s4, A4, n4, c4, rfl, h4, hx8⟩)
     refine hK.out _ _ hx8 ?_;clear hK K
     try simp only [zP]
     refine Late.finish1 (hAl _ (by simp)) (by kernel_rfl) (fun wz g10 ez Ez lg5 xb1 => ?_);clear hAl hQ ES;have f10 := xb1.cell 0 (Value.bool false) rfl;have f11 := xb1.cell 1 (Value.slice none 0 0) rfl;have f12 := xb1.frozen 0;have f13 := xb1.frozen 1;have e4 := fin_dual (s := s4) (A := A4) (n := n4) (c := c4) xb1
     try simp only [zP]
     refine wpAnyH_ready (rs := [10]) (by kernel_rfl) (by simp) (AllReadyH.cons rfl (fun K hK => ?_) AllReadyH.nil);go_simp;refine hK.out _ _ (e4.2.2.1 _ Ez lg5) (fun _ => ?_);clear hK K
     try simp only [zP]
     refine any_world (fun U3 => Ext U2 U3 /\ Box U3 g10 28 #[.bool s4, .slice A4 n4 c4] /\ NI U3 (q.num * ((p.den : Int) / (g : Int)) + p.num * ((q.den : Int) / (g : Int))) (L + M + 1) s4 A4 n4 c4) ⟨e4.2.2.1 _ Ez lg5, e4.1, (e4.2.1 _ _ _ _ _ _ (h4.ext ez)).le (by omega)⟩ ?_;clear e4 f10 f11 f12 f13 xb1 lg5;rintro U3 ⟨EU3, b10, hS⟩;refine wpAnyH_done (by kernel_rfl) ?_ _;replace bx := bx.ext EU3;replace by_ := by_.ext EU3;replace bz := bz.ext EU3;replace b8 := b8.ext EU3;replace b9 := b9.ext EU3;replace h := h.ext EU3;replace k := k.ext EU3;replace hg := hg.ext EU3;replace hD1 := hD1.ext EU3;replace extW := extW.trans EU3;clear EU3 Ez ez b9y hD2;have j0 := b10.cell 0 (.bool s4) rfl;have j1 := b10.cell 1 (.slice A4 n4 c4) rfl;have j2 := b8.cell 0 (.bool s1) rfl;have j3 := b8.cell 1 (.slice A1 n1 c1') rfl
     go_wp2_with fail
     refine (q_GCD hS hg (by omega) (by omega)).mono ?_;rintro e wg ⟨s0, A0, n0, c0, rfl, hr, hxg⟩;rw [Int.natAbs_natCast] at hr;clear j0 j1 j2 j3;obtain ⟨S, hSe⟩ : ∃ S : Int, q.num * ((p.den : Int) / (g : Int)) + p.num * ((q.den : Int) / (g : Int)) = S := ⟨_, rfl⟩;rw [hSe] at hS hr;obtain ⟨r, hre⟩ : ∃ r, Nat.gcd S.natAbs g = r := ⟨_, rfl⟩;rw [hre] at hr;obtain ⟨q1, q2, q3, q4⟩ := rat_add q p (S := S) (r := r) Hge.out rfl rfl (by rw [<- hSe]; simp) hre.symm;have Hq1 := Lib.hid q1;have Hq2 := Lib.hid q2;have Hr0 := Lib.hid (show (r : Int) ≠ 0 by omega);have Hrp := Lib.hid (Int.ofNat_dvd.2 q3);have HrS := Lib.hid (show (r : Int) ∣ S from Int.ofNat_dvd_left.2 (by rw [<- hre]; exact Nat.gcd_dvd_left _ _));clear q1 q2 q3 q4 hre hSe
     go_upto_region 14 with (fail)
     refine at_world (fun Z9 => Ext U3 Z9 /\ Box Z9 wg.heap.size 28 #[.bool s0, .slice A0 n0 c0] /\ NI Z9 (r : Int) (max (L + M + 1) (max L M)) s0 A0 n0 c0) ⟨hxg.alloc _, Box.new wg _ _, hr.ext ((Ext.refl wg).alloc _)⟩ ?_;generalize wg.heap.size = g11;clear hxg hr;rintro Z9 ⟨EV, b11, hr⟩;replace bx := bx.ext EV;replace by_ := by_.ext EV;replace bz := bz.ext EV;replace b9 := b9.ext EV;replace b10 := b10.ext EV;replace h := h.ext EV;replace k := k.ext EV;replace hD1 := hD1.ext EV;replace hS := hS.ext EV;replace extW := extW.trans EV;clear EV
     go_wp2_with fail
     refine wpL.st 10 (fun hQ ES => ?_);refine wpL.t 0 84 ?_ hQ ?_ ES ?_;rotate_left
     ·intro w' hSw;have k00 := (b10.ext hSw).c2;have k10 := (b11.ext hSw).c2;have k20 := (b9.ext hSw).c2;have k30 := (by_.ext hSw).c4;go_simp;try rfl
     try simp only [zP]
     refine wpL.t 1 85 ?_ hQ ?_ ES ?_;rotate_left
     ·intro w' hSw;have k00 := (b10.ext hSw).c2;have k10 := (b11.ext hSw).c2;have k20 := (b9.ext hSw).c2;have k30 := (by_.ext hSw).c4;go_simp;try rfl
     try simp only [zP]
     refine wpL.t 3 87 ?_ hQ ?_ ES ?_;rotate_left
     ·intro w' hSw;have k00 := (b10.ext hSw).c2;have k10 := (b11.ext hSw).c2;have k20 := (b9.ext hSw).c2;have k30 := (by_.ext hSw).c4;go_simp;try rfl
     try simp only [zP]
     refine wpL.t 4 88 ?_ hQ ?_ ES ?_;rotate_left
     ·intro w' hSw;go_simp;try rfl
     try simp only [zP]
     refine wpL.t 6 90 ?_ hQ ?_ ES ?_;rotate_left
     ·intro w' hSw;have k00 := (b10.ext hSw).c2;have k10 := (b11.ext hSw).c2;have k20 := (b9.ext hSw).c2;have k30 := (by_.ext hSw).c4;go_simp;try rfl
     try simp only [zP]
     refine wpL.t 5 89 ?_ hQ ?_ ES ?_;rotate_left
     ·intro w' hSw;have k00 := (b10.ext hSw).c2;have k10 := (b11.ext hSw).c2;have k20 := (b9.ext hSw).c2;have k30 := (by_.ext hSw).c4;go_simp;try rfl
     try simp only [zP]
     refine wpL.cl (i := 2) rfl (fun K hK => ?_);go_simp
     (go_at_call 124; refine (q_quo (hS.ext ES) (hr.ext ES) (by omega) (by omega) Hr0.out HrS.out).mono ?_; rintro e wk1 ⟨s7, A7, n7, c7, rfl, h1, hx0⟩; have E0_14 := Ext.trans ES hx0)
     refine hK.out _ _ E0_14 ?_;clear hK K
     try simp only [zP]
     refine wpL.cl (i := 7) rfl (fun K hK => ?_);go_simp
     (go_at_call 124; refine (q_quo (k.den.ext E0_14) (hr.ext E0_14) (by omega) (by omega) Hr0.out Hrp.out).mono ?_; rintro e wk2 ⟨s8, A8, n8, c8, rfl, h2, hx1⟩; have E1_14 := Ext.trans E0_14 hx1)
     refine hK.out _ _ E1_14 ?_;clear hK K
     try simp only [zP]
     refine wpL.cl (i := 8) rfl (fun K hK => ?_);go_simp
     (go_at_call 123; refine (q_Mul (hD1.ext E1_14) (h2) (by omega) (by omega)).mono ?_; rintro e wk3 ⟨s9, A9, n9, c9, rfl, h3, hx2⟩; have E2_14 := Ext.trans E1_14 hx2)
     refine hK.out _ _ E2_14 ?_;clear hK K
     try simp only [zP]
     refine wpL.t 9 93 ?_ hQ ?_ E2_14 ?_;rotate_left
     ·intro w' hSw;go_simp;try rfl
     try simp only [zP]
     have z0 := (bz.ext E2_14).cell 0 _ rfl;have z1 := (bz.ext E2_14).cell 1 _ rfl;have z2 := (bz.ext E2_14).cell 2 _ rfl;have z3 := (bz.ext E2_14).cell 3 _ rfl;have f0 := (bz.ext E2_14).frozen 0;have f1 := (bz.ext E2_14).frozen 1;have f2 := (bz.ext E2_14).frozen 2;have f3 := (bz.ext E2_14).frozen 3;refine wpL.tl (i := 10) rfl (fun K hK => ?_);go_simp;refine hK.out _ _ ?_;clear hK K
     try simp only [zP]
     refine wpL.done (by kernel_rfl) ?_ _;clear hQ
     go_wp2_with fail
     have hk1 : ((q.den : Int) / (g : Int)) * ((p.den : Int) / (r : Int)) = ((q + p).den : Int) := by rw [Hq2.out]; simp
     rw [hk1] at h3;rw [<- Hq1.out] at h1;obtain ⟨b1, b2, b3, b4⟩ := fin_quad (s := s7) (A := A7) (n := n7) (c := c7) (t := s9) (B := A9) (m := n9) (d := c9) (bz.ext E2_14);have r0 := b1.cell 0 (.bool s7) rfl;have r1 := b1.cell 1 (.slice A7 n7 c7) rfl;have r2 := b1.cell 2 (.bool s9) rfl;have r3 := b1.cell 3 (.slice A9 n9 c9) rfl;unfold set4 at r0 r1 r2 r3;refine bodyPost_ret (v := .agg #[.bool s7, .slice A7 n7 c7, .bool s9, .slice A9 n9 c9]) (by simp [results, Tryz.results84, go_sem, r0, r1, r2, r3]) rfl ⟨s7, A7, n7, c7, s9, A9, n9, c9, rfl, ⟨?_, ?_⟩, b3 _ (extW.trans E2_14) (by omega)⟩
     ·exact (b2 _ _ _ _ _ _ (h1.ext (hx1.trans hx2))).le (by omega)
     ·exact (b2 _ _ _ _ _ _ h3).le (by omega)
end
end Go.Proofs.YtgagcochepnelaaGreatDoor
