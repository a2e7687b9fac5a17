/- Walks and laws, a part. -/
import Derived.Test.YtgagcochepnelaaGreatDoorP16
import Derived.Maps.AppendAt
set_option linter.unusedSimpArgs false
set_option linter.unusedVariables false
set_option maxHeartbeats 64000000
namespace Go.Proofs.YtgagcochepnelaaGreatDoor
section
open Go.RowKit
attribute [local go_sem ↓] Go.wp_at_zero Go.wp_at_succ
section
variable {w w' : World} {z y : Int} {q p : Rat} {L M : Nat} {s t s' t' : Bool} {A B A' B' : Option Addr} {n c m d n' c' m' d' : Nat}
theorem rat_add_ones {q p : Rat} (h1 : (q.den : Int) = 1) (h2 : (p.den : Int) = 1) : (q + p).num = q.num + p.num /\ ((q + p).den : Int) = (q.den : Int) := by
 have e1 : q.den = 1 := by omega
 have e2 : p.den = 1 := by omega
 have h := rat_add_one h1 h2;rw [<- h,e1];exact ⟨rfl,rfl⟩
theorem rat_add_cop {q p : Rat} (h : Nat.gcd q.den p.den = 1) : (q + p).num = q.num * (p.den : Int) + p.num * (q.den : Int) /\ ((q + p).den : Int) = (q.den : Int) * (p.den : Int) := by
 obtain ⟨a,b,_,_⟩ := rat_add q p (g := 1) (D1 := q.den) (D2 := p.den) (S := q.num * (p.den : Int) + p.num * (q.den : Int)) (r := 1) h.symm (by simp) (by simp) rfl (by simp);rw [a,b];simp
set_option maxRecDepth 100000 in
theorem q_AddR (h : NR w q L s A n c t B m d) (k : NR w p M s' A' n' c' t' B' m' d') (hL : L <= 1000) (hM : M <= 1000) : Calls Tryz.prog 84 #[.agg #[.bool s,.slice A n c,.bool t,.slice B m d],.agg #[.bool s',.slice A' n' c',.bool t',.slice B' m' d']] w (RetNR (q + p) (L + M + 1) w) := by
 have hL1 := h.pos;have hM1 := k.pos
 go_enter Tryz.func84,Tryz.ntmps84
 go_upto_region 1 with (fail)
 obtain ⟨W,hW,extW,bx,by_,bz,hz⟩ := box3 w 30 30 30 #[.bool s,.slice A n c,.bool t,.slice B m d] #[.bool s',.slice A' n' c',.bool t',.slice B' m' d'] #[Value.bool false,Value.slice none 0 0,Value.bool false,Value.slice none 0 0];rw [<- hW];clear hW;replace h := h.ext extW;replace k := k.ext extW;have hz1 := h.num.zero;have hz2 := k.num.zero
 by_cases hq0 : q.num = 0
 ·have hn2 : ((n : Int) == 0) = true := by rw [beq_iff_eq];have := hz1.2 hq0;omega
  have hqp : q + p = p := by rw [Rat.num_eq_zero.1 hq0,Rat.zero_add]
  clear hz1 hz2 hq0;have hE := Ext.refl W;have x0 := bx.cell 0 (.bool s) rfl;have x1 := bx.cell 1 (.slice A n c) rfl;have x2 := bx.cell 2 (.bool t) rfl;have x3 := bx.cell 3 (.slice B m d) rfl;have y0 := by_.cell 0 (.bool s') rfl;have y1 := by_.cell 1 (.slice A' n' c') rfl;have y2 := by_.cell 2 (.bool t') rfl;have y3 := by_.cell 3 (.slice B' m' d') rfl;have z0 := (bz.ext hE).cell 0 _ rfl;have z1 := (bz.ext hE).cell 1 _ rfl;have z2 := (bz.ext hE).cell 2 _ rfl;have z3 := (bz.ext hE).cell 3 _ rfl;have f0 := (bz.ext hE).frozen 0;have f1 := (bz.ext hE).frozen 1;have f2 := (bz.ext hE).frozen 2;have f3 := (bz.ext hE).frozen 3
  go_wp2_with fail
  obtain ⟨b1,b2,b3,b4⟩ := fin_quad (s := s') (A := A') (n := n') (c := c') (t := t') (B := B') (m := m') (d := d') (bz.ext hE);have r0 := b1.cell 0 (.bool s') rfl;have r1 := b1.cell 1 (.slice A' n' c') rfl;have r2 := b1.cell 2 (.bool t') rfl;have r3 := b1.cell 3 (.slice B' m' d') rfl;unfold set4 at r0 r1 r2 r3;refine bodyPost_ret (v := .agg #[.bool s',.slice A' n' c',.bool t',.slice B' m' d']) (by simp [results,Tryz.results84,go_sem,r0,r1,r2,r3]) rfl ⟨s',A',n',c',t',B',m',d',rfl,⟨?_,?_⟩,b3 _ (extW.trans hE) (by omega)⟩
  ·rw [hqp];exact (b2 _ _ _ _ _ _ k.num).le (by omega)
  ·rw [hqp];exact (b2 _ _ _ _ _ _ k.den).le (by omega)
 ·have hn2 : ((n : Int) == 0) = false := by rw [beq_eq_false_iff_ne];intro h0;exact hq0 (hz1.1 (by omega))
  by_cases hp0 : p.num = 0
  ·have hm2 : ((n' : Int) == 0) = true := by rw [beq_iff_eq];have := hz2.2 hp0;omega
   have hqp : q + p = q := by rw [Rat.num_eq_zero.1 hp0,Rat.add_zero]
   clear hz1 hz2 hq0 hp0;have hE := Ext.refl W;have x0 := bx.cell 0 (.bool s) rfl;have x1 := bx.cell 1 (.slice A n c) rfl;have x2 := bx.cell 2 (.bool t) rfl;have x3 := bx.cell 3 (.slice B m d) rfl;have y0 := by_.cell 0 (.bool s') rfl;have y1 := by_.cell 1 (.slice A' n' c') rfl;have y2 := by_.cell 2 (.bool t') rfl;have y3 := by_.cell 3 (.slice B' m' d') rfl;have z0 := (bz.ext hE).cell 0 _ rfl;have z1 := (bz.ext hE).cell 1 _ rfl;have z2 := (bz.ext hE).cell 2 _ rfl;have z3 := (bz.ext hE).cell 3 _ rfl;have f0 := (bz.ext hE).frozen 0;have f1 := (bz.ext hE).frozen 1;have f2 := (bz.ext hE).frozen 2;have f3 := (bz.ext hE).frozen 3
   go_wp2_with fail
   obtain ⟨b1,b2,b3,b4⟩ := fin_quad (s := s) (A := A) (n := n) (c := c) (t := t) (B := B) (m := m) (d := d) (bz.ext hE);have r0 := b1.cell 0 (.bool s) rfl;have r1 := b1.cell 1 (.slice A n c) rfl;have r2 := b1.cell 2 (.bool t) rfl;have r3 := b1.cell 3 (.slice B m d) rfl;unfold set4 at r0 r1 r2 r3;refine bodyPost_ret (v := .agg #[.bool s,.slice A n c,.bool t,.slice B m d]) (by simp [results,Tryz.results84,go_sem,r0,r1,r2,r3]) rfl ⟨s,A,n,c,t,B,m,d,rfl,⟨?_,?_⟩,b3 _ (extW.trans hE) (by omega)⟩
   ·rw [hqp];exact (b2 _ _ _ _ _ _ h.num).le (by omega)
   ·rw [hqp];exact (b2 _ _ _ _ _ _ h.den).le (by omega)
  ·have hm2 : ((n' : Int) == 0) = false := by rw [beq_eq_false_iff_ne];intro h0;exact hp0 (hz2.1 (by omega))
   clear hz1 hz2 hq0 hp0;have x1 := bx.cell 1 (.slice A n c) rfl;have y1 := by_.cell 1 (.slice A' n' c') rfl
   go_upto_region 5 with (fail)
   clear x1 y1;have x0 := bx.cell 0 (.bool s) rfl;have x1 := bx.cell 1 (.slice A n c) rfl;have x2 := bx.cell 2 (.bool t) rfl;have x3 := bx.cell 3 (.slice B m d) rfl
   go_wp2_with fail
   refine (q_one h.den).mono ?_;rintro e wb ⟨rfl,hxb⟩;replace bx := bx.ext hxb;replace by_ := by_.ext hxb;replace bz := bz.ext hxb;replace h := h.ext hxb;replace k := k.ext hxb;replace extW := extW.trans hxb;clear hxb;clear x0 x1 x2 x3
   by_cases h1 : (q.den : Int) = 1
   case' neg =>
    rw [decide_eq_false h1]
    clear h1
   case' pos =>
    rw [decide_eq_true h1]
    have H1 := Lib.hid h1;clear h1;have y2 := by_.cell 2 (.bool t') rfl;have y3 := by_.cell 3 (.slice B' m' d') rfl
    go_wp2_with fail
    refine (q_one k.den).mono ?_;rintro e wb ⟨rfl,hxc⟩;replace bx := bx.ext hxc;replace by_ := by_.ext hxc;replace bz := bz.ext hxc;replace h := h.ext hxc;replace k := k.ext hxc;replace extW := extW.trans hxc;clear hxc y2 y3
    by_cases h2 : (p.den : Int) = 1
    ·rw [decide_eq_true h2]
     have H2 := Lib.hid h2;clear h2
     go_wp2_with fail
     refine wpL.st 8 (fun hQ ES => ?_);refine wpL.u 0 31 hQ ES ?_
     try simp only [zP]
     refine wpL.u 2 33 hQ ES ?_
     try simp only [zP]
     refine wpL.u 5 36 hQ ES ?_
     try simp only [zP]
     refine wpL.t 1 32 ?v_3 hQ ?y_3 ES ?_
     case y_3 => intro w' hSw;have k00 := (bx.ext hSw).c4;have k10 := (by_.ext hSw).c4;go_simp;try rfl
     try simp only [zP]
     refine wpL.t 3 34 ?v_4 hQ ?y_4 ES ?_
     case y_4 => intro w' hSw;have k00 := (bx.ext hSw).c4;have k10 := (by_.ext hSw).c4;go_simp;try rfl
     try simp only [zP]
     refine wpL.t 6 37 ?v_5 hQ ?y_5 ES ?_
     case y_5 => intro w' hSw;have k00 := (bx.ext hSw).c4;have k10 := (by_.ext hSw).c4;go_simp;try rfl
     try simp only [zP]
     refine wpL.cl (i := 4) rfl (fun K hK => ?_);go_simp
     (go_at_call 122;refine (q_Add (h.num.ext ES) (k.num.ext ES) (by omega) (by omega)).mono ?_;rintro e wk1 ⟨s5,A5,n5,c5,rfl,h5,hx0⟩;have E0_6 := Ext.trans ES hx0)
     refine hK.out _ _ E0_6 ?_;clear hK K
     try simp only [zP]
     refine wpL.u 7 38 hQ E0_6 ?_
     try simp only [zP]
     have z0 := (bz.ext E0_6).cell 0 _ rfl;have z1 := (bz.ext E0_6).cell 1 _ rfl;have z2 := (bz.ext E0_6).cell 2 _ rfl;have z3 := (bz.ext E0_6).cell 3 _ rfl;have f0 := (bz.ext E0_6).frozen 0;have f1 := (bz.ext E0_6).frozen 1;have f2 := (bz.ext E0_6).frozen 2;have f3 := (bz.ext E0_6).frozen 3;refine wpL.tl (i := 8) rfl (fun K hK => ?_);go_simp;refine hK.out _ _ ?_;clear hK K
     try simp only [zP]
     refine wpL.done (by kernel_rfl) ?_ _;clear hQ
     go_wp2_with fail
     obtain ⟨e5,e6⟩ := rat_add_ones H1.out H2.out;obtain ⟨b1,b2,b3,b4⟩ := fin_quad (s := s5) (A := A5) (n := n5) (c := c5) (t := t) (B := B) (m := m) (d := d) (bz.ext E0_6);have r0 := b1.cell 0 (.bool s5) rfl;have r1 := b1.cell 1 (.slice A5 n5 c5) rfl;have r2 := b1.cell 2 (.bool t) rfl;have r3 := b1.cell 3 (.slice B m d) rfl;unfold set4 at r0 r1 r2 r3;refine bodyPost_ret (v := .agg #[.bool s5,.slice A5 n5 c5,.bool t,.slice B m d]) (by simp [results,Tryz.results84,go_sem,r0,r1,r2,r3]) rfl ⟨s5,A5,n5,c5,t,B,m,d,rfl,⟨?_,?_⟩,b3 _ (extW.trans E0_6) (by omega)⟩
     ·rw [e5];exact (b2 _ _ _ _ _ _ h5).le (by omega)
     ·rw [e6];exact (b2 _ _ _ _ _ _ (h.den.ext E0_6)).le (by omega)
    rw [decide_eq_false h2]
    clear h2
   all_goals
    have x0 := bx.cell 0 (.bool s) rfl;have x1 := bx.cell 1 (.slice A n c) rfl;have x2 := bx.cell 2 (.bool t) rfl;have x3 := bx.cell 3 (.slice B m d) rfl;have y0 := by_.cell 0 (.bool s') rfl;have y1 := by_.cell 1 (.slice A' n' c') rfl;have y2 := by_.cell 2 (.bool t') rfl;have y3 := by_.cell 3 (.slice B' m' d') rfl
    go_wp2_with fail
    refine (q_GCD h.den k.den (by omega) (by omega)).mono ?_;rintro e we ⟨s1,A1,n1,c1',rfl,hg,hxe⟩;rw [Int.natAbs_natCast,Int.natAbs_natCast] at hg;obtain ⟨g,hge⟩ : ∃ g,Nat.gcd q.den p.den = g := ⟨_,rfl⟩;rw [hge] at hg;have hgq : g ∣ q.den := by rw [<- hge];exact Nat.gcd_dvd_left _ _
    have hgp : g ∣ p.den := by rw [<- hge];exact Nat.gcd_dvd_right _ _
    have hg0 : (g : Int) ≠ 0 := by
     intro h0;have : g = 0 := by omega
     rw [this] at hgq;have := Nat.eq_zero_of_zero_dvd hgq;exact q.den_nz this
    have Hge := Lib.hid hge.symm;have Hg0 := Lib.hid hg0;have Hgq := Lib.hid (Int.ofNat_dvd.2 hgq);have Hgp := Lib.hid (Int.ofNat_dvd.2 hgp);clear hge hg0 hgq hgp;clear x0 x1 x2 x3;clear y0 y1 y2 y3
    go_upto_region 8 with (fail)
    refine at_world (fun V8 => Ext wb V8 /\ Box V8 we.heap.size 28 #[.bool s1,.slice A1 n1 c1'] /\ NI V8 (g : Int) (max L M) s1 A1 n1 c1') ⟨hxe.alloc _,Box.new we _ _,hg.ext ((Ext.refl we).alloc _)⟩ ?_;generalize we.heap.size = g8;clear hxe hg;rintro V8 ⟨EV,b8,hg⟩;replace bx := bx.ext EV;replace by_ := by_.ext EV;replace bz := bz.ext EV;replace h := h.ext EV;replace k := k.ext EV;replace extW := extW.trans EV;clear EV;have j0 := b8.cell 0 (.bool s1) rfl;have j1 := b8.cell 1 (.slice A1 n1 c1') rfl
    go_wp2_with fail
    refine (q_one hg).mono ?_;rintro e V7 ⟨rfl,hx7'⟩;replace bx := bx.ext hx7';replace by_ := by_.ext hx7';replace bz := bz.ext hx7';replace b8 := b8.ext hx7';replace h := h.ext hx7';replace k := k.ext hx7';replace hg := hg.ext hx7';replace extW := extW.trans hx7';clear hx7' j0 j1
    by_cases h1g : (g : Int) = 1
    ·rw [decide_eq_true h1g]
     have Hg1 := Lib.hid (show Nat.gcd q.den p.den = 1 by rw [<- Hge.out];omega);clear h1g
     go_wp2_with fail
     have ES0 := Ext.refl V7;refine wp_region_held_drew (S := Ext V7) (by kernel_rfl) ES0.drew (fun ES => ?_);clear ES0;refine Late.start1 (x := ⟨11,6,28,#[Value.bool false,Value.slice none 0 0]⟩) (n := 12) ⟨_,rfl,rfl,rfl,fun a w => by go_simp⟩ (fun _ _ _ _ _ => ⟨fun h => h,fun h => h⟩) ES rfl (fun hAl hQ => ?_);refine Late.t 0 46 ?_ hQ ?_ ?_;rotate_left
     ·intro w' hSw;go_simp;try rfl
     try simp only [zP]
     refine Late.t 2 48 ?_ hQ ?_ ?_;rotate_left
     ·intro w' hSw;go_simp;try rfl
     try simp only [zP]
     refine Late.t 5 51 ?_ hQ ?_ ?_;rotate_left
     ·intro w' hSw;go_simp;try rfl
     try simp only [zP]
     refine Late.t 7 53 ?_ hQ ?_ ?_;rotate_left
     ·intro w' hSw;go_simp;try rfl
     try simp only [zP]
     refine Late.t 1 47 ?_ hQ ?_ ?_;rotate_left
     ·intro w' hSw;have k00 := (bx.ext hSw).c4;have k10 := (by_.ext hSw).c4;go_simp;try rfl
     try simp only [zP]
     refine Late.t 3 49 ?_ hQ ?_ ?_;rotate_left
     ·intro w' hSw;have k00 := (bx.ext hSw).c4;have k10 := (by_.ext hSw).c4;go_simp;try rfl
     try simp only [zP]
     refine Late.t 6 52 ?_ hQ ?_ ?_;rotate_left
     ·intro w' hSw;have k00 := (bx.ext hSw).c4;have k10 := (by_.ext hSw).c4;go_simp;try rfl
     try simp only [zP]
     refine Late.t 8 54 ?_ hQ ?_ ?_;rotate_left
     ·intro w' hSw;have k00 := (bx.ext hSw).c4;have k10 := (by_.ext hSw).c4;go_simp;try rfl
     try simp only [zP]
     refine Late.cl (i := 4) rfl hAl hQ (fun w4 e4 E4 K hK => ?_);go_simp
     (go_at_call 123;refine (q_Mul (h.num.ext E4) (k.den.ext E4) (by omega) (by omega)).mono ?_;rintro e wk2 ⟨s2,A2,n2,c2,rfl,h2,hx4⟩)
     refine hK.out _ _ hx4 ?_;clear hK K
     try simp only [zP]
     refine Late.cl (i := 9) rfl hAl hQ (fun w9 e9 E9 K hK => ?_);go_simp
     (go_at_call 123;refine (q_Mul (k.num.ext E9) (h.den.ext E9) (by omega) (by omega)).mono ?_;rintro e wk3 ⟨s3,A3,n3,c3,rfl,h3,hx9⟩)
     refine hK.out _ _ hx9 ?_;clear hK K
     try simp only [zP]
     refine Late.cl (i := 10) rfl hAl hQ (fun w10 e10 E10 K hK => ?_);go_simp
     (go_at_call 122;refine (q_Add (h2.ext (e9.trans (hx9.trans e10))) (h3.ext e10) (by omega) (by omega)).mono ?_;rintro e wk4 ⟨s4,A4,n4,c4,rfl,h4,hx10⟩)
     refine hK.out _ _ hx10 ?_;clear hK K
     try simp only [zP]
     refine Late.finish1 (hAl _ (by simp)) (by kernel_rfl) (fun wz g10 ez Ez lg5 xb1 => ?_);clear hAl hQ ES;have f10 := xb1.cell 0 (Value.bool false) rfl;have f11 := xb1.cell 1 (Value.slice none 0 0) rfl;have f12 := xb1.frozen 0;have f13 := xb1.frozen 1;have e4 := fin_dual (s := s4) (A := A4) (n := n4) (c := c4) xb1
     try simp only [zP]
     refine wpAnyH_ready (rs := [12]) (by kernel_rfl) (by simp) (AllReadyH.cons rfl (fun K hK => ?_) AllReadyH.nil);go_simp;refine hK.out _ _ (e4.2.2.1 _ Ez lg5) (fun _ => ?_);clear hK K
     try simp only [zP]
     refine any_world (fun U => Ext V7 U /\ Box U g10 28 #[.bool s4,.slice A4 n4 c4] /\ NI U (q.num * (p.den : Int) + p.num * (q.den : Int)) (L + M + 1) s4 A4 n4 c4) ⟨e4.2.2.1 _ Ez lg5,e4.1,(e4.2.1 _ _ _ _ _ _ (h4.ext ez)).le (by omega)⟩ ?_;clear e4 f10 f11 f12 f13 xb1 lg5;rintro U ⟨EU,b10,hS⟩;refine wpAnyH_done (by kernel_rfl) ?_ _;replace bx := bx.ext EU;replace by_ := by_.ext EU;replace bz := bz.ext EU;replace h := h.ext EU;replace k := k.ext EU;replace extW := extW.trans EU;clear EU Ez ez
     go_wp2_with fail
     refine wpL.st 7 (fun hQ ES => ?_);refine wpL.t 0 57 ?_ hQ ?_ ES ?_;rotate_left
     ·intro w' hSw;have k00 := (b10.ext hSw).c2;have k10 := (bx.ext hSw).c4;have k20 := (by_.ext hSw).c4;go_simp;try rfl
     try simp only [zP]
     refine wpL.t 1 58 ?_ hQ ?_ ES ?_;rotate_left
     ·intro w' hSw;go_simp;try rfl
     try simp only [zP]
     refine wpL.t 3 60 ?_ hQ ?_ ES ?_;rotate_left
     ·intro w' hSw;go_simp;try rfl
     try simp only [zP]
     refine wpL.t 2 59 ?_ hQ ?_ ES ?_;rotate_left
     ·intro w' hSw;have k00 := (b10.ext hSw).c2;have k10 := (bx.ext hSw).c4;have k20 := (by_.ext hSw).c4;go_simp;try rfl
     try simp only [zP]
     refine wpL.t 4 61 ?_ hQ ?_ ES ?_;rotate_left
     ·intro w' hSw;have k00 := (b10.ext hSw).c2;have k10 := (bx.ext hSw).c4;have k20 := (by_.ext hSw).c4;go_simp;try rfl
     try simp only [zP]
     refine wpL.cl (i := 5) rfl (fun K hK => ?_);go_simp
     (go_at_call 123;refine (q_Mul (h.den.ext ES) (k.den.ext ES) (by omega) (by omega)).mono ?_;rintro e wk1 ⟨s5,A5,n5,c5,rfl,h5,hx0⟩;have E0_10 := Ext.trans ES hx0)
     refine hK.out _ _ E0_10 ?_;clear hK K
     try simp only [zP]
     refine wpL.t 6 63 ?_ hQ ?_ E0_10 ?_;rotate_left
     ·intro w' hSw;go_simp;try rfl
     try simp only [zP]
     have z0 := (bz.ext E0_10).cell 0 _ rfl;have z1 := (bz.ext E0_10).cell 1 _ rfl;have z2 := (bz.ext E0_10).cell 2 _ rfl;have z3 := (bz.ext E0_10).cell 3 _ rfl;have f0 := (bz.ext E0_10).frozen 0;have f1 := (bz.ext E0_10).frozen 1;have f2 := (bz.ext E0_10).frozen 2;have f3 := (bz.ext E0_10).frozen 3;refine wpL.tl (i := 7) rfl (fun K hK => ?_);go_simp;refine hK.out _ _ ?_;clear hK K
     try simp only [zP]
     refine wpL.done (by kernel_rfl) ?_ _;clear hQ
     go_wp2_with fail
     obtain ⟨e5,e6⟩ := rat_add_cop Hg1.out;obtain ⟨b1,b2,b3,b4⟩ := fin_quad (s := s4) (A := A4) (n := n4) (c := c4) (t := s5) (B := A5) (m := n5) (d := c5) (bz.ext E0_10);have r0 := b1.cell 0 (.bool s4) rfl;have r1 := b1.cell 1 (.slice A4 n4 c4) rfl;have r2 := b1.cell 2 (.bool s5) rfl;have r3 := b1.cell 3 (.slice A5 n5 c5) rfl;unfold set4 at r0 r1 r2 r3;refine bodyPost_ret (v := .agg #[.bool s4,.slice A4 n4 c4,.bool s5,.slice A5 n5 c5]) (by simp [results,Tryz.results84,go_sem,r0,r1,r2,r3]) rfl ⟨s4,A4,n4,c4,s5,A5,n5,c5,rfl,⟨?_,?_⟩,b3 _ (extW.trans E0_10) (by omega)⟩
     ·rw [e5];exact b2 _ _ _ _ _ _ (hS.ext E0_10)
     ·rw [e6];exact (b2 _ _ _ _ _ _ h5).le (by omega)
    ·rw [decide_eq_false h1g]
     clear h1g
     go_wp2_with fail
     have ES0 := Ext.refl V7;refine wp_region_held_drew (S := Ext V7) (by kernel_rfl) ES0.drew (fun ES => ?_);clear ES0;refine Late.start2 (x := ⟨8,7,28,#[Value.bool false,Value.slice none 0 0]⟩) (y := ⟨9,8,28,#[Value.bool false,Value.slice none 0 0]⟩) (n := 10) ⟨_,rfl,rfl,rfl,fun a w => by go_simp⟩ ⟨_,rfl,rfl,rfl,fun a w => by go_simp⟩ (fun _ _ _ _ _ => ⟨fun h => h,fun h => h⟩) ES rfl (fun hAl hQ => ?_);refine Late.t 0 64 ?_ hQ ?_ ?_;rotate_left
     ·intro w' hSw;go_simp;try rfl
     try simp only [zP]
     refine Late.t 2 66 ?_ hQ ?_ ?_;rotate_left
     ·intro w' hSw;have k00 := (bx.ext hSw).c4;have k10 := (by_.ext hSw).c4;have k20 := (b8.ext hSw).c2;go_simp;try rfl
     try simp only [zP]
     refine Late.t 4 68 ?_ hQ ?_ ?_;rotate_left
     ·intro w' hSw;go_simp;try rfl
     try simp only [zP]
     refine Late.t 6 70 ?_ hQ ?_ ?_;rotate_left
     ·intro w' hSw;have k00 := (bx.ext hSw).c4;have k10 := (by_.ext hSw).c4;have k20 := (b8.ext hSw).c2;go_simp;try rfl
     try simp only [zP]
     refine Late.t 1 65 ?_ hQ ?_ ?_;rotate_left
     ·intro w' hSw;have k00 := (bx.ext hSw).c4;have k10 := (by_.ext hSw).c4;have k20 := (b8.ext hSw).c2;go_simp;try rfl
     try simp only [zP]
     refine Late.t 5 69 ?_ hQ ?_ ?_;rotate_left
     ·intro w' hSw;have k00 := (bx.ext hSw).c4;have k10 := (by_.ext hSw).c4;have k20 := (b8.ext hSw).c2;go_simp;try rfl
     try simp only [zP]
     refine Late.cl (i := 3) rfl hAl hQ (fun w3 e3 E3 K hK => ?_);go_simp
     (go_at_call 124;refine (q_quo (h.den.ext E3) (hg.ext E3) (by omega) (by omega) Hg0.out Hgq.out).mono ?_;rintro e wk1 ⟨s2,A2,n2,c2',rfl,h1,hx3⟩)
     refine hK.out _ _ hx3 ?_;clear hK K
     try simp only [zP]
     refine Late.cl (i := 7) rfl hAl hQ (fun w7 e7 E7 K hK => ?_);go_simp
     (go_at_call 124;refine (q_quo (k.den.ext E7) (hg.ext E7) (by omega) (by omega) Hg0.out Hgp.out).mono ?_;rintro e wk2 ⟨s3,A3,n3,c3,rfl,h2,hx7⟩)
     refine hK.out _ _ hx7 ?_;clear hK K
     try simp only [zP]
     refine Late.finish2 (hAl _ (by simp)) (hAl _ (by simp)) (by decide) (by decide) (by kernel_rfl) (by kernel_rfl) (by kernel_rfl) (fun wz g9 g9y ez Ez lg5 lg6 hne xb1 xb2 => ?_);clear hAl hQ ES;have p10 := xb1.cell 0 (Value.bool false) rfl;have p11 := xb1.cell 1 (Value.slice none 0 0) rfl;have f10 := xb1.frozen 0;have f11 := xb1.frozen 1;have e4 := fin_dual (s := s2) (A := A2) (n := n2) (c := c2') xb1
     try simp only [zP]
     refine wpAnyH_ready (rs := [10]) (by kernel_rfl) (by simp) (AllReadyH.cons rfl (fun K hK => ?_) AllReadyH.nil);go_simp;refine hK.out _ _ (e4.2.2.1 _ Ez lg5) (fun _ => ?_);clear hK K
     try simp only [zP]
     have e5 := e4.2.2.2 _ _ _ (Ne.symm hne) xb2;refine any_world (fun U => Ext V7 U /\ Box U g9 28 #[.bool s2,.slice A2 n2 c2'] /\ Box U g9y 28 #[Value.bool false,Value.slice none 0 0] /\ NI U ((q.den : Int) / (g : Int)) L s2 A2 n2 c2' /\ NI U ((p.den : Int) / (g : Int)) M s3 A3 n3 c3) ⟨e4.2.2.1 _ Ez lg5,e4.1,e5,e4.2.1 _ _ _ _ _ _ (h1.ext (e7.trans (hx7.trans ez))),e4.2.1 _ _ _ _ _ _ (h2.ext ez)⟩ ?_;clear e4 e5 p10 p11 f10 f11 xb1 xb2;rintro U ⟨EU,b9,xb2,h1,h2⟩;have p10 := xb2.cell 0 (Value.bool false) rfl;have p11 := xb2.cell 1 (Value.slice none 0 0) rfl;have f10 := xb2.frozen 0;have f11 := xb2.frozen 1;have e4 := fin_dual (s := s3) (A := A3) (n := n3) (c := c3) xb2;refine wpAnyH_ready (rs := [11]) (by kernel_rfl) (by simp) (AllReadyH.cons rfl (fun K hK => ?_) AllReadyH.nil);go_simp;refine hK.out _ _ (e4.2.2.1 _ EU lg6) (fun _ => ?_);clear hK K
     try simp only [zP]
     refine any_world (fun U2 => Ext V7 U2 /\ Box U2 g9 28 #[.bool s2,.slice A2 n2 c2'] /\ Box U2 g9y 28 #[.bool s3,.slice A3 n3 c3] /\ NI U2 ((q.den : Int) / (g : Int)) L s2 A2 n2 c2' /\ NI U2 ((p.den : Int) / (g : Int)) M s3 A3 n3 c3) ⟨e4.2.2.1 _ EU lg6,e4.2.2.2 _ _ _ hne b9,e4.1,e4.2.1 _ _ _ _ _ _ h1,e4.2.1 _ _ _ _ _ _ h2⟩ ?_;clear e4 p10 p11 f10 f11 xb2 b9 h1 h2 lg5 lg6;rintro U2 ⟨EU2,b9,b9y,hD1,hD2⟩;refine wpAnyH_done (by kernel_rfl) ?_ _;replace bx := bx.ext EU2;replace by_ := by_.ext EU2;replace bz := bz.ext EU2;replace b8 := b8.ext EU2;replace h := h.ext EU2;replace k := k.ext EU2;replace hg := hg.ext EU2;replace extW := extW.trans EU2;clear EU EU2 Ez ez
     go_wp2_with fail
     have ES0 := Ext.refl U2;refine wp_region_held_drew (S := Ext U2) (by kernel_rfl) ES0.drew (fun ES => ?_);clear ES0;refine Late.start1 (x := ⟨9,9,28,#[Value.bool false,Value.slice none 0 0]⟩) (n := 10) ⟨_,rfl,rfl,rfl,fun a w => by go_simp⟩ (fun _ _ _ _ _ => ⟨fun h => h,fun h => h⟩) ES rfl (fun hAl hQ => ?_);refine Late.t 0 72 ?_ hQ ?_ ?_;rotate_left
     ·intro w' hSw;go_simp;try rfl
     try simp only [zP]
     refine Late.t 2 74 ?_ hQ ?_ ?_;rotate_left
     ·intro w' hSw;have k00 := (bx.ext hSw).c4;have k10 := (by_.ext hSw).c4;have k20 := (b9.ext hSw).c2;have k30 := (b9y.ext hSw).c2;go_simp;try rfl
     try simp only [zP]
     refine Late.t 4 76 ?_ hQ ?_ ?_;rotate_left
     ·intro w' hSw;go_simp;try rfl
     try simp only [zP]
     refine Late.t 6 78 ?_ hQ ?_ ?_;rotate_left
     ·intro w' hSw;have k00 := (bx.ext hSw).c4;have k10 := (by_.ext hSw).c4;have k20 := (b9.ext hSw).c2;have k30 := (b9y.ext hSw).c2;go_simp;try rfl
     try simp only [zP]
     refine Late.t 1 73 ?_ hQ ?_ ?_;rotate_left
     ·intro w' hSw;have k00 := (bx.ext hSw).c4;have k10 := (by_.ext hSw).c4;have k20 := (b9.ext hSw).c2;have k30 := (b9y.ext hSw).c2;go_simp;try rfl
     try simp only [zP]
     refine Late.t 5 77 ?_ hQ ?_ ?_;rotate_left
     ·intro w' hSw;have k00 := (bx.ext hSw).c4;have k10 := (by_.ext hSw).c4;have k20 := (b9.ext hSw).c2;have k30 := (b9y.ext hSw).c2;go_simp;try rfl
     try simp only [zP]
     refine Late.cl (i := 3) rfl hAl hQ (fun w3 e3 E3 K hK => ?_);go_simp
     (go_at_call 123;refine (q_Mul (h.num.ext E3) (hD2.ext E3) (by omega) (by omega)).mono ?_;rintro e wk2 ⟨s5,A5,n5,c5,rfl,h2,hx3⟩)
     refine hK.out _ _ hx3 ?_;clear hK K
     try simp only [zP]
     refine Late.cl (i := 7) rfl hAl hQ (fun w7 e7 E7 K hK => ?_);go_simp
     (go_at_call 123;refine (q_Mul (k.num.ext E7) (hD1.ext E7) (by omega) (by omega)).mono ?_;rintro e wk3 ⟨s6,A6,n6,c6,rfl,h3,hx7⟩)
     refine hK.out _ _ hx7 ?_;clear hK K
     try simp only [zP]
     refine Late.cl (i := 8) rfl hAl hQ (fun w8 e8 E8 K hK => ?_);go_simp
     (go_at_call 122;refine (q_Add (h2.ext (e7.trans (hx7.trans e8))) (h3.ext e8) (by omega) (by omega)).mono ?_;rintro e wk4 ⟨s4,A4,n4,c4,rfl,h4,hx8⟩)
     refine hK.out _ _ hx8 ?_;clear hK K
     try simp only [zP]
     refine Late.finish1 (hAl _ (by simp)) (by kernel_rfl) (fun wz g10 ez Ez lg5 xb1 => ?_);clear hAl hQ ES;have f10 := xb1.cell 0 (Value.bool false) rfl;have f11 := xb1.cell 1 (Value.slice none 0 0) rfl;have f12 := xb1.frozen 0;have f13 := xb1.frozen 1;have e4 := fin_dual (s := s4) (A := A4) (n := n4) (c := c4) xb1
     try simp only [zP]
     refine wpAnyH_ready (rs := [10]) (by kernel_rfl) (by simp) (AllReadyH.cons rfl (fun K hK => ?_) AllReadyH.nil);go_simp;refine hK.out _ _ (e4.2.2.1 _ Ez lg5) (fun _ => ?_);clear hK K
     try simp only [zP]
     refine any_world (fun U3 => Ext U2 U3 /\ Box U3 g10 28 #[.bool s4,.slice A4 n4 c4] /\ NI U3 (q.num * ((p.den : Int) / (g : Int)) + p.num * ((q.den : Int) / (g : Int))) (L + M + 1) s4 A4 n4 c4) ⟨e4.2.2.1 _ Ez lg5,e4.1,(e4.2.1 _ _ _ _ _ _ (h4.ext ez)).le (by omega)⟩ ?_;clear e4 f10 f11 f12 f13 xb1 lg5;rintro U3 ⟨EU3,b10,hS⟩;refine wpAnyH_done (by kernel_rfl) ?_ _;replace bx := bx.ext EU3;replace by_ := by_.ext EU3;replace bz := bz.ext EU3;replace b8 := b8.ext EU3;replace b9 := b9.ext EU3;replace h := h.ext EU3;replace k := k.ext EU3;replace hg := hg.ext EU3;replace hD1 := hD1.ext EU3;replace extW := extW.trans EU3;clear EU3 Ez ez b9y hD2;have j0 := b10.cell 0 (.bool s4) rfl;have j1 := b10.cell 1 (.slice A4 n4 c4) rfl;have j2 := b8.cell 0 (.bool s1) rfl;have j3 := b8.cell 1 (.slice A1 n1 c1') rfl
     go_wp2_with fail
     refine (q_GCD hS hg (by omega) (by omega)).mono ?_;rintro e wg ⟨s0,A0,n0,c0,rfl,hr,hxg⟩;rw [Int.natAbs_natCast] at hr;clear j0 j1 j2 j3;obtain ⟨S,hSe⟩ : ∃ S : Int,q.num * ((p.den : Int) / (g : Int)) + p.num * ((q.den : Int) / (g : Int)) = S := ⟨_,rfl⟩;rw [hSe] at hS hr;obtain ⟨r,hre⟩ : ∃ r,Nat.gcd S.natAbs g = r := ⟨_,rfl⟩;rw [hre] at hr;obtain ⟨q1,q2,q3,q4⟩ := rat_add q p (S := S) (r := r) Hge.out rfl rfl (by rw [<- hSe];simp) hre.symm;have Hq1 := Lib.hid q1;have Hq2 := Lib.hid q2;have Hr0 := Lib.hid (show (r : Int) ≠ 0 by omega);have Hrp := Lib.hid (Int.ofNat_dvd.2 q3);have HrS := Lib.hid (show (r : Int) ∣ S from Int.ofNat_dvd_left.2 (by rw [<- hre];exact Nat.gcd_dvd_left _ _));clear q1 q2 q3 q4 hre hSe
     go_upto_region 14 with (fail)
     refine at_world (fun Z9 => Ext U3 Z9 /\ Box Z9 wg.heap.size 28 #[.bool s0,.slice A0 n0 c0] /\ NI Z9 (r : Int) (max (L + M + 1) (max L M)) s0 A0 n0 c0) ⟨hxg.alloc _,Box.new wg _ _,hr.ext ((Ext.refl wg).alloc _)⟩ ?_;generalize wg.heap.size = g11;clear hxg hr;rintro Z9 ⟨EV,b11,hr⟩;replace bx := bx.ext EV;replace by_ := by_.ext EV;replace bz := bz.ext EV;replace b9 := b9.ext EV;replace b10 := b10.ext EV;replace h := h.ext EV;replace k := k.ext EV;replace hD1 := hD1.ext EV;replace hS := hS.ext EV;replace extW := extW.trans EV;clear EV
     go_wp2_with fail
     refine wpL.st 10 (fun hQ ES => ?_);refine wpL.t 0 84 ?_ hQ ?_ ES ?_;rotate_left
     ·intro w' hSw;have k00 := (b10.ext hSw).c2;have k10 := (b11.ext hSw).c2;have k20 := (b9.ext hSw).c2;have k30 := (by_.ext hSw).c4;go_simp;try rfl
     try simp only [zP]
     refine wpL.t 1 85 ?_ hQ ?_ ES ?_;rotate_left
     ·intro w' hSw;have k00 := (b10.ext hSw).c2;have k10 := (b11.ext hSw).c2;have k20 := (b9.ext hSw).c2;have k30 := (by_.ext hSw).c4;go_simp;try rfl
     try simp only [zP]
     refine wpL.t 3 87 ?_ hQ ?_ ES ?_;rotate_left
     ·intro w' hSw;have k00 := (b10.ext hSw).c2;have k10 := (b11.ext hSw).c2;have k20 := (b9.ext hSw).c2;have k30 := (by_.ext hSw).c4;go_simp;try rfl
     try simp only [zP]
     refine wpL.t 4 88 ?_ hQ ?_ ES ?_;rotate_left
     ·intro w' hSw;go_simp;try rfl
     try simp only [zP]
     refine wpL.t 6 90 ?_ hQ ?_ ES ?_;rotate_left
     ·intro w' hSw;have k00 := (b10.ext hSw).c2;have k10 := (b11.ext hSw).c2;have k20 := (b9.ext hSw).c2;have k30 := (by_.ext hSw).c4;go_simp;try rfl
     try simp only [zP]
     refine wpL.t 5 89 ?_ hQ ?_ ES ?_;rotate_left
     ·intro w' hSw;have k00 := (b10.ext hSw).c2;have k10 := (b11.ext hSw).c2;have k20 := (b9.ext hSw).c2;have k30 := (by_.ext hSw).c4;go_simp;try rfl
     try simp only [zP]
     refine wpL.cl (i := 2) rfl (fun K hK => ?_);go_simp
     (go_at_call 124;refine (q_quo (hS.ext ES) (hr.ext ES) (by omega) (by omega) Hr0.out HrS.out).mono ?_;rintro e wk1 ⟨s7,A7,n7,c7,rfl,h1,hx0⟩;have E0_14 := Ext.trans ES hx0)
     refine hK.out _ _ E0_14 ?_;clear hK K
     try simp only [zP]
     refine wpL.cl (i := 7) rfl (fun K hK => ?_);go_simp
     (go_at_call 124;refine (q_quo (k.den.ext E0_14) (hr.ext E0_14) (by omega) (by omega) Hr0.out Hrp.out).mono ?_;rintro e wk2 ⟨s8,A8,n8,c8,rfl,h2,hx1⟩;have E1_14 := Ext.trans E0_14 hx1)
     refine hK.out _ _ E1_14 ?_;clear hK K
     try simp only [zP]
     refine wpL.cl (i := 8) rfl (fun K hK => ?_);go_simp
     (go_at_call 123;refine (q_Mul (hD1.ext E1_14) (h2) (by omega) (by omega)).mono ?_;rintro e wk3 ⟨s9,A9,n9,c9,rfl,h3,hx2⟩;have E2_14 := Ext.trans E1_14 hx2)
     refine hK.out _ _ E2_14 ?_;clear hK K
     try simp only [zP]
     refine wpL.t 9 93 ?_ hQ ?_ E2_14 ?_;rotate_left
     ·intro w' hSw;go_simp;try rfl
     try simp only [zP]
     have z0 := (bz.ext E2_14).cell 0 _ rfl;have z1 := (bz.ext E2_14).cell 1 _ rfl;have z2 := (bz.ext E2_14).cell 2 _ rfl;have z3 := (bz.ext E2_14).cell 3 _ rfl;have f0 := (bz.ext E2_14).frozen 0;have f1 := (bz.ext E2_14).frozen 1;have f2 := (bz.ext E2_14).frozen 2;have f3 := (bz.ext E2_14).frozen 3;refine wpL.tl (i := 10) rfl (fun K hK => ?_);go_simp;refine hK.out _ _ ?_;clear hK K
     try simp only [zP]
     refine wpL.done (by kernel_rfl) ?_ _;clear hQ
     go_wp2_with fail
     have hk1 : ((q.den : Int) / (g : Int)) * ((p.den : Int) / (r : Int)) = ((q + p).den : Int) := by rw [Hq2.out];simp
     rw [hk1] at h3;rw [<- Hq1.out] at h1;obtain ⟨b1,b2,b3,b4⟩ := fin_quad (s := s7) (A := A7) (n := n7) (c := c7) (t := s9) (B := A9) (m := n9) (d := c9) (bz.ext E2_14);have r0 := b1.cell 0 (.bool s7) rfl;have r1 := b1.cell 1 (.slice A7 n7 c7) rfl;have r2 := b1.cell 2 (.bool s9) rfl;have r3 := b1.cell 3 (.slice A9 n9 c9) rfl;unfold set4 at r0 r1 r2 r3;refine bodyPost_ret (v := .agg #[.bool s7,.slice A7 n7 c7,.bool s9,.slice A9 n9 c9]) (by simp [results,Tryz.results84,go_sem,r0,r1,r2,r3]) rfl ⟨s7,A7,n7,c7,s9,A9,n9,c9,rfl,⟨?_,?_⟩,b3 _ (extW.trans E2_14) (by omega)⟩
     ·exact (b2 _ _ _ _ _ _ (h1.ext (hx1.trans hx2))).le (by omega)
     ·exact (b2 _ _ _ _ _ _ h3).le (by omega)
end
end
section
open Go.RowKit
theorem step_append_rat {w : World} {base L : Nat} {v : Value} {qs : List Rat} {q : Rat} {s t : Bool} {A B : Option Addr} {n c m d g : Nat} {ops : Array Oper} {o : Oper} {a : Act} {K : Act -> World -> Prop} {Q : Exit -> Act -> World -> Prop} {E : Prop} (hgd : o.guard = none) (x y : Operand)
  (ho : o.op = .call { callee := .builtin .append,args := #[x,y],argTypes := #[23,23] })
  (hx : a.eval x = v) (hy : a.eval y = .slice (some ⟨g,0,none⟩) 1 1)
  (h : Row4 w base v qs L) (hq : NR w q L s A n c t B m d) (hb : Box w g 30 #[.bool s,.slice A n c,.bool t,.slice B m d]) (hl : qs.length <= 1000) (hbase : base <= w.heap.size)
  (hK : ∀ v' w',Row4 w' base v' (qs ++ [q]) L -> w.grownBy w' v.ownBlock -> (v'.ownBlock = v.ownBlock \/ v'.ownBlock = some w.heap.size) -> K (a.put o.dst v') w') :
  if Region.wanted o (yielded ops a.tmps) = true then Oper.wp Tryz.prog o a w K Q else E := by
 have hw : Region.wanted o (yielded ops a.tmps) = true := by simp [Region.wanted,hgd]
 rw [if_pos hw];obtain ⟨v',w',hr,h2,h3,h5⟩ := run_append_rat (ty := o.type) h hq hb hl hbase;unfold Oper.wp execOp;simp only [ho,resolve,invoke,builtin,Sem.run_bind,Sem.run_pure,Result.andThen_ok,List.map_toArray,List.map_cons,List.map_nil,hx,hy,hr];exact hK v' w' h2 h3 h5
theorem Tryz.infoRat : (Tryz.prog.info? 30).map (fun i => (i.zero,i.size,i.bytes)) = some (some (.agg #[.bool false,.slice none 0 0,.bool false,.slice none 0 0]),4,64) := by kernel_rfl
end
section
open Go.RowKit
attribute [local go_sem ↓] Go.wp_at_zero Go.wp_at_succ
section
variable {w w' : World} {q x : Rat} {L M : Nat} {s t : Bool} {A B : Option Addr} {n c m d : Nat} {sx tx : Bool} {Ax Bx : Option Addr} {nx cx mx dx : Nat} {qs ps : List Rat} {rs : List RawR} {ts us : List (List RawR)}
theorem le_7000 {l : List RawR} (h : l.all (fun r => r.le 1000) = true) : l.all (fun r => r.le 7000) = true := List.all_eq_true.2 fun r hr => by
 have := List.all_eq_true.1 h r hr;unfold RawR.le at *;simp only [Bool.and_eq_true,decide_eq_true_eq] at *;exact ⟨by omega,by omega⟩
theorem p_formedT (h : RawT w A n c ts) (k : RawT w B m d us) (hn : n <= 16) (hm : m <= 16) (hr : ∀ l ∈ ts,l.all (fun r => r.le 1000) = true) (hr' : ∀ l ∈ us,l.all (fun r => r.le 1000) = true) (hT : Tab w) :
  Calls Tryz.prog 49 #[.slice A n c,.slice B m d] w fun e w' => e = .returned (.bool (formedB ts us)) /\ Ext w w' :=
 p_formedTG h k hn hm (fun l hl => le_7000 (hr l hl)) (fun l hl => le_7000 (hr' l hl)) hT
end
section
variable {w w' : World} {q x : Rat} {L M : Nat} {s t : Bool} {A B : Option Addr} {n c m d : Nat} {sx tx : Bool} {Ax Bx : Option Addr} {nx cx mx dx : Nat} {qs ps : List Rat} {rs : List RawR} {ts us : List (List RawR)}
variable {sy ty : Bool} {Ay By : Option Addr} {ny cy my dy : Nat}
set_option maxRecDepth 100000 in
theorem p_each6_Neg (h : Pol w A n c qs L) (hL : L <= 900) (hn : n <= 1000) : Calls Tryz.prog 61 #[.slice A n c,(.func (.func 76) #[] #[])] w (fun e w' => e = .returned (.slice (some ⟨w.heap.size,0,none⟩) n n) /\ RRow w' w.heap.size (qs.map (fun x : Rat => -x)) (L) /\ Ext w w') := by
 have hmk := mk_rats n (by omega);have Hlen := Lib.hid h.len
 go_enter Tryz.func61,Tryz.ntmps61
 go_wp2_with fail
 go_loopw [12] (fun i wr => ∃ k : Nat,k <= n /\ i = .int .i64 (k : Int) /\ Ext w wr /\ Fill wr w.heap.size n ((qs.take k).map (fun x : Rat => -x)) (L)) (fun i _ => n - (intOf i).toNat)
 case atStart => exact ⟨0,Nat.zero_le _,rfl,(Ext.refl w).alloc _,Fill.new w n _⟩
 case round =>
  obtain ⟨k,hk,rfl,ext,hF⟩ := hrel
  by_cases hlt : k < n
  ·have hj : k < qs.length := by rw [Hlen.out];exact hlt
   obtain ⟨b,off,rfl,hr⟩ := h.at_ (fun e => by rw [e] at hj;exact absurd hj (Nat.not_lt_zero _));obtain ⟨sx,Ax,nx,cx,tx,Bx,mx,dx,e0,e1,e2,e3,hx⟩ := (hr.ext ext).at_ k hj;have e0' : wr.cell? ⟨b,off + k * 4,none⟩ = some (.bool sx) := by rw [Nat.mul_comm];exact e0
   have e1' : wr.cell? ⟨b,off + k * 4 + 1,none⟩ = some (.slice Ax nx cx) := by rw [Nat.mul_comm];exact e1
   have e2' : wr.cell? ⟨b,off + k * 4 + 2,none⟩ = some (.bool tx) := by rw [Nat.mul_comm];exact e2
   have e3' : wr.cell? ⟨b,off + k * 4 + 3,none⟩ = some (.slice Bx mx dx) := by rw [Nat.mul_comm];exact e3
   have HT := Lib.hid (show (qs.take (k + 1)).map (fun x : Rat => -x) = (qs.take k).map (fun x : Rat => -x) ++ [(fun x : Rat => -x) qs[k]] by rw [List.take_succ_eq_append_getElem hj,List.map_append];rfl);have hkl : ((qs.take k).map (fun x : Rat => -x)).length = k := by rw [List.length_map,List.length_take,Hlen.out];omega
   go_wp2_with fail
   refine (p_NegR hx (by omega)).mono ?_;rintro e V ⟨s7,A7,n7,c7,t7,B7,m7,d7,rfl,h7,hxt⟩;replace hF := hF.ext hxt;replace ext := ext.trans hxt;have hcs := hF.cells (by rw [hkl];exact hlt);rw [hkl] at hcs;obtain ⟨p0,p1,p2,p3⟩ := hcs;have f0 := hF.frozen (k * 4);have f1 := hF.frozen (k * 4 + 1);have f2 := hF.frozen (k * 4 + 2);have f3 := hF.frozen (k * 4 + 3)
   go_wp2_with fail
   have P := hF.put hkl hlt h7
   go_roundw
   case rel => exact ⟨k + 1,by omega,by go_num,P.2.2.1 _ ext (Nat.le_refl _),by rw [HT.out];exact P.1⟩
   case measure => simp [intOf];omega
  ·have hkn : k = n := by omega
   subst hkn;have hml : ((qs.take k).map (fun x : Rat => -x)).length = k := by rw [List.length_map,List.length_take,Hlen.out];omega
   have hp := hF.rrow hml;rw [List.take_of_length_le (Nat.le_of_eq Hlen.out)] at hp
   go_wp2_with fail
   go_ret
   exact ⟨rfl,hp,ext⟩
end
section
variable {w w' : World} {q x : Rat} {L M : Nat} {s t : Bool} {A B : Option Addr} {n c m d b o N : Nat} {sx tx : Bool} {Ax Bx : Option Addr} {nx cx mx dx : Nat} {qs ps : List Rat} {rs : List RawR} {ts us : List (List RawR)}
theorem p_NegT {T : List (List Rat)} (h : PolT w A n c T L) (ht : TowL T) (hq : Pol w B m d qs M) (hm : m = 2 ^ n) (hL : L <= 1000) (hM : M <= 900) (hn : n <= 9) (hT : Tab w) :
  Calls Tryz.prog 28 #[.slice A n c,.slice B m d] w (RetPol (negL qs) M w) := by
 have hP1 : m <= 512 := by rw [hm];exact Nat.le_trans (Nat.pow_le_pow_right (by omega) hn) (by decide)
 have Hm := Lib.hid hm;clear hm;have hnb := Box.new w 23 #[.slice B m d];have e1 := (Ext.refl w).alloc (.cells #[.slice B m d] 23)
 go_enter Tryz.func28,Tryz.ntmps28
 go_wp2_with fail
 refine (p_formed1 (L := 1000) ((h.le hL).ext e1) ht hnb ((hq.le (by omega)).ext e1) Hm.out (by omega) (by omega) (hT.ext e1)).mono ?_;rintro e V ⟨rfl,hxt⟩;replace e1 := e1.trans hxt
 go_wp2_with fail
 refine (p_each6_Neg (hq.ext e1) (by omega) (by omega)).mono ?_;rintro e V2 ⟨rfl,hR,hxu⟩
 go_wp2_with fail
 go_ret
 exact ⟨_,m,m,rfl,hR.pol (by rw [List.length_map,hq.len]) (by unfold maxLen;omega),e1.trans hxu⟩
theorem p_NegT_no {r1 : List RawR} (h : RawT w A n c ts) (hq : RawP w B m d r1) (hn : n <= 16) (hr : ∀ l ∈ ts,l.all (fun r => r.le 1000) = true) (h1 : r1.all (fun r => r.le 1000) = true) (hf : formedB ts [r1] = false) (hT : Tab w) :
  Calls Tryz.prog 28 #[.slice A n c,.slice B m d] w fun e w' => e = .returned (.slice none 0 0) /\ Ext w w' := by
 have Hf := Lib.hid hf;clear hf;have hnb := Box.new w 23 #[.slice B m d];have e1 := (Ext.refl w).alloc (.cells #[.slice B m d] 23)
 go_enter Tryz.func28,Tryz.ntmps28
 go_wp2_with fail
 refine (p_formedT (h.ext e1) (RawT.one hnb (hq.ext e1)) hn (by omega) hr (fun l hl => by rw [List.mem_singleton.1 hl];exact h1) (hT.ext e1)).mono ?_;rintro e V ⟨rfl,hxt⟩;rw [Hf.out]
 go_wp2_with fail
 go_ret
 exact ⟨rfl,e1.trans hxt⟩
end
section
variable {w w' : World} {q x : Rat} {L M : Nat} {s t : Bool} {A B : Option Addr} {n c m d : Nat} {sx tx : Bool} {Ax Bx : Option Addr} {nx cx mx dx : Nat} {qs ps : List Rat} {rs : List RawR} {ts us : List (List RawR)}
theorem q_ZeroT (h : Pol w A n c qs L) (hn : n <= 100000) : Calls Tryz.prog 36 #[.slice A n c] w fun e w' => e = .returned (.bool (zeroB qs)) /\ Ext w w' := by
 have Hlen := Lib.hid h.len
 go_enter Tryz.func36,Tryz.ntmps36
 go_wp2_with fail
 go_loopw [3] (fun i wr => ∃ k : Nat,k <= n /\ i = .int .i64 (k : Int) /\ Ext w wr /\ zeroB (qs.take k) = true) (fun i _ => n - (intOf i).toNat)
 case atStart => exact ⟨0,by omega,rfl,Ext.refl _,by simp [zeroB]⟩
 case round =>
  obtain ⟨k,hk,rfl,ext,hall⟩ := hrel;have HA := Lib.hid hall;clear hall
  by_cases hlt : k < n
  ·have hj : k < qs.length := by rw [Hlen.out];exact hlt
   have hI : (k : Int) < (n : Int) := by omega
   obtain ⟨p,off,rfl,hr⟩ := h.at_ (fun e => by rw [e] at hj;exact absurd hj (Nat.not_lt_zero _));obtain ⟨sx,Ax,nx,cx,tx,Bx,mx,dx,e0,e1,e2,e3,hx⟩ := (hr.ext ext).at_ k hj;have e0' : wr.cell? ⟨p,off + k * 4,none⟩ = some (.bool sx) := by rw [Nat.mul_comm];exact e0
   have e1' : wr.cell? ⟨p,off + k * 4 + 1,none⟩ = some (.slice Ax nx cx) := by rw [Nat.mul_comm];exact e1
   have e2' : wr.cell? ⟨p,off + k * 4 + 2,none⟩ = some (.bool tx) := by rw [Nat.mul_comm];exact e2
   have e3' : wr.cell? ⟨p,off + k * 4 + 3,none⟩ = some (.slice Bx mx dx) := by rw [Nat.mul_comm];exact e3
   have HT := Lib.hid (show zeroB (qs.take (k + 1)) = (zeroB (qs.take k) && decide (qs[k] = 0)) by unfold zeroB;rw [List.take_succ_eq_append_getElem hj,List.all_append];simp)
   have HM := Lib.hid (fun hf : qs[k] ≠ 0 => show zeroB qs = false by
    unfold zeroB;rw [List.all_eq_false];exact ⟨qs[k],List.getElem_mem hj,by simpa using hf⟩)
   generalize qs[k] = r at hx HT HM;have hz0 : nx = 0 ↔ r = 0 := hx.num.zero.trans Rat.num_eq_zero;clear e0 e1 e2 e3
   by_cases hq : r = 0
   ·have hx0 := hz0.2 hq
    have HQ := Lib.hid hq;clear hq hz0;subst hx0
    go_wp2_with fail
    go_roundw
    case rel => exact ⟨k + 1,by omega,by go_num,ext,by rw [HT.out,HA.out,decide_eq_true HQ.out];rfl⟩
    case measure => simp [intOf];omega
   ·have hx0 : 0 < nx := by
     rcases Nat.eq_zero_or_pos nx with h0 | h0
     ·exact absurd (hz0.1 h0) hq
     ·exact h0
    have hxi : (0 : Int) < (nx : Int) := by omega
    have HQ := Lib.hid hq;clear hq hz0
    go_wp2_with fail
    go_ret
    exact ⟨by rw [HM.out HQ.out];rfl,ext⟩
  ·have hI : (n : Int) <= (k : Int) := by omega
   go_wp2_with fail
   go_ret
   refine ⟨?_,ext⟩;have ha := HA.out;rw [List.take_of_length_le (by rw [Hlen.out];omega)] at ha;rw [ha];rfl
set_option maxRecDepth 100000 in
theorem q_NegT {T : Option Addr} {nt ct : Nat} (h : Pol w A n c qs L) (hL : L <= 1000) (hn : n <= 100) : Calls Tryz.prog 30 #[.slice T nt ct,.slice A n c] w (RetPol (qs.map fun q : Rat => -q) L w) := by
 have HL := Lib.hid h.len
 go_enter Tryz.func30,Tryz.ntmps30
 go_wp2_with fail
 go_loopw [5,6] (fun v i wr => ∃ k : Nat,k <= n /\ i = .int .i64 (k : Int) /\ Ext w wr /\ Row4 wr w.heap.size v ((qs.take k).map fun q : Rat => -q) L) (fun _ i _ => n - (intOf i).toNat)
 case atStart => exact ⟨0,Nat.zero_le _,rfl,Ext.refl w,by rw [List.take_zero];exact Row4.nil _ _ _⟩
 case round =>
  obtain ⟨k,hk,rfl,extr,hrow⟩ := hrel
  rename_i v _
  by_cases hlt : k < n
  ·have hkI : (k : Int) < (n : Int) := by omega
   have hj : k < qs.length := by rw [HL.out];exact hlt
   obtain ⟨p,off,rfl,hr⟩ := h.at_ (fun e => by rw [e] at hj;exact absurd hj (Nat.not_lt_zero _));obtain ⟨sx,Ax,nx,cx,tx,Bx,mx,dx,e0,e1,e2,e3,hx⟩ := (hr.ext extr).at_ k hj;have e0' : wr.cell? ⟨p,off + k * 4,none⟩ = some (.bool sx) := by rw [Nat.mul_comm];exact e0
   have e1' : wr.cell? ⟨p,off + k * 4 + 1,none⟩ = some (.slice Ax nx cx) := by rw [Nat.mul_comm];exact e1
   have e2' : wr.cell? ⟨p,off + k * 4 + 2,none⟩ = some (.bool tx) := by rw [Nat.mul_comm];exact e2
   have e3' : wr.cell? ⟨p,off + k * 4 + 3,none⟩ = some (.slice Bx mx dx) := by rw [Nat.mul_comm];exact e3
   have HT := Lib.hid (show (qs.take (k + 1)).map (fun q : Rat => -q) = (qs.take k).map (fun q : Rat => -q) ++ [-qs[k]] by rw [List.take_succ_eq_append_getElem hj,List.map_append];rfl);have hlen : ((qs.take k).map (fun q : Rat => -q)).length <= 1000 := by rw [List.length_map,List.length_take];omega
   generalize qs[k] = r at hx HT
   go_wp2_with fail
   refine (q_NegR hx hL).mono ?_;rintro e W5 ⟨s7,A7,n7,c7,t7,B7,m7,d7,rfl,h7,ext5⟩;have ha5 := (ext5).alloc (.cells #[.bool s7,.slice A7 n7 c7,.bool t7,.slice B7 m7 d7] 30);replace extr := extr.trans ha5;replace hrow := hrow.ext ha5;replace h7 := h7.ext ((Ext.refl W5).alloc (.cells #[.bool s7,.slice A7 n7 c7,.bool t7,.slice B7 m7 d7] 30));clear ext5 ha5 e0 e1 e2 e3 e0' e1' e2' e3'
   go_wp2_with (at_builtin;refine wpList_append_rat rfl _ _ rfl rfl rfl hrow h7 (Box.new W5 _ _) hlen extr.size ?_;intro v6 W6 hrow6 hgr hob)
   go_roundw
   case rel =>
    refine ⟨k + 1,by omega,by go_num,Below.grown extr hgr extr.size (fun k hk => (hrow.block k hk).1),?_⟩;rw [HT.out];exact hrow6
   case measure => simp [intOf];omega
  ·have hkn : k = n := by omega
   subst hkn;rw [List.take_of_length_le (Nat.le_of_eq HL.out)] at hrow;obtain ⟨A9,n9,c9,rfl,hp⟩ := hrow.polT;have hI : (k : Int) <= (k : Int) := Int.le_refl _
   go_wp2_with fail
   go_ret
   exact ⟨A9,n9,c9,rfl,hp,extr⟩
end
section
variable {w w' : World} {q x : Rat} {L M : Nat} {s t : Bool} {A B : Option Addr} {n c m d : Nat} {sx tx : Bool} {Ax Bx : Option Addr} {nx cx mx dx : Nat} {qs ps : List Rat} {rs : List RawR} {ts us : List (List RawR)}
variable {sy ty : Bool} {Ay By : Option Addr} {ny cy my dy : Nat}
set_option maxRecDepth 100000 in
theorem q_AddT4 {T D : Option Addr} {nt ct e9 : Nat} {ps : List Rat} (h : Pol w A n c qs L) (h' : Pol w D n e9 ps M) (hL : L <= 1000) (hM : M <= 1000) (hn : n <= 100) : Calls Tryz.prog 43 #[.slice T nt ct,.slice A n c,.slice D n e9] w (fun e w' => ∃ A' c',e = .returned (.slice A' n c') /\ Row4 w' w.heap.size (.slice A' n c') (List.zipWith (fun x y : Rat => x + y) qs ps) (L + M + 1) /\ Ext w w') := by
 have HL := Lib.hid h.len;have HL' := Lib.hid h'.len
 go_enter Tryz.func43,Tryz.ntmps43
 go_wp2_with fail
 go_loopw [7,8] (fun v i wr => ∃ k : Nat,k <= n /\ i = .int .i64 (k : Int) /\ Ext w wr /\ Row4 wr w.heap.size v (List.zipWith (fun x y : Rat => x + y) (qs.take k) (ps.take k)) (L + M + 1)) (fun _ i _ => n - (intOf i).toNat)
 case atStart => exact ⟨0,Nat.zero_le _,rfl,Ext.refl w,by rw [List.take_zero,List.take_zero];exact Row4.nil _ _ _⟩
 case round =>
  obtain ⟨k,hk,rfl,extr,hrow⟩ := hrel
  rename_i v _
  by_cases hlt : k < n
  ·have hkI : (k : Int) < (n : Int) := by omega
   have hj : k < qs.length := by rw [HL.out];exact hlt
   have hj' : k < ps.length := by rw [HL'.out];exact hlt
   obtain ⟨p,off,rfl,hr⟩ := h.at_ (fun e => by rw [e] at hj;exact absurd hj (Nat.not_lt_zero _));obtain ⟨p',off',rfl,hr'⟩ := h'.at_ (fun e => by rw [e] at hj';exact absurd hj' (Nat.not_lt_zero _));obtain ⟨sx,Ax,nx,cx,tx,Bx,mx,dx,e0,e1,e2,e3,hx⟩ := (hr.ext extr).at_ k hj;have e0' : wr.cell? ⟨p,off + k * 4,none⟩ = some (.bool sx) := by rw [Nat.mul_comm];exact e0
   have e1' : wr.cell? ⟨p,off + k * 4 + 1,none⟩ = some (.slice Ax nx cx) := by rw [Nat.mul_comm];exact e1
   have e2' : wr.cell? ⟨p,off + k * 4 + 2,none⟩ = some (.bool tx) := by rw [Nat.mul_comm];exact e2
   have e3' : wr.cell? ⟨p,off + k * 4 + 3,none⟩ = some (.slice Bx mx dx) := by rw [Nat.mul_comm];exact e3
   obtain ⟨sy,Ay,ny,cy,ty,By,my,dy,i0,i1,i2,i3,hy⟩ := (hr'.ext extr).at_ k hj';have i0' : wr.cell? ⟨p',off' + k * 4,none⟩ = some (.bool sy) := by rw [Nat.mul_comm];exact i0
   have i1' : wr.cell? ⟨p',off' + k * 4 + 1,none⟩ = some (.slice Ay ny cy) := by rw [Nat.mul_comm];exact i1
   have i2' : wr.cell? ⟨p',off' + k * 4 + 2,none⟩ = some (.bool ty) := by rw [Nat.mul_comm];exact i2
   have i3' : wr.cell? ⟨p',off' + k * 4 + 3,none⟩ = some (.slice By my dy) := by rw [Nat.mul_comm];exact i3
   have HT := Lib.hid (show List.zipWith (fun x y : Rat => x + y) (qs.take (k + 1)) (ps.take (k + 1)) = List.zipWith (fun x y : Rat => x + y) (qs.take k) (ps.take k) ++ [qs[k] + ps[k]] by
    rw [List.take_succ_eq_append_getElem hj,List.take_succ_eq_append_getElem hj',List.zipWith_append (by rw [List.length_take,List.length_take];omega)];rfl)
   have hlen : (List.zipWith (fun x y : Rat => x + y) (qs.take k) (ps.take k)).length <= 1000 := by rw [List.length_zipWith,List.length_take,List.length_take];omega
   generalize qs[k] = r at hx HT;generalize ps[k] = r' at hy HT;clear e0 e1 e2 e3 i0 i1 i2 i3
   go_upto_region 5 with (fail)
   refine wpL.st 11 (fun hQ ES => ?_);refine wpL.uB [11] 0 15 hQ ES ?_
   try simp only [zP]
   refine wpL.uB [3,4,9,10,11] 1 16 hQ ES ?_
   try simp only [zP]
   refine wpL.uB [3,4,9,10,11] 2 17 hQ ES ?_
   try simp only [zP]
   refine wpL.uB [4,9,10,11] 3 18 hQ ES ?_
   try simp only [zP]
   refine wpL.tB [9,10,11] 4 19 ?v_4 hQ ?y_4 ES ?_
   case y_4 => intro w' hSw;have q0_ := hSw.cellv e0';have q1_ := hSw.cellv e1';have q2_ := hSw.cellv e2';have q3_ := hSw.cellv e3';have q4_ := hSw.cellv i0';have q5_ := hSw.cellv i1';have q6_ := hSw.cellv i2';have q7_ := hSw.cellv i3';go_simp;try rfl
   try simp only [zP]
   refine wpL.uB [7,8,9,10,11] 5 20 hQ ES ?_
   try simp only [zP]
   refine wpL.uB [7,8,9,10,11] 6 21 hQ ES ?_
   try simp only [zP]
   refine wpL.uB [8,9,10,11] 7 22 hQ ES ?_
   try simp only [zP]
   refine wpL.tB [9,10,11] 8 23 ?v_8 hQ ?y_8 ES ?_
   case y_8 => intro w' hSw;have q0_ := hSw.cellv e0';have q1_ := hSw.cellv e1';have q2_ := hSw.cellv e2';have q3_ := hSw.cellv e3';have q4_ := hSw.cellv i0';have q5_ := hSw.cellv i1';have q6_ := hSw.cellv i2';have q7_ := hSw.cellv i3';go_simp;try rfl
   try simp only [zP]
   refine wpL.cl (i := 9) rfl (fun K hK => ?_);go_simp
   (go_at_call 84;refine (q_AddR (hx.ext ES) (hy.ext ES) hL hM).mono ?_;rintro e wa ⟨s7,A7,n7,c7,t7,B7,m7,d7,rfl,h7,hx0⟩;have E4 := Ext.trans ES hx0)
   refine hK.out _ _ E4 ?_;clear hK K
   try simp only [zP]
   refine wpL.cl (i := 10) rfl (fun K hK => ?_);go_simp;obtain ⟨wb,hwb,exb,bb,hzb⟩ := box1 wa 30 #[.bool s7,.slice A7 n7 c7,.bool t7,.slice B7 m7 d7];rw [<- hwb];have E5 := E4.trans exb;refine hK.out _ _ E5 ?_;clear hK K hwb hzb
   try simp only [zP]
   refine wpL.tl (i := 11) rfl (fun K hK => ?_);refine step_append_rat rfl _ _ rfl rfl rfl (hrow.ext E5) (h7.ext exb) bb hlen (extr.trans E5).size ?_;intro v6 w6 q1 q2 _;refine hK.out _ _ ?_
   try simp only [List.getElem_toArray,List.getElem_cons_succ,List.getElem_cons_zero]
   clear hK K
   try simp only [zP]
   refine wpL.tl (i := 12) rfl (fun K hK => ?_);go_simp;refine hK.out _ _ ?_;clear hK K
   try simp only [zP]
   refine wpL.done (by kernel_rfl) ?_ _;clear hQ;have hg := Below.grown (extr.trans E5) q2 (extr.trans E5).size (fun k hk => ((hrow.ext E5).block k hk).1)
   go_wp2_with fail
   go_roundw
   case rel => exact ⟨k + 1,by omega,by go_num,hg,by rw [HT.out];exact q1⟩
   case measure => simp [intOf];omega
  ·have hkn : k = n := by omega
   subst hkn;rw [List.take_of_length_le (Nat.le_of_eq HL.out),List.take_of_length_le (Nat.le_of_eq HL'.out)] at hrow;obtain ⟨A9,n9,c9,rfl,hp⟩ := hrow.polT;obtain rfl : k = n9 := by rw [<- hp.len,List.length_zipWith,HL.out,HL'.out,Nat.min_self]
   have hI : (k : Int) <= (k : Int) := Int.le_refl _
   go_wp2_with fail
   go_ret
   exact ⟨A9,c9,rfl,hrow,extr⟩
theorem q_AddT {T D : Option Addr} {nt ct e9 : Nat} {ps : List Rat} (h : Pol w A n c qs L) (h' : Pol w D n e9 ps M) (hL : L <= 1000) (hM : M <= 1000) (hn : n <= 100) : Calls Tryz.prog 43 #[.slice T nt ct,.slice A n c,.slice D n e9] w (RetPol (List.zipWith (fun x y : Rat => x + y) qs ps) (L + M + 1) w) := by
 refine (q_AddT4 h h' hL hM hn).mono ?_;rintro e V ⟨A1,c1,rfl,hr,hx⟩;obtain ⟨_,_,_,e1,hp⟩ := hr.polT
 injection e1 with e1 e2 e3
 subst e1 e2 e3;exact ⟨_,_,_,rfl,hp,hx⟩
theorem q_SubT {T D : Option Addr} {nt ct e9 : Nat} {ps : List Rat} (h : Pol w A n c qs L) (h' : Pol w D n e9 ps M) (hL : L <= 1000) (hM : M <= 1000) (hn : n <= 100) : Calls Tryz.prog 79 #[.slice T nt ct,.slice A n c,.slice D n e9] w (RetPol (List.zipWith (fun x y : Rat => x + y) qs (ps.map fun q : Rat => -q)) (L + M + 1) w) := by
 have HL' := Lib.hid h'.len
 go_enter Tryz.func79,Tryz.ntmps79
 go_wp2_with fail
 refine (q_NegT h' hM hn).mono ?_;rintro e V ⟨A5,n5,c5,rfl,h5,hx⟩;obtain rfl : n = n5 := by rw [<- h5.len,List.length_map,HL'.out]
 go_wp2_with fail
 refine (q_AddT (h.ext hx) h5 hL hM hn).mono ?_;rintro e V2 ⟨A6,n6,c6,rfl,h6,hx2⟩
 go_wp2_with fail
 go_ret
 exact ⟨A6,n6,c6,rfl,h6,hx.trans hx2⟩
end
end
end Go.Proofs.YtgagcochepnelaaGreatDoor
