/- Walks and laws, a part. -/
import Derived.Test.YtgagcochepnelaaGreatDoorP0
import Derived.Test.YtgagcochepnelaaGreatDoorP1
import Derived.Test.YtgagcochepnelaaGreatDoorP2
import Derived.Test.YtgagcochepnelaaGreatDoorP3
import Derived.Test.YtgagcochepnelaaGreatDoorP4
import Derived.Test.YtgagcochepnelaaGreatDoorP5
import Derived.Test.YtgagcochepnelaaGreatDoorP6
import Derived.Test.YtgagcochepnelaaGreatDoorP7
import Derived.Test.YtgagcochepnelaaGreatDoorP8
import Derived.Test.YtgagcochepnelaaGreatDoorP9
import Derived.Test.YtgagcochepnelaaGreatDoorP10
import Derived.Test.YtgagcochepnelaaGreatDoorP11
import Derived.Test.YtgagcochepnelaaGreatDoorP12
import Derived.Test.YtgagcochepnelaaGreatDoorP13
import Derived.Maps.AppendAt
set_option linter.unusedSimpArgs false
set_option linter.unusedVariables false
set_option maxHeartbeats 64000000
namespace Go.Proofs.YtgagcochepnelaaGreatDoor
section
theorem rat_add (a b : Rat) {g D1 D2 : Nat} {S : Int} {r : Nat} (hg : g = a.den.gcd b.den) (h1 : D1 = a.den / g) (h2 : D2 = b.den / g) (hS : S = a.num * D2 + b.num * D1) (hr : r = S.natAbs.gcd g) :
  (a + b).num = S / (r : Int) /\ (a + b).den = D1 * (b.den / r) /\ r ∣ b.den /\ r ≠ 0 := by
 have haux : S.natAbs.gcd g = S.natAbs.gcd (D1 * b.den) := by
  rw [hS];exact Rat.add.aux a b hg h1 h2
 have hg0 : g ≠ 0 := by rw [hg]; exact Nat.gcd_ne_zero_left a.den_nz
 have e1 : D1 * g = a.den := by rw [h1, hg]; exact Nat.div_mul_cancel (Nat.gcd_dvd_left _ _)
 have e2 : D2 * g = b.den := by rw [h2, hg]; exact Nat.div_mul_cancel (Nat.gcd_dvd_right _ _)
 have hD1 : D1 ≠ 0 := by rintro rfl; have := a.den_nz; simp at e1; omega
 have hsum : a + b = mkRat S (D1 * b.den) := by
  rw [Rat.add_def', <- Rat.mkRat_mul_right hg0 (n := S) (d := D1 * b.den)]
  congr 1
  ·rw [hS, Int.add_mul, Int.mul_assoc, Int.mul_assoc, <- Int.natCast_mul, <- Int.natCast_mul, e1, e2]
  ·rw [Nat.mul_right_comm, e1]
 have hrg : r ∣ g := by rw [hr]; exact Nat.gcd_dvd_right _ _
 have hrb : r ∣ b.den := Nat.dvd_trans hrg (by rw [hg]; exact Nat.gcd_dvd_right _ _);have hr0 : r ≠ 0 := by rintro rfl; exact hg0 (Nat.eq_zero_of_zero_dvd hrg)
 obtain ⟨p1, p2⟩ := mkRat_parts S (D := D1 * b.den) (Nat.mul_ne_zero hD1 b.den_nz);rw [hsum, p1, p2, <- haux, <- hr];exact ⟨rfl, Nat.mul_div_assoc _ hrb, hrb, hr0⟩
end
section
open Go.RowKit
attribute [local go_sem ↓] Go.wp_at_zero Go.wp_at_succ
section
variable {w w' : World} {z y : Int} {q p : Rat} {L M : Nat} {s t s' t' : Bool} {A B A' B' : Option Addr} {n c m d n' c' m' d' : Nat}
theorem p_plus {a b a' b' : Int} (h : Sm q a b) (k : Sm p a' b') : Calls Tryz.prog 98 #[.agg #[.int .i64 a, .int .i64 b], .agg #[.int .i64 a', .int .i64 b']] w (RetNR (q + p) 2 w) := by
 obtain ⟨h1, h2, h3, h4⟩ := h;obtain ⟨k1, k2, k3, k4⟩ := k;have hb0 : 0 < b := by have := q.den_pos; omega
 have hb0' : 0 < b' := by have := p.den_pos; omega
 have m1 := mul31 h3 k4;have m2 := mul31 k3 h4;have m3 := mul31 h4 k4;have m4 := mul31 h3 k3;have hpos : 0 < b * b' := Int.mul_pos hb0 hb0'
 have hval : mkRat (a * b' + a' * b) (b * b').natAbs = q + p := by
  rw [Rat.add_def', Int.natAbs_mul, h1, h2, k1, k2, Int.natAbs_natCast, Int.natAbs_natCast]
 have Hval := Lib.hid hval;clear hval h1 h2 k1 k2;obtain ⟨u1, hu1⟩ : ∃ u, a * b' = u := ⟨_, rfl⟩;obtain ⟨u2, hu2⟩ : ∃ u, a' * b = u := ⟨_, rfl⟩;obtain ⟨u3, hu3⟩ : ∃ u, b * b' = u := ⟨_, rfl⟩;obtain ⟨u4, hu4⟩ : ∃ u, a * a' = u := ⟨_, rfl⟩;rw [hu1] at m1;rw [hu2] at m2;rw [hu3] at m3 hpos;rw [hu4] at m4;have Hu1 := Lib.hid hu1;have Hu2 := Lib.hid hu2;have Hu3 := Lib.hid hu3;have Hu4 := Lib.hid hu4;have w1 : IntKind.i64.wrap u1 = u1 := IntWalk.i64_in _ (by omega);have w2 : IntKind.i64.wrap u2 = u2 := IntWalk.i64_in _ (by omega);have w3 : IntKind.i64.wrap u3 = u3 := IntWalk.i64_in _ (by omega);have w4 : IntKind.i64.wrap u4 = u4 := IntWalk.i64_in _ (by omega);have v1 : wrap64 u1 = u1 := IntWalk.wrap64_in _ (by omega);have v2 : wrap64 u2 = u2 := IntWalk.wrap64_in _ (by omega);have v3 : wrap64 u3 = u3 := IntWalk.wrap64_in _ (by omega);have v4 : wrap64 u4 = u4 := IntWalk.wrap64_in _ (by omega);have w5 : IntKind.i64.wrap (u1 + u2) = u1 + u2 := IntWalk.i64_in _ (by omega);have v5 : wrap64 (u1 + u2) = u1 + u2 := IntWalk.wrap64_in _ (by omega)
 go_enter Tryz.func98, Tryz.ntmps98
 go_upto_region 1 with (fail)
 obtain ⟨W, hW, extW, bx, by_, bz, hz⟩ := box3 w 94 94 30 #[.int .i64 a, .int .i64 b] #[.int .i64 a', .int .i64 b'] #[Value.bool false, Value.slice none 0 0, Value.bool false, Value.slice none 0 0];rw [<- hW];clear hW;have x0 := bx.cell 0 (.int .i64 a) rfl;have x1 := bx.cell 1 (.int .i64 b) rfl;have y0 := by_.cell 0 (.int .i64 a') rfl;have y1 := by_.cell 1 (.int .i64 b') rfl
 go_wp2_with fail
 refine (p_lowest _ _ hpos (by omega) (by omega)).mono ?_;rintro e wa ⟨s, A, n, c, t, B, m, d, rfl, hr, hxa⟩;rw [<- Hu3.out] at hr;have z0 := (bz.ext hxa).cell 0 _ rfl;have z1 := (bz.ext hxa).cell 1 _ rfl;have z2 := (bz.ext hxa).cell 2 _ rfl;have z3 := (bz.ext hxa).cell 3 _ rfl;have f0 := (bz.ext hxa).frozen 0;have f1 := (bz.ext hxa).frozen 1;have f2 := (bz.ext hxa).frozen 2;have f3 := (bz.ext hxa).frozen 3
 go_wp2_with fail
 rw [<- Hu1.out, <- Hu2.out, Hval.out] at hr;obtain ⟨b1, b2, b3, b4⟩ := fin_quad (s := s) (A := A) (n := n) (c := c) (t := t) (B := B) (m := m) (d := d) (bz.ext hxa);have r0 := b1.cell 0 (.bool s) rfl;have r1 := b1.cell 1 (.slice A n c) rfl;have r2 := b1.cell 2 (.bool t) rfl;have r3 := b1.cell 3 (.slice B m d) rfl;unfold set4 at r0 r1 r2 r3;refine bodyPost_ret (v := .agg #[.bool s, .slice A n c, .bool t, .slice B m d]) (by simp [results, Tryz.results98, go_sem, r0, r1, r2, r3]) rfl ⟨s, A, n, c, t, B, m, d, rfl, ⟨?_, ?_⟩, b3 _ (extW.trans hxa) (by omega)⟩
 ·exact b2 _ _ _ _ _ _ hr.num
 ·exact b2 _ _ _ _ _ _ hr.den
theorem rat_add_one {q p : Rat} (h1 : (q.den : Int) = 1) (h2 : (p.den : Int) = 1) : ((q.num + p.num : Int) : Rat) = q + p := by
 have e1 : q.den = 1 := by omega
 have e2 : p.den = 1 := by omega
 rw [Rat.add_def', e1, e2];simp [Rat.mkRat_one]
set_option maxRecDepth 100000 in
theorem p_AddG (h : NR w q L s A n c t B m d) (k : NR w p M s' A' n' c' t' B' m' d') (hL : L <= 1000) (hM : M <= 1000) (hT : Tab w) : Calls Tryz.prog 58 #[.agg #[.bool s, .slice A n c, .bool t, .slice B m d], .agg #[.bool s', .slice A' n' c', .bool t', .slice B' m' d']] w (RetNR (q + p) (L + M + 1) w) := by
 have hL1 := h.pos;have hM1 := k.pos;replace hL : L <= 1000 := hL
 go_enter Tryz.func58, Tryz.ntmps58
 go_upto_region 1 with (fail)
 obtain ⟨W, hW, extW, bx, by_, bz, hz⟩ := box3 w 30 30 30 #[.bool s, .slice A n c, .bool t, .slice B m d] #[.bool s', .slice A' n' c', .bool t', .slice B' m' d'] #[Value.bool false, Value.slice none 0 0, Value.bool false, Value.slice none 0 0];rw [<- hW];clear hW;replace h := h.ext extW;replace k := k.ext extW;have x0 := bx.cell 0 (.bool s) rfl;have x1 := bx.cell 1 (.slice A n c) rfl;have x2 := bx.cell 2 (.bool t) rfl;have x3 := bx.cell 3 (.slice B m d) rfl;have y0 := by_.cell 0 (.bool s') rfl;have y1 := by_.cell 1 (.slice A' n' c') rfl;have y2 := by_.cell 2 (.bool t') rfl;have y3 := by_.cell 3 (.slice B' m' d') rfl
 go_wp2_with fail
 refine (p_smallPair h k (by omega) (by omega)).mono ?_;rintro e wa ⟨a1, a2, c1, c2, ok, rfl, hok, hxa⟩;have Hok := Lib.hid hok;clear hok;clear x0 x1 x2 x3;clear y0 y1 y2 y3
 go_upto_region 2 with (fail)
 refine at_world (fun V => Ext W V /\ Box V wa.heap.size 94 #[.int .i64 a1, .int .i64 a2] /\ Box V (wa.heap.size + 1) 94 #[.int .i64 c1, .int .i64 c2]) ?_ ?_
 ·obtain ⟨e1, e2, e3⟩ := two_new wa 94 #[.int .i64 a1, .int .i64 a2] #[.int .i64 c1, .int .i64 c2]
  exact ⟨hxa.trans e1, e2, e3⟩
 generalize wa.heap.size = g5;clear hxa;rintro V ⟨EV, b5, b6⟩;replace bx := bx.ext EV;replace by_ := by_.ext EV;replace bz := bz.ext EV;replace h := h.ext EV;replace k := k.ext EV;replace extW := extW.trans EV;clear EV
 cases ok with
 | true =>
  obtain ⟨sm1, sm2⟩ := Hok.out (by first | rfl | trivial);have j0 := b5.cell 0 (.int .i64 a1) rfl;have j1 := b5.cell 1 (.int .i64 a2) rfl;have j2 := b6.cell 0 (.int .i64 c1) rfl;have j3 := b6.cell 1 (.int .i64 c2) rfl
  go_wp2_with fail
  refine (p_plus sm1 sm2).mono ?_;rintro e wb ⟨s1, A1, n1, c1', t1, B1, m1, d1, rfl, hr, hxb⟩;have z0 := (bz.ext hxb).cell 0 _ rfl;have z1 := (bz.ext hxb).cell 1 _ rfl;have z2 := (bz.ext hxb).cell 2 _ rfl;have z3 := (bz.ext hxb).cell 3 _ rfl;have f0 := (bz.ext hxb).frozen 0;have f1 := (bz.ext hxb).frozen 1;have f2 := (bz.ext hxb).frozen 2;have f3 := (bz.ext hxb).frozen 3
  go_wp2_with fail
  obtain ⟨b1, b2, b3, b4⟩ := fin_quad (s := s1) (A := A1) (n := n1) (c := c1') (t := t1) (B := B1) (m := m1) (d := d1) (bz.ext hxb);have r0 := b1.cell 0 (.bool s1) rfl;have r1 := b1.cell 1 (.slice A1 n1 c1') rfl;have r2 := b1.cell 2 (.bool t1) rfl;have r3 := b1.cell 3 (.slice B1 m1 d1) rfl;unfold set4 at r0 r1 r2 r3;refine bodyPost_ret (v := .agg #[.bool s1, .slice A1 n1 c1', .bool t1, .slice B1 m1 d1]) (by simp [results, Tryz.results58, go_sem, r0, r1, r2, r3]) rfl ⟨s1, A1, n1, c1', t1, B1, m1, d1, rfl, ⟨?_, ?_⟩, b3 _ (extW.trans hxb) (by omega)⟩
  ·exact (b2 _ _ _ _ _ _ hr.num).le (by omega)
  ·exact (b2 _ _ _ _ _ _ hr.den).le (by omega)
 | false =>
  have x2 := bx.cell 2 (.bool t) rfl;have x3 := bx.cell 3 (.slice B m d) rfl
  go_wp2_with fail
  refine (p_isOne h.den).mono ?_;rintro e wb ⟨rfl, hxb⟩;replace bx := bx.ext hxb;replace by_ := by_.ext hxb;replace bz := bz.ext hxb;replace h := h.ext hxb;replace k := k.ext hxb;replace extW := extW.trans hxb;clear hxb x2 x3
  by_cases h1 : (q.den : Int) = 1
  case' neg =>
   rw [decide_eq_false h1]
   clear h1
  case' pos =>
   rw [decide_eq_true h1]
   have H1 := Lib.hid h1;clear h1;have y2 := by_.cell 2 (.bool t') rfl;have y3 := by_.cell 3 (.slice B' m' d') rfl
   go_wp2_with fail
   refine (p_isOne k.den).mono ?_;rintro e wb ⟨rfl, hxc⟩;replace bx := bx.ext hxc;replace by_ := by_.ext hxc;replace bz := bz.ext hxc;replace h := h.ext hxc;replace k := k.ext hxc;replace extW := extW.trans hxc;clear hxc y2 y3
   by_cases h2 : (p.den : Int) = 1
   ·rw [decide_eq_true h2]
    have H2 := Lib.hid h2;clear h2;have x0 := bx.cell 0 (.bool s) rfl;have x1 := bx.cell 1 (.slice A n c) rfl;have y0 := by_.cell 0 (.bool s') rfl;have y1 := by_.cell 1 (.slice A' n' c') rfl
    go_wp2_with fail
    refine (p_Add h.num k.num (by omega) (by omega)).mono ?_;rintro e we ⟨s1, A1, n1, c1', rfl, hn1, hxe⟩
    go_wp2_with fail
    refine (p_whole hn1).mono ?_;rintro e wf ⟨s2, A2, n2, c2', t2, B2, m2, d2, rfl, hr, hxf⟩;have hE := hxe.trans hxf;have z0 := (bz.ext hE).cell 0 _ rfl;have z1 := (bz.ext hE).cell 1 _ rfl;have z2 := (bz.ext hE).cell 2 _ rfl;have z3 := (bz.ext hE).cell 3 _ rfl;have f0 := (bz.ext hE).frozen 0;have f1 := (bz.ext hE).frozen 1;have f2 := (bz.ext hE).frozen 2;have f3 := (bz.ext hE).frozen 3
    go_wp2_with fail
    have hqp : ((q.num + p.num : Int) : Rat) = q + p := rat_add_one H1.out H2.out;rw [hqp] at hr;obtain ⟨b1, b2, b3, b4⟩ := fin_quad (s := s2) (A := A2) (n := n2) (c := c2') (t := t2) (B := B2) (m := m2) (d := d2) (bz.ext hE);have r0 := b1.cell 0 (.bool s2) rfl;have r1 := b1.cell 1 (.slice A2 n2 c2') rfl;have r2 := b1.cell 2 (.bool t2) rfl;have r3 := b1.cell 3 (.slice B2 m2 d2) rfl;unfold set4 at r0 r1 r2 r3;refine bodyPost_ret (v := .agg #[.bool s2, .slice A2 n2 c2', .bool t2, .slice B2 m2 d2]) (by simp [results, Tryz.results58, go_sem, r0, r1, r2, r3]) rfl ⟨s2, A2, n2, c2', t2, B2, m2, d2, rfl, ⟨?_, ?_⟩, b3 _ (extW.trans hE) (by omega)⟩
    ·exact (b2 _ _ _ _ _ _ hr.num).le (by omega)
    ·exact (b2 _ _ _ _ _ _ hr.den).le (by omega)
   rw [decide_eq_false h2]
   clear h2
  all_goals
   have x0 := bx.cell 0 (.bool s) rfl;have x1 := bx.cell 1 (.slice A n c) rfl;have x2 := bx.cell 2 (.bool t) rfl;have x3 := bx.cell 3 (.slice B m d) rfl;have y0 := by_.cell 0 (.bool s') rfl;have y1 := by_.cell 1 (.slice A' n' c') rfl;have y2 := by_.cell 2 (.bool t') rfl;have y3 := by_.cell 3 (.slice B' m' d') rfl
   go_wp2_with fail
   refine (p_GCD h.den k.den (by omega) (by omega) (hT.ext extW)).mono ?_;rintro e we ⟨s1, A1, n1, c1', rfl, hg, hxe⟩;rw [Int.natAbs_natCast, Int.natAbs_natCast] at hg;obtain ⟨g, hge⟩ : ∃ g, Nat.gcd q.den p.den = g := ⟨_, rfl⟩;rw [hge] at hg;have hgq : g ∣ q.den := by rw [<- hge]; exact Nat.gcd_dvd_left _ _
   have hgp : g ∣ p.den := by rw [<- hge]; exact Nat.gcd_dvd_right _ _
   have hg0 : (g : Int) ≠ 0 := by
    intro h0;have : g = 0 := by omega
    rw [this] at hgq;have := Nat.eq_zero_of_zero_dvd hgq;exact q.den_nz this
   have Hge := Lib.hid hge.symm;have Hg0 := Lib.hid hg0;have Hgq := Lib.hid (Int.ofNat_dvd.2 hgq);have Hgp := Lib.hid (Int.ofNat_dvd.2 hgp);clear hge hg0 hgq hgp;clear x0 x1 x2 x3;clear y0 y1 y2 y3
   go_upto_region 7 with (fail)
   refine at_world (fun V7 => Ext wb V7 /\ Box V7 we.heap.size 28 #[.bool s1, .slice A1 n1 c1'] /\ NI V7 (g : Int) (max L M) s1 A1 n1 c1') ⟨hxe.alloc _, Box.new we _ _, hg.ext ((Ext.refl we).alloc _)⟩ ?_;generalize we.heap.size = g8;clear hxe hg;rintro V7 ⟨EV, b8, hg⟩;replace bx := bx.ext EV;replace by_ := by_.ext EV;replace bz := bz.ext EV;replace h := h.ext EV;replace k := k.ext EV;replace extW := extW.trans EV;clear EV;have x0 := bx.cell 0 (.bool s) rfl;have x1 := bx.cell 1 (.slice A n c) rfl;have x2 := bx.cell 2 (.bool t) rfl;have x3 := bx.cell 3 (.slice B m d) rfl;have j0 := b8.cell 0 (.bool s1) rfl;have j1 := b8.cell 1 (.slice A1 n1 c1') rfl
   go_wp2_with fail
   refine (p_divide h.den hg (by omega) (by omega) Hg0.out Hgq.out).mono ?_;rintro e wf ⟨s2, A2, n2, c2', rfl, hD1, hxf⟩;clear x0 x1 x2 x3;clear j0 j1
   go_upto_region 8 with (fail)
   refine at_world (fun V9 => Ext V7 V9 /\ Box V9 wf.heap.size 28 #[.bool s2, .slice A2 n2 c2'] /\ NI V9 ((q.den : Int) / (g : Int)) L s2 A2 n2 c2') ⟨hxf.alloc _, Box.new wf _ _, hD1.ext ((Ext.refl wf).alloc _)⟩ ?_;generalize wf.heap.size = g9;clear hxf hD1;rintro V9 ⟨EV, b9, hD1⟩;replace bx := bx.ext EV;replace by_ := by_.ext EV;replace bz := bz.ext EV;replace b8 := b8.ext EV;replace h := h.ext EV;replace k := k.ext EV;replace hg := hg.ext EV;replace extW := extW.trans EV;clear EV
   go_wp2_with fail
   have ES0 := Ext.refl V9;refine wp_region_held_drew (S := Ext V9) (by kernel_rfl) ES0.drew (fun ES => ?_);clear ES0;refine Late.start1 (x := ⟨12, 10, 28, #[Value.bool false, Value.slice none 0 0]⟩) (n := 13) ⟨_, rfl, rfl, rfl, fun a w => by go_simp⟩ (fun _ _ _ _ _ => ⟨fun h => h, fun h => h⟩) ES rfl (fun hAl hQ => ?_);refine Late.t 0 46 ?_ hQ ?_ ?_;rotate_left
   ·intro w' hSw;go_simp;try rfl
   try simp only [zP]
   refine Late.t 2 48 ?_ hQ ?_ ?_;rotate_left
   ·intro w' hSw;go_simp;try rfl
   try simp only [zP]
   refine Late.t 4 50 ?_ hQ ?_ ?_;rotate_left
   ·intro w' hSw;have k00 := (bx.ext hSw).c4;have k10 := (by_.ext hSw).c4;have k20 := (b8.ext hSw).c2;have k30 := (b9.ext hSw).c2;go_simp;try rfl
   try simp only [zP]
   refine Late.t 7 53 ?_ hQ ?_ ?_;rotate_left
   ·intro w' hSw;go_simp;try rfl
   try simp only [zP]
   refine Late.t 9 55 ?_ hQ ?_ ?_;rotate_left
   ·intro w' hSw;have k00 := (bx.ext hSw).c4;have k10 := (by_.ext hSw).c4;have k20 := (b8.ext hSw).c2;have k30 := (b9.ext hSw).c2;go_simp;try rfl
   try simp only [zP]
   refine Late.t 1 47 ?_ hQ ?_ ?_;rotate_left
   ·intro w' hSw;have k00 := (bx.ext hSw).c4;have k10 := (by_.ext hSw).c4;have k20 := (b8.ext hSw).c2;have k30 := (b9.ext hSw).c2;go_simp;try rfl
   try simp only [zP]
   refine Late.t 3 49 ?_ hQ ?_ ?_;rotate_left
   ·intro w' hSw;have k00 := (bx.ext hSw).c4;have k10 := (by_.ext hSw).c4;have k20 := (b8.ext hSw).c2;have k30 := (b9.ext hSw).c2;go_simp;try rfl
   try simp only [zP]
   refine Late.t 8 54 ?_ hQ ?_ ?_;rotate_left
   ·intro w' hSw;have k00 := (bx.ext hSw).c4;have k10 := (by_.ext hSw).c4;have k20 := (b8.ext hSw).c2;have k30 := (b9.ext hSw).c2;go_simp;try rfl
   try simp only [zP]
   refine Late.cl (i := 5) rfl hAl hQ (fun w5 e5 E5 K hK => ?_);go_simp
   (go_at_call 100; refine (p_divide (k.den.ext E5) (hg.ext E5) (by omega) (by omega) Hg0.out Hgp.out).mono ?_; rintro e wk1 ⟨s1x, A1x, n1x, c1x, rfl, h1, hx5⟩)
   refine hK.out _ _ hx5 ?_;clear hK K
   try simp only [zP]
   refine Late.cl (i := 6) rfl hAl hQ (fun w6 e6 E6 K hK => ?_);go_simp
   (go_at_call 70; refine (p_MulG (h.num.ext E6) (h1.ext e6) (by omega) (by omega)).mono ?_; rintro e wk2 ⟨s2x, A2x, n2x, c2x, rfl, h2, hx6⟩)
   refine hK.out _ _ hx6 ?_;clear hK K
   try simp only [zP]
   refine Late.cl (i := 10) rfl hAl hQ (fun w10 e10 E10 K hK => ?_);go_simp
   (go_at_call 70; refine (p_MulG (k.num.ext E10) (hD1.ext E10) (by omega) (by omega)).mono ?_; rintro e wk3 ⟨s3, A3, n3, c3, rfl, h3, hx10⟩)
   refine hK.out _ _ hx10 ?_;clear hK K
   try simp only [zP]
   refine Late.cl (i := 11) rfl hAl hQ (fun w11 e11 E11 K hK => ?_);go_simp
   (go_at_call 99; refine (p_Add (h2.ext (e10.trans (hx10.trans e11))) (h3.ext e11) (by omega) (by omega)).mono ?_; rintro e wk4 ⟨s4, A4, n4, c4, rfl, h4, hx11⟩)
   refine hK.out _ _ hx11 ?_;clear hK K
   try simp only [zP]
   refine Late.finish1 (hAl _ (by simp)) (by kernel_rfl) (fun wz g10 ez Ez lg5 xb1 => ?_);clear hAl hQ ES;have f10 := xb1.cell 0 (Value.bool false) rfl;have f11 := xb1.cell 1 (Value.slice none 0 0) rfl;have f12 := xb1.frozen 0;have f13 := xb1.frozen 1;have e4 := fin_dual (s := s4) (A := A4) (n := n4) (c := c4) xb1
   try simp only [zP]
   refine wpAnyH_ready (rs := [13]) (by kernel_rfl) (by simp) (AllReadyH.cons rfl (fun K hK => ?_) AllReadyH.nil);go_simp;refine hK.out _ _ (e4.2.2.1 _ Ez lg5) (fun _ => ?_);clear hK K
   try simp only [zP]
   refine any_world (fun U => Ext V9 U /\ Box U g10 28 #[.bool s4, .slice A4 n4 c4] /\ NI U (q.num * ((p.den : Int) / (g : Int)) + p.num * ((q.den : Int) / (g : Int))) (L + M + 1) s4 A4 n4 c4) ⟨e4.2.2.1 _ Ez lg5, e4.1, (e4.2.1 _ _ _ _ _ _ (h4.ext ez)).le (by omega)⟩ ?_;clear e4 f10 f11 f12 f13 xb1 lg5;rintro U ⟨EU, b10, hS⟩;refine wpAnyH_done (by kernel_rfl) ?_ _;replace bx := bx.ext EU;replace by_ := by_.ext EU;replace bz := bz.ext EU;replace b8 := b8.ext EU;replace b9 := b9.ext EU;replace h := h.ext EU;replace k := k.ext EU;replace hg := hg.ext EU;replace hD1 := hD1.ext EU;replace extW := extW.trans EU;clear EU Ez ez;have j0 := b10.cell 0 (.bool s4) rfl;have j1 := b10.cell 1 (.slice A4 n4 c4) rfl;have j2 := b8.cell 0 (.bool s1) rfl;have j3 := b8.cell 1 (.slice A1 n1 c1') rfl
   go_wp2_with fail
   refine (p_GCD hS hg (by omega) (by omega) (hT.ext extW)).mono ?_;rintro e wg ⟨s5, A5, n5, c5, rfl, hr, hxg⟩;rw [Int.natAbs_natCast] at hr;clear j0 j1 j2 j3;obtain ⟨S, hSe⟩ : ∃ S : Int, q.num * ((p.den : Int) / (g : Int)) + p.num * ((q.den : Int) / (g : Int)) = S := ⟨_, rfl⟩;rw [hSe] at hS hr;obtain ⟨r, hre⟩ : ∃ r, Nat.gcd S.natAbs g = r := ⟨_, rfl⟩;rw [hre] at hr;obtain ⟨q1, q2, q3, q4⟩ := rat_add q p (S := S) (r := r) Hge.out rfl rfl (by rw [<- hSe]; simp) hre.symm;have Hq1 := Lib.hid q1;have Hq2 := Lib.hid q2;have Hr0 := Lib.hid (show (r : Int) ≠ 0 by omega);have Hrp := Lib.hid (Int.ofNat_dvd.2 q3);have HrS := Lib.hid (show (r : Int) ∣ S from Int.ofNat_dvd_left.2 (by rw [<- hre]; exact Nat.gcd_dvd_left _ _));clear q1 q2 q3 q4 hre hSe
   go_upto_region 10 with (fail)
   refine at_world (fun Z9 => Ext U Z9 /\ Box Z9 wg.heap.size 28 #[.bool s5, .slice A5 n5 c5] /\ NI Z9 (r : Int) (max (L + M + 1) (max L M)) s5 A5 n5 c5) ⟨hxg.alloc _, Box.new wg _ _, hr.ext ((Ext.refl wg).alloc _)⟩ ?_;generalize wg.heap.size = g11;clear hxg hr;rintro Z9 ⟨EV, b11, hr⟩;replace bx := bx.ext EV;replace by_ := by_.ext EV;replace bz := bz.ext EV;replace b9 := b9.ext EV;replace b10 := b10.ext EV;replace h := h.ext EV;replace k := k.ext EV;replace hD1 := hD1.ext EV;replace hS := hS.ext EV;replace extW := extW.trans EV;clear EV
   go_wp2_with fail
   refine wpL.st 10 (fun hQ ES => ?_);refine wpL.t 0 61 ?_ hQ ?_ ES ?_;rotate_left
   ·intro w' hSw;have k00 := (b9.ext hSw).c2;have k10 := (b10.ext hSw).c2;have k20 := (b11.ext hSw).c2;have k30 := (by_.ext hSw).c4;go_simp;try rfl
   try simp only [zP]
   refine wpL.t 1 62 ?_ hQ ?_ ES ?_;rotate_left
   ·intro w' hSw;have k00 := (b9.ext hSw).c2;have k10 := (b10.ext hSw).c2;have k20 := (b11.ext hSw).c2;have k30 := (by_.ext hSw).c4;go_simp;try rfl
   try simp only [zP]
   refine wpL.t 3 64 ?_ hQ ?_ ES ?_;rotate_left
   ·intro w' hSw;have k00 := (b9.ext hSw).c2;have k10 := (b10.ext hSw).c2;have k20 := (b11.ext hSw).c2;have k30 := (by_.ext hSw).c4;go_simp;try rfl
   try simp only [zP]
   refine wpL.t 4 65 ?_ hQ ?_ ES ?_;rotate_left
   ·intro w' hSw;go_simp;try rfl
   try simp only [zP]
   refine wpL.t 6 67 ?_ hQ ?_ ES ?_;rotate_left
   ·intro w' hSw;have k00 := (b9.ext hSw).c2;have k10 := (b10.ext hSw).c2;have k20 := (b11.ext hSw).c2;have k30 := (by_.ext hSw).c4;go_simp;try rfl
   try simp only [zP]
   refine wpL.t 5 66 ?_ hQ ?_ ES ?_;rotate_left
   ·intro w' hSw;have k00 := (b9.ext hSw).c2;have k10 := (b10.ext hSw).c2;have k20 := (b11.ext hSw).c2;have k30 := (by_.ext hSw).c4;go_simp;try rfl
   try simp only [zP]
   refine wpL.cl (i := 2) rfl (fun K hK => ?_);go_simp
   (go_at_call 100; refine (p_divide (hS.ext ES) (hr.ext ES) (by omega) (by omega) Hr0.out HrS.out).mono ?_; rintro e wk1 ⟨s1x, A1x, n1x, c1x, rfl, h1, hx0⟩; have E0_10 := Ext.trans ES hx0)
   refine hK.out _ _ E0_10 ?_;clear hK K
   try simp only [zP]
   refine wpL.cl (i := 7) rfl (fun K hK => ?_);go_simp
   (go_at_call 100; refine (p_divide (k.den.ext E0_10) (hr.ext E0_10) (by omega) (by omega) Hr0.out Hrp.out).mono ?_; rintro e wk2 ⟨s2x, A2x, n2x, c2x, rfl, h2, hx1⟩; have E1_10 := Ext.trans E0_10 hx1)
   refine hK.out _ _ E1_10 ?_;clear hK K
   try simp only [zP]
   refine wpL.cl (i := 8) rfl (fun K hK => ?_);go_simp
   (go_at_call 70; refine (p_MulG (hD1.ext E1_10) (h2) (by omega) (by omega)).mono ?_; rintro e wk3 ⟨s3, A3, n3, c3, rfl, h3, hx2⟩; have E2_10 := Ext.trans E1_10 hx2)
   refine hK.out _ _ E2_10 ?_;clear hK K
   try simp only [zP]
   refine wpL.t 9 70 ?_ hQ ?_ E2_10 ?_;rotate_left
   ·intro w' hSw;go_simp;try rfl
   try simp only [zP]
   have z0 := (bz.ext E2_10).cell 0 _ rfl;have z1 := (bz.ext E2_10).cell 1 _ rfl;have z2 := (bz.ext E2_10).cell 2 _ rfl;have z3 := (bz.ext E2_10).cell 3 _ rfl;have f0 := (bz.ext E2_10).frozen 0;have f1 := (bz.ext E2_10).frozen 1;have f2 := (bz.ext E2_10).frozen 2;have f3 := (bz.ext E2_10).frozen 3;refine wpL.tl (i := 10) rfl (fun K hK => ?_);go_simp;refine hK.out _ _ ?_;clear hK K
   try simp only [zP]
   refine wpL.done (by kernel_rfl) ?_ _;clear hQ
   go_wp2_with fail
   have hk1 : ((q.den : Int) / (g : Int)) * ((p.den : Int) / (r : Int)) = ((q + p).den : Int) := by rw [Hq2.out]; simp
   rw [hk1] at h3;rw [<- Hq1.out] at h1;obtain ⟨b1, b2, b3, b4⟩ := fin_quad (s := s1x) (A := A1x) (n := n1x) (c := c1x) (t := s3) (B := A3) (m := n3) (d := c3) (bz.ext E2_10);have r0 := b1.cell 0 (.bool s1x) rfl;have r1 := b1.cell 1 (.slice A1x n1x c1x) rfl;have r2 := b1.cell 2 (.bool s3) rfl;have r3 := b1.cell 3 (.slice A3 n3 c3) rfl;unfold set4 at r0 r1 r2 r3;refine bodyPost_ret (v := .agg #[.bool s1x, .slice A1x n1x c1x, .bool s3, .slice A3 n3 c3]) (by simp [results, Tryz.results58, go_sem, r0, r1, r2, r3]) rfl ⟨s1x, A1x, n1x, c1x, s3, A3, n3, c3, rfl, ⟨?_, ?_⟩, b3 _ (extW.trans E2_10) (by omega)⟩
   ·exact (b2 _ _ _ _ _ _ (h1.ext (hx1.trans hx2))).le (by omega)
   ·exact (b2 _ _ _ _ _ _ h3).le (by omega)
end
section
variable {w w' : World} {q x : Rat} {L M : Nat} {s t : Bool} {A B : Option Addr} {n c m d : Nat} {sx tx : Bool} {Ax Bx : Option Addr} {nx cx mx dx : Nat} {qs ps : List Rat} {rs : List RawR} {ts us : List (List RawR)}
theorem p_FromRatT {T : List (List Rat)} (h : PolT w A n c T L) (ht : TowL T) (hk : NR w q M sx Ax nx cx tx Bx mx dx) (hL : L <= 1000) (hM : M <= 1000) (hM2 : 2 <= M) (hn : n <= 9) (hT : Tab w) : Calls Tryz.prog 16 #[.slice A n c, .agg #[.bool sx, .slice Ax nx cx, .bool tx, .slice Bx mx dx]] w (RetPol (q :: List.replicate (2 ^ n - 1) 0) M w) := by
 obtain ⟨xs, ys, k1, k2, k3, k4⟩ := hk.rawR;obtain ⟨P, hP⟩ : ∃ P, P = 2 ^ n := ⟨_, rfl⟩;have hP1 : P <= 512 := by rw [hP]; exact Nat.le_trans (Nat.pow_le_pow_right (by omega) hn) (by decide)
 have hP0 : 0 < P := by rw [hP]; exact Nat.pow_pos (by omega)
 have HP := Lib.hid hP;have HV := Lib.hid (show validQ sx xs tx ys = true from k3);unfold RawR.le at k4;simp only [Bool.and_eq_true, decide_eq_true_eq] at k4;have l1 : nx <= 1000 := by have := k1.len; omega
 have l2 : mx <= 1000 := by have := k2.len; omega
 clear k3 hP k4
 go_enter Tryz.func16, Tryz.ntmps16
 go_upto_region 1 with (fail)
 obtain ⟨W, hW, extW, bx, hz⟩ := box1 w 30 #[.bool sx, .slice Ax nx cx, .bool tx, .slice Bx mx dx];rw [<- hW];clear hW hz;have x0 := bx.cell 0 (.bool sx) rfl;have x1 := bx.cell 1 (.slice Ax nx cx) rfl;have x2 := bx.cell 2 (.bool tx) rfl;have x3 := bx.cell 3 (.slice Bx mx dx) rfl
 go_wp2_with fail
 refine (p_formed0 (h.ext extW) ht (by omega) (by omega) (hT.ext extW)).mono ?_;rintro e V ⟨rfl, hxt⟩;have hs := extW.trans hxt;clear x0 x1 x2 x3;have x0 := (bx.ext hxt).cell 0 (.bool sx) rfl;have x1 := (bx.ext hxt).cell 1 (.slice Ax nx cx) rfl;have x2 := (bx.ext hxt).cell 2 (.bool tx) rfl;have x3 := (bx.ext hxt).cell 3 (.slice Bx mx dx) rfl
 go_wp2_with fail
 refine (p_ValidRaw (k1.ext hs) (k2.ext hs) (by omega) (by omega) (hT.ext hs)).mono ?_;rintro e V2 ⟨rfl, hxu⟩;rw [HV.out];replace hs := hs.trans hxu
 have hW2 : wrap64 ((2 : Int) ^ n) = (P : Int) := by
  rw [HP.out];have e1 : ((2 : Int) ^ n) = ((2 ^ n : Nat) : Int) := by push_cast; rfl
  rw [e1];have := HP.out;unfold wrap64;omega
 have hI0 : (0 : Int) < (P : Int) := by omega
 go_wp2_with fail
 rw [hW2];refine (p_zerosT P (by omega)).mono ?_;rintro e V3 ⟨rfl, hF, hxv⟩;have hR : RRow V3 V2.heap.size (List.replicate P 0) M := (hF.rrow (by simp)).le hM2;have hlr : 0 < (List.replicate P (0 : Rat)).length := by simp; omega
 clear x0 x1 x2 x3;have hxb := hxt.trans (hxu.trans hxv);have x0 := (bx.ext hxb).cell 0 (.bool sx) rfl;have x1 := (bx.ext hxb).cell 1 (.slice Ax nx cx) rfl;have x2 := (bx.ext hxb).cell 2 (.bool tx) rfl;have x3 := (bx.ext hxb).cell 3 (.slice Bx mx dx) rfl
 go_wp2_with fail
 refine (p_cloneT (hk.ext (hs.trans hxv)) (by omega)).mono ?_;rintro e V4 ⟨s7, A7, n7, c7, t7, B7, m7, d7, rfl, h7, hxw⟩;replace hR := hR.ext hxw;obtain ⟨s8, A8, n8, c8, t8, B8, m8, d8, p0, p1, p2, p3, _⟩ := hR.get hlr;have f0 := hR.frozen 0;have f1 := hR.frozen 1;have f2 := hR.frozen 2;have f3 := hR.frozen 3;simp only [Nat.zero_mul, Nat.zero_add] at p0 p1 p2 p3
 go_wp2_with fail
 have hPut := hR.put hlr h7;simp only [Nat.zero_mul, Nat.zero_add] at hPut
 go_ret
 refine ⟨_, P, P, rfl, ?_, hPut.2.2 _ ((hs.trans hxv).trans hxw) hs.size⟩
 have hl : (List.replicate P (0 : Rat)).set 0 q = q :: List.replicate (2 ^ n - 1) 0 := by
  rw [<- HP.out];obtain ⟨j, rfl⟩ : ∃ j, P = j + 1 := ⟨P - 1, by omega⟩
  rfl
 rw [<- hl];exact hPut.1.pol (by simp) (by unfold maxLen; omega)
end
section
variable {w w' : World} {q x : Rat} {L M : Nat} {s t : Bool} {A B : Option Addr} {n c m d : Nat} {sx tx : Bool} {Ax Bx : Option Addr} {nx cx mx dx : Nat} {qs ps : List Rat} {rs : List RawR} {ts us : List (List RawR)}
variable {sy ty : Bool} {Ay By : Option Addr} {ny cy my dy : Nat}
set_option maxRecDepth 100000 in
theorem p_each6_Neg (h : Pol w A n c qs L) (hL : L <= 900) (hn : n <= 1000) : Calls Tryz.prog 61 #[.slice A n c, (.func (.func 76) #[] #[])] w (fun e w' => e = .returned (.slice (some ⟨w.heap.size, 0, none⟩) n n) /\ RRow w' w.heap.size (qs.map (fun x : Rat => -x)) (L) /\ Ext w w') := by
 have hmk := mk_rats n (by omega);have Hlen := Lib.hid h.len
 go_enter Tryz.func61, Tryz.ntmps61
 go_wp2_with fail
 go_loopw [12] (fun i wr => ∃ k : Nat, k <= n /\ i = .int .i64 (k : Int) /\ Ext w wr /\ Fill wr w.heap.size n ((qs.take k).map (fun x : Rat => -x)) (L)) (fun i _ => n - (intOf i).toNat)
 case atStart => exact ⟨0, Nat.zero_le _, rfl, (Ext.refl w).alloc _, Fill.new w n _⟩
 case round =>
  obtain ⟨k, hk, rfl, ext, hF⟩ := hrel
  by_cases hlt : k < n
  ·have hj : k < qs.length := by rw [Hlen.out]; exact hlt
   obtain ⟨b, off, rfl, hr⟩ := h.at_ (fun e => by rw [e] at hj; exact absurd hj (Nat.not_lt_zero _));obtain ⟨sx, Ax, nx, cx, tx, Bx, mx, dx, e0, e1, e2, e3, hx⟩ := (hr.ext ext).at_ k hj;have e0' : wr.cell? ⟨b, off + k * 4, none⟩ = some (.bool sx) := by rw [Nat.mul_comm]; exact e0
   have e1' : wr.cell? ⟨b, off + k * 4 + 1, none⟩ = some (.slice Ax nx cx) := by rw [Nat.mul_comm]; exact e1
   have e2' : wr.cell? ⟨b, off + k * 4 + 2, none⟩ = some (.bool tx) := by rw [Nat.mul_comm]; exact e2
   have e3' : wr.cell? ⟨b, off + k * 4 + 3, none⟩ = some (.slice Bx mx dx) := by rw [Nat.mul_comm]; exact e3
   have HT := Lib.hid (show (qs.take (k + 1)).map (fun x : Rat => -x) = (qs.take k).map (fun x : Rat => -x) ++ [(fun x : Rat => -x) qs[k]] by rw [List.take_succ_eq_append_getElem hj, List.map_append]; rfl);have hkl : ((qs.take k).map (fun x : Rat => -x)).length = k := by rw [List.length_map, List.length_take, Hlen.out]; omega
   go_wp2_with fail
   refine (p_NegR hx (by omega)).mono ?_;rintro e V ⟨s7, A7, n7, c7, t7, B7, m7, d7, rfl, h7, hxt⟩;replace hF := hF.ext hxt;replace ext := ext.trans hxt;have hcs := hF.cells (by rw [hkl]; exact hlt);rw [hkl] at hcs;obtain ⟨p0, p1, p2, p3⟩ := hcs;have f0 := hF.frozen (k * 4);have f1 := hF.frozen (k * 4 + 1);have f2 := hF.frozen (k * 4 + 2);have f3 := hF.frozen (k * 4 + 3)
   go_wp2_with fail
   have P := hF.put hkl hlt h7
   go_roundw
   case rel => exact ⟨k + 1, by omega, by go_num, P.2.2.1 _ ext (Nat.le_refl _), by rw [HT.out]; exact P.1⟩
   case measure => simp [intOf]; omega
  ·have hkn : k = n := by omega
   subst hkn;have hml : ((qs.take k).map (fun x : Rat => -x)).length = k := by rw [List.length_map, List.length_take, Hlen.out]; omega
   have hp := hF.rrow hml;rw [List.take_of_length_le (Nat.le_of_eq Hlen.out)] at hp
   go_wp2_with fail
   go_ret
   exact ⟨rfl, hp, ext⟩
set_option maxRecDepth 100000 in
theorem p_pair6_Add (h : Pol w A n c qs L) (h' : Pol w B n d ps M) (hLM : L + M <= 900) (hn : n <= 1000) (hT : Tab w) : Calls Tryz.prog 57 #[.slice A n c, .slice B n d, (.func (.func 58) #[] #[])] w (fun e w' => e = .returned (.slice (some ⟨w.heap.size, 0, none⟩) n n) /\ RRow w' w.heap.size (List.zipWith (fun x y : Rat => x + y) qs ps) (L + M + 1) /\ Ext w w') := by
 have hmk := mk_rats n (by omega);have Hlen := Lib.hid h.len;have Hlen' := Lib.hid h'.len
 go_enter Tryz.func57, Tryz.ntmps57
 go_wp2_with fail
 go_loopw [14] (fun i wr => ∃ k : Nat, k <= n /\ i = .int .i64 (k : Int) /\ Ext w wr /\ Fill wr w.heap.size n (List.zipWith (fun x y : Rat => x + y) (qs.take k) (ps.take k)) (L + M + 1)) (fun i _ => n - (intOf i).toNat)
 case atStart => exact ⟨0, Nat.zero_le _, rfl, (Ext.refl w).alloc _, Fill.new w n _⟩
 case round =>
  obtain ⟨k, hk, rfl, ext, hF⟩ := hrel
  by_cases hlt : k < n
  ·have hj : k < qs.length := by rw [Hlen.out]; exact hlt
   have hj' : k < ps.length := by rw [Hlen'.out]; exact hlt
   have hI : (k : Int) < (n : Int) := by omega
   obtain ⟨b, off, rfl, hr⟩ := h.at_ (fun e => by rw [e] at hj; exact absurd hj (Nat.not_lt_zero _));obtain ⟨b', off', rfl, hr'⟩ := h'.at_ (fun e => by rw [e] at hj'; exact absurd hj' (Nat.not_lt_zero _));obtain ⟨sx, Ax, nx, cx, tx, Bx, mx, dx, e0, e1, e2, e3, hx⟩ := (hr.ext ext).at_ k hj;have e0' : wr.cell? ⟨b, off + k * 4, none⟩ = some (.bool sx) := by rw [Nat.mul_comm]; exact e0
   have e1' : wr.cell? ⟨b, off + k * 4 + 1, none⟩ = some (.slice Ax nx cx) := by rw [Nat.mul_comm]; exact e1
   have e2' : wr.cell? ⟨b, off + k * 4 + 2, none⟩ = some (.bool tx) := by rw [Nat.mul_comm]; exact e2
   have e3' : wr.cell? ⟨b, off + k * 4 + 3, none⟩ = some (.slice Bx mx dx) := by rw [Nat.mul_comm]; exact e3
   obtain ⟨sy, Ay, ny, cy, ty, By, my, dy, i0, i1, i2, i3, hy⟩ := (hr'.ext ext).at_ k hj';have i0' : wr.cell? ⟨b', off' + k * 4, none⟩ = some (.bool sy) := by rw [Nat.mul_comm]; exact i0
   have i1' : wr.cell? ⟨b', off' + k * 4 + 1, none⟩ = some (.slice Ay ny cy) := by rw [Nat.mul_comm]; exact i1
   have i2' : wr.cell? ⟨b', off' + k * 4 + 2, none⟩ = some (.bool ty) := by rw [Nat.mul_comm]; exact i2
   have i3' : wr.cell? ⟨b', off' + k * 4 + 3, none⟩ = some (.slice By my dy) := by rw [Nat.mul_comm]; exact i3
   have HT := Lib.hid (show List.zipWith (fun x y : Rat => x + y) (qs.take (k + 1)) (ps.take (k + 1)) = List.zipWith (fun x y : Rat => x + y) (qs.take k) (ps.take k) ++ [(fun x y : Rat => x + y) qs[k] ps[k]] by
    rw [List.take_succ_eq_append_getElem hj, List.take_succ_eq_append_getElem hj', List.zipWith_append (by rw [List.length_take, List.length_take]; omega)]; rfl)
   have hkl : (List.zipWith (fun x y : Rat => x + y) (qs.take k) (ps.take k)).length = k := by rw [List.length_zipWith, List.length_take, List.length_take, Hlen.out, Hlen'.out]; omega
   go_upto_region 5 with (fail)
   refine wpL.st 13 (fun hQ ES => ?_);refine wpL.u 0 17 hQ ES ?_
   try simp only [zP]
   refine wpL.u 1 18 hQ ES ?_
   try simp only [zP]
   refine wpL.u 2 19 hQ ES ?_
   try simp only [zP]
   refine wpL.u 3 20 hQ ES ?_
   try simp only [zP]
   refine wpL.u 4 21 hQ ES ?_
   try simp only [zP]
   refine wpL.u 7 24 hQ ES ?_
   try simp only [zP]
   refine wpL.u 8 25 hQ ES ?_
   try simp only [zP]
   refine wpL.u 5 22 hQ ES ?_
   try simp only [zP]
   refine wpL.u 9 26 hQ ES ?_
   try simp only [zP]
   refine wpL.t 6 23 ?v_9 hQ ?y_9 ES ?_
   case y_9 => intro w' hSw;have q0_ := hSw.cellv e0';have q1_ := hSw.cellv e1';have q2_ := hSw.cellv e2';have q3_ := hSw.cellv e3';have q4_ := hSw.cellv i0';have q5_ := hSw.cellv i1';have q6_ := hSw.cellv i2';have q7_ := hSw.cellv i3';go_simp;try rfl
   try simp only [zP]
   refine wpL.t 10 27 ?v_a hQ ?y_a ES ?_
   case y_a => intro w' hSw;have q0_ := hSw.cellv e0';have q1_ := hSw.cellv e1';have q2_ := hSw.cellv e2';have q3_ := hSw.cellv e3';have q4_ := hSw.cellv i0';have q5_ := hSw.cellv i1';have q6_ := hSw.cellv i2';have q7_ := hSw.cellv i3';go_simp;try rfl
   try simp only [zP]
   refine wpL.cl (i := 11) rfl (fun K hK => ?_);go_simp
   (go_at_call 58; refine (p_AddG (hx.ext ES) (hy.ext ES) (by omega) (by omega) ((hT.ext ext).ext ES)).mono ?_; rintro e V ⟨s7, A7, n7, c7, t7, B7, m7, d7, rfl, h7, hx0⟩; have E0_5 := Ext.trans ES hx0)
   refine hK.out _ _ E0_5 ?_;clear hK K
   try simp only [zP]
   refine wpL.u 12 29 hQ E0_5 ?_
   try simp only [zP]
   replace hF := hF.ext E0_5;replace ext := ext.trans E0_5;have hcs := hF.cells (by rw [hkl]; exact hlt);rw [hkl] at hcs;obtain ⟨p0, p1, p2, p3⟩ := hcs;have f0 := hF.frozen (k * 4);have f1 := hF.frozen (k * 4 + 1);have f2 := hF.frozen (k * 4 + 2);have f3 := hF.frozen (k * 4 + 3);refine wpL.tl (i := 13) rfl (fun K hK => ?_);go_simp;refine hK.out _ _ ?_;clear hK K
   try simp only [zP]
   refine wpL.done (by kernel_rfl) ?_ _;clear hQ;have P := hF.put hkl hlt h7
   go_wp2_with fail
   go_roundw
   case rel => exact ⟨k + 1, by omega, by go_num, P.2.2.1 _ ext (Nat.le_refl _), by rw [HT.out]; exact P.1⟩
   case measure => simp [intOf]; omega
  ·have hkn : k = n := by omega
   subst hkn;have hml : (List.zipWith (fun x y : Rat => x + y) (qs.take k) (ps.take k)).length = k := by rw [List.length_zipWith, List.length_take, List.length_take, Hlen.out, Hlen'.out]; omega
   have hp := hF.rrow hml;rw [List.take_of_length_le (Nat.le_of_eq Hlen.out), List.take_of_length_le (Nat.le_of_eq Hlen'.out)] at hp
   go_wp2_with fail
   go_ret
   exact ⟨rfl, hp, ext⟩
end
section
variable {w w' : World} {q x : Rat} {L M : Nat} {s t : Bool} {A B : Option Addr} {n c m d b o N : Nat} {sx tx : Bool} {Ax Bx : Option Addr} {nx cx mx dx : Nat} {qs ps : List Rat} {rs : List RawR} {ts us : List (List RawR)}
theorem p_AddT {T : List (List Rat)} {D : Option Addr} {l e0 : Nat} (h : PolT w A n c T L) (ht : TowL T) (hq : Pol w B m d qs M) (hp : Pol w D l e0 ps N) (hm : m = 2 ^ n) (hl : l = 2 ^ n) (hL : L <= 1000) (hMN : M + N <= 900) (hn : n <= 9) (hT : Tab w) :
  Calls Tryz.prog 21 #[.slice A n c, .slice B m d, .slice D l e0] w (RetPol (addL qs ps) (M + N + 1) w) := by
 have hP1 : m <= 512 := by rw [hm]; exact Nat.le_trans (Nat.pow_le_pow_right (by omega) hn) (by decide)
 have hml : l = m := by rw [hl, hm]
 have Hm := Lib.hid hm;clear hl hm;subst hml;have hnb := Box.new w 23 #[.slice B l d, .slice D l e0];have e1 := (Ext.refl w).alloc (.cells #[.slice B l d, .slice D l e0] 23)
 go_enter Tryz.func21, Tryz.ntmps21
 go_wp2_with fail
 refine (p_formed2 (L := 1000) ((h.le hL).ext e1) ht hnb ((hq.le (by omega)).ext e1) ((hp.le (by omega)).ext e1) Hm.out Hm.out (by omega) (by omega) (hT.ext e1)).mono ?_;rintro e V ⟨rfl, hxt⟩;replace e1 := e1.trans hxt
 go_wp2_with fail
 refine (p_pair6_Add (hq.ext e1) (hp.ext e1) hMN (by omega) (hT.ext e1)).mono ?_;rintro e V2 ⟨rfl, hR, hxu⟩
 go_wp2_with fail
 go_ret
 exact ⟨_, l, l, rfl, hR.pol (by rw [List.length_zipWith, hq.len, hp.len, Nat.min_self]) (by unfold maxLen; omega), e1.trans hxu⟩
theorem p_NegT {T : List (List Rat)} (h : PolT w A n c T L) (ht : TowL T) (hq : Pol w B m d qs M) (hm : m = 2 ^ n) (hL : L <= 1000) (hM : M <= 900) (hn : n <= 9) (hT : Tab w) :
  Calls Tryz.prog 28 #[.slice A n c, .slice B m d] w (RetPol (negL qs) M w) := by
 have hP1 : m <= 512 := by rw [hm]; exact Nat.le_trans (Nat.pow_le_pow_right (by omega) hn) (by decide)
 have Hm := Lib.hid hm;clear hm;have hnb := Box.new w 23 #[.slice B m d];have e1 := (Ext.refl w).alloc (.cells #[.slice B m d] 23)
 go_enter Tryz.func28, Tryz.ntmps28
 go_wp2_with fail
 refine (p_formed1 (L := 1000) ((h.le hL).ext e1) ht hnb ((hq.le (by omega)).ext e1) Hm.out (by omega) (by omega) (hT.ext e1)).mono ?_;rintro e V ⟨rfl, hxt⟩;replace e1 := e1.trans hxt
 go_wp2_with fail
 refine (p_each6_Neg (hq.ext e1) (by omega) (by omega)).mono ?_;rintro e V2 ⟨rfl, hR, hxu⟩
 go_wp2_with fail
 go_ret
 exact ⟨_, m, m, rfl, hR.pol (by rw [List.length_map, hq.len]) (by unfold maxLen; omega), e1.trans hxu⟩
end
theorem NI.le_pow {w : World} {z : Int} {L : Nat} {s : Bool} {A : Option Addr} {n c : Nat} (h : NI w z L s A n c) : z.natAbs <= 4294967296 ^ L := by
 obtain ⟨xs, h1, h2, h3, h4, h5, h6⟩ := h.out;rw [<- h5.abs];exact Nat.le_trans (Nat.le_of_lt (val_lt h5.w32)) (Nat.pow_le_pow_right (by omega) (by omega))
end
section
open Go.RowKit
def InM (M X : Nat) (q : Rat) : Prop := ∃ z : Int, q = mkRat z M /\ z.natAbs <= X
theorem InM.zero {M X : Nat} : InM M X 0 := ⟨0, (Rat.zero_mkRat M).symm, Nat.zero_le _⟩
theorem nat_ne {M : Nat} (h : 0 < M) : ((M : Nat) : Rat) ≠ 0 := by
 have := int_ne (z := ((M : Nat) : Int)) (by omega)
 rwa [Rat.intCast_natCast] at this
theorem InM.mul {M X M' X' : Nat} {p q : Rat} (h : InM M X p) (k : InM M' X' q) : InM (M * M') (X * X') (p * q) := by
 obtain ⟨z, rfl, h2⟩ := h;obtain ⟨y, rfl, k2⟩ := k;refine ⟨z * y, Rat.mkRat_mul_mkRat _ _ _ _, ?_⟩;rw [Int.natAbs_mul];exact Nat.mul_le_mul h2 k2
theorem InM.add {M X X' : Nat} {p q : Rat} (hM : 0 < M) (h : InM M X p) (k : InM M X' q) : InM M (X + X') (p + q) := by
 obtain ⟨z, rfl, h2⟩ := h;obtain ⟨y, rfl, k2⟩ := k;refine ⟨z + y, ?_, Nat.le_trans (Int.natAbs_add_le _ _) (Nat.add_le_add h2 k2)⟩;have := nat_ne hM;rw [Rat.mkRat_eq_div, Rat.mkRat_eq_div, Rat.mkRat_eq_div, Rat.intCast_add]
 grind
theorem InM.scale {M X : Nat} {q : Rat} (hM : 0 < M) (k : Nat) (hk : 0 < k) (h : InM M X q) : InM (M * k) (X * k) q := by
 obtain ⟨z, rfl, h2⟩ := h;refine ⟨z * (k : Int), ?_, by rw [Int.natAbs_mul, Int.natAbs_natCast]; exact Nat.mul_le_mul_right _ h2⟩;have h3 := nat_ne hM;have h4 := nat_ne hk;rw [Rat.mkRat_eq_div, Rat.mkRat_eq_div, Rat.intCast_mul, Rat.natCast_mul, Rat.intCast_natCast]
 grind
theorem InM.le {M X X' : Nat} {q : Rat} (h : InM M X q) (hx : X <= X') : InM M X' q := by
 obtain ⟨z, h1, h2⟩ := h;exact ⟨z, h1, Nat.le_trans h2 hx⟩
theorem InM.size {M X : Nat} {q : Rat} (hM : 0 < M) (h : InM M X q) : q.num.natAbs <= X /\ q.den <= M := by
 obtain ⟨z, rfl, h2⟩ := h;obtain ⟨h3, h4⟩ := mkRat_sizes z M (by omega);exact ⟨Nat.le_trans h4 h2, Nat.le_of_dvd hM h3⟩
def AllM (M X : Nat) (qs : List Rat) : Prop := ∀ q ∈ qs, InM M X q
theorem AllM.take {M X : Nat} {qs : List Rat} (h : AllM M X qs) (n : Nat) : AllM M X (qs.take n) := fun q hq => h q (List.mem_of_mem_take hq)
theorem AllM.drop {M X : Nat} {qs : List Rat} (h : AllM M X qs) (n : Nat) : AllM M X (qs.drop n) := fun q hq => h q (List.mem_of_mem_drop hq)
theorem AllM.append {M X : Nat} {qs ps : List Rat} (h : AllM M X qs) (k : AllM M X ps) : AllM M X (qs ++ ps) := fun q hq => (List.mem_append.1 hq).elim (h q) (k q)
theorem AllM.headD {M X : Nat} {qs : List Rat} (h : AllM M X qs) : InM M X (qs.headD 0) := by
 cases qs with
 | nil => exact InM.zero
 | cons q qs => exact h q List.mem_cons_self
theorem AllM.add {M X X' : Nat} (hM : 0 < M) : ∀ {a b : List Rat}, AllM M X a -> AllM M X' b -> AllM M (X + X') (addL a b)
 | [], _, _, _ => fun q hq => by cases hq
 | _ :: _, [], _, _ => fun q hq => by cases hq
 | p :: a, q :: b, ha, hb => by
  intro x hx
  rcases List.mem_cons.1 hx with rfl | hx
  ·exact InM.add hM (ha p List.mem_cons_self) (hb q List.mem_cons_self)
  ·exact AllM.add hM (a := a) (b := b) (fun y hy => ha y (List.mem_cons_of_mem _ hy)) (fun y hy => hb y (List.mem_cons_of_mem _ hy)) x hx
def prQ (Mr : Nat -> Nat) : Nat -> Nat
 | 0 => 1
 | h + 1 => prQ Mr h * (Mr h * prQ Mr h)
def prY (Mr Xr : Nat -> Nat) : Nat -> Nat
 | 0 => 1
 | h + 1 => prY Mr Xr h * (Mr h * prQ Mr h) + prY Mr Xr h * (Mr h * prQ Mr h) + prY Mr Xr h * (Xr h * prY Mr Xr h)
theorem prQ_pos {Mr : Nat -> Nat} (hM : ∀ i, 0 < Mr i) : ∀ h, 0 < prQ Mr h
 | 0 => Nat.one_pos
 | h + 1 => Nat.mul_pos (prQ_pos hM h) (Nat.mul_pos (hM h) (prQ_pos hM h))
theorem mulL_in {R : Nat -> List Rat} {Mr Xr : Nat -> Nat} (hM : ∀ i, 0 < Mr i) (hR : ∀ i, AllM (Mr i) (Xr i) (R i)) : ∀ (h : Nat) {a b : List Rat} {Ma Xa Mb Xb : Nat}, 0 < Ma -> 0 < Mb -> AllM Ma Xa a -> AllM Mb Xb b -> AllM (Ma * Mb * prQ Mr h) (Xa * Xb * prY Mr Xr h) (mulL R h a b)
 | 0, a, b, Ma, Xa, Mb, Xb, _, _, ha, hb => by
  intro q hq;rw [mulL, List.mem_singleton] at hq;rw [hq, prQ, prY, Nat.mul_one, Nat.mul_one];exact ha.headD.mul hb.headD
 | h + 1, a, b, Ma, Xa, Mb, Xb, pa, pb, ha, hb => by
  have hq := prQ_pos hM h;have hk : 0 < Mr h * prQ Mr h := Nat.mul_pos (hM h) hq;have pm : 0 < Ma * Mb * prQ Mr h := Nat.mul_pos (Nat.mul_pos pa pb) hq;have i0 := mulL_in hM hR h pa pb (ha.take (2 ^ h)) (hb.take (2 ^ h));have i1 := mulL_in hM hR h pa pb (ha.drop (2 ^ h)) (hb.drop (2 ^ h));have i2 := mulL_in hM hR h pm (hM h) i1 (hR h);have i3 := mulL_in hM hR h pa pb (ha.take (2 ^ h)) (hb.drop (2 ^ h));have i4 := mulL_in hM hR h pa pb (ha.drop (2 ^ h)) (hb.take (2 ^ h));have eM : Ma * Mb * prQ Mr (h + 1) = Ma * Mb * prQ Mr h * (Mr h * prQ Mr h) := by rw [prQ]; simp only [Nat.mul_assoc]
  have e2 : Ma * Mb * prQ Mr h * Mr h * prQ Mr h = Ma * Mb * prQ Mr h * (Mr h * prQ Mr h) := by rw [Nat.mul_assoc]
  have eX : Xa * Xb * prY Mr Xr (h + 1) = Xa * Xb * prY Mr Xr h * (Mr h * prQ Mr h) + Xa * Xb * prY Mr Xr h * (Mr h * prQ Mr h) + Xa * Xb * prY Mr Xr h * Xr h * prY Mr Xr h := by
   rw [prY];simp only [Nat.mul_add, Nat.mul_assoc]
  rw [e2] at i2;rw [eM, eX, mulL];have sc : ∀ {c : List Rat} {X : Nat}, AllM (Ma * Mb * prQ Mr h) X c -> AllM (Ma * Mb * prQ Mr h * (Mr h * prQ Mr h)) (X * (Mr h * prQ Mr h)) c := fun hc q hq => (hc q hq).scale pm _ hk
  have p2 := Nat.mul_pos pm hk;refine AllM.append (fun q hq => ((AllM.add p2 (sc i0) i2) q hq).le ?_) (fun q hq => ((AllM.add p2 (sc i3) (sc i4)) q hq).le ?_)
  ·generalize Xa * Xb * prY Mr Xr h * (Mr h * prQ Mr h) = u
   generalize Xa * Xb * prY Mr Xr h * Xr h * prY Mr Xr h = v;omega
  ·generalize Xa * Xb * prY Mr Xr h * (Mr h * prQ Mr h) = u
   generalize Xa * Xb * prY Mr Xr h * Xr h * prY Mr Xr h = v;omega
section
variable {w : World} {base L : Nat} {v : Value} {qs ps : List Rat} {A : Option Addr} {n c : Nat}
theorem Row4.mono {base2 : Nat} (h : Row4 w base v qs L) (hb : base2 <= base) : Row4 w base2 v qs L := by
 obtain ⟨cs, h1, h2⟩ := h.own;refine ⟨⟨cs, ⟨h1.1, ?_⟩, h2⟩, h.nwb⟩
 rcases h1.2 with q | ⟨g, cap, cur, q1, q2, q3⟩
 ·exact Or.inl q
 ·exact Or.inr ⟨g, cap, cur, q1, Nat.le_trans hb q2, q3⟩
end
end
section
open Go.RowKit
attribute [local go_sem ↓] Go.wp_at_zero Go.wp_at_succ
section
variable {w w' : World} {q x : Rat} {L M : Nat} {s t : Bool} {A B : Option Addr} {n c m d : Nat} {sx tx : Bool} {Ax Bx : Option Addr} {nx cx mx dx : Nat} {qs ps : List Rat} {rs : List RawR} {ts us : List (List RawR)}
def rightB (ts : List (List RawR)) (a b c : List RawR) : Bool := fewB4 ts [a, b, c] && (formedB ts [a] && (formedB ts [b] && formedB ts [c]))
theorem fewB4_parts {ts : List (List RawR)} {a b c : List RawR} (h : fewB4 ts [a, b, c] = true) : ts.length <= 4 /\ (∀ l ∈ ts, l.length <= 16 /\ l.all (fun r => r.le 4) = true) /\ (a.length <= 16 /\ a.all (fun r => r.le 4) = true) /\ (b.length <= 16 /\ b.all (fun r => r.le 4) = true) /\ (c.length <= 16 /\ c.all (fun r => r.le 4) = true) := by
 unfold fewB4 fewL at h;rw [Bool.and_eq_true, decide_eq_true_eq, List.all_eq_true] at h
 have hp : ∀ l ∈ ts ++ [a, b, c], l.length <= 16 /\ l.all (fun r => r.le 4) = true := fun l hl => by
  have := h.2 l hl;rw [Bool.and_eq_true, decide_eq_true_eq] at this;exact this
 exact ⟨h.1, fun l hl => hp l (List.mem_append_left _ hl), hp a (by simp), hp b (by simp), hp c (by simp)⟩
theorem RawT.three {g : Nat} {T : TypeId} {D : Option Addr} {l e : Nat} {r1 r2 r3 : List RawR} (hb : Box w g T #[.slice A n c, .slice B m d, .slice D l e]) (h : RawP w A n c r1) (h' : RawP w B m d r2) (h'' : RawP w D l e r3) : RawT w (some ⟨g, 0, .none⟩) 3 3 [r1, r2, r3] :=
 ⟨rfl, Nat.le_refl _, by unfold maxLen; omega, fun _ => ⟨g, 0, rfl, fun i hi => by
  have hi' : i = 0 \/ i = 1 \/ i = 2 := by simp at hi; omega
  rcases hi' with rfl | rfl | rfl
  ·exact ⟨A, n, c, hb.cell 0 _ rfl, h⟩
  ·exact ⟨B, m, d, hb.cell 1 _ rfl, h'⟩
  ·exact ⟨D, l, e, hb.cell 2 _ rfl, h''⟩⟩⟩
theorem p_rightL {A1 A2 A3 : Option Addr} {n1 c1 n2 c2 n3 c3 : Nat} {r1 r2 r3 : List RawR} (h : RawT w A n c ts) (h1 : RawP w A1 n1 c1 r1) (h2 : RawP w A2 n2 c2 r2) (h3 : RawP w A3 n3 c3 r3) :
  Calls Tryz.prog 32 #[.agg #[.slice A n c, .slice A1 n1 c1, .slice A2 n2 c2, .slice A3 n3 c3]] w fun e w' => e = .returned (.bool (rightB ts r1 r2 r3)) /\ Ext w w' := by
 have hsz := World.size_alloc w (.cells #[.slice A n c, .slice A1 n1 c1, .slice A2 n2 c2, .slice A3 n3 c3] 25)
 go_enter Tryz.func32, Tryz.ntmps32
 go_upto_region 1 with (fail)
 obtain ⟨W, hW, EW, bx, hz⟩ := box1 w 25 #[.slice A n c, .slice A1 n1 c1, .slice A2 n2 c2, .slice A3 n3 c3];rw [<- hW];clear hW hz hsz;have hnb := Box.new W 23 #[.slice A1 n1 c1, .slice A2 n2 c2, .slice A3 n3 c3];have e1 := (Ext.refl W).alloc (.cells #[.slice A1 n1 c1, .slice A2 n2 c2, .slice A3 n3 c3] 23);have x0 := bx.cell 0 (.slice A n c) rfl;have x1 := bx.cell 1 (.slice A1 n1 c1) rfl;have x2 := bx.cell 2 (.slice A2 n2 c2) rfl;have x3 := bx.cell 3 (.slice A3 n3 c3) rfl
 go_wp2_with fail
 refine (q_FewT (h.ext (EW.trans e1)) (RawT.three hnb (h1.ext (EW.trans e1)) (h2.ext (EW.trans e1)) (h3.ext (EW.trans e1))) (by omega)).mono ?_;rintro e V ⟨rfl, hx⟩;clear x0 x1 x2 x3 hnb;replace EW := EW.trans (e1.trans hx);replace bx := bx.ext (e1.trans hx);clear e1 hx
 cases hf : fewB4 ts [r1, r2, r3] with
 | false =>
  have HF := Lib.hid hf;clear hf
  go_wp2_with fail
  go_ret
  exact ⟨by unfold rightB; rw [HF.out]; rfl, EW⟩
 | true =>
  obtain ⟨p0, p1, p2, p3, p4⟩ := fewB4_parts hf;have HF := Lib.hid hf;have hn4 : n <= 16 := by rw [<- h.len]; omega
  have hr : ∀ l ∈ ts, l.all (fun r => r.le 1000) = true := fun l hl => le_1000 (p1 l hl).2
  have hrl : ∀ l ∈ ts, l.length <= 100000 := fun l hl => Nat.le_trans (p1 l hl).1 (by omega)
  have q1 := le_1000 p2.2;have q2 := le_1000 p3.2;have q3 := le_1000 p4.2;have m1 : n1 <= 16 := by rw [<- h1.len]; exact p2.1
  have m2 : n2 <= 16 := by rw [<- h2.len]; exact p3.1
  have m3 : n3 <= 16 := by rw [<- h3.len]; exact p4.1
  clear hf p0 p1 p2 p3 p4;have x0 := bx.cell 0 (.slice A n c) rfl;have x1 := bx.cell 1 (.slice A1 n1 c1) rfl
  go_wp2_with fail
  refine (q_FormedT (h.ext EW) (h1.ext EW) hn4 (by omega) hr hrl q1).mono ?_;rintro e V2 ⟨rfl, hx⟩;clear x0 x1;replace EW := EW.trans hx;replace bx := bx.ext hx;clear hx
  cases hf1 : formedB ts [r1] with
  | false =>
   have H1 := Lib.hid hf1;clear hf1
   go_wp2_with fail
   go_ret
   exact ⟨by unfold rightB; rw [HF.out, H1.out]; rfl, EW⟩
  | true =>
   have H1 := Lib.hid hf1;clear hf1;have x0 := bx.cell 0 (.slice A n c) rfl;have x2 := bx.cell 2 (.slice A2 n2 c2) rfl
   go_wp2_with fail
   refine (q_FormedT (h.ext EW) (h2.ext EW) hn4 (by omega) hr hrl q2).mono ?_;rintro e V3 ⟨rfl, hx⟩;clear x0 x2;replace EW := EW.trans hx;replace bx := bx.ext hx;clear hx
   cases hf2 : formedB ts [r2] with
   | false =>
    have H2 := Lib.hid hf2;clear hf2
    go_wp2_with fail
    go_ret
    exact ⟨by unfold rightB; rw [HF.out, H1.out, H2.out]; rfl, EW⟩
   | true =>
    have H2 := Lib.hid hf2;clear hf2;have x0 := bx.cell 0 (.slice A n c) rfl;have x3 := bx.cell 3 (.slice A3 n3 c3) rfl
    go_wp2_with fail
    refine (q_FormedT (h.ext EW) (h3.ext EW) hn4 (by omega) hr hrl q3).mono ?_;rintro e V4 ⟨rfl, hx⟩
    go_wp2_with fail
    go_ret
    exact ⟨by unfold rightB; rw [HF.out, H1.out, H2.out]; rfl, EW.trans hx⟩
end
theorem Row4.tightG {w : World} {base L M : Nat} {v : Value} {qs : List Rat} (h : Row4 w base v qs L) (hb : ∀ q ∈ qs, q.num.natAbs < 4294967296 ^ M /\ q.den < 4294967296 ^ M) : Row4 w base v qs M := by
 obtain ⟨⟨cs, h1, h2⟩, hw⟩ := h;refine ⟨⟨cs, h1, ?_⟩, hw⟩;clear h1 hw
 induction h2 with
 | nil => exact .nil
 | cons hq _ ih => exact .cons (hq.tightR (hb _ List.mem_cons_self).1 (hb _ List.mem_cons_self).2) (ih (fun q hq => hb q (List.mem_cons_of_mem _ hq)))
section
variable {w w' : World} {A A1 A2 A3 : Option Addr} {n c n1 c1 n2 c2 n3 c3 L : Nat} {qs : List Rat} {ts : List (List RawR)} {r1 r2 r3 : List RawR}
theorem NR.sm {q : Rat} {s t : Bool} {B : Option Addr} {m d : Nat} (h : NR w q 4 s A n c t B m d) : SmQ q := ⟨h.num.le_pow, by have := h.den.le_pow; rw [Int.natAbs_natCast] at this; exact this⟩
theorem Pol.sm (h : Pol w A n c qs 4) : ∀ q ∈ qs, SmQ q := by
 intro q hq;obtain ⟨i, hi, rfl⟩ := List.getElem_of_mem hq;obtain ⟨b, off, _, h2⟩ := h.at_ (fun e => by subst e; exact absurd hi (Nat.not_lt_zero _));obtain ⟨_, _, _, _, _, _, _, _, _, _, _, _, hx⟩ := h2.at_ i hi;exact hx.sm
theorem PolT.sm {T : List (List Rat)} (h : PolT w A n c T 4) : ∀ r ∈ T, ∀ q ∈ r, SmQ q := by
 intro r hr;obtain ⟨i, hi, rfl⟩ := List.getElem_of_mem hr;obtain ⟨b, off, _, h2⟩ := h.at_ (fun e => by subst e; exact absurd hi (Nat.not_lt_zero _));obtain ⟨_, _, _, _, hp⟩ := h2 i hi;exact hp.sm
theorem formed_bundle (h : RawT w A n c ts) (h1 : RawP w A1 n1 c1 r1) (hf : formedB ts [r1] = true) (l4 : ∀ l ∈ ts, l.all (fun r => r.le L) = true) (k4 : r1.all (fun r => r.le L) = true) :
  PolT w A n c (ts.map fun l => l.map RawR.q) L /\ TowL (ts.map fun l => l.map RawR.q) /\ Pol w A1 n1 c1 (r1.map RawR.q) L /\ n1 = 2 ^ n := by
 unfold formedB at hf;rw [Bool.and_eq_true] at hf;obtain ⟨f1, f2⟩ := hf;have f3 := towerB_at ts 0 f1;simp only [List.all_cons, List.all_nil, Bool.and_true] at f2;obtain ⟨g1, g2⟩ := validL_parts f2;refine ⟨h.polT (fun l hl => ?_) l4, fun i hi => ?_, h1.polV g2 k4, ?_⟩
 ·obtain ⟨i, hi, rfl⟩ := List.getElem_of_mem hl
  exact (validL_parts (f3 i hi)).2
 ·rw [List.length_map] at hi
  rw [List.getElem_map, List.length_map, (validL_parts (f3 i hi)).1, Nat.zero_add]
 ·rw [<- h1.len, g1, h.len]
theorem right_bundle (h : RawT w A n c ts) (h1 : RawP w A1 n1 c1 r1) (h2 : RawP w A2 n2 c2 r2) (h3 : RawP w A3 n3 c3 r3) (hr : rightB ts r1 r2 r3 = true) :
  ∃ T qa qb qc, PolT w A n c T 4 /\ TowL T /\ n <= 4 /\ (Pol w A1 n1 c1 qa 4 /\ n1 = 2 ^ n) /\ (Pol w A2 n2 c2 qb 4 /\ n2 = 2 ^ n) /\ (Pol w A3 n3 c3 qc 4 /\ n3 = 2 ^ n) := by
 unfold rightB at hr;simp only [Bool.and_eq_true] at hr;obtain ⟨f0, f1, f2, f3⟩ := hr;obtain ⟨p0, p1, p2, p3, p4⟩ := fewB4_parts f0;have l4 : ∀ l ∈ ts, l.all (fun r => r.le 4) = true := fun l hl => (p1 l hl).2
 obtain ⟨a1, a2, a3, a4⟩ := formed_bundle h h1 f1 l4 p2.2;obtain ⟨_, _, b3, b4⟩ := formed_bundle h h2 f2 l4 p3.2;obtain ⟨_, _, c3, c4⟩ := formed_bundle h h3 f3 l4 p4.2;exact ⟨_, _, _, _, a1, a2, by rw [<- h.len]; exact p0, ⟨a3, a4⟩, ⟨b3, b4⟩, ⟨c3, c4⟩⟩
end
end
end Go.Proofs.YtgagcochepnelaaGreatDoor
