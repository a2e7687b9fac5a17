/- Walks and laws, a part. -/
import Derived.Test.YtpeddoaknfjbbaaGreatDoorMd4
set_option linter.unusedSimpArgs false
set_option linter.unusedVariables false
set_option maxHeartbeats 64000000
namespace Go.Proofs.YtpeddoaknfjbbaaGreatDoor
section
open Go.RowKit
attribute [local go_sem ↓] Go.wp_at_zero Go.wp_at_succ
section
variable {w w' : World} {z y : Int} {q p : Rat} {L M : Nat} {s t s' t' : Bool} {A B A' B' : Option Addr} {n c m d n' c' m' d' : Nat}
set_option maxRecDepth 100000 in
theorem p_MulR (h : NR w q L s A n c t B m d) (k : NR w p M s' A' n' c' t' B' m' d') (hL : L <= 1000) (hM : M <= 1000) (h64 : min L M < 64) (hT : Tab w) : Calls Tryz.prog 59 #[.agg #[.bool s, .slice A n c, .bool t, .slice B m d], .agg #[.bool s', .slice A' n' c', .bool t', .slice B' m' d']] w (RetNR (q * p) (L + M) w) := by
 have hL1 := h.pos;have hM1 := k.pos
 go_enter Tryz.func59, Tryz.ntmps59
 go_upto_region 1 with (fail)
 obtain ⟨W, hW, extW, bx, by_, bz, hz⟩ := box3 w 27 27 27 #[.bool s, .slice A n c, .bool t, .slice B m d] #[.bool s', .slice A' n' c', .bool t', .slice B' m' d'] #[Value.bool false, Value.slice none 0 0, Value.bool false, Value.slice none 0 0];rw [<- hW];clear hW;replace h := h.ext extW;replace k := k.ext extW;have x0 := bx.cell 0 (.bool s) rfl;have x1 := bx.cell 1 (.slice A n c) rfl;have x2 := bx.cell 2 (.bool t) rfl;have x3 := bx.cell 3 (.slice B m d) rfl;have y0 := by_.cell 0 (.bool s') rfl;have y1 := by_.cell 1 (.slice A' n' c') rfl;have y2 := by_.cell 2 (.bool t') rfl;have y3 := by_.cell 3 (.slice B' m' d') rfl
 go_wp2_with fail
 refine (p_smallPair h k (by omega) (by omega)).mono ?_;rintro e wa ⟨a1, a2, c1, c2, ok, rfl, hok, hxa⟩;have Hok := Lib.hid hok;clear hok;clear x0 x1 x2 x3;clear y0 y1 y2 y3
 go_upto_region 2 with (fail)
 refine at_world (fun V => Ext W V /\ Box V wa.heap.size 93 #[.int .i64 a1, .int .i64 a2] /\ Box V (wa.heap.size + 1) 93 #[.int .i64 c1, .int .i64 c2]) ?_ ?_
 ·obtain ⟨e1, e2, e3⟩ := two_new wa 93 #[.int .i64 a1, .int .i64 a2] #[.int .i64 c1, .int .i64 c2]
  exact ⟨hxa.trans e1, e2, e3⟩
 generalize wa.heap.size = g5;clear hxa;rintro V ⟨EV, b5, b6⟩;replace bx := bx.ext EV;replace by_ := by_.ext EV;replace bz := bz.ext EV;replace h := h.ext EV;replace k := k.ext EV;replace extW := extW.trans EV;clear EV
 cases ok with
 | true =>
  obtain ⟨sm1, sm2⟩ := Hok.out (by first | rfl | trivial);have j0 := b5.cell 0 (.int .i64 a1) rfl;have j1 := b5.cell 1 (.int .i64 a2) rfl;have j2 := b6.cell 0 (.int .i64 c1) rfl;have j3 := b6.cell 1 (.int .i64 c2) rfl
  go_wp2_with fail
  refine (p_times sm1 sm2).mono ?_;rintro e wb ⟨s1, A1, n1, c1', t1, B1, m1, d1, rfl, hr, hxb⟩;have z0 := (bz.ext hxb).cell 0 _ rfl;have z1 := (bz.ext hxb).cell 1 _ rfl;have z2 := (bz.ext hxb).cell 2 _ rfl;have z3 := (bz.ext hxb).cell 3 _ rfl;have f0 := (bz.ext hxb).frozen 0;have f1 := (bz.ext hxb).frozen 1;have f2 := (bz.ext hxb).frozen 2;have f3 := (bz.ext hxb).frozen 3
  go_wp2_with fail
  obtain ⟨b1, b2, b3, b4⟩ := fin_quad (s := s1) (A := A1) (n := n1) (c := c1') (t := t1) (B := B1) (m := m1) (d := d1) (bz.ext hxb);have r0 := b1.cell 0 (.bool s1) rfl;have r1 := b1.cell 1 (.slice A1 n1 c1') rfl;have r2 := b1.cell 2 (.bool t1) rfl;have r3 := b1.cell 3 (.slice B1 m1 d1) rfl;unfold set4 at r0 r1 r2 r3;refine bodyPost_ret (v := .agg #[.bool s1, .slice A1 n1 c1', .bool t1, .slice B1 m1 d1]) (by simp [results, Tryz.results59, go_sem, r0, r1, r2, r3]) rfl ⟨s1, A1, n1, c1', t1, B1, m1, d1, rfl, ⟨?_, ?_⟩, b3 _ (extW.trans hxb) (by omega)⟩
  ·exact (b2 _ _ _ _ _ _ hr.num).le (by omega)
  ·exact (b2 _ _ _ _ _ _ hr.den).le (by omega)
 | false =>
  go_wp2_with fail
  have ES0 := Ext.refl V;refine wp_region_held_drew (S := Ext V) (by kernel_rfl) ES0.drew (fun ES => ?_);clear ES0;refine Late.start2 (x := ⟨10, 8, 25, #[Value.bool false, Value.slice none 0 0]⟩) (y := ⟨11, 9, 25, #[Value.bool false, Value.slice none 0 0]⟩) (n := 12) ⟨_, rfl, rfl, rfl, fun a w => by go_simp⟩ ⟨_, rfl, rfl, rfl, fun a w => by go_simp⟩ (fun _ _ _ _ _ => ⟨fun h => h, fun h => h⟩) ES rfl (fun hAl hQ => ?_);refine Late.t 0 21 ?v_0 hQ ?y_0 ?_
  case y_0 => intro w' hSw;go_simp;try rfl
  try simp only [zP]
  refine Late.t 2 23 ?v_1 hQ ?y_1 ?_
  case y_1 => intro w' hSw;go_simp;try rfl
  try simp only [zP]
  refine Late.t 5 26 ?v_2 hQ ?y_2 ?_
  case y_2 => intro w' hSw;go_simp;try rfl
  try simp only [zP]
  refine Late.t 7 28 ?v_3 hQ ?y_3 ?_
  case y_3 => intro w' hSw;go_simp;try rfl
  try simp only [zP]
  refine Late.t 1 22 ?v_4 hQ ?y_4 ?_
  case y_4 => intro w' hSw;have k00 := (bx.ext hSw).c4;have k10 := (by_.ext hSw).c4;go_simp;try rfl
  try simp only [zP]
  refine Late.t 3 24 ?v_5 hQ ?y_5 ?_
  case y_5 => intro w' hSw;have k00 := (bx.ext hSw).c4;have k10 := (by_.ext hSw).c4;go_simp;try rfl
  try simp only [zP]
  refine Late.t 6 27 ?v_6 hQ ?y_6 ?_
  case y_6 => intro w' hSw;have k00 := (bx.ext hSw).c4;have k10 := (by_.ext hSw).c4;go_simp;try rfl
  try simp only [zP]
  refine Late.t 8 29 ?v_7 hQ ?y_7 ?_
  case y_7 => intro w' hSw;have k00 := (bx.ext hSw).c4;have k10 := (by_.ext hSw).c4;go_simp;try rfl
  try simp only [zP]
  refine Late.cl (i := 4) rfl hAl hQ (fun w4 e4 E4 K hK => ?_);go_simp
  (go_at_call 102; refine (p_GCD (h.num.ext E4) (k.den.ext E4) (by omega) (by omega) (hT.ext (extW.trans E4))).mono ?_; rintro e wk1 ⟨s1, A1, n1, c1', rfl, h1, hx4⟩; rw [Int.natAbs_natCast] at h1)
  refine hK.out _ _ hx4 ?_;clear hK K
  try simp only [zP]
  refine Late.cl (i := 9) rfl hAl hQ (fun w9 e9 E9 K hK => ?_);go_simp
  (go_at_call 102; refine (p_GCD (k.num.ext E9) (h.den.ext E9) (by omega) (by omega) (hT.ext (extW.trans E9))).mono ?_; rintro e wk2 ⟨s2, A2, n2, c2', rfl, h2, hx9⟩; rw [Int.natAbs_natCast] at h2)
  refine hK.out _ _ hx9 ?_;clear hK K
  try simp only [zP]
  refine Late.finish2 (hAl _ (by simp)) (hAl _ (by simp)) (by decide) (by decide) (by kernel_rfl) (by kernel_rfl) (by kernel_rfl) (fun wz g5 g6 ez Ez lg5 lg6 hne xb1 xb2 => ?_);clear hAl hQ ES;have p10 := xb1.cell 0 (Value.bool false) rfl;have p11 := xb1.cell 1 (Value.slice none 0 0) rfl;have f10 := xb1.frozen 0;have f11 := xb1.frozen 1;have e4 := fin_dual (s := s1) (A := A1) (n := n1) (c := c1') xb1
  try simp only [zP]
  refine wpAnyH_ready (rs := [12]) (by kernel_rfl) (by simp) (AllReadyH.cons rfl (fun K hK => ?_) AllReadyH.nil);go_simp;refine hK.out _ _ (e4.2.2.1 _ Ez lg5) (fun _ => ?_);clear hK K
  try simp only [zP]
  have e5 := e4.2.2.2 _ _ _ (Ne.symm hne) xb2;refine any_world (fun U => Ext V U /\ Box U g5 25 #[.bool s1, .slice A1 n1 c1'] /\ Box U g6 25 #[Value.bool false, Value.slice none 0 0] /\ NI U ((q.num.natAbs.gcd p.den : Nat) : Int) (max L M) s1 A1 n1 c1' /\ NI U ((p.num.natAbs.gcd q.den : Nat) : Int) (max M L) s2 A2 n2 c2') ⟨e4.2.2.1 _ Ez lg5, e4.1, e5, e4.2.1 _ _ _ _ _ _ (h1.ext (e9.trans (hx9.trans ez))), e4.2.1 _ _ _ _ _ _ (h2.ext ez)⟩ ?_;clear e4 e5 p10 p11 f10 f11 xb1 xb2;rintro U ⟨EU, b8, xb2, h1, h2⟩;have p10 := xb2.cell 0 (Value.bool false) rfl;have p11 := xb2.cell 1 (Value.slice none 0 0) rfl;have f10 := xb2.frozen 0;have f11 := xb2.frozen 1;have e4 := fin_dual (s := s2) (A := A2) (n := n2) (c := c2') xb2;refine wpAnyH_ready (rs := [13]) (by kernel_rfl) (by simp) (AllReadyH.cons rfl (fun K hK => ?_) AllReadyH.nil);go_simp;refine hK.out _ _ (e4.2.2.1 _ EU lg6) (fun _ => ?_);clear hK K
  try simp only [zP]
  refine any_world (fun U2 => Ext V U2 /\ Box U2 g5 25 #[.bool s1, .slice A1 n1 c1'] /\ Box U2 g6 25 #[.bool s2, .slice A2 n2 c2'] /\ NI U2 ((q.num.natAbs.gcd p.den : Nat) : Int) (max L M) s1 A1 n1 c1' /\ NI U2 ((p.num.natAbs.gcd q.den : Nat) : Int) (max M L) s2 A2 n2 c2') ⟨e4.2.2.1 _ EU lg6, e4.2.2.2 _ _ _ hne b8, e4.1, e4.2.1 _ _ _ _ _ _ h1, e4.2.1 _ _ _ _ _ _ h2⟩ ?_;clear e4 p10 p11 f10 f11 xb2 b8 h1 h2 lg5 lg6;rintro U2 ⟨EU2, b8, b9, h1, h2⟩;refine wpAnyH_done (by kernel_rfl) ?_ _;replace bx := bx.ext EU2;replace by_ := by_.ext EU2;replace bz := bz.ext EU2;replace h := h.ext EU2;replace k := k.ext EU2;replace extW := extW.trans EU2;clear EU EU2 Ez ez;obtain ⟨g, hge⟩ : ∃ g, q.num.natAbs.gcd p.den = g := ⟨_, rfl⟩;obtain ⟨hq, hhe⟩ : ∃ g, p.num.natAbs.gcd q.den = g := ⟨_, rfl⟩;rw [hge] at h1;rw [hhe] at h2;obtain ⟨q1, q2⟩ := rat_mul q p hge.symm hhe.symm;have Hq1 := Lib.hid q1;have Hq2 := Lib.hid q2;have hgq : g ∣ q.num.natAbs := by rw [<- hge]; exact Nat.gcd_dvd_left _ _
  have hgp : g ∣ p.den := by rw [<- hge]; exact Nat.gcd_dvd_right _ _
  have hhp : hq ∣ p.num.natAbs := by rw [<- hhe]; exact Nat.gcd_dvd_left _ _
  have hhq : hq ∣ q.den := by rw [<- hhe]; exact Nat.gcd_dvd_right _ _
  have hg0 : (g : Int) ≠ 0 := by
   intro h0;have : g = 0 := by omega
   rw [this] at hgp;exact p.den_nz (Nat.eq_zero_of_zero_dvd hgp)
  have hh0 : (hq : Int) ≠ 0 := by
   intro h0;have : hq = 0 := by omega
   rw [this] at hhq;exact q.den_nz (Nat.eq_zero_of_zero_dvd hhq)
  have Hg0 := Lib.hid hg0;have Hh0 := Lib.hid hh0;have Hgq := Lib.hid (Int.ofNat_dvd_left.2 hgq);have Hgp := Lib.hid (Int.ofNat_dvd.2 hgp);have Hhp := Lib.hid (Int.ofNat_dvd_left.2 hhp);have Hhq := Lib.hid (Int.ofNat_dvd.2 hhq);have hg := h1;have hh := h2;clear hge hhe q1 q2 hgq hgp hhp hhq hg0 hh0 h1 h2
  go_wp2_with fail
  refine wpL.st 19 (fun hQ ES => ?_);refine wpL.t 0 31 ?v_8 hQ ?y_8 ES ?_
  case y_8 => intro w' hSw;go_simp;try rfl
  try simp only [zP]
  refine wpL.t 2 33 ?v_9 hQ ?y_9 ES ?_
  case y_9 => intro w' hSw;have k00 := (bx.ext hSw).c4;have k10 := (by_.ext hSw).c4;have k20 := (b8.ext hSw).c2;have k30 := (b9.ext hSw).c2;go_simp;try rfl
  try simp only [zP]
  refine wpL.t 4 35 ?v_a hQ ?y_a ES ?_
  case y_a => intro w' hSw;go_simp;try rfl
  try simp only [zP]
  refine wpL.t 6 37 ?v_b hQ ?y_b ES ?_
  case y_b => intro w' hSw;have k00 := (bx.ext hSw).c4;have k10 := (by_.ext hSw).c4;have k20 := (b8.ext hSw).c2;have k30 := (b9.ext hSw).c2;go_simp;try rfl
  try simp only [zP]
  refine wpL.t 9 40 ?v_c hQ ?y_c ES ?_
  case y_c => intro w' hSw;go_simp;try rfl
  try simp only [zP]
  refine wpL.t 11 42 ?v_d hQ ?y_d ES ?_
  case y_d => intro w' hSw;have k00 := (bx.ext hSw).c4;have k10 := (by_.ext hSw).c4;have k20 := (b8.ext hSw).c2;have k30 := (b9.ext hSw).c2;go_simp;try rfl
  try simp only [zP]
  refine wpL.t 13 44 ?v_e hQ ?y_e ES ?_
  case y_e => intro w' hSw;go_simp;try rfl
  try simp only [zP]
  refine wpL.t 15 46 ?v_f hQ ?y_f ES ?_
  case y_f => intro w' hSw;have k00 := (bx.ext hSw).c4;have k10 := (by_.ext hSw).c4;have k20 := (b8.ext hSw).c2;have k30 := (b9.ext hSw).c2;go_simp;try rfl
  try simp only [zP]
  refine wpL.t 1 32 ?v_g hQ ?y_g ES ?_
  case y_g => intro w' hSw;have k00 := (bx.ext hSw).c4;have k10 := (by_.ext hSw).c4;have k20 := (b8.ext hSw).c2;have k30 := (b9.ext hSw).c2;go_simp;try rfl
  try simp only [zP]
  refine wpL.t 5 36 ?v_h hQ ?y_h ES ?_
  case y_h => intro w' hSw;have k00 := (bx.ext hSw).c4;have k10 := (by_.ext hSw).c4;have k20 := (b8.ext hSw).c2;have k30 := (b9.ext hSw).c2;go_simp;try rfl
  try simp only [zP]
  refine wpL.t 10 41 ?v_i hQ ?y_i ES ?_
  case y_i => intro w' hSw;have k00 := (bx.ext hSw).c4;have k10 := (by_.ext hSw).c4;have k20 := (b8.ext hSw).c2;have k30 := (b9.ext hSw).c2;go_simp;try rfl
  try simp only [zP]
  refine wpL.t 14 45 ?v_j hQ ?y_j ES ?_
  case y_j => intro w' hSw;have k00 := (bx.ext hSw).c4;have k10 := (by_.ext hSw).c4;have k20 := (b8.ext hSw).c2;have k30 := (b9.ext hSw).c2;go_simp;try rfl
  try simp only [zP]
  refine wpL.cl (i := 3) rfl (fun K hK => ?_);go_simp
  (go_at_call 103; refine (p_divide (h.num.ext ES) (hg.ext ES) (by omega) (by omega) Hg0.out Hgq.out).mono ?_; rintro e wk1 ⟨s3, A3, n3, c3, rfl, h3, hx0⟩; have E0_5 := Ext.trans ES hx0)
  refine hK.out _ _ E0_5 ?_;clear hK K
  try simp only [zP]
  refine wpL.cl (i := 7) rfl (fun K hK => ?_);go_simp
  (go_at_call 103; refine (p_divide (k.num.ext E0_5) (hh.ext E0_5) (by omega) (by omega) Hh0.out Hhp.out).mono ?_; rintro e wk2 ⟨s4, A4, n4, c4, rfl, h4, hx1⟩; have E1_5 := Ext.trans E0_5 hx1)
  refine hK.out _ _ E1_5 ?_;clear hK K
  try simp only [zP]
  refine wpL.cl (i := 8) rfl (fun K hK => ?_);go_simp
  (go_at_call 64; refine (p_Mul (h3.ext hx1) h4 (by omega) (by omega) h64).mono ?_; rintro e wk3 ⟨s5, A5, n5, c5, rfl, h5, hx2⟩; have E2_5 := Ext.trans E1_5 hx2)
  refine hK.out _ _ E2_5 ?_;clear hK K
  try simp only [zP]
  refine wpL.cl (i := 12) rfl (fun K hK => ?_);go_simp
  (go_at_call 103; refine (p_divide (h.den.ext E2_5) (hh.ext E2_5) (by omega) (by omega) Hh0.out Hhq.out).mono ?_; rintro e wk4 ⟨s6, A6, n6, c6, rfl, h6, hx3⟩; have E3_5 := Ext.trans E2_5 hx3)
  refine hK.out _ _ E3_5 ?_;clear hK K
  try simp only [zP]
  refine wpL.cl (i := 16) rfl (fun K hK => ?_);go_simp
  (go_at_call 103; refine (p_divide (k.den.ext E3_5) (hg.ext E3_5) (by omega) (by omega) Hg0.out Hgp.out).mono ?_; rintro e wk5 ⟨s7, A7, n7, c7, rfl, h7, hx4⟩; have E4_5 := Ext.trans E3_5 hx4)
  refine hK.out _ _ E4_5 ?_;clear hK K
  try simp only [zP]
  refine wpL.cl (i := 17) rfl (fun K hK => ?_);go_simp
  (go_at_call 64; refine (p_Mul (h6.ext hx4) h7 (by omega) (by omega) h64).mono ?_; rintro e wk6 ⟨s8, A8, n8, c8, rfl, h8, hx5⟩; have E5_5 := Ext.trans E4_5 hx5)
  refine hK.out _ _ E5_5 ?_;clear hK K
  try simp only [zP]
  refine wpL.t 18 49 ?v_k hQ ?y_k E5_5 ?_
  case y_k => intro w' hSw;go_simp;try rfl
  try simp only [zP]
  have z0 := (bz.ext E5_5).cell 0 _ rfl;have z1 := (bz.ext E5_5).cell 1 _ rfl;have z2 := (bz.ext E5_5).cell 2 _ rfl;have z3 := (bz.ext E5_5).cell 3 _ rfl;have f0 := (bz.ext E5_5).frozen 0;have f1 := (bz.ext E5_5).frozen 1;have f2 := (bz.ext E5_5).frozen 2;have f3 := (bz.ext E5_5).frozen 3;refine wpL.tl (i := 19) rfl (fun K hK => ?_);go_simp;refine hK.out _ _ ?_;clear hK K
  try simp only [zP]
  refine wpL.done (by kernel_rfl) ?_ _;clear hQ
  go_wp2_with fail
  have hk1 : ((q.den : Int) / (hq : Int)) * ((p.den : Int) / (g : Int)) = ((q * p).den : Int) := by rw [Hq2.out]; simp
  rw [hk1] at h8;rw [<- Hq1.out] at h5;obtain ⟨b1, b2, b3, b4⟩ := fin_quad (s := s5) (A := A5) (n := n5) (c := c5) (t := s8) (B := A8) (m := n8) (d := c8) (bz.ext E5_5);have r0 := b1.cell 0 (.bool s5) rfl;have r1 := b1.cell 1 (.slice A5 n5 c5) rfl;have r2 := b1.cell 2 (.bool s8) rfl;have r3 := b1.cell 3 (.slice A8 n8 c8) rfl;unfold set4 at r0 r1 r2 r3;refine bodyPost_ret (v := .agg #[.bool s5, .slice A5 n5 c5, .bool s8, .slice A8 n8 c8]) (by simp [results, Tryz.results59, go_sem, r0, r1, r2, r3]) rfl ⟨s5, A5, n5, c5, s8, A8, n8, c8, rfl, ⟨?_, ?_⟩, b3 _ (extW.trans E5_5) (by omega)⟩
  ·exact b2 _ _ _ _ _ _ (h5.ext (hx3.trans (hx4.trans hx5)))
  ·exact b2 _ _ _ _ _ _ h8
end
end
section
open Go.RowKit
section
variable {P : Program} {ops : Array Oper} {Q : Exit -> Act -> World -> Prop} {md : Region.Mode} {W0 : World} {z : Nat}
theorem wpL.first2 {i m : Nat} {oi : Oper} {v : Value} (hi : ops[i]? = some oi) (hs : Region.noSelect ops = true) (hiz : i ≠ z) (him : i ≠ m) (hw1 : Waits md ops i m) (hw2 : Waits md ops m z) (hQ : QStill Q) :
  ∀ (f : Nat) (L : Array Bool) (a : Act) (w : World), L.size = ops.size -> L.getD z false = false -> L.getD m false = false -> L.getD m true = false ->
   (∀ j oj, ops[j]? = some oj -> j ≠ i -> L.getD j true = false -> (∀ e ∈ oj.after, Region.binds md e = true -> e.on ≠ i) -> oi.apart ops oj = true) ->
   i ∈ Region.ready md ops L -> YieldsIf P ops (Ext W0) oi v a -> Ext W0 w ->
   wpL P md ops Q W0 z f (L.setIfInBounds i true) (a.put oi.dst v) w -> wpL P md ops Q W0 z (f + 1) L a w := by
 have hsel := Region.noSelect_spec hs;intro f
 induction f with
 | zero =>
  intro L a w _ _ _ _ _ hr hy hS H;refine ⟨(fun h0 => by rw [h0] at hr; cases hr), fun j hj => ?_⟩
  by_cases hji : j = i
  ·subst hji; exact hy.wpOp hi hS ⟨.inr hS, H⟩
  ·have := ready_mono hj hji
   rw [H.1] at this
   cases this
 | succ f ih =>
  intro L a w hsz hzL hmL hmT hfree hr hy hS H;refine ⟨(fun h0 => by rw [h0] at hr; cases hr), fun j hj => ?_⟩
  by_cases hji : j = i
  ·subst hji; exact hy.wpOp hi hS ⟨.inr hS, H⟩
  ·have hiL := (mem_ready.1 hr).1
   have hjz : j ≠ z := fun e => waits_not hw2 hmT hzL hsz (e ▸ hj)
   have hjm : j ≠ m := fun e => waits_not hw1 hiL hmL hsz (e ▸ hj)
   obtain ⟨hjun, oj, hoj, hall⟩ := mem_ready.1 hj
   have hnot : ∀ e ∈ oj.after, Region.binds md e = true -> e.on ≠ i := fun e he hb hh => by
    have h1 := hall e he hb;rw [hh] at h1
    have hlt : i < L.size := by
     rcases Nat.lt_or_ge i L.size with h | h
     ·exact h
     ·simp [h] at h1
    simp [hlt] at h1 hiL;rw [h1] at hiL
    cases hiL
   have h1 := H.2 j (ready_mono hj hji);have h2 := wpOp_putIf hoj (hfree j oj hoj hji hjun hnot) (fun cs b => hsel i oi cs b hi) (fun cs b => hsel j oj cs b hoj) (fun c a w => (hQ.put c a _ _ w).1) hy h1;refine wpOp_mono (fun a' w' h3 => ?_) h2;obtain ⟨hy', hS', H'⟩ := h3
   have hzz : ((L.setIfInBounds i true).setIfInBounds j true).getD z false = false := by
    rw [getD_set_ne false hjz, getD_set_ne false hiz]; exact hzL
   have hE : Ext W0 w' := by
    rcases hS' with h | h
    ·rw [hzz] at h; cases h
    ·exact h
   refine ⟨.inr hE, ih (L.setIfInBounds j true) a' w' (by simpa using hsz) (by rw [getD_set_ne false hjz]; exact hzL) (by rw [getD_set_ne false hjm]; exact hmL) (by rw [getD_set_ne true hjm]; exact hmT) ?_ (ready_mono hr (Ne.symm hji)) hy' hE ?_⟩
   ·intro k ok hk hki hun hno
    refine hfree k ok hk hki ?_ hno
    by_cases hjk : j = k
    ·subst hjk; exact hjun
    ·rwa [getD_set_ne true hjk] at hun
   ·rw [Array.setIfInBounds_comm _ _ hji]
    exact H'
theorem wpL.take2 {f i : Nat} {oi : Oper} {d : Option Tmp} {v : Value} {L : Array Bool} {a : Act} {w : World} (m : Nat) (hi : ops[i]? = some oi) (hd : oi.dst = d) (hs : Region.noSelect ops = true) (hf : Region.free md ops L i = true)
  (hr : (Region.ready md ops L).contains i = true) (hz : (i != z && i != m && waitsB md ops i m && waitsB md ops m z && !L.getD z false && !L.getD m false && !L.getD m true && L.size == ops.size) = true) (hQ : QStill Q) (hy : YieldsIf P ops (Ext W0) oi v a) (hS : Ext W0 w)
  (h : wpL P md ops Q W0 z f (L.setIfInBounds i true) (a.put d v) w) : wpL P md ops Q W0 z (f + 1) L a w := by
 subst hd;simp only [Bool.and_eq_true, bne_iff_ne, Bool.not_eq_true', beq_iff_eq] at hz;obtain ⟨⟨⟨⟨⟨⟨⟨h1, h2⟩, h3⟩, h4⟩, h5⟩, h6⟩, h7⟩, h8⟩ := hz;exact wpL.first2 hi hs h1 h2 (waitsB_spec h3) (waitsB_spec h4) hQ f L a w h8 h5 h6 h7 (fun j oj hj hne hun hno => Region.free_spec hi hf j oj hj hne hun hno) (by simpa using hr) hy hS h
theorem wpL.firstB {i : Nat} {oi : Oper} {v : Value} (B : List Nat) (hi : ops[i]? = some oi) (hs : Region.noSelect ops = true) (hB : ∀ k ∈ B, ∃ k' ∈ i :: B, Waits md ops k' k) (hzB : z ∈ B) (hiB : i ∉ B) (hQ : QStill Q) :
  ∀ (f : Nat) (L : Array Bool) (a : Act) (w : World), L.size = ops.size -> (∀ k ∈ B, L.getD k false = false /\ L.getD k true = false) ->
   (∀ j oj, ops[j]? = some oj -> j ≠ i -> L.getD j true = false -> (∀ e ∈ oj.after, Region.binds md e = true -> e.on ≠ i) -> oi.apart ops oj = true) ->
   i ∈ Region.ready md ops L -> YieldsIf P ops (Ext W0) oi v a -> Ext W0 w ->
   wpL P md ops Q W0 z f (L.setIfInBounds i true) (a.put oi.dst v) w -> wpL P md ops Q W0 z (f + 1) L a w := by
 have hsel := Region.noSelect_spec hs;have hiz : i ≠ z := fun e => hiB (e ▸ hzB)
 intro f
 induction f with
 | zero =>
  intro L a w _ _ _ hr hy hS H;refine ⟨(fun h0 => by rw [h0] at hr; cases hr), fun j hj => ?_⟩
  by_cases hji : j = i
  ·subst hji; exact hy.wpOp hi hS ⟨.inr hS, H⟩
  ·have := ready_mono hj hji
   rw [H.1] at this
   cases this
 | succ f ih =>
  intro L a w hsz hBL hfree hr hy hS H;refine ⟨(fun h0 => by rw [h0] at hr; cases hr), fun j hj => ?_⟩
  by_cases hji : j = i
  ·subst hji; exact hy.wpOp hi hS ⟨.inr hS, H⟩
  ·have hiL := (mem_ready.1 hr).1
   have hjB : j ∉ B := fun hb => by
    obtain ⟨k', hk', hw⟩ := hB j hb
    have hk1 : L.getD k' true = false := by
     rcases List.mem_cons.1 hk' with rfl | hk'
     ·exact hiL
     ·exact (hBL k' hk').2
    exact waits_not hw hk1 (hBL j hb).1 hsz hj
   have hjz : j ≠ z := fun e => hjB (e ▸ hzB)
   obtain ⟨hjun, oj, hoj, hall⟩ := mem_ready.1 hj
   have hnot : ∀ e ∈ oj.after, Region.binds md e = true -> e.on ≠ i := fun e he hb hh => by
    have h1 := hall e he hb;rw [hh] at h1
    have hlt : i < L.size := by
     rcases Nat.lt_or_ge i L.size with h | h
     ·exact h
     ·simp [h] at h1
    simp [hlt] at h1 hiL;rw [h1] at hiL
    cases hiL
   have h1 := H.2 j (ready_mono hj hji);have h2 := wpOp_putIf hoj (hfree j oj hoj hji hjun hnot) (fun cs b => hsel i oi cs b hi) (fun cs b => hsel j oj cs b hoj) (fun c a w => (hQ.put c a _ _ w).1) hy h1;refine wpOp_mono (fun a' w' h3 => ?_) h2;obtain ⟨hy', hS', H'⟩ := h3
   have hzz : ((L.setIfInBounds i true).setIfInBounds j true).getD z false = false := by
    rw [getD_set_ne false hjz, getD_set_ne false hiz]; exact (hBL z hzB).1
   have hE : Ext W0 w' := by
    rcases hS' with h | h
    ·rw [hzz] at h; cases h
    ·exact h
   refine ⟨.inr hE, ih (L.setIfInBounds j true) a' w' (by simpa using hsz) (fun k hk => ?_) ?_ (ready_mono hr (Ne.symm hji)) hy' hE ?_⟩
   ·have hjk : j ≠ k := fun e => hjB (e ▸ hk)
    rw [getD_set_ne false hjk, getD_set_ne true hjk];exact hBL k hk
   ·intro k ok hk hki hun hno
    refine hfree k ok hk hki ?_ hno
    by_cases hjk : j = k
    ·subst hjk; exact hjun
    ·rwa [getD_set_ne true hjk] at hun
   ·rw [Array.setIfInBounds_comm _ _ hji]
    exact H'
theorem wpL.takeB {f i : Nat} {oi : Oper} {d : Option Tmp} {v : Value} {L : Array Bool} {a : Act} {w : World} (B : List Nat) (hi : ops[i]? = some oi) (hd : oi.dst = d) (hs : Region.noSelect ops = true) (hf : Region.free md ops L i = true)
  (hr : (Region.ready md ops L).contains i = true) (hz : (B.all (fun k => (i :: B).any (fun k' => waitsB md ops k' k)) && B.contains z && !B.contains i && B.all (fun k => !L.getD k false && !L.getD k true) && L.size == ops.size) = true) (hQ : QStill Q) (hy : YieldsIf P ops (Ext W0) oi v a) (hS : Ext W0 w)
  (h : wpL P md ops Q W0 z f (L.setIfInBounds i true) (a.put d v) w) : wpL P md ops Q W0 z (f + 1) L a w := by
 subst hd;simp only [Bool.and_eq_true, Bool.not_eq_true', beq_iff_eq, List.all_eq_true, List.any_eq_true] at hz;obtain ⟨⟨⟨⟨h1, h2⟩, h3⟩, h4⟩, h5⟩ := hz;refine wpL.firstB B hi hs (fun k hk => ?_) (by simpa using h2) (by simpa using h3) hQ f L a w h5 (fun k hk => ?_) (fun j oj hj hne hun hno => Region.free_spec hi hf j oj hj hne hun hno) (by simpa using hr) hy hS h
 ·obtain ⟨k', hk', hw⟩ := h1 k hk
  exact ⟨k', hk', waitsB_spec hw⟩
 ·exact h4 k hk
theorem wpL.tkB {f i : Nat} {oi : Oper} {d : Option Tmp} {v : Value} {L : Array Bool} {a : Act} {w : World} (B : List Nat) (hi : ops[i]? = some oi) (hd : oi.dst = d) (hQ : QStill Q) (hy : YieldsIf P ops (Ext W0) oi v a) (hS : Ext W0 w) (h : wpL P md ops Q W0 z f (L.setIfInBounds i true) (a.put d v) w) (hs : Region.noSelect ops = true := by kernel_rfl) (hf : Region.free md ops L i = true := by kernel_rfl) (hr : (Region.ready md ops L).contains i = true := by kernel_rfl) (hz : (B.all (fun k => (i :: B).any (fun k' => waitsB md ops k' k)) && B.contains z && !B.contains i && B.all (fun k => !L.getD k false && !L.getD k true) && L.size == ops.size) = true := by kernel_rfl) : wpL P md ops Q W0 z (f + 1) L a w := wpL.takeB B hi hd hs hf hr hz hQ hy hS h
theorem wpL.tB {f : Nat} {oi : Oper} {L : Array Bool} {a : Act} {w : World} (B : List Nat) (i : Nat) (d : Tmp) (v : Value) (hQ : QStill Q) (hy : ∀ w, Ext W0 w -> (execOp a.eval oi).run P w = .ok (.value v) w) (hS : Ext W0 w) (h : wpL P md ops Q W0 z f (L.setIfInBounds i true) (a.put (some d) v) w) (hi : ops[i]? = some oi := by exact rfl) (hd : oi.dst = some d := by exact rfl) (hw : Region.wanted oi (yielded ops a.tmps) = true := by exact rfl) (hs : Region.noSelect ops = true := by kernel_rfl) (hf : Region.free md ops L i = true := by kernel_rfl) (hr : (Region.ready md ops L).contains i = true := by kernel_rfl) (hz : (B.all (fun k => (i :: B).any (fun k' => waitsB md ops k' k)) && B.contains z && !B.contains i && B.all (fun k => !L.getD k false && !L.getD k true) && L.size == ops.size) = true := by kernel_rfl) : wpL P md ops Q W0 z (f + 1) L a w := wpL.takeB B hi hd hs hf hr hz hQ (Or.inl ⟨hw, hy⟩) hS h
theorem wpL.firstT {i : Nat} {oi : Oper} {v : Value} (hi : ops[i]? = some oi) (hs : Region.noSelect ops = true) (hiz : i ≠ z) (hQ : QStill Q) :
  ∀ (f : Nat) (L : Array Bool) (a : Act) (w : World),
   (∀ j oj, ops[j]? = some oj -> j ≠ i -> L.getD j true = false -> (∀ e ∈ oj.after, Region.binds md e = true -> e.on ≠ i) -> oi.apart ops oj = true) ->
   i ∈ Region.ready md ops L -> YieldsIf P ops (fun _ => True) oi v a -> (L.getD z false = true \/ Ext W0 w) ->
   wpL P md ops Q W0 z f (L.setIfInBounds i true) (a.put oi.dst v) w -> wpL P md ops Q W0 z (f + 1) L a w := by
 have hsel := Region.noSelect_spec hs;intro f
 induction f with
 | zero =>
  intro L a w _ hr hy hS H;refine ⟨(fun h0 => by rw [h0] at hr; cases hr), fun j hj => ?_⟩
  by_cases hji : j = i
  ·subst hji; exact hy.wpOp hi trivial ⟨by rw [getD_set_ne false hiz]; exact hS, H⟩
  ·have := ready_mono hj hji
   rw [H.1] at this
   cases this
 | succ f ih =>
  intro L a w hfree hr hy hS H;refine ⟨(fun h0 => by rw [h0] at hr; cases hr), fun j hj => ?_⟩
  by_cases hji : j = i
  ·subst hji; exact hy.wpOp hi trivial ⟨by rw [getD_set_ne false hiz]; exact hS, H⟩
  ·have hiL := (mem_ready.1 hr).1
   obtain ⟨hjun, oj, hoj, hall⟩ := mem_ready.1 hj
   have hnot : ∀ e ∈ oj.after, Region.binds md e = true -> e.on ≠ i := fun e he hb hh => by
    have h1 := hall e he hb;rw [hh] at h1
    have hlt : i < L.size := by
     rcases Nat.lt_or_ge i L.size with h | h
     ·exact h
     ·simp [h] at h1
    simp [hlt] at h1 hiL;rw [h1] at hiL
    cases hiL
   have h1 := H.2 j (ready_mono hj hji);have h2 := wpOp_putIf hoj (hfree j oj hoj hji hjun hnot) (fun cs b => hsel i oi cs b hi) (fun cs b => hsel j oj cs b hoj) (fun c a w => (hQ.put c a _ _ w).1) hy h1;refine wpOp_mono (fun a' w' h3 => ?_) h2;obtain ⟨hy', hS', H'⟩ := h3;have hcm : (L.setIfInBounds i true).setIfInBounds j true = (L.setIfInBounds j true).setIfInBounds i true := Array.setIfInBounds_comm _ _ (Ne.symm hji)
   have hS2 : (L.setIfInBounds j true).getD z false = true \/ Ext W0 w' := by
    rcases hS' with h | h
    ·rw [hcm, getD_set_ne false hiz] at h; exact .inl h
    ·exact .inr h
   refine ⟨hS2, ih (L.setIfInBounds j true) a' w' ?_ (ready_mono hr (Ne.symm hji)) hy' hS2 ?_⟩
   ·intro k ok hk hki hun hno
    refine hfree k ok hk hki ?_ hno
    by_cases hjk : j = k
    ·subst hjk; exact hjun
    ·rwa [getD_set_ne true hjk] at hun
   ·rw [Array.setIfInBounds_comm _ _ hji]
    exact H'
theorem wpL.takeT {f i : Nat} {oi : Oper} {d : Option Tmp} {v : Value} {L : Array Bool} {a : Act} {w : World} (hi : ops[i]? = some oi) (hd : oi.dst = d) (hs : Region.noSelect ops = true) (hf : Region.free md ops L i = true)
  (hr : (Region.ready md ops L).contains i = true) (hz : (i != z) = true) (hQ : QStill Q) (hy : YieldsIf P ops (fun _ => True) oi v a) (hS : L.getD z false = true \/ Ext W0 w)
  (h : wpL P md ops Q W0 z f (L.setIfInBounds i true) (a.put d v) w) : wpL P md ops Q W0 z (f + 1) L a w := by
 subst hd;exact wpL.firstT hi hs (by simpa using hz) hQ f L a w (fun j oj hj hne hun hno => Region.free_spec hi hf j oj hj hne hun hno) (by simpa using hr) hy hS h
end
end
section
open Go.RowKit
attribute [local go_sem ↓] Go.wp_at_zero Go.wp_at_succ
section
variable {w w' : World} {z y : Int} {q p : Rat} {L M : Nat} {s t s' t' : Bool} {A B A' B' : Option Addr} {n c m d n' c' m' d' : Nat}
theorem at_exit {F : Exit -> Act -> World -> Prop} {e : Exit} {a : Act} {w : World} (C : World -> Prop) (h : C w) (k : ∀ W, C W -> F e a W) : F e a w := k w h
theorem NR.inv (h : NR w p M s A n c t B m d) (hp : 0 < p.num) : NR w p⁻¹ M t B m d s A n c := by
 refine ⟨?_, ?_⟩
 ·rw [Rat.num_inv, Int.sign_eq_one_of_pos hp, Int.one_mul]; exact h.den
 ·rw [Rat.den_inv, if_neg (by omega)]
  have : ((p.num.natAbs : Nat) : Int) = p.num := Int.natAbs_of_nonneg (by omega);rw [this]; exact h.num
theorem rat_neg_div (q p : Rat) (hp : p ≠ 0) : -q * (-p)⁻¹ = q / p := by
 have h1 : (-p)⁻¹ = -(p⁻¹) := by
  refine Rat.inv_eq_of_mul_eq_one ?_;rw [Rat.neg_mul, Rat.mul_neg, Rat.neg_neg, Rat.mul_inv_cancel _ hp]
 rw [h1, Rat.neg_mul, Rat.mul_neg, Rat.neg_neg, Rat.div_def]
def RetNRE (q : Rat) (L : Nat) (w : World) (e : Ending) (w' : World) : Prop :=
 ∃ s A n c t B m d, e = .returned (.tuple #[.agg #[.bool s, .slice A n c, .bool t, .slice B m d], .int .i64 0]) /\ NR w' q L s A n c t B m d /\ Ext w w'
theorem p_Div_pos (h : NR w q L s A n c t B m d) (k : NR w p M s' A' n' c' t' B' m' d') (hL : L <= 1000) (hM : M <= 1000) (h64 : min L M < 64) (hT : Tab w) (hp : 0 < p.num) : Calls Tryz.prog 86 #[.agg #[.bool s, .slice A n c, .bool t, .slice B m d], .agg #[.bool s', .slice A' n' c', .bool t', .slice B' m' d']] w (RetNRE (q / p) (L + M) w) := by
 have hs : p.num.sign = 1 := Int.sign_eq_one_of_pos hp
 go_enter Tryz.func86, Tryz.ntmps86
 go_upto_region 1 with (fail)
 obtain ⟨W, hW, extW, bx, by_, bz, hz⟩ := box3 w 27 27 27 #[.bool s, .slice A n c, .bool t, .slice B m d] #[.bool s', .slice A' n' c', .bool t', .slice B' m' d'] #[Value.bool false, Value.slice none 0 0, Value.bool false, Value.slice none 0 0];rw [<- hW];clear hW;replace h := h.ext extW;replace k := k.ext extW;have y0 := by_.cell 0 (.bool s') rfl;have y1 := by_.cell 1 (.slice A' n' c') rfl;have y2 := by_.cell 2 (.bool t') rfl;have y3 := by_.cell 3 (.slice B' m' d') rfl
 go_wp2_with fail
 refine (p_SignR k (by omega)).mono ?_;rintro e V ⟨rfl, hxa⟩;rw [hs];replace bx := bx.ext hxa;replace by_ := by_.ext hxa;replace bz := bz.ext hxa;replace h := h.ext hxa;replace k := k.ext hxa;replace extW := extW.trans hxa;clear hxa y0 y1 y2 y3;have x0 := bx.cell 0 (.bool s) rfl;have x1 := bx.cell 1 (.slice A n c) rfl;have x2 := bx.cell 2 (.bool t) rfl;have x3 := bx.cell 3 (.slice B m d) rfl;have y0 := by_.cell 0 (.bool s') rfl;have y1 := by_.cell 1 (.slice A' n' c') rfl;have y2 := by_.cell 2 (.bool t') rfl;have y3 := by_.cell 3 (.slice B' m' d') rfl
 go_wp2_with fail
 refine (p_MulR h (k.inv (by exact hp)) (by omega) (by omega) h64 (hT.ext extW)).mono ?_;rintro e wm ⟨s9, A9, n9, c9, t9, B9, m9, d9, rfl, hr, hxm⟩;have z0 := (bz.ext hxm).cell 0 _ rfl;have z1 := (bz.ext hxm).cell 1 _ rfl;have z2 := (bz.ext hxm).cell 2 _ rfl;have z3 := (bz.ext hxm).cell 3 _ rfl;have f0 := (bz.ext hxm).frozen 0;have f1 := (bz.ext hxm).frozen 1;have f2 := (bz.ext hxm).frozen 2;have f3 := (bz.ext hxm).frozen 3
 go_wp2_with fail
 rw [<- Rat.div_def] at hr;obtain ⟨b1, b2, b3, b4⟩ := fin_quad (s := s9) (A := A9) (n := n9) (c := c9) (t := t9) (B := B9) (m := m9) (d := d9) (bz.ext hxm);have r0 := b1.cell 0 (.bool s9) rfl;have r1 := b1.cell 1 (.slice A9 n9 c9) rfl;have r2 := b1.cell 2 (.bool t9) rfl;have r3 := b1.cell 3 (.slice B9 m9 d9) rfl;unfold set4 at r0 r1 r2 r3;refine bodyPost_ret (v := .tuple #[.agg #[.bool s9, .slice A9 n9 c9, .bool t9, .slice B9 m9 d9], .int .i64 0]) (by simp [results, Tryz.results86, go_sem, r0, r1, r2, r3]) rfl ⟨s9, A9, n9, c9, t9, B9, m9, d9, rfl, ⟨b2 _ _ _ _ _ _ hr.num, b2 _ _ _ _ _ _ hr.den⟩, b3 _ (extW.trans hxm) (by omega)⟩
theorem p_Div_neg (h : NR w q L s A n c t B m d) (k : NR w p M s' A' n' c' t' B' m' d') (hL : L <= 1000) (hM : M <= 1000) (h64 : min L M < 64) (hT : Tab w) (hp : p.num < 0) : Calls Tryz.prog 86 #[.agg #[.bool s, .slice A n c, .bool t, .slice B m d], .agg #[.bool s', .slice A' n' c', .bool t', .slice B' m' d']] w (RetNRE (q / p) (L + M) w) := by
 have hs : p.num.sign = -1 := Int.sign_eq_neg_one_of_neg hp;have hp0 : p ≠ 0 := by rintro rfl; simp at hp
 go_enter Tryz.func86, Tryz.ntmps86
 go_upto_region 1 with (fail)
 obtain ⟨W, hW, extW, bx, by_, bz, hz⟩ := box3 w 27 27 27 #[.bool s, .slice A n c, .bool t, .slice B m d] #[.bool s', .slice A' n' c', .bool t', .slice B' m' d'] #[Value.bool false, Value.slice none 0 0, Value.bool false, Value.slice none 0 0];rw [<- hW];clear hW;replace h := h.ext extW;replace k := k.ext extW;have y0 := by_.cell 0 (.bool s') rfl;have y1 := by_.cell 1 (.slice A' n' c') rfl;have y2 := by_.cell 2 (.bool t') rfl;have y3 := by_.cell 3 (.slice B' m' d') rfl
 go_wp2_with fail
 refine (p_SignR k (by omega)).mono ?_;rintro e V ⟨rfl, hxa⟩;rw [hs];replace bx := bx.ext hxa;replace by_ := by_.ext hxa;replace bz := bz.ext hxa;replace h := h.ext hxa;replace k := k.ext hxa;replace extW := extW.trans hxa;clear hxa y0 y1 y2 y3
 go_upto_region 5 with (fail)
 refine wpL.st 4 (fun hQ ES => ?_);refine wpL.t 0 13 ?v_0 hQ ?y_0 ES ?_
 case y_0 => intro w' hSw;have k00 := (bx.ext hSw).c4;have k10 := (by_.ext hSw).c4;go_simp;try rfl
 try simp only [zP]
 refine wpL.take2 3 (i := 2) (d := some 15) (v := ?v_1) rfl rfl (by kernel_rfl) (by kernel_rfl) (by kernel_rfl) (by kernel_rfl) hQ (Or.inl ⟨by rfl, ?y_1⟩) ES ?r_1
 case y_1 => intro w' hSw;have k00 := (bx.ext hSw).c4;have k10 := (by_.ext hSw).c4;go_simp;try rfl
 try simp only [zP]
 refine wpL.cl (i := 1) rfl (fun K hK => ?_);go_simp
 (go_at_call 56; refine (p_NegR (h.ext ES) (by omega)).mono ?_; rintro e wk1 ⟨s1, A1, n1, c1, t1, B1, m1, d1, rfl, h1, hx0⟩; have E0_5 := Ext.trans ES hx0)
 refine hK.out _ _ E0_5 ?_;clear hK K
 try simp only [zP]
 refine wpL.cl (i := 3) rfl (fun K hK => ?_);go_simp
 (go_at_call 56; refine (p_NegR (k.ext E0_5) (by omega)).mono ?_; rintro e wk2 ⟨s2, A2, n2, c2, t2, B2, m2, d2, rfl, h2, hx1⟩; have E1_5 := Ext.trans E0_5 hx1)
 refine hK.out _ _ E1_5 ?_;clear hK K
 try simp only [zP]
 have z0 := (bx.ext E1_5).cell 0 _ rfl;have z1 := (bx.ext E1_5).cell 1 _ rfl;have z2 := (bx.ext E1_5).cell 2 _ rfl;have z3 := (bx.ext E1_5).cell 3 _ rfl;have f0 := (bx.ext E1_5).frozen 0;have f1 := (bx.ext E1_5).frozen 1;have f2 := (bx.ext E1_5).frozen 2;have f3 := (bx.ext E1_5).frozen 3;have u0 := (by_.ext E1_5).cell 0 _ rfl;have u1 := (by_.ext E1_5).cell 1 _ rfl;have u2 := (by_.ext E1_5).cell 2 _ rfl;have u3 := (by_.ext E1_5).cell 3 _ rfl;have v0 := (by_.ext E1_5).frozen 0;have v1 := (by_.ext E1_5).frozen 1;have v2 := (by_.ext E1_5).frozen 2;have v3 := (by_.ext E1_5).frozen 3;refine wpL.tl (i := 4) rfl (fun K hK => ?_);go_simp;refine hK.out _ _ ?_;clear hK K
 try simp only [zP]
 refine wpL.tl (i := 5) rfl (fun K hK => ?_);go_simp;refine hK.out _ _ ?_;clear hK K
 try simp only [zP]
 refine wpL.done (by kernel_rfl) ?_ _;clear hQ;refine at_exit (fun U => Ext w U /\ Box U w.heap.size 27 #[.bool s1, .slice A1 n1 c1, .bool t1, .slice B1 m1 d1] /\ Box U (w.heap.size + 1) 27 #[.bool s2, .slice A2 n2 c2, .bool t2, .slice B2 m2 d2] /\ Box U (w.heap.size + 1 + 1) 27 #[Value.bool false, Value.slice none 0 0, Value.bool false, Value.slice none 0 0] /\ NR U (-q) L s1 A1 n1 c1 t1 B1 m1 d1 /\ NR U (-p) M s2 A2 n2 c2 t2 B2 m2 d2) ?_ ?_
 ·have q1 := fin_quad (s := s1) (A := A1) (n := n1) (c := c1) (t := t1) (B := B1) (m := m1) (d := d1) (bx.ext E1_5)
  have q2 := fin_quad (s := s2) (A := A2) (n := n2) (c := c2) (t := t2) (B := B2) (m := m2) (d := d2) (q1.2.2.2 _ _ _ (by omega) (by_.ext E1_5));have hn1 : NR wk2 (-q) L s1 A1 n1 c1 t1 B1 m1 d1 := h1.ext hx1;exact ⟨q2.2.2.1 _ (q1.2.2.1 _ (extW.trans E1_5) (by omega)) (by omega), q2.2.2.2 _ _ _ (by omega) q1.1, q2.1, q2.2.2.2 _ _ _ (by omega) (q1.2.2.2 _ _ _ (by omega) (bz.ext E1_5)), ⟨q2.2.1 _ _ _ _ _ _ (q1.2.1 _ _ _ _ _ _ hn1.num), q2.2.1 _ _ _ _ _ _ (q1.2.1 _ _ _ _ _ _ hn1.den)⟩, ⟨q2.2.1 _ _ _ _ _ _ (q1.2.1 _ _ _ _ _ _ h2.num), q2.2.1 _ _ _ _ _ _ (q1.2.1 _ _ _ _ _ _ h2.den)⟩⟩
 clear extW bx by_ bz h k;rintro U ⟨extW, bx, by_, bz, h, k⟩;have x0 := bx.cell 0 (.bool s1) rfl;have x1 := bx.cell 1 (.slice A1 n1 c1) rfl;have x2 := bx.cell 2 (.bool t1) rfl;have x3 := bx.cell 3 (.slice B1 m1 d1) rfl;have y0 := by_.cell 0 (.bool s2) rfl;have y1 := by_.cell 1 (.slice A2 n2 c2) rfl;have y2 := by_.cell 2 (.bool t2) rfl;have y3 := by_.cell 3 (.slice B2 m2 d2) rfl
 go_wp2_with fail
 refine (p_MulR h (k.inv (by rw [Rat.neg_num]; omega)) (by omega) (by omega) h64 (hT.ext extW)).mono ?_;rintro e wm ⟨s9, A9, n9, c9, t9, B9, m9, d9, rfl, hr, hxm⟩;have z0 := (bz.ext hxm).cell 0 _ rfl;have z1 := (bz.ext hxm).cell 1 _ rfl;have z2 := (bz.ext hxm).cell 2 _ rfl;have z3 := (bz.ext hxm).cell 3 _ rfl;have f0 := (bz.ext hxm).frozen 0;have f1 := (bz.ext hxm).frozen 1;have f2 := (bz.ext hxm).frozen 2;have f3 := (bz.ext hxm).frozen 3
 go_wp2_with fail
 rw [rat_neg_div q p hp0] at hr;obtain ⟨b1, b2, b3, b4⟩ := fin_quad (s := s9) (A := A9) (n := n9) (c := c9) (t := t9) (B := B9) (m := m9) (d := d9) (bz.ext hxm);have r0 := b1.cell 0 (.bool s9) rfl;have r1 := b1.cell 1 (.slice A9 n9 c9) rfl;have r2 := b1.cell 2 (.bool t9) rfl;have r3 := b1.cell 3 (.slice B9 m9 d9) rfl;unfold set4 at r0 r1 r2 r3;refine bodyPost_ret (v := .tuple #[.agg #[.bool s9, .slice A9 n9 c9, .bool t9, .slice B9 m9 d9], .int .i64 0]) (by simp [results, Tryz.results86, go_sem, r0, r1, r2, r3]) rfl ⟨s9, A9, n9, c9, t9, B9, m9, d9, rfl, ⟨b2 _ _ _ _ _ _ hr.num, b2 _ _ _ _ _ _ hr.den⟩, b3 _ (extW.trans hxm) (by omega)⟩
end
section
variable {w w' : World} {z y : Int} {q p : Rat} {L M : Nat} {s t s' t' : Bool} {A B A' B' : Option Addr} {n c m d n' c' m' d' : Nat}
theorem q_one (h : NI w z L s A n c) : Calls Tryz.prog 72 #[.agg #[.bool s, .slice A n c]] w fun e w' => e = .returned (.bool (decide (z = 1))) /\ Ext w w' := by
 have h1 := h.one_iff
 by_cases hn : n = 1
 ·subst hn
  obtain ⟨xs, hl, hx, _⟩ := h.out;obtain ⟨b, off, rfl, hb, hc⟩ := hx.at_ (i := 0) (by omega);simp only [Nat.add_zero] at hc
  cases s with
  | true =>
   have hd : decide (z = 1) = false := decide_eq_false fun hz => by have := (h1.1 hz).1; cases this
   rw [hd];generalize (xs[0]'(by omega) : Nat) = k at hc;have hc2 := ((Ext.refl w).alloc (.cells #[.bool true, .slice (some ⟨b, off, none⟩) 1 c] 25)).cellv hc;clear h1 h hx hl
   by_cases hk : (k : Int) = 1
   ·have hb1 : ((k : Int) == 1) = true := beq_iff_eq.2 hk
    go_enter Tryz.func72, Tryz.ntmps72
    go_wp2
    all_goals (go_ret; exact ⟨rfl, (Ext.refl w).alloc _⟩)
   ·have hb1 : ((k : Int) == 1) = false := beq_eq_false_iff_ne.2 hk
    go_enter Tryz.func72, Tryz.ntmps72
    go_wp2
    all_goals (go_ret; exact ⟨rfl, (Ext.refl w).alloc _⟩)
  | false =>
   have hv : (decide (z = 1)) = (((xs[0]'(by omega) : Nat) : Int) == 1) := by
    by_cases hz : z = 1
    ·obtain ⟨_, _, b', off', hA, hc'⟩ := h1.1 hz
     injection hA with hA
     injection hA with e1 e2
     subst e1; subst e2;rw [hc] at hc'
     injection hc' with hc'
     injection hc' with _ hc'
     rw [hc'];simp [hz]
    ·have : ¬ ((xs[0]'(by omega) : Nat) : Int) = 1 := fun h2 => hz (h1.2 ⟨rfl, rfl, b, off, rfl, by rw [hc, h2]⟩)
     rw [decide_eq_false hz];exact (beq_eq_false_iff_ne.2 this).symm
   rw [hv];generalize (xs[0]'(by omega) : Nat) = k at hc;have hc2 := ((Ext.refl w).alloc (.cells #[.bool false, .slice (some ⟨b, off, none⟩) 1 c] 25)).cellv hc;clear h1 h hv hx hl
   by_cases hk : (k : Int) = 1
   ·have hb1 : ((k : Int) == 1) = true := beq_iff_eq.2 hk
    rw [hb1]
    go_enter Tryz.func72, Tryz.ntmps72
    go_wp2
    all_goals (go_ret; exact ⟨rfl, (Ext.refl w).alloc _⟩)
   ·have hb1 : ((k : Int) == 1) = false := beq_eq_false_iff_ne.2 hk
    rw [hb1]
    go_enter Tryz.func72, Tryz.ntmps72
    go_wp2
    all_goals (go_ret; exact ⟨rfl, (Ext.refl w).alloc _⟩)
 ·have hd : decide (z = 1) = false := decide_eq_false fun hz => hn (h1.1 hz).2.1
  have hn2 : ((n : Int) == 1) = false := by rw [beq_eq_false_iff_ne]; omega
  rw [hd]
  go_enter Tryz.func72, Tryz.ntmps72
  go_wp2
  all_goals (go_ret; exact ⟨rfl, (Ext.refl w).alloc _⟩)
theorem q_quo_dm (h : NI w z L s A n c) (k : NI w y M t B m d) (hL : L <= 9000) (hM : M <= 9000) (h0 : y ≠ 0) : Calls Tryz.prog 105 #[.agg #[.bool s, .slice A n c], .agg #[.bool t, .slice B m d]] w fun e w' => ∃ q r : Int, IsDM z y q r /\ RetNI q 60000 w e w' := by
 go_enter Tryz.func105, Tryz.ntmps105
 go_upto_region 1 with (fail)
 obtain ⟨W, hW, extW, bx, by_, bz, hz⟩ := box3 w 25 25 25 #[.bool s, .slice A n c] #[.bool t, .slice B m d] #[Value.bool false, Value.slice none 0 0];rw [<- hW];clear hW;have x0 := bx.cell 0 (.bool s) rfl;have x1 := bx.cell 1 (.slice A n c) rfl;have y2 := by_.cell 0 (.bool t) rfl;have y3 := by_.cell 1 (.slice B m d) rfl
 go_wp2_with fail
 refine (q_DivMod (h.ext extW) (k.ext extW) (by omega) (by omega) h0).mono ?_;rintro e wb ⟨s1, A1, n1, c1, s2, A2, n2, c2, q, r, rfl, hq, hr, hdm, hx1⟩;clear x0 x1 y2 y3
 go_upto_region 2 with (fail)
 refine at_world (fun V => Ext W V /\ Box V wb.heap.size 25 #[.bool s1, .slice A1 n1 c1] /\ NI V q 60000 s1 A1 n1 c1) ?_ ?_
 ·obtain ⟨e1, e2, e3⟩ := two_new wb 25 #[.bool s1, .slice A1 n1 c1] #[.bool s2, .slice A2 n2 c2]
  exact ⟨hx1.trans e1, e2, hq.ext e1⟩
 generalize wb.heap.size = g5;rintro V ⟨EV, b5, hqV⟩;have x0 := b5.cell 0 _ rfl;have x1 := b5.cell 1 _ rfl;have z0 := (bz.ext EV).cell 0 _ rfl;have z1 := (bz.ext EV).cell 1 _ rfl;have f0 := (bz.ext EV).frozen 0;have f1 := (bz.ext EV).frozen 1
 go_wp2_with fail
 obtain ⟨b1, b2, b3, b4⟩ := fin_dual (s := s1) (A := A1) (n := n1) (c := c1) (bz.ext EV);have r0 := b1.cell 0 (.bool s1) rfl;have r1 := b1.cell 1 (.slice A1 n1 c1) rfl;unfold set2 at r0 r1;refine bodyPost_ret (v := .agg #[.bool s1, .slice A1 n1 c1]) (by simp [results, Tryz.results105, go_sem, r0, r1]) rfl ⟨q, r, hdm, s1, A1, n1, c1, rfl, ?_, b3 _ (extW.trans EV) (by omega)⟩;exact b2 _ _ _ _ _ _ hqV
theorem q_quo (h : NI w z L s A n c) (k : NI w y M t B m d) (hL : L <= 9000) (hM : M <= 9000) (h0 : y ≠ 0) (hd : y ∣ z) : Calls Tryz.prog 105 #[.agg #[.bool s, .slice A n c], .agg #[.bool t, .slice B m d]] w (RetNI (z / y) L w) := by
 refine (q_quo_dm h k hL hM h0).mono ?_;rintro e w' ⟨q, r, hdm, s1, A1, n1, c1, rfl, hq, hx⟩;obtain ⟨_, hqe, hql⟩ := (dm_q_le hdm h0).2.2 hd;rw [hqe] at hq hql;exact ⟨s1, A1, n1, c1, rfl, hq.tight (h.ext hx) (by simpa using hql), hx⟩
end
section
variable {w w' : World} {z y : Int} {q p : Rat} {L M : Nat} {s t s' t' : Bool} {A B A' B' : Option Addr} {n c m d n' c' m' d' : Nat}
theorem q_SignR (h : NR w q L s A n c t B m d) (hL : L <= 1000) : Calls Tryz.prog 40 #[.agg #[.bool s, .slice A n c, .bool t, .slice B m d]] w fun e w' => e = .returned (.int .i64 q.num.sign) /\ Ext w w' := by
 go_enter Tryz.func40, Tryz.ntmps40
 go_upto_region 1 with (fail)
 obtain ⟨W, hW, extW, bx, hz⟩ := box1 w 27 #[.bool s, .slice A n c, .bool t, .slice B m d];rw [<- hW];clear hW;have x0 := bx.cell 0 (.bool s) rfl;have x1 := bx.cell 1 (.slice A n c) rfl
 go_wp2_with fail
 refine (q_Sign (h.num.ext extW) (by omega)).mono ?_;rintro e wa ⟨rfl, hx0⟩
 go_wp2_with fail
 go_ret
 exact ⟨rfl, extW.trans hx0⟩
theorem q_FromIntR (k : Int) (h0 : -9223372036854775808 <= k) (h1 : k < 9223372036854775808) : Calls Tryz.prog 57 #[.int .i64 k] w (RetNR (k : Rat) 2 w) := by
 go_enter Tryz.func57, Tryz.ntmps57
 go_upto_region 1 with (fail)
 obtain ⟨W, hW, extW, bz, hz⟩ := box1 w 27 #[Value.bool false, Value.slice none 0 0, Value.bool false, Value.slice none 0 0];rw [<- hW];clear hW
 go_wp2_with fail
 refine (q_FromInt k h0 h1).mono ?_;rintro e wa ⟨s1, A1, n1, c1, rfl, hk, hx0⟩
 go_wp2_with fail
 refine (q_FromInt 1 (by omega) (by omega)).mono ?_;rintro e wb ⟨s2, A2, n2, c2, rfl, hr, hx1⟩;have hE := hx0.trans hx1;have z0 := (bz.ext hE).cell 0 _ rfl;have z1 := (bz.ext hE).cell 1 _ rfl;have z2 := (bz.ext hE).cell 2 _ rfl;have z3 := (bz.ext hE).cell 3 _ rfl;have f0 := (bz.ext hE).frozen 0;have f1 := (bz.ext hE).frozen 1;have f2 := (bz.ext hE).frozen 2;have f3 := (bz.ext hE).frozen 3
 go_wp2_with fail
 obtain ⟨b1, b2, b3, b4⟩ := fin_quad (s := s1) (A := A1) (n := n1) (c := c1) (t := s2) (B := A2) (m := n2) (d := c2) (bz.ext hE);have r0 := b1.cell 0 (.bool s1) rfl;have r1 := b1.cell 1 (.slice A1 n1 c1) rfl;have r2 := b1.cell 2 (.bool s2) rfl;have r3 := b1.cell 3 (.slice A2 n2 c2) rfl;unfold set4 at r0 r1 r2 r3;refine bodyPost_ret (v := .agg #[.bool s1, .slice A1 n1 c1, .bool s2, .slice A2 n2 c2]) (by simp [results, Tryz.results57, go_sem, r0, r1, r2, r3]) rfl ⟨s1, A1, n1, c1, s2, A2, n2, c2, rfl, ⟨?_, ?_⟩, b3 _ (extW.trans hE) (by omega)⟩
 ·exact b2 _ _ _ _ _ _ (hk.ext hx1)
 ·exact b2 _ _ _ _ _ _ hr
theorem inv_parts {q : Rat} (hq : q ≠ 0) : (q.num < 0 -> (q⁻¹).num = -(q.den : Int) /\ ((q⁻¹).den : Int) = -q.num) /\ (0 <= q.num -> (q⁻¹).num = (q.den : Int) /\ ((q⁻¹).den : Int) = q.num) := by
 have h0 : q.num ≠ 0 := fun h => hq (Rat.num_eq_zero.1 h)
 refine ⟨fun h => ⟨?_, ?_⟩, fun h => ⟨?_, ?_⟩⟩
 ·rw [Rat.num_inv, Int.sign_eq_neg_one_of_neg h]; omega
 ·rw [Rat.den_inv, if_neg h0]; omega
 ·rw [Rat.num_inv, Int.sign_eq_one_of_pos (by omega)]; omega
 ·rw [Rat.den_inv, if_neg h0]; omega
theorem q_Inv (h : NR w q L s A n c t B m d) (hL : L <= 1000) (hq : q ≠ 0) : Calls Tryz.prog 147 #[.agg #[.bool s, .slice A n c, .bool t, .slice B m d]] w (RetNR (q⁻¹) L w) := by
 obtain ⟨e1, e2⟩ := inv_parts hq
 by_cases hn : q.num < 0
 ·obtain ⟨e3, e4⟩ := e1 hn
  have He3 := Lib.hid e3;have He4 := Lib.hid e4;obtain rfl : s = true := by rw [h.num.neg]; exact decide_eq_true hn
  clear e1 e2 e3 e4 hn
  go_enter Tryz.func147, Tryz.ntmps147
  go_upto_region 1 with (fail)
  obtain ⟨W, hW, extW, bx, bz, hz⟩ := box2 w 27 27 #[.bool true, .slice A n c, .bool t, .slice B m d] #[Value.bool false, Value.slice none 0 0, Value.bool false, Value.slice none 0 0];rw [<- hW];clear hW;have x0 := bx.cell 0 (.bool true) rfl
  go_upto_region 2 with (fail)
  refine wpL.st 7 (fun hQ ES => ?_);refine wpL.t 0 6 ?v_0 hQ ?y_0 ES ?_
  case y_0 => intro w' hSw;go_simp;try rfl
  try simp only [zP]
  refine wpL.t 3 9 ?v_1 hQ ?y_1 ES ?_
  case y_1 => intro w' hSw;go_simp;try rfl
  try simp only [zP]
  refine wpL.t 1 7 ?v_2 hQ ?y_2 ES ?_
  case y_2 => intro w' hSw;have k00 := (bx.ext hSw).c4;go_simp;try rfl
  try simp only [zP]
  refine wpL.t 4 10 ?v_3 hQ ?y_3 ES ?_
  case y_3 => intro w' hSw;have k00 := (bx.ext hSw).c4;go_simp;try rfl
  try simp only [zP]
  refine wpL.cl (i := 2) rfl (fun K hK => ?_);go_simp
  (go_at_call 83; refine (q_Neg (h.den.ext (extW.trans ES)) (by omega)).mono ?_; rintro e wa ⟨s1, A1, n1, c1, rfl, h1, hx0⟩; have E0_2 := Ext.trans ES hx0)
  refine hK.out _ _ E0_2 ?_;clear hK K
  try simp only [zP]
  refine wpL.cl (i := 5) rfl (fun K hK => ?_);go_simp
  (go_at_call 83; refine (q_Neg (h.num.ext (extW.trans E0_2)) (by omega)).mono ?_; rintro e wb ⟨s2, A2, n2, c2, rfl, h2, hx1⟩; have E1_2 := Ext.trans E0_2 hx1)
  refine hK.out _ _ E1_2 ?_;clear hK K
  try simp only [zP]
  refine wpL.t 6 12 ?v_4 hQ ?y_4 E1_2 ?_
  case y_4 => intro w' hSw;go_simp;try rfl
  try simp only [zP]
  have z0 := (bz.ext E1_2).cell 0 _ rfl;have z1 := (bz.ext E1_2).cell 1 _ rfl;have z2 := (bz.ext E1_2).cell 2 _ rfl;have z3 := (bz.ext E1_2).cell 3 _ rfl;have f0 := (bz.ext E1_2).frozen 0;have f1 := (bz.ext E1_2).frozen 1;have f2 := (bz.ext E1_2).frozen 2;have f3 := (bz.ext E1_2).frozen 3;refine wpL.tl (i := 7) rfl (fun K hK => ?_);go_simp;refine hK.out _ _ ?_;clear hK K
  try simp only [zP]
  refine wpL.done (by kernel_rfl) ?_ _;clear hQ
  go_wp2_with fail
  obtain ⟨b1, b2, b3, b4⟩ := fin_quad (s := s1) (A := A1) (n := n1) (c := c1) (t := s2) (B := A2) (m := n2) (d := c2) (bz.ext E1_2);have r0 := b1.cell 0 (.bool s1) rfl;have r1 := b1.cell 1 (.slice A1 n1 c1) rfl;have r2 := b1.cell 2 (.bool s2) rfl;have r3 := b1.cell 3 (.slice A2 n2 c2) rfl;unfold set4 at r0 r1 r2 r3;refine bodyPost_ret (v := .agg #[.bool s1, .slice A1 n1 c1, .bool s2, .slice A2 n2 c2]) (by simp [results, Tryz.results147, go_sem, r0, r1, r2, r3]) rfl ⟨s1, A1, n1, c1, s2, A2, n2, c2, rfl, ⟨?_, ?_⟩, b3 _ (extW.trans E1_2) (by omega)⟩
  ·rw [He3.out]; exact b2 _ _ _ _ _ _ (h1.ext hx1)
  ·rw [He4.out]; exact b2 _ _ _ _ _ _ h2
 ·obtain ⟨e3, e4⟩ := e2 (by omega)
  have He3 := Lib.hid e3;have He4 := Lib.hid e4;obtain rfl : s = false := by rw [h.num.neg]; exact decide_eq_false hn
  clear e1 e2 e3 e4 hn
  go_enter Tryz.func147, Tryz.ntmps147
  go_upto_region 1 with (fail)
  obtain ⟨W, hW, extW, bx, bz, hz⟩ := box2 w 27 27 #[.bool false, .slice A n c, .bool t, .slice B m d] #[Value.bool false, Value.slice none 0 0, Value.bool false, Value.slice none 0 0];rw [<- hW];clear hW;have x0 := bx.cell 0 (.bool false) rfl;have x1 := bx.cell 1 (.slice A n c) rfl;have x2 := bx.cell 2 (.bool t) rfl;have x3 := bx.cell 3 (.slice B m d) rfl;have hE := Ext.refl W;have z0 := (bz.ext hE).cell 0 _ rfl;have z1 := (bz.ext hE).cell 1 _ rfl;have z2 := (bz.ext hE).cell 2 _ rfl;have z3 := (bz.ext hE).cell 3 _ rfl;have f0 := (bz.ext hE).frozen 0;have f1 := (bz.ext hE).frozen 1;have f2 := (bz.ext hE).frozen 2;have f3 := (bz.ext hE).frozen 3
  go_wp2_with fail
  obtain ⟨b1, b2, b3, b4⟩ := fin_quad (s := t) (A := B) (n := m) (c := d) (t := false) (B := A) (m := n) (d := c) (bz.ext hE);have r0 := b1.cell 0 (.bool t) rfl;have r1 := b1.cell 1 (.slice B m d) rfl;have r2 := b1.cell 2 (.bool false) rfl;have r3 := b1.cell 3 (.slice A n c) rfl;unfold set4 at r0 r1 r2 r3;refine bodyPost_ret (v := .agg #[.bool t, .slice B m d, .bool false, .slice A n c]) (by simp [results, Tryz.results147, go_sem, r0, r1, r2, r3]) rfl ⟨t, B, m, d, false, A, n, c, rfl, ⟨?_, ?_⟩, b3 _ (extW.trans hE) (by omega)⟩
  ·rw [He3.out]; exact b2 _ _ _ _ _ _ (h.den.ext extW)
  ·rw [He4.out]; exact b2 _ _ _ _ _ _ (h.num.ext extW)
theorem q_CmpR (h : NR w q L s A n c t B m d) (k : NR w p M s' A' n' c' t' B' m' d') (hL : L <= 1000) (hM : M <= 1000) : Calls Tryz.prog 31 #[.agg #[.bool s, .slice A n c, .bool t, .slice B m d], .agg #[.bool s', .slice A' n' c', .bool t', .slice B' m' d']] w fun e w' => e = .returned (.int .i64 (ratCmp q p)) /\ Ext w w' := by
 go_enter Tryz.func31, Tryz.ntmps31
 go_upto_region 1 with (fail)
 obtain ⟨W, hW, extW, bx, by_, hz⟩ := box2 w 27 27 #[.bool s, .slice A n c, .bool t, .slice B m d] #[.bool s', .slice A' n' c', .bool t', .slice B' m' d'];rw [<- hW];clear hW;have ES0 := Ext.refl W;refine wp_region_held_drew (S := Ext W) (by kernel_rfl) ES0.drew (fun ES => ?_);clear ES0;refine Late.s0 ES (fun hAl hQ => ?_);refine Late.t 0 5 ?v_0 hQ ?y_0 ?_
 case y_0 => intro w' hSw;go_simp;try rfl
 try simp only [zP]
 refine Late.t 2 7 ?v_1 hQ ?y_1 ?_
 case y_1 => intro w' hSw;go_simp;try rfl
 try simp only [zP]
 refine Late.t 5 10 ?v_2 hQ ?y_2 ?_
 case y_2 => intro w' hSw;go_simp;try rfl
 try simp only [zP]
 refine Late.t 7 12 ?v_3 hQ ?y_3 ?_
 case y_3 => intro w' hSw;go_simp;try rfl
 try simp only [zP]
 refine Late.t 1 6 ?v_4 hQ ?y_4 ?_
 case y_4 => intro w' hSw;have k00 := (bx.ext hSw).c4;have k10 := (by_.ext hSw).c4;go_simp;try rfl
 try simp only [zP]
 refine Late.t 3 8 ?v_5 hQ ?y_5 ?_
 case y_5 => intro w' hSw;have k00 := (bx.ext hSw).c4;have k10 := (by_.ext hSw).c4;go_simp;try rfl
 try simp only [zP]
 refine Late.t 6 11 ?v_6 hQ ?y_6 ?_
 case y_6 => intro w' hSw;have k00 := (bx.ext hSw).c4;have k10 := (by_.ext hSw).c4;go_simp;try rfl
 try simp only [zP]
 refine Late.t 8 13 ?v_7 hQ ?y_7 ?_
 case y_7 => intro w' hSw;have k00 := (bx.ext hSw).c4;have k10 := (by_.ext hSw).c4;go_simp;try rfl
 try simp only [zP]
 refine Late.cl (i := 4) rfl hAl hQ (fun w4 e4 E4 K hK => ?_);go_simp
 (go_at_call 75; refine (q_Mul (h.num.ext (extW.trans E4)) (k.den.ext (extW.trans E4)) (by omega) (by omega)).mono ?_; rintro e m1 ⟨s1, A1, n1, c1, rfl, h1, hx4⟩)
 refine hK.out _ _ hx4 ?_;clear hK K
 try simp only [zP]
 refine Late.cl (i := 9) rfl hAl hQ (fun w9 e9 E9 K hK => ?_);go_simp
 (go_at_call 75; refine (q_Mul (k.num.ext (extW.trans E9)) (h.den.ext (extW.trans E9)) (by omega) (by omega)).mono ?_; rintro e m2 ⟨s2, A2, n2, c2, rfl, h2, hx9⟩)
 refine hK.out _ _ hx9 ?_;clear hK K
 try simp only [zP]
 refine Late.cl (i := 10) rfl hAl hQ (fun w10 e10 E10 K hK => ?_);go_simp
 (go_at_call 74; refine (q_Cmp (h1.ext (e9.trans (hx9.trans e10))) (h2.ext e10) (by omega) (by omega)).mono ?_; rintro e m3 ⟨rfl, hx10⟩)
 refine hK.out _ _ hx10 ?_;clear hK K
 try simp only [zP]
 refine Late.t 11 4 ?v_8 hQ ?y_8 ?_
 case y_8 => intro w' hSw;go_simp;try rfl
 try simp only [zP]
 refine Late.d0 (fun wz ez Ez => ?_);clear hAl hQ ES
 go_wp2_with fail
 go_ret
 exact ⟨rfl, extW.trans Ez⟩
end
section
variable {w w' : World} {z y : Int} {q p : Rat} {L M : Nat} {s t s' t' : Bool} {A B A' B' : Option Addr} {n c m d n' c' m' d' : Nat}
theorem rat_mul_one {q p : Rat} (h1 : (q.den : Int) = 1) (h2 : (p.den : Int) = 1) : (q * p).num = q.num * p.num /\ ((q * p).den : Int) = (q.den : Int) := by
 have e1 : q.den = 1 := by omega
 have e2 : p.den = 1 := by omega
 obtain ⟨a, b⟩ := rat_mul q p (g := 1) (h := 1) (by rw [e2]; simp) (by rw [e1]; simp);rw [a, b, e1, e2];simp
set_option maxRecDepth 100000 in
theorem q_MulR (h : NR w q L s A n c t B m d) (k : NR w p M s' A' n' c' t' B' m' d') (hL : L <= 1000) (hM : M <= 1000) : Calls Tryz.prog 60 #[.agg #[.bool s, .slice A n c, .bool t, .slice B m d], .agg #[.bool s', .slice A' n' c', .bool t', .slice B' m' d']] w (RetNR (q * p) (L + M) w) := by
 have hL1 := h.pos;have hM1 := k.pos
 go_enter Tryz.func60, Tryz.ntmps60
 go_upto_region 1 with (fail)
 obtain ⟨W, hW, extW, bx, by_, bz, hz⟩ := box3 w 27 27 27 #[.bool s, .slice A n c, .bool t, .slice B m d] #[.bool s', .slice A' n' c', .bool t', .slice B' m' d'] #[Value.bool false, Value.slice none 0 0, Value.bool false, Value.slice none 0 0];rw [<- hW];clear hW;replace h := h.ext extW;replace k := k.ext extW;have hz1 := h.num.zero;have hz2 := k.num.zero
 by_cases hq0 : q.num = 0
 ·have hn2 : ((n : Int) == 0) = true := by rw [beq_iff_eq]; have := hz1.2 hq0; omega
  have hqp : q * p = ((0 : Int) : Rat) := by rw [Rat.num_eq_zero.1 hq0, Rat.zero_mul]; rfl
  clear hz1 hz2 hq0;have x1 := bx.cell 1 (.slice A n c) rfl;have y1 := by_.cell 1 (.slice A' n' c') rfl
  go_wp2_with fail
  refine (q_FromIntR 0 (by omega) (by omega)).mono ?_;rintro e wb ⟨s1, A1, n1, c1', t1, B1, m1, d1, rfl, hr, hxb⟩;have z0 := (bz.ext hxb).cell 0 _ rfl;have z1 := (bz.ext hxb).cell 1 _ rfl;have z2 := (bz.ext hxb).cell 2 _ rfl;have z3 := (bz.ext hxb).cell 3 _ rfl;have f0 := (bz.ext hxb).frozen 0;have f1 := (bz.ext hxb).frozen 1;have f2 := (bz.ext hxb).frozen 2;have f3 := (bz.ext hxb).frozen 3
  go_wp2_with fail
  obtain ⟨b1, b2, b3, b4⟩ := fin_quad (s := s1) (A := A1) (n := n1) (c := c1') (t := t1) (B := B1) (m := m1) (d := d1) (bz.ext hxb);have r0 := b1.cell 0 (.bool s1) rfl;have r1 := b1.cell 1 (.slice A1 n1 c1') rfl;have r2 := b1.cell 2 (.bool t1) rfl;have r3 := b1.cell 3 (.slice B1 m1 d1) rfl;unfold set4 at r0 r1 r2 r3;refine bodyPost_ret (v := .agg #[.bool s1, .slice A1 n1 c1', .bool t1, .slice B1 m1 d1]) (by simp [results, Tryz.results60, go_sem, r0, r1, r2, r3]) rfl ⟨s1, A1, n1, c1', t1, B1, m1, d1, rfl, ⟨?_, ?_⟩, b3 _ (extW.trans hxb) (by omega)⟩
  ·rw [hqp]; exact (b2 _ _ _ _ _ _ hr.num).le (by omega)
  ·rw [hqp]; exact (b2 _ _ _ _ _ _ hr.den).le (by omega)
 ·have hn2 : ((n : Int) == 0) = false := by rw [beq_eq_false_iff_ne]; intro h0; exact hq0 (hz1.1 (by omega))
  by_cases hp0 : p.num = 0
  ·have hm2 : ((n' : Int) == 0) = true := by rw [beq_iff_eq]; have := hz2.2 hp0; omega
   have hqp : q * p = ((0 : Int) : Rat) := by rw [Rat.num_eq_zero.1 hp0, Rat.mul_zero]; rfl
   clear hz1 hz2 hq0 hp0;have x1 := bx.cell 1 (.slice A n c) rfl;have y1 := by_.cell 1 (.slice A' n' c') rfl
   go_wp2_with fail
   refine (q_FromIntR 0 (by omega) (by omega)).mono ?_;rintro e wb ⟨s1, A1, n1, c1', t1, B1, m1, d1, rfl, hr, hxb⟩;have z0 := (bz.ext hxb).cell 0 _ rfl;have z1 := (bz.ext hxb).cell 1 _ rfl;have z2 := (bz.ext hxb).cell 2 _ rfl;have z3 := (bz.ext hxb).cell 3 _ rfl;have f0 := (bz.ext hxb).frozen 0;have f1 := (bz.ext hxb).frozen 1;have f2 := (bz.ext hxb).frozen 2;have f3 := (bz.ext hxb).frozen 3
   go_wp2_with fail
   obtain ⟨b1, b2, b3, b4⟩ := fin_quad (s := s1) (A := A1) (n := n1) (c := c1') (t := t1) (B := B1) (m := m1) (d := d1) (bz.ext hxb);have r0 := b1.cell 0 (.bool s1) rfl;have r1 := b1.cell 1 (.slice A1 n1 c1') rfl;have r2 := b1.cell 2 (.bool t1) rfl;have r3 := b1.cell 3 (.slice B1 m1 d1) rfl;unfold set4 at r0 r1 r2 r3;refine bodyPost_ret (v := .agg #[.bool s1, .slice A1 n1 c1', .bool t1, .slice B1 m1 d1]) (by simp [results, Tryz.results60, go_sem, r0, r1, r2, r3]) rfl ⟨s1, A1, n1, c1', t1, B1, m1, d1, rfl, ⟨?_, ?_⟩, b3 _ (extW.trans hxb) (by omega)⟩
   ·rw [hqp]; exact (b2 _ _ _ _ _ _ hr.num).le (by omega)
   ·rw [hqp]; exact (b2 _ _ _ _ _ _ hr.den).le (by omega)
  ·have hm2 : ((n' : Int) == 0) = false := by rw [beq_eq_false_iff_ne]; intro h0; exact hp0 (hz2.1 (by omega))
   clear hz1 hz2 hq0 hp0;have x1 := bx.cell 1 (.slice A n c) rfl;have y1 := by_.cell 1 (.slice A' n' c') rfl
   go_upto_region 3 with (fail)
   clear x1 y1;have x0 := bx.cell 0 (.bool s) rfl;have x1 := bx.cell 1 (.slice A n c) rfl;have x2 := bx.cell 2 (.bool t) rfl;have x3 := bx.cell 3 (.slice B m d) rfl
   go_wp2_with fail
   refine (q_one h.den).mono ?_;rintro e wb ⟨rfl, hxb⟩;replace bx := bx.ext hxb;replace by_ := by_.ext hxb;replace bz := bz.ext hxb;replace h := h.ext hxb;replace k := k.ext hxb;replace extW := extW.trans hxb;clear hxb;clear x0 x1 x2 x3
   by_cases h1 : (q.den : Int) = 1
   case' neg =>
    rw [decide_eq_false h1]
    clear h1
   case' pos =>
    rw [decide_eq_true h1]
    have H1 := Lib.hid h1;clear h1;have y2 := by_.cell 2 (.bool t') rfl;have y3 := by_.cell 3 (.slice B' m' d') rfl
    go_wp2_with fail
    refine (q_one k.den).mono ?_;rintro e wb ⟨rfl, hxc⟩;replace bx := bx.ext hxc;replace by_ := by_.ext hxc;replace bz := bz.ext hxc;replace h := h.ext hxc;replace k := k.ext hxc;replace extW := extW.trans hxc;clear hxc y2 y3
    by_cases h2 : (p.den : Int) = 1
    ·rw [decide_eq_true h2]
     have H2 := Lib.hid h2;clear h2
     go_wp2_with fail
     refine wpL.st 8 (fun hQ ES => ?_);refine wpL.t 0 28 ?v_0 hQ ?y_0 ES ?_
     case y_0 => intro w' hSw;go_simp;try rfl
     try simp only [zP]
     refine wpL.t 2 30 ?v_1 hQ ?y_1 ES ?_
     case y_1 => intro w' hSw;go_simp;try rfl
     try simp only [zP]
     refine wpL.t 5 33 ?v_2 hQ ?y_2 ES ?_
     case y_2 => intro w' hSw;go_simp;try rfl
     try simp only [zP]
     refine wpL.t 1 29 ?v_3 hQ ?y_3 ES ?_
     case y_3 => intro w' hSw;have k00 := (bx.ext hSw).c4;have k10 := (by_.ext hSw).c4;go_simp;try rfl
     try simp only [zP]
     refine wpL.t 3 31 ?v_4 hQ ?y_4 ES ?_
     case y_4 => intro w' hSw;have k00 := (bx.ext hSw).c4;have k10 := (by_.ext hSw).c4;go_simp;try rfl
     try simp only [zP]
     refine wpL.t 6 34 ?v_5 hQ ?y_5 ES ?_
     case y_5 => intro w' hSw;have k00 := (bx.ext hSw).c4;have k10 := (by_.ext hSw).c4;go_simp;try rfl
     try simp only [zP]
     refine wpL.cl (i := 4) rfl (fun K hK => ?_);go_simp
     (go_at_call 75; refine (q_Mul (h.num.ext ES) (k.num.ext ES) (by omega) (by omega)).mono ?_; rintro e wk1 ⟨s5, A5, n5, c5, rfl, h5, hx0⟩; have E0_4 := Ext.trans ES hx0)
     refine hK.out _ _ E0_4 ?_;clear hK K
     try simp only [zP]
     refine wpL.t 7 35 ?v_6 hQ ?y_6 E0_4 ?_
     case y_6 => intro w' hSw;go_simp;try rfl
     try simp only [zP]
     have z0 := (bz.ext E0_4).cell 0 _ rfl;have z1 := (bz.ext E0_4).cell 1 _ rfl;have z2 := (bz.ext E0_4).cell 2 _ rfl;have z3 := (bz.ext E0_4).cell 3 _ rfl;have f0 := (bz.ext E0_4).frozen 0;have f1 := (bz.ext E0_4).frozen 1;have f2 := (bz.ext E0_4).frozen 2;have f3 := (bz.ext E0_4).frozen 3;refine wpL.tl (i := 8) rfl (fun K hK => ?_);go_simp;refine hK.out _ _ ?_;clear hK K
     try simp only [zP]
     refine wpL.done (by kernel_rfl) ?_ _;clear hQ
     go_wp2_with fail
     obtain ⟨e5, e6⟩ := rat_mul_one H1.out H2.out;obtain ⟨b1, b2, b3, b4⟩ := fin_quad (s := s5) (A := A5) (n := n5) (c := c5) (t := t) (B := B) (m := m) (d := d) (bz.ext E0_4);have r0 := b1.cell 0 (.bool s5) rfl;have r1 := b1.cell 1 (.slice A5 n5 c5) rfl;have r2 := b1.cell 2 (.bool t) rfl;have r3 := b1.cell 3 (.slice B m d) rfl;unfold set4 at r0 r1 r2 r3;refine bodyPost_ret (v := .agg #[.bool s5, .slice A5 n5 c5, .bool t, .slice B m d]) (by simp [results, Tryz.results60, go_sem, r0, r1, r2, r3]) rfl ⟨s5, A5, n5, c5, t, B, m, d, rfl, ⟨?_, ?_⟩, b3 _ (extW.trans E0_4) (by omega)⟩
     ·rw [e5]; exact b2 _ _ _ _ _ _ h5
     ·rw [e6]; exact (b2 _ _ _ _ _ _ (h.den.ext E0_4)).le (by omega)
    rw [decide_eq_false h2]
    clear h2
   all_goals
    go_wp2_with fail
    have ES0 := Ext.refl wb;refine wp_region_held_drew (S := Ext wb) (by kernel_rfl) ES0.drew (fun ES => ?_);clear ES0;refine Late.start2 (x := ⟨10, 5, 25, #[Value.bool false, Value.slice none 0 0]⟩) (y := ⟨11, 6, 25, #[Value.bool false, Value.slice none 0 0]⟩) (n := 12) ⟨_, rfl, rfl, rfl, fun a w => by go_simp⟩ ⟨_, rfl, rfl, rfl, fun a w => by go_simp⟩ (fun _ _ _ _ _ => ⟨fun h => h, fun h => h⟩) ES rfl (fun hAl hQ => ?_);refine Late.t 0 36 ?_ hQ ?_ ?_;rotate_left
    ·intro w' hSw;go_simp;try rfl
    try simp only [zP]
    refine Late.t 2 38 ?_ hQ ?_ ?_;rotate_left
    ·intro w' hSw;go_simp;try rfl
    try simp only [zP]
    refine Late.t 5 41 ?_ hQ ?_ ?_;rotate_left
    ·intro w' hSw;go_simp;try rfl
    try simp only [zP]
    refine Late.t 7 43 ?_ hQ ?_ ?_;rotate_left
    ·intro w' hSw;go_simp;try rfl
    try simp only [zP]
    refine Late.t 1 37 ?_ hQ ?_ ?_;rotate_left
    ·intro w' hSw;have k00 := (bx.ext hSw).c4;have k10 := (by_.ext hSw).c4;go_simp;try rfl
    try simp only [zP]
    refine Late.t 3 39 ?_ hQ ?_ ?_;rotate_left
    ·intro w' hSw;have k00 := (bx.ext hSw).c4;have k10 := (by_.ext hSw).c4;go_simp;try rfl
    try simp only [zP]
    refine Late.t 6 42 ?_ hQ ?_ ?_;rotate_left
    ·intro w' hSw;have k00 := (bx.ext hSw).c4;have k10 := (by_.ext hSw).c4;go_simp;try rfl
    try simp only [zP]
    refine Late.t 8 44 ?_ hQ ?_ ?_;rotate_left
    ·intro w' hSw;have k00 := (bx.ext hSw).c4;have k10 := (by_.ext hSw).c4;go_simp;try rfl
    try simp only [zP]
    refine Late.cl (i := 4) rfl hAl hQ (fun w4 e4 E4 K hK => ?_);go_simp
    (go_at_call 73; refine (q_GCD (h.num.ext E4) (k.den.ext E4) (by omega) (by omega)).mono ?_; rintro e wk1 ⟨s1, A1, n1, c1', rfl, h1, hx4⟩; rw [Int.natAbs_natCast] at h1)
    refine hK.out _ _ hx4 ?_;clear hK K
    try simp only [zP]
    refine Late.cl (i := 9) rfl hAl hQ (fun w9 e9 E9 K hK => ?_);go_simp
    (go_at_call 73; refine (q_GCD (k.num.ext E9) (h.den.ext E9) (by omega) (by omega)).mono ?_; rintro e wk2 ⟨s2, A2, n2, c2', rfl, h2, hx9⟩; rw [Int.natAbs_natCast] at h2)
    refine hK.out _ _ hx9 ?_;clear hK K
    try simp only [zP]
    refine Late.finish2 (hAl _ (by simp)) (hAl _ (by simp)) (by decide) (by decide) (by kernel_rfl) (by kernel_rfl) (by kernel_rfl) (fun wz g5 g6 ez Ez lg5 lg6 hne xb1 xb2 => ?_);clear hAl hQ ES;have p10 := xb1.cell 0 (Value.bool false) rfl;have p11 := xb1.cell 1 (Value.slice none 0 0) rfl;have f10 := xb1.frozen 0;have f11 := xb1.frozen 1;have e4 := fin_dual (s := s1) (A := A1) (n := n1) (c := c1') xb1
    try simp only [zP]
    refine wpAnyH_ready (rs := [12]) (by kernel_rfl) (by simp) (AllReadyH.cons rfl (fun K hK => ?_) AllReadyH.nil);go_simp;refine hK.out _ _ (e4.2.2.1 _ Ez lg5) (fun _ => ?_);clear hK K
    try simp only [zP]
    have e5 := e4.2.2.2 _ _ _ (Ne.symm hne) xb2;refine any_world (fun U => Ext wb U /\ Box U g5 25 #[.bool s1, .slice A1 n1 c1'] /\ Box U g6 25 #[Value.bool false, Value.slice none 0 0] /\ NI U ((q.num.natAbs.gcd p.den : Nat) : Int) (max L M) s1 A1 n1 c1' /\ NI U ((p.num.natAbs.gcd q.den : Nat) : Int) (max M L) s2 A2 n2 c2') ⟨e4.2.2.1 _ Ez lg5, e4.1, e5, e4.2.1 _ _ _ _ _ _ (h1.ext (e9.trans (hx9.trans ez))), e4.2.1 _ _ _ _ _ _ (h2.ext ez)⟩ ?_;clear e4 e5 p10 p11 f10 f11 xb1 xb2;rintro U ⟨EU, b8, xb2, h1, h2⟩;have p10 := xb2.cell 0 (Value.bool false) rfl;have p11 := xb2.cell 1 (Value.slice none 0 0) rfl;have f10 := xb2.frozen 0;have f11 := xb2.frozen 1;have e4 := fin_dual (s := s2) (A := A2) (n := n2) (c := c2') xb2;refine wpAnyH_ready (rs := [13]) (by kernel_rfl) (by simp) (AllReadyH.cons rfl (fun K hK => ?_) AllReadyH.nil);go_simp;refine hK.out _ _ (e4.2.2.1 _ EU lg6) (fun _ => ?_);clear hK K
    try simp only [zP]
    refine any_world (fun U2 => Ext wb U2 /\ Box U2 g5 25 #[.bool s1, .slice A1 n1 c1'] /\ Box U2 g6 25 #[.bool s2, .slice A2 n2 c2'] /\ NI U2 ((q.num.natAbs.gcd p.den : Nat) : Int) (max L M) s1 A1 n1 c1' /\ NI U2 ((p.num.natAbs.gcd q.den : Nat) : Int) (max M L) s2 A2 n2 c2') ⟨e4.2.2.1 _ EU lg6, e4.2.2.2 _ _ _ hne b8, e4.1, e4.2.1 _ _ _ _ _ _ h1, e4.2.1 _ _ _ _ _ _ h2⟩ ?_;clear e4 p10 p11 f10 f11 xb2 b8 h1 h2 lg5 lg6;rintro U2 ⟨EU2, b8, b9, h1, h2⟩;refine wpAnyH_done (by kernel_rfl) ?_ _;replace bx := bx.ext EU2;replace by_ := by_.ext EU2;replace bz := bz.ext EU2;replace h := h.ext EU2;replace k := k.ext EU2;replace extW := extW.trans EU2;clear EU EU2 Ez ez;obtain ⟨g, hge⟩ : ∃ g, q.num.natAbs.gcd p.den = g := ⟨_, rfl⟩;obtain ⟨hq, hhe⟩ : ∃ g, p.num.natAbs.gcd q.den = g := ⟨_, rfl⟩;rw [hge] at h1;rw [hhe] at h2;obtain ⟨q1, q2⟩ := rat_mul q p hge.symm hhe.symm;have Hq1 := Lib.hid q1;have Hq2 := Lib.hid q2;have hgq : g ∣ q.num.natAbs := by rw [<- hge]; exact Nat.gcd_dvd_left _ _
    have hgp : g ∣ p.den := by rw [<- hge]; exact Nat.gcd_dvd_right _ _
    have hhp : hq ∣ p.num.natAbs := by rw [<- hhe]; exact Nat.gcd_dvd_left _ _
    have hhq : hq ∣ q.den := by rw [<- hhe]; exact Nat.gcd_dvd_right _ _
    have hg0 : (g : Int) ≠ 0 := by
     intro h0;have : g = 0 := by omega
     rw [this] at hgp;exact p.den_nz (Nat.eq_zero_of_zero_dvd hgp)
    have hh0 : (hq : Int) ≠ 0 := by
     intro h0;have : hq = 0 := by omega
     rw [this] at hhq;exact q.den_nz (Nat.eq_zero_of_zero_dvd hhq)
    have Hg0 := Lib.hid hg0;have Hh0 := Lib.hid hh0;have Hgq := Lib.hid (Int.ofNat_dvd_left.2 hgq);have Hgp := Lib.hid (Int.ofNat_dvd.2 hgp);have Hhp := Lib.hid (Int.ofNat_dvd_left.2 hhp);have Hhq := Lib.hid (Int.ofNat_dvd.2 hhq);have hg := h1;have hh := h2;clear hge hhe q1 q2 hgq hgp hhp hhq hg0 hh0 h1 h2
    go_wp2_with fail
    refine wpL.st 19 (fun hQ ES => ?_);refine wpL.t 0 46 ?_ hQ ?_ ES ?_;rotate_left
    ·intro w' hSw;go_simp;try rfl
    try simp only [zP]
    refine wpL.t 2 48 ?_ hQ ?_ ES ?_;rotate_left
    ·intro w' hSw;have k00 := (bx.ext hSw).c4;have k10 := (by_.ext hSw).c4;have k20 := (b8.ext hSw).c2;have k30 := (b9.ext hSw).c2;go_simp;try rfl
    try simp only [zP]
    refine wpL.t 4 50 ?_ hQ ?_ ES ?_;rotate_left
    ·intro w' hSw;go_simp;try rfl
    try simp only [zP]
    refine wpL.t 6 52 ?_ hQ ?_ ES ?_;rotate_left
    ·intro w' hSw;have k00 := (bx.ext hSw).c4;have k10 := (by_.ext hSw).c4;have k20 := (b8.ext hSw).c2;have k30 := (b9.ext hSw).c2;go_simp;try rfl
    try simp only [zP]
    refine wpL.t 9 55 ?_ hQ ?_ ES ?_;rotate_left
    ·intro w' hSw;go_simp;try rfl
    try simp only [zP]
    refine wpL.t 11 57 ?_ hQ ?_ ES ?_;rotate_left
    ·intro w' hSw;have k00 := (bx.ext hSw).c4;have k10 := (by_.ext hSw).c4;have k20 := (b8.ext hSw).c2;have k30 := (b9.ext hSw).c2;go_simp;try rfl
    try simp only [zP]
    refine wpL.t 13 59 ?_ hQ ?_ ES ?_;rotate_left
    ·intro w' hSw;go_simp;try rfl
    try simp only [zP]
    refine wpL.t 15 61 ?_ hQ ?_ ES ?_;rotate_left
    ·intro w' hSw;have k00 := (bx.ext hSw).c4;have k10 := (by_.ext hSw).c4;have k20 := (b8.ext hSw).c2;have k30 := (b9.ext hSw).c2;go_simp;try rfl
    try simp only [zP]
    refine wpL.t 1 47 ?_ hQ ?_ ES ?_;rotate_left
    ·intro w' hSw;have k00 := (bx.ext hSw).c4;have k10 := (by_.ext hSw).c4;have k20 := (b8.ext hSw).c2;have k30 := (b9.ext hSw).c2;go_simp;try rfl
    try simp only [zP]
    refine wpL.t 5 51 ?_ hQ ?_ ES ?_;rotate_left
    ·intro w' hSw;have k00 := (bx.ext hSw).c4;have k10 := (by_.ext hSw).c4;have k20 := (b8.ext hSw).c2;have k30 := (b9.ext hSw).c2;go_simp;try rfl
    try simp only [zP]
    refine wpL.t 10 56 ?_ hQ ?_ ES ?_;rotate_left
    ·intro w' hSw;have k00 := (bx.ext hSw).c4;have k10 := (by_.ext hSw).c4;have k20 := (b8.ext hSw).c2;have k30 := (b9.ext hSw).c2;go_simp;try rfl
    try simp only [zP]
    refine wpL.t 14 60 ?_ hQ ?_ ES ?_;rotate_left
    ·intro w' hSw;have k00 := (bx.ext hSw).c4;have k10 := (by_.ext hSw).c4;have k20 := (b8.ext hSw).c2;have k30 := (b9.ext hSw).c2;go_simp;try rfl
    try simp only [zP]
    refine wpL.cl (i := 3) rfl (fun K hK => ?_);go_simp
    (go_at_call 105; refine (q_quo (h.num.ext ES) (hg.ext ES) (by omega) (by omega) Hg0.out Hgq.out).mono ?_; rintro e wk1 ⟨s3, A3, n3, c3, rfl, h3, hx0⟩; have E0_6 := Ext.trans ES hx0)
    refine hK.out _ _ E0_6 ?_;clear hK K
    try simp only [zP]
    refine wpL.cl (i := 7) rfl (fun K hK => ?_);go_simp
    (go_at_call 105; refine (q_quo (k.num.ext E0_6) (hh.ext E0_6) (by omega) (by omega) Hh0.out Hhp.out).mono ?_; rintro e wk2 ⟨s4, A4, n4, c4, rfl, h4, hx1⟩; have E1_6 := Ext.trans E0_6 hx1)
    refine hK.out _ _ E1_6 ?_;clear hK K
    try simp only [zP]
    refine wpL.cl (i := 8) rfl (fun K hK => ?_);go_simp
    (go_at_call 75; refine (q_Mul (h3.ext hx1) h4 (by omega) (by omega)).mono ?_; rintro e wk3 ⟨s5, A5, n5, c5, rfl, h5, hx2⟩; have E2_6 := Ext.trans E1_6 hx2)
    refine hK.out _ _ E2_6 ?_;clear hK K
    try simp only [zP]
    refine wpL.cl (i := 12) rfl (fun K hK => ?_);go_simp
    (go_at_call 105; refine (q_quo (h.den.ext E2_6) (hh.ext E2_6) (by omega) (by omega) Hh0.out Hhq.out).mono ?_; rintro e wk4 ⟨s6, A6, n6, c6, rfl, h6, hx3⟩; have E3_6 := Ext.trans E2_6 hx3)
    refine hK.out _ _ E3_6 ?_;clear hK K
    try simp only [zP]
    refine wpL.cl (i := 16) rfl (fun K hK => ?_);go_simp
    (go_at_call 105; refine (q_quo (k.den.ext E3_6) (hg.ext E3_6) (by omega) (by omega) Hg0.out Hgp.out).mono ?_; rintro e wk5 ⟨s7, A7, n7, c7, rfl, h7, hx4⟩; have E4_6 := Ext.trans E3_6 hx4)
    refine hK.out _ _ E4_6 ?_;clear hK K
    try simp only [zP]
    refine wpL.cl (i := 17) rfl (fun K hK => ?_);go_simp
    (go_at_call 75; refine (q_Mul (h6.ext hx4) h7 (by omega) (by omega)).mono ?_; rintro e wk6 ⟨s8, A8, n8, c8, rfl, h8, hx5⟩; have E5_6 := Ext.trans E4_6 hx5)
    refine hK.out _ _ E5_6 ?_;clear hK K
    try simp only [zP]
    refine wpL.t 18 64 ?_ hQ ?_ E5_6 ?_;rotate_left
    ·intro w' hSw;go_simp;try rfl
    try simp only [zP]
    have z0 := (bz.ext E5_6).cell 0 _ rfl;have z1 := (bz.ext E5_6).cell 1 _ rfl;have z2 := (bz.ext E5_6).cell 2 _ rfl;have z3 := (bz.ext E5_6).cell 3 _ rfl;have f0 := (bz.ext E5_6).frozen 0;have f1 := (bz.ext E5_6).frozen 1;have f2 := (bz.ext E5_6).frozen 2;have f3 := (bz.ext E5_6).frozen 3;refine wpL.tl (i := 19) rfl (fun K hK => ?_);go_simp;refine hK.out _ _ ?_;clear hK K
    try simp only [zP]
    refine wpL.done (by kernel_rfl) ?_ _;clear hQ
    go_wp2_with fail
    have hk1 : ((q.den : Int) / (hq : Int)) * ((p.den : Int) / (g : Int)) = ((q * p).den : Int) := by rw [Hq2.out]; simp
    rw [hk1] at h8;rw [<- Hq1.out] at h5;obtain ⟨b1, b2, b3, b4⟩ := fin_quad (s := s5) (A := A5) (n := n5) (c := c5) (t := s8) (B := A8) (m := n8) (d := c8) (bz.ext E5_6);have r0 := b1.cell 0 (.bool s5) rfl;have r1 := b1.cell 1 (.slice A5 n5 c5) rfl;have r2 := b1.cell 2 (.bool s8) rfl;have r3 := b1.cell 3 (.slice A8 n8 c8) rfl;unfold set4 at r0 r1 r2 r3;refine bodyPost_ret (v := .agg #[.bool s5, .slice A5 n5 c5, .bool s8, .slice A8 n8 c8]) (by simp [results, Tryz.results60, go_sem, r0, r1, r2, r3]) rfl ⟨s5, A5, n5, c5, s8, A8, n8, c8, rfl, ⟨?_, ?_⟩, b3 _ (extW.trans E5_6) (by omega)⟩
    ·exact b2 _ _ _ _ _ _ (h5.ext (hx3.trans (hx4.trans hx5)))
    ·exact b2 _ _ _ _ _ _ h8
end
end
end Go.Proofs.YtpeddoaknfjbbaaGreatDoor
