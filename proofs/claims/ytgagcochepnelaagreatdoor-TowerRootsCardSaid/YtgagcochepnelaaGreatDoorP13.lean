/- Walks and laws, a part. -/
import Derived.Test.YtgagcochepnelaaGreatDoorP11
import Derived.Test.YtgagcochepnelaaGreatDoorP12
import Derived.Test.YtgagcochepnelaaGreatDoorP7
import Derived.Test.YtgagcochepnelaaGreatDoorP8
import Derived.Test.YtgagcochepnelaaGreatDoorP6
import Derived.Test.YtgagcochepnelaaGreatDoorP0
import Derived.Test.YtgagcochepnelaaGreatDoorP3
import Derived.Test.YtgagcochepnelaaGreatDoorP10
import Derived.Test.YtgagcochepnelaaGreatDoorP5
import Derived.Test.YtgagcochepnelaaGreatDoorRows
import Derived.ProofKit
import Derived.Lib.SmallJoins
import Derived.Test.YtgagcochepnelaaGreatDoorCards
import Derived.Test.YtgagcochepnelaaGreatDoorTie
import Derived.LaidMore
import Derived.OpenShut
import Derived.LaidLaws
import Derived.Deep.Slices
import Derived.Lib.LaidTab
import Derived.SevenTiedAt
import Derived.Stop.Joined
import Derived.Maps.AppendAt
set_option linter.unusedSimpArgs false
set_option linter.unusedVariables false
set_option maxHeartbeats 64000000
namespace Go.Proofs.YtgagcochepnelaaGreatDoor
section
open Go.RowKit
attribute [local go_sem ↓] Go.wp_at_zero Go.wp_at_succ
section
variable {w : World} {A B D : Option Addr} {n c m d l e0 L M u1 v1 u2 v2 : Nat} {ts : List (List Rat)} {qs ps : List Rat}
set_option maxRecDepth 100000 in
theorem p_MulT (hp : PolT w A n c ts 4) (ht : TowL ts) (hs : ∀ r ∈ ts, ∀ q ∈ r, SmQ q) (hn4 : n <= 4) (ha : Pol w B m d qs L) (hm : m = 2 ^ n) (hb : Pol w D l e0 ps M) (hl : l = 2 ^ n) (hL : L <= 7000) (hM : M <= 7000) (h64 : min L M < 64) (hqs : BdQ u1 v1 qs) (hps : BdQ u2 v2 ps) (hed : u1 + v1 + (u2 + v2) <= 3000) (hT : Tab w) : Calls Tryz.prog 23 #[.slice A n c, .slice B m d, .slice D l e0] w (RetPol (mulL (radQ ts) n qs ps) (4 * (u1 + v1 + (u2 + v2)) + 970 + (L + M)) w) := by
 have hmf : ∀ (fn : Fn) (first cap : Array Value) (w : World), (Instr.makeFunc fn first cap).run Tryz.prog w = .ok (.func fn first cap) w := fun _ _ _ _ => rfl
 have hTL := hp.len;have hm16 : m <= 16 := by rw [hm]; exact (m_few n (by omega)).2.2.2.2.2.2
 have hlm : m = l := by rw [hl, hm]
 subst hlm;have HM := Lib.hid hm;have HL := Lib.hid hl;have hql := ha.len;have hpl := hb.len;have HQL := Lib.hid (show qs.length = 2 ^ ts.length by rw [hql, hm, hTL]);have HPL := Lib.hid (show ps.length = 2 ^ ts.length by rw [hpl, hl, hTL]);have HTL := Lib.hid hTL;have HQN := Lib.hid (show qs.length = 2 ^ n by rw [hql, hm]);have HPN := Lib.hid (show ps.length = 2 ^ n by rw [hpl, hl]);have hm0 : 0 < m := by rw [hm]; exact Nat.pow_pos (by omega)
 have hcapn := hp.cap;have hcapa := ha.cap;have hcapb := hb.cap;clear hm hl hTL hql hpl
 go_enter Tryz.func23, Tryz.ntmps23
 go_upto_region 1 with (fail)
 obtain ⟨W, hW, EW, b1, b2, hz⟩ := box2 w 23 23 #[.slice B m d] #[.slice D m e0];rw [<- hW];clear hW hz;have x0 := b1.cell 0 (.slice B m d) rfl;have x1 := b2.cell 0 (.slice D m e0) rfl;have hnb := Box.new W 23 #[.slice B m d, .slice D m e0];have q1 := (Ext.refl W).alloc (.cells #[.slice B m d, .slice D m e0] 23)
 go_wp2_with fail
 refine (p_formed2 (L := 7000) ((hp.le (by omega)).ext (EW.trans q1)) ht hnb ((ha.le (by omega)).ext (EW.trans q1)) ((hb.le (by omega)).ext (EW.trans q1)) HM.out HL.out (by omega) (by omega) (hT.ext (EW.trans q1))).mono ?_;rintro e V ⟨rfl, hxt⟩;replace EW := EW.trans (q1.trans hxt);replace b1 := b1.ext (q1.trans hxt);replace b2 := b2.ext (q1.trans hxt);clear x0 x1 hnb q1 hxt
 go_upto_region 3 with (fail)
 have ES0 := Ext.refl V;refine wp_region_held_drew (S := Ext V) (by kernel_rfl) ES0.drew (fun ES => ?_);clear ES0;refine Late.s0 ES (fun hAl hQ => ?_);refine Late.t 0 20 ?v_0 hQ ?y_0 ?_
 case y_0 => intro w' hSw;have k00 := (b1.ext hSw).cell 0 _ rfl;have k10 := (b2.ext hSw).cell 0 _ rfl;go_simp;try rfl
 try simp only [zP]
 refine Late.t 2 22 ?v_1 hQ ?y_1 ?_
 case y_1 => intro w' hSw;have k00 := (b1.ext hSw).cell 0 _ rfl;have k10 := (b2.ext hSw).cell 0 _ rfl;go_simp;try rfl
 try simp only [zP]
 refine Late.cl (i := 1) rfl hAl hQ (fun w1 e1 E1 K hK => ?_);go_simp
 (go_at_call 60; refine (p_heightT (ha.ext (EW.trans E1)) HM.out (by omega) (by omega)).mono ?_; rintro e wk1 ⟨h, hh, rfl, zh, mh, hx1⟩)
 refine hK.out _ _ hx1 ?_;clear hK K
 try simp only [zP]
 refine Late.cl (i := 3) rfl hAl hQ (fun w3 e3 E3 K hK => ?_);go_simp
 (go_at_call 60; refine (p_heightT (hb.ext (EW.trans E3)) HL.out (by omega) (by omega)).mono ?_; rintro e wk3 ⟨k, hk, rfl, zk, mk, hx3⟩)
 refine hK.out _ _ hx3 ?_;clear hK K
 try simp only [zP]
 refine Late.u 4 7 hQ ?_
 try simp only [zP]
 refine Late.u 5 8 hQ ?_
 try simp only [zP]
 refine Late.d0 (fun wz ez Ez => ?_);clear hAl hQ ES;replace EW := EW.trans Ez;replace b1 := b1.ext Ez;replace b2 := b2.ext Ez;clear Ez ez;have x0 := b1.cell 0 (.slice B m d) rfl;have x1 := b2.cell 0 (.slice D m e0) rfl
 by_cases hh0 : h = 0
 ·subst hh0
  have hqne : qs ≠ [] := fun e => by have := ha.len; rw [e] at this; simp at this; omega
  obtain ⟨q, qs', rfl⟩ := List.exists_cons_of_ne_nil hqne;rw [Nat.pow_zero, List.drop_one, List.tail_cons] at zh;have HV := Lib.hid (mul_const (h := n) (radQ_len ht) HQN.out HPN.out zh)
  go_wp2_with fail
  refine (p_each6_Mul1 (hb.ext EW) (by omega) (by omega) (ha.ext EW) b1 (by omega) (by omega) (hT.ext EW)).mono ?_;rintro e V2 ⟨rfl, hR, hx2⟩
  go_wp2_with fail
  go_ret
  rw [HV.out];exact ⟨_, m, m, rfl, (hR.pol (by rw [List.length_map, hb.len]) (by unfold maxLen; omega)).le (by omega), EW.trans hx2⟩
 ·have g1 : ((h : Int) == 0) = false := beq_eq_false_iff_ne.2 (by omega)
  by_cases hk0 : k = 0
  ·subst hk0
   have hpne : ps ≠ [] := fun e => by have := hb.len; rw [e] at this; simp at this; omega
   obtain ⟨p, ps', rfl⟩ := List.exists_cons_of_ne_nil hpne;rw [Nat.pow_zero, List.drop_one, List.tail_cons] at zk;have HV := Lib.hid (mul_const' (h := n) (radQ_len ht) HQN.out HPN.out zk)
   go_wp2_with fail
   refine (p_each6_Mul2 (ha.ext EW) (by omega) (by omega) (hb.ext EW) b2 (by omega) (by omega) (hT.ext EW)).mono ?_;rintro e V2 ⟨rfl, hR, hx2⟩
   go_wp2_with fail
   go_ret
   rw [HV.out];exact ⟨_, m, m, rfl, (hR.pol (by rw [List.length_map, ha.len]) (by unfold maxLen; omega)).le (by omega), EW.trans hx2⟩
  ·have g2 : ((k : Int) == 0) = false := beq_eq_false_iff_ne.2 (by omega)
   obtain ⟨N, hN⟩ : ∃ N, N = max h k := ⟨_, rfl⟩;have hmx : max (h : Int) (k : Int) = (N : Int) := by omega
   have hNn : N <= n := by omega
   have hN1 : 1 <= N := by omega
   have hNh : h <= N := by omega
   have hNk : k <= N := by omega
   have hNc : (N : Int) <= (c : Int) := by omega
   have hNc2 : N <= c := by omega
   clear hN;have HVAL := Lib.hid (mul_all ht HTL.out hNn HQN.out HPN.out (zeroB_drop zh (Nat.pow_le_pow_right (show 0 < 2 by omega) hNh)) (zeroB_drop zk (Nat.pow_le_pow_right (show 0 < 2 by omega) hNk)));have hbds := mul_bds ht hs (N := N) (by rw [HTL.out]; exact hNn) (hqs.take (2 ^ N)) (hps.take (2 ^ N));have hG := ringR_take ht N (by rw [HTL.out]; exact hNn);have hfw := m_few N (by omega);have hd1 := denP_pos (partL (qs.take (2 ^ N)) (ringR (ts.take N)).2);have hd2 := denP_pos (partL (ps.take (2 ^ N)) (ringR (ts.take N)).2);have HPm := Lib.hid (show 2 ^ N <= m by rw [HM.out]; exact Nat.pow_le_pow_right (by omega) hNn);obtain ⟨P, hP⟩ : ∃ P, P = 2 ^ N := ⟨_, rfl⟩;rw [<- hP] at hbds hfw hd1 hd2;have hv := HVAL.out;rw [<- hP, <- HM.out] at hv;have HV2 := Lib.hid hv;clear hv;have hPm : P <= m := by rw [hP]; exact HPm.out
   have hP0 : 0 < P := by rw [hP]; exact Nat.pow_pos (by omega)
   have HP := Lib.hid hP;have hPd : (P : Int) <= (d : Int) := by omega
   have hPe : (P : Int) <= (e0 : Int) := by omega
   have hPd2 : P <= d := by omega
   have hPe2 : P <= e0 := by omega
   obtain ⟨hbA, hbB, hdA, hdB, hbP⟩ := hbds;have HBA := Lib.hid hbA;have HBB := Lib.hid hbB;have HDA := Lib.hid hdA;have HDB := Lib.hid hdB;have HPV := Lib.hid hbP;have HD0 := Lib.hid (Int.mul_ne_zero (show ((denP (partL (qs.take P) (ringR (ts.take N)).2) : Nat) : Int) ≠ 0 by omega) (show ((denP (partL (ps.take P) (ringR (ts.take N)).2) : Nat) : Int) ≠ 0 by omega));have HG3 := Lib.hid hG.2.2.1;have HG5 := Lib.hid hG.2.2.2.2;have HFW := Lib.hid hfw;clear hbA hbB hdA hdB hbP hd1 hd2 hG hfw hP HVAL
   go_wp2_with fail
   refine (p_ringOf (n := N) ((hp.ext EW).take hNn) (take_TowL ht N) (fun r hr => hs r (List.mem_of_mem_take hr)) (by omega) (hT.ext EW)).mono ?_;rintro e V1 ⟨Ar, cr, Af, cf, rfl, hir, hfp, hx1⟩;rw [<- HP.out] at hfp
   go_upto_region 9 with (fail)
   rw [show (2 : Nat) ^ N = P from HP.out.symm];obtain ⟨V2, hV2, ex2, b5, hz2⟩ := box1 V1 72 #[.slice Ar N cr, .slice Af P cf];rw [<- hV2];clear hV2 hz2 x0 x1;replace hir := hir.ext ex2;replace hfp := hfp.ext ex2;replace ex2 := hx1.trans ex2;replace EW := EW.trans ex2;replace b1 := b1.ext ex2;replace b2 := b2.ext ex2;clear ex2 hx1;have ES0 := Ext.refl V2;refine wp_region_held_drew (S := Ext V2) (by kernel_rfl) ES0.drew (fun ES => ?_);clear ES0;refine Late.start1 (x := ⟨10, 11, 28, #[Value.bool false, Value.slice none 0 0]⟩) (n := 12) ⟨_, rfl, rfl, rfl, fun a w => by go_simp⟩ (fun _ _ _ _ _ => ⟨fun h => h, fun h => h⟩) ES rfl (fun hAl hQ => ?_);refine Late.t 0 43 ?v_4 hQ ?y_4 ?_
   case y_4 => intro w' hSw;have k00 := (b5.ext hSw).c2;have k10 := (b1.ext hSw).cell 0 _ rfl;go_simp;try rfl
   try simp only [zP]
   refine Late.t 1 44 ?v_5 hQ ?y_5 ?_
   case y_5 => intro w' hSw;have k00 := (b5.ext hSw).c2;have k10 := (b1.ext hSw).cell 0 _ rfl;go_simp;try rfl
   try simp only [zP]
   refine Late.u 2 45 hQ ?_
   try simp only [zP]
   refine Late.t 3 46 ?v_7 hQ ?y_7 ?_
   case y_7 => intro w' hSw;have k00 := (b5.ext hSw).c2;have k10 := (b1.ext hSw).cell 0 _ rfl;go_simp;try rfl
   try simp only [zP]
   refine Late.u 4 47 hQ ?_
   try simp only [zP]
   refine Late.u 5 48 hQ ?_
   try simp only [zP]
   refine Late.callN (i := 6) rfl (by kernel_rfl) hAl (by kernel_rfl) (by kernel_rfl) (by kernel_rfl) hQ (fun w6 e6 E6 K hK => ?_);go_simp
   (go_at_call 66; refine (p_splitT ((ha.take hPm).ext (EW.trans E6)) (hfp.ext E6) rfl HG3.out rfl (by have := HFW.out; omega) (by have := HFW.out; omega) hP0 (by omega) (Nat.lt_of_lt_of_le HDA.out (Nat.pow_le_pow_right (by omega) (Nat.le_succ _))) (by have := HFW.out; omega) (by omega) (hT.ext (EW.trans E6))).mono ?_; rintro e wk6 ⟨g6, s7, B7, m7, d7, rfl, hg6, hz, hy, hx6⟩)
   refine hK.out _ _ hx6 ?_;clear hK K
   try simp only [zP]
   refine LateN.take (i := 7) (d := some 42) (v := ?v_a) rfl rfl (by kernel_rfl) (by kernel_rfl) (by kernel_rfl) (by kernel_rfl) hQ (Or.inl ⟨by rfl, ?y_a⟩) ?r_a
   case y_a => intro w' hSw;have k00 := (b5.ext hSw).c2;have k10 := (b1.ext hSw).cell 0 _ rfl;go_simp;try rfl
   try simp only [zP]
   refine LateN.take (i := 8) (d := some 50) (v := ?v_b) rfl rfl (by kernel_rfl) (by kernel_rfl) (by kernel_rfl) (by kernel_rfl) hQ (Or.inl ⟨by rfl, ?y_b⟩) ?r_b
   case y_b => intro w' hSw;have k00 := (b5.ext hSw).c2;have k10 := (b1.ext hSw).cell 0 _ rfl;go_simp;try rfl
   try simp only [zP]
   refine LateN.take (i := 9) (d := some 51) (v := ?v_c) rfl rfl (by kernel_rfl) (by kernel_rfl) (by kernel_rfl) (by kernel_rfl) hQ (Or.inl ⟨by rfl, ?y_c⟩) ?r_c
   case y_c => intro w' hSw;have k00 := (b5.ext hSw).c2;have k10 := (b1.ext hSw).cell 0 _ rfl;go_simp;try rfl
   try simp only [zP]
   refine LateN.finish1 (fun g hg => Or.inr hg) (hAl _ (by simp)) (by kernel_rfl) (fun wz g5 ez Ez lg5 hN5 xb1 => ?_);clear hAl hQ ES;have p10 := xb1.cell 0 (Value.bool false) rfl;have p11 := xb1.cell 1 (Value.slice none 0 0) rfl;have f10 := xb1.frozen 0;have f11 := xb1.frozen 1;have e4 := fin_dual (s := s7) (A := B7) (n := m7) (c := d7) xb1
   try simp only [zP]
   refine wpAnyH_ready (rs := [11]) (by kernel_rfl) (by simp) (AllReadyH.cons rfl (fun K hK => ?_) AllReadyH.nil);go_simp;refine hK.out _ _ Ez (fun _ => ?_);clear hK K
   try simp only [zP]
   refine wpAnyH_ready (rs := [12]) (by kernel_rfl) (by simp) (AllReadyH.cons rfl (fun K hK => ?_) AllReadyH.nil);go_simp;refine hK.out _ _ (e4.2.2.1 _ Ez lg5) (fun _ => ?_);clear hK K
   try simp only [zP]
   have hlt6 := hz.lt hP0;have hne6 : g6 ≠ g5 := by omega
   refine any_world (fun U => Ext V2 U /\ Box U g5 28 #[.bool s7, .slice B7 m7 d7] /\ IPol U (some ⟨g6, 0, Option.none⟩) P P (numsP (partL (qs.take P) (ringR (ts.take N)).2)) (4 * (v1 + eF N) + 1 + 1 + (L + fS N) + 2) /\ NI U (((denP (partL (qs.take P) (ringR (ts.take N)).2) : Nat) : Int)) (4 * (v1 + eF N) + 1 + 1) s7 B7 m7 d7) ⟨e4.2.2.1 _ Ez lg5, e4.1, (hz.ext ez).set2 xb1 hne6, e4.2.1 _ _ _ _ _ _ (hy.ext ez)⟩ ?_;clear e4 p10 p11 f10 f11 xb1 hz hy hlt6 hne6 hg6 hN5 Ez ez lg5;rintro U9 ⟨EU9, b8, hzA, hyA⟩;refine wpAnyH_done (by kernel_rfl) ?_ _;replace hzA := hzA.tight HBA.out;replace hyA := hyA.tight' (M := 4 * (v1 + eF N) + 1) (by rw [Int.natAbs_natCast]; exact HDA.out);replace hir := hir.ext EU9;replace hfp := hfp.ext EU9;replace b1 := b1.ext EU9;replace b2 := b2.ext EU9;replace b5 := b5.ext EU9;replace EW := EW.trans EU9;clear EU9
   go_wp2_with fail
   have ES0 := Ext.refl U9;refine wp_region_held_drew (S := Ext U9) (by kernel_rfl) ES0.drew (fun ES => ?_);clear ES0;refine Late.start1 (x := ⟨10, 13, 28, #[Value.bool false, Value.slice none 0 0]⟩) (n := 12) ⟨_, rfl, rfl, rfl, fun a w => by go_simp⟩ (fun _ _ _ _ _ => ⟨fun h => h, fun h => h⟩) ES rfl (fun hAl hQ => ?_);refine Late.t 0 53 ?v_d hQ ?y_d ?_
   case y_d => intro w' hSw;have k00 := (b5.ext hSw).c2;have k10 := (b2.ext hSw).cell 0 _ rfl;go_simp;try rfl
   try simp only [zP]
   refine Late.t 1 54 ?v_e hQ ?y_e ?_
   case y_e => intro w' hSw;have k00 := (b5.ext hSw).c2;have k10 := (b2.ext hSw).cell 0 _ rfl;go_simp;try rfl
   try simp only [zP]
   refine Late.u 2 55 hQ ?_
   try simp only [zP]
   refine Late.t 3 56 ?v_g hQ ?y_g ?_
   case y_g => intro w' hSw;have k00 := (b5.ext hSw).c2;have k10 := (b2.ext hSw).cell 0 _ rfl;go_simp;try rfl
   try simp only [zP]
   refine Late.u 4 57 hQ ?_
   try simp only [zP]
   refine Late.u 5 58 hQ ?_
   try simp only [zP]
   refine Late.callN (i := 6) rfl (by kernel_rfl) hAl (by kernel_rfl) (by kernel_rfl) (by kernel_rfl) hQ (fun w6 e6 E6 K hK => ?_);go_simp
   (go_at_call 66; refine (p_splitT ((hb.take hPm).ext (EW.trans E6)) (hfp.ext E6) rfl HG3.out rfl (by have := HFW.out; omega) (by have := HFW.out; omega) hP0 (by omega) (Nat.lt_of_lt_of_le HDB.out (Nat.pow_le_pow_right (by omega) (Nat.le_succ _))) (by have := HFW.out; omega) (by omega) (hT.ext (EW.trans E6))).mono ?_; rintro e wk6 ⟨j6, s8, B8, m8, d8, rfl, hj6, hz, hy, hx6⟩)
   refine hK.out _ _ hx6 ?_;clear hK K
   try simp only [zP]
   refine LateN.take (i := 7) (d := some 52) (v := ?v_j) rfl rfl (by kernel_rfl) (by kernel_rfl) (by kernel_rfl) (by kernel_rfl) hQ (Or.inl ⟨by rfl, ?y_j⟩) ?r_j
   case y_j => intro w' hSw;have k00 := (b5.ext hSw).c2;have k10 := (b2.ext hSw).cell 0 _ rfl;go_simp;try rfl
   try simp only [zP]
   refine LateN.take (i := 8) (d := some 60) (v := ?v_k) rfl rfl (by kernel_rfl) (by kernel_rfl) (by kernel_rfl) (by kernel_rfl) hQ (Or.inl ⟨by rfl, ?y_k⟩) ?r_k
   case y_k => intro w' hSw;have k00 := (b5.ext hSw).c2;have k10 := (b2.ext hSw).cell 0 _ rfl;go_simp;try rfl
   try simp only [zP]
   refine LateN.take (i := 9) (d := some 61) (v := ?v_l) rfl rfl (by kernel_rfl) (by kernel_rfl) (by kernel_rfl) (by kernel_rfl) hQ (Or.inl ⟨by rfl, ?y_l⟩) ?r_l
   case y_l => intro w' hSw;have k00 := (b5.ext hSw).c2;have k10 := (b2.ext hSw).cell 0 _ rfl;go_simp;try rfl
   try simp only [zP]
   refine LateN.finish1 (fun g hg => Or.inr hg) (hAl _ (by simp)) (by kernel_rfl) (fun wz j5 ez Ez lg5 hN5 xb1 => ?_);clear hAl hQ ES;have p10 := xb1.cell 0 (Value.bool false) rfl;have p11 := xb1.cell 1 (Value.slice none 0 0) rfl;have f10 := xb1.frozen 0;have f11 := xb1.frozen 1;have e4 := fin_dual (s := s8) (A := B8) (n := m8) (c := d8) xb1
   try simp only [zP]
   refine wpAnyH_ready (rs := [11]) (by kernel_rfl) (by simp) (AllReadyH.cons rfl (fun K hK => ?_) AllReadyH.nil);go_simp;refine hK.out _ _ Ez (fun _ => ?_);clear hK K
   try simp only [zP]
   refine wpAnyH_ready (rs := [12]) (by kernel_rfl) (by simp) (AllReadyH.cons rfl (fun K hK => ?_) AllReadyH.nil);go_simp;refine hK.out _ _ (e4.2.2.1 _ Ez lg5) (fun _ => ?_);clear hK K
   try simp only [zP]
   have hlt6 := hz.lt hP0;have hne6 : j6 ≠ j5 := by omega
   refine any_world (fun U => Ext U9 U /\ Box U j5 28 #[.bool s8, .slice B8 m8 d8] /\ IPol U (some ⟨j6, 0, Option.none⟩) P P (numsP (partL (ps.take P) (ringR (ts.take N)).2)) (4 * (v2 + eF N) + 1 + 1 + (M + fS N) + 2) /\ NI U (((denP (partL (ps.take P) (ringR (ts.take N)).2) : Nat) : Int)) (4 * (v2 + eF N) + 1 + 1) s8 B8 m8 d8) ⟨e4.2.2.1 _ Ez lg5, e4.1, (hz.ext ez).set2 xb1 hne6, e4.2.1 _ _ _ _ _ _ (hy.ext ez)⟩ ?_;clear e4 p10 p11 f10 f11 xb1 hz hy hlt6 hne6 hj6 hN5 Ez ez lg5;rintro U10 ⟨EU10, b9, hzB, hyB⟩;refine wpAnyH_done (by kernel_rfl) ?_ _;replace hzB := hzB.tight HBB.out;replace hyB := hyB.tight' (M := 4 * (v2 + eF N) + 1) (by rw [Int.natAbs_natCast]; exact HDB.out);replace hir := hir.ext EU10;replace hfp := hfp.ext EU10;replace b1 := b1.ext EU10;replace b2 := b2.ext EU10;replace b5 := b5.ext EU10;replace b8 := b8.ext EU10;replace hzA := hzA.ext EU10;replace hyA := hyA.ext EU10;replace EW := EW.trans EU10;clear EU10
   go_wp2_with fail
   have ES0 := Ext.refl U10;refine wp_region_held_drew (S := Ext U10) (by kernel_rfl) ES0.drew (fun ES => ?_);clear ES0;refine Late.s0 ES (fun hAl hQ => ?_);refine Late.t 0 62 ?v_m hQ ?y_m ?_
   case y_m => intro w' hSw;have k00 := (b5.ext hSw).c2;have k10 := (b8.ext hSw).c2;have k20 := (b9.ext hSw).c2;have k30 := (b1.ext hSw).cell 0 _ rfl;go_simp;try rfl
   try simp only [zP]
   refine Late.t 1 63 ?v_n hQ ?y_n ?_
   case y_n => intro w' hSw;have k00 := (b5.ext hSw).c2;have k10 := (b8.ext hSw).c2;have k20 := (b9.ext hSw).c2;have k30 := (b1.ext hSw).cell 0 _ rfl;go_simp;try rfl
   try simp only [zP]
   refine Late.u 2 64 hQ ?_
   try simp only [zP]
   refine Late.u 3 65 hQ ?_
   try simp only [zP]
   refine Late.t 5 67 ?v_q hQ ?y_q ?_
   case y_q => intro w' hSw;have k00 := (b5.ext hSw).c2;have k10 := (b8.ext hSw).c2;have k20 := (b9.ext hSw).c2;have k30 := (b1.ext hSw).cell 0 _ rfl;go_simp;try rfl
   try simp only [zP]
   refine Late.t 6 68 ?v_r hQ ?y_r ?_
   case y_r => intro w' hSw;have k00 := (b5.ext hSw).c2;have k10 := (b8.ext hSw).c2;have k20 := (b9.ext hSw).c2;have k30 := (b1.ext hSw).cell 0 _ rfl;go_simp;try rfl
   try simp only [zP]
   refine Late.t 9 71 ?v_s hQ ?y_s ?_
   case y_s => intro w' hSw;have k00 := (b5.ext hSw).c2;have k10 := (b8.ext hSw).c2;have k20 := (b9.ext hSw).c2;have k30 := (b1.ext hSw).cell 0 _ rfl;go_simp;try rfl
   try simp only [zP]
   refine Late.u 10 72 hQ ?_
   try simp only [zP]
   refine Late.cl (i := 4) rfl hAl hQ (fun w4 e4 E4 K hK => ?_);go_simp
   (go_at_call 69; refine (p_timesT HG5.out (by omega) N (hir.ext E4) (hzA.ext E4) (hzB.ext E4) HP.out (Nat.le_refl _) (by have := HFW.out; omega)).mono ?_; rintro e wk4 ⟨A8, c8, rfl, hpr, _, hx4⟩)
   refine hK.out _ _ hx4 ?_;clear hK K
   try simp only [zP]
   refine Late.cl (i := 7) rfl hAl hQ (fun w7 e7 E7 K hK => ?_);go_simp
   (replace hpr := hpr.ext e7; go_at_call 70; refine (p_MulG (hyA.ext E7) (hyB.ext E7) (by have := HFW.out; omega) (by have := HFW.out; omega)).mono ?_; rintro e wk7 ⟨s9, A9, n9, c9, rfl, hdd, hx7⟩; replace hpr := hpr.ext hx7)
   refine hK.out _ _ hx7 ?_;clear hK K
   try simp only [zP]
   refine Late.cl (i := 8) rfl hAl hQ (fun w8 e8 E8 K hK => ?_);go_simp
   (replace hpr := hpr.ext e8; replace hdd := hdd.ext e8; go_at_call 68; refine (p_joinT (hpr.tight HPV.out) (hfp.ext E8) (Nat.le_refl _) (by omega) hdd HD0.out (by have := HFW.out; omega) (by have := HFW.out; omega) (by omega) (hT.ext (EW.trans E8))).mono ?_; rintro e wk8 ⟨g8, rfl, hg8, hjr, hjl, hx8⟩; replace hpr := hpr.ext hx8; replace hdd := hdd.ext hx8)
   refine hK.out _ _ hx8 ?_;clear hK K
   try simp only [zP]
   refine Late.cl (i := 11) rfl hAl hQ (fun w11 e11 E11 K hK => ?_);go_simp
   (replace hpr := hpr.ext e11; replace hdd := hdd.ext e11; replace hjr := hjr.ext e11; go_at_call 67; refine (p_liftT hjr hjl hP0 hPm (by omega) (by have := HFW.out; omega)).mono ?_; rintro e wk11 ⟨A10, c10, rfl, hli, hx11⟩; replace hpr := hpr.ext hx11; replace hdd := hdd.ext hx11; replace hjr := hjr.ext hx11)
   refine hK.out _ _ hx11 ?_;clear hK K
   try simp only [zP]
   refine Late.u 12 6 hQ ?_
   try simp only [zP]
   refine Late.d0 (fun wz ez Ez => ?_);clear hAl hQ ES
   go_wp2_with fail
   go_ret
   rw [<- HV2.out];exact ⟨_, _, _, rfl, (hli.ext ez).le (by have := HFW.out; omega), EW.trans Ez⟩
end
def okInv (n u v : Nat) : Prop := ∀ h, h <= n -> okI h (u + (v + eF h)) /\ 4 * iE h (u + (v + eF h)) + 4 * (v + eF h) + 160 <= 29000 /\ 4 * iP h (u + (v + eF h)) <= 29000
def invT (ts : List (List Rat)) (n h : Nat) (qs : List Rat) : Option (List Rat) :=
 if (invL (radI (ringR (ts.take h)).1) h (numsP (partL (qs.take (2 ^ h)) (ringR (ts.take h)).2))).2 = 0 then Option.none
 else some (List.zipWith (fun z f : Int => mkQ (z * f) (invL (radI (ringR (ts.take h)).1) h (numsP (partL (qs.take (2 ^ h)) (ringR (ts.take h)).2))).2) ((invL (radI (ringR (ts.take h)).1) h (numsP (partL (qs.take (2 ^ h)) (ringR (ts.take h)).2))).1.map (· * ((denP (partL (qs.take (2 ^ h)) (ringR (ts.take h)).2) : Nat) : Int))) (ringR (ts.take h)).2 ++ List.replicate (2 ^ n - 2 ^ h) 0)
theorem invT_eq (ts : List (List Rat)) (n h : Nat) (qs : List Rat) : invT ts n h qs =
 if (invL (radI (ringR (ts.take h)).1) h (numsP (partL (qs.take (2 ^ h)) (ringR (ts.take h)).2))).2 = 0 then Option.none
 else some (List.zipWith (fun z f : Int => mkQ (z * f) (invL (radI (ringR (ts.take h)).1) h (numsP (partL (qs.take (2 ^ h)) (ringR (ts.take h)).2))).2) ((invL (radI (ringR (ts.take h)).1) h (numsP (partL (qs.take (2 ^ h)) (ringR (ts.take h)).2))).1.map (· * ((denP (partL (qs.take (2 ^ h)) (ringR (ts.take h)).2) : Nat) : Int))) (ringR (ts.take h)).2 ++ List.replicate (2 ^ n - 2 ^ h) 0) := rfl
def RetInvT (o : Option (List Rat)) (m L : Nat) (w : World) (e : Ending) (w' : World) : Prop :=
 match o with
 | Option.none => e = .returned (.tuple #[.slice Option.none 0 0, .int .i64 6]) /\ Ext w w'
 | some os => ∃ A c, e = .returned (.tuple #[.slice A m c, .int .i64 0]) /\ Pol w' A m c os L /\ Ext w w'
section
variable {w : World} {A B : Option Addr} {n c m d L u v : Nat} {ts : List (List Rat)} {qs : List Rat}
set_option maxRecDepth 100000 in
theorem p_InvT (hp : PolT w A n c ts 4) (ht : TowL ts) (hs : ∀ r ∈ ts, ∀ q ∈ r, SmQ q) (hn4 : n <= 4) (ha : Pol w B m d qs L) (hm : m = 2 ^ n) (hL : L <= 400) (hqs : BdQ u v qs) (hok : okInv n u v) (hT : Tab w) :
  Calls Tryz.prog 26 #[.slice A n c, .slice B m d] w (fun e w' => ∃ h, h <= n /\ zeroB (qs.drop (2 ^ h)) = true /\ (∀ j, j < h -> zeroB (qs.drop (2 ^ j)) = false) /\ RetInvT (invT ts n h qs) m 30000 w e w') := by
 have hTL := hp.len;have hm16 : m <= 16 := by rw [hm]; exact (m_few n (by omega)).2.2.2.2.2.2
 have HM := Lib.hid hm;have HTL := Lib.hid hTL;have hm0 : 0 < m := by rw [hm]; exact Nat.pow_pos (by omega)
 have hcapn := hp.cap;have hcapa := ha.cap;clear hm hTL;have hnb := Box.new w 23 #[.slice B m d];have q1 := (Ext.refl w).alloc (.cells #[.slice B m d] 23)
 go_enter Tryz.func26, Tryz.ntmps26
 go_wp2_with fail
 refine (p_formed1 (L := 400) ((hp.le (by omega)).ext q1) ht hnb ((ha.le hL).ext q1) HM.out (by omega) (by omega) (hT.ext q1)).mono ?_;rintro e V ⟨rfl, hxt⟩;have EW := q1.trans hxt;clear hnb q1 hxt
 go_wp2_with fail
 refine (p_heightT (ha.ext EW) HM.out (by omega) (by omega)).mono ?_;rintro e V1 ⟨h, hh, rfl, zh, mh, hx1⟩;replace EW := EW.trans hx1;clear hx1;have hhc : (h : Int) <= (c : Int) := by omega
 have hhc2 : h <= c := by omega
 have hbd := split_bd (take_TowL ht h) (fun r hr => hs r (List.mem_of_mem_take hr)) (hqs.take (2 ^ h));have e3 : (ts.take h).length = h := by rw [List.length_take]; have := HTL.out; omega
 rw [e3] at hbd;have hG := ringR_take ht h (by rw [HTL.out]; exact hh);have hfw := m_few h (by omega);have hd1 := denP_pos (partL (qs.take (2 ^ h)) (ringR (ts.take h)).2);have HPm := Lib.hid (show 2 ^ h <= m by rw [HM.out]; exact Nat.pow_le_pow_right (by omega) hh);have HZ := Lib.hid (And.intro hh (And.intro zh mh));have HOK := Lib.hid (hok h hh)
 have hLN : (numsP (partL (qs.take (2 ^ h)) (ringR (ts.take h)).2)).length = 2 ^ h := by
  rw [numsP_len];unfold partL;rw [List.length_zipWith, hG.2.1, List.length_take, ha.len];have := HPm.out;omega
 have HIT := Lib.hid (invT_eq ts n h qs);obtain ⟨r, hr⟩ : ∃ r, r = invL (radI (ringR (ts.take h)).1) h (numsP (partL (qs.take (2 ^ h)) (ringR (ts.take h)).2)) := ⟨_, rfl⟩;have hrl := invL_len (radI (ringR (ts.take h)).1) h (numsP (partL (qs.take (2 ^ h)) (ringR (ts.take h)).2));have hit := HIT.out;clear HIT;rw [<- hr] at hit hrl;obtain ⟨P, hP⟩ : ∃ P, P = 2 ^ h := ⟨_, rfl⟩;rw [<- hP] at hbd hfw hd1 hr hLN hit hrl;rw [<- HM.out] at hit;have hPm : P <= m := by rw [hP]; exact HPm.out
 have hP0 : 0 < P := by rw [hP]; exact Nat.pow_pos (by omega)
 have hW3 : IntKind.i64.wrap ((2 : Int) ^ h) = (P : Int) := by
  have e1 : ((2 : Int) ^ h) = ((2 ^ h : Nat) : Int) := by push_cast; rfl
  rw [e1, <- hP];exact IntWalk.i64_in _ (by omega)
 have HP := Lib.hid hP;have hPd : (P : Int) <= (d : Int) := by omega
 have hPd2 : P <= d := by omega
 have HBA := Lib.hid (W4_abs hbd.1);have HDA := Lib.hid (W4_words hbd.2);have HAA := Lib.hid hbd.1;have HG3 := Lib.hid hG.2.2.1;have HG5 := Lib.hid hG.2.2.2.2;have HFW := Lib.hid hfw;have HIT := Lib.hid hit;have HIL0 := Lib.hid hrl;have HR := Lib.hid hr;clear hbd hd1 hG hfw hP zh mh hLN hit hrl hr e3
 go_wp2_with fail
 refine (p_ringOf (n := h) ((hp.ext EW).take hh) (take_TowL ht h) (fun r hr => hs r (List.mem_of_mem_take hr)) (by omega) (hT.ext EW)).mono ?_;rintro e V2 ⟨Ar, cr, Af, cf, rfl, hir, hfp, hx1⟩;rw [<- HP.out] at hfp
 go_upto_region 5 with (fail)
 rw [show (2 : Nat) ^ h = P from HP.out.symm];obtain ⟨V3, hV3, ex3, b7, hz3⟩ := box1 V2 72 #[.slice Ar h cr, .slice Af P cf];rw [<- hV3];clear hV3 hz3;replace hir := hir.ext ex3;replace hfp := hfp.ext ex3;replace EW := EW.trans (hx1.trans ex3);clear ex3 hx1;have ES0 := Ext.refl V3;refine wp_region_held_drew (S := Ext V3) (by kernel_rfl) ES0.drew (fun ES => ?_);clear ES0;refine Late.start1 (x := ⟨9, 9, 28, #[Value.bool false, Value.slice none 0 0]⟩) (n := 11) ⟨_, rfl, rfl, rfl, fun a w => by go_simp⟩ (fun _ _ _ _ _ => ⟨fun h => h, fun h => h⟩) ES rfl (fun hAl hQ => ?_);refine Late.t 0 24 ?v_0 hQ ?y_0 ?_
 case y_0 => intro w' hSw;have k00 := (b7.ext hSw).c2;go_simp;try rfl
 try simp only [zP]
 refine Late.u 1 25 hQ ?_
 try simp only [zP]
 refine Late.u 2 26 hQ ?_
 try simp only [zP]
 refine Late.u 3 27 hQ ?_
 try simp only [zP]
 refine Late.u 4 28 hQ ?_
 try simp only [zP]
 refine Late.callN (i := 5) rfl (by kernel_rfl) hAl (by kernel_rfl) (by kernel_rfl) (by kernel_rfl) hQ (fun w5 e5 E5 K hK => ?_);go_simp
 (go_at_call 66; refine (p_splitT (((ha.le hL).take hPm).ext (EW.trans E5)) (hfp.ext E5) rfl HG3.out rfl (by have := HFW.out; omega) (by omega) hP0 (by omega) (Nat.lt_of_lt_of_le HDA.out (Nat.pow_le_pow_right (by omega) (Nat.le_succ _))) (by have := HOK.out; omega) (by omega) (hT.ext (EW.trans E5))).mono ?_; rintro e wk5 ⟨g6, s7, B7, m7, d7, rfl, hg6, hz, hy, hx5⟩)
 refine hK.out _ _ hx5 ?_;clear hK K
 try simp only [zP]
 refine LateN.take (i := 6) (d := some 23) (v := ?v_5) rfl rfl (by kernel_rfl) (by kernel_rfl) (by kernel_rfl) (by kernel_rfl) hQ (Or.inl ⟨by rfl, ?y_5⟩) ?r_5
 case y_5 => intro w' hSw;have k00 := (b7.ext hSw).c2;go_simp;try rfl
 try simp only [zP]
 refine LateN.take (i := 7) (d := some 30) (v := ?v_6) rfl rfl (by kernel_rfl) (by kernel_rfl) (by kernel_rfl) (by kernel_rfl) hQ (Or.inl ⟨by rfl, ?y_6⟩) ?r_6
 case y_6 => intro w' hSw;have k00 := (b7.ext hSw).c2;go_simp;try rfl
 try simp only [zP]
 refine LateN.take (i := 8) (d := some 31) (v := ?v_7) rfl rfl (by kernel_rfl) (by kernel_rfl) (by kernel_rfl) (by kernel_rfl) hQ (Or.inl ⟨by rfl, ?y_7⟩) ?r_7
 case y_7 => intro w' hSw;have k00 := (b7.ext hSw).c2;go_simp;try rfl
 try simp only [zP]
 refine LateN.finish1 (fun g hg => Or.inr hg) (hAl _ (by simp)) (by kernel_rfl) (fun wz g5 ez Ez lg5 hN5 xb1 => ?_);clear hAl hQ ES;have p10 := xb1.cell 0 (Value.bool false) rfl;have p11 := xb1.cell 1 (Value.slice none 0 0) rfl;have f10 := xb1.frozen 0;have f11 := xb1.frozen 1;have e4 := fin_dual (s := s7) (A := B7) (n := m7) (c := d7) xb1
 try simp only [zP]
 refine wpAnyH_ready (rs := [10]) (by kernel_rfl) (by simp) (AllReadyH.cons rfl (fun K hK => ?_) AllReadyH.nil);go_simp;refine hK.out _ _ Ez (fun _ => ?_);clear hK K
 try simp only [zP]
 refine wpAnyH_ready (rs := [11]) (by kernel_rfl) (by simp) (AllReadyH.cons rfl (fun K hK => ?_) AllReadyH.nil);go_simp;refine hK.out _ _ (e4.2.2.1 _ Ez lg5) (fun _ => ?_);clear hK K
 try simp only [zP]
 have hlt6 := hz.lt hP0;have hne6 : g6 ≠ g5 := by omega
 refine any_world (fun U => Ext V3 U /\ Box U g5 28 #[.bool s7, .slice B7 m7 d7] /\ IPol U (some ⟨g6, 0, Option.none⟩) P P (numsP (partL (qs.take P) (ringR (ts.take h)).2)) (4 * (v + eF h) + 1 + 1 + (400 + fS h) + 2) /\ NI U (((denP (partL (qs.take P) (ringR (ts.take h)).2) : Nat) : Int)) (4 * (v + eF h) + 1 + 1) s7 B7 m7 d7) ⟨e4.2.2.1 _ Ez lg5, e4.1, (hz.ext ez).set2 xb1 hne6, e4.2.1 _ _ _ _ _ _ (hy.ext ez)⟩ ?_;clear e4 p10 p11 f10 f11 xb1 hz hy hlt6 hne6 hg6 hN5 Ez ez lg5;rintro U9 ⟨EU9, b8, hzA, hyA⟩;refine wpAnyH_done (by kernel_rfl) ?_ _;replace hzA := hzA.tight HBA.out;replace hyA := hyA.tight' (M := 4 * (v + eF h) + 1) (by rw [Int.natAbs_natCast]; exact HDA.out);replace hir := hir.ext EU9;replace hfp := hfp.ext EU9;replace b7 := b7.ext EU9;replace EW := EW.trans EU9;clear EU9;have x0 := b7.cell 0 (.slice Ar h cr) rfl;have x1 := b7.cell 1 (.slice Af P cf) rfl
 go_wp2_with fail
 refine (p_inverseT (take_TowL ht h) (fun r hr => hs r (List.mem_of_mem_take hr)) HG5.out (by omega) h (e := u + (v + eF h)) hir hzA HP.out (Nat.le_refl _) rfl HOK.out.1 HAA.out (hT.ext EW)).mono ?_;rintro ee V4 ⟨A7, n7, c7, s9, B9, m9, d9, rfl, hrw, hpp, hx4⟩;rw [<- HR.out] at hrw hpp;clear x0 x1
 go_upto_region 7 with (fail)
 obtain ⟨V5, hV5, ex5, b9, hz5⟩ := box1 V4 28 #[.bool s9, .slice B9 m9 d9];rw [<- hV5];generalize V4.heap.size = gp at b9 ⊢;clear hV5 hz5;obtain ⟨_, _, _, hv7, hiv⟩ := hrw.pol
 injection hv7 with w1 w2 w3
 subst w1 w2 w3;clear hrw;replace hiv := hiv.ext ex5;replace hpp := hpp.ext ex5;replace hx4 := hx4.trans ex5;replace hir := hir.ext hx4;replace hfp := hfp.ext hx4;replace b7 := b7.ext hx4;replace b8 := b8.ext hx4;replace hyA := hyA.ext hx4;replace EW := EW.trans hx4;clear hx4 ex5;have y0 := b9.cell 0 (.bool s9) rfl;have y1 := b9.cell 1 (.slice B9 m9 d9) rfl
 by_cases hp0 : r.2 = 0
 ·have HS := Lib.hid (show r.2.sign = 0 by rw [hp0]; rfl)
  have hit := HIT.out;rw [if_pos hp0] at hit;have HI0 := Lib.hid hit;clear hp0 hit
  go_wp2_with fail
  refine (p_Sign hpp (by have := HOK.out; omega)).mono ?_;rintro ee Vb ⟨rfl, hxb⟩;rw [HS.out]
  go_wp2_with fail
  refine bodyPost_ret (v := .tuple #[.slice Option.none 0 0, .int .i64 6]) (by simp [results, Tryz.results26, go_sem]) rfl ⟨h, HZ.out.1, HZ.out.2.1, HZ.out.2.2, ?_⟩;rw [HI0.out];exact ⟨rfl, EW.trans hxb⟩
 ·obtain ⟨S2, hS2, dS2⟩ : ∃ S, r.2.sign = S /\ (S == 0) = false := ⟨_, rfl, beq_eq_false_iff_ne.2 (fun e => hp0 (Int.sign_eq_zero_iff_zero.1 e))⟩
  have HS2 := Lib.hid hS2;have Hp0 := Lib.hid hp0;have hit := HIT.out;rw [if_neg hp0] at hit;have HI0 := Lib.hid hit;have HIL := Lib.hid HIL0.out.1;have HIL2 := Lib.hid (And.intro (HIL0.out.2 hp0) (And.intro hP0 hPm));obtain rfl : n7 = P := by rw [<- hiv.len]; exact HIL0.out.2 hp0
  clear hS2 hp0 hit
  go_wp2_with fail
  refine (p_Sign hpp (by have := HOK.out; omega)).mono ?_;rintro ee Vb ⟨rfl, hxb⟩;rw [HS2.out];clear y0 y1;replace hir := hir.ext hxb;replace hfp := hfp.ext hxb;replace b7 := b7.ext hxb;replace b8 := b8.ext hxb;replace b9 := b9.ext hxb;replace hyA := hyA.ext hxb;replace hiv := hiv.ext hxb;replace hpp := hpp.ext hxb;replace EW := EW.trans hxb;clear hxb;have hn16 : n7 <= 16 := HFW.out.2.2.2.2.2.2
  go_wp2_with fail
  have ES0 := Ext.refl Vb;refine wp_region_held_drew (S := Ext Vb) (by kernel_rfl) ES0.drew (fun ES => ?_);clear ES0;refine Late.s0 ES (fun hAl hQ => ?_);refine Late.t 0 41 ?v_8 hQ ?y_8 ?_
  case y_8 => intro w' hSw;have k00 := (b7.ext hSw).c2;have k10 := (b8.ext hSw).c2;have k20 := (b9.ext hSw).c2;go_simp;try rfl
  try simp only [zP]
  refine Late.u 1 42 hQ ?_
  try simp only [zP]
  refine Late.t 2 43 ?v_a hQ ?y_a ?_
  case y_a => intro w' hSw;have k00 := (b7.ext hSw).c2;have k10 := (b8.ext hSw).c2;have k20 := (b9.ext hSw).c2;go_simp;try rfl
  try simp only [zP]
  refine Late.t 4 45 ?v_b hQ ?y_b ?_
  case y_b => intro w' hSw;have k00 := (b7.ext hSw).c2;have k10 := (b8.ext hSw).c2;have k20 := (b9.ext hSw).c2;go_simp;try rfl
  try simp only [zP]
  refine Late.u 6 47 hQ ?_
  try simp only [zP]
  refine Late.u 7 48 hQ ?_
  try simp only [zP]
  refine Late.cl (i := 3) rfl hAl hQ (fun w3 e3 E3 K hK => ?_);go_simp
  (go_at_call 73; refine (p_multipleT (hiv.ext E3) (hyA.ext E3) (by have := HOK.out; omega) (by have := HOK.out; omega) (by have := HOK.out; omega) (by omega)).mono ?_; rintro e wk3 ⟨A8, n8, c8, rfl, hmu, hx3⟩)
  refine hK.out _ _ hx3 ?_;clear hK K
  try simp only [zP]
  refine Late.cl (i := 5) rfl hAl hQ (fun w5 e5 E5 K hK => ?_);go_simp
  (replace hmu := hmu.ext e5; go_at_call 68; refine (p_joinT hmu (hfp.ext E5) (by rw [<- hmu.len, List.length_map]; exact HIL.out) (by omega) (hpp.ext E5) Hp0.out (by have := HOK.out; have := HFW.out; omega) (by have := HOK.out; omega) (by rw [<- hmu.len, List.length_map]; have := HIL.out; omega) (hT.ext (EW.trans E5))).mono ?_; rintro e wk5 ⟨g8, rfl, hg8, hjr, hjl, hx5⟩; replace hmu := hmu.ext hx5)
  refine hK.out _ _ hx5 ?_;clear hK K
  try simp only [zP]
  refine Late.cl (i := 8) rfl hAl hQ (fun w8 e8 E8 K hK => ?_);go_simp
  (replace hmu := hmu.ext e8; replace hjr := hjr.ext e8; go_at_call 67; refine (p_liftT hjr hjl (by rw [<- hmu.len, List.length_map]; have := HIL2.out; omega) (by rw [<- hmu.len, List.length_map]; have := HIL2.out; omega) (by omega) (by have := HFW.out; omega)).mono ?_; rintro e wk8 ⟨A10, c10, rfl, hli, hx8⟩; replace hmu := hmu.ext hx8; replace hjr := hjr.ext hx8)
  refine hK.out _ _ hx8 ?_;clear hK K
  try simp only [zP]
  refine Late.u 9 4 hQ ?_
  try simp only [zP]
  refine Late.u 10 5 hQ ?_
  try simp only [zP]
  refine Late.d0 (fun wz ez Ez => ?_);clear hAl hQ ES
  go_wp2_with fail
  refine bodyPost_ret (v := .tuple #[.slice A10 m c10, .int .i64 0]) (by simp [results, Tryz.results26, go_sem]) rfl ⟨h, HZ.out.1, HZ.out.2.1, HZ.out.2.2, ?_⟩;rw [HI0.out];have hn8 : n8 = n7 := by rw [<- hmu.len, List.length_map]; exact HIL2.out.1
  rw [hn8] at hli;exact ⟨_, _, rfl, (hli.ext ez).le (by have := HOK.out; have := HFW.out; omega), EW.trans Ez⟩
end
section
variable {w w' : World} {q x : Rat} {L M : Nat} {s t : Bool} {A B : Option Addr} {n c m d : Nat} {sx tx : Bool} {Ax Bx : Option Addr} {nx cx mx dx : Nat} {qs ps : List Rat} {rs : List RawR} {ts us : List (List RawR)}
theorem fewL_step {ts : List (List RawR)} {i : Nat} (hi : i < ts.length) (h : fewL (ts.take i) = true) : fewL (ts.take (i + 1)) = (decide (ts[i].length <= 16) && ts[i].all fun r => r.le 4) := by
 unfold fewL at h ⊢;rw [List.take_succ_eq_append_getElem hi, List.all_append, h];simp
theorem fewL_stop {ts : List (List RawR)} {i : Nat} (hi : i < ts.length) (h : (decide (ts[i].length <= 16) && ts[i].all fun r => r.le 4) = false) : fewL ts = false := by
 unfold fewL;rw [List.all_eq_false];exact ⟨ts[i], List.getElem_mem hi, by rw [h]; simp⟩
set_option maxRecDepth 100000 in
theorem q_FewT (h : RawT w A n c ts) (h' : RawT w B m d us) (hm : m <= 100) : Calls Tryz.prog 12 #[.slice A n c, .slice B m d] w fun e w' => e = .returned (.bool (fewB4 ts us)) /\ Ext w w' := by
 by_cases h4 : n <= 4
 ·have hfb : fewB4 ts us = fewL (ts ++ us) := by unfold fewB4; rw [h.len, decide_eq_true h4, Bool.true_and]
  rw [hfb];clear hfb;have g1 : decide ((4 : Int) < (n : Int)) = false := decide_eq_false (by omega);have hrow0 : RowW (w.alloc (.cells #[] 23)) w.heap.size (.slice (some ⟨w.heap.size, 0, Option.none⟩) 0 0) [] := RowW.empty (Box.new w _ _) (Nat.le_refl _);have hx0 : Ext w (w.alloc (.cells #[] 23)) := (Ext.refl w).alloc _
  go_enter Tryz.func12, Tryz.ntmps12
  go_wp2_with (first | (at_builtin; refine wpList_append_raws rfl _ _ rfl rfl rfl hrow0 (h.ext hx0) (by simp) (by omega) hx0.size hx0 (Nat.le_refl _) ?_; intro v1 w1 hrow1 hgr1 hext1) | (at_builtin; refine wpList_append_raws rfl _ _ rfl rfl rfl hrow1 (h'.ext hext1) (by rw [List.nil_append, h.len]; omega) (by omega) hext1.size hext1 (Nat.le_refl _) ?_; intro v2 w2 hrow2 hgr2 hext2; obtain ⟨A2, n2, c2, rfl, hT2⟩ := hrow2.rawT))
  rw [List.nil_append] at hT2;have hlen2 : n2 = n + m := by rw [<- hT2.len, List.length_append, h.len, h'.len]
  have Hlen := Lib.hid hT2.len;have hn2 : n2 <= 1000 := by omega
  clear hrow0 hrow1 hrow2 hgr1 hgr2 hext1 hx0 hlen2;obtain ⟨xs, hxs⟩ : ∃ xs, ts ++ us = xs := ⟨_, rfl⟩;rw [hxs] at hT2 Hlen;have HXS := Lib.hid hxs;clear hxs
  go_loopw [18] (fun i wr => ∃ k : Nat, k <= n2 /\ i = .int .i64 (k : Int) /\ Ext w2 wr /\ fewL (xs.take k) = true) (fun i _ => n2 - (intOf i).toNat)
  case atStart => exact ⟨0, by omega, rfl, Ext.refl _, rfl⟩
  case round =>
   obtain ⟨k, hk, rfl, ext, hall⟩ := hrel
   rename World => wo
   have HA := Lib.hid hall;clear hall
   by_cases hlt : k < n2
   ·have hj : k < xs.length := by rw [Hlen.out]; exact hlt
    have hI : (k : Int) < (n2 : Int) := by omega
    obtain ⟨p, off, rfl, hr0⟩ := hT2.at_ (fun e => by rw [e] at hj; exact absurd hj (Nat.not_lt_zero _));obtain ⟨A', n', c', e0, hx⟩ := hr0 k hj;replace e0 := ext.cellv e0;replace hx := hx.ext ext;have HT := Lib.hid (fewL_step hj HA.out);have HM := Lib.hid (fun hf => fewL_stop hj hf);generalize xs[k] = l at hx HT HM;have Hl := Lib.hid hx.len
    by_cases h16 : n' <= 16
    ·have g2 : decide ((16 : Int) < (n' : Int)) = false := decide_eq_false (by omega)
     go_wp2_with fail
     go_loopw [27] (fun i wr => ∃ j : Nat, j <= n' /\ i = .int .i64 (j : Int) /\ Ext wo wr /\ (l.take j).all (fun r => r.le 4) = true) (fun i _ => n' - (intOf i).toNat)
     case atStart => exact ⟨0, by omega, rfl, Ext.refl _, by simp⟩
     case round =>
      obtain ⟨j, hjn, rfl, extj, hall⟩ := hrel;have HB := Lib.hid hall;clear hall
      by_cases hlj : j < n'
      ·have hjl : j < l.length := by rw [Hl.out]; exact hlj
       have hIj : (j : Int) < (n' : Int) := by omega
       obtain ⟨p2, off2, rfl, hr2⟩ := hx.at_ (fun e => by rw [e] at hjl; exact absurd hjl (Nat.not_lt_zero _));obtain ⟨Ax, nx, cx, Bx, mx, dx, e0, e1, e2, e3, hy, hz⟩ := (hr2 j hjl).ext extj;have HU := Lib.hid (show (l.take (j + 1)).all (fun r => r.le 4) = ((l.take j).all (fun r => r.le 4) && RawR.le l[j] 4) by rw [List.take_succ_eq_append_getElem hjl, List.all_append]; simp)
       have HV := Lib.hid (fun hf : RawR.le l[j] 4 = false => show (l.all fun r => r.le 4) = false by
        rw [List.all_eq_false];exact ⟨l[j], List.getElem_mem hjl, by rw [hf]; simp⟩)
       have hle : RawR.le l[j] 4 = (decide (nx <= 4) && decide (mx <= 4)) := by unfold RawR.le; rw [hy.len, hz.len]
       rw [hle] at HU HV;clear hle;generalize l[j] = r at e0 e1 e2 e3 hy hz;have e0' : wr.cell? ⟨p2, off2 + j * 4, none⟩ = some (.bool r.s) := by rw [Nat.mul_comm]; exact e0
       have e1' : wr.cell? ⟨p2, off2 + j * 4 + 1, none⟩ = some (.slice Ax nx cx) := by rw [Nat.mul_comm]; exact e1
       have e2' : wr.cell? ⟨p2, off2 + j * 4 + 2, none⟩ = some (.bool r.t) := by rw [Nat.mul_comm]; exact e2
       have e3' : wr.cell? ⟨p2, off2 + j * 4 + 3, none⟩ = some (.slice Bx mx dx) := by rw [Nat.mul_comm]; exact e3
       go_upto_region 11 with (fail)
       obtain ⟨W, hW, extW, bx, hzz⟩ := box1 wr 30 #[.bool r.s, .slice Ax nx cx, .bool r.t, .slice Bx mx dx];rw [<- hW];clear hW hzz;have x1 := bx.cell 1 (.slice Ax nx cx) rfl;have x3 := bx.cell 3 (.slice Bx mx dx) rfl;replace extj := extj.trans extW
       by_cases b1 : nx <= 4
       ·have d1 : decide ((4 : Int) < (nx : Int)) = false := decide_eq_false (by omega)
        by_cases b2 : mx <= 4
        ·have d2 : decide ((4 : Int) < (mx : Int)) = false := decide_eq_false (by omega)
         go_wp2_with fail
         go_roundw
         case rel => exact ⟨j + 1, by omega, by go_num, extj, by rw [HU.out, HB.out, decide_eq_true b1, decide_eq_true b2]; rfl⟩
         case measure => simp [intOf]; omega
        ·have d2 : decide ((4 : Int) < (mx : Int)) = true := decide_eq_true (by omega)
         go_wp2_with fail
         go_ret
         exact ⟨by rw [HXS.out, HM.out (by rw [HV.out (by rw [decide_eq_false b2, Bool.and_false]), Bool.and_false])]; rfl, hext2.trans (ext.trans extj)⟩
       ·have d1 : decide ((4 : Int) < (nx : Int)) = true := decide_eq_true (by omega)
        go_wp2_with fail
        go_ret
        exact ⟨by rw [HXS.out, HM.out (by rw [HV.out (by rw [decide_eq_false b1, Bool.false_and]), Bool.and_false])]; rfl, hext2.trans (ext.trans extj)⟩
      ·have hIj : (n' : Int) <= (j : Int) := by omega
       have hb := HB.out;rw [List.take_of_length_le (by rw [Hl.out]; omega)] at hb;have Hb := Lib.hid hb;clear hb
       go_wp2_with fail
       go_roundw
       case rel => exact ⟨k + 1, by omega, by go_num, ext.trans extj, by rw [HT.out, Hb.out, Hl.out, decide_eq_true h16]; rfl⟩
       case measure => simp [intOf]; omega
    ·have g2 : (16 : Int) < (n' : Int) := by omega
     go_wp2_with fail
     go_ret
     exact ⟨by rw [HXS.out, HM.out (by rw [Hl.out, decide_eq_false h16]; rfl)]; rfl, hext2.trans ext⟩
   ·have hI : (n2 : Int) <= (k : Int) := by omega
    have ha := HA.out;rw [List.take_of_length_le (by rw [Hlen.out]; omega)] at ha;have Ha := Lib.hid ha;clear ha
    go_wp2_with fail
    go_ret
    exact ⟨by rw [HXS.out, Ha.out]; rfl, hext2.trans ext⟩
 ·have hfb : fewB4 ts us = false := by unfold fewB4; rw [h.len, decide_eq_false h4]; rfl
  rw [hfb];clear hfb;have g1 : (4 : Int) < (n : Int) := by omega
  go_enter Tryz.func12, Tryz.ntmps12
  go_wp2_with fail
  go_ret
  exact ⟨rfl, Ext.refl _⟩
theorem le_1000 {l : List RawR} (h : l.all (fun r => r.le 4) = true) : l.all (fun r => r.le 1000) = true := by
 rw [List.all_eq_true] at h ⊢;intro r hr;have := h r hr;unfold RawR.le at this ⊢;simp only [Bool.and_eq_true, decide_eq_true_eq] at this ⊢;omega
end
def smT (q : Rat) : Bool := decide (q.num.natAbs < 4294967296 ^ 2) && decide (q.den < 4294967296 ^ 2)
theorem NR.tightR {w : World} {q : Rat} {L M : Nat} {s t : Bool} {A B : Option Addr} {n c m d : Nat} (h : NR w q L s A n c t B m d) (h1 : q.num.natAbs < 4294967296 ^ M) (h2 : q.den < 4294967296 ^ M) : NR w q M s A n c t B m d :=
 ⟨h.num.tight' h1, h.den.tight' (by rw [Int.natAbs_natCast]; exact h2)⟩
theorem Pol.tightG {w : World} {A : Option Addr} {n c L M : Nat} {qs : List Rat} (h : Pol w A n c qs L) (hb : ∀ q ∈ qs, q.num.natAbs < 4294967296 ^ M /\ q.den < 4294967296 ^ M) : Pol w A n c qs M := by
 refine ⟨h.len, h.cap, h.top, fun hq => ?_⟩;obtain ⟨b, off, h1, h2⟩ := h.at_ hq;refine ⟨b, off, h1, ⟨fun i hi => ?_⟩⟩;obtain ⟨s, A, n, c, t, B, m, d, e0, e1, e2, e3, hx⟩ := h2.at_ i hi;exact ⟨s, A, n, c, t, B, m, d, e0, e1, e2, e3, hx.tightR (hb _ (List.getElem_mem hi)).1 (hb _ (List.getElem_mem hi)).2⟩
theorem Pol.tightR {w : World} {A : Option Addr} {n c L : Nat} {qs : List Rat} (h : Pol w A n c qs L) (hb : qs.all smT = true) : Pol w A n c qs 2 := h.tightG fun q hq => by
 have := List.all_eq_true.1 hb q hq;unfold smT at this;rw [Bool.and_eq_true, decide_eq_true_eq, decide_eq_true_eq] at this;exact this
def Awake6 : Prop := ∀ w : World, Tab w -> Calls Tryz.prog 11 #[] w (fun e w' => e = .returned (.bool true) /\ Ext w w')
theorem list_c {w : World} (ws : List Int) (qs : List Rat) (hq : ws.map (fun x : Int => (x : Rat)) = qs) {n : Nat} (hl : ws.length = n) (hn : n <= 100) (hx : ∀ x ∈ ws, -9223372036854775808 <= x /\ x < 9223372036854775808) {cs : Array Value} (hc : (iv64 ws).toArray = cs) {g : Nat} (hg : w.heap.size = g) : Calls Tryz.prog 45 #[.slice (some ⟨g, 0, Option.none⟩) n n] (w.alloc (.cells cs 2)) (fun e w' => ∃ A c, e = .returned (.slice A n c) /\ Pol w' A n c qs 2 /\ Ext w w') := by
 subst hc hg;refine (p_listT (Box.new w _ _) hl hn hx).mono ?_;rintro e w' ⟨A, m, c, rfl, hp, hx⟩;rw [hq] at hp;have hm : m = n := by rw [<- hp.len, <- hq, List.length_map, hl]
 subst hm;exact ⟨A, c, rfl, hp, ((Ext.refl w).alloc _).trans hx⟩
theorem polT_one {w : World} {g n c L : Nat} {A : Option Addr} {qs : List Rat} (hb : Box w g 23 #[.slice A n c]) (h : Pol w A n c qs L) : PolT w (some ⟨g, 0, Option.none⟩) 1 1 [qs] L :=
 ⟨rfl, Nat.le_refl _, by unfold maxLen; omega, fun _ => ⟨g, 0, rfl, fun i hi => by
  simp only [List.length_singleton] at hi;have e : i = 0 := by omega
  subst e;exact ⟨A, n, c, hb.cell 0 _ rfl, h⟩⟩⟩
theorem polT_two {w : World} {g n c m d L : Nat} {A B : Option Addr} {qs ps : List Rat} (hb : Box w g 23 #[.slice A n c, .slice B m d]) (h : Pol w A n c qs L) (k : Pol w B m d ps L) : PolT w (some ⟨g, 0, Option.none⟩) 2 2 [qs, ps] L :=
 ⟨rfl, Nat.le_refl _, by unfold maxLen; omega, fun _ => ⟨g, 0, rfl, fun i hi => by
  simp only [List.length_cons, List.length_nil] at hi
  rcases (show i = 0 \/ i = 1 by omega) with rfl | rfl
  ·exact ⟨A, n, c, hb.cell 0 _ rfl, h⟩
  ·exact ⟨B, m, d, hb.cell 1 _ rfl, k⟩⟩⟩
theorem tow_1 (a : Rat) : TowL [[a]] := fun i hi => by
 simp only [List.length_singleton] at hi;have e : i = 0 := by omega
 subst e
 rfl
theorem tow_2 (a b c : Rat) : TowL [[a], [b, c]] := fun i hi => by
 simp only [List.length_cons, List.length_nil] at hi
 rcases (show i = 0 \/ i = 1 by omega) with rfl | rfl <;> rfl
def smB (q : Rat) : Bool := decide (q.num.natAbs <= W4) && decide (q.den <= W4)
theorem sm_of {q : Rat} (h : smB q = true) : SmQ q := by
 unfold smB at h;rw [Bool.and_eq_true, decide_eq_true_eq, decide_eq_true_eq] at h;exact h
theorem sm_all {qs : List Rat} (h : qs.all smB = true) : ∀ q ∈ qs, SmQ q := fun q hq => sm_of (List.all_eq_true.1 h q hq)
theorem sm_all2 {ts : List (List Rat)} (h : ts.all (fun l => l.all smB) = true) : ∀ r ∈ ts, ∀ q ∈ r, SmQ q := fun r hr => sm_all (List.all_eq_true.1 h r hr)
theorem ok_1 : okInv 1 1 2 := by
 intro h hh
 rcases (show h = 0 \/ h = 1 by omega) with rfl | rfl
 ·exact ⟨(show 4 * (1 + (2 + eF 0)) + 1 <= 29000 from by decide), by decide, by decide⟩
 ·exact ⟨⟨⟨by decide, by decide⟩, (show 4 * (1 + (2 + eF 1) + (1 + (2 + eF 1)) + eV (0 + 1)) + 1 <= 29000 from by decide)⟩, by decide, by decide⟩
theorem inv_c {w : World} {A B : Option Addr} {c d : Nat} {a b e : Rat} (os : Option (List Rat)) (hp : PolT w A 1 c [[a]] 2) (ha : Pol w B 2 d [b, e] 2) (h0 : ([a, b, e]).all smB = true) (he : e ≠ 0) (hi : invT [[a]] 1 1 [b, e] = os) (hT : Tab w) :
  Calls Tryz.prog 26 #[.slice A 1 c, .slice B 2 d] w (RetInvT os 2 30000 w) := by
 have hsm := sm_all h0;refine (p_InvT (u := 1) (v := 2) (hp.le (by omega)) (tow_1 a) (fun r hr q hq => by rw [List.mem_singleton.1 hr] at hq; rw [List.mem_singleton.1 hq]; exact hsm a (by simp)) (by omega) (ha.le (by omega)) rfl (Nat.le_refl _) (BdQ.sm (fun q hq => hsm q (List.mem_cons_of_mem _ hq)) (by simp)) ok_1 hT).mono ?_;rintro f w' ⟨h, h1, h2, h3, h4⟩
 have hh : h = 1 := by
  rcases (show h = 0 \/ h = 1 by omega) with rfl | rfl
  ·exfalso
   simp [zeroB] at h2;exact he h2
  ·rfl
 subst hh;rw [hi] at h4;exact h4
theorem inv_1 : invT [[2]] 1 1 [1, 1] = some [-1, 1] := by decide +kernel
theorem inv_2 : invT [[4]] 1 1 [2, -1] = Option.none := by decide +kernel
theorem mul_1 : mulL (radQ [[2]]) 1 [1, 1] [3, -2] = [-1, 1] := by decide +kernel
theorem con_0 : conjC (([[2], [1, 1]] : List (List Rat)).drop (0 + 1)) 0 = false := by decide +kernel
theorem con_1 : conjC (([[2], [1, 1]] : List (List Rat)).drop (1 + 1)) 1 = true := by decide +kernel
theorem flip_1 : flipL 1 [1, 2, 3, 4] = [1, 2, -3, -4] := by decide +kernel
theorem root_1 : ((List.replicate (2 ^ 2) (0 : Rat)).set (2 ^ 1) 1) = [0, 0, 1, 0] := by decide +kernel
theorem conj_0 {w : World} {T B : Option Addr} {c d : Nat} (hp : PolT w T 2 c [[2], [1, 1]] 2) (hq : Pol w B 4 d [1, 2, 3, 4] 2) (hT : Tab w) : Calls Tryz.prog 27 #[.slice T 2 c, .slice B 4 d, .int .i64 0] w (fun e w' => e = .returned (.tuple #[.slice Option.none 0 0, .bool false]) /\ Ext w w') := by
 have h := p_ConjT (i0 := 0) hp (tow_2 _ _ _) hq rfl (by omega) (by omega) (by omega) (by omega) hT;rw [con_0] at h;exact h
theorem conj_1 {w : World} {T B : Option Addr} {c d : Nat} (hp : PolT w T 2 c [[2], [1, 1]] 2) (hq : Pol w B 4 d [1, 2, 3, 4] 2) (hT : Tab w) : Calls Tryz.prog 27 #[.slice T 2 c, .slice B 4 d, .int .i64 1] w (fun e w' => ∃ A n c, e = .returned (.tuple #[.slice A n c, .bool true]) /\ Pol w' A n c [1, 2, -3, -4] 2 /\ Ext w w') := by
 have h := p_ConjT (i0 := 1) hp (tow_2 _ _ _) hq rfl (by omega) (by omega) (by omega) (by omega) hT;rw [con_1, flip_1] at h;exact h
theorem mul_c {w : World} {A B D : Option Addr} {c d e0 : Nat} (hp : PolT w A 1 c [[2]] 2) (ha : Pol w B 2 d [1, 1] 2) (hb : Pol w D 2 e0 [3, -2] 2) (hT : Tab w) :
  Calls Tryz.prog 23 #[.slice A 1 c, .slice B 2 d, .slice D 2 e0] w (RetPol [-1, 1] 2 w) := by
 refine (p_MulT (u1 := 1) (v1 := 2) (u2 := 1) (v2 := 2) (hp.le (by omega)) (tow_1 _) (sm_all2 (by decide +kernel)) (by omega) ha rfl hb rfl (by omega) (by omega) (by omega) (BdQ.sm (sm_all (by decide +kernel)) (by simp)) (BdQ.sm (sm_all (by decide +kernel)) (by simp)) (by omega) hT).mono ?_;rintro e w' ⟨A', n', c', rfl, h1, h2⟩;rw [mul_1] at h1;exact ⟨A', n', c', rfl, h1.tightR (by decide +kernel), h2⟩
theorem root_c {w : World} {A : Option Addr} {c : Nat} (hp : PolT w A 2 c [[2], [1, 1]] 2) (hT : Tab w) : Calls Tryz.prog 24 #[.slice A 2 c, .int .i64 1] w (RetPol [0, 0, 1, 0] 2 w) := by
 have h := p_RootT hp (tow_2 _ _ _) 1 (by omega) (by omega) (by omega) hT;rw [root_1] at h;exact h
set_option maxRecDepth 100000 in
theorem awake6 : Awake6 := by
 intro w hT;have EW := Ext.refl w
 go_enter Tryz.func11, Tryz.ntmps11
 go_wp2_with fail
 refine (list_c (n := 1) [2] [2] (by decide +kernel) rfl (by omega) (by decide) rfl (rfl)).mono ?_;rintro e V1 ⟨Ap1, cp1, rfl, p1, x⟩;replace EW := EW.trans x;clear x
 go_wp2_with fail
 refine (list_c (n := 1) [2] [2] (by decide +kernel) rfl (by omega) (by decide) rfl (World.size_alloc _ _)).mono ?_;rintro e V2 ⟨Ap2, cp2, rfl, p2, x⟩;have y := ((Ext.refl V1).alloc (.cells #[.slice Ap1 1 cp1] 23)).trans x;have T1 := polT_one ((Box.new V1 23 #[.slice Ap1 1 cp1]).ext x) (p1.ext y);replace p1 := p1.ext y;replace EW := EW.trans y;clear y x;clear p1
 go_wp2_with fail
 refine (list_c (n := 2) [1, 1] [1, 1] (by decide +kernel) rfl (by omega) (by decide) rfl (rfl)).mono ?_;rintro e V3 ⟨Ap3, cp3, rfl, p3, x⟩;replace T1 := T1.ext x;replace p2 := p2.ext x;replace EW := EW.trans x;clear x
 go_wp2_with fail
 refine (list_c (n := 2) [1, 1] [1, 1] (by decide +kernel) rfl (by omega) (by decide) rfl (World.size_alloc _ _)).mono ?_;rintro e V4 ⟨Ap4, cp4, rfl, p4, x⟩;have y := ((Ext.refl V3).alloc (.cells #[.slice Ap2 1 cp2, .slice Ap3 2 cp3] 23)).trans x;have T2 := polT_two ((Box.new V3 23 #[.slice Ap2 1 cp2, .slice Ap3 2 cp3]).ext x) (p2.ext y) (p3.ext y);replace T1 := T1.ext y;replace p2 := p2.ext y;replace p3 := p3.ext y;replace EW := EW.trans y;clear y x;clear p2;clear p3
 go_wp2_with fail
 refine (inv_c _ T1 p4 (by decide +kernel) (by decide +kernel) inv_1 (hT.ext EW)).mono ?_;rintro e V5 ⟨A5, c5, rfl, p5, x⟩;replace p5 := p5.tightR (by decide +kernel);clear p4;replace T1 := T1.ext x;replace T2 := T2.ext x;replace EW := EW.trans x;clear x
 go_wp2_with fail
 refine (list_c (n := 1) [4] [4] (by decide +kernel) rfl (by omega) (by decide) rfl (rfl)).mono ?_;rintro e V6 ⟨Ap6, cp6, rfl, p6, x⟩;replace T1 := T1.ext x;replace T2 := T2.ext x;replace p5 := p5.ext x;replace EW := EW.trans x;clear x
 go_wp2_with fail
 refine (list_c (n := 2) [2, -1] [2, -1] (by decide +kernel) rfl (by omega) (by decide) rfl (World.size_alloc _ _)).mono ?_;rintro e V7 ⟨Ap7, cp7, rfl, p7, x⟩;have y := ((Ext.refl V6).alloc (.cells #[.slice Ap6 1 cp6] 23)).trans x;have T4 := polT_one ((Box.new V6 23 #[.slice Ap6 1 cp6]).ext x) (p6.ext y);replace T1 := T1.ext y;replace T2 := T2.ext y;replace p5 := p5.ext y;replace p6 := p6.ext y;replace EW := EW.trans y;clear y x;clear p6
 go_wp2_with fail
 refine (inv_c _ T4 p7 (by decide +kernel) (by decide +kernel) inv_2 (hT.ext EW)).mono ?_;rintro e V8 ⟨rfl, x⟩;clear p7;clear T4;replace T1 := T1.ext x;replace T2 := T2.ext x;replace p5 := p5.ext x;replace EW := EW.trans x;clear x
 go_wp2_with fail
 refine (list_c (n := 4) [1, 2, 3, 4] [1, 2, 3, 4] (by decide +kernel) rfl (by omega) (by decide) rfl (rfl)).mono ?_;rintro e V9 ⟨Ap9, cp9, rfl, p9, x⟩;replace T1 := T1.ext x;replace T2 := T2.ext x;replace p5 := p5.ext x;replace EW := EW.trans x;clear x
 go_wp2_with fail
 refine (conj_0 T2 p9 (hT.ext EW)).mono ?_;rintro e V10 ⟨rfl, x⟩;clear p9;replace T1 := T1.ext x;replace T2 := T2.ext x;replace p5 := p5.ext x;replace EW := EW.trans x;clear x
 go_wp2_with fail
 refine (list_c (n := 4) [1, 2, 3, 4] [1, 2, 3, 4] (by decide +kernel) rfl (by omega) (by decide) rfl (rfl)).mono ?_;rintro e V11 ⟨Ap11, cp11, rfl, p11, x⟩;replace T1 := T1.ext x;replace T2 := T2.ext x;replace p5 := p5.ext x;replace EW := EW.trans x;clear x
 go_wp2_with fail
 refine (conj_1 T2 p11 (hT.ext EW)).mono ?_;rintro e V12 ⟨A12, n12, c12, rfl, p12, x⟩;clear p11;replace T1 := T1.ext x;replace T2 := T2.ext x;replace p5 := p5.ext x;replace EW := EW.trans x;clear x
 go_wp2_with fail
 refine (p_FromIntR 1 (by omega) (by omega)).mono ?_;rintro e V13 ⟨s1, A1, n1, c1, t1, B1, m1, d1, rfl, hr, x⟩;replace T1 := T1.ext x;replace T2 := T2.ext x;replace p5 := p5.ext x;replace p12 := p12.ext x;replace EW := EW.trans x;clear x;obtain ⟨xs, ys, ra, rb, hv, hn, hm, _⟩ := hr.raw;clear hr
 go_wp2_with fail
 refine (p_ValidRaw ra rb (by omega) (by omega) (hT.ext EW)).mono ?_;rintro e V14 ⟨rfl, x⟩;rw [hv];clear ra rb hv;replace T1 := T1.ext x;replace T2 := T2.ext x;replace p5 := p5.ext x;replace p12 := p12.ext x;replace EW := EW.trans x;clear x
 go_wp2_with fail
 refine (list_c (n := 2) [1, 1] [1, 1] (by decide +kernel) rfl (by omega) (by decide) rfl (rfl)).mono ?_;rintro e V15 ⟨Ap15, cp15, rfl, p15, x⟩;replace T1 := T1.ext x;replace T2 := T2.ext x;replace p5 := p5.ext x;replace p12 := p12.ext x;replace EW := EW.trans x;clear x
 go_wp2_with fail
 refine (list_c (n := 2) [3, -2] [3, -2] (by decide +kernel) rfl (by omega) (by decide) rfl (rfl)).mono ?_;rintro e V16 ⟨Ap16, cp16, rfl, p16, x⟩;replace T1 := T1.ext x;replace T2 := T2.ext x;replace p5 := p5.ext x;replace p12 := p12.ext x;replace p15 := p15.ext x;replace EW := EW.trans x;clear x
 go_wp2_with fail
 refine (mul_c T1 p15 p16 (hT.ext EW)).mono ?_;rintro e V17 ⟨A17, n17, c17, rfl, p17, x⟩;clear p15;clear p16;clear T1;replace T2 := T2.ext x;replace p5 := p5.ext x;replace p12 := p12.ext x;replace EW := EW.trans x;clear x
 go_wp2_with fail
 refine (list_c (n := 2) [-1, 1] [-1, 1] (by decide +kernel) rfl (by omega) (by decide) rfl (rfl)).mono ?_;rintro e V18 ⟨Ap18, cp18, rfl, p18, x⟩;replace T2 := T2.ext x;replace p5 := p5.ext x;replace p12 := p12.ext x;replace p17 := p17.ext x;replace EW := EW.trans x;clear x
 go_wp2_with fail
 refine (q_SameT p17 p18 (by omega) (by omega) (by have := p17.len; simp at this; omega)).mono ?_;rintro e V19 ⟨rfl, x⟩;clear p17;clear p18;replace T2 := T2.ext x;replace p5 := p5.ext x;replace p12 := p12.ext x;replace EW := EW.trans x;clear x
 go_wp2_with fail
 refine (list_c (n := 2) [-1, 1] [-1, 1] (by decide +kernel) rfl (by omega) (by decide) rfl (rfl)).mono ?_;rintro e V20 ⟨Ap20, cp20, rfl, p20, x⟩;replace T2 := T2.ext x;replace p5 := p5.ext x;replace p12 := p12.ext x;replace EW := EW.trans x;clear x
 go_wp2_with fail
 refine (q_SameT p5 p20 (by omega) (by omega) (by have := p5.len; simp at this; omega)).mono ?_;rintro e V21 ⟨rfl, x⟩;clear p5;clear p20;replace T2 := T2.ext x;replace p12 := p12.ext x;replace EW := EW.trans x;clear x
 go_wp2_with fail
 refine (list_c (n := 4) [1, 2, -3, -4] [1, 2, -3, -4] (by decide +kernel) rfl (by omega) (by decide) rfl (rfl)).mono ?_;rintro e V22 ⟨Ap22, cp22, rfl, p22, x⟩;replace T2 := T2.ext x;replace p12 := p12.ext x;replace EW := EW.trans x;clear x
 go_wp2_with fail
 refine (q_SameT p12 p22 (by omega) (by omega) (by have := p12.len; simp at this; omega)).mono ?_;rintro e V23 ⟨rfl, x⟩;clear p12;clear p22;replace T2 := T2.ext x;replace EW := EW.trans x;clear x
 go_wp2_with fail
 refine (root_c T2 (hT.ext EW)).mono ?_;rintro e V24 ⟨A24, n24, c24, rfl, p24, x⟩;clear T2;replace EW := EW.trans x;clear x
 go_wp2_with fail
 refine (list_c (n := 4) [0, 0, 1, 0] [0, 0, 1, 0] (by decide +kernel) rfl (by omega) (by decide) rfl (rfl)).mono ?_;rintro e V25 ⟨Ap25, cp25, rfl, p25, x⟩;replace p24 := p24.ext x;replace EW := EW.trans x;clear x
 go_wp2_with fail
 refine (q_SameT p24 p25 (by omega) (by omega) (by have := p24.len; simp at this; omega)).mono ?_;rintro e V26 ⟨rfl, x⟩;clear p24;clear p25;replace EW := EW.trans x;clear x
 go_wp2_with fail
 go_ret
 exact ⟨rfl, EW⟩
theorem towerB_at : ∀ (ts : List (List RawR)) (k : Nat), towerB ts k = true -> ∀ i (hi : i < ts.length), validL ts[i] (2 ^ (k + i)) = true
 | [], _, _, i, hi => absurd hi (Nat.not_lt_zero _)
 | l :: ts, k, h, i, hi => by
  rw [towerB, Bool.and_eq_true] at h
  cases i with
  | zero => exact h.1
  | succ i =>
   have := towerB_at ts (k + 1) h.2 i (by simpa using hi);rw [show k + 1 + i = k + (i + 1) by omega] at this;exact this
theorem validL_parts {l : List RawR} {k : Nat} (h : validL l k = true) : l.length = k /\ l.all RawR.valid = true := by
 unfold validL at h;rw [Bool.and_eq_true, decide_eq_true_eq] at h;exact h
end
section
open Go.ChangeShapes Go.WideShapes Go.ChangeAt Go.RowKit Go.Joins
theorem Tryz.own : ownKnob Tryz.prog.godebug = none := by kernel_rfl
theorem Tryz.laidOut : laidOutB Tryz.prog = true := by kernel_rfl
theorem Tryz.cellsI : Tryz.prog.cellsOf 28 = 2 := by kernel_rfl
theorem Tryz.cellsW : Tryz.prog.cellsOf 89 = 1 := by kernel_rfl
section
variable {H : Type} {enc : TypeId × Value -> H} {W : World} {base : Nat} {held : Bool}
theorem open_words {m : Nat} {v : Value} {y : DataW H × List MemPlace} (h : DataW.trod enc Tryz.prog W base (fun _ => true) held m 26 [v] = some y) :
  ∃ A n c xs, v = .slice A n c /\ List.length xs = n /\ Rd W A xs /\ n <= c /\ c <= maxLen := by
 rcases open_ints Tryz.underlying26 Tryz.underlying89 Tryz.cellsW h with ⟨hcs, _⟩ | ⟨a, len, cap, zs, hcs, _, hl, hm, hz, _, hcell, hwf⟩
 ·injection hcs with hcs _
  subst hcs;exact ⟨none, 0, 0, [], rfl, rfl, Rd.nil _ _, Nat.le_refl _, Nat.zero_le _⟩
 ·injection hcs with hcs _
  subst hcs;simp only [if_true] at hz
  have hb : ∀ n ∈ zs, 0 <= n /\ n <= 4294967295 := by
   intro n hn;have := hwf n hn;simp [Lit.wf, IntKind.min, IntKind.max, IntKind.bits, IntKind.signed] at this;omega
  refine ⟨some a, len, cap, (zs.take len).map Int.toNat, rfl, by simp; omega, ⟨?_, ?_⟩, hl, hm⟩
  ·intro x hx
   obtain ⟨n, hn, rfl⟩ := List.mem_map.1 hx;have := hb n (List.mem_of_mem_take hn);omega
  ·intro hne
   have hpos : 0 < zs.length := by
    rcases Nat.eq_zero_or_pos zs.length with h0 | h0
    ·exfalso
     apply hne
     have : zs = [] := List.eq_nil_of_length_eq_zero h0;rw [this]; simp
    ·exact h0
   obtain ⟨b, off, spot⟩ := a;have hc0 := hcell 0 hpos
   have hspot : spot = none := by
    cases spot with
    | none => rfl
    | some q => simp [Addr.add, World.cell?] at hc0; split at hc0 <;> simp at hc0
   subst hspot;refine ⟨b, off, rfl, cell_lt (p := ⟨b, off, none⟩) (by simpa [Addr.add] using hc0), fun i hi => ?_⟩;simp only [List.length_map, List.length_take] at hi;have hc := hcell i (by omega);have e1 : (⟨b, off, none⟩ : Addr).add i = ⟨b, off + i, none⟩ := by unfold Addr.add; split <;> simp_all
   rw [e1] at hc;rw [hc];simp only [List.getElem_map, List.getElem_take];have hi2 : i < zs.length := by omega
   have e2 : zs.getD i 0 = zs[i] := by simp [List.getD, hi2]
   rw [e2];have := hb zs[i] (List.getElem_mem hi2)
   congr 2
   omega
end
theorem cellsR : Tryz.prog.cellsOf 30 = 4 := by kernel_rfl
theorem cellsB : Tryz.prog.cellsOf 4 = 1 := by kernel_rfl
theorem cellsS : Tryz.prog.cellsOf 26 = 1 := by kernel_rfl
section
variable {H : Type} {enc : TypeId × Value -> H} {W : World} {base : Nat} {held : Bool}
theorem open_intc {m : Nat} {c0 c1 : Value} {y : DataW H × List MemPlace} (h : DataW.trod enc Tryz.prog W base (fun _ => true) held m 28 [c0, c1] = some y) :
  ∃ s A n c xs, c0 = .bool s /\ c1 = .slice A n c /\ RI W A n c xs := by
 obtain ⟨y0, y1, k, _, _, h0, h1⟩ := trod_struct2 Tryz.underlying28 h;rw [cellsB] at h0;rw [cellsS] at h1;simp only [List.drop_zero, List.drop_succ_cons, List.take_succ_cons, List.take_zero] at h0 h1;obtain ⟨s, e0, _⟩ := DataW.trod_bool Tryz.underlying4 h0
 injection e0 with e0 _
 obtain ⟨A, n, c, xs, rfl, g1, g2, g3, g4⟩ := open_words h1;exact ⟨s, A, n, c, xs, e0, rfl, g1, g2, g3, g4⟩
set_option maxRecDepth 100000 in
theorem open_ratc {m : Nat} {c0 c1 c2 c3 : Value} {y : DataW H × List MemPlace} (h : DataW.trod enc Tryz.prog W base (fun _ => true) held m 30 [c0, c1, c2, c3] = some y) :
  ∃ s A n c t B m d xs ys, c0 = .bool s /\ c1 = .slice A n c /\ c2 = .bool t /\ c3 = .slice B m d /\ RI W A n c xs /\ RI W B m d ys := by
 obtain ⟨y0, y1, k, _, _, h0, h1⟩ := trod_struct2 Tryz.underlying30 h;rw [Tryz.cellsI] at h0 h1;simp only [List.drop_zero, List.drop_succ_cons, List.take_succ_cons, List.take_zero] at h0 h1;obtain ⟨s, A, n, c, xs, rfl, rfl, r1⟩ := open_intc h0;obtain ⟨t, B, m, d, ys, rfl, rfl, r2⟩ := open_intc h1;exact ⟨s, A, n, c, t, B, m, d, xs, ys, rfl, rfl, rfl, rfl, r1, r2⟩
set_option maxRecDepth 100000 in
theorem open_ratsc {fuel : Nat} {v : Value} {y : DataW H × List MemPlace} (hf : DataW.trod enc Tryz.prog W base (fun _ => true) held fuel 23 [v] = some y) :
  ∃ A n c rs, v = .slice A n c /\ RawP W A n c rs := by
 rcases Deep.open_slice Tryz.underlying23 hf with ⟨hcs, _⟩ | ⟨a, n, c, m, k, D, Pl, hcs, _, hl, hm, hmm, _, hx⟩
 ·simp only [List.cons.injEq, and_true] at hcs
  subst hcs;exact ⟨none, 0, 0, [], rfl, rfl, Nat.le_refl _, Nat.zero_le _, fun h => absurd rfl h⟩
 ·simp only [List.cons.injEq, and_true] at hcs
  subst hcs;simp only [if_true] at hmm
  have key : ∀ i, i < n -> ∃ r : RawR, RawAt W a.block (a.off + 4 * i) r := by
   intro i hi;obtain ⟨cs', h1, h2⟩ := hx i (by omega);rw [cellsR] at h1;obtain ⟨_, hlen, hc⟩ := World.cells?_some h1
   obtain ⟨c0, c1, c2, c3, rfl⟩ : ∃ c0 c1 c2 c3, cs' = [c0, c1, c2, c3] := by
    rcases cs' with _ | ⟨c0, _ | ⟨c1, _ | ⟨c2, _ | ⟨c3, _ | ⟨c4, l⟩⟩⟩⟩⟩ <;> simp at hlen
    exact ⟨c0, c1, c2, c3, rfl⟩
   obtain ⟨s, A', n', c', t, B', m', d', xs, ys, rfl, rfl, rfl, rfl, r1, r2⟩ := open_ratc h2
   have hs : a.spot = none := by
    cases e : a.spot with
    | none => rfl
    | some q =>
     exfalso
     obtain ⟨cs0, g1, _⟩ := hx 0 (by omega);rw [cellsR] at g1;obtain ⟨_, hlen0, hc0⟩ := World.cells?_some g1;have := hc0 0 (by omega);rw [Nat.zero_mul, Deep.add_add] at this;simp only [Addr.add, Nat.add_zero, if_true] at this;rw [List.getElem?_eq_getElem (by omega)] at this;unfold World.cell? at this;rw [e] at this
     split at this <;> simp at this
   have hadd : ∀ j, j < 4 -> (a.add (i * 4)).add j = ⟨a.block, a.off + 4 * i + j, none⟩ := by
    intro j _;rw [Deep.add_add];unfold Addr.add;obtain ⟨ab, ao, asp⟩ := a;simp only at hs;subst hs
    split
    ·rename_i h0
     have : i * 4 + j = 0 := h0;simp only [Addr.mk.injEq, and_true, true_and];omega
    ·simp only [Addr.mk.injEq, and_true, true_and]
     omega
   have q0 := hc 0 (by omega);have q1 := hc 1 (by omega);have q2 := hc 2 (by omega);have q3 := hc 3 (by omega);rw [hadd _ (by omega)] at q0 q1 q2 q3;exact ⟨⟨s, xs, t, ys⟩, A', n', c', B', m', d', q0, q1, q2, q3, r1, r2⟩
  haveI : Inhabited RawR := ⟨⟨false, [], false, []⟩⟩
  obtain ⟨F, hF⟩ := Deep.choose_lt (n := n) (α := RawR) (p := fun i r => RawAt W a.block (a.off + 4 * i) r) key;refine ⟨some a, n, c, (List.range n).map F, rfl, by simp, hl, hm, fun hne => ?_⟩
  have hpos : 0 < n := by
   rcases Nat.eq_zero_or_pos n with h0 | h0
   ·exact absurd (by rw [h0]; rfl) hne
   ·exact h0
  have hs : a.spot = none := by
   cases e : a.spot with
   | none => rfl
   | some q =>
    exfalso
    obtain ⟨cs0, g1, _⟩ := hx 0 (by omega);rw [cellsR] at g1;obtain ⟨_, hlen0, hc0⟩ := World.cells?_some g1;have := hc0 0 (by omega);rw [Nat.zero_mul, Deep.add_add] at this;simp only [Addr.add, Nat.add_zero, if_true] at this;rw [List.getElem?_eq_getElem (by omega)] at this;unfold World.cell? at this;rw [e] at this
    split at this <;> simp at this
  refine ⟨a.block, a.off, ?_, fun i hi => ?_⟩
  ·obtain ⟨ab, ao, asp⟩ := a
   simp only at hs;subst hs
   rfl
  ·have hi2 : i < n := by simpa using hi
   have := hF i hi2
   simpa using this
theorem open_ratss {fuel : Nat} {v : Value} {y : DataW H × List MemPlace} (hf : DataW.trod enc Tryz.prog W base (fun _ => true) held fuel 22 [v] = some y) :
  ∃ A n c ts, v = .slice A n c /\ RawT W A n c ts := by
 rcases Deep.open_slice1 Tryz.underlying22 (by kernel_rfl) hf with ⟨hcs, _⟩ | ⟨a, n, c, m, k, V, D, Pl, hcs, _, hl, hm, hmm, _, hx⟩
 ·simp only [List.cons.injEq, and_true] at hcs
  subst hcs;exact ⟨none, 0, 0, [], rfl, RawT.none _⟩
 ·simp only [List.cons.injEq, and_true] at hcs
  subst hcs;simp only [if_true] at hmm
  have key : ∀ i, i < n -> ∃ r : List RawR, ∃ A' n' c', W.cell? (a.add i) = some (.slice A' n' c') /\ RawP W A' n' c' r := by
   intro i hi;obtain ⟨h1, h2⟩ := hx i (by omega);obtain ⟨A', n', c', rs, h3, h4⟩ := open_ratsc h2;exact ⟨rs, A', n', c', by rw [h1, h3], h4⟩
  obtain ⟨F, hF⟩ := Deep.choose_lt (n := n) (α := List RawR) (p := fun i r => ∃ A' n' c', W.cell? (a.add i) = some (.slice A' n' c') /\ RawP W A' n' c' r) key;refine ⟨some a, n, c, (List.range n).map F, rfl, by simp, hl, hm, fun hne => ?_⟩
  have hpos : 0 < n := by
   rcases Nat.eq_zero_or_pos n with h0 | h0
   ·exact absurd (by rw [h0]; rfl) hne
   ·exact h0
  have hs : a.spot = none := by
   cases e : a.spot with
   | none => rfl
   | some q =>
    exfalso
    obtain ⟨A', n', c', g1, _⟩ := hF 0 hpos;simp only [Addr.add, if_true] at g1;unfold World.cell? at g1;rw [e] at g1
    split at g1 <;> simp at g1
  have hadd : ∀ i, a.add i = ⟨a.block, a.off + i, none⟩ := by
   intro i;obtain ⟨ab, ao, asp⟩ := a;simp only at hs;subst hs;unfold Addr.add
   split
   ·rename_i h0
    have h0' : i = 0 := h0;simp only [Addr.mk.injEq, and_true, true_and];omega
   ·rfl
  refine ⟨a.block, a.off, ?_, fun i hi => ?_⟩
  ·obtain ⟨ab, ao, asp⟩ := a
   simp only at hs;subst hs
   rfl
  ·have hi2 : i < n := by simpa using hi
   obtain ⟨A', n', c', g1, g2⟩ := hF i hi2;rw [hadd] at g1;exact ⟨A', n', c', g1, by simpa using g2⟩
end
def laidI : List (String × DataW Unit) := [("math/bits.deBruijn64tab", Rows.laid_math_bits_deBruijn64tab)]
def tabY : List Int := Lib.deBruijn64tab.map fun n : Nat => (n : Int)
theorem tabY_at : ∀ j : Fin 64, tabY.getD j.val 0 = ((Lib.deBruijn64tab.getD j.val 0 : Nat) : Int) := by decide +kernel
theorem laidI_tab : laidI = [("math/bits.deBruijn64tab", Lib.tabData .u8 tabY)] := by kernel_rfl
theorem gTab : Tryz.prog.globalNamed "math/bits.deBruijn64tab" = some 0 := by kernel_rfl
theorem tTab : (Tryz.prog.globals[0]?).map (·.type) = some 159 := by kernel_rfl
theorem tab_of_laid {W : World} (h : laidMet Tryz.prog laidI W) : Tab W := by
 rw [laidI_tab] at h;have hT := Lib.tabIs_of_head gTab tTab Tryz.underlying159 Tryz.underlying5 (by kernel_rfl) (by kernel_rfl) h;intro j hj;have := hT.cell gTab j (by rw [show tabY.length = 64 from by decide +kernel]; exact hj);rw [tabY_at ⟨j, hj⟩] at this;exact this
theorem doorI_met (os : Os) (args : Array Value) : laidMetH Tryz.prog laidI ((World.doorLaid Tryz.prog 400 os).forCall (fun _ _ => 0) ⟨#[], args, []⟩).memory :=
 laidMetH_of_parts3 (fuel := 8) (laidMet_of_run' 8 (by kernel_rfl) (by kernel_rfl)) (by kernel_rfl) (by kernel_rfl)
theorem tab_of_laidH {W : World} (h : laidMetH Tryz.prog laidI W) : Tab W := by
 rw [MakeChecks.laidMetH_plain _ _ _ (by kernel_rfl)] at h;exact tab_of_laid h
end
end Go.Proofs.YtgagcochepnelaaGreatDoor
