/- Walks and laws, a part. -/
import Derived.Test.YtpeddoaknfjbbaaGreatDoorM4
import Derived.Lib.MinMax
set_option linter.unusedSimpArgs false
set_option linter.unusedVariables false
set_option maxHeartbeats 64000000
namespace Go.Proofs.YtpeddoaknfjbbaaGreatDoor
open Go.RowKit
attribute [local go_sem ↓] Go.wp_at_zero Go.wp_at_succ
theorem gcd_tmod (a b : Int) : Nat.gcd b.natAbs (Int.tmod a b).natAbs = Nat.gcd a.natAbs b.natAbs := by
 rw [Int.natAbs_tmod, Nat.gcd_comm a.natAbs, Nat.gcd_rec b.natAbs a.natAbs, Nat.gcd_comm]
theorem tmod_lt (a b : Int) (h : b ≠ 0) : (Int.tmod a b).natAbs < b.natAbs := by
 rw [Int.natAbs_tmod];exact Nat.mod_lt _ (by omega)
section
variable {w : World}
theorem small_gcd (a b : Int) (ha : a ≠ 0) (h1 : a.natAbs < 9223372036854775808) (h2 : b.natAbs < 9223372036854775808) :
  Calls Tryz.prog 156 #[.int .i64 a, .int .i64 b] w fun e w' => e = .returned (.int .i64 ((Nat.gcd a.natAbs b.natAbs : Nat) : Int)) /\ Ext w w' := by
 obtain ⟨G, hG⟩ : ∃ G, Nat.gcd a.natAbs b.natAbs = G := ⟨_, rfl⟩;rw [hG]
 go_enter Tryz.func156, Tryz.ntmps156
 go_wp2
 go_loopw [0, 1] (fun x y V => ∃ c d : Int, x = .int .i64 c /\ y = .int .i64 d /\ Nat.gcd c.natAbs d.natAbs = G /\ c ≠ 0 /\ c.natAbs < 9223372036854775808 /\ d.natAbs < 9223372036854775808 /\ Ext w V) (fun _ y _ => (intOf y).natAbs)
 case atStart => exact ⟨a, b, rfl, rfl, hG, ha, h1, h2, Ext.refl _⟩
 case round =>
  obtain ⟨c, d, rfl, rfl, hg, hc0, hc, hd, hext⟩ := hrel;have Hg := Lib.hid hg;clear hg
  by_cases h0 : d = 0
  ·subst h0
   have hG2 : c.natAbs = G := by have := Hg.out; rwa [Int.natAbs_zero, Nat.gcd_zero_right] at this
   have hmx : max c (-c) = (G : Int) := by omega
   go_wp2
   go_ret
   exact ⟨rfl, hext⟩
  ·have hne : (d == 0) = false := by rw [beq_eq_false_iff_ne]; exact h0
   have hlt := tmod_lt c d h0;have hgt := gcd_tmod c d;obtain ⟨m, hm⟩ : ∃ m, Int.tmod c d = m := ⟨_, rfl⟩;rw [hm] at hlt hgt;have hw : wrap64 (Int.tmod c d) = m := by rw [hm]; exact IntWalk.wrap64_in _ (by omega)
   have hw2 : IntKind.i64.wrap (Int.tmod c d) = m := by rw [hm]; exact IntWalk.i64_in _ (by omega)
   have Hgt := Lib.hid hgt;clear hgt
   go_wp2_with fail
   have ES0 := Ext.refl wr;refine wp_region_held_drew (S := Ext wr) (by kernel_rfl) ES0.drew (fun ES => ?_);clear ES0;refine Late.s0 ES (fun hAl hQ => ?_);refine Late.tk (i := 0) (d := some 7) (v := ?v_0) rfl rfl hQ (Or.inl ⟨by rfl, ?y_0⟩) ?_
   case y_0 => intro w' hSw;go_simp;try with_reducible rfl
   try simp only [zP]
   refine Late.tk (i := 1) (d := some 8) (v := ?v_1) rfl rfl hQ (Or.inl ⟨by rfl, ?y_1⟩) ?_
   case y_1 => intro w' hSw;go_simp;try with_reducible rfl
   try simp only [zP]
   refine Late.tk (i := 2) (d := some 9) (v := ?v_2) rfl rfl hQ (Or.inl ⟨by rfl, ?y_2⟩) ?_
   case y_2 => intro w' hSw;go_simp;try with_reducible rfl
   try simp only [zP]
   refine Late.tk (i := 3) (d := some 10) (v := ?v_3) rfl rfl hQ (Or.inl ⟨by rfl, ?y_3⟩) ?_
   case y_3 => intro w' hSw;go_simp;try with_reducible rfl
   try simp only [zP]
   refine Late.tk (i := 4) (d := some 0) (v := ?v_4) rfl rfl hQ (Or.inl ⟨by rfl, ?y_4⟩) ?_
   case y_4 => intro w' hSw;go_simp;try with_reducible rfl
   try simp only [zP]
   refine Late.tk (i := 5) (d := some 1) (v := ?v_5) rfl rfl hQ (Or.inl ⟨by rfl, ?y_5⟩) ?_
   case y_5 => intro w' hSw;go_simp;try with_reducible rfl
   try simp only [zP]
   refine Late.d0 (fun wz ez Ez => ?_);clear hAl hQ ES
   go_wp2_with fail
   refine ⟨⟨d, m, rfl, rfl, by rw [Hgt.out, Hg.out], h0, hd, by omega, hext.trans Ez⟩, ?_⟩;simp only [intOf];exact hlt
theorem tdiv_abs_le (a b : Int) : (Int.tdiv a b).natAbs <= a.natAbs := by
 rw [Int.natAbs_tdiv]; exact Nat.div_le_self _ _
theorem p_lowest (N D : Int) (hD : 0 < D) (hN1 : N.natAbs < 9223372036854775808) (hD1 : D.natAbs < 9223372036854775808) : Calls Tryz.prog 131 #[.int .i64 N, .int .i64 D] w (RetNR (mkRat N D.natAbs) 2 w) := by
 obtain ⟨e1, e2⟩ := mkRat_parts N (D := D.natAbs) (by omega);obtain ⟨g, hg⟩ : ∃ g, Nat.gcd D.natAbs N.natAbs = g := ⟨_, rfl⟩;have hg' : N.natAbs.gcd D.natAbs = g := by rw [<- hg, Nat.gcd_comm]
 rw [hg'] at e1 e2;have hgD : g ∣ D.natAbs := by rw [<- hg']; exact Nat.gcd_dvd_right _ _
 have hgN : g ∣ N.natAbs := by rw [<- hg']; exact Nat.gcd_dvd_left _ _
 have hg0 : 0 < g := Nat.pos_of_dvd_of_pos hgD (by omega);have hdN : (g : Int) ∣ N := Int.ofNat_dvd_left.2 hgN;have hdD : (g : Int) ∣ D := Int.ofNat_dvd_left.2 hgD;have hne : ((g : Int) == 0) = false := by rw [beq_eq_false_iff_ne]; omega
 have b1 := tdiv_abs_le N g;have b2 := tdiv_abs_le D g;obtain ⟨Q1, hQ1⟩ : ∃ Q, Int.tdiv N g = Q := ⟨_, rfl⟩;obtain ⟨Q2, hQ2⟩ : ∃ Q, Int.tdiv D g = Q := ⟨_, rfl⟩;rw [hQ1] at b1;rw [hQ2] at b2;have w1 : wrap64 (Int.tdiv N g) = Q1 := by rw [hQ1]; exact IntWalk.wrap64_in _ (by omega)
 have w2 : IntKind.i64.wrap (Int.tdiv N g) = Q1 := by rw [hQ1]; exact IntWalk.i64_in _ (by omega)
 have w3 : wrap64 (Int.tdiv D g) = Q2 := by rw [hQ2]; exact IntWalk.wrap64_in _ (by omega)
 have w4 : IntKind.i64.wrap (Int.tdiv D g) = Q2 := by rw [hQ2]; exact IntWalk.i64_in _ (by omega)
 have hgn : ¬ g = 0 := by omega
 have w5 : IntKind.i64.wrap Q1 = Q1 := IntWalk.i64_in _ (by omega);have w6 : IntKind.i64.wrap Q2 = Q2 := IntWalk.i64_in _ (by omega);have w7 : wrap64 Q1 = Q1 := IntWalk.wrap64_in _ (by omega);have w8 : wrap64 Q2 = Q2 := IntWalk.wrap64_in _ (by omega);have hN : (mkRat N D.natAbs).num = Q1 := by rw [e1, <- hQ1, Int.tdiv_eq_ediv_of_dvd hdN]
 have hDD : ((mkRat N D.natAbs).den : Int) = Q2 := by rw [e2, <- hQ2, Int.tdiv_eq_ediv_of_dvd hdD, Int.natCast_ediv, Int.natAbs_of_nonneg (Int.le_of_lt hD)]
 have HN := Lib.hid hN;have HDD := Lib.hid hDD;have Hg := Lib.hid hg;clear hg hg' e1 e2 hgD hgN hdN hdD hN hDD
 go_enter Tryz.func131, Tryz.ntmps131
 go_upto_region 1 with (fail)
 obtain ⟨W, hW, extW, bz, hz⟩ := box1 w 27 #[Value.bool false, Value.slice none 0 0, Value.bool false, Value.slice none 0 0];rw [<- hW];clear hW
 go_wp2_with fail
 refine (small_gcd D N (by omega) hD1 hN1).mono ?_;rintro e wa ⟨rfl, hxa⟩;rw [Hg.out];replace bz := bz.ext hxa;replace extW := extW.trans hxa
 go_wp2_with fail
 refine wpL.st 9 (fun hQ ES => ?_);refine wpL.tk (i := 0) (d := some 9) (v := ?v_0) rfl rfl hQ (Or.inl ⟨by rfl, ?y_0⟩) ES ?_
 case y_0 => intro w' hSw;go_simp;try with_reducible rfl
 try simp only [zP]
 refine wpL.tk (i := 1) (d := some 10) (v := ?v_1) rfl rfl hQ (Or.inl ⟨by rfl, ?y_1⟩) ES ?_
 case y_1 => intro w' hSw;go_simp;try with_reducible rfl
 try simp only [zP]
 refine wpL.tk (i := 4) (d := some 13) (v := ?v_2) rfl rfl hQ (Or.inl ⟨by rfl, ?y_2⟩) ES ?_
 case y_2 => intro w' hSw;go_simp;try with_reducible rfl
 try simp only [zP]
 refine wpL.tk (i := 5) (d := some 14) (v := ?v_3) rfl rfl hQ (Or.inl ⟨by rfl, ?y_3⟩) ES ?_
 case y_3 => intro w' hSw;go_simp;try with_reducible rfl
 try simp only [zP]
 refine wpL.tk (i := 2) (d := some 11) (v := ?v_4) rfl rfl hQ (Or.inl ⟨by rfl, ?y_4⟩) ES ?_
 case y_4 => intro w' hSw;go_simp;try with_reducible rfl
 try simp only [zP]
 refine wpL.tk (i := 6) (d := some 15) (v := ?v_5) rfl rfl hQ (Or.inl ⟨by rfl, ?y_5⟩) ES ?_
 case y_5 => intro w' hSw;go_simp;try with_reducible rfl
 try simp only [zP]
 refine wpL.cl (i := 3) rfl (fun K hK => ?_);go_simp
 (go_at_call 66; refine (p_FromInt Q1 (by omega) (by omega)).mono ?_; rintro e wb ⟨s1, A1, n1, c1, rfl, h1, hx0⟩; have E0_2 := Ext.trans ES hx0)
 refine hK.out _ _ E0_2 ?_;clear hK K
 try simp only [zP]
 refine wpL.cl (i := 7) rfl (fun K hK => ?_);go_simp
 (go_at_call 66; refine (p_FromInt Q2 (by omega) (by omega)).mono ?_; rintro e wc ⟨s2, A2, n2, c2, rfl, h2, hx1⟩; have E1_2 := Ext.trans E0_2 hx1)
 refine hK.out _ _ E1_2 ?_;clear hK K
 try simp only [zP]
 refine wpL.tk (i := 8) (d := some 17) (v := ?v_6) rfl rfl hQ (Or.inl ⟨by rfl, ?y_6⟩) E1_2 ?_
 case y_6 => intro w' hSw;go_simp;try with_reducible rfl
 try simp only [zP]
 have z0 := (bz.ext E1_2).cell 0 _ rfl;have z1 := (bz.ext E1_2).cell 1 _ rfl;have z2 := (bz.ext E1_2).cell 2 _ rfl;have z3 := (bz.ext E1_2).cell 3 _ rfl;have f0 := (bz.ext E1_2).frozen 0;have f1 := (bz.ext E1_2).frozen 1;have f2 := (bz.ext E1_2).frozen 2;have f3 := (bz.ext E1_2).frozen 3;refine wpL.tl (i := 9) rfl (fun K hK => ?_);go_simp;refine hK.out _ _ ?_;clear hK K
 try simp only [zP]
 refine wpL.done (by kernel_rfl) ?_ _;clear hQ
 go_wp2_with fail
 clear b1 b2;obtain ⟨b1, b2, b3, b4⟩ := fin_quad (s := s1) (A := A1) (n := n1) (c := c1) (t := s2) (B := A2) (m := n2) (d := c2) (bz.ext E1_2);have r0 := b1.cell 0 (.bool s1) rfl;have r1 := b1.cell 1 (.slice A1 n1 c1) rfl;have r2 := b1.cell 2 (.bool s2) rfl;have r3 := b1.cell 3 (.slice A2 n2 c2) rfl;unfold set4 at r0 r1 r2 r3;refine bodyPost_ret (v := .agg #[.bool s1, .slice A1 n1 c1, .bool s2, .slice A2 n2 c2]) (by simp [results, Tryz.results131, go_sem, r0, r1, r2, r3]) rfl ⟨s1, A1, n1, c1, s2, A2, n2, c2, rfl, ⟨?_, ?_⟩, b3 _ (extW.trans E1_2) (by omega)⟩
 ·rw [HN.out]
  exact b2 _ _ _ _ _ _ (h1.ext hx1)
 ·rw [HDD.out]
  exact b2 _ _ _ _ _ _ h2
end
def Sm (q : Rat) (a b : Int) : Prop := a = q.num /\ b = (q.den : Int) /\ a.natAbs < 2147483648 /\ b.natAbs < 2147483648
theorem NoWord.ints {a b : Int} : NoWord #[.int .i64 a, .int .i64 b] := by
 intro i k h
 match i with
 | 0 => simp at h
 | 1 => simp at h
 | i + 2 => simp at h
theorem fin_ints {w2 : World} {g : Nat} {T : TypeId} {x y a b : Int} (hb : Box w2 g T #[.int .i64 x, .int .i64 y]) :
  Box (set2 w2 g (.int .i64 a) (.int .i64 b)) g T #[.int .i64 a, .int .i64 b] /\
  (∀ z L s' A' n' c', NI w2 z L s' A' n' c' -> NI (set2 w2 g (.int .i64 a) (.int .i64 b)) z L s' A' n' c') /\
  (∀ W, Ext W w2 -> W.heap.size <= g -> Ext W (set2 w2 g (.int .i64 a) (.int .i64 b))) /\
  (∀ g' T' cs', g' ≠ g -> Box w2 g' T' cs' -> Box (set2 w2 g (.int .i64 a) (.int .i64 b)) g' T' cs') := by
 unfold set2;have h1 : Box (w2.setCell ⟨g, 0, none⟩ (.int .i64 a)) g T #[.int .i64 a, .int .i64 y] := hb.set 0 (.int .i64 a);refine ⟨h1.set 1 (.int .i64 b), fun z L s' A' n' c' h => ?_, fun W e hg => ?_, fun g' T' cs' hg h => ?_⟩
 ·exact (h.set hb NoWord.ints 0 _).set h1 NoWord.ints 1 _
 ·exact (e.setCell hg _).setCell hg _
 ·exact (h.far hg _).far hg _
section
variable {w w' : World} {z y : Int} {q p : Rat} {L M : Nat} {s t s' t' : Bool} {A B A' B' : Option Addr} {n c m d n' c' m' d' : Nat}
theorem p_Int64 (h : NI w z L s A n c) (hL : L <= 100000) : Calls Tryz.prog 155 #[.agg #[.bool s, .slice A n c]] w (RetV z w) := by
 obtain ⟨xs, hn, hx, hc, hcm, hi, hl⟩ := h.out;rw [<- hi.eq];exact int_Int64 hn hx hc hcm (by omega)
theorem NI.one_word (h : NI w z L s A n c) (h1 : n <= 1) : z.natAbs < 4294967296 := by
 obtain ⟨xs, hn, hx, hc, hcm, hi, hl⟩ := h.out;have h2 := val_lt hx.1;have h3 : 4294967296 ^ xs.length <= 4294967296 ^ 1 := Nat.pow_le_pow_right (by omega) (by omega);rw [hi.abs] at h2;omega
def RetSm (q : Rat) (w : World) (e : Ending) (w' : World) : Prop := ∃ a b ok, e = .returned (.tuple #[.agg #[.int .i64 a, .int .i64 b], .bool ok]) /\ (ok = true -> Sm q a b) /\ Ext w w'
theorem p_toSmall (h : NR w q L s A n c t B m d) (hL : L <= 20000) : Calls Tryz.prog 130 #[.agg #[.bool s, .slice A n c, .bool t, .slice B m d]] w (RetSm q w) := by
 have hnm : n <= 20000 /\ m <= 20000 := by have := h.num.size; have := h.den.size; omega
 go_enter Tryz.func130, Tryz.ntmps130
 go_upto_region 1 with (fail)
 obtain ⟨W, hW, extW, bx, bz, hz⟩ := box2 w 27 93 #[.bool s, .slice A n c, .bool t, .slice B m d] #[Value.int .i64 0, Value.int .i64 0];rw [<- hW];clear hW;have x0 := bx.cell 0 (.bool s) rfl;have x1 := bx.cell 1 (.slice A n c) rfl;have x2 := bx.cell 2 (.bool t) rfl;have x3 := bx.cell 3 (.slice B m d) rfl;have hE := Ext.refl W
 by_cases hn : n <= 1
 ·have d1 : decide ((1 : Int) < (n : Int)) = false := decide_eq_false (by omega)
  have d1' : decide (1 < n) = false := decide_eq_false (by omega)
  by_cases hm : m = 1
  ·have d2 : ((m : Int) != 1) = false := by simp [hm]
   have hq1 := h.num.one_word hn;have hq2 := h.den.one_word (by omega);have hv1 := (fit_yes (z := q.num) (by omega)).2;have hv2 := (fit_yes (z := (q.den : Int)) (by omega)).2;have Hv1 := Lib.hid hv1;have Hv2 := Lib.hid hv2;clear hv1 hv2;subst hm
   go_wp2_with fail
   refine (p_Int64 (h.num.ext extW) (by omega)).mono ?_;rintro e wa ⟨rfl, hxa⟩;rw [Hv1.out];have x2 := (bx.ext hxa).cell 2 (.bool t) rfl;have x3 := (bx.ext hxa).cell 3 (.slice B 1 d) rfl
   go_wp2_with fail
   refine (p_Int64 (h.den.ext (extW.trans hxa)) (by omega)).mono ?_;rintro e wb ⟨rfl, hxb⟩;rw [Hv2.out];clear x0 x1 x2 x3 hE;have hE := hxa.trans hxb;have z0 := (bz.ext hE).cell 0 _ rfl;have z1 := (bz.ext hE).cell 1 _ rfl;have f0 := (bz.ext hE).frozen 0;have f1 := (bz.ext hE).frozen 1;obtain ⟨a, ha⟩ : ∃ a, q.num = a := ⟨_, rfl⟩;obtain ⟨b, hb⟩ : ∃ b, (q.den : Int) = b := ⟨_, rfl⟩;have Ha := Lib.hid ha;have Hb := Lib.hid hb;rw [ha, hb];rw [ha] at hq1;rw [hb] at hq2;clear ha hb
   by_cases k1 : -2147483648 < a
   ·have g1 : decide (-2147483648 < a) = true := decide_eq_true k1
    by_cases k2 : a < 2147483648
    ·have g2 : decide (a < 2147483648) = true := decide_eq_true k2
     by_cases k3 : 0 < b
     ·have g3 : decide (0 < b) = true := decide_eq_true k3
      by_cases k4 : b < 2147483648
      ·have g4 : decide (b < 2147483648) = true := decide_eq_true k4
       go_wp2_with fail
       obtain ⟨b1, b2, b3, b4⟩ := fin_ints (a := a) (b := b) (bz.ext hE);have r0 := b1.cell 0 (.int .i64 (a)) rfl;have r1 := b1.cell 1 (.int .i64 (b)) rfl;unfold set2 at r0 r1;exact bodyPost_ret (v := .tuple #[.agg #[.int .i64 (a), .int .i64 (b)], .bool true]) (by simp [results, Tryz.results130, go_sem, r0, r1]) rfl ⟨a, b, true, rfl, (fun _ => ⟨Ha.out.symm, Hb.out.symm, by omega, by omega⟩), b3 _ (extW.trans hE) (by omega)⟩
      ·have g4 : decide (b < 2147483648) = false := decide_eq_false k4
       go_wp2_with fail
       obtain ⟨b1, b2, b3, b4⟩ := fin_ints (a := a) (b := b) (bz.ext hE);have r0 := b1.cell 0 (.int .i64 (a)) rfl;have r1 := b1.cell 1 (.int .i64 (b)) rfl;unfold set2 at r0 r1;exact bodyPost_ret (v := .tuple #[.agg #[.int .i64 (a), .int .i64 (b)], .bool false]) (by simp [results, Tryz.results130, go_sem, r0, r1]) rfl ⟨a, b, false, rfl, (fun h => by cases h), b3 _ (extW.trans hE) (by omega)⟩
     ·have g3 : decide (0 < b) = false := decide_eq_false k3
      go_wp2_with fail
      obtain ⟨b1, b2, b3, b4⟩ := fin_ints (a := a) (b := b) (bz.ext hE);have r0 := b1.cell 0 (.int .i64 (a)) rfl;have r1 := b1.cell 1 (.int .i64 (b)) rfl;unfold set2 at r0 r1;exact bodyPost_ret (v := .tuple #[.agg #[.int .i64 (a), .int .i64 (b)], .bool false]) (by simp [results, Tryz.results130, go_sem, r0, r1]) rfl ⟨a, b, false, rfl, (fun h => by cases h), b3 _ (extW.trans hE) (by omega)⟩
    ·have g2 : decide (a < 2147483648) = false := decide_eq_false k2
     go_wp2_with fail
     obtain ⟨b1, b2, b3, b4⟩ := fin_ints (a := a) (b := b) (bz.ext hE);have r0 := b1.cell 0 (.int .i64 (a)) rfl;have r1 := b1.cell 1 (.int .i64 (b)) rfl;unfold set2 at r0 r1;exact bodyPost_ret (v := .tuple #[.agg #[.int .i64 (a), .int .i64 (b)], .bool false]) (by simp [results, Tryz.results130, go_sem, r0, r1]) rfl ⟨a, b, false, rfl, (fun h => by cases h), b3 _ (extW.trans hE) (by omega)⟩
   ·have g1 : decide (-2147483648 < a) = false := decide_eq_false k1
    go_wp2_with fail
    obtain ⟨b1, b2, b3, b4⟩ := fin_ints (a := a) (b := b) (bz.ext hE);have r0 := b1.cell 0 (.int .i64 (a)) rfl;have r1 := b1.cell 1 (.int .i64 (b)) rfl;unfold set2 at r0 r1;exact bodyPost_ret (v := .tuple #[.agg #[.int .i64 (a), .int .i64 (b)], .bool false]) (by simp [results, Tryz.results130, go_sem, r0, r1]) rfl ⟨a, b, false, rfl, (fun h => by cases h), b3 _ (extW.trans hE) (by omega)⟩
  ·have d2 : ((m : Int) != 1) = true := by rw [bne_iff_ne]; omega
   have z0 := (bz.ext hE).cell 0 _ rfl;have z1 := (bz.ext hE).cell 1 _ rfl;have f0 := (bz.ext hE).frozen 0;have f1 := (bz.ext hE).frozen 1
   go_wp2_with fail
   obtain ⟨b1, b2, b3, b4⟩ := fin_ints (a := 0) (b := 0) (bz.ext hE);have r0 := b1.cell 0 (.int .i64 (0)) rfl;have r1 := b1.cell 1 (.int .i64 (0)) rfl;unfold set2 at r0 r1;exact bodyPost_ret (v := .tuple #[.agg #[.int .i64 (0), .int .i64 (0)], .bool false]) (by simp [results, Tryz.results130, go_sem, r0, r1]) rfl ⟨0, 0, false, rfl, (fun h => by cases h), b3 _ (extW.trans hE) (by omega)⟩
 ·have d1 : decide ((1 : Int) < (n : Int)) = true := decide_eq_true (by omega)
  have d1' : decide (1 < n) = true := decide_eq_true (by omega);have z0 := (bz.ext hE).cell 0 _ rfl;have z1 := (bz.ext hE).cell 1 _ rfl;have f0 := (bz.ext hE).frozen 0;have f1 := (bz.ext hE).frozen 1
  go_wp2_with fail
  obtain ⟨b1, b2, b3, b4⟩ := fin_ints (a := 0) (b := 0) (bz.ext hE);have r0 := b1.cell 0 (.int .i64 (0)) rfl;have r1 := b1.cell 1 (.int .i64 (0)) rfl;unfold set2 at r0 r1;exact bodyPost_ret (v := .tuple #[.agg #[.int .i64 (0), .int .i64 (0)], .bool false]) (by simp [results, Tryz.results130, go_sem, r0, r1]) rfl ⟨0, 0, false, rfl, (fun h => by cases h), b3 _ (extW.trans hE) (by omega)⟩
theorem mul31 {a b : Int} (ha : a.natAbs < 2147483648) (hb : b.natAbs < 2147483648) : (a * b).natAbs < 4611686018427387904 := by
 rw [Int.natAbs_mul];have := Nat.mul_le_mul (Nat.le_of_lt_succ ha) (Nat.le_of_lt_succ hb);omega
theorem p_plus {a b a' b' : Int} (h : Sm q a b) (k : Sm p a' b') : Calls Tryz.prog 98 #[.agg #[.int .i64 a, .int .i64 b], .agg #[.int .i64 a', .int .i64 b']] w (RetNR (q + p) 2 w) := by
 obtain ⟨h1, h2, h3, h4⟩ := h;obtain ⟨k1, k2, k3, k4⟩ := k;have hb0 : 0 < b := by have := q.den_pos; omega
 have hb0' : 0 < b' := by have := p.den_pos; omega
 have m1 := mul31 h3 k4;have m2 := mul31 k3 h4;have m3 := mul31 h4 k4;have m4 := mul31 h3 k3;have hpos : 0 < b * b' := Int.mul_pos hb0 hb0'
 have hval : mkRat (a * b' + a' * b) (b * b').natAbs = q + p := by
  rw [Rat.add_def', Int.natAbs_mul, h1, h2, k1, k2, Int.natAbs_natCast, Int.natAbs_natCast]
 have Hval := Lib.hid hval;clear hval h1 h2 k1 k2;obtain ⟨u1, hu1⟩ : ∃ u, a * b' = u := ⟨_, rfl⟩;obtain ⟨u2, hu2⟩ : ∃ u, a' * b = u := ⟨_, rfl⟩;obtain ⟨u3, hu3⟩ : ∃ u, b * b' = u := ⟨_, rfl⟩;obtain ⟨u4, hu4⟩ : ∃ u, a * a' = u := ⟨_, rfl⟩;rw [hu1] at m1;rw [hu2] at m2;rw [hu3] at m3 hpos;rw [hu4] at m4;have Hu1 := Lib.hid hu1;have Hu2 := Lib.hid hu2;have Hu3 := Lib.hid hu3;have Hu4 := Lib.hid hu4;have w1 : IntKind.i64.wrap u1 = u1 := IntWalk.i64_in _ (by omega);have w2 : IntKind.i64.wrap u2 = u2 := IntWalk.i64_in _ (by omega);have w3 : IntKind.i64.wrap u3 = u3 := IntWalk.i64_in _ (by omega);have w4 : IntKind.i64.wrap u4 = u4 := IntWalk.i64_in _ (by omega);have v1 : wrap64 u1 = u1 := IntWalk.wrap64_in _ (by omega);have v2 : wrap64 u2 = u2 := IntWalk.wrap64_in _ (by omega);have v3 : wrap64 u3 = u3 := IntWalk.wrap64_in _ (by omega);have v4 : wrap64 u4 = u4 := IntWalk.wrap64_in _ (by omega);have w5 : IntKind.i64.wrap (u1 + u2) = u1 + u2 := IntWalk.i64_in _ (by omega);have v5 : wrap64 (u1 + u2) = u1 + u2 := IntWalk.wrap64_in _ (by omega)
 go_enter Tryz.func98, Tryz.ntmps98
 go_upto_region 1 with (fail)
 obtain ⟨W, hW, extW, bx, by_, bz, hz⟩ := box3 w 93 93 27 #[.int .i64 a, .int .i64 b] #[.int .i64 a', .int .i64 b'] #[Value.bool false, Value.slice none 0 0, Value.bool false, Value.slice none 0 0];rw [<- hW];clear hW;have x0 := bx.cell 0 (.int .i64 a) rfl;have x1 := bx.cell 1 (.int .i64 b) rfl;have y0 := by_.cell 0 (.int .i64 a') rfl;have y1 := by_.cell 1 (.int .i64 b') rfl
 go_wp2_with fail
 refine (p_lowest _ _ hpos (by omega) (by omega)).mono ?_;rintro e wa ⟨s, A, n, c, t, B, m, d, rfl, hr, hxa⟩;rw [<- Hu3.out] at hr;have z0 := (bz.ext hxa).cell 0 _ rfl;have z1 := (bz.ext hxa).cell 1 _ rfl;have z2 := (bz.ext hxa).cell 2 _ rfl;have z3 := (bz.ext hxa).cell 3 _ rfl;have f0 := (bz.ext hxa).frozen 0;have f1 := (bz.ext hxa).frozen 1;have f2 := (bz.ext hxa).frozen 2;have f3 := (bz.ext hxa).frozen 3
 go_wp2_with fail
 rw [<- Hu1.out, <- Hu2.out, Hval.out] at hr;obtain ⟨b1, b2, b3, b4⟩ := fin_quad (s := s) (A := A) (n := n) (c := c) (t := t) (B := B) (m := m) (d := d) (bz.ext hxa);have r0 := b1.cell 0 (.bool s) rfl;have r1 := b1.cell 1 (.slice A n c) rfl;have r2 := b1.cell 2 (.bool t) rfl;have r3 := b1.cell 3 (.slice B m d) rfl;unfold set4 at r0 r1 r2 r3;refine bodyPost_ret (v := .agg #[.bool s, .slice A n c, .bool t, .slice B m d]) (by simp [results, Tryz.results98, go_sem, r0, r1, r2, r3]) rfl ⟨s, A, n, c, t, B, m, d, rfl, ⟨?_, ?_⟩, b3 _ (extW.trans hxa) (by omega)⟩
 ·exact b2 _ _ _ _ _ _ hr.num
 ·exact b2 _ _ _ _ _ _ hr.den
theorem p_times {a b a' b' : Int} (h : Sm q a b) (k : Sm p a' b') : Calls Tryz.prog 107 #[.agg #[.int .i64 a, .int .i64 b], .agg #[.int .i64 a', .int .i64 b']] w (RetNR (q * p) 2 w) := by
 obtain ⟨h1, h2, h3, h4⟩ := h;obtain ⟨k1, k2, k3, k4⟩ := k;have hb0 : 0 < b := by have := q.den_pos; omega
 have hb0' : 0 < b' := by have := p.den_pos; omega
 have m1 := mul31 h3 k4;have m2 := mul31 k3 h4;have m3 := mul31 h4 k4;have m4 := mul31 h3 k3;have hpos : 0 < b * b' := Int.mul_pos hb0 hb0'
 have hval : mkRat (a * a') (b * b').natAbs = q * p := by
  rw [Rat.mul_def', Int.natAbs_mul, h1, h2, k1, k2, Int.natAbs_natCast, Int.natAbs_natCast]
 have Hval := Lib.hid hval;clear hval h1 h2 k1 k2;obtain ⟨u1, hu1⟩ : ∃ u, a * b' = u := ⟨_, rfl⟩;obtain ⟨u2, hu2⟩ : ∃ u, a' * b = u := ⟨_, rfl⟩;obtain ⟨u3, hu3⟩ : ∃ u, b * b' = u := ⟨_, rfl⟩;obtain ⟨u4, hu4⟩ : ∃ u, a * a' = u := ⟨_, rfl⟩;rw [hu1] at m1;rw [hu2] at m2;rw [hu3] at m3 hpos;rw [hu4] at m4;have Hu1 := Lib.hid hu1;have Hu2 := Lib.hid hu2;have Hu3 := Lib.hid hu3;have Hu4 := Lib.hid hu4;have w1 : IntKind.i64.wrap u1 = u1 := IntWalk.i64_in _ (by omega);have w2 : IntKind.i64.wrap u2 = u2 := IntWalk.i64_in _ (by omega);have w3 : IntKind.i64.wrap u3 = u3 := IntWalk.i64_in _ (by omega);have w4 : IntKind.i64.wrap u4 = u4 := IntWalk.i64_in _ (by omega);have v1 : wrap64 u1 = u1 := IntWalk.wrap64_in _ (by omega);have v2 : wrap64 u2 = u2 := IntWalk.wrap64_in _ (by omega);have v3 : wrap64 u3 = u3 := IntWalk.wrap64_in _ (by omega);have v4 : wrap64 u4 = u4 := IntWalk.wrap64_in _ (by omega);have w5 : IntKind.i64.wrap (u1 + u2) = u1 + u2 := IntWalk.i64_in _ (by omega);have v5 : wrap64 (u1 + u2) = u1 + u2 := IntWalk.wrap64_in _ (by omega)
 go_enter Tryz.func107, Tryz.ntmps107
 go_upto_region 1 with (fail)
 obtain ⟨W, hW, extW, bx, by_, bz, hz⟩ := box3 w 93 93 27 #[.int .i64 a, .int .i64 b] #[.int .i64 a', .int .i64 b'] #[Value.bool false, Value.slice none 0 0, Value.bool false, Value.slice none 0 0];rw [<- hW];clear hW;have x0 := bx.cell 0 (.int .i64 a) rfl;have x1 := bx.cell 1 (.int .i64 b) rfl;have y0 := by_.cell 0 (.int .i64 a') rfl;have y1 := by_.cell 1 (.int .i64 b') rfl
 go_wp2_with fail
 refine (p_lowest _ _ hpos (by omega) (by omega)).mono ?_;rintro e wa ⟨s, A, n, c, t, B, m, d, rfl, hr, hxa⟩;rw [<- Hu3.out] at hr;have z0 := (bz.ext hxa).cell 0 _ rfl;have z1 := (bz.ext hxa).cell 1 _ rfl;have z2 := (bz.ext hxa).cell 2 _ rfl;have z3 := (bz.ext hxa).cell 3 _ rfl;have f0 := (bz.ext hxa).frozen 0;have f1 := (bz.ext hxa).frozen 1;have f2 := (bz.ext hxa).frozen 2;have f3 := (bz.ext hxa).frozen 3
 go_wp2_with fail
 rw [<- Hu4.out, Hval.out] at hr;obtain ⟨b1, b2, b3, b4⟩ := fin_quad (s := s) (A := A) (n := n) (c := c) (t := t) (B := B) (m := m) (d := d) (bz.ext hxa);have r0 := b1.cell 0 (.bool s) rfl;have r1 := b1.cell 1 (.slice A n c) rfl;have r2 := b1.cell 2 (.bool t) rfl;have r3 := b1.cell 3 (.slice B m d) rfl;unfold set4 at r0 r1 r2 r3;refine bodyPost_ret (v := .agg #[.bool s, .slice A n c, .bool t, .slice B m d]) (by simp [results, Tryz.results107, go_sem, r0, r1, r2, r3]) rfl ⟨s, A, n, c, t, B, m, d, rfl, ⟨?_, ?_⟩, b3 _ (extW.trans hxa) (by omega)⟩
 ·exact b2 _ _ _ _ _ _ hr.num
 ·exact b2 _ _ _ _ _ _ hr.den
end
theorem Hd.take {P : Program} {ops : Array Oper} {Q : Exit -> Act -> World -> Prop} {md : Region.Mode} {S : World -> Prop} {n i : Nat} {oi : Oper} {d : Option Tmp} {v : Value} {L : Array Bool} {a : Act} {w : World} (hi : ops[i]? = some oi) (hd : oi.dst = d) (hs : Region.noSelect ops = true)
  (hf : Region.free md ops L i = true) (hr : (Region.ready md ops L).contains i = true) (hQ : QStill Q) (hy : YieldsIf P ops S oi v a) (hS : S w) (h : wpAnyH P md ops Q S n (L.setIfInBounds i true) (a.put d v) w) : wpAnyH P md ops Q S (n + 1) L a w := by
 subst hd;exact wpAnyH_first hi (Region.noSelect_spec hs) (fun c a w => (hQ.put c a _ _ w).1) n L a w (fun j oj hj hne hun hno => Region.free_spec hi hf j oj hj hne hun hno) (by simpa using hr) hy hS h
section
variable {w w' : World} {z y : Int} {q p : Rat} {L M : Nat} {s t s' t' : Bool} {A B A' B' : Option Addr} {n c m d n' c' m' d' : Nat}
theorem fin_pairs {w2 : World} {g k : Nat} {T : TypeId} {x y u v a b c d : Int} (hb : Box w2 g T #[.int .i64 x, .int .i64 y]) (hc : Box w2 k T #[.int .i64 u, .int .i64 v]) (hne : g ≠ k) :
  Box (set2 (set2 w2 g (.int .i64 a) (.int .i64 b)) k (.int .i64 c) (.int .i64 d)) g T #[.int .i64 a, .int .i64 b] /\
  Box (set2 (set2 w2 g (.int .i64 a) (.int .i64 b)) k (.int .i64 c) (.int .i64 d)) k T #[.int .i64 c, .int .i64 d] /\
  (∀ W, Ext W w2 -> W.heap.size <= g -> W.heap.size <= k -> Ext W (set2 (set2 w2 g (.int .i64 a) (.int .i64 b)) k (.int .i64 c) (.int .i64 d))) /\ True := by
 obtain ⟨h1, _, h3, h4⟩ := fin_ints (a := a) (b := b) hb;obtain ⟨j1, _, j3, j4⟩ := fin_ints (a := c) (b := d) (h4 k _ _ (Ne.symm hne) hc);exact ⟨j4 g _ _ hne h1, j1, fun W e hg hk => j3 W (h3 W e hg) hk, trivial⟩
def RetPair (q p : Rat) (w : World) (e : Ending) (w' : World) : Prop := ∃ a b c d ok, e = .returned (.tuple #[.agg #[.int .i64 a, .int .i64 b], .agg #[.int .i64 c, .int .i64 d], .bool ok]) /\ (ok = true -> Sm q a b /\ Sm p c d) /\ Ext w w'
theorem p_smallPair (h : NR w q L s A n c t B m d) (k : NR w p M s' A' n' c' t' B' m' d') (hL : L <= 20000) (hM : M <= 20000) : Calls Tryz.prog 97 #[.agg #[.bool s, .slice A n c, .bool t, .slice B m d], .agg #[.bool s', .slice A' n' c', .bool t', .slice B' m' d']] w (RetPair q p w) := by
 go_enter Tryz.func97, Tryz.ntmps97
 go_upto_region 1 with (fail)
 obtain ⟨W, hW, extW, bx, by_, b4, b5, hz⟩ := box4 w 27 27 93 93 #[.bool s, .slice A n c, .bool t, .slice B m d] #[.bool s', .slice A' n' c', .bool t', .slice B' m' d'] #[Value.int .i64 0, Value.int .i64 0] #[Value.int .i64 0, Value.int .i64 0];rw [<- hW];clear hW;have x0 := bx.cell 0 (.bool s) rfl;have x1 := bx.cell 1 (.slice A n c) rfl;have x2 := bx.cell 2 (.bool t) rfl;have x3 := bx.cell 3 (.slice B m d) rfl
 go_wp2_with fail
 refine (p_toSmall (h.ext extW) hL).mono ?_;rintro e wa ⟨a1, a2, ok1, rfl, hok1, hxa⟩;clear x0 x1 x2 x3
 go_upto_region 2 with (fail)
 refine at_world (fun V => Ext W V /\ Box V wa.heap.size 93 #[.int .i64 a1, .int .i64 a2]) ⟨hxa.alloc _, Box.new wa _ _⟩ ?_;have hg7 : w.heap.size + 4 <= wa.heap.size := Nat.le_trans hz hxa.size;generalize wa.heap.size = g7 at hg7 ⊢;rintro V ⟨EV, x7⟩;replace bx := bx.ext EV;replace by_ := by_.ext EV;replace b4 := b4.ext EV;replace b5 := b5.ext EV;replace extW := extW.trans EV;have Hok1 := Lib.hid hok1;clear hok1 EV hxa
 cases ok1 with
 | false =>
  have hE := Ext.refl V;have z0 := (b4.ext hE).cell 0 _ rfl;have z1 := (b4.ext hE).cell 1 _ rfl;have f0 := (b4.ext hE).frozen 0;have f1 := (b4.ext hE).frozen 1;have z2 := (b5.ext hE).cell 0 _ rfl;have z3 := (b5.ext hE).cell 1 _ rfl;have f2 := (b5.ext hE).frozen 0;have f3 := (b5.ext hE).frozen 1
  go_wp2_with fail
  obtain ⟨k1, k2, k3, _⟩ := fin_pairs (a := 0) (b := 0) (c := 0) (d := 0) (b4.ext hE) (b5.ext hE) (by omega);have r0 := k1.cell 0 (.int .i64 (0)) rfl;have r1 := k1.cell 1 (.int .i64 (0)) rfl;have r2 := k2.cell 0 (.int .i64 (0)) rfl;have r3 := k2.cell 1 (.int .i64 (0)) rfl;unfold set2 at r0 r1 r2 r3;exact bodyPost_ret (v := .tuple #[.agg #[.int .i64 (0), .int .i64 (0)], .agg #[.int .i64 (0), .int .i64 (0)], .bool false]) (by simp [results, Tryz.results97, go_sem, r0, r1, r2, r3]) rfl ⟨0, 0, 0, 0, false, rfl, (fun h => by cases h), k3 _ (extW.trans hE) (by omega) (by omega)⟩
 | true =>
  have y0 := by_.cell 0 (.bool s') rfl;have y1 := by_.cell 1 (.slice A' n' c') rfl;have y2 := by_.cell 2 (.bool t') rfl;have y3 := by_.cell 3 (.slice B' m' d') rfl
  go_wp2_with fail
  refine (p_toSmall (k.ext extW) hM).mono ?_;rintro e wb ⟨c1, c2, ok2, rfl, hok2, hxb⟩;clear y0 y1 y2 y3;have Hok2 := Lib.hid hok2;clear hok2
  go_upto_region 5 with (fail)
  refine at_world (fun V9 => Ext V V9 /\ Box V9 wb.heap.size 93 #[.int .i64 c1, .int .i64 c2]) ⟨hxb.alloc _, Box.new wb _ _⟩ ?_;have hg9 : w.heap.size + 4 <= wb.heap.size := by have := hxb.size; have := x7.lt; omega
  generalize wb.heap.size = g9 at hg9 ⊢;rintro V9 ⟨EV, x9⟩;replace x7 := x7.ext EV;replace b4 := b4.ext EV;replace b5 := b5.ext EV;replace extW := extW.trans EV;clear EV hxb;have hE := Ext.refl V9;have x70 := x7.cell 0 (.int .i64 a1) rfl;have x71 := x7.cell 1 (.int .i64 a2) rfl;have x90 := x9.cell 0 (.int .i64 c1) rfl;have x91 := x9.cell 1 (.int .i64 c2) rfl;have l7 : w.heap.size + 4 <= g7 := hg7;have l9 : w.heap.size + 4 <= g9 := hg9;have z0 := (b4.ext hE).cell 0 _ rfl;have z1 := (b4.ext hE).cell 1 _ rfl;have f0 := (b4.ext hE).frozen 0;have f1 := (b4.ext hE).frozen 1;have z2 := (b5.ext hE).cell 0 _ rfl;have z3 := (b5.ext hE).cell 1 _ rfl;have f2 := (b5.ext hE).frozen 0;have f3 := (b5.ext hE).frozen 1;refine wp_region_held_drew (S := (fun U => Box U g7 93 #[.int .i64 a1, .int .i64 a2] /\ Box U g9 93 #[.int .i64 c1, .int .i64 c2])) (by kernel_rfl) ⟨x7.ext hE.drew, x9.ext hE.drew⟩ (fun HS => ?_);refine Hd.take (i := 0) (d := some 24) (v := ?v_0) rfl rfl (by kernel_rfl) (by kernel_rfl) (by kernel_rfl) (fun _ _ _ _ _ => ⟨fun h => h, fun h => h⟩) (Or.inl ⟨by rfl, ?y_0⟩) HS ?r_0
  case y_0 => intro w' hSw;have k0 := hSw.1.cell 0 _ rfl;have k1 := hSw.1.cell 1 _ rfl;have k2 := hSw.2.cell 0 _ rfl;have k3 := hSw.2.cell 1 _ rfl;go_simp;try with_reducible rfl
  try simp only [zP]
  refine Hd.take (i := 1) (d := some 25) (v := ?v_1) rfl rfl (by kernel_rfl) (by kernel_rfl) (by kernel_rfl) (fun _ _ _ _ _ => ⟨fun h => h, fun h => h⟩) (Or.inl ⟨by rfl, ?y_1⟩) HS ?r_1
  case y_1 => intro w' hSw;have k0 := hSw.1.cell 0 _ rfl;have k1 := hSw.1.cell 1 _ rfl;have k2 := hSw.2.cell 0 _ rfl;have k3 := hSw.2.cell 1 _ rfl;go_simp;try with_reducible rfl
  try simp only [zP]
  refine Hd.take (i := 2) (d := some 26) (v := ?v_2) rfl rfl (by kernel_rfl) (by kernel_rfl) (by kernel_rfl) (fun _ _ _ _ _ => ⟨fun h => h, fun h => h⟩) (Or.inl ⟨by rfl, ?y_2⟩) HS ?r_2
  case y_2 => intro w' hSw;have k0 := hSw.1.cell 0 _ rfl;have k1 := hSw.1.cell 1 _ rfl;have k2 := hSw.2.cell 0 _ rfl;have k3 := hSw.2.cell 1 _ rfl;go_simp;try with_reducible rfl
  try simp only [zP]
  have e4 := fin_ints (a := a1) (b := a2) b4;refine wpAnyH_ready (rs := [3]) (by kernel_rfl) (by simp) (AllReadyH.cons rfl (fun K hK => ?_) AllReadyH.nil);go_simp;refine hK.out _ _ ⟨(e4.2.2.2 _ _ _ (by omega) x7).ext (Ext.refl _).drew, (e4.2.2.2 _ _ _ (by omega) x9).ext (Ext.refl _).drew⟩ (fun _ => ?_);clear hK K
  try simp only [zP]
  have e5 := e4.2.2.2 _ _ _ (by omega) b5;have z40 := e5.cell 0 _ rfl;have z41 := e5.cell 1 _ rfl;have z42 := e5.frozen 0;have z43 := e5.frozen 1;have e6 := fin_ints (a := c1) (b := c2) e5;unfold set2 at z40 z41 z42 z43;refine wpAnyH_ready (rs := [4]) (by kernel_rfl) (by simp) (AllReadyH.cons rfl (fun K hK => ?_) AllReadyH.nil);go_simp;refine hK.out _ _ ⟨(e6.2.2.2 _ _ _ (by omega) (e4.2.2.2 _ _ _ (by omega) x7)).ext (Ext.refl _).drew, (e6.2.2.2 _ _ _ (by omega) (e4.2.2.2 _ _ _ (by omega) x9)).ext (Ext.refl _).drew⟩ (fun _ => ?_);clear hK K
  try simp only [zP]
  refine wpAnyH_ready (rs := [5]) (by kernel_rfl) (by simp) (AllReadyH.cons rfl (fun K hK => ?_) AllReadyH.nil);go_simp;refine hK.out _ _ ⟨(e6.2.2.2 _ _ _ (by omega) (e4.2.2.2 _ _ _ (by omega) x7)).ext (Ext.refl _).drew, (e6.2.2.2 _ _ _ (by omega) (e4.2.2.2 _ _ _ (by omega) x9)).ext (Ext.refl _).drew⟩ (fun _ => ?_);clear hK K
  try simp only [zP]
  refine wpAnyH_done (by kernel_rfl) ?_ _
  go_wp2_with fail
  obtain ⟨k1, k2, k3, _⟩ := fin_pairs (a := a1) (b := a2) (c := c1) (d := c2) (b4.ext hE) (b5.ext hE) (by omega);have r0 := k1.cell 0 (.int .i64 (a1)) rfl;have r1 := k1.cell 1 (.int .i64 (a2)) rfl;have r2 := k2.cell 0 (.int .i64 (c1)) rfl;have r3 := k2.cell 1 (.int .i64 (c2)) rfl;unfold set2 at r0 r1 r2 r3;exact bodyPost_ret (v := .tuple #[.agg #[.int .i64 (a1), .int .i64 (a2)], .agg #[.int .i64 (c1), .int .i64 (c2)], .bool ok2]) (by simp [results, Tryz.results97, go_sem, r0, r1, r2, r3]) rfl ⟨a1, a2, c1, c2, ok2, rfl, (fun h => ⟨Hok1.out (by first | rfl | trivial), Hok2.out h⟩), (k3 _ (extW.trans hE) (by omega) (by omega)).drew⟩
end
section
variable {w w' : World} {z y : Int} {q p : Rat} {L M : Nat} {s t s' t' : Bool} {A B A' B' : Option Addr} {n c m d n' c' m' d' : Nat}
theorem rat_add_one {q p : Rat} (h1 : (q.den : Int) = 1) (h2 : (p.den : Int) = 1) : ((q.num + p.num : Int) : Rat) = q + p := by
 have e1 : q.den = 1 := by omega
 have e2 : p.den = 1 := by omega
 rw [Rat.add_def', e1, e2];simp [Rat.mkRat_one]
theorem NR.pos (h : NR w q L s A n c t B m d) : 1 <= L := by
 have h1 := h.den.zero;have h2 := h.den.size;have h3 := q.den_nz;omega
set_option maxRecDepth 100000 in
theorem p_AddR (h : NR w q L s A n c t B m d) (k : NR w p M s' A' n' c' t' B' m' d') (hL : L <= 1000) (hM : M <= 1000) (h64 : min L M < 64) (hT : Tab w) : Calls Tryz.prog 53 #[.agg #[.bool s, .slice A n c, .bool t, .slice B m d], .agg #[.bool s', .slice A' n' c', .bool t', .slice B' m' d']] w (RetNR (q + p) (L + M + 1) w) := by
 have hL1 := h.pos;have hM1 := k.pos;replace hL : L <= 1000 := hL
 go_enter Tryz.func53, Tryz.ntmps53
 go_upto_region 1 with (fail)
 obtain ⟨W, hW, extW, bx, by_, bz, hz⟩ := box3 w 27 27 27 #[.bool s, .slice A n c, .bool t, .slice B m d] #[.bool s', .slice A' n' c', .bool t', .slice B' m' d'] #[Value.bool false, Value.slice none 0 0, Value.bool false, Value.slice none 0 0];rw [<- hW];clear hW;replace h := h.ext extW;replace k := k.ext extW;have x0 := bx.cell 0 (.bool s) rfl;have x1 := bx.cell 1 (.slice A n c) rfl;have x2 := bx.cell 2 (.bool t) rfl;have x3 := bx.cell 3 (.slice B m d) rfl;have y0 := by_.cell 0 (.bool s') rfl;have y1 := by_.cell 1 (.slice A' n' c') rfl;have y2 := by_.cell 2 (.bool t') rfl;have y3 := by_.cell 3 (.slice B' m' d') rfl
 go_wp2_with fail
 refine (p_smallPair h k (by omega) (by omega)).mono ?_;rintro e wa ⟨a1, a2, c1, c2, ok, rfl, hok, hxa⟩;have Hok := Lib.hid hok;clear hok;clear x0 x1 x2 x3;clear y0 y1 y2 y3
 go_upto_region 2 with (fail)
 refine at_world (fun V => Ext W V /\ Box V wa.heap.size 93 #[.int .i64 a1, .int .i64 a2] /\ Box V (wa.heap.size + 1) 93 #[.int .i64 c1, .int .i64 c2]) ?_ ?_
 ·obtain ⟨e1, e2, e3⟩ := two_new wa 93 #[.int .i64 a1, .int .i64 a2] #[.int .i64 c1, .int .i64 c2]
  exact ⟨hxa.trans e1, e2, e3⟩
 generalize wa.heap.size = g5;clear hxa;rintro V ⟨EV, b5, b6⟩;replace bx := bx.ext EV;replace by_ := by_.ext EV;replace bz := bz.ext EV;replace h := h.ext EV;replace k := k.ext EV;replace extW := extW.trans EV;clear EV
 cases ok with
 | true =>
  obtain ⟨sm1, sm2⟩ := Hok.out (by first | rfl | trivial);have j0 := b5.cell 0 (.int .i64 a1) rfl;have j1 := b5.cell 1 (.int .i64 a2) rfl;have j2 := b6.cell 0 (.int .i64 c1) rfl;have j3 := b6.cell 1 (.int .i64 c2) rfl
  go_wp2_with fail
  refine (p_plus sm1 sm2).mono ?_;rintro e wb ⟨s1, A1, n1, c1', t1, B1, m1, d1, rfl, hr, hxb⟩;have z0 := (bz.ext hxb).cell 0 _ rfl;have z1 := (bz.ext hxb).cell 1 _ rfl;have z2 := (bz.ext hxb).cell 2 _ rfl;have z3 := (bz.ext hxb).cell 3 _ rfl;have f0 := (bz.ext hxb).frozen 0;have f1 := (bz.ext hxb).frozen 1;have f2 := (bz.ext hxb).frozen 2;have f3 := (bz.ext hxb).frozen 3
  go_wp2_with fail
  obtain ⟨b1, b2, b3, b4⟩ := fin_quad (s := s1) (A := A1) (n := n1) (c := c1') (t := t1) (B := B1) (m := m1) (d := d1) (bz.ext hxb);have r0 := b1.cell 0 (.bool s1) rfl;have r1 := b1.cell 1 (.slice A1 n1 c1') rfl;have r2 := b1.cell 2 (.bool t1) rfl;have r3 := b1.cell 3 (.slice B1 m1 d1) rfl;unfold set4 at r0 r1 r2 r3;refine bodyPost_ret (v := .agg #[.bool s1, .slice A1 n1 c1', .bool t1, .slice B1 m1 d1]) (by simp [results, Tryz.results53, go_sem, r0, r1, r2, r3]) rfl ⟨s1, A1, n1, c1', t1, B1, m1, d1, rfl, ⟨?_, ?_⟩, b3 _ (extW.trans hxb) (by omega)⟩
  ·exact (b2 _ _ _ _ _ _ hr.num).le (by omega)
  ·exact (b2 _ _ _ _ _ _ hr.den).le (by omega)
 | false =>
  have x2 := bx.cell 2 (.bool t) rfl;have x3 := bx.cell 3 (.slice B m d) rfl
  go_wp2_with fail
  refine (p_isOne h.den).mono ?_;rintro e wb ⟨rfl, hxb⟩;replace bx := bx.ext hxb;replace by_ := by_.ext hxb;replace bz := bz.ext hxb;replace h := h.ext hxb;replace k := k.ext hxb;replace extW := extW.trans hxb;clear hxb x2 x3
  by_cases h1 : (q.den : Int) = 1
  ·rw [decide_eq_true h1]
   have H1 := Lib.hid h1;clear h1;have y2 := by_.cell 2 (.bool t') rfl;have y3 := by_.cell 3 (.slice B' m' d') rfl
   go_wp2_with fail
   refine (p_isOne k.den).mono ?_;rintro e V0 ⟨rfl, hxc⟩;replace bx := bx.ext hxc;replace by_ := by_.ext hxc;replace bz := bz.ext hxc;replace h := h.ext hxc;replace k := k.ext hxc;replace extW := extW.trans hxc;clear hxc y2 y3
   by_cases h2 : (p.den : Int) = 1
   ·rw [decide_eq_true h2]
    have H2 := Lib.hid h2;clear h2;have x0 := bx.cell 0 (.bool s) rfl;have x1 := bx.cell 1 (.slice A n c) rfl;have y0 := by_.cell 0 (.bool s') rfl;have y1 := by_.cell 1 (.slice A' n' c') rfl
    go_wp2_with fail
    refine (p_Add h.num k.num (by omega) (by omega)).mono ?_;rintro e we ⟨s1, A1, n1, c1', rfl, hn1, hxe⟩
    go_wp2_with fail
    refine (p_whole hn1).mono ?_;rintro e wf ⟨s2, A2, n2, c2', t2, B2, m2, d2, rfl, hr, hxf⟩;have hE := hxe.trans hxf;have z0 := (bz.ext hE).cell 0 _ rfl;have z1 := (bz.ext hE).cell 1 _ rfl;have z2 := (bz.ext hE).cell 2 _ rfl;have z3 := (bz.ext hE).cell 3 _ rfl;have f0 := (bz.ext hE).frozen 0;have f1 := (bz.ext hE).frozen 1;have f2 := (bz.ext hE).frozen 2;have f3 := (bz.ext hE).frozen 3
    go_wp2_with fail
    have hqp : ((q.num + p.num : Int) : Rat) = q + p := rat_add_one H1.out H2.out;rw [hqp] at hr;obtain ⟨b1, b2, b3, b4⟩ := fin_quad (s := s2) (A := A2) (n := n2) (c := c2') (t := t2) (B := B2) (m := m2) (d := d2) (bz.ext hE);have r0 := b1.cell 0 (.bool s2) rfl;have r1 := b1.cell 1 (.slice A2 n2 c2') rfl;have r2 := b1.cell 2 (.bool t2) rfl;have r3 := b1.cell 3 (.slice B2 m2 d2) rfl;unfold set4 at r0 r1 r2 r3;refine bodyPost_ret (v := .agg #[.bool s2, .slice A2 n2 c2', .bool t2, .slice B2 m2 d2]) (by simp [results, Tryz.results53, go_sem, r0, r1, r2, r3]) rfl ⟨s2, A2, n2, c2', t2, B2, m2, d2, rfl, ⟨?_, ?_⟩, b3 _ (extW.trans hE) (by omega)⟩
    ·exact (b2 _ _ _ _ _ _ hr.num).le (by omega)
    ·exact (b2 _ _ _ _ _ _ hr.den).le (by omega)
   ·rw [decide_eq_false h2]
    clear h2;have x0 := bx.cell 0 (.bool s) rfl;have x1 := bx.cell 1 (.slice A n c) rfl;have x2 := bx.cell 2 (.bool t) rfl;have x3 := bx.cell 3 (.slice B m d) rfl;have y0 := by_.cell 0 (.bool s') rfl;have y1 := by_.cell 1 (.slice A' n' c') rfl;have y2 := by_.cell 2 (.bool t') rfl;have y3 := by_.cell 3 (.slice B' m' d') rfl
    go_wp2_with fail
    refine (p_GCD h.den k.den (by omega) (by omega) (hT.ext extW)).mono ?_;rintro e we ⟨s1, A1, n1, c1', rfl, hg, hxe⟩;rw [Int.natAbs_natCast, Int.natAbs_natCast] at hg;obtain ⟨g, hge⟩ : ∃ g, Nat.gcd q.den p.den = g := ⟨_, rfl⟩;rw [hge] at hg;have hgq : g ∣ q.den := by rw [<- hge]; exact Nat.gcd_dvd_left _ _
    have hgp : g ∣ p.den := by rw [<- hge]; exact Nat.gcd_dvd_right _ _
    have hg0 : (g : Int) ≠ 0 := by
     intro h0;have : g = 0 := by omega
     rw [this] at hgq;have := Nat.eq_zero_of_zero_dvd hgq;exact q.den_nz this
    have Hge := Lib.hid hge.symm;have Hg0 := Lib.hid hg0;have Hgq := Lib.hid (Int.ofNat_dvd.2 hgq);have Hgp := Lib.hid (Int.ofNat_dvd.2 hgp);clear hge hg0 hgq hgp;clear x0 x1 x2 x3;clear y0 y1 y2 y3
    go_upto_region 7 with (fail)
    refine at_world (fun V7 => Ext V0 V7 /\ Box V7 we.heap.size 25 #[.bool s1, .slice A1 n1 c1'] /\ NI V7 (g : Int) (max L M) s1 A1 n1 c1') ⟨hxe.alloc _, Box.new we _ _, hg.ext ((Ext.refl we).alloc _)⟩ ?_;generalize we.heap.size = g8;clear hxe hg;rintro V7 ⟨EV, b8, hg⟩;replace bx := bx.ext EV;replace by_ := by_.ext EV;replace bz := bz.ext EV;replace h := h.ext EV;replace k := k.ext EV;replace extW := extW.trans EV;clear EV;have x0 := bx.cell 0 (.bool s) rfl;have x1 := bx.cell 1 (.slice A n c) rfl;have x2 := bx.cell 2 (.bool t) rfl;have x3 := bx.cell 3 (.slice B m d) rfl;have j0 := b8.cell 0 (.bool s1) rfl;have j1 := b8.cell 1 (.slice A1 n1 c1') rfl
    go_wp2_with fail
    refine (p_divide h.den hg (by omega) (by omega) Hg0.out Hgq.out).mono ?_;rintro e wf ⟨s2, A2, n2, c2', rfl, hD1, hxf⟩;clear x0 x1 x2 x3;clear j0 j1
    go_upto_region 8 with (fail)
    refine at_world (fun V9 => Ext V7 V9 /\ Box V9 wf.heap.size 25 #[.bool s2, .slice A2 n2 c2'] /\ NI V9 ((q.den : Int) / (g : Int)) L s2 A2 n2 c2') ⟨hxf.alloc _, Box.new wf _ _, hD1.ext ((Ext.refl wf).alloc _)⟩ ?_;generalize wf.heap.size = g9;clear hxf hD1;rintro V9 ⟨EV, b9, hD1⟩;replace bx := bx.ext EV;replace by_ := by_.ext EV;replace bz := bz.ext EV;replace b8 := b8.ext EV;replace h := h.ext EV;replace k := k.ext EV;replace hg := hg.ext EV;replace extW := extW.trans EV;clear EV
    go_wp2_with fail
    have ES0 := Ext.refl V9;refine wp_region_held_drew (S := Ext V9) (by kernel_rfl) ES0.drew (fun ES => ?_);clear ES0;refine Late.start1 (x := ⟨12, 10, 25, #[Value.bool false, Value.slice none 0 0]⟩) (n := 13) ⟨_, rfl, rfl, rfl, fun a w => by go_simp⟩ (fun _ _ _ _ _ => ⟨fun h => h, fun h => h⟩) ES rfl (fun hAl hQ => ?_);refine Late.tk (i := 0) (d := some 46) (v := ?v_0) rfl rfl hQ (Or.inl ⟨by rfl, ?y_0⟩) ?_
    case y_0 => intro w' hSw;go_simp;try with_reducible rfl
    try simp only [zP]
    refine Late.tk (i := 2) (d := some 48) (v := ?v_1) rfl rfl hQ (Or.inl ⟨by rfl, ?y_1⟩) ?_
    case y_1 => intro w' hSw;go_simp;try with_reducible rfl
    try simp only [zP]
    refine Late.tk (i := 4) (d := some 50) (v := ?v_2) rfl rfl hQ (Or.inl ⟨by rfl, ?y_2⟩) ?_
    case y_2 => intro w' hSw;have k00 := (bx.ext hSw).c4;have k10 := (by_.ext hSw).c4;have k20 := (b8.ext hSw).c2;have k30 := (b9.ext hSw).c2;go_simp;try with_reducible rfl
    try simp only [zP]
    refine Late.tk (i := 7) (d := some 53) (v := ?v_3) rfl rfl hQ (Or.inl ⟨by rfl, ?y_3⟩) ?_
    case y_3 => intro w' hSw;go_simp;try with_reducible rfl
    try simp only [zP]
    refine Late.tk (i := 9) (d := some 55) (v := ?v_4) rfl rfl hQ (Or.inl ⟨by rfl, ?y_4⟩) ?_
    case y_4 => intro w' hSw;have k00 := (bx.ext hSw).c4;have k10 := (by_.ext hSw).c4;have k20 := (b8.ext hSw).c2;have k30 := (b9.ext hSw).c2;go_simp;try with_reducible rfl
    try simp only [zP]
    refine Late.tk (i := 1) (d := some 47) (v := ?v_5) rfl rfl hQ (Or.inl ⟨by rfl, ?y_5⟩) ?_
    case y_5 => intro w' hSw;have k00 := (bx.ext hSw).c4;have k10 := (by_.ext hSw).c4;have k20 := (b8.ext hSw).c2;have k30 := (b9.ext hSw).c2;go_simp;try with_reducible rfl
    try simp only [zP]
    refine Late.tk (i := 3) (d := some 49) (v := ?v_6) rfl rfl hQ (Or.inl ⟨by rfl, ?y_6⟩) ?_
    case y_6 => intro w' hSw;have k00 := (bx.ext hSw).c4;have k10 := (by_.ext hSw).c4;have k20 := (b8.ext hSw).c2;have k30 := (b9.ext hSw).c2;go_simp;try with_reducible rfl
    try simp only [zP]
    refine Late.tk (i := 8) (d := some 54) (v := ?v_7) rfl rfl hQ (Or.inl ⟨by rfl, ?y_7⟩) ?_
    case y_7 => intro w' hSw;have k00 := (bx.ext hSw).c4;have k10 := (by_.ext hSw).c4;have k20 := (b8.ext hSw).c2;have k30 := (b9.ext hSw).c2;go_simp;try with_reducible rfl
    try simp only [zP]
    refine Late.cl (i := 5) rfl hAl hQ (fun w5 e5 E5 K hK => ?_);go_simp
    (go_at_call 103; refine (p_divide (k.den.ext E5) (hg.ext E5) (by omega) (by omega) Hg0.out Hgp.out).mono ?_; rintro e wk1 ⟨s1x, A1x, n1x, c1x, rfl, h1, hx5⟩)
    refine hK.out _ _ hx5 ?_;clear hK K
    try simp only [zP]
    refine Late.cl (i := 6) rfl hAl hQ (fun w6 e6 E6 K hK => ?_);go_simp
    (go_at_call 64; refine (p_Mul (h.num.ext E6) (h1.ext e6) (by omega) (by omega) (by omega)).mono ?_; rintro e wk2 ⟨s2x, A2x, n2x, c2x, rfl, h2, hx6⟩)
    refine hK.out _ _ hx6 ?_;clear hK K
    try simp only [zP]
    refine Late.cl (i := 10) rfl hAl hQ (fun w10 e10 E10 K hK => ?_);go_simp
    (go_at_call 64; refine (p_Mul (k.num.ext E10) (hD1.ext E10) (by omega) (by omega) (by omega)).mono ?_; rintro e wk3 ⟨s3, A3, n3, c3, rfl, h3, hx10⟩)
    refine hK.out _ _ hx10 ?_;clear hK K
    try simp only [zP]
    refine Late.cl (i := 11) rfl hAl hQ (fun w11 e11 E11 K hK => ?_);go_simp
    (go_at_call 101; refine (p_Add (h2.ext (e10.trans (hx10.trans e11))) (h3.ext e11) (by omega) (by omega)).mono ?_; rintro e wk4 ⟨s4, A4, n4, c4, rfl, h4, hx11⟩)
    refine hK.out _ _ hx11 ?_;clear hK K
    try simp only [zP]
    refine Late.finish1 (hAl _ (by simp)) (by kernel_rfl) (fun wz g10 ez Ez lg5 xb1 => ?_);clear hAl hQ ES;have f10 := xb1.cell 0 (Value.bool false) rfl;have f11 := xb1.cell 1 (Value.slice none 0 0) rfl;have f12 := xb1.frozen 0;have f13 := xb1.frozen 1;have e4 := fin_dual (s := s4) (A := A4) (n := n4) (c := c4) xb1
    try simp only [zP]
    refine wpAnyH_ready (rs := [13]) (by kernel_rfl) (by simp) (AllReadyH.cons rfl (fun K hK => ?_) AllReadyH.nil);go_simp;refine hK.out _ _ (e4.2.2.1 _ Ez lg5) (fun _ => ?_);clear hK K
    try simp only [zP]
    refine any_world (fun U => Ext V9 U /\ Box U g10 25 #[.bool s4, .slice A4 n4 c4] /\ NI U (q.num * ((p.den : Int) / (g : Int)) + p.num * ((q.den : Int) / (g : Int))) (L + M + 1) s4 A4 n4 c4) ⟨e4.2.2.1 _ Ez lg5, e4.1, (e4.2.1 _ _ _ _ _ _ (h4.ext ez)).le (by omega)⟩ ?_;clear e4 f10 f11 f12 f13 xb1 lg5;rintro U ⟨EU, b10, hS⟩;refine wpAnyH_done (by kernel_rfl) ?_ _;replace bx := bx.ext EU;replace by_ := by_.ext EU;replace bz := bz.ext EU;replace b8 := b8.ext EU;replace b9 := b9.ext EU;replace h := h.ext EU;replace k := k.ext EU;replace hg := hg.ext EU;replace hD1 := hD1.ext EU;replace extW := extW.trans EU;clear EU Ez ez;have j0 := b10.cell 0 (.bool s4) rfl;have j1 := b10.cell 1 (.slice A4 n4 c4) rfl;have j2 := b8.cell 0 (.bool s1) rfl;have j3 := b8.cell 1 (.slice A1 n1 c1') rfl
    go_wp2_with fail
    refine (p_GCD hS hg (by omega) (by omega) (hT.ext extW)).mono ?_;rintro e wg ⟨s5, A5, n5, c5, rfl, hr, hxg⟩;rw [Int.natAbs_natCast] at hr;clear j0 j1 j2 j3;obtain ⟨S, hSe⟩ : ∃ S : Int, q.num * ((p.den : Int) / (g : Int)) + p.num * ((q.den : Int) / (g : Int)) = S := ⟨_, rfl⟩;rw [hSe] at hS hr;obtain ⟨r, hre⟩ : ∃ r, Nat.gcd S.natAbs g = r := ⟨_, rfl⟩;rw [hre] at hr;obtain ⟨q1, q2, q3, q4⟩ := rat_add q p (S := S) (r := r) Hge.out rfl rfl (by rw [<- hSe]; simp) hre.symm;have Hq1 := Lib.hid q1;have Hq2 := Lib.hid q2;have Hr0 := Lib.hid (show (r : Int) ≠ 0 by omega);have Hrp := Lib.hid (Int.ofNat_dvd.2 q3);have HrS := Lib.hid (show (r : Int) ∣ S from Int.ofNat_dvd_left.2 (by rw [<- hre]; exact Nat.gcd_dvd_left _ _));clear q1 q2 q3 q4 hre hSe
    go_upto_region 10 with (fail)
    refine at_world (fun Z9 => Ext U Z9 /\ Box Z9 wg.heap.size 25 #[.bool s5, .slice A5 n5 c5] /\ NI Z9 (r : Int) (max (L + M + 1) (max L M)) s5 A5 n5 c5) ⟨hxg.alloc _, Box.new wg _ _, hr.ext ((Ext.refl wg).alloc _)⟩ ?_;generalize wg.heap.size = g11;clear hxg hr;rintro Z9 ⟨EV, b11, hr⟩;replace bx := bx.ext EV;replace by_ := by_.ext EV;replace bz := bz.ext EV;replace b9 := b9.ext EV;replace b10 := b10.ext EV;replace h := h.ext EV;replace k := k.ext EV;replace hD1 := hD1.ext EV;replace hS := hS.ext EV;replace extW := extW.trans EV;clear EV
    go_wp2_with fail
    refine wpL.st 10 (fun hQ ES => ?_);refine wpL.tk (i := 0) (d := some 61) (v := ?v_8) rfl rfl hQ (Or.inl ⟨by rfl, ?y_8⟩) ES ?_
    case y_8 => intro w' hSw;have k00 := (b9.ext hSw).c2;have k10 := (b10.ext hSw).c2;have k20 := (b11.ext hSw).c2;have k30 := (by_.ext hSw).c4;go_simp;try with_reducible rfl
    try simp only [zP]
    refine wpL.tk (i := 1) (d := some 62) (v := ?v_9) rfl rfl hQ (Or.inl ⟨by rfl, ?y_9⟩) ES ?_
    case y_9 => intro w' hSw;have k00 := (b9.ext hSw).c2;have k10 := (b10.ext hSw).c2;have k20 := (b11.ext hSw).c2;have k30 := (by_.ext hSw).c4;go_simp;try with_reducible rfl
    try simp only [zP]
    refine wpL.tk (i := 3) (d := some 64) (v := ?v_a) rfl rfl hQ (Or.inl ⟨by rfl, ?y_a⟩) ES ?_
    case y_a => intro w' hSw;have k00 := (b9.ext hSw).c2;have k10 := (b10.ext hSw).c2;have k20 := (b11.ext hSw).c2;have k30 := (by_.ext hSw).c4;go_simp;try with_reducible rfl
    try simp only [zP]
    refine wpL.tk (i := 4) (d := some 65) (v := ?v_b) rfl rfl hQ (Or.inl ⟨by rfl, ?y_b⟩) ES ?_
    case y_b => intro w' hSw;go_simp;try with_reducible rfl
    try simp only [zP]
    refine wpL.tk (i := 6) (d := some 67) (v := ?v_c) rfl rfl hQ (Or.inl ⟨by rfl, ?y_c⟩) ES ?_
    case y_c => intro w' hSw;have k00 := (b9.ext hSw).c2;have k10 := (b10.ext hSw).c2;have k20 := (b11.ext hSw).c2;have k30 := (by_.ext hSw).c4;go_simp;try with_reducible rfl
    try simp only [zP]
    refine wpL.tk (i := 5) (d := some 66) (v := ?v_d) rfl rfl hQ (Or.inl ⟨by rfl, ?y_d⟩) ES ?_
    case y_d => intro w' hSw;have k00 := (b9.ext hSw).c2;have k10 := (b10.ext hSw).c2;have k20 := (b11.ext hSw).c2;have k30 := (by_.ext hSw).c4;go_simp;try with_reducible rfl
    try simp only [zP]
    refine wpL.cl (i := 2) rfl (fun K hK => ?_);go_simp
    (go_at_call 103; refine (p_divide (hS.ext ES) (hr.ext ES) (by omega) (by omega) Hr0.out HrS.out).mono ?_; rintro e wk1 ⟨s1x, A1x, n1x, c1x, rfl, h1, hx0⟩; have E0_10 := Ext.trans ES hx0)
    refine hK.out _ _ E0_10 ?_;clear hK K
    try simp only [zP]
    refine wpL.cl (i := 7) rfl (fun K hK => ?_);go_simp
    (go_at_call 103; refine (p_divide (k.den.ext E0_10) (hr.ext E0_10) (by omega) (by omega) Hr0.out Hrp.out).mono ?_; rintro e wk2 ⟨s2x, A2x, n2x, c2x, rfl, h2, hx1⟩; have E1_10 := Ext.trans E0_10 hx1)
    refine hK.out _ _ E1_10 ?_;clear hK K
    try simp only [zP]
    refine wpL.cl (i := 8) rfl (fun K hK => ?_);go_simp
    (go_at_call 64; refine (p_Mul (hD1.ext E1_10) (h2) (by omega) (by omega) h64).mono ?_; rintro e wk3 ⟨s3, A3, n3, c3, rfl, h3, hx2⟩; have E2_10 := Ext.trans E1_10 hx2)
    refine hK.out _ _ E2_10 ?_;clear hK K
    try simp only [zP]
    refine wpL.tk (i := 9) (d := some 70) (v := ?v_e) rfl rfl hQ (Or.inl ⟨by rfl, ?y_e⟩) E2_10 ?_
    case y_e => intro w' hSw;go_simp;try with_reducible rfl
    try simp only [zP]
    have z0 := (bz.ext E2_10).cell 0 _ rfl;have z1 := (bz.ext E2_10).cell 1 _ rfl;have z2 := (bz.ext E2_10).cell 2 _ rfl;have z3 := (bz.ext E2_10).cell 3 _ rfl;have f0 := (bz.ext E2_10).frozen 0;have f1 := (bz.ext E2_10).frozen 1;have f2 := (bz.ext E2_10).frozen 2;have f3 := (bz.ext E2_10).frozen 3;refine wpL.tl (i := 10) rfl (fun K hK => ?_);go_simp;refine hK.out _ _ ?_;clear hK K
    try simp only [zP]
    refine wpL.done (by kernel_rfl) ?_ _;clear hQ
    go_wp2_with fail
    have hk1 : ((q.den : Int) / (g : Int)) * ((p.den : Int) / (r : Int)) = ((q + p).den : Int) := by rw [Hq2.out]; simp
    rw [hk1] at h3;rw [<- Hq1.out] at h1;obtain ⟨b1, b2, b3, b4⟩ := fin_quad (s := s1x) (A := A1x) (n := n1x) (c := c1x) (t := s3) (B := A3) (m := n3) (d := c3) (bz.ext E2_10);have r0 := b1.cell 0 (.bool s1x) rfl;have r1 := b1.cell 1 (.slice A1x n1x c1x) rfl;have r2 := b1.cell 2 (.bool s3) rfl;have r3 := b1.cell 3 (.slice A3 n3 c3) rfl;unfold set4 at r0 r1 r2 r3;refine bodyPost_ret (v := .agg #[.bool s1x, .slice A1x n1x c1x, .bool s3, .slice A3 n3 c3]) (by simp [results, Tryz.results53, go_sem, r0, r1, r2, r3]) rfl ⟨s1x, A1x, n1x, c1x, s3, A3, n3, c3, rfl, ⟨?_, ?_⟩, b3 _ (extW.trans E2_10) (by omega)⟩
    ·exact (b2 _ _ _ _ _ _ (h1.ext (hx1.trans hx2))).le (by omega)
    ·exact (b2 _ _ _ _ _ _ h3).le (by omega)
  ·rw [decide_eq_false h1]
   clear h1;have x0 := bx.cell 0 (.bool s) rfl;have x1 := bx.cell 1 (.slice A n c) rfl;have x2 := bx.cell 2 (.bool t) rfl;have x3 := bx.cell 3 (.slice B m d) rfl;have y0 := by_.cell 0 (.bool s') rfl;have y1 := by_.cell 1 (.slice A' n' c') rfl;have y2 := by_.cell 2 (.bool t') rfl;have y3 := by_.cell 3 (.slice B' m' d') rfl
   go_wp2_with fail
   refine (p_GCD h.den k.den (by omega) (by omega) (hT.ext extW)).mono ?_;rintro e we ⟨s1, A1, n1, c1', rfl, hg, hxe⟩;rw [Int.natAbs_natCast, Int.natAbs_natCast] at hg;obtain ⟨g, hge⟩ : ∃ g, Nat.gcd q.den p.den = g := ⟨_, rfl⟩;rw [hge] at hg;have hgq : g ∣ q.den := by rw [<- hge]; exact Nat.gcd_dvd_left _ _
   have hgp : g ∣ p.den := by rw [<- hge]; exact Nat.gcd_dvd_right _ _
   have hg0 : (g : Int) ≠ 0 := by
    intro h0;have : g = 0 := by omega
    rw [this] at hgq;have := Nat.eq_zero_of_zero_dvd hgq;exact q.den_nz this
   have Hge := Lib.hid hge.symm;have Hg0 := Lib.hid hg0;have Hgq := Lib.hid (Int.ofNat_dvd.2 hgq);have Hgp := Lib.hid (Int.ofNat_dvd.2 hgp);clear hge hg0 hgq hgp;clear x0 x1 x2 x3;clear y0 y1 y2 y3
   go_upto_region 7 with (fail)
   refine at_world (fun V7 => Ext wb V7 /\ Box V7 we.heap.size 25 #[.bool s1, .slice A1 n1 c1'] /\ NI V7 (g : Int) (max L M) s1 A1 n1 c1') ⟨hxe.alloc _, Box.new we _ _, hg.ext ((Ext.refl we).alloc _)⟩ ?_;generalize we.heap.size = g8;clear hxe hg;rintro V7 ⟨EV, b8, hg⟩;replace bx := bx.ext EV;replace by_ := by_.ext EV;replace bz := bz.ext EV;replace h := h.ext EV;replace k := k.ext EV;replace extW := extW.trans EV;clear EV;have x0 := bx.cell 0 (.bool s) rfl;have x1 := bx.cell 1 (.slice A n c) rfl;have x2 := bx.cell 2 (.bool t) rfl;have x3 := bx.cell 3 (.slice B m d) rfl;have j0 := b8.cell 0 (.bool s1) rfl;have j1 := b8.cell 1 (.slice A1 n1 c1') rfl
   go_wp2_with fail
   refine (p_divide h.den hg (by omega) (by omega) Hg0.out Hgq.out).mono ?_;rintro e wf ⟨s2, A2, n2, c2', rfl, hD1, hxf⟩;clear x0 x1 x2 x3;clear j0 j1
   go_upto_region 8 with (fail)
   refine at_world (fun V9 => Ext V7 V9 /\ Box V9 wf.heap.size 25 #[.bool s2, .slice A2 n2 c2'] /\ NI V9 ((q.den : Int) / (g : Int)) L s2 A2 n2 c2') ⟨hxf.alloc _, Box.new wf _ _, hD1.ext ((Ext.refl wf).alloc _)⟩ ?_;generalize wf.heap.size = g9;clear hxf hD1;rintro V9 ⟨EV, b9, hD1⟩;replace bx := bx.ext EV;replace by_ := by_.ext EV;replace bz := bz.ext EV;replace b8 := b8.ext EV;replace h := h.ext EV;replace k := k.ext EV;replace hg := hg.ext EV;replace extW := extW.trans EV;clear EV
   go_wp2_with fail
   have ES0 := Ext.refl V9;refine wp_region_held_drew (S := Ext V9) (by kernel_rfl) ES0.drew (fun ES => ?_);clear ES0;refine Late.start1 (x := ⟨12, 10, 25, #[Value.bool false, Value.slice none 0 0]⟩) (n := 13) ⟨_, rfl, rfl, rfl, fun a w => by go_simp⟩ (fun _ _ _ _ _ => ⟨fun h => h, fun h => h⟩) ES rfl (fun hAl hQ => ?_);refine Late.tk (i := 0) (d := some 46) (v := ?v_f) rfl rfl hQ (Or.inl ⟨by rfl, ?y_f⟩) ?_
   case y_f => intro w' hSw;go_simp;try with_reducible rfl
   try simp only [zP]
   refine Late.tk (i := 2) (d := some 48) (v := ?v_g) rfl rfl hQ (Or.inl ⟨by rfl, ?y_g⟩) ?_
   case y_g => intro w' hSw;go_simp;try with_reducible rfl
   try simp only [zP]
   refine Late.tk (i := 4) (d := some 50) (v := ?v_h) rfl rfl hQ (Or.inl ⟨by rfl, ?y_h⟩) ?_
   case y_h => intro w' hSw;have k00 := (bx.ext hSw).c4;have k10 := (by_.ext hSw).c4;have k20 := (b8.ext hSw).c2;have k30 := (b9.ext hSw).c2;go_simp;try with_reducible rfl
   try simp only [zP]
   refine Late.tk (i := 7) (d := some 53) (v := ?v_i) rfl rfl hQ (Or.inl ⟨by rfl, ?y_i⟩) ?_
   case y_i => intro w' hSw;go_simp;try with_reducible rfl
   try simp only [zP]
   refine Late.tk (i := 9) (d := some 55) (v := ?v_j) rfl rfl hQ (Or.inl ⟨by rfl, ?y_j⟩) ?_
   case y_j => intro w' hSw;have k00 := (bx.ext hSw).c4;have k10 := (by_.ext hSw).c4;have k20 := (b8.ext hSw).c2;have k30 := (b9.ext hSw).c2;go_simp;try with_reducible rfl
   try simp only [zP]
   refine Late.tk (i := 1) (d := some 47) (v := ?v_k) rfl rfl hQ (Or.inl ⟨by rfl, ?y_k⟩) ?_
   case y_k => intro w' hSw;have k00 := (bx.ext hSw).c4;have k10 := (by_.ext hSw).c4;have k20 := (b8.ext hSw).c2;have k30 := (b9.ext hSw).c2;go_simp;try with_reducible rfl
   try simp only [zP]
   refine Late.tk (i := 3) (d := some 49) (v := ?v_l) rfl rfl hQ (Or.inl ⟨by rfl, ?y_l⟩) ?_
   case y_l => intro w' hSw;have k00 := (bx.ext hSw).c4;have k10 := (by_.ext hSw).c4;have k20 := (b8.ext hSw).c2;have k30 := (b9.ext hSw).c2;go_simp;try with_reducible rfl
   try simp only [zP]
   refine Late.tk (i := 8) (d := some 54) (v := ?v_m) rfl rfl hQ (Or.inl ⟨by rfl, ?y_m⟩) ?_
   case y_m => intro w' hSw;have k00 := (bx.ext hSw).c4;have k10 := (by_.ext hSw).c4;have k20 := (b8.ext hSw).c2;have k30 := (b9.ext hSw).c2;go_simp;try with_reducible rfl
   try simp only [zP]
   refine Late.cl (i := 5) rfl hAl hQ (fun w5 e5 E5 K hK => ?_);go_simp
   (go_at_call 103; refine (p_divide (k.den.ext E5) (hg.ext E5) (by omega) (by omega) Hg0.out Hgp.out).mono ?_; rintro e wk1 ⟨s1x, A1x, n1x, c1x, rfl, h1, hx5⟩)
   refine hK.out _ _ hx5 ?_;clear hK K
   try simp only [zP]
   refine Late.cl (i := 6) rfl hAl hQ (fun w6 e6 E6 K hK => ?_);go_simp
   (go_at_call 64; refine (p_Mul (h.num.ext E6) (h1.ext e6) (by omega) (by omega) (by omega)).mono ?_; rintro e wk2 ⟨s2x, A2x, n2x, c2x, rfl, h2, hx6⟩)
   refine hK.out _ _ hx6 ?_;clear hK K
   try simp only [zP]
   refine Late.cl (i := 10) rfl hAl hQ (fun w10 e10 E10 K hK => ?_);go_simp
   (go_at_call 64; refine (p_Mul (k.num.ext E10) (hD1.ext E10) (by omega) (by omega) (by omega)).mono ?_; rintro e wk3 ⟨s3, A3, n3, c3, rfl, h3, hx10⟩)
   refine hK.out _ _ hx10 ?_;clear hK K
   try simp only [zP]
   refine Late.cl (i := 11) rfl hAl hQ (fun w11 e11 E11 K hK => ?_);go_simp
   (go_at_call 101; refine (p_Add (h2.ext (e10.trans (hx10.trans e11))) (h3.ext e11) (by omega) (by omega)).mono ?_; rintro e wk4 ⟨s4, A4, n4, c4, rfl, h4, hx11⟩)
   refine hK.out _ _ hx11 ?_;clear hK K
   try simp only [zP]
   refine Late.finish1 (hAl _ (by simp)) (by kernel_rfl) (fun wz g10 ez Ez lg5 xb1 => ?_);clear hAl hQ ES;have f10 := xb1.cell 0 (Value.bool false) rfl;have f11 := xb1.cell 1 (Value.slice none 0 0) rfl;have f12 := xb1.frozen 0;have f13 := xb1.frozen 1;have e4 := fin_dual (s := s4) (A := A4) (n := n4) (c := c4) xb1
   try simp only [zP]
   refine wpAnyH_ready (rs := [13]) (by kernel_rfl) (by simp) (AllReadyH.cons rfl (fun K hK => ?_) AllReadyH.nil);go_simp;refine hK.out _ _ (e4.2.2.1 _ Ez lg5) (fun _ => ?_);clear hK K
   try simp only [zP]
   refine any_world (fun U => Ext V9 U /\ Box U g10 25 #[.bool s4, .slice A4 n4 c4] /\ NI U (q.num * ((p.den : Int) / (g : Int)) + p.num * ((q.den : Int) / (g : Int))) (L + M + 1) s4 A4 n4 c4) ⟨e4.2.2.1 _ Ez lg5, e4.1, (e4.2.1 _ _ _ _ _ _ (h4.ext ez)).le (by omega)⟩ ?_;clear e4 f10 f11 f12 f13 xb1 lg5;rintro U ⟨EU, b10, hS⟩;refine wpAnyH_done (by kernel_rfl) ?_ _;replace bx := bx.ext EU;replace by_ := by_.ext EU;replace bz := bz.ext EU;replace b8 := b8.ext EU;replace b9 := b9.ext EU;replace h := h.ext EU;replace k := k.ext EU;replace hg := hg.ext EU;replace hD1 := hD1.ext EU;replace extW := extW.trans EU;clear EU Ez ez;have j0 := b10.cell 0 (.bool s4) rfl;have j1 := b10.cell 1 (.slice A4 n4 c4) rfl;have j2 := b8.cell 0 (.bool s1) rfl;have j3 := b8.cell 1 (.slice A1 n1 c1') rfl
   go_wp2_with fail
   refine (p_GCD hS hg (by omega) (by omega) (hT.ext extW)).mono ?_;rintro e wg ⟨s5, A5, n5, c5, rfl, hr, hxg⟩;rw [Int.natAbs_natCast] at hr;clear j0 j1 j2 j3;obtain ⟨S, hSe⟩ : ∃ S : Int, q.num * ((p.den : Int) / (g : Int)) + p.num * ((q.den : Int) / (g : Int)) = S := ⟨_, rfl⟩;rw [hSe] at hS hr;obtain ⟨r, hre⟩ : ∃ r, Nat.gcd S.natAbs g = r := ⟨_, rfl⟩;rw [hre] at hr;obtain ⟨q1, q2, q3, q4⟩ := rat_add q p (S := S) (r := r) Hge.out rfl rfl (by rw [<- hSe]; simp) hre.symm;have Hq1 := Lib.hid q1;have Hq2 := Lib.hid q2;have Hr0 := Lib.hid (show (r : Int) ≠ 0 by omega);have Hrp := Lib.hid (Int.ofNat_dvd.2 q3);have HrS := Lib.hid (show (r : Int) ∣ S from Int.ofNat_dvd_left.2 (by rw [<- hre]; exact Nat.gcd_dvd_left _ _));clear q1 q2 q3 q4 hre hSe
   go_upto_region 10 with (fail)
   refine at_world (fun Z9 => Ext U Z9 /\ Box Z9 wg.heap.size 25 #[.bool s5, .slice A5 n5 c5] /\ NI Z9 (r : Int) (max (L + M + 1) (max L M)) s5 A5 n5 c5) ⟨hxg.alloc _, Box.new wg _ _, hr.ext ((Ext.refl wg).alloc _)⟩ ?_;generalize wg.heap.size = g11;clear hxg hr;rintro Z9 ⟨EV, b11, hr⟩;replace bx := bx.ext EV;replace by_ := by_.ext EV;replace bz := bz.ext EV;replace b9 := b9.ext EV;replace b10 := b10.ext EV;replace h := h.ext EV;replace k := k.ext EV;replace hD1 := hD1.ext EV;replace hS := hS.ext EV;replace extW := extW.trans EV;clear EV
   go_wp2_with fail
   refine wpL.st 10 (fun hQ ES => ?_);refine wpL.tk (i := 0) (d := some 61) (v := ?v_n) rfl rfl hQ (Or.inl ⟨by rfl, ?y_n⟩) ES ?_
   case y_n => intro w' hSw;have k00 := (b9.ext hSw).c2;have k10 := (b10.ext hSw).c2;have k20 := (b11.ext hSw).c2;have k30 := (by_.ext hSw).c4;go_simp;try with_reducible rfl
   try simp only [zP]
   refine wpL.tk (i := 1) (d := some 62) (v := ?v_o) rfl rfl hQ (Or.inl ⟨by rfl, ?y_o⟩) ES ?_
   case y_o => intro w' hSw;have k00 := (b9.ext hSw).c2;have k10 := (b10.ext hSw).c2;have k20 := (b11.ext hSw).c2;have k30 := (by_.ext hSw).c4;go_simp;try with_reducible rfl
   try simp only [zP]
   refine wpL.tk (i := 3) (d := some 64) (v := ?v_p) rfl rfl hQ (Or.inl ⟨by rfl, ?y_p⟩) ES ?_
   case y_p => intro w' hSw;have k00 := (b9.ext hSw).c2;have k10 := (b10.ext hSw).c2;have k20 := (b11.ext hSw).c2;have k30 := (by_.ext hSw).c4;go_simp;try with_reducible rfl
   try simp only [zP]
   refine wpL.tk (i := 4) (d := some 65) (v := ?v_q) rfl rfl hQ (Or.inl ⟨by rfl, ?y_q⟩) ES ?_
   case y_q => intro w' hSw;go_simp;try with_reducible rfl
   try simp only [zP]
   refine wpL.tk (i := 6) (d := some 67) (v := ?v_r) rfl rfl hQ (Or.inl ⟨by rfl, ?y_r⟩) ES ?_
   case y_r => intro w' hSw;have k00 := (b9.ext hSw).c2;have k10 := (b10.ext hSw).c2;have k20 := (b11.ext hSw).c2;have k30 := (by_.ext hSw).c4;go_simp;try with_reducible rfl
   try simp only [zP]
   refine wpL.tk (i := 5) (d := some 66) (v := ?v_s) rfl rfl hQ (Or.inl ⟨by rfl, ?y_s⟩) ES ?_
   case y_s => intro w' hSw;have k00 := (b9.ext hSw).c2;have k10 := (b10.ext hSw).c2;have k20 := (b11.ext hSw).c2;have k30 := (by_.ext hSw).c4;go_simp;try with_reducible rfl
   try simp only [zP]
   refine wpL.cl (i := 2) rfl (fun K hK => ?_);go_simp
   (go_at_call 103; refine (p_divide (hS.ext ES) (hr.ext ES) (by omega) (by omega) Hr0.out HrS.out).mono ?_; rintro e wk1 ⟨s1x, A1x, n1x, c1x, rfl, h1, hx0⟩; have E0_10 := Ext.trans ES hx0)
   refine hK.out _ _ E0_10 ?_;clear hK K
   try simp only [zP]
   refine wpL.cl (i := 7) rfl (fun K hK => ?_);go_simp
   (go_at_call 103; refine (p_divide (k.den.ext E0_10) (hr.ext E0_10) (by omega) (by omega) Hr0.out Hrp.out).mono ?_; rintro e wk2 ⟨s2x, A2x, n2x, c2x, rfl, h2, hx1⟩; have E1_10 := Ext.trans E0_10 hx1)
   refine hK.out _ _ E1_10 ?_;clear hK K
   try simp only [zP]
   refine wpL.cl (i := 8) rfl (fun K hK => ?_);go_simp
   (go_at_call 64; refine (p_Mul (hD1.ext E1_10) (h2) (by omega) (by omega) h64).mono ?_; rintro e wk3 ⟨s3, A3, n3, c3, rfl, h3, hx2⟩; have E2_10 := Ext.trans E1_10 hx2)
   refine hK.out _ _ E2_10 ?_;clear hK K
   try simp only [zP]
   refine wpL.tk (i := 9) (d := some 70) (v := ?v_t) rfl rfl hQ (Or.inl ⟨by rfl, ?y_t⟩) E2_10 ?_
   case y_t => intro w' hSw;go_simp;try with_reducible rfl
   try simp only [zP]
   have z0 := (bz.ext E2_10).cell 0 _ rfl;have z1 := (bz.ext E2_10).cell 1 _ rfl;have z2 := (bz.ext E2_10).cell 2 _ rfl;have z3 := (bz.ext E2_10).cell 3 _ rfl;have f0 := (bz.ext E2_10).frozen 0;have f1 := (bz.ext E2_10).frozen 1;have f2 := (bz.ext E2_10).frozen 2;have f3 := (bz.ext E2_10).frozen 3;refine wpL.tl (i := 10) rfl (fun K hK => ?_);go_simp;refine hK.out _ _ ?_;clear hK K
   try simp only [zP]
   refine wpL.done (by kernel_rfl) ?_ _;clear hQ
   go_wp2_with fail
   have hk1 : ((q.den : Int) / (g : Int)) * ((p.den : Int) / (r : Int)) = ((q + p).den : Int) := by rw [Hq2.out]; simp
   rw [hk1] at h3;rw [<- Hq1.out] at h1;obtain ⟨b1, b2, b3, b4⟩ := fin_quad (s := s1x) (A := A1x) (n := n1x) (c := c1x) (t := s3) (B := A3) (m := n3) (d := c3) (bz.ext E2_10);have r0 := b1.cell 0 (.bool s1x) rfl;have r1 := b1.cell 1 (.slice A1x n1x c1x) rfl;have r2 := b1.cell 2 (.bool s3) rfl;have r3 := b1.cell 3 (.slice A3 n3 c3) rfl;unfold set4 at r0 r1 r2 r3;refine bodyPost_ret (v := .agg #[.bool s1x, .slice A1x n1x c1x, .bool s3, .slice A3 n3 c3]) (by simp [results, Tryz.results53, go_sem, r0, r1, r2, r3]) rfl ⟨s1x, A1x, n1x, c1x, s3, A3, n3, c3, rfl, ⟨?_, ?_⟩, b3 _ (extW.trans E2_10) (by omega)⟩
   ·exact (b2 _ _ _ _ _ _ (h1.ext (hx1.trans hx2))).le (by omega)
   ·exact (b2 _ _ _ _ _ _ h3).le (by omega)
end
section
variable {w w' : World} {z y : Int} {q p : Rat} {L M : Nat} {s t s' t' : Bool} {A B A' B' : Option Addr} {n c m d n' c' m' d' : Nat}
set_option maxRecDepth 100000 in
theorem p_MulR (h : NR w q L s A n c t B m d) (k : NR w p M s' A' n' c' t' B' m' d') (hL : L <= 1000) (hM : M <= 1000) (h64 : min L M < 64) (hT : Tab w) : Calls Tryz.prog 59 #[.agg #[.bool s, .slice A n c, .bool t, .slice B m d], .agg #[.bool s', .slice A' n' c', .bool t', .slice B' m' d']] w (RetNR (q * p) (L + M) w) := by
 have hL1 := h.pos;have hM1 := k.pos
 go_enter Tryz.func59, Tryz.ntmps59
 go_upto_region 1 with (fail)
 obtain ⟨W, hW, extW, bx, by_, bz, hz⟩ := box3 w 27 27 27 #[.bool s, .slice A n c, .bool t, .slice B m d] #[.bool s', .slice A' n' c', .bool t', .slice B' m' d'] #[Value.bool false, Value.slice none 0 0, Value.bool false, Value.slice none 0 0];rw [<- hW];clear hW;replace h := h.ext extW;replace k := k.ext extW;have x0 := bx.cell 0 (.bool s) rfl;have x1 := bx.cell 1 (.slice A n c) rfl;have x2 := bx.cell 2 (.bool t) rfl;have x3 := bx.cell 3 (.slice B m d) rfl;have y0 := by_.cell 0 (.bool s') rfl;have y1 := by_.cell 1 (.slice A' n' c') rfl;have y2 := by_.cell 2 (.bool t') rfl;have y3 := by_.cell 3 (.slice B' m' d') rfl
 go_wp2_with fail
 refine (p_smallPair h k (by omega) (by omega)).mono ?_;rintro e wa ⟨a1, a2, c1, c2, ok, rfl, hok, hxa⟩;have Hok := Lib.hid hok;clear hok;clear x0 x1 x2 x3;clear y0 y1 y2 y3
 go_upto_region 2 with (fail)
 refine at_world (fun V => Ext W V /\ Box V wa.heap.size 93 #[.int .i64 a1, .int .i64 a2] /\ Box V (wa.heap.size + 1) 93 #[.int .i64 c1, .int .i64 c2]) ?_ ?_
 ·obtain ⟨e1, e2, e3⟩ := two_new wa 93 #[.int .i64 a1, .int .i64 a2] #[.int .i64 c1, .int .i64 c2]
  exact ⟨hxa.trans e1, e2, e3⟩
 generalize wa.heap.size = g5;clear hxa;rintro V ⟨EV, b5, b6⟩;replace bx := bx.ext EV;replace by_ := by_.ext EV;replace bz := bz.ext EV;replace h := h.ext EV;replace k := k.ext EV;replace extW := extW.trans EV;clear EV
 cases ok with
 | true =>
  obtain ⟨sm1, sm2⟩ := Hok.out (by first | rfl | trivial);have j0 := b5.cell 0 (.int .i64 a1) rfl;have j1 := b5.cell 1 (.int .i64 a2) rfl;have j2 := b6.cell 0 (.int .i64 c1) rfl;have j3 := b6.cell 1 (.int .i64 c2) rfl
  go_wp2_with fail
  refine (p_times sm1 sm2).mono ?_;rintro e wb ⟨s1, A1, n1, c1', t1, B1, m1, d1, rfl, hr, hxb⟩;have z0 := (bz.ext hxb).cell 0 _ rfl;have z1 := (bz.ext hxb).cell 1 _ rfl;have z2 := (bz.ext hxb).cell 2 _ rfl;have z3 := (bz.ext hxb).cell 3 _ rfl;have f0 := (bz.ext hxb).frozen 0;have f1 := (bz.ext hxb).frozen 1;have f2 := (bz.ext hxb).frozen 2;have f3 := (bz.ext hxb).frozen 3
  go_wp2_with fail
  obtain ⟨b1, b2, b3, b4⟩ := fin_quad (s := s1) (A := A1) (n := n1) (c := c1') (t := t1) (B := B1) (m := m1) (d := d1) (bz.ext hxb);have r0 := b1.cell 0 (.bool s1) rfl;have r1 := b1.cell 1 (.slice A1 n1 c1') rfl;have r2 := b1.cell 2 (.bool t1) rfl;have r3 := b1.cell 3 (.slice B1 m1 d1) rfl;unfold set4 at r0 r1 r2 r3;refine bodyPost_ret (v := .agg #[.bool s1, .slice A1 n1 c1', .bool t1, .slice B1 m1 d1]) (by simp [results, Tryz.results59, go_sem, r0, r1, r2, r3]) rfl ⟨s1, A1, n1, c1', t1, B1, m1, d1, rfl, ⟨?_, ?_⟩, b3 _ (extW.trans hxb) (by omega)⟩
  ·exact (b2 _ _ _ _ _ _ hr.num).le (by omega)
  ·exact (b2 _ _ _ _ _ _ hr.den).le (by omega)
 | false =>
  go_wp2_with fail
  have ES0 := Ext.refl V;refine wp_region_held_drew (S := Ext V) (by kernel_rfl) ES0.drew (fun ES => ?_);clear ES0;refine Late.start2 (x := ⟨10, 8, 25, #[Value.bool false, Value.slice none 0 0]⟩) (y := ⟨11, 9, 25, #[Value.bool false, Value.slice none 0 0]⟩) (n := 12) ⟨_, rfl, rfl, rfl, fun a w => by go_simp⟩ ⟨_, rfl, rfl, rfl, fun a w => by go_simp⟩ (fun _ _ _ _ _ => ⟨fun h => h, fun h => h⟩) ES rfl (fun hAl hQ => ?_);refine Late.tk (i := 0) (d := some 21) (v := ?v_0) rfl rfl hQ (Or.inl ⟨by rfl, ?y_0⟩) ?_
  case y_0 => intro w' hSw;go_simp;try with_reducible rfl
  try simp only [zP]
  refine Late.tk (i := 2) (d := some 23) (v := ?v_1) rfl rfl hQ (Or.inl ⟨by rfl, ?y_1⟩) ?_
  case y_1 => intro w' hSw;go_simp;try with_reducible rfl
  try simp only [zP]
  refine Late.tk (i := 5) (d := some 26) (v := ?v_2) rfl rfl hQ (Or.inl ⟨by rfl, ?y_2⟩) ?_
  case y_2 => intro w' hSw;go_simp;try with_reducible rfl
  try simp only [zP]
  refine Late.tk (i := 7) (d := some 28) (v := ?v_3) rfl rfl hQ (Or.inl ⟨by rfl, ?y_3⟩) ?_
  case y_3 => intro w' hSw;go_simp;try with_reducible rfl
  try simp only [zP]
  refine Late.tk (i := 1) (d := some 22) (v := ?v_4) rfl rfl hQ (Or.inl ⟨by rfl, ?y_4⟩) ?_
  case y_4 => intro w' hSw;have k00 := (bx.ext hSw).c4;have k10 := (by_.ext hSw).c4;go_simp;try with_reducible rfl
  try simp only [zP]
  refine Late.tk (i := 3) (d := some 24) (v := ?v_5) rfl rfl hQ (Or.inl ⟨by rfl, ?y_5⟩) ?_
  case y_5 => intro w' hSw;have k00 := (bx.ext hSw).c4;have k10 := (by_.ext hSw).c4;go_simp;try with_reducible rfl
  try simp only [zP]
  refine Late.tk (i := 6) (d := some 27) (v := ?v_6) rfl rfl hQ (Or.inl ⟨by rfl, ?y_6⟩) ?_
  case y_6 => intro w' hSw;have k00 := (bx.ext hSw).c4;have k10 := (by_.ext hSw).c4;go_simp;try with_reducible rfl
  try simp only [zP]
  refine Late.tk (i := 8) (d := some 29) (v := ?v_7) rfl rfl hQ (Or.inl ⟨by rfl, ?y_7⟩) ?_
  case y_7 => intro w' hSw;have k00 := (bx.ext hSw).c4;have k10 := (by_.ext hSw).c4;go_simp;try with_reducible rfl
  try simp only [zP]
  refine Late.cl (i := 4) rfl hAl hQ (fun w4 e4 E4 K hK => ?_);go_simp
  (go_at_call 102; refine (p_GCD (h.num.ext E4) (k.den.ext E4) (by omega) (by omega) (hT.ext (extW.trans E4))).mono ?_; rintro e wk1 ⟨s1, A1, n1, c1', rfl, h1, hx4⟩; rw [Int.natAbs_natCast] at h1)
  refine hK.out _ _ hx4 ?_;clear hK K
  try simp only [zP]
  refine Late.cl (i := 9) rfl hAl hQ (fun w9 e9 E9 K hK => ?_);go_simp
  (go_at_call 102; refine (p_GCD (k.num.ext E9) (h.den.ext E9) (by omega) (by omega) (hT.ext (extW.trans E9))).mono ?_; rintro e wk2 ⟨s2, A2, n2, c2', rfl, h2, hx9⟩; rw [Int.natAbs_natCast] at h2)
  refine hK.out _ _ hx9 ?_;clear hK K
  try simp only [zP]
  refine Late.finish2 (hAl _ (by simp)) (hAl _ (by simp)) (by decide) (by decide) (by kernel_rfl) (by kernel_rfl) (by kernel_rfl) (fun wz g5 g6 ez Ez lg5 lg6 hne xb1 xb2 => ?_);clear hAl hQ ES;have p10 := xb1.cell 0 (Value.bool false) rfl;have p11 := xb1.cell 1 (Value.slice none 0 0) rfl;have f10 := xb1.frozen 0;have f11 := xb1.frozen 1;have e4 := fin_dual (s := s1) (A := A1) (n := n1) (c := c1') xb1
  try simp only [zP]
  refine wpAnyH_ready (rs := [12]) (by kernel_rfl) (by simp) (AllReadyH.cons rfl (fun K hK => ?_) AllReadyH.nil);go_simp;refine hK.out _ _ (e4.2.2.1 _ Ez lg5) (fun _ => ?_);clear hK K
  try simp only [zP]
  have e5 := e4.2.2.2 _ _ _ (Ne.symm hne) xb2;refine any_world (fun U => Ext V U /\ Box U g5 25 #[.bool s1, .slice A1 n1 c1'] /\ Box U g6 25 #[Value.bool false, Value.slice none 0 0] /\ NI U ((q.num.natAbs.gcd p.den : Nat) : Int) (max L M) s1 A1 n1 c1' /\ NI U ((p.num.natAbs.gcd q.den : Nat) : Int) (max M L) s2 A2 n2 c2') ⟨e4.2.2.1 _ Ez lg5, e4.1, e5, e4.2.1 _ _ _ _ _ _ (h1.ext (e9.trans (hx9.trans ez))), e4.2.1 _ _ _ _ _ _ (h2.ext ez)⟩ ?_;clear e4 e5 p10 p11 f10 f11 xb1 xb2;rintro U ⟨EU, b8, xb2, h1, h2⟩;have p10 := xb2.cell 0 (Value.bool false) rfl;have p11 := xb2.cell 1 (Value.slice none 0 0) rfl;have f10 := xb2.frozen 0;have f11 := xb2.frozen 1;have e4 := fin_dual (s := s2) (A := A2) (n := n2) (c := c2') xb2;refine wpAnyH_ready (rs := [13]) (by kernel_rfl) (by simp) (AllReadyH.cons rfl (fun K hK => ?_) AllReadyH.nil);go_simp;refine hK.out _ _ (e4.2.2.1 _ EU lg6) (fun _ => ?_);clear hK K
  try simp only [zP]
  refine any_world (fun U2 => Ext V U2 /\ Box U2 g5 25 #[.bool s1, .slice A1 n1 c1'] /\ Box U2 g6 25 #[.bool s2, .slice A2 n2 c2'] /\ NI U2 ((q.num.natAbs.gcd p.den : Nat) : Int) (max L M) s1 A1 n1 c1' /\ NI U2 ((p.num.natAbs.gcd q.den : Nat) : Int) (max M L) s2 A2 n2 c2') ⟨e4.2.2.1 _ EU lg6, e4.2.2.2 _ _ _ hne b8, e4.1, e4.2.1 _ _ _ _ _ _ h1, e4.2.1 _ _ _ _ _ _ h2⟩ ?_;clear e4 p10 p11 f10 f11 xb2 b8 h1 h2 lg5 lg6;rintro U2 ⟨EU2, b8, b9, h1, h2⟩;refine wpAnyH_done (by kernel_rfl) ?_ _;replace bx := bx.ext EU2;replace by_ := by_.ext EU2;replace bz := bz.ext EU2;replace h := h.ext EU2;replace k := k.ext EU2;replace extW := extW.trans EU2;clear EU EU2 Ez ez;obtain ⟨g, hge⟩ : ∃ g, q.num.natAbs.gcd p.den = g := ⟨_, rfl⟩;obtain ⟨hq, hhe⟩ : ∃ g, p.num.natAbs.gcd q.den = g := ⟨_, rfl⟩;rw [hge] at h1;rw [hhe] at h2;obtain ⟨q1, q2⟩ := rat_mul q p hge.symm hhe.symm;have Hq1 := Lib.hid q1;have Hq2 := Lib.hid q2;have hgq : g ∣ q.num.natAbs := by rw [<- hge]; exact Nat.gcd_dvd_left _ _
  have hgp : g ∣ p.den := by rw [<- hge]; exact Nat.gcd_dvd_right _ _
  have hhp : hq ∣ p.num.natAbs := by rw [<- hhe]; exact Nat.gcd_dvd_left _ _
  have hhq : hq ∣ q.den := by rw [<- hhe]; exact Nat.gcd_dvd_right _ _
  have hg0 : (g : Int) ≠ 0 := by
   intro h0;have : g = 0 := by omega
   rw [this] at hgp;exact p.den_nz (Nat.eq_zero_of_zero_dvd hgp)
  have hh0 : (hq : Int) ≠ 0 := by
   intro h0;have : hq = 0 := by omega
   rw [this] at hhq;exact q.den_nz (Nat.eq_zero_of_zero_dvd hhq)
  have Hg0 := Lib.hid hg0;have Hh0 := Lib.hid hh0;have Hgq := Lib.hid (Int.ofNat_dvd_left.2 hgq);have Hgp := Lib.hid (Int.ofNat_dvd.2 hgp);have Hhp := Lib.hid (Int.ofNat_dvd_left.2 hhp);have Hhq := Lib.hid (Int.ofNat_dvd.2 hhq);have hg := h1;have hh := h2;clear hge hhe q1 q2 hgq hgp hhp hhq hg0 hh0 h1 h2
  go_wp2_with fail
  refine wpL.st 19 (fun hQ ES => ?_);refine wpL.tk (i := 0) (d := some 31) (v := ?v_8) rfl rfl hQ (Or.inl ⟨by rfl, ?y_8⟩) ES ?_
  case y_8 => intro w' hSw;go_simp;try with_reducible rfl
  try simp only [zP]
  refine wpL.tk (i := 2) (d := some 33) (v := ?v_9) rfl rfl hQ (Or.inl ⟨by rfl, ?y_9⟩) ES ?_
  case y_9 => intro w' hSw;have k00 := (bx.ext hSw).c4;have k10 := (by_.ext hSw).c4;have k20 := (b8.ext hSw).c2;have k30 := (b9.ext hSw).c2;go_simp;try with_reducible rfl
  try simp only [zP]
  refine wpL.tk (i := 4) (d := some 35) (v := ?v_a) rfl rfl hQ (Or.inl ⟨by rfl, ?y_a⟩) ES ?_
  case y_a => intro w' hSw;go_simp;try with_reducible rfl
  try simp only [zP]
  refine wpL.tk (i := 6) (d := some 37) (v := ?v_b) rfl rfl hQ (Or.inl ⟨by rfl, ?y_b⟩) ES ?_
  case y_b => intro w' hSw;have k00 := (bx.ext hSw).c4;have k10 := (by_.ext hSw).c4;have k20 := (b8.ext hSw).c2;have k30 := (b9.ext hSw).c2;go_simp;try with_reducible rfl
  try simp only [zP]
  refine wpL.tk (i := 9) (d := some 40) (v := ?v_c) rfl rfl hQ (Or.inl ⟨by rfl, ?y_c⟩) ES ?_
  case y_c => intro w' hSw;go_simp;try with_reducible rfl
  try simp only [zP]
  refine wpL.tk (i := 11) (d := some 42) (v := ?v_d) rfl rfl hQ (Or.inl ⟨by rfl, ?y_d⟩) ES ?_
  case y_d => intro w' hSw;have k00 := (bx.ext hSw).c4;have k10 := (by_.ext hSw).c4;have k20 := (b8.ext hSw).c2;have k30 := (b9.ext hSw).c2;go_simp;try with_reducible rfl
  try simp only [zP]
  refine wpL.tk (i := 13) (d := some 44) (v := ?v_e) rfl rfl hQ (Or.inl ⟨by rfl, ?y_e⟩) ES ?_
  case y_e => intro w' hSw;go_simp;try with_reducible rfl
  try simp only [zP]
  refine wpL.tk (i := 15) (d := some 46) (v := ?v_f) rfl rfl hQ (Or.inl ⟨by rfl, ?y_f⟩) ES ?_
  case y_f => intro w' hSw;have k00 := (bx.ext hSw).c4;have k10 := (by_.ext hSw).c4;have k20 := (b8.ext hSw).c2;have k30 := (b9.ext hSw).c2;go_simp;try with_reducible rfl
  try simp only [zP]
  refine wpL.tk (i := 1) (d := some 32) (v := ?v_g) rfl rfl hQ (Or.inl ⟨by rfl, ?y_g⟩) ES ?_
  case y_g => intro w' hSw;have k00 := (bx.ext hSw).c4;have k10 := (by_.ext hSw).c4;have k20 := (b8.ext hSw).c2;have k30 := (b9.ext hSw).c2;go_simp;try with_reducible rfl
  try simp only [zP]
  refine wpL.tk (i := 5) (d := some 36) (v := ?v_h) rfl rfl hQ (Or.inl ⟨by rfl, ?y_h⟩) ES ?_
  case y_h => intro w' hSw;have k00 := (bx.ext hSw).c4;have k10 := (by_.ext hSw).c4;have k20 := (b8.ext hSw).c2;have k30 := (b9.ext hSw).c2;go_simp;try with_reducible rfl
  try simp only [zP]
  refine wpL.tk (i := 10) (d := some 41) (v := ?v_i) rfl rfl hQ (Or.inl ⟨by rfl, ?y_i⟩) ES ?_
  case y_i => intro w' hSw;have k00 := (bx.ext hSw).c4;have k10 := (by_.ext hSw).c4;have k20 := (b8.ext hSw).c2;have k30 := (b9.ext hSw).c2;go_simp;try with_reducible rfl
  try simp only [zP]
  refine wpL.tk (i := 14) (d := some 45) (v := ?v_j) rfl rfl hQ (Or.inl ⟨by rfl, ?y_j⟩) ES ?_
  case y_j => intro w' hSw;have k00 := (bx.ext hSw).c4;have k10 := (by_.ext hSw).c4;have k20 := (b8.ext hSw).c2;have k30 := (b9.ext hSw).c2;go_simp;try with_reducible rfl
  try simp only [zP]
  refine wpL.cl (i := 3) rfl (fun K hK => ?_);go_simp
  (go_at_call 103; refine (p_divide (h.num.ext ES) (hg.ext ES) (by omega) (by omega) Hg0.out Hgq.out).mono ?_; rintro e wk1 ⟨s3, A3, n3, c3, rfl, h3, hx0⟩; have E0_5 := Ext.trans ES hx0)
  refine hK.out _ _ E0_5 ?_;clear hK K
  try simp only [zP]
  refine wpL.cl (i := 7) rfl (fun K hK => ?_);go_simp
  (go_at_call 103; refine (p_divide (k.num.ext E0_5) (hh.ext E0_5) (by omega) (by omega) Hh0.out Hhp.out).mono ?_; rintro e wk2 ⟨s4, A4, n4, c4, rfl, h4, hx1⟩; have E1_5 := Ext.trans E0_5 hx1)
  refine hK.out _ _ E1_5 ?_;clear hK K
  try simp only [zP]
  refine wpL.cl (i := 8) rfl (fun K hK => ?_);go_simp
  (go_at_call 64; refine (p_Mul (h3.ext hx1) h4 (by omega) (by omega) h64).mono ?_; rintro e wk3 ⟨s5, A5, n5, c5, rfl, h5, hx2⟩; have E2_5 := Ext.trans E1_5 hx2)
  refine hK.out _ _ E2_5 ?_;clear hK K
  try simp only [zP]
  refine wpL.cl (i := 12) rfl (fun K hK => ?_);go_simp
  (go_at_call 103; refine (p_divide (h.den.ext E2_5) (hh.ext E2_5) (by omega) (by omega) Hh0.out Hhq.out).mono ?_; rintro e wk4 ⟨s6, A6, n6, c6, rfl, h6, hx3⟩; have E3_5 := Ext.trans E2_5 hx3)
  refine hK.out _ _ E3_5 ?_;clear hK K
  try simp only [zP]
  refine wpL.cl (i := 16) rfl (fun K hK => ?_);go_simp
  (go_at_call 103; refine (p_divide (k.den.ext E3_5) (hg.ext E3_5) (by omega) (by omega) Hg0.out Hgp.out).mono ?_; rintro e wk5 ⟨s7, A7, n7, c7, rfl, h7, hx4⟩; have E4_5 := Ext.trans E3_5 hx4)
  refine hK.out _ _ E4_5 ?_;clear hK K
  try simp only [zP]
  refine wpL.cl (i := 17) rfl (fun K hK => ?_);go_simp
  (go_at_call 64; refine (p_Mul (h6.ext hx4) h7 (by omega) (by omega) h64).mono ?_; rintro e wk6 ⟨s8, A8, n8, c8, rfl, h8, hx5⟩; have E5_5 := Ext.trans E4_5 hx5)
  refine hK.out _ _ E5_5 ?_;clear hK K
  try simp only [zP]
  refine wpL.tk (i := 18) (d := some 49) (v := ?v_k) rfl rfl hQ (Or.inl ⟨by rfl, ?y_k⟩) E5_5 ?_
  case y_k => intro w' hSw;go_simp;try with_reducible rfl
  try simp only [zP]
  have z0 := (bz.ext E5_5).cell 0 _ rfl;have z1 := (bz.ext E5_5).cell 1 _ rfl;have z2 := (bz.ext E5_5).cell 2 _ rfl;have z3 := (bz.ext E5_5).cell 3 _ rfl;have f0 := (bz.ext E5_5).frozen 0;have f1 := (bz.ext E5_5).frozen 1;have f2 := (bz.ext E5_5).frozen 2;have f3 := (bz.ext E5_5).frozen 3;refine wpL.tl (i := 19) rfl (fun K hK => ?_);go_simp;refine hK.out _ _ ?_;clear hK K
  try simp only [zP]
  refine wpL.done (by kernel_rfl) ?_ _;clear hQ
  go_wp2_with fail
  have hk1 : ((q.den : Int) / (hq : Int)) * ((p.den : Int) / (g : Int)) = ((q * p).den : Int) := by rw [Hq2.out]; simp
  rw [hk1] at h8;rw [<- Hq1.out] at h5;obtain ⟨b1, b2, b3, b4⟩ := fin_quad (s := s5) (A := A5) (n := n5) (c := c5) (t := s8) (B := A8) (m := n8) (d := c8) (bz.ext E5_5);have r0 := b1.cell 0 (.bool s5) rfl;have r1 := b1.cell 1 (.slice A5 n5 c5) rfl;have r2 := b1.cell 2 (.bool s8) rfl;have r3 := b1.cell 3 (.slice A8 n8 c8) rfl;unfold set4 at r0 r1 r2 r3;refine bodyPost_ret (v := .agg #[.bool s5, .slice A5 n5 c5, .bool s8, .slice A8 n8 c8]) (by simp [results, Tryz.results59, go_sem, r0, r1, r2, r3]) rfl ⟨s5, A5, n5, c5, s8, A8, n8, c8, rfl, ⟨?_, ?_⟩, b3 _ (extW.trans E5_5) (by omega)⟩
  ·exact b2 _ _ _ _ _ _ (h5.ext (hx3.trans (hx4.trans hx5)))
  ·exact b2 _ _ _ _ _ _ h8
end
end Go.Proofs.YtpeddoaknfjbbaaGreatDoor
