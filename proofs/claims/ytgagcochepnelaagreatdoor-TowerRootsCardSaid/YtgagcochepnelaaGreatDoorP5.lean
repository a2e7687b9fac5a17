/- Walks and laws, a part. -/
import Derived.Test.YtgagcochepnelaaGreatDoorP4
import Derived.Test.YtgagcochepnelaaGreatDoorP2
import Derived.Test.YtgagcochepnelaaGreatDoorP1
import Derived.Lib.MinMax
set_option linter.unusedSimpArgs false
set_option linter.unusedVariables false
set_option maxHeartbeats 64000000
namespace Go.Proofs.YtgagcochepnelaaGreatDoor
open Go.RowKit
attribute [local go_sem ↓] Go.wp_at_zero Go.wp_at_succ
theorem gcd_tmod (a b : Int) : Nat.gcd b.natAbs (Int.tmod a b).natAbs = Nat.gcd a.natAbs b.natAbs := by
 rw [Int.natAbs_tmod, Nat.gcd_comm a.natAbs, Nat.gcd_rec b.natAbs a.natAbs, Nat.gcd_comm]
theorem tmod_lt (a b : Int) (h : b ≠ 0) : (Int.tmod a b).natAbs < b.natAbs := by
 rw [Int.natAbs_tmod];exact Nat.mod_lt _ (by omega)
section
variable {w : World}
theorem small_gcd (a b : Int) (ha : a ≠ 0) (h1 : a.natAbs < 9223372036854775808) (h2 : b.natAbs < 9223372036854775808) :
  Calls Tryz.prog 155 #[.int .i64 a, .int .i64 b] w fun e w' => e = .returned (.int .i64 ((Nat.gcd a.natAbs b.natAbs : Nat) : Int)) /\ Ext w w' := by
 obtain ⟨G, hG⟩ : ∃ G, Nat.gcd a.natAbs b.natAbs = G := ⟨_, rfl⟩;rw [hG]
 go_enter Tryz.func155, Tryz.ntmps155
 go_wp2
 go_loopw [0, 1] (fun x y V => ∃ c d : Int, x = .int .i64 c /\ y = .int .i64 d /\ Nat.gcd c.natAbs d.natAbs = G /\ c ≠ 0 /\ c.natAbs < 9223372036854775808 /\ d.natAbs < 9223372036854775808 /\ Ext w V) (fun _ y _ => (intOf y).natAbs)
 case atStart => exact ⟨a, b, rfl, rfl, hG, ha, h1, h2, Ext.refl _⟩
 case round =>
  obtain ⟨c, d, rfl, rfl, hg, hc0, hc, hd, hext⟩ := hrel;have Hg := Lib.hid hg;clear hg
  by_cases h0 : d = 0
  ·subst h0
   have hG2 : c.natAbs = G := by have := Hg.out; rwa [Int.natAbs_zero, Nat.gcd_zero_right] at this
   have hmx : max c (-c) = (G : Int) := by omega
   go_wp2
   go_ret
   exact ⟨rfl, hext⟩
  ·have hne : (d == 0) = false := by rw [beq_eq_false_iff_ne]; exact h0
   have hlt := tmod_lt c d h0;have hgt := gcd_tmod c d;obtain ⟨m, hm⟩ : ∃ m, Int.tmod c d = m := ⟨_, rfl⟩;rw [hm] at hlt hgt;have hw : wrap64 (Int.tmod c d) = m := by rw [hm]; exact IntWalk.wrap64_in _ (by omega)
   have hw2 : IntKind.i64.wrap (Int.tmod c d) = m := by rw [hm]; exact IntWalk.i64_in _ (by omega)
   have Hgt := Lib.hid hgt;clear hgt
   go_wp2_with fail
   have ES0 := Ext.refl wr;refine wp_region_held_drew (S := Ext wr) (by kernel_rfl) ES0.drew (fun ES => ?_);clear ES0;refine Late.s0 ES (fun hAl hQ => ?_);refine Late.u 0 7 hQ ?_
   try simp only [zP]
   refine Late.u 1 8 hQ ?_
   try simp only [zP]
   refine Late.u 2 9 hQ ?_
   try simp only [zP]
   refine Late.u 3 10 hQ ?_
   try simp only [zP]
   refine Late.u 4 0 hQ ?_
   try simp only [zP]
   refine Late.u 5 1 hQ ?_
   try simp only [zP]
   refine Late.d0 (fun wz ez Ez => ?_);clear hAl hQ ES
   go_wp2_with fail
   refine ⟨⟨d, m, rfl, rfl, by rw [Hgt.out, Hg.out], h0, hd, by omega, hext.trans Ez⟩, ?_⟩;simp only [intOf];exact hlt
theorem tdiv_abs_le (a b : Int) : (Int.tdiv a b).natAbs <= a.natAbs := by
 rw [Int.natAbs_tdiv]; exact Nat.div_le_self _ _
theorem p_lowest (N D : Int) (hD : 0 < D) (hN1 : N.natAbs < 9223372036854775808) (hD1 : D.natAbs < 9223372036854775808) : Calls Tryz.prog 137 #[.int .i64 N, .int .i64 D] w (RetNR (mkRat N D.natAbs) 2 w) := by
 obtain ⟨e1, e2⟩ := mkRat_parts N (D := D.natAbs) (by omega);obtain ⟨g, hg⟩ : ∃ g, Nat.gcd D.natAbs N.natAbs = g := ⟨_, rfl⟩;have hg' : N.natAbs.gcd D.natAbs = g := by rw [<- hg, Nat.gcd_comm]
 rw [hg'] at e1 e2;have hgD : g ∣ D.natAbs := by rw [<- hg']; exact Nat.gcd_dvd_right _ _
 have hgN : g ∣ N.natAbs := by rw [<- hg']; exact Nat.gcd_dvd_left _ _
 have hg0 : 0 < g := Nat.pos_of_dvd_of_pos hgD (by omega);have hdN : (g : Int) ∣ N := Int.ofNat_dvd_left.2 hgN;have hdD : (g : Int) ∣ D := Int.ofNat_dvd_left.2 hgD;have hne : ((g : Int) == 0) = false := by rw [beq_eq_false_iff_ne]; omega
 have b1 := tdiv_abs_le N g;have b2 := tdiv_abs_le D g;obtain ⟨Q1, hQ1⟩ : ∃ Q, Int.tdiv N g = Q := ⟨_, rfl⟩;obtain ⟨Q2, hQ2⟩ : ∃ Q, Int.tdiv D g = Q := ⟨_, rfl⟩;rw [hQ1] at b1;rw [hQ2] at b2;have w1 : wrap64 (Int.tdiv N g) = Q1 := by rw [hQ1]; exact IntWalk.wrap64_in _ (by omega)
 have w2 : IntKind.i64.wrap (Int.tdiv N g) = Q1 := by rw [hQ1]; exact IntWalk.i64_in _ (by omega)
 have w3 : wrap64 (Int.tdiv D g) = Q2 := by rw [hQ2]; exact IntWalk.wrap64_in _ (by omega)
 have w4 : IntKind.i64.wrap (Int.tdiv D g) = Q2 := by rw [hQ2]; exact IntWalk.i64_in _ (by omega)
 have hgn : ¬ g = 0 := by omega
 have w5 : IntKind.i64.wrap Q1 = Q1 := IntWalk.i64_in _ (by omega);have w6 : IntKind.i64.wrap Q2 = Q2 := IntWalk.i64_in _ (by omega);have w7 : wrap64 Q1 = Q1 := IntWalk.wrap64_in _ (by omega);have w8 : wrap64 Q2 = Q2 := IntWalk.wrap64_in _ (by omega);have hN : (mkRat N D.natAbs).num = Q1 := by rw [e1, <- hQ1, Int.tdiv_eq_ediv_of_dvd hdN]
 have hDD : ((mkRat N D.natAbs).den : Int) = Q2 := by rw [e2, <- hQ2, Int.tdiv_eq_ediv_of_dvd hdD, Int.natCast_ediv, Int.natAbs_of_nonneg (Int.le_of_lt hD)]
 have HN := Lib.hid hN;have HDD := Lib.hid hDD;have Hg := Lib.hid hg;clear hg hg' e1 e2 hgD hgN hdN hdD hN hDD
 go_enter Tryz.func137, Tryz.ntmps137
 go_upto_region 1 with (fail)
 obtain ⟨W, hW, extW, bz, hz⟩ := box1 w 30 #[Value.bool false, Value.slice none 0 0, Value.bool false, Value.slice none 0 0];rw [<- hW];clear hW
 go_wp2_with fail
 refine (small_gcd D N (by omega) hD1 hN1).mono ?_;rintro e wa ⟨rfl, hxa⟩;rw [Hg.out];replace bz := bz.ext hxa;replace extW := extW.trans hxa
 go_wp2_with fail
 refine wpL.st 9 (fun hQ ES => ?_);refine wpL.u 0 9 hQ ES ?_
 try simp only [zP]
 refine wpL.u 1 10 hQ ES ?_
 try simp only [zP]
 refine wpL.u 4 13 hQ ES ?_
 try simp only [zP]
 refine wpL.u 5 14 hQ ES ?_
 try simp only [zP]
 refine wpL.u 2 11 hQ ES ?_
 try simp only [zP]
 refine wpL.u 6 15 hQ ES ?_
 try simp only [zP]
 refine wpL.cl (i := 3) rfl (fun K hK => ?_);go_simp
 (go_at_call 90; refine (p_FromInt Q1 (by omega) (by omega)).mono ?_; rintro e wb ⟨s1, A1, n1, c1, rfl, h1, hx0⟩; have E0_2 := Ext.trans ES hx0)
 refine hK.out _ _ E0_2 ?_;clear hK K
 try simp only [zP]
 refine wpL.cl (i := 7) rfl (fun K hK => ?_);go_simp
 (go_at_call 90; refine (p_FromInt Q2 (by omega) (by omega)).mono ?_; rintro e wc ⟨s2, A2, n2, c2, rfl, h2, hx1⟩; have E1_2 := Ext.trans E0_2 hx1)
 refine hK.out _ _ E1_2 ?_;clear hK K
 try simp only [zP]
 refine wpL.u 8 17 hQ E1_2 ?_
 try simp only [zP]
 have z0 := (bz.ext E1_2).cell 0 _ rfl;have z1 := (bz.ext E1_2).cell 1 _ rfl;have z2 := (bz.ext E1_2).cell 2 _ rfl;have z3 := (bz.ext E1_2).cell 3 _ rfl;have f0 := (bz.ext E1_2).frozen 0;have f1 := (bz.ext E1_2).frozen 1;have f2 := (bz.ext E1_2).frozen 2;have f3 := (bz.ext E1_2).frozen 3;refine wpL.tl (i := 9) rfl (fun K hK => ?_);go_simp;refine hK.out _ _ ?_;clear hK K
 try simp only [zP]
 refine wpL.done (by kernel_rfl) ?_ _;clear hQ
 go_wp2_with fail
 clear b1 b2;obtain ⟨b1, b2, b3, b4⟩ := fin_quad (s := s1) (A := A1) (n := n1) (c := c1) (t := s2) (B := A2) (m := n2) (d := c2) (bz.ext E1_2);have r0 := b1.cell 0 (.bool s1) rfl;have r1 := b1.cell 1 (.slice A1 n1 c1) rfl;have r2 := b1.cell 2 (.bool s2) rfl;have r3 := b1.cell 3 (.slice A2 n2 c2) rfl;unfold set4 at r0 r1 r2 r3;refine bodyPost_ret (v := .agg #[.bool s1, .slice A1 n1 c1, .bool s2, .slice A2 n2 c2]) (by simp [results, Tryz.results137, go_sem, r0, r1, r2, r3]) rfl ⟨s1, A1, n1, c1, s2, A2, n2, c2, rfl, ⟨?_, ?_⟩, b3 _ (extW.trans E1_2) (by omega)⟩
 ·rw [HN.out]
  exact b2 _ _ _ _ _ _ (h1.ext hx1)
 ·rw [HDD.out]
  exact b2 _ _ _ _ _ _ h2
end
def Sm (q : Rat) (a b : Int) : Prop := a = q.num /\ b = (q.den : Int) /\ a.natAbs < 2147483648 /\ b.natAbs < 2147483648
theorem NoWord.ints {a b : Int} : NoWord #[.int .i64 a, .int .i64 b] := by
 intro i k h
 match i with
 | 0 => simp at h
 | 1 => simp at h
 | i + 2 => simp at h
theorem fin_ints {w2 : World} {g : Nat} {T : TypeId} {x y a b : Int} (hb : Box w2 g T #[.int .i64 x, .int .i64 y]) :
  Box (set2 w2 g (.int .i64 a) (.int .i64 b)) g T #[.int .i64 a, .int .i64 b] /\
  (∀ z L s' A' n' c', NI w2 z L s' A' n' c' -> NI (set2 w2 g (.int .i64 a) (.int .i64 b)) z L s' A' n' c') /\
  (∀ W, Ext W w2 -> W.heap.size <= g -> Ext W (set2 w2 g (.int .i64 a) (.int .i64 b))) /\
  (∀ g' T' cs', g' ≠ g -> Box w2 g' T' cs' -> Box (set2 w2 g (.int .i64 a) (.int .i64 b)) g' T' cs') := by
 unfold set2;have h1 : Box (w2.setCell ⟨g, 0, none⟩ (.int .i64 a)) g T #[.int .i64 a, .int .i64 y] := hb.set 0 (.int .i64 a);refine ⟨h1.set 1 (.int .i64 b), fun z L s' A' n' c' h => ?_, fun W e hg => ?_, fun g' T' cs' hg h => ?_⟩
 ·exact (h.set hb NoWord.ints 0 _).set h1 NoWord.ints 1 _
 ·exact (e.setCell hg _).setCell hg _
 ·exact (h.far hg _).far hg _
section
variable {w w' : World} {z y : Int} {q p : Rat} {L M : Nat} {s t s' t' : Bool} {A B A' B' : Option Addr} {n c m d n' c' m' d' : Nat}
theorem p_Int64 (h : NI w z L s A n c) (hL : L <= 100000) : Calls Tryz.prog 154 #[.agg #[.bool s, .slice A n c]] w (RetV z w) := by
 obtain ⟨xs, hn, hx, hc, hcm, hi, hl⟩ := h.out;rw [<- hi.eq];exact int_Int64 hn hx hc hcm (by omega)
theorem NI.one_word (h : NI w z L s A n c) (h1 : n <= 1) : z.natAbs < 4294967296 := by
 obtain ⟨xs, hn, hx, hc, hcm, hi, hl⟩ := h.out;have h2 := val_lt hx.1;have h3 : 4294967296 ^ xs.length <= 4294967296 ^ 1 := Nat.pow_le_pow_right (by omega) (by omega);rw [hi.abs] at h2;omega
def RetSm (q : Rat) (w : World) (e : Ending) (w' : World) : Prop := ∃ a b ok, e = .returned (.tuple #[.agg #[.int .i64 a, .int .i64 b], .bool ok]) /\ (ok = true -> Sm q a b) /\ Ext w w'
theorem p_toSmall (h : NR w q L s A n c t B m d) (hL : L <= 20000) : Calls Tryz.prog 136 #[.agg #[.bool s, .slice A n c, .bool t, .slice B m d]] w (RetSm q w) := by
 have hnm : n <= 20000 /\ m <= 20000 := by have := h.num.size; have := h.den.size; omega
 go_enter Tryz.func136, Tryz.ntmps136
 go_upto_region 1 with (fail)
 obtain ⟨W, hW, extW, bx, bz, hz⟩ := box2 w 30 94 #[.bool s, .slice A n c, .bool t, .slice B m d] #[Value.int .i64 0, Value.int .i64 0];rw [<- hW];clear hW;have x0 := bx.cell 0 (.bool s) rfl;have x1 := bx.cell 1 (.slice A n c) rfl;have x2 := bx.cell 2 (.bool t) rfl;have x3 := bx.cell 3 (.slice B m d) rfl;have hE := Ext.refl W
 by_cases hn : n <= 1
 ·have d1 : decide ((1 : Int) < (n : Int)) = false := decide_eq_false (by omega)
  have d1' : decide (1 < n) = false := decide_eq_false (by omega)
  by_cases hm : m = 1
  ·have d2 : ((m : Int) != 1) = false := by simp [hm]
   have hq1 := h.num.one_word hn;have hq2 := h.den.one_word (by omega);have hv1 := (fit_yes (z := q.num) (by omega)).2;have hv2 := (fit_yes (z := (q.den : Int)) (by omega)).2;have Hv1 := Lib.hid hv1;have Hv2 := Lib.hid hv2;clear hv1 hv2;subst hm
   go_wp2_with fail
   refine (p_Int64 (h.num.ext extW) (by omega)).mono ?_;rintro e wa ⟨rfl, hxa⟩;rw [Hv1.out];have x2 := (bx.ext hxa).cell 2 (.bool t) rfl;have x3 := (bx.ext hxa).cell 3 (.slice B 1 d) rfl
   go_wp2_with fail
   refine (p_Int64 (h.den.ext (extW.trans hxa)) (by omega)).mono ?_;rintro e wb ⟨rfl, hxb⟩;rw [Hv2.out];clear x0 x1 x2 x3 hE;have hE := hxa.trans hxb;have z0 := (bz.ext hE).cell 0 _ rfl;have z1 := (bz.ext hE).cell 1 _ rfl;have f0 := (bz.ext hE).frozen 0;have f1 := (bz.ext hE).frozen 1;obtain ⟨a, ha⟩ : ∃ a, q.num = a := ⟨_, rfl⟩;obtain ⟨b, hb⟩ : ∃ b, (q.den : Int) = b := ⟨_, rfl⟩;have Ha := Lib.hid ha;have Hb := Lib.hid hb;rw [ha, hb];rw [ha] at hq1;rw [hb] at hq2;clear ha hb
   by_cases k1 : -2147483648 < a
   ·have g1 : decide (-2147483648 < a) = true := decide_eq_true k1
    by_cases k2 : a < 2147483648
    ·have g2 : decide (a < 2147483648) = true := decide_eq_true k2
     by_cases k3 : 0 < b
     ·have g3 : decide (0 < b) = true := decide_eq_true k3
      by_cases k4 : b < 2147483648
      ·have g4 : decide (b < 2147483648) = true := decide_eq_true k4
       go_wp2_with fail
       obtain ⟨b1, b2, b3, b4⟩ := fin_ints (a := a) (b := b) (bz.ext hE);have r0 := b1.cell 0 (.int .i64 (a)) rfl;have r1 := b1.cell 1 (.int .i64 (b)) rfl;unfold set2 at r0 r1;exact bodyPost_ret (v := .tuple #[.agg #[.int .i64 (a), .int .i64 (b)], .bool true]) (by simp [results, Tryz.results136, go_sem, r0, r1]) rfl ⟨a, b, true, rfl, (fun _ => ⟨Ha.out.symm, Hb.out.symm, by omega, by omega⟩), b3 _ (extW.trans hE) (by omega)⟩
      ·have g4 : decide (b < 2147483648) = false := decide_eq_false k4
       go_wp2_with fail
       obtain ⟨b1, b2, b3, b4⟩ := fin_ints (a := a) (b := b) (bz.ext hE);have r0 := b1.cell 0 (.int .i64 (a)) rfl;have r1 := b1.cell 1 (.int .i64 (b)) rfl;unfold set2 at r0 r1;exact bodyPost_ret (v := .tuple #[.agg #[.int .i64 (a), .int .i64 (b)], .bool false]) (by simp [results, Tryz.results136, go_sem, r0, r1]) rfl ⟨a, b, false, rfl, (fun h => by cases h), b3 _ (extW.trans hE) (by omega)⟩
     ·have g3 : decide (0 < b) = false := decide_eq_false k3
      go_wp2_with fail
      obtain ⟨b1, b2, b3, b4⟩ := fin_ints (a := a) (b := b) (bz.ext hE);have r0 := b1.cell 0 (.int .i64 (a)) rfl;have r1 := b1.cell 1 (.int .i64 (b)) rfl;unfold set2 at r0 r1;exact bodyPost_ret (v := .tuple #[.agg #[.int .i64 (a), .int .i64 (b)], .bool false]) (by simp [results, Tryz.results136, go_sem, r0, r1]) rfl ⟨a, b, false, rfl, (fun h => by cases h), b3 _ (extW.trans hE) (by omega)⟩
    ·have g2 : decide (a < 2147483648) = false := decide_eq_false k2
     go_wp2_with fail
     obtain ⟨b1, b2, b3, b4⟩ := fin_ints (a := a) (b := b) (bz.ext hE);have r0 := b1.cell 0 (.int .i64 (a)) rfl;have r1 := b1.cell 1 (.int .i64 (b)) rfl;unfold set2 at r0 r1;exact bodyPost_ret (v := .tuple #[.agg #[.int .i64 (a), .int .i64 (b)], .bool false]) (by simp [results, Tryz.results136, go_sem, r0, r1]) rfl ⟨a, b, false, rfl, (fun h => by cases h), b3 _ (extW.trans hE) (by omega)⟩
   ·have g1 : decide (-2147483648 < a) = false := decide_eq_false k1
    go_wp2_with fail
    obtain ⟨b1, b2, b3, b4⟩ := fin_ints (a := a) (b := b) (bz.ext hE);have r0 := b1.cell 0 (.int .i64 (a)) rfl;have r1 := b1.cell 1 (.int .i64 (b)) rfl;unfold set2 at r0 r1;exact bodyPost_ret (v := .tuple #[.agg #[.int .i64 (a), .int .i64 (b)], .bool false]) (by simp [results, Tryz.results136, go_sem, r0, r1]) rfl ⟨a, b, false, rfl, (fun h => by cases h), b3 _ (extW.trans hE) (by omega)⟩
  ·have d2 : ((m : Int) != 1) = true := by rw [bne_iff_ne]; omega
   have z0 := (bz.ext hE).cell 0 _ rfl;have z1 := (bz.ext hE).cell 1 _ rfl;have f0 := (bz.ext hE).frozen 0;have f1 := (bz.ext hE).frozen 1
   go_wp2_with fail
   obtain ⟨b1, b2, b3, b4⟩ := fin_ints (a := 0) (b := 0) (bz.ext hE);have r0 := b1.cell 0 (.int .i64 (0)) rfl;have r1 := b1.cell 1 (.int .i64 (0)) rfl;unfold set2 at r0 r1;exact bodyPost_ret (v := .tuple #[.agg #[.int .i64 (0), .int .i64 (0)], .bool false]) (by simp [results, Tryz.results136, go_sem, r0, r1]) rfl ⟨0, 0, false, rfl, (fun h => by cases h), b3 _ (extW.trans hE) (by omega)⟩
 ·have d1 : decide ((1 : Int) < (n : Int)) = true := decide_eq_true (by omega)
  have d1' : decide (1 < n) = true := decide_eq_true (by omega);have z0 := (bz.ext hE).cell 0 _ rfl;have z1 := (bz.ext hE).cell 1 _ rfl;have f0 := (bz.ext hE).frozen 0;have f1 := (bz.ext hE).frozen 1
  go_wp2_with fail
  obtain ⟨b1, b2, b3, b4⟩ := fin_ints (a := 0) (b := 0) (bz.ext hE);have r0 := b1.cell 0 (.int .i64 (0)) rfl;have r1 := b1.cell 1 (.int .i64 (0)) rfl;unfold set2 at r0 r1;exact bodyPost_ret (v := .tuple #[.agg #[.int .i64 (0), .int .i64 (0)], .bool false]) (by simp [results, Tryz.results136, go_sem, r0, r1]) rfl ⟨0, 0, false, rfl, (fun h => by cases h), b3 _ (extW.trans hE) (by omega)⟩
theorem mul31 {a b : Int} (ha : a.natAbs < 2147483648) (hb : b.natAbs < 2147483648) : (a * b).natAbs < 4611686018427387904 := by
 rw [Int.natAbs_mul];have := Nat.mul_le_mul (Nat.le_of_lt_succ ha) (Nat.le_of_lt_succ hb);omega
theorem p_times {a b a' b' : Int} (h : Sm q a b) (k : Sm p a' b') : Calls Tryz.prog 101 #[.agg #[.int .i64 a, .int .i64 b], .agg #[.int .i64 a', .int .i64 b']] w (RetNR (q * p) 2 w) := by
 obtain ⟨h1, h2, h3, h4⟩ := h;obtain ⟨k1, k2, k3, k4⟩ := k;have hb0 : 0 < b := by have := q.den_pos; omega
 have hb0' : 0 < b' := by have := p.den_pos; omega
 have m1 := mul31 h3 k4;have m2 := mul31 k3 h4;have m3 := mul31 h4 k4;have m4 := mul31 h3 k3;have hpos : 0 < b * b' := Int.mul_pos hb0 hb0'
 have hval : mkRat (a * a') (b * b').natAbs = q * p := by
  rw [Rat.mul_def', Int.natAbs_mul, h1, h2, k1, k2, Int.natAbs_natCast, Int.natAbs_natCast]
 have Hval := Lib.hid hval;clear hval h1 h2 k1 k2;obtain ⟨u1, hu1⟩ : ∃ u, a * b' = u := ⟨_, rfl⟩;obtain ⟨u2, hu2⟩ : ∃ u, a' * b = u := ⟨_, rfl⟩;obtain ⟨u3, hu3⟩ : ∃ u, b * b' = u := ⟨_, rfl⟩;obtain ⟨u4, hu4⟩ : ∃ u, a * a' = u := ⟨_, rfl⟩;rw [hu1] at m1;rw [hu2] at m2;rw [hu3] at m3 hpos;rw [hu4] at m4;have Hu1 := Lib.hid hu1;have Hu2 := Lib.hid hu2;have Hu3 := Lib.hid hu3;have Hu4 := Lib.hid hu4;have w1 : IntKind.i64.wrap u1 = u1 := IntWalk.i64_in _ (by omega);have w2 : IntKind.i64.wrap u2 = u2 := IntWalk.i64_in _ (by omega);have w3 : IntKind.i64.wrap u3 = u3 := IntWalk.i64_in _ (by omega);have w4 : IntKind.i64.wrap u4 = u4 := IntWalk.i64_in _ (by omega);have v1 : wrap64 u1 = u1 := IntWalk.wrap64_in _ (by omega);have v2 : wrap64 u2 = u2 := IntWalk.wrap64_in _ (by omega);have v3 : wrap64 u3 = u3 := IntWalk.wrap64_in _ (by omega);have v4 : wrap64 u4 = u4 := IntWalk.wrap64_in _ (by omega);have w5 : IntKind.i64.wrap (u1 + u2) = u1 + u2 := IntWalk.i64_in _ (by omega);have v5 : wrap64 (u1 + u2) = u1 + u2 := IntWalk.wrap64_in _ (by omega)
 go_enter Tryz.func101, Tryz.ntmps101
 go_upto_region 1 with (fail)
 obtain ⟨W, hW, extW, bx, by_, bz, hz⟩ := box3 w 94 94 30 #[.int .i64 a, .int .i64 b] #[.int .i64 a', .int .i64 b'] #[Value.bool false, Value.slice none 0 0, Value.bool false, Value.slice none 0 0];rw [<- hW];clear hW;have x0 := bx.cell 0 (.int .i64 a) rfl;have x1 := bx.cell 1 (.int .i64 b) rfl;have y0 := by_.cell 0 (.int .i64 a') rfl;have y1 := by_.cell 1 (.int .i64 b') rfl
 go_wp2_with fail
 refine (p_lowest _ _ hpos (by omega) (by omega)).mono ?_;rintro e wa ⟨s, A, n, c, t, B, m, d, rfl, hr, hxa⟩;rw [<- Hu3.out] at hr;have z0 := (bz.ext hxa).cell 0 _ rfl;have z1 := (bz.ext hxa).cell 1 _ rfl;have z2 := (bz.ext hxa).cell 2 _ rfl;have z3 := (bz.ext hxa).cell 3 _ rfl;have f0 := (bz.ext hxa).frozen 0;have f1 := (bz.ext hxa).frozen 1;have f2 := (bz.ext hxa).frozen 2;have f3 := (bz.ext hxa).frozen 3
 go_wp2_with fail
 rw [<- Hu4.out, Hval.out] at hr;obtain ⟨b1, b2, b3, b4⟩ := fin_quad (s := s) (A := A) (n := n) (c := c) (t := t) (B := B) (m := m) (d := d) (bz.ext hxa);have r0 := b1.cell 0 (.bool s) rfl;have r1 := b1.cell 1 (.slice A n c) rfl;have r2 := b1.cell 2 (.bool t) rfl;have r3 := b1.cell 3 (.slice B m d) rfl;unfold set4 at r0 r1 r2 r3;refine bodyPost_ret (v := .agg #[.bool s, .slice A n c, .bool t, .slice B m d]) (by simp [results, Tryz.results101, go_sem, r0, r1, r2, r3]) rfl ⟨s, A, n, c, t, B, m, d, rfl, ⟨?_, ?_⟩, b3 _ (extW.trans hxa) (by omega)⟩
 ·exact b2 _ _ _ _ _ _ hr.num
 ·exact b2 _ _ _ _ _ _ hr.den
end
theorem Hd.take {P : Program} {ops : Array Oper} {Q : Exit -> Act -> World -> Prop} {md : Region.Mode} {S : World -> Prop} {n i : Nat} {oi : Oper} {d : Option Tmp} {v : Value} {L : Array Bool} {a : Act} {w : World} (hi : ops[i]? = some oi) (hd : oi.dst = d) (hs : Region.noSelect ops = true)
  (hf : Region.free md ops L i = true) (hr : (Region.ready md ops L).contains i = true) (hQ : QStill Q) (hy : YieldsIf P ops S oi v a) (hS : S w) (h : wpAnyH P md ops Q S n (L.setIfInBounds i true) (a.put d v) w) : wpAnyH P md ops Q S (n + 1) L a w := by
 subst hd;exact wpAnyH_first hi (Region.noSelect_spec hs) (fun c a w => (hQ.put c a _ _ w).1) n L a w (fun j oj hj hne hun hno => Region.free_spec hi hf j oj hj hne hun hno) (by simpa using hr) hy hS h
section
variable {w w' : World} {z y : Int} {q p : Rat} {L M : Nat} {s t s' t' : Bool} {A B A' B' : Option Addr} {n c m d n' c' m' d' : Nat}
theorem fin_pairs {w2 : World} {g k : Nat} {T : TypeId} {x y u v a b c d : Int} (hb : Box w2 g T #[.int .i64 x, .int .i64 y]) (hc : Box w2 k T #[.int .i64 u, .int .i64 v]) (hne : g ≠ k) :
  Box (set2 (set2 w2 g (.int .i64 a) (.int .i64 b)) k (.int .i64 c) (.int .i64 d)) g T #[.int .i64 a, .int .i64 b] /\
  Box (set2 (set2 w2 g (.int .i64 a) (.int .i64 b)) k (.int .i64 c) (.int .i64 d)) k T #[.int .i64 c, .int .i64 d] /\
  (∀ W, Ext W w2 -> W.heap.size <= g -> W.heap.size <= k -> Ext W (set2 (set2 w2 g (.int .i64 a) (.int .i64 b)) k (.int .i64 c) (.int .i64 d))) /\ True := by
 obtain ⟨h1, _, h3, h4⟩ := fin_ints (a := a) (b := b) hb;obtain ⟨j1, _, j3, j4⟩ := fin_ints (a := c) (b := d) (h4 k _ _ (Ne.symm hne) hc);exact ⟨j4 g _ _ hne h1, j1, fun W e hg hk => j3 W (h3 W e hg) hk, trivial⟩
def RetPair (q p : Rat) (w : World) (e : Ending) (w' : World) : Prop := ∃ a b c d ok, e = .returned (.tuple #[.agg #[.int .i64 a, .int .i64 b], .agg #[.int .i64 c, .int .i64 d], .bool ok]) /\ (ok = true -> Sm q a b /\ Sm p c d) /\ Ext w w'
theorem p_smallPair (h : NR w q L s A n c t B m d) (k : NR w p M s' A' n' c' t' B' m' d') (hL : L <= 20000) (hM : M <= 20000) : Calls Tryz.prog 97 #[.agg #[.bool s, .slice A n c, .bool t, .slice B m d], .agg #[.bool s', .slice A' n' c', .bool t', .slice B' m' d']] w (RetPair q p w) := by
 go_enter Tryz.func97, Tryz.ntmps97
 go_upto_region 1 with (fail)
 obtain ⟨W, hW, extW, bx, by_, b4, b5, hz⟩ := box4 w 30 30 94 94 #[.bool s, .slice A n c, .bool t, .slice B m d] #[.bool s', .slice A' n' c', .bool t', .slice B' m' d'] #[Value.int .i64 0, Value.int .i64 0] #[Value.int .i64 0, Value.int .i64 0];rw [<- hW];clear hW;have x0 := bx.cell 0 (.bool s) rfl;have x1 := bx.cell 1 (.slice A n c) rfl;have x2 := bx.cell 2 (.bool t) rfl;have x3 := bx.cell 3 (.slice B m d) rfl
 go_wp2_with fail
 refine (p_toSmall (h.ext extW) hL).mono ?_;rintro e wa ⟨a1, a2, ok1, rfl, hok1, hxa⟩;clear x0 x1 x2 x3
 go_upto_region 2 with (fail)
 refine at_world (fun V => Ext W V /\ Box V wa.heap.size 94 #[.int .i64 a1, .int .i64 a2]) ⟨hxa.alloc _, Box.new wa _ _⟩ ?_;have hg7 : w.heap.size + 4 <= wa.heap.size := Nat.le_trans hz hxa.size;generalize wa.heap.size = g7 at hg7 ⊢;rintro V ⟨EV, x7⟩;replace bx := bx.ext EV;replace by_ := by_.ext EV;replace b4 := b4.ext EV;replace b5 := b5.ext EV;replace extW := extW.trans EV;have Hok1 := Lib.hid hok1;clear hok1 EV hxa
 cases ok1 with
 | false =>
  have hE := Ext.refl V;have z0 := (b4.ext hE).cell 0 _ rfl;have z1 := (b4.ext hE).cell 1 _ rfl;have f0 := (b4.ext hE).frozen 0;have f1 := (b4.ext hE).frozen 1;have z2 := (b5.ext hE).cell 0 _ rfl;have z3 := (b5.ext hE).cell 1 _ rfl;have f2 := (b5.ext hE).frozen 0;have f3 := (b5.ext hE).frozen 1
  go_wp2_with fail
  obtain ⟨k1, k2, k3, _⟩ := fin_pairs (a := 0) (b := 0) (c := 0) (d := 0) (b4.ext hE) (b5.ext hE) (by omega);have r0 := k1.cell 0 (.int .i64 (0)) rfl;have r1 := k1.cell 1 (.int .i64 (0)) rfl;have r2 := k2.cell 0 (.int .i64 (0)) rfl;have r3 := k2.cell 1 (.int .i64 (0)) rfl;unfold set2 at r0 r1 r2 r3;exact bodyPost_ret (v := .tuple #[.agg #[.int .i64 (0), .int .i64 (0)], .agg #[.int .i64 (0), .int .i64 (0)], .bool false]) (by simp [results, Tryz.results97, go_sem, r0, r1, r2, r3]) rfl ⟨0, 0, 0, 0, false, rfl, (fun h => by cases h), k3 _ (extW.trans hE) (by omega) (by omega)⟩
 | true =>
  have y0 := by_.cell 0 (.bool s') rfl;have y1 := by_.cell 1 (.slice A' n' c') rfl;have y2 := by_.cell 2 (.bool t') rfl;have y3 := by_.cell 3 (.slice B' m' d') rfl
  go_wp2_with fail
  refine (p_toSmall (k.ext extW) hM).mono ?_;rintro e wb ⟨c1, c2, ok2, rfl, hok2, hxb⟩;clear y0 y1 y2 y3;have Hok2 := Lib.hid hok2;clear hok2
  go_upto_region 5 with (fail)
  refine at_world (fun V9 => Ext V V9 /\ Box V9 wb.heap.size 94 #[.int .i64 c1, .int .i64 c2]) ⟨hxb.alloc _, Box.new wb _ _⟩ ?_;have hg9 : w.heap.size + 4 <= wb.heap.size := by have := hxb.size; have := x7.lt; omega
  generalize wb.heap.size = g9 at hg9 ⊢;rintro V9 ⟨EV, x9⟩;replace x7 := x7.ext EV;replace b4 := b4.ext EV;replace b5 := b5.ext EV;replace extW := extW.trans EV;clear EV hxb;have hE := Ext.refl V9;have x70 := x7.cell 0 (.int .i64 a1) rfl;have x71 := x7.cell 1 (.int .i64 a2) rfl;have x90 := x9.cell 0 (.int .i64 c1) rfl;have x91 := x9.cell 1 (.int .i64 c2) rfl;have l7 : w.heap.size + 4 <= g7 := hg7;have l9 : w.heap.size + 4 <= g9 := hg9;have z0 := (b4.ext hE).cell 0 _ rfl;have z1 := (b4.ext hE).cell 1 _ rfl;have f0 := (b4.ext hE).frozen 0;have f1 := (b4.ext hE).frozen 1;have z2 := (b5.ext hE).cell 0 _ rfl;have z3 := (b5.ext hE).cell 1 _ rfl;have f2 := (b5.ext hE).frozen 0;have f3 := (b5.ext hE).frozen 1;refine wp_region_held_drew (S := (fun U => Box U g7 94 #[.int .i64 a1, .int .i64 a2] /\ Box U g9 94 #[.int .i64 c1, .int .i64 c2])) (by kernel_rfl) ⟨x7.ext hE.drew, x9.ext hE.drew⟩ (fun HS => ?_);refine Hd.take (i := 0) (d := some 24) (v := ?v_0) rfl rfl (by kernel_rfl) (by kernel_rfl) (by kernel_rfl) (fun _ _ _ _ _ => ⟨fun h => h, fun h => h⟩) (Or.inl ⟨by rfl, ?y_0⟩) HS ?r_0
  case y_0 => intro w' hSw;have k0 := hSw.1.cell 0 _ rfl;have k1 := hSw.1.cell 1 _ rfl;have k2 := hSw.2.cell 0 _ rfl;have k3 := hSw.2.cell 1 _ rfl;go_simp;try rfl
  try simp only [zP]
  refine Hd.take (i := 1) (d := some 25) (v := ?v_1) rfl rfl (by kernel_rfl) (by kernel_rfl) (by kernel_rfl) (fun _ _ _ _ _ => ⟨fun h => h, fun h => h⟩) (Or.inl ⟨by rfl, ?y_1⟩) HS ?r_1
  case y_1 => intro w' hSw;have k0 := hSw.1.cell 0 _ rfl;have k1 := hSw.1.cell 1 _ rfl;have k2 := hSw.2.cell 0 _ rfl;have k3 := hSw.2.cell 1 _ rfl;go_simp;try rfl
  try simp only [zP]
  refine Hd.take (i := 2) (d := some 26) (v := ?v_2) rfl rfl (by kernel_rfl) (by kernel_rfl) (by kernel_rfl) (fun _ _ _ _ _ => ⟨fun h => h, fun h => h⟩) (Or.inl ⟨by rfl, ?y_2⟩) HS ?r_2
  case y_2 => intro w' hSw;have k0 := hSw.1.cell 0 _ rfl;have k1 := hSw.1.cell 1 _ rfl;have k2 := hSw.2.cell 0 _ rfl;have k3 := hSw.2.cell 1 _ rfl;go_simp;try rfl
  try simp only [zP]
  have e4 := fin_ints (a := a1) (b := a2) b4;refine wpAnyH_ready (rs := [3]) (by kernel_rfl) (by simp) (AllReadyH.cons rfl (fun K hK => ?_) AllReadyH.nil);go_simp;refine hK.out _ _ ⟨(e4.2.2.2 _ _ _ (by omega) x7).ext (Ext.refl _).drew, (e4.2.2.2 _ _ _ (by omega) x9).ext (Ext.refl _).drew⟩ (fun _ => ?_);clear hK K
  try simp only [zP]
  have e5 := e4.2.2.2 _ _ _ (by omega) b5;have z40 := e5.cell 0 _ rfl;have z41 := e5.cell 1 _ rfl;have z42 := e5.frozen 0;have z43 := e5.frozen 1;have e6 := fin_ints (a := c1) (b := c2) e5;unfold set2 at z40 z41 z42 z43;refine wpAnyH_ready (rs := [4]) (by kernel_rfl) (by simp) (AllReadyH.cons rfl (fun K hK => ?_) AllReadyH.nil);go_simp;refine hK.out _ _ ⟨(e6.2.2.2 _ _ _ (by omega) (e4.2.2.2 _ _ _ (by omega) x7)).ext (Ext.refl _).drew, (e6.2.2.2 _ _ _ (by omega) (e4.2.2.2 _ _ _ (by omega) x9)).ext (Ext.refl _).drew⟩ (fun _ => ?_);clear hK K
  try simp only [zP]
  refine wpAnyH_ready (rs := [5]) (by kernel_rfl) (by simp) (AllReadyH.cons rfl (fun K hK => ?_) AllReadyH.nil);go_simp;refine hK.out _ _ ⟨(e6.2.2.2 _ _ _ (by omega) (e4.2.2.2 _ _ _ (by omega) x7)).ext (Ext.refl _).drew, (e6.2.2.2 _ _ _ (by omega) (e4.2.2.2 _ _ _ (by omega) x9)).ext (Ext.refl _).drew⟩ (fun _ => ?_);clear hK K
  try simp only [zP]
  refine wpAnyH_done (by kernel_rfl) ?_ _
  go_wp2_with fail
  obtain ⟨k1, k2, k3, _⟩ := fin_pairs (a := a1) (b := a2) (c := c1) (d := c2) (b4.ext hE) (b5.ext hE) (by omega);have r0 := k1.cell 0 (.int .i64 (a1)) rfl;have r1 := k1.cell 1 (.int .i64 (a2)) rfl;have r2 := k2.cell 0 (.int .i64 (c1)) rfl;have r3 := k2.cell 1 (.int .i64 (c2)) rfl;unfold set2 at r0 r1 r2 r3;exact bodyPost_ret (v := .tuple #[.agg #[.int .i64 (a1), .int .i64 (a2)], .agg #[.int .i64 (c1), .int .i64 (c2)], .bool ok2]) (by simp [results, Tryz.results97, go_sem, r0, r1, r2, r3]) rfl ⟨a1, a2, c1, c2, ok2, rfl, (fun h => ⟨Hok1.out (by first | rfl | trivial), Hok2.out h⟩), (k3 _ (extW.trans hE) (by omega) (by omega)).drew⟩
end
def MulLe (K : Nat) : Prop := ∀ (A B : Option Addr) (c d n m : Nat) (xs ys : List Nat) (w : World), xs.length = n -> ys.length = m -> Rd w A xs -> Rd w B ys -> n <= K -> m <= K -> n <= c -> c <= maxLen -> m <= d -> d <= maxLen ->
  Calls Tryz.prog 113 #[.slice A n c, .slice B m d] w (RetN (fun zs => val zs = val xs * val ys /\ Nrm zs /\ zs.length <= xs.length + ys.length) w)
theorem Nrm.eq_nil {xs : List Nat} (h : Nrm xs) (hv : val xs = 0) : xs = [] := by
 have := h.len_le (k := 0) (by omega);exact List.eq_nil_of_length_eq_zero (by omega)
theorem Apart.nil (A : Option Addr) (g : Nat) : Apart A [] g := fun h => absurd rfl h
theorem Rd.trimL {w : World} {A : Option Addr} {xs : List Nat} (h : Rd w A xs) : Rd w A (trimL xs) := by rw [trimL_take]; exact h.take _
theorem Apart.trimL {A : Option Addr} {xs : List Nat} {g : Nat} (h : Apart A xs g) : Apart A (trimL xs) g := fun hn a ha => h (by rintro rfl; exact hn rfl) a ha
section
variable {A B : Option Addr} {c d n m : Nat} {xs ys : List Nat} {w : World}
theorem int_subtractFrom_0 : Calls Tryz.prog 159 #[.slice A 0 c, .slice B 0 d] w fun e w' => e = .returned (.tuple #[]) /\ w' = w := by
 go_enter Tryz.func159, Tryz.ntmps159
 go_wp2
 go_loopw [4, 12] (fun cr i wr => i = .int .i64 0 /\ cr = .int .u64 0 /\ wr = w) (fun _ i _ => 0)
 case atStart => exact ⟨rfl, rfl, rfl⟩
 case round =>
  obtain ⟨rfl, rfl, rfl⟩ := hrel
  go_wp2
  go_loopw [4, 8] (fun cr i wr' => i = .int .i64 0 /\ cr = .int .u64 0 /\ wr' = wr) (fun _ i _ => 0)
  case atStart => exact ⟨rfl, rfl, rfl⟩
  case round =>
   obtain ⟨rfl, rfl, rfl⟩ := hrel
   go_wp2
   go_end0
   exact ⟨rfl, rfl⟩
set_option maxRecDepth 100000 in
theorem int_addHalves_g {g N cz off K : Nat} {pre zs0 : List Nat} (hK : MulLe K) (hblk0 : BlkN w g (pre ++ zs0)) (hoff : pre.length = off) (hN : zs0.length = N) (hw : W32 zs0) (hx : Rd w A xs) (hm : xs.length = n) (hap : Apart A xs g) (hy : Rd w B ys) (hp : ys.length = n) (hbp : Apart B ys g)
  (h2 : 2 <= n) (hnK : (n + 1) / 2 + 1 <= K) (h100 : n <= 100000) (hl : n + n <= N) (hN2 : N <= 900000) (hf : val zs0 + val xs * val ys < 4294967296 ^ N) (hc : n <= c) (hcm : c <= maxLen) (hd : n <= d) (hdm : d <= maxLen) (hcz : N <= cz) (hczm : cz <= maxLen) :
  Calls Tryz.prog 163 #[.slice (some ⟨g, off, none⟩) N cz, .slice A n c, .slice B n d] w (Turned w g pre N [] fun zs => val zs = val zs0 + val xs * val ys) := by
 obtain ⟨ba, oa, rfl⟩ := hx.some (by omega);obtain ⟨bb, ob, rfl⟩ := hy.some (by omega);obtain ⟨h, hh⟩ : ∃ h, h = (n + 1) / 2 := ⟨_, rfl⟩;have Hh := Lib.hid (show ((n : Int) + 1) / 2 = (h : Int) by omega);have hh1 : h < n := by omega
 have hh2 : n <= 2 * h := by omega
 have hh3 : 2 * h <= n + 1 := by omega
 have hhK : h + 1 <= K := by omega
 clear hnK;have Hoff := Lib.hid hoff;clear hoff;have Hm := Lib.hid hm;have Hp := Lib.hid hp;have HN := Lib.hid hN;have Hf := Lib.hid hf;clear hm hp hN hf hh;unfold maxLen at hcm hdm hczm;have ra0 := hx.take h;have ra1 := hx.drop h;have rb0 := hy.take h;have rb1 := hy.drop h;have k1 : (h : Int) <= (n : Int) := by omega
 have k2 : (h : Int) <= (c : Int) := by omega
 have k3 : (h : Int) <= (d : Int) := by omega
 have k4 : (n : Int) <= (c : Int) := by omega
 have k5 : (n : Int) <= (d : Int) := by omega
 have k6 : ¬ c = h := by omega
 have k7 : ¬ d = h := by omega
 go_enter Tryz.func163, Tryz.ntmps163
 go_upto_region 1 with (fail)
 rw [Hh.out];have ES0 := Ext.refl w;refine wp_region_held_drew (S := Ext w) (by kernel_rfl) ES0.drew (fun ES => ?_);clear ES0;refine Late.s0 ES (fun hAl hQ => ?_);refine Late.u 0 18 hQ ?_
 try simp only [zP]
 refine Late.u 1 19 hQ ?_
 try simp only [zP]
 refine Late.u 2 20 hQ ?_
 try simp only [zP]
 refine Late.u 4 22 hQ ?_
 try simp only [zP]
 refine Late.u 5 23 hQ ?_
 try simp only [zP]
 refine Late.u 6 24 hQ ?_
 try simp only [zP]
 refine Late.u 8 26 hQ ?_
 try simp only [zP]
 refine Late.u 9 27 hQ ?_
 try simp only [zP]
 refine Late.u 10 28 hQ ?_
 try simp only [zP]
 refine Late.u 12 30 hQ ?_
 try simp only [zP]
 refine Late.u 13 31 hQ ?_
 try simp only [zP]
 refine Late.u 14 32 hQ ?_
 try simp only [zP]
 refine Late.cl (i := 3) rfl hAl hQ (fun w3 e3 E3 K hK => ?_);go_simp
 (go_at_call 114; refine (int_trimN (xs := xs.take h) (by have := Hm.out; have := Hp.out; simp; omega) (ra0.ext E3) (by omega) (by unfold maxLen; omega)).mono ?_; rintro e v3 ⟨rfl, rfl⟩)
 refine hK.out _ _ (Ext.refl _) ?_;clear hK K
 try simp only [zP]
 refine Late.cl (i := 7) rfl hAl hQ (fun w7 e7 E7 K hK => ?_);go_simp
 (go_at_call 114; refine (int_trimN (xs := xs.drop h) (by have := Hm.out; have := Hp.out; simp; omega) (ra1.ext E7) (by omega) (by unfold maxLen; omega)).mono ?_; rintro e v7 ⟨rfl, rfl⟩)
 refine hK.out _ _ (Ext.refl _) ?_;clear hK K
 try simp only [zP]
 refine Late.cl (i := 11) rfl hAl hQ (fun w11 e11 E11 K hK => ?_);go_simp
 (go_at_call 114; refine (int_trimN (xs := ys.take h) (by have := Hm.out; have := Hp.out; simp; omega) (rb0.ext E11) (by omega) (by unfold maxLen; omega)).mono ?_; rintro e v11 ⟨rfl, rfl⟩)
 refine hK.out _ _ (Ext.refl _) ?_;clear hK K
 try simp only [zP]
 refine Late.cl (i := 15) rfl hAl hQ (fun w15 e15 E15 K hK => ?_);go_simp
 (go_at_call 114; refine (int_trimN (xs := ys.drop h) (by have := Hm.out; have := Hp.out; simp; omega) (rb1.ext E15) (by omega) (by unfold maxLen; omega)).mono ?_; rintro e v15 ⟨rfl, rfl⟩)
 refine hK.out _ _ (Ext.refl _) ?_;clear hK K
 try simp only [zP]
 refine Late.u 16 7 hQ ?_
 try simp only [zP]
 refine Late.u 17 8 hQ ?_
 try simp only [zP]
 refine Late.u 18 9 hQ ?_
 try simp only [zP]
 refine Late.u 19 10 hQ ?_
 try simp only [zP]
 refine Late.d0 (fun wz ez Ez => ?_);clear hAl hQ ES;have ta0 := trimL_len (xs.take h);have ta1 := trimL_len (xs.drop h);have tb0 := trimL_len (ys.take h);have tb1 := trimL_len (ys.drop h);rw [List.length_take] at ta0 tb0;rw [List.length_drop] at ta1 tb1;rw [Hm.out] at ta0 ta1;rw [Hp.out] at tb0 tb1;have qa0 : Rd w (some ⟨ba, oa, none⟩) (trimL (xs.take h)) := by rw [trimL_take]; exact ra0.take _
 have qa1 : Rd w (some ⟨ba, oa + h, none⟩) (trimL (xs.drop h)) := by rw [trimL_take]; exact ra1.take _
 have qb0 : Rd w (some ⟨bb, ob, none⟩) (trimL (ys.take h)) := by rw [trimL_take]; exact rb0.take _
 have qb1 : Rd w (some ⟨bb, ob + h, none⟩) (trimL (ys.drop h)) := by rw [trimL_take]; exact rb1.take _
 generalize hta0 : trimL (xs.take h) = l0 at *;generalize hta1 : trimL (xs.drop h) = l1 at *;generalize htb0 : trimL (ys.take h) = m0 at *;generalize htb1 : trimL (ys.drop h) = m1 at *;have va0 : val l0 = val (xs.take h) := by rw [<- hta0, val_trimL]
 have va1 : val l1 = val (xs.drop h) := by rw [<- hta1, val_trimL]
 have vb0 : val m0 = val (ys.take h) := by rw [<- htb0, val_trimL]
 have vb1 : val m1 = val (ys.drop h) := by rw [<- htb1, val_trimL]
 have Va0 := Lib.hid va0;have Va1 := Lib.hid va1;have Vb0 := Lib.hid vb0;have Vb1 := Lib.hid vb1;clear hta0 hta1 htb0 htb1 va0 va1 vb0 vb1 ra0 ra1 rb0 rb1
 go_wp2_with fail
 refine (hK _ _ _ _ _ _ _ _ _ rfl rfl (qa0.ext Ez) (qb0.ext Ez) (by omega) (by omega) (by omega) (by unfold maxLen; omega) (by omega) (by unfold maxLen; omega)).mono ?_;rintro e u1 ⟨A1, c1, lo, rfl, hr1, hc1, hm1, ⟨hv1, hn1, hl1⟩, hx1⟩;have Hv1 := Lib.hid hv1;clear hv1;have F1 := Ez.trans hx1
 go_wp2_with fail
 refine (hK _ _ _ _ _ _ _ _ _ rfl rfl (qa1.ext F1) (qb1.ext F1) (by omega) (by omega) (by omega) (by unfold maxLen; omega) (by omega) (by unfold maxLen; omega)).mono ?_;rintro e u2 ⟨A2, c2, hi, rfl, hr2, hc2, hm2, ⟨hv2, hn2, hl2⟩, hx2⟩;have Hv2 := Lib.hid hv2;clear hv2;have F2 := F1.trans hx2
 go_wp2_with fail
 refine (int_add rfl rfl (qa0.ext F2) (qa1.ext F2) (by omega) (by omega)).mono ?_;rintro e u3 ⟨A3, c3, sa, rfl, hr3, hc3, hm3, ⟨hv3, hn3, hl3⟩, hx3⟩;have Hv3 := Lib.hid hv3;clear hv3;have F3 := F2.trans hx3
 go_wp2_with fail
 refine (int_add rfl rfl (qb0.ext F3) (qb1.ext F3) (by omega) (by omega)).mono ?_;rintro e u4 ⟨A4, c4, sb, rfl, hr4, hc4, hm4, ⟨hv4, hn4, hl4⟩, hx4⟩;have Hv4 := Lib.hid hv4;clear hv4;have F4 := F3.trans hx4
 go_wp2_with fail
 refine (hK _ _ _ _ _ _ _ _ _ rfl rfl (hr3.rd.ext hx4) hr4.rd (by omega) (by omega) hc3 hm3 hc4 hm4).mono ?_;rintro e u5 ⟨A5, c5, mi, rfl, hr5, hc5, hm5, ⟨hv5, hn5, hl5⟩, hx5⟩;have F5 := F4.trans hx5;have sx := val_split xs h (by have := Hm.out; omega);have sy := val_split ys h (by have := Hp.out; omega);rw [Hv3.out, Hv4.out, Va0.out, Va1.out, Vb0.out, Vb1.out] at hv5;have hlo := Hv1.out;have hhi := Hv2.out;rw [Va0.out, Vb0.out] at hlo;rw [Va1.out, Vb1.out] at hhi
 have hmul : val xs * val ys = val (xs.take h) * val (ys.take h) + 4294967296 ^ h * (val (xs.take h) * val (ys.drop h) + val (xs.drop h) * val (ys.take h)) + 4294967296 ^ h * 4294967296 ^ h * (val (xs.drop h) * val (ys.drop h)) := by
  rw [sx, sy]; exact kar_all
 obtain ⟨wmi, hh5⟩ := hr5
 rcases hh5 with rfl | ⟨g5, rfl, hg5, hb5⟩
 case' inl =>
  obtain ⟨mk, hmk0⟩ : ∃ mk : List Nat, mk = [] := ⟨_, rfl⟩;have hz0 : (val (xs.take h) + val (xs.drop h)) * (val (ys.take h) + val (ys.drop h)) = 0 := by rw [<- hv5]; rfl
  have hz1 : val (xs.take h) * val (ys.take h) <= 0 := by rw [<- hz0]; exact kar_low
  have hz2 : val (xs.drop h) * val (ys.drop h) <= 0 := by rw [<- hz0, Nat.add_comm (val (xs.take h)), Nat.add_comm (val (ys.take h))]; exact kar_low
  have hlo1 : lo = [] := hn1.eq_nil (by omega);have hhi1 : hi = [] := hn2.eq_nil (by omega)
  have hvk0 : val mk = val (xs.take h) * val (ys.drop h) + val (xs.drop h) * val (ys.take h) := by
   rw [hmk0];exact kar_mid (m1 := 0) (by omega) (by show val [] + _ = _; rw [show val [] = 0 from rfl]; omega)
  have Hlo := Lib.hid hlo;have Hhi := Lib.hid hhi;have Hmul := Lib.hid hmul;have Hvk := Lib.hid hvk0;clear hv5 hlo hhi hmul sx sy hz0 hvk0 hz1 hz2;subst hlo1;subst hhi1;have y1 : Rd u5 A1 [] := Rd.nil _ _;have y2 : Rd u5 A2 [] := Rd.nil _ _;have hlt : g < w.heap.size := hblk0.lt;have bz := hblk0.ext F5;have Rk : Rd u5 A5 mk := by rw [hmk0]; exact Rd.nil _ _
  have apk : Apart A5 mk g := by rw [hmk0]; exact Apart.nil _ _
  have Hck := Lib.hid (show mk.length = 0 by rw [hmk0]; rfl);have wmk : W32 mk := by rw [hmk0]; exact W32.nil
  have F7 : Ext w u5 := F5;clear hmk0
  go_wp2_with fail
  refine (int_subtractFrom_0).mono ?_;rintro e u6 ⟨rfl, rfl⟩
  go_wp2_with fail
  refine (int_subtractFrom_0).mono ?_;rintro e u7 ⟨rfl, rfl⟩
 case' inr =>
  have hlml : val lo <= val mi := by rw [hv5, hlo]; exact kar_low
  have hlen1 : lo.length <= mi.length := by
   refine Nat.le_of_not_lt fun hlt => ?_
   have := val_lt_of_len wmi hn1 hlt;omega
  have Hvm := Lib.hid hv5;have Hlo := Lib.hid hlo;have Hhi := Lib.hid hhi;have Hmul := Lib.hid hmul;have Hlml := Lib.hid hlml;clear hv5 hlo hhi hmul hlml sx sy;have z1 := hr1.rd.ext (((hx2.trans hx3).trans hx4).trans hx5);have z2 := hr2.rd.ext ((hx3.trans hx4).trans hx5);have hu5 : u1.heap.size <= u4.heap.size := ((hx2.trans hx3).trans hx4).size;have hu6 : u2.heap.size <= u4.heap.size := (hx3.trans hx4).size;have ap1 : Apart A1 lo g5 := (hr1.rd.ext ((hx2.trans hx3).trans hx4)).apart hg5;have ap2 : Apart A2 hi g5 := (hr2.rd.ext (hx3.trans hx4)).apart hg5;have hgw : w.heap.size <= g5 := Nat.le_trans F4.size hg5
  go_wp2_with fail
  refine (int_subtractFrom (pre := []) (zs0 := mi) (post := []) _ _ lo _ (by simpa using hb5) rfl rfl wmi z1 rfl ap1 hlen1 Hlml.out (by omega)).mono ?_;rintro e u6 ⟨mj, rfl, hlj, wmj, hbj, hvj, hmj⟩;simp only [List.nil_append, List.append_nil] at hbj;rw [Hvm.out, Hlo.out] at hvj;have hhl : val hi <= val mj := by rw [Hhi.out]; exact kar_high hvj
  have hlen2 : hi.length <= mi.length := by
   refine Nat.le_of_not_lt fun hlt => ?_
   have h1 := val_lt_of_len wmi hn2 hlt;have h2 := Hvm.out;omega
  have Hvj := Lib.hid hvj;have Hhl := Lib.hid hhl;have Hlj := Lib.hid hlj;clear hvj hhl hlj;have hlt : g < w.heap.size := hblk0.lt;have hne : g ≠ g5 := by omega
  go_wp2_with fail
  refine (int_subtractFrom (pre := []) (zs0 := mj) (post := []) _ _ hi _ (by simpa using hbj) rfl Hlj.out wmj (z2.mod hmj ap2) rfl ap2 hlen2 Hhl.out (by omega)).mono ?_;rintro e u7 ⟨mk, rfl, hlk, wmk, hbk, hvk, hmk⟩;simp only [List.nil_append, List.append_nil] at hbk;rw [Hhi.out] at hvk;have hvk2 := kar_mid Hvj.out hvk;have Hvk := Lib.hid hvk2;have Hlk := Lib.hid hlk;clear hvk hvk2 hlk;have y1 := (z1.mod hmj ap1).mod hmk ap1;have y2 := (z2.mod hmj ap2).mod hmk ap2;have bz := ((hblk0.ext F5).mod hmj hne).mod hmk hne;have Rk := hbk.rd0 wmk;have apk : Apart (some ⟨g5, 0, none⟩) mk g := fun _ a ha => by injection ha with ha; subst ha; show g5 ≠ g; omega
  have Hck := Lib.hid (show mk.length = mi.length by exact Hlk.out);have F7 : Ext w u7 := Mod.ext (Mod.ext F5 hmj hgw) hmk hgw
 all_goals
  have ag1 : Apart A1 _ g := fun hn a ha => by
   obtain ⟨_, hl | ⟨gl, hA, hgl, _⟩⟩ := hr1
   ·exact absurd hl hn
   ·have hs := Ez.size
    rw [ha] at hA; injection hA with hA; subst hA; show gl ≠ g; omega
  have ag2 : Apart A2 _ g := fun hn a ha => by
   obtain ⟨_, hl | ⟨gl, hA, hgl, _⟩⟩ := hr2
   ·exact absurd hl hn
   ·have hs := F1.size
    rw [ha] at hA; injection hA with hA; subst hA; show gl ≠ g; omega
  have hfm := Hf.out;rw [Hmul.out] at hfm;have hp1 : 0 < 4294967296 ^ h := Nat.pow_pos (by omega)
  go_wp2_with fail
  refine (int_addTo (pre := pre) (zs0 := zs0) (post := []) _ _ _ _ (by simpa using bz) Hoff.out HN.out hw y1 rfl ag1 (by first | omega | (simp; done) | (simp; omega)) (by omega)).mono ?_;rintro e u8 ⟨t1, rfl, hlt1, wt1, hbt1, ⟨cy1, _, hvt1⟩, hmt1⟩;rw [List.append_nil] at hbt1;rw [Hlo.out] at hvt1
  have hvt : val t1 = val zs0 + val (xs.take h) * val (ys.take h) := by
   have := kar_step (z := zs0) (zt := t1) (k := 0) (n := N) (cy := cy1) (m := val (xs.take h) * val (ys.take h)) HN.out (by omega) (by simpa using hvt1) (by rw [Nat.pow_zero, Nat.one_mul]; omega)
   simpa using this
  have e1 : (4294967296 : Nat) ^ N = 4294967296 ^ h * 4294967296 ^ (N - h) := by rw [<- Nat.pow_add]; congr 1; omega
  have e2 : (4294967296 : Nat) ^ N = 4294967296 ^ h * 4294967296 ^ h * 4294967296 ^ (N - 2 * h) := by rw [<- Nat.pow_add, <- Nat.pow_add]; congr 1; omega
  have e3 : (4294967296 : Nat) ^ (2 * h) = 4294967296 ^ h * 4294967296 ^ h := by rw [<- Nat.pow_add]; congr 1; omega
  have hmid : val mk < 4294967296 ^ (N - h) := by
   rw [Hvk.out];rw [e1] at hfm;exact kar_lt1 hp1 hfm
  have htk := Nrm.len_le (Nrm.trimL mk) (by rw [val_trimL]; exact hmid)
  have hhk := Nrm.len_le hn2 (k := N - 2 * h) (by
   rw [Hhi.out];have hfm2 := hfm;rw [e2] at hfm2;exact kar_lt2 (Nat.mul_pos hp1 hp1) hfm2)
  have hstep1 : val zs0 + val (xs.take h) * val (ys.take h) + 4294967296 ^ h * (val (xs.take h) * val (ys.drop h) + val (xs.drop h) * val (ys.take h)) < 4294967296 ^ N := by omega
  have Hst1 := Lib.hid hstep1;have Hvt := Lib.hid hvt;have Hlt1 := Lib.hid hlt1;have E3 := Lib.hid e3;have Hfm := Lib.hid hfm;clear e1 e2 e3 hvt hvt1 hlt1 hmid hstep1 hfm hp1;have Rk1 := Rk.mod hmt1 apk;have rk1 := Rk1.trimL;have y3 := y2.mod hmt1 ag2;have hb8 : BlkN u8 g ((pre ++ t1.take h) ++ t1.drop h ++ []) := by rw [List.append_nil, List.append_assoc, List.take_append_drop]; exact hbt1
  have l1 : (h : Int) <= (N : Int) := by omega
  have l2 : (N : Int) <= (cz : Int) := by omega
  have l3 : (h : Int) <= (cz : Int) := by omega
  have l4 : ¬ cz = h := by omega
  have apk1 := apk.trimL;clear k1 k2 k3 k4 k5 k6 k7 hx hy hap hbp ta0 ta1 tb0 tb1 qa0 qa1 qb0 qb1 hr1 hr2 hr3 hr4 hx1 hx2 hx3 hx4 hx5
  go_upto_region 7 with (fail)
  go_region_held3 (fun _ => True) (trivial)
   (first | (go_at_call 114; refine (int_trimN (xs := mk) Hck.out (Rk1.ext (Ext.refl _).drew) hc5 hm5).mono ?_; rintro e u8' ⟨rfl, rfl⟩) | (go_at_call 156; refine (int_addTo (n := N - h) (pre := pre ++ t1.take h) (zs0 := t1.drop h) (post := []) _ _ (trimL mk) _ (hb8.ext (Ext.refl _).drew) (by have := Hlt1.out; have := Hoff.out; simp; omega) (by have := Hlt1.out; simp; omega) (wt1.drop h) (rk1.ext (Ext.refl _).drew) rfl apk1 (by omega) (by omega)).mono ?_; rintro e u9 ⟨t2, rfl, hlt2, wt2, hbt2, ⟨cy2, _, hvt2⟩, hmt2⟩))
  rw [List.append_nil, List.append_assoc] at hbt2;rw [val_trimL, Hvk.out] at hvt2;have hv2 := kar_step (z := t1) (zt := t2) (k := h) (n := N) (cy := cy2) Hlt1.out (by omega) hvt2 (by rw [Hvt.out]; exact Hst1.out);have hl2z : (t1.take h ++ t2).length = N := by have := Hlt1.out; rw [List.length_append, List.length_take, hlt2]; omega
  have hw2z := (wt1.take h).append wt2;generalize hz2 : t1.take h ++ t2 = z2 at hbt2 hv2 hl2z hw2z;rw [Hvt.out] at hv2;have Hv2z := Lib.hid hv2;have Hl2z := Lib.hid hl2z;clear hz2 hv2 hl2z hvt2 hlt2 wt2 wt1 hb8 Rk1 rk1;have y4 := y3.mod ((Mod.refl u8 g).drew.trans hmt2) ag2;have hb9 : BlkN u9 g ((pre ++ z2.take (2 * h)) ++ z2.drop (2 * h) ++ []) := by rw [List.append_nil, List.append_assoc, List.take_append_drop]; exact hbt2
  have m1 : (2 : Int) * (h : Int) <= (N : Int) := by omega
  have m2 : (0 : Int) <= 2 * (h : Int) := by omega
  have m3 : (2 : Int) * (h : Int) <= (cz : Int) := by omega
  have m4 : ¬ cz = 2 * h := by omega
  have m5 : ((2 : Int) * (h : Int)).toNat = 2 * h := by omega
  have Hm5 := Lib.hid m5
  go_wp2_with (go_at_call 156; refine (int_addTo (n := N - 2 * h) (pre := pre ++ z2.take (2 * h)) (zs0 := z2.drop (2 * h)) (post := []) _ _ _ _ hb9 (by have := Hl2z.out; have := Hoff.out; simp; omega) (by have := Hl2z.out; simp; omega) (hw2z.drop _) y4 rfl ag2 (by first | omega | (simp; done) | (simp; omega)) (by omega)).mono ?_; rintro e u10 ⟨t3, rfl, hlt3, wt3, hbt3, ⟨cy3, _, hvt3⟩, hmt3⟩)
  go_end0
  have hfm := Hfm.out;rw [Hhi.out] at hvt3;have hv3 := kar_step (z := z2) (zt := t3) (k := 2 * h) (n := N) (cy := cy3) Hl2z.out (by omega) hvt3 (by rw [Hv2z.out, E3.out]; omega);rw [Hv2z.out, E3.out] at hv3;refine ⟨z2.take (2 * h) ++ t3, rfl, by have := Hl2z.out; rw [List.length_append, List.length_take, hlt3]; omega, (hw2z.take _).append wt3, by simpa [List.append_assoc] using hbt3, by show val _ = _; rw [hv3, Hmul.out]; omega, ?_⟩;exact (((F7.mod g).trans hmt1).trans ((Mod.refl u8 g).drew.trans hmt2)).trans hmt3
end
def AddProd (K : Nat) : Prop := ∀ (A B : Option Addr) (c d g off n cz m p : Nat) (pre zs0 xs ys : List Nat) (w : World), BlkN w g (pre ++ zs0) -> pre.length = off -> zs0.length = n -> W32 zs0 -> Rd w A xs -> xs.length = m -> Apart A xs g -> Rd w B ys -> ys.length = p -> Apart B ys g ->
  min m p <= K -> m <= 100000 -> p <= 100000 -> m + p <= n -> n <= 900000 -> val zs0 + val xs * val ys < 4294967296 ^ n -> m <= c -> c <= maxLen -> p <= d -> d <= maxLen -> n <= cz -> cz <= maxLen ->
  Calls Tryz.prog 145 #[.slice (some ⟨g, off, none⟩) n cz, .slice A m c, .slice B p d] w (Turned w g pre n [] fun zs => val zs = val zs0 + val xs * val ys)
theorem part_step {zs0 zs zt xs ys : List Nat} {k l n : Nat} (hn : zs.length = n) (hkl : k + l <= xs.length) (hk : k <= n) (hv : val zs = val zs0 + val (xs.take k) * val ys) (ht : val zt = val (zs.drop k) + val ((xs.drop k).take l) * val ys) (hf : val zs0 + val xs * val ys < 4294967296 ^ n) :
  val (zs.take k ++ zt) = val zs0 + val (xs.take (k + l)) * val ys := by
 have e1 : val (xs.take (k + l)) = val (xs.take k) + 4294967296 ^ k * val ((xs.drop k).take l) := by
  rw [List.take_add, val_append, List.length_take, Nat.min_eq_left (by omega)]
 have e2 : val (xs.take (k + l)) <= val xs := by
  have := val_split xs (k + l) hkl;omega
 have e3 := Nat.mul_le_mul_right (val ys) e2
 have h1 := kar_step (z := zs) (zt := zt) (k := k) (n := n) (cy := 0) (m := val ((xs.drop k).take l) * val ys) hn hk (by rw [Nat.mul_zero, Nat.add_zero]; exact ht) (by
  rw [hv, Nat.add_assoc, <- Nat.mul_assoc, <- Nat.add_mul, <- e1];omega)
 rw [h1, hv, Nat.add_assoc, <- Nat.mul_assoc, <- Nat.add_mul, <- e1]
theorem part_fits {zs0 zs xs ys : List Nat} {k l n : Nat} (hn : zs.length = n) (hkl : k + l <= xs.length) (hk : k <= n) (hv : val zs = val zs0 + val (xs.take k) * val ys) (hf : val zs0 + val xs * val ys < 4294967296 ^ n) :
  val (zs.drop k) + val ((xs.drop k).take l) * val ys < 4294967296 ^ (n - k) := by
 have e1 : val (xs.take (k + l)) = val (xs.take k) + 4294967296 ^ k * val ((xs.drop k).take l) := by
  rw [List.take_add, val_append, List.length_take, Nat.min_eq_left (by omega)]
 have e2 : val (xs.take (k + l)) <= val xs := by
  have := val_split xs (k + l) hkl;omega
 have e3 := Nat.mul_le_mul_right (val ys) e2;have e4 := val_split zs k (by omega);have e5 : (4294967296 : Nat) ^ n = 4294967296 ^ k * 4294967296 ^ (n - k) := by rw [<- Nat.pow_add]; congr 1; omega
 rw [e5] at hf;refine kar_lt2 (a := 0) (b := val (zs.take k)) (p := 4294967296 ^ k) (Nat.pow_pos (by omega)) ?_;have e6 : val (xs.take (k + l)) * val ys = val (xs.take k) * val ys + 4294967296 ^ k * (val ((xs.drop k).take l) * val ys) := by rw [e1, Nat.add_mul, Nat.mul_assoc]
 have e7 := Nat.mul_add (4294967296 ^ k) (val (zs.drop k)) (val ((xs.drop k).take l) * val ys);omega
section
variable {A B : Option Addr} {c d n m : Nat} {xs ys : List Nat} {w : World}
theorem addProd_s : AddProd 63 := by
 intro A B c d g off n cz m p pre zs0 xs ys w hb hoff hn hw hx hm hap hy hp hbp hk h1 h2 hl hn1 hf hc hcm hd hdm hcz hczm;exact int_addProduct_s (post := []) (by simpa using hb) hoff hn hw hx hm hap hy hp hbp (by omega) hl hf (by omega) hcz hczm
theorem mulLe_of {K : Nat} (h : AddProd K) (hK : K <= 100000) : MulLe K := by
 intro A B c d n m xs ys w hn hm hx hy hnK hmK hc hcm hd hdm;have hmk := mk_wordsA 105 Tryz.underlying105 n m (by omega);have hf : 0 + val xs * val ys < 4294967296 ^ (n + m) := by rw [Nat.zero_add, <- hn, <- hm]; exact prod_lt hx.1 hy.1
 have Hf := Lib.hid hf;have Hn := Lib.hid hn;have Hm := Lib.hid hm;clear hf hn hm
 go_enter Tryz.func113, Tryz.ntmps113
 go_wp2_with fail
 refine (h _ _ _ _ _ _ _ _ _ _ [] (List.replicate (n + m) 0) _ _ _ (by simpa using BlkN.new w (n + m)) rfl (by simp) (W32.replicate _) (hx.ext ((Ext.refl w).alloc _)) Hn.out (hx.apart (Nat.le_refl _)) (hy.ext ((Ext.refl w).alloc _)) Hm.out (hy.apart (Nat.le_refl _)) (by omega) (by omega) (by omega) (Nat.le_refl _) (by omega) (by rw [val_replicate]; exact Hf.out) hc hcm hd hdm (Nat.le_refl _) (by unfold maxLen; omega)).mono ?_;rintro e w2 ⟨zs, rfl, hzl, hzw, hzb, hzv, hmod⟩;have hext := hmod.ext ((Ext.refl w).alloc _) (Nat.le_refl _);simp only [List.nil_append, List.append_nil] at hzb;have Hzl := Lib.hid hzl;have Hzv := Lib.hid hzv;clear hzl hzv hmod
 go_wp2_with fail
 refine (int_trimN (xs := zs) Hzl.out (hzb.rd0 hzw) (Nat.le_refl _) (by unfold maxLen; omega)).mono ?_;rintro e w3 ⟨rfl, rfl⟩
 go_wp2_with fail
 go_ret
 have hlen := trimL_len zs;have hz := Hzl.out;have hn := Hn.out;have hm := Hm.out;refine ⟨_, _, trimL zs, rfl, ?_, by omega, by unfold maxLen; omega, ⟨by rw [val_trimL, Hzv.out, val_replicate, Nat.zero_add], Nrm.trimL _, by omega⟩, hext⟩;rw [trimL_take];exact (Own.of_blk hzb hzw (Nat.le_refl _)).take _
theorem addProd_eq {K g N cz off : Nat} {pre zs0 : List Nat} (hK : MulLe K) (hnK : (n + 1) / 2 + 1 <= K) (hblk0 : BlkN w g (pre ++ zs0)) (hoff : pre.length = off) (hN : zs0.length = N) (hw : W32 zs0) (hx : Rd w A xs) (hm : xs.length = n) (hap : Apart A xs g) (hy : Rd w B ys) (hp : ys.length = n) (hbp : Apart B ys g)
  (h2 : 64 <= n) (h100 : n <= 100000) (hl : n + n <= N) (hN2 : N <= 900000) (hf : val zs0 + val xs * val ys < 4294967296 ^ N) (hc : n <= c) (hcm : c <= maxLen) (hd : n <= d) (hdm : d <= maxLen) (hcz : N <= cz) (hczm : cz <= maxLen) :
  Calls Tryz.prog 145 #[.slice (some ⟨g, off, none⟩) N cz, .slice A n c, .slice B n d] w (Turned w g pre N [] fun zs => val zs = val zs0 + val xs * val ys) := by
 have ht1 : decide ((n : Int) < 64) = false := decide_eq_false (by omega);have HK := Lib.hid (int_addHalves_g hK hblk0 hoff hN hw hx hm hap hy hp hbp (by omega) hnK h100 hl hN2 hf hc hcm hd hdm hcz hczm);clear hm hp hN hf hblk0 hoff hnK
 go_enter Tryz.func145, Tryz.ntmps145
 go_wp2_with fail
 refine HK.out.mono ?_;rintro e u ⟨zs, rfl, h1, h2, h3, h4, h5⟩;have H1 := Lib.hid h1;have H4 := Lib.hid h4;clear h1 h4
 go_wp2_with fail
 go_end0
 exact ⟨zs, rfl, H1.out, h2, h3, H4.out, h5⟩
theorem addProd_gt {K g off n cz m p : Nat} {pre zs0 : List Nat} (hAP : AddProd K) (hK : 63 <= K) (hS : p = K + 1) (hblk0 : BlkN w g (pre ++ zs0)) (hoff : pre.length = off) (hn : zs0.length = n) (hw : W32 zs0) (hx : Rd w A xs) (hm : xs.length = m) (hap : Apart A xs g) (hy : Rd w B ys) (hp : ys.length = p) (hbp : Apart B ys g)
  (hmp : p < m) (h1 : m <= 100000) (h2 : p <= 100000) (hl : m + p <= n) (hn1 : n <= 900000) (hf : val zs0 + val xs * val ys < 4294967296 ^ n) (hc : m <= c) (hcm : c <= maxLen) (hd : p <= d) (hdm : d <= maxLen) (hcz : n <= cz) (hczm : cz <= maxLen) :
  Calls Tryz.prog 145 #[.slice (some ⟨g, off, none⟩) n cz, .slice A m c, .slice B p d] w (Turned w g pre n [] fun zs => val zs = val zs0 + val xs * val ys) := by
 have hM := mulLe_of hAP (by omega);have HS := Lib.hid hS;have hKs : K + 1 = p := hS.symm;have h64 : 64 <= p := by omega
 have hhK : (p + 1) / 2 + 1 <= K := by omega
 clear hS hKs;have Hczm := Lib.hid hczm;have Hcm := Lib.hid hcm;have Hdm := Lib.hid hdm;unfold maxLen at hczm hcm hdm;have Hoff := Lib.hid hoff;have Hn := Lib.hid hn;have Hm := Lib.hid hm;have Hp := Lib.hid hp;have hf' : val zs0 + val xs * val ys < 4294967296 ^ n := by exact hf
 have Hf := Lib.hid hf';have HhK := Lib.hid hhK;clear hoff hn hm hp hf hf' hhK;have ht1 : decide ((p : Int) < 64) = false := decide_eq_false (by omega);have ht2 : decide ((m : Int) < (p : Int)) = false := decide_eq_false (by omega);have ht3 : decide (m < p) = false := decide_eq_false (by omega);have ht4 : decide ((p : Int) < (m : Int)) = true := decide_eq_true (by omega)
 go_enter Tryz.func145, Tryz.ntmps145
 go_wp2_with fail
 go_loopw [8] (fun i wr => ∃ (k : Nat) (zs : List Nat), i = .int .i64 (k : Int) /\ k <= 200000 /\ zs.length = n /\ W32 zs /\ val zs = val zs0 + val (xs.take k) * val ys /\ BlkN wr g (pre ++ zs) /\ Mod w wr g) (fun i _ => m - (intOf i).toNat)
 case atStart => exact ⟨0, zs0, rfl, by omega, Hn.out, hw, by simp [val], hblk0, Mod.refl _ _⟩
 case round =>
  obtain ⟨k, zs, rfl, hk, hzl, hzw, hzv, hblk, hmod⟩ := hrel;have Hzl := Lib.hid hzl;have Hzv := Lib.hid hzv;clear hzl hzv
  by_cases hlt : k < m
  ·have hI : (k : Int) < (m : Int) := by omega
   obtain ⟨lb, lo, hA⟩ := hx.some (by have := Hm.out; omega);subst hA;have hkn : (k : Int) <= (n : Int) := by omega
   have hkc : ¬ cz = k := by omega
   have hkc2 : ¬ c = k := by omega
   obtain ⟨q, hq⟩ : ∃ q, q = k + p := ⟨_, rfl⟩;have hIq : (k : Int) + (p : Int) = (q : Int) := by omega
   have hWq : IntKind.i64.wrap (q : Int) = (q : Int) := IntWalk.i64_in _ (by omega);have hkL : (k : Int) <= (m : Int) := by omega
   have hLc : (m : Int) <= (c : Int) := by omega
   have hkq : (k : Int) <= (q : Int) := by omega
   have Hq := Lib.hid hq
   by_cases hle : q <= m
   ·have hmin : min (q : Int) (m : Int) = (q : Int) := by omega
    have hqc : (q : Int) <= (c : Int) := by omega
    have hkl : k + (p) <= xs.length := by have := Hm.out; omega
    have hb1 : BlkN wr g ((pre ++ zs.take k) ++ zs.drop k) := by rw [List.append_assoc, List.take_append_drop]; exact hblk
    have hrk := ((hx.mod hmod hap).drop k).take (p);have hfk := part_fits (k := k) (l := (p)) Hzl.out hkl (by omega) Hzv.out Hf.out;have hlk : ((xs.drop k).take (p)).length = p := by rw [List.length_take, List.length_drop, Hm.out]; omega
    have hlz : (zs.drop k).length = n - k := by rw [List.length_drop, Hzl.out]
    have hlp : (pre ++ zs.take k).length = off + k := by rw [List.length_append, Hoff.out, List.length_take, Hzl.out]; omega
    have hapk : Apart (some ⟨lb, lo + k, none⟩) ((xs.drop k).take (p)) g := fun hn a ha => by
     injection ha with ha
     subst ha;exact hap (by rintro h0; rw [h0] at hn; simp at hn) ⟨lb, lo, none⟩ rfl
    have hb2 := hb1.ext ((Ext.refl wr).drew);have hrk2 := hrk.ext ((Ext.refl wr).drew);have hsh := (hy.mod hmod hbp).ext ((Ext.refl wr).drew)
    have HC := Lib.hid (show Calls Tryz.prog 145 #[.slice (some ⟨g, off + k, none⟩) (n - k) (cz - k), .slice (some ⟨lb, lo + k, none⟩) (q - k) (c - k), .slice B p d] wr.drew (Turned wr.drew g (pre ++ zs.take k) (n - k) [] fun zt => val zt = val (zs.drop k) + val ((xs.drop k).take (p)) * val ys) by
     rw [show q - k = p by omega];exact addProd_eq (c := c - k) (d := d) hM HhK.out hb2 hlp hlz (hzw.drop k) hrk2 hlk hapk hsh Hp.out hbp h64 (by omega) (by omega) (by omega) hfk (by omega) (by unfold maxLen; omega) hd Hdm.out (by omega : n - k <= cz - k) (by unfold maxLen; omega))
    have Hkl := Lib.hid hkl;clear hq;clear hkl hb1 hrk hfk hlk hlz hlp hapk hb2 hrk2 hsh
    go_upto_region 13 with (fail)
    go_region_held3 (fun _ => True) (trivial)
     (first | (go_at_call 145; refine HC.out.mono ?_; rintro e w2 ⟨zt, rfl, hztl, hztw, hztb, hztv, hmod2⟩))
    go_wp2_with fail
    go_roundw
    case rel =>
     refine ⟨q, zs.take k ++ zt, by go_num, by omega, ?_, (hzw.take k).append hztw, ?_, by simpa [List.append_assoc] using hztb, (hmod.drew).trans hmod2⟩
     ·have := Hzl.out
      rw [List.length_append, List.length_take, hztl]; omega
     ·have hps := part_step Hzl.out Hkl.out (by omega) Hzv.out hztv Hf.out
      rw [Hq.out]; exact hps
    case measure => simp [intOf]; omega
   ·have hmin : min (q : Int) (m : Int) = (m : Int) := by omega
    have hkl : k + (m - k) <= xs.length := by have := Hm.out; omega
    have hb1 : BlkN wr g ((pre ++ zs.take k) ++ zs.drop k) := by rw [List.append_assoc, List.take_append_drop]; exact hblk
    have hrk := ((hx.mod hmod hap).drop k).take (m - k);have hfk := part_fits (k := k) (l := (m - k)) Hzl.out hkl (by omega) Hzv.out Hf.out;have hlk : ((xs.drop k).take (m - k)).length = m - k := by rw [List.length_take, List.length_drop, Hm.out]; omega
    have hlz : (zs.drop k).length = n - k := by rw [List.length_drop, Hzl.out]
    have hlp : (pre ++ zs.take k).length = off + k := by rw [List.length_append, Hoff.out, List.length_take, Hzl.out]; omega
    have hapk : Apart (some ⟨lb, lo + k, none⟩) ((xs.drop k).take (m - k)) g := fun hn a ha => by
     injection ha with ha
     subst ha;exact hap (by rintro h0; rw [h0] at hn; simp at hn) ⟨lb, lo, none⟩ rfl
    have hb2 := hb1.ext ((Ext.refl wr).drew);have hrk2 := hrk.ext ((Ext.refl wr).drew);have hsh := (hy.mod hmod hbp).ext ((Ext.refl wr).drew)
    have HC := Lib.hid (show Calls Tryz.prog 145 #[.slice (some ⟨g, off + k, none⟩) (n - k) (cz - k), .slice (some ⟨lb, lo + k, none⟩) (m - k) (c - k), .slice B p d] wr.drew (Turned wr.drew g (pre ++ zs.take k) (n - k) [] fun zt => val zt = val (zs.drop k) + val ((xs.drop k).take (m - k)) * val ys) by
     rw [show m - k = m - k by omega];exact hAP _ _ (c - k) d _ _ _ (cz - k) _ _ _ _ _ _ _ hb2 hlp hlz (hzw.drop k) hrk2 hlk hapk hsh Hp.out hbp (by have := HS.out; omega) (by omega) (by omega) (by omega) (by omega) hfk (by omega) (by unfold maxLen; omega) hd Hdm.out (by omega) (by unfold maxLen; omega))
    have Hkl := Lib.hid hkl;clear hq;clear hkl hb1 hrk hfk hlk hlz hlp hapk hb2 hrk2 hsh
    go_upto_region 13 with (fail)
    go_region_held3 (fun _ => True) (trivial)
     (first | (go_at_call 145; refine HC.out.mono ?_; rintro e w2 ⟨zt, rfl, hztl, hztw, hztb, hztv, hmod2⟩))
    go_wp2_with fail
    go_roundw
    case rel =>
     refine ⟨q, zs.take k ++ zt, by go_num, by omega, ?_, (hzw.take k).append hztw, ?_, by simpa [List.append_assoc] using hztb, (hmod.drew).trans hmod2⟩
     ·have := Hzl.out
      rw [List.length_append, List.length_take, hztl]; omega
     ·have hps := part_step Hzl.out Hkl.out (by omega) Hzv.out hztv Hf.out
      rw [show xs.take (k + (m - k)) = xs from List.take_of_length_le (by have := Hm.out; omega)] at hps; rw [show xs.take q = xs from List.take_of_length_le (by have := Hm.out; omega)]; exact hps
    case measure => simp [intOf]; omega
  ·have Hfin := Lib.hid (show val zs = val zs0 + val xs * val ys by rw [Hzv.out, List.take_of_length_le (by have := Hm.out; omega)])
   go_wp2
   go_end0
   exact ⟨zs, rfl, Hzl.out, hzw, by simpa using hblk, Hfin.out, hmod⟩
theorem addProd_lt {K g off n cz m p : Nat} {pre zs0 : List Nat} (hAP : AddProd K) (hK : 63 <= K) (hS : m = K + 1) (hblk0 : BlkN w g (pre ++ zs0)) (hoff : pre.length = off) (hn : zs0.length = n) (hw : W32 zs0) (hx : Rd w A xs) (hm : xs.length = m) (hap : Apart A xs g) (hy : Rd w B ys) (hp : ys.length = p) (hbp : Apart B ys g)
  (hmp : m < p) (h1 : m <= 100000) (h2 : p <= 100000) (hl : m + p <= n) (hn1 : n <= 900000) (hf : val zs0 + val xs * val ys < 4294967296 ^ n) (hc : m <= c) (hcm : c <= maxLen) (hd : p <= d) (hdm : d <= maxLen) (hcz : n <= cz) (hczm : cz <= maxLen) :
  Calls Tryz.prog 145 #[.slice (some ⟨g, off, none⟩) n cz, .slice A m c, .slice B p d] w (Turned w g pre n [] fun zs => val zs = val zs0 + val xs * val ys) := by
 have hM := mulLe_of hAP (by omega);have HS := Lib.hid hS;have hKs : K + 1 = m := hS.symm;have h64 : 64 <= m := by omega
 have hhK : (m + 1) / 2 + 1 <= K := by omega
 clear hS hKs;have Hczm := Lib.hid hczm;have Hcm := Lib.hid hcm;have Hdm := Lib.hid hdm;unfold maxLen at hczm hcm hdm;have Hoff := Lib.hid hoff;have Hn := Lib.hid hn;have Hm := Lib.hid hm;have Hp := Lib.hid hp;have hf' : val zs0 + val ys * val xs < 4294967296 ^ n := by rw [Nat.mul_comm]; exact hf
 have Hf := Lib.hid hf';have HhK := Lib.hid hhK;clear hoff hn hm hp hf hf' hhK;have ht1 : decide ((m : Int) < 64) = false := decide_eq_false (by omega);have ht2 : decide ((m : Int) < (p : Int)) = true := decide_eq_true (by omega);have ht3 : decide (m < p) = true := decide_eq_true (by omega);have ht4 : decide ((m : Int) < (p : Int)) = true := decide_eq_true (by omega)
 go_enter Tryz.func145, Tryz.ntmps145
 go_wp2_with fail
 go_loopw [8] (fun i wr => ∃ (k : Nat) (zs : List Nat), i = .int .i64 (k : Int) /\ k <= 200000 /\ zs.length = n /\ W32 zs /\ val zs = val zs0 + val (ys.take k) * val xs /\ BlkN wr g (pre ++ zs) /\ Mod w wr g) (fun i _ => p - (intOf i).toNat)
 case atStart => exact ⟨0, zs0, rfl, by omega, Hn.out, hw, by simp [val], hblk0, Mod.refl _ _⟩
 case round =>
  obtain ⟨k, zs, rfl, hk, hzl, hzw, hzv, hblk, hmod⟩ := hrel;have Hzl := Lib.hid hzl;have Hzv := Lib.hid hzv;clear hzl hzv
  by_cases hlt : k < p
  ·have hI : (k : Int) < (p : Int) := by omega
   obtain ⟨lb, lo, hA⟩ := hy.some (by have := Hp.out; omega);subst hA;have hkn : (k : Int) <= (n : Int) := by omega
   have hkc : ¬ cz = k := by omega
   have hkc2 : ¬ d = k := by omega
   obtain ⟨q, hq⟩ : ∃ q, q = k + m := ⟨_, rfl⟩;have hIq : (k : Int) + (m : Int) = (q : Int) := by omega
   have hWq : IntKind.i64.wrap (q : Int) = (q : Int) := IntWalk.i64_in _ (by omega);have hkL : (k : Int) <= (p : Int) := by omega
   have hLc : (p : Int) <= (d : Int) := by omega
   have hkq : (k : Int) <= (q : Int) := by omega
   have Hq := Lib.hid hq
   by_cases hle : q <= p
   ·have hmin : min (q : Int) (p : Int) = (q : Int) := by omega
    have hqc : (q : Int) <= (d : Int) := by omega
    have hkl : k + (m) <= ys.length := by have := Hp.out; omega
    have hb1 : BlkN wr g ((pre ++ zs.take k) ++ zs.drop k) := by rw [List.append_assoc, List.take_append_drop]; exact hblk
    have hrk := ((hy.mod hmod hbp).drop k).take (m);have hfk := part_fits (k := k) (l := (m)) Hzl.out hkl (by omega) Hzv.out Hf.out;have hlk : ((ys.drop k).take (m)).length = m := by rw [List.length_take, List.length_drop, Hp.out]; omega
    have hlz : (zs.drop k).length = n - k := by rw [List.length_drop, Hzl.out]
    have hlp : (pre ++ zs.take k).length = off + k := by rw [List.length_append, Hoff.out, List.length_take, Hzl.out]; omega
    have hapk : Apart (some ⟨lb, lo + k, none⟩) ((ys.drop k).take (m)) g := fun hn a ha => by
     injection ha with ha
     subst ha;exact hbp (by rintro h0; rw [h0] at hn; simp at hn) ⟨lb, lo, none⟩ rfl
    have hb2 := hb1.ext ((Ext.refl wr).drew);have hrk2 := hrk.ext ((Ext.refl wr).drew);have hsh := (hx.mod hmod hap).ext ((Ext.refl wr).drew)
    have HC := Lib.hid (show Calls Tryz.prog 145 #[.slice (some ⟨g, off + k, none⟩) (n - k) (cz - k), .slice (some ⟨lb, lo + k, none⟩) (q - k) (d - k), .slice A m c] wr.drew (Turned wr.drew g (pre ++ zs.take k) (n - k) [] fun zt => val zt = val (zs.drop k) + val ((ys.drop k).take (m)) * val xs) by
     rw [show q - k = m by omega];exact addProd_eq (c := d - k) (d := c) hM HhK.out hb2 hlp hlz (hzw.drop k) hrk2 hlk hapk hsh Hm.out hap h64 (by omega) (by omega) (by omega) hfk (by omega) (by unfold maxLen; omega) hc Hcm.out (by omega : n - k <= cz - k) (by unfold maxLen; omega))
    have Hkl := Lib.hid hkl;clear hq;clear hkl hb1 hrk hfk hlk hlz hlp hapk hb2 hrk2 hsh
    go_upto_region 13 with (fail)
    go_region_held3 (fun _ => True) (trivial)
     (first | (go_at_call 145; refine HC.out.mono ?_; rintro e w2 ⟨zt, rfl, hztl, hztw, hztb, hztv, hmod2⟩))
    go_wp2_with fail
    go_roundw
    case rel =>
     refine ⟨q, zs.take k ++ zt, by go_num, by omega, ?_, (hzw.take k).append hztw, ?_, by simpa [List.append_assoc] using hztb, (hmod.drew).trans hmod2⟩
     ·have := Hzl.out
      rw [List.length_append, List.length_take, hztl]; omega
     ·have hps := part_step Hzl.out Hkl.out (by omega) Hzv.out hztv Hf.out
      rw [Hq.out]; exact hps
    case measure => simp [intOf]; omega
   ·have hmin : min (q : Int) (p : Int) = (p : Int) := by omega
    have hkl : k + (p - k) <= ys.length := by have := Hp.out; omega
    have hb1 : BlkN wr g ((pre ++ zs.take k) ++ zs.drop k) := by rw [List.append_assoc, List.take_append_drop]; exact hblk
    have hrk := ((hy.mod hmod hbp).drop k).take (p - k);have hfk := part_fits (k := k) (l := (p - k)) Hzl.out hkl (by omega) Hzv.out Hf.out;have hlk : ((ys.drop k).take (p - k)).length = p - k := by rw [List.length_take, List.length_drop, Hp.out]; omega
    have hlz : (zs.drop k).length = n - k := by rw [List.length_drop, Hzl.out]
    have hlp : (pre ++ zs.take k).length = off + k := by rw [List.length_append, Hoff.out, List.length_take, Hzl.out]; omega
    have hapk : Apart (some ⟨lb, lo + k, none⟩) ((ys.drop k).take (p - k)) g := fun hn a ha => by
     injection ha with ha
     subst ha;exact hbp (by rintro h0; rw [h0] at hn; simp at hn) ⟨lb, lo, none⟩ rfl
    have hb2 := hb1.ext ((Ext.refl wr).drew);have hrk2 := hrk.ext ((Ext.refl wr).drew);have hsh := (hx.mod hmod hap).ext ((Ext.refl wr).drew)
    have HC := Lib.hid (show Calls Tryz.prog 145 #[.slice (some ⟨g, off + k, none⟩) (n - k) (cz - k), .slice (some ⟨lb, lo + k, none⟩) (p - k) (d - k), .slice A m c] wr.drew (Turned wr.drew g (pre ++ zs.take k) (n - k) [] fun zt => val zt = val (zs.drop k) + val ((ys.drop k).take (p - k)) * val xs) by
     rw [show p - k = p - k by omega];exact hAP _ _ (d - k) c _ _ _ (cz - k) _ _ _ _ _ _ _ hb2 hlp hlz (hzw.drop k) hrk2 hlk hapk hsh Hm.out hap (by have := HS.out; omega) (by omega) (by omega) (by omega) (by omega) hfk (by omega) (by unfold maxLen; omega) hc Hcm.out (by omega) (by unfold maxLen; omega))
    have Hkl := Lib.hid hkl;clear hq;clear hkl hb1 hrk hfk hlk hlz hlp hapk hb2 hrk2 hsh
    go_upto_region 13 with (fail)
    go_region_held3 (fun _ => True) (trivial)
     (first | (go_at_call 145; refine HC.out.mono ?_; rintro e w2 ⟨zt, rfl, hztl, hztw, hztb, hztv, hmod2⟩))
    go_wp2_with fail
    go_roundw
    case rel =>
     refine ⟨q, zs.take k ++ zt, by go_num, by omega, ?_, (hzw.take k).append hztw, ?_, by simpa [List.append_assoc] using hztb, (hmod.drew).trans hmod2⟩
     ·have := Hzl.out
      rw [List.length_append, List.length_take, hztl]; omega
     ·have hps := part_step Hzl.out Hkl.out (by omega) Hzv.out hztv Hf.out
      rw [show ys.take (k + (p - k)) = ys from List.take_of_length_le (by have := Hp.out; omega)] at hps; rw [show ys.take q = ys from List.take_of_length_le (by have := Hp.out; omega)]; exact hps
    case measure => simp [intOf]; omega
  ·have Hfin := Lib.hid (show val zs = val zs0 + val xs * val ys by rw [Hzv.out, List.take_of_length_le (by have := Hp.out; omega), Nat.mul_comm])
   go_wp2
   go_end0
   exact ⟨zs, rfl, Hzl.out, hzw, by simpa using hblk, Hfin.out, hmod⟩
theorem addProd_all : ∀ K, 63 <= K -> K <= 100000 -> AddProd K := by
 intro K
 induction K with
 | zero => intro h; omega
 | succ K ih =>
  intro h1 h2
  rcases Nat.lt_or_ge K 63 with hK | hK
  ·obtain rfl : K = 62 := by omega
   exact addProd_s
  ·have hI := ih hK (by omega)
   intro A B c d g off n cz m p pre zs0 xs ys w hb hoff hn hw hx hm hap hy hp hbp hk h3 h4 hl hn1 hf hc hcm hd hdm hcz hczm
   by_cases hmin : min m p <= K
   ·exact hI _ _ _ _ _ _ _ _ _ _ _ _ _ _ _ hb hoff hn hw hx hm hap hy hp hbp hmin h3 h4 hl hn1 hf hc hcm hd hdm hcz hczm
   ·rcases Nat.lt_trichotomy m p with hlt | heq | hgt
    ·exact addProd_lt hI hK (by omega) hb hoff hn hw hx hm hap hy hp hbp hlt h3 h4 hl hn1 hf hc hcm hd hdm hcz hczm
    ·subst heq
     exact addProd_eq (mulLe_of hI (by omega)) (by omega) hb hoff hn hw hx hm hap hy hp hbp (by omega) h3 hl hn1 hf hc hcm hd hdm hcz hczm
    ·exact addProd_gt hI hK (by omega) hb hoff hn hw hx hm hap hy hp hbp hgt h3 h4 hl hn1 hf hc hcm hd hdm hcz hczm
theorem mulLe_all : MulLe 100000 := mulLe_of (addProd_all 100000 (by omega) (by omega)) (by omega)
end
section
variable {A B : Option Addr} {c d n m : Nat} {xs ys : List Nat} {w : World} {s t : Bool}
theorem int_Mul_g (hn : xs.length = n) (hm : ys.length = m) (hx : Rd w A xs) (hy : Rd w B ys) (hc : n <= c) (hcm : c <= maxLen) (hd : m <= d) (hdm : d <= maxLen) (h1 : n <= 100000) (h2 : m <= 100000) :
  Calls Tryz.prog 70 #[.agg #[.bool s, .slice A n c], .agg #[.bool t, .slice B m d]] w (RetI (ival s xs * ival t ys) (xs.length + ys.length) w) := by
 have Hn := Lib.hid hn;have Hm := Lib.hid hm;clear hn hm;have lx := trimL_len xs;have ly := trimL_len ys;have hxt : Rd w A (trimL xs) := by rw [trimL_take]; exact hx.take _
 have hyt : Rd w B (trimL ys) := by rw [trimL_take]; exact hy.take _
 go_enter Tryz.func70, Tryz.ntmps70
 go_upto_region 1 with (fail)
 obtain ⟨W, hW, extW, bx, by_, bz, hz⟩ := box3 w 28 28 28 #[.bool s, .slice A n c] #[.bool t, .slice B m d] #[.bool false, .slice none 0 0];rw [<- hW];clear hW;have x0 := bx.cell 0 (.bool s) rfl;have x1 := bx.cell 1 (.slice A n c) rfl;have y0 := by_.cell 0 (.bool t) rfl;have y1 := by_.cell 1 (.slice B m d) rfl
 go_region_held3 (fun w' => w'.cell? ⟨w.heap.size, 0, none⟩ = some (.bool s) /\ w'.cell? ⟨w.heap.size, 1, none⟩ = some (.slice A n c) /\ w'.cell? ⟨w.heap.size + 1, 0, none⟩ = some (.bool t) /\ w'.cell? ⟨w.heap.size + 1, 1, none⟩ = some (.slice B m d)) (first | (go_split_ands; refine ⟨?_, ?_, ?_, ?_⟩ <;> first | (exact Ext.cellv (by assumption) (by assumption)) | (refine (cell_far2 (by omega)).trans ?_; assumption)) | go_keep)
  (first | (go_at_call_of 114 A; refine (int_trimN Hn.out (hx.ext (by first | exact extW | exact extW.drew | exact extW.drewN _ | exact (extW.drew).drew)) hc hcm).mono ?_; rintro e w1 ⟨rfl, rfl⟩) | (go_at_call_of 114 B; refine (int_trimN Hm.out (hy.ext (by first | exact extW | exact extW.drew | exact extW.drewN _ | exact (extW.drew).drew)) hd hdm).mono ?_; rintro e w1 ⟨rfl, rfl⟩) | (go_at_call 113; refine (mulLe_all _ _ _ _ _ _ _ _ _ rfl rfl (hxt.ext (by first | exact extW | exact extW.drew | exact extW.drewN _ | exact (extW.drew).drew)) (hyt.ext (by first | exact extW | exact extW.drew | exact extW.drewN _ | exact (extW.drew).drew)) (by have := Hn.out; have := Hm.out; omega) (by have := Hn.out; have := Hm.out; omega) (by have := Hn.out; have := Hm.out; omega) hcm (by have := Hn.out; have := Hm.out; omega) hdm).mono ?_; rintro e w2 ⟨A2, c2, zs, rfl, ho2, hc2, hm2, ⟨hv2, hn2, hl2⟩, hext2⟩; have Hv2 := Lib.hid hv2; clear hv2) | (go_at_call 112; refine (int_signed rfl ho2.rd hc2 hm2 hn2).mono ?_; rintro e w3 ⟨b3, A3, c3, rs, rfl, hr3, hc3, hm3, hi3, hl3, hext3⟩; have ext3 := ((Ext.refl W).drew.trans hext2).trans hext3; have bz3 := bz.ext ext3; have z0 := bz3.cell 0 (.bool false) rfl; have z1 := bz3.cell 1 (.slice none 0 0) rfl; have f0 := bz3.frozen 0; have f1 := bz3.frozen 1))
 go_wp2_with fail
 obtain ⟨r1, r2, r3, r4⟩ := fin_pair (b := b3) (n := rs.length) (c := c3) (extW.trans ext3) (by omega) bz3 hr3;exact bodyPost_ret (v := .agg #[.bool b3, .slice A3 rs.length c3]) (by simp [results, Tryz.results70, go_sem, r3, r4]) rfl ⟨b3, A3, c3, rs, rfl, r1, hc3, hm3, by rw [ival_mul Hv2.out, ival_trim, ival_trim] at hi3; exact hi3, by omega, r2⟩
end
section
variable {w : World} {z y : Int} {L M : Nat} {s t : Bool} {A B : Option Addr} {n c m d : Nat}
theorem p_MulG (h : NI w z L s A n c) (k : NI w y M t B m d) (hL : L <= 50000) (hM : M <= 50000) : Calls Tryz.prog 70 #[.agg #[.bool s, .slice A n c], .agg #[.bool t, .slice B m d]] w (RetNI (z * y) (L + M) w) := by
 obtain ⟨xs, hn, hx, hc, hcm, hi, hl⟩ := h.out;obtain ⟨ys, hm, hy, hd, hdm, hj, hk⟩ := k.out;refine (int_Mul_g hn hm hx hy hc hcm hd hdm (by omega) (by omega)).mono fun e w' hr => ?_
 rw [hi.eq, hj.eq] at hr;exact hr.ni (by omega)
end
section
variable {w w' : World} {z y : Int} {q p : Rat} {L M : Nat} {s t s' t' : Bool} {A B A' B' : Option Addr} {n c m d n' c' m' d' : Nat}
theorem NR.pos (h : NR w q L s A n c t B m d) : 1 <= L := by
 have h1 := h.den.zero;have h2 := h.den.size;have h3 := q.den_nz;omega
set_option maxRecDepth 100000 in
theorem p_MulRG (h : NR w q L s A n c t B m d) (k : NR w p M s' A' n' c' t' B' m' d') (hL : L <= 10000) (hM : M <= 10000) (hT : Tab w) : Calls Tryz.prog 63 #[.agg #[.bool s, .slice A n c, .bool t, .slice B m d], .agg #[.bool s', .slice A' n' c', .bool t', .slice B' m' d']] w (RetNR (q * p) (L + M) w) := by
 have hL1 := h.pos;have hM1 := k.pos
 go_enter Tryz.func63, Tryz.ntmps63
 go_upto_region 1 with (fail)
 obtain ⟨W, hW, extW, bx, by_, bz, hz⟩ := box3 w 30 30 30 #[.bool s, .slice A n c, .bool t, .slice B m d] #[.bool s', .slice A' n' c', .bool t', .slice B' m' d'] #[Value.bool false, Value.slice none 0 0, Value.bool false, Value.slice none 0 0];rw [<- hW];clear hW;replace h := h.ext extW;replace k := k.ext extW;have x0 := bx.cell 0 (.bool s) rfl;have x1 := bx.cell 1 (.slice A n c) rfl;have x2 := bx.cell 2 (.bool t) rfl;have x3 := bx.cell 3 (.slice B m d) rfl;have y0 := by_.cell 0 (.bool s') rfl;have y1 := by_.cell 1 (.slice A' n' c') rfl;have y2 := by_.cell 2 (.bool t') rfl;have y3 := by_.cell 3 (.slice B' m' d') rfl
 go_wp2_with fail
 refine (p_smallPair h k (by omega) (by omega)).mono ?_;rintro e wa ⟨a1, a2, c1, c2, ok, rfl, hok, hxa⟩;have Hok := Lib.hid hok;clear hok;clear x0 x1 x2 x3;clear y0 y1 y2 y3
 go_upto_region 2 with (fail)
 refine at_world (fun V => Ext W V /\ Box V wa.heap.size 94 #[.int .i64 a1, .int .i64 a2] /\ Box V (wa.heap.size + 1) 94 #[.int .i64 c1, .int .i64 c2]) ?_ ?_
 ·obtain ⟨e1, e2, e3⟩ := two_new wa 94 #[.int .i64 a1, .int .i64 a2] #[.int .i64 c1, .int .i64 c2]
  exact ⟨hxa.trans e1, e2, e3⟩
 generalize wa.heap.size = g5;clear hxa;rintro V ⟨EV, b5, b6⟩;replace bx := bx.ext EV;replace by_ := by_.ext EV;replace bz := bz.ext EV;replace h := h.ext EV;replace k := k.ext EV;replace extW := extW.trans EV;clear EV
 cases ok with
 | true =>
  obtain ⟨sm1, sm2⟩ := Hok.out (by first | rfl | trivial);have j0 := b5.cell 0 (.int .i64 a1) rfl;have j1 := b5.cell 1 (.int .i64 a2) rfl;have j2 := b6.cell 0 (.int .i64 c1) rfl;have j3 := b6.cell 1 (.int .i64 c2) rfl
  go_wp2_with fail
  refine (p_times sm1 sm2).mono ?_;rintro e wb ⟨s1, A1, n1, c1', t1, B1, m1, d1, rfl, hr, hxb⟩;have z0 := (bz.ext hxb).cell 0 _ rfl;have z1 := (bz.ext hxb).cell 1 _ rfl;have z2 := (bz.ext hxb).cell 2 _ rfl;have z3 := (bz.ext hxb).cell 3 _ rfl;have f0 := (bz.ext hxb).frozen 0;have f1 := (bz.ext hxb).frozen 1;have f2 := (bz.ext hxb).frozen 2;have f3 := (bz.ext hxb).frozen 3
  go_wp2_with fail
  obtain ⟨b1, b2, b3, b4⟩ := fin_quad (s := s1) (A := A1) (n := n1) (c := c1') (t := t1) (B := B1) (m := m1) (d := d1) (bz.ext hxb);have r0 := b1.cell 0 (.bool s1) rfl;have r1 := b1.cell 1 (.slice A1 n1 c1') rfl;have r2 := b1.cell 2 (.bool t1) rfl;have r3 := b1.cell 3 (.slice B1 m1 d1) rfl;unfold set4 at r0 r1 r2 r3;refine bodyPost_ret (v := .agg #[.bool s1, .slice A1 n1 c1', .bool t1, .slice B1 m1 d1]) (by simp [results, Tryz.results63, go_sem, r0, r1, r2, r3]) rfl ⟨s1, A1, n1, c1', t1, B1, m1, d1, rfl, ⟨?_, ?_⟩, b3 _ (extW.trans hxb) (by omega)⟩
  ·exact (b2 _ _ _ _ _ _ hr.num).le (by omega)
  ·exact (b2 _ _ _ _ _ _ hr.den).le (by omega)
 | false =>
  go_wp2_with fail
  have ES0 := Ext.refl V;refine wp_region_held_drew (S := Ext V) (by kernel_rfl) ES0.drew (fun ES => ?_);clear ES0;refine Late.start2 (x := ⟨10, 8, 28, #[Value.bool false, Value.slice none 0 0]⟩) (y := ⟨11, 9, 28, #[Value.bool false, Value.slice none 0 0]⟩) (n := 12) ⟨_, rfl, rfl, rfl, fun a w => by go_simp⟩ ⟨_, rfl, rfl, rfl, fun a w => by go_simp⟩ (fun _ _ _ _ _ => ⟨fun h => h, fun h => h⟩) ES rfl (fun hAl hQ => ?_);refine Late.u 0 21 hQ ?_
  try simp only [zP]
  refine Late.u 2 23 hQ ?_
  try simp only [zP]
  refine Late.u 5 26 hQ ?_
  try simp only [zP]
  refine Late.u 7 28 hQ ?_
  try simp only [zP]
  refine Late.t 1 22 ?v_4 hQ ?y_4 ?_
  case y_4 => intro w' hSw;have k00 := (bx.ext hSw).c4;have k10 := (by_.ext hSw).c4;go_simp;try rfl
  try simp only [zP]
  refine Late.t 3 24 ?v_5 hQ ?y_5 ?_
  case y_5 => intro w' hSw;have k00 := (bx.ext hSw).c4;have k10 := (by_.ext hSw).c4;go_simp;try rfl
  try simp only [zP]
  refine Late.t 6 27 ?v_6 hQ ?y_6 ?_
  case y_6 => intro w' hSw;have k00 := (bx.ext hSw).c4;have k10 := (by_.ext hSw).c4;go_simp;try rfl
  try simp only [zP]
  refine Late.t 8 29 ?v_7 hQ ?y_7 ?_
  case y_7 => intro w' hSw;have k00 := (bx.ext hSw).c4;have k10 := (by_.ext hSw).c4;go_simp;try rfl
  try simp only [zP]
  refine Late.cl (i := 4) rfl hAl hQ (fun w4 e4 E4 K hK => ?_);go_simp
  (go_at_call 88; refine (p_GCD (h.num.ext E4) (k.den.ext E4) (by omega) (by omega) (hT.ext (extW.trans E4))).mono ?_; rintro e wk1 ⟨s1, A1, n1, c1', rfl, h1, hx4⟩; rw [Int.natAbs_natCast] at h1)
  refine hK.out _ _ hx4 ?_;clear hK K
  try simp only [zP]
  refine Late.cl (i := 9) rfl hAl hQ (fun w9 e9 E9 K hK => ?_);go_simp
  (go_at_call 88; refine (p_GCD (k.num.ext E9) (h.den.ext E9) (by omega) (by omega) (hT.ext (extW.trans E9))).mono ?_; rintro e wk2 ⟨s2, A2, n2, c2', rfl, h2, hx9⟩; rw [Int.natAbs_natCast] at h2)
  refine hK.out _ _ hx9 ?_;clear hK K
  try simp only [zP]
  refine Late.finish2 (hAl _ (by simp)) (hAl _ (by simp)) (by decide) (by decide) (by kernel_rfl) (by kernel_rfl) (by kernel_rfl) (fun wz g5 g6 ez Ez lg5 lg6 hne xb1 xb2 => ?_);clear hAl hQ ES;have p10 := xb1.cell 0 (Value.bool false) rfl;have p11 := xb1.cell 1 (Value.slice none 0 0) rfl;have f10 := xb1.frozen 0;have f11 := xb1.frozen 1;have e4 := fin_dual (s := s1) (A := A1) (n := n1) (c := c1') xb1
  try simp only [zP]
  refine wpAnyH_ready (rs := [12]) (by kernel_rfl) (by simp) (AllReadyH.cons rfl (fun K hK => ?_) AllReadyH.nil);go_simp;refine hK.out _ _ (e4.2.2.1 _ Ez lg5) (fun _ => ?_);clear hK K
  try simp only [zP]
  have e5 := e4.2.2.2 _ _ _ (Ne.symm hne) xb2;refine any_world (fun U => Ext V U /\ Box U g5 28 #[.bool s1, .slice A1 n1 c1'] /\ Box U g6 28 #[Value.bool false, Value.slice none 0 0] /\ NI U ((q.num.natAbs.gcd p.den : Nat) : Int) (max L M) s1 A1 n1 c1' /\ NI U ((p.num.natAbs.gcd q.den : Nat) : Int) (max M L) s2 A2 n2 c2') ⟨e4.2.2.1 _ Ez lg5, e4.1, e5, e4.2.1 _ _ _ _ _ _ (h1.ext (e9.trans (hx9.trans ez))), e4.2.1 _ _ _ _ _ _ (h2.ext ez)⟩ ?_;clear e4 e5 p10 p11 f10 f11 xb1 xb2;rintro U ⟨EU, b8, xb2, h1, h2⟩;have p10 := xb2.cell 0 (Value.bool false) rfl;have p11 := xb2.cell 1 (Value.slice none 0 0) rfl;have f10 := xb2.frozen 0;have f11 := xb2.frozen 1;have e4 := fin_dual (s := s2) (A := A2) (n := n2) (c := c2') xb2;refine wpAnyH_ready (rs := [13]) (by kernel_rfl) (by simp) (AllReadyH.cons rfl (fun K hK => ?_) AllReadyH.nil);go_simp;refine hK.out _ _ (e4.2.2.1 _ EU lg6) (fun _ => ?_);clear hK K
  try simp only [zP]
  refine any_world (fun U2 => Ext V U2 /\ Box U2 g5 28 #[.bool s1, .slice A1 n1 c1'] /\ Box U2 g6 28 #[.bool s2, .slice A2 n2 c2'] /\ NI U2 ((q.num.natAbs.gcd p.den : Nat) : Int) (max L M) s1 A1 n1 c1' /\ NI U2 ((p.num.natAbs.gcd q.den : Nat) : Int) (max M L) s2 A2 n2 c2') ⟨e4.2.2.1 _ EU lg6, e4.2.2.2 _ _ _ hne b8, e4.1, e4.2.1 _ _ _ _ _ _ h1, e4.2.1 _ _ _ _ _ _ h2⟩ ?_;clear e4 p10 p11 f10 f11 xb2 b8 h1 h2 lg5 lg6;rintro U2 ⟨EU2, b8, b9, h1, h2⟩;refine wpAnyH_done (by kernel_rfl) ?_ _;replace bx := bx.ext EU2;replace by_ := by_.ext EU2;replace bz := bz.ext EU2;replace h := h.ext EU2;replace k := k.ext EU2;replace extW := extW.trans EU2;clear EU EU2 Ez ez;obtain ⟨g, hge⟩ : ∃ g, q.num.natAbs.gcd p.den = g := ⟨_, rfl⟩;obtain ⟨hq, hhe⟩ : ∃ g, p.num.natAbs.gcd q.den = g := ⟨_, rfl⟩;rw [hge] at h1;rw [hhe] at h2;obtain ⟨q1, q2⟩ := rat_mul q p hge.symm hhe.symm;have Hq1 := Lib.hid q1;have Hq2 := Lib.hid q2;have hgq : g ∣ q.num.natAbs := by rw [<- hge]; exact Nat.gcd_dvd_left _ _
  have hgp : g ∣ p.den := by rw [<- hge]; exact Nat.gcd_dvd_right _ _
  have hhp : hq ∣ p.num.natAbs := by rw [<- hhe]; exact Nat.gcd_dvd_left _ _
  have hhq : hq ∣ q.den := by rw [<- hhe]; exact Nat.gcd_dvd_right _ _
  have hg0 : (g : Int) ≠ 0 := by
   intro h0;have : g = 0 := by omega
   rw [this] at hgp;exact p.den_nz (Nat.eq_zero_of_zero_dvd hgp)
  have hh0 : (hq : Int) ≠ 0 := by
   intro h0;have : hq = 0 := by omega
   rw [this] at hhq;exact q.den_nz (Nat.eq_zero_of_zero_dvd hhq)
  have Hg0 := Lib.hid hg0;have Hh0 := Lib.hid hh0;have Hgq := Lib.hid (Int.ofNat_dvd_left.2 hgq);have Hgp := Lib.hid (Int.ofNat_dvd.2 hgp);have Hhp := Lib.hid (Int.ofNat_dvd_left.2 hhp);have Hhq := Lib.hid (Int.ofNat_dvd.2 hhq);have hg := h1;have hh := h2;clear hge hhe q1 q2 hgq hgp hhp hhq hg0 hh0 h1 h2
  go_wp2_with fail
  refine wpL.st 19 (fun hQ ES => ?_);refine wpL.u 0 31 hQ ES ?_
  try simp only [zP]
  refine wpL.t 2 33 ?v_9 hQ ?y_9 ES ?_
  case y_9 => intro w' hSw;have k00 := (bx.ext hSw).c4;have k10 := (by_.ext hSw).c4;have k20 := (b8.ext hSw).c2;have k30 := (b9.ext hSw).c2;go_simp;try rfl
  try simp only [zP]
  refine wpL.u 4 35 hQ ES ?_
  try simp only [zP]
  refine wpL.t 6 37 ?v_b hQ ?y_b ES ?_
  case y_b => intro w' hSw;have k00 := (bx.ext hSw).c4;have k10 := (by_.ext hSw).c4;have k20 := (b8.ext hSw).c2;have k30 := (b9.ext hSw).c2;go_simp;try rfl
  try simp only [zP]
  refine wpL.u 9 40 hQ ES ?_
  try simp only [zP]
  refine wpL.t 11 42 ?v_d hQ ?y_d ES ?_
  case y_d => intro w' hSw;have k00 := (bx.ext hSw).c4;have k10 := (by_.ext hSw).c4;have k20 := (b8.ext hSw).c2;have k30 := (b9.ext hSw).c2;go_simp;try rfl
  try simp only [zP]
  refine wpL.u 13 44 hQ ES ?_
  try simp only [zP]
  refine wpL.t 15 46 ?v_f hQ ?y_f ES ?_
  case y_f => intro w' hSw;have k00 := (bx.ext hSw).c4;have k10 := (by_.ext hSw).c4;have k20 := (b8.ext hSw).c2;have k30 := (b9.ext hSw).c2;go_simp;try rfl
  try simp only [zP]
  refine wpL.t 1 32 ?v_g hQ ?y_g ES ?_
  case y_g => intro w' hSw;have k00 := (bx.ext hSw).c4;have k10 := (by_.ext hSw).c4;have k20 := (b8.ext hSw).c2;have k30 := (b9.ext hSw).c2;go_simp;try rfl
  try simp only [zP]
  refine wpL.t 5 36 ?v_h hQ ?y_h ES ?_
  case y_h => intro w' hSw;have k00 := (bx.ext hSw).c4;have k10 := (by_.ext hSw).c4;have k20 := (b8.ext hSw).c2;have k30 := (b9.ext hSw).c2;go_simp;try rfl
  try simp only [zP]
  refine wpL.t 10 41 ?v_i hQ ?y_i ES ?_
  case y_i => intro w' hSw;have k00 := (bx.ext hSw).c4;have k10 := (by_.ext hSw).c4;have k20 := (b8.ext hSw).c2;have k30 := (b9.ext hSw).c2;go_simp;try rfl
  try simp only [zP]
  refine wpL.t 14 45 ?v_j hQ ?y_j ES ?_
  case y_j => intro w' hSw;have k00 := (bx.ext hSw).c4;have k10 := (by_.ext hSw).c4;have k20 := (b8.ext hSw).c2;have k30 := (b9.ext hSw).c2;go_simp;try rfl
  try simp only [zP]
  refine wpL.cl (i := 3) rfl (fun K hK => ?_);go_simp
  (go_at_call 100; refine (p_divide (h.num.ext ES) (hg.ext ES) (by omega) (by omega) Hg0.out Hgq.out).mono ?_; rintro e wk1 ⟨s3, A3, n3, c3, rfl, h3, hx0⟩; have E0_5 := Ext.trans ES hx0)
  refine hK.out _ _ E0_5 ?_;clear hK K
  try simp only [zP]
  refine wpL.cl (i := 7) rfl (fun K hK => ?_);go_simp
  (go_at_call 100; refine (p_divide (k.num.ext E0_5) (hh.ext E0_5) (by omega) (by omega) Hh0.out Hhp.out).mono ?_; rintro e wk2 ⟨s4, A4, n4, c4, rfl, h4, hx1⟩; have E1_5 := Ext.trans E0_5 hx1)
  refine hK.out _ _ E1_5 ?_;clear hK K
  try simp only [zP]
  refine wpL.cl (i := 8) rfl (fun K hK => ?_);go_simp
  (go_at_call 70; refine (p_MulG (h3.ext hx1) h4 (by omega) (by omega)).mono ?_; rintro e wk3 ⟨s5, A5, n5, c5, rfl, h5, hx2⟩; have E2_5 := Ext.trans E1_5 hx2)
  refine hK.out _ _ E2_5 ?_;clear hK K
  try simp only [zP]
  refine wpL.cl (i := 12) rfl (fun K hK => ?_);go_simp
  (go_at_call 100; refine (p_divide (h.den.ext E2_5) (hh.ext E2_5) (by omega) (by omega) Hh0.out Hhq.out).mono ?_; rintro e wk4 ⟨s6, A6, n6, c6, rfl, h6, hx3⟩; have E3_5 := Ext.trans E2_5 hx3)
  refine hK.out _ _ E3_5 ?_;clear hK K
  try simp only [zP]
  refine wpL.cl (i := 16) rfl (fun K hK => ?_);go_simp
  (go_at_call 100; refine (p_divide (k.den.ext E3_5) (hg.ext E3_5) (by omega) (by omega) Hg0.out Hgp.out).mono ?_; rintro e wk5 ⟨s7, A7, n7, c7, rfl, h7, hx4⟩; have E4_5 := Ext.trans E3_5 hx4)
  refine hK.out _ _ E4_5 ?_;clear hK K
  try simp only [zP]
  refine wpL.cl (i := 17) rfl (fun K hK => ?_);go_simp
  (go_at_call 70; refine (p_MulG (h6.ext hx4) h7 (by omega) (by omega)).mono ?_; rintro e wk6 ⟨s8, A8, n8, c8, rfl, h8, hx5⟩; have E5_5 := Ext.trans E4_5 hx5)
  refine hK.out _ _ E5_5 ?_;clear hK K
  try simp only [zP]
  refine wpL.u 18 49 hQ E5_5 ?_
  try simp only [zP]
  have z0 := (bz.ext E5_5).cell 0 _ rfl;have z1 := (bz.ext E5_5).cell 1 _ rfl;have z2 := (bz.ext E5_5).cell 2 _ rfl;have z3 := (bz.ext E5_5).cell 3 _ rfl;have f0 := (bz.ext E5_5).frozen 0;have f1 := (bz.ext E5_5).frozen 1;have f2 := (bz.ext E5_5).frozen 2;have f3 := (bz.ext E5_5).frozen 3;refine wpL.tl (i := 19) rfl (fun K hK => ?_);go_simp;refine hK.out _ _ ?_;clear hK K
  try simp only [zP]
  refine wpL.done (by kernel_rfl) ?_ _;clear hQ
  go_wp2_with fail
  have hk1 : ((q.den : Int) / (hq : Int)) * ((p.den : Int) / (g : Int)) = ((q * p).den : Int) := by rw [Hq2.out]; simp
  rw [hk1] at h8;rw [<- Hq1.out] at h5;obtain ⟨b1, b2, b3, b4⟩ := fin_quad (s := s5) (A := A5) (n := n5) (c := c5) (t := s8) (B := A8) (m := n8) (d := c8) (bz.ext E5_5);have r0 := b1.cell 0 (.bool s5) rfl;have r1 := b1.cell 1 (.slice A5 n5 c5) rfl;have r2 := b1.cell 2 (.bool s8) rfl;have r3 := b1.cell 3 (.slice A8 n8 c8) rfl;unfold set4 at r0 r1 r2 r3;refine bodyPost_ret (v := .agg #[.bool s5, .slice A5 n5 c5, .bool s8, .slice A8 n8 c8]) (by simp [results, Tryz.results63, go_sem, r0, r1, r2, r3]) rfl ⟨s5, A5, n5, c5, s8, A8, n8, c8, rfl, ⟨?_, ?_⟩, b3 _ (extW.trans E5_5) (by omega)⟩
  ·exact b2 _ _ _ _ _ _ (h5.ext (hx3.trans (hx4.trans hx5)))
  ·exact b2 _ _ _ _ _ _ h8
end
end Go.Proofs.YtgagcochepnelaaGreatDoor
