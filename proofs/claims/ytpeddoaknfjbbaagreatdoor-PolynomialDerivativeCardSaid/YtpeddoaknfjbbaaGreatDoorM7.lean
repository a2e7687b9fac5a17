/- Walks and laws, a part. -/
import Derived.Test.YtpeddoaknfjbbaaGreatDoorM3
import Derived.Test.YtpeddoaknfjbbaaGreatDoorM4
import Derived.Test.YtpeddoaknfjbbaaGreatDoorM6
set_option linter.unusedSimpArgs false
set_option linter.unusedVariables false
set_option maxHeartbeats 64000000
namespace Go.Proofs.YtpeddoaknfjbbaaGreatDoor
open Go.RowKit
attribute [local go_sem ↓] Go.wp_at_zero Go.wp_at_succ
theorem ival_abs {s : Bool} {xs : List Nat} (h : 0 <= ival s xs) : ival s xs = (val xs : Int) := by
 unfold ival at *
 cases s <;> simp at h ⊢ <;> omega
theorem validB_int {z : Int} {b : Bool} {rs : List Nat} (h : IsInt z b rs) : validB b rs = true := by
 have hn := h.nrm;unfold Nrm at hn;have hs := h.sgn;unfold validB;rw [hn]
 cases rs with
 | nil => rw [hs rfl]; rfl
 | cons a l => simp
section
variable {A B : Option Addr} {c d n m : Nat} {xs ys : List Nat} {w : World} {s t : Bool}
end
structure RI (w : World) (A : Option Addr) (n c : Nat) (xs : List Nat) : Prop where
 len : xs.length = n
 rd : Rd w A xs
 cap : n <= c
 top : c <= maxLen
theorem RI.ext {w w' : World} {A : Option Addr} {n c : Nat} {xs : List Nat} (h : RI w A n c xs) (e : Ext w w') : RI w' A n c xs := ⟨h.len, h.rd.ext e, h.cap, h.top⟩
def validQ (s : Bool) (xs : List Nat) (t : Bool) (ys : List Nat) : Bool := validB s xs && (validB t ys && (decide (0 < ival t ys) && decide (((Nat.gcd (val xs) (val ys) : Nat) : Int) = 1)))
theorem validB_is {s : Bool} {xs : List Nat} (h : validB s xs = true) (hw : W32 xs) : IsInt (ival s xs) s xs := by
 unfold validB at h;rw [Bool.and_eq_true, decide_eq_true_eq] at h;obtain ⟨h1, h2⟩ := h;have hn : Nrm xs := by unfold Nrm; rw [trimL_take, h1, List.take_length]
 refine ⟨hw, hn, fun h0 => ?_, rfl⟩;subst h0
 simpa using h2
theorem NI.of_raw {w : World} {s : Bool} {A : Option Addr} {n c : Nat} {xs : List Nat} {L : Nat} (h : RI w A n c xs) (hv : validB s xs = true) (hl : n <= L) : NI w (ival s xs) L s A n c :=
 ⟨xs, h.len, h.rd, h.cap, h.top, validB_is hv h.rd.1, hl⟩
theorem NR.of_raw {w : World} {s : Bool} {A : Option Addr} {n c : Nat} {xs : List Nat} {t : Bool} {B : Option Addr} {m d : Nat} {ys : List Nat} {L : Nat} (h : RI w A n c xs) (k : RI w B m d ys) (hv : validQ s xs t ys = true) (hn : n <= L) (hm : m <= L) :
  ∃ q : Rat, NR w q L s A n c t B m d := by
 unfold validQ at hv;simp only [Bool.and_eq_true, decide_eq_true_eq] at hv;obtain ⟨h1, h2, h3, h4⟩ := hv;have hg : Nat.gcd (val xs) (val ys) = 1 := by omega
 have hy : ival t ys = (val ys : Int) := ival_abs (by omega);refine ⟨⟨ival s xs, val ys, by omega, by rw [ival_ab]; exact hg⟩, NI.of_raw h h1 hn, ?_⟩
 show NI w ((val ys : Nat) : Int) L t B m d
 rw [<- hy];exact NI.of_raw k h2 hm
theorem NR.raw {w : World} {q : Rat} {L : Nat} {s : Bool} {A : Option Addr} {n c : Nat} {t : Bool} {B : Option Addr} {m d : Nat} (h : NR w q L s A n c t B m d) :
  ∃ xs ys, RI w A n c xs /\ RI w B m d ys /\ validQ s xs t ys = true /\ n <= L /\ m <= L /\ (∀ w' A' c' B' d', RI w' A' n c' xs -> RI w' B' m d' ys -> NR w' q L s A' n c' t B' m d') := by
 obtain ⟨xs, h1, h2, h3, h4, h5, h6⟩ := h.num.out;obtain ⟨ys, k1, k2, k3, k4, k5, k6⟩ := h.den.out;refine ⟨xs, ys, ⟨h1, h2, h3, h4⟩, ⟨k1, k2, k3, k4⟩, ?_, h6, k6, fun w' A' c' B' d' r1 r2 => ⟨⟨xs, r1.len, r1.rd, r1.cap, r1.top, h5, h6⟩, ⟨ys, r2.len, r2.rd, r2.cap, r2.top, k5, k6⟩⟩⟩;unfold validQ;rw [validB_int h5, validB_int k5, h5.abs, k5.abs, k5.eq];have hd := q.den_pos;have hr := q.reduced;unfold Nat.Coprime at hr;simp [hr];omega
section
variable {w w' : World} {z y : Int} {q p : Rat} {L M : Nat} {s t s' t' : Bool} {A B A' B' : Option Addr} {n c m d n' c' m' d' : Nat} {xs ys xs' ys' : List Nat}
theorem q_ValidRaw (h : RI w A n c xs) (k : RI w B m d ys) (h1 : n <= 3000) (h2 : m <= 3000) : Calls Tryz.prog 30 #[.agg #[.bool s, .slice A n c, .bool t, .slice B m d]] w fun e w' => e = .returned (.bool (validQ s xs t ys)) /\ Ext w w' := by
 obtain ⟨r, hr⟩ : ∃ r, validQ s xs t ys = r := ⟨_, rfl⟩;have HR := Lib.hid hr;rw [hr];clear hr
 go_enter Tryz.func30, Tryz.ntmps30
 go_upto_region 1 with (fail)
 obtain ⟨W, hW, extW, bx, hz⟩ := box1 w 27 #[.bool s, .slice A n c, .bool t, .slice B m d];rw [<- hW];clear hW;replace h := h.ext extW;replace k := k.ext extW;have x0 := bx.cell 0 (.bool s) rfl;have x1 := bx.cell 1 (.slice A n c) rfl;have x2 := bx.cell 2 (.bool t) rfl;have x3 := bx.cell 3 (.slice B m d) rfl
 go_wp2_with fail
 refine (ref_Valid h.len h.rd h.cap h.top (by omega)).mono ?_;rintro e wa ⟨rfl, hxa⟩;replace bx := bx.ext hxa;replace h := h.ext hxa;replace k := k.ext hxa;replace extW := extW.trans hxa;clear hxa x0 x1 x2 x3;have x0 := bx.cell 0 (.bool s) rfl;have x1 := bx.cell 1 (.slice A n c) rfl;have x2 := bx.cell 2 (.bool t) rfl;have x3 := bx.cell 3 (.slice B m d) rfl
 cases hv1 : validB s xs with
 | false =>
  go_wp2_with fail
  go_ret
  exact ⟨by rw [<- HR.out]; unfold validQ; rw [hv1]; rfl, extW⟩
 | true =>
  go_wp2_with fail
  refine (ref_Valid k.len k.rd k.cap k.top (by omega)).mono ?_;rintro e wb ⟨rfl, hxb⟩;replace bx := bx.ext hxb;replace h := h.ext hxb;replace k := k.ext hxb;replace extW := extW.trans hxb;clear hxb x0 x1 x2 x3;have x0 := bx.cell 0 (.bool s) rfl;have x1 := bx.cell 1 (.slice A n c) rfl;have x2 := bx.cell 2 (.bool t) rfl;have x3 := bx.cell 3 (.slice B m d) rfl
  cases hv2 : validB t ys with
  | false =>
   go_wp2_with fail
   go_ret
   exact ⟨by rw [<- HR.out]; unfold validQ; rw [hv1, hv2]; rfl, extW⟩
  | true =>
   have H1 := NI.of_raw (L := 3000) h hv1 h1;have H2 := NI.of_raw (L := 3000) k hv2 h2;have hvq : validQ s xs t ys = (decide (0 < ival t ys) && decide (((Nat.gcd (val xs) (val ys) : Nat) : Int) = 1)) := by unfold validQ; rw [hv1, hv2]; rfl
   rw [HR.out] at hvq;have HVQ := Lib.hid hvq;clear hv1 hv2 hvq HR
   go_wp2_with fail
   refine (q_Sign H2 (by omega)).mono ?_;rintro e wc ⟨rfl, hxc⟩;replace bx := bx.ext hxc;replace H1 := H1.ext hxc;replace H2 := H2.ext hxc;replace extW := extW.trans hxc;clear hxc x0 x1 x2 x3 h k;have x0 := bx.cell 0 (.bool s) rfl;have x1 := bx.cell 1 (.slice A n c) rfl;have x2 := bx.cell 2 (.bool t) rfl;have x3 := bx.cell 3 (.slice B m d) rfl
   by_cases hp : 0 < ival t ys
   ·rw [Int.sign_eq_one_of_pos hp]
    have hvr : r = decide (((Nat.gcd (val xs) (val ys) : Nat) : Int) = 1) := by rw [HVQ.out, decide_eq_true hp, Bool.true_and]
    have HP := Lib.hid hvr;clear HVQ hvr;have ab1 := ival_ab s xs;have ab2 := ival_ab t ys;clear hp
    go_wp2_with fail
    refine (q_GCD H1 H2 (by omega) (by omega)).mono ?_;rintro e wd ⟨s1, A1, n1, c1, rfl, hg, hxd⟩;rw [ab1, ab2] at hg
    go_wp2_with fail
    refine (q_one hg).mono ?_;rintro e we ⟨rfl, hxe⟩
    go_wp2_with fail
    go_ret
    exact ⟨by rw [HP.out]; rfl, extW.trans (hxd.trans hxe)⟩
   ·have hvr : r = false := by rw [HVQ.out, decide_eq_false hp, Bool.false_and]
    subst hvr;clear HVQ
    have hs : (ival t ys).sign = 0 \/ (ival t ys).sign = -1 := by
     rcases Int.lt_trichotomy (ival t ys) 0 with h | h | h
     ·exact Or.inr (Int.sign_eq_neg_one_of_neg h)
     ·exact Or.inl (by rw [h]; rfl)
     ·exact absurd h hp
    clear hp
    rcases hs with hs | hs
    ·rw [hs]
     go_wp2_with fail
     go_ret
     exact ⟨rfl, extW⟩
    ·rw [hs]
     go_wp2_with fail
     go_ret
     exact ⟨rfl, extW⟩
end
section
variable {A : Option Addr} {c n : Nat} {xs : List Nat} {w : World} {s : Bool}
end
section
variable {w w' : World} {z y : Int} {q p : Rat} {L M : Nat} {s t s' t' : Bool} {A B A' B' : Option Addr} {n c m d n' c' m' d' : Nat} {xs ys xs' ys' : List Nat}
end
section
variable {w w' : World} {z y : Int} {q p : Rat} {L M : Nat} {s t s' t' : Bool} {A B A' B' : Option Addr} {n c m d n' c' m' d' : Nat} {xs ys xs' ys' : List Nat}
def mkQ (z y : Int) : Rat := if y < 0 then mkRat (-z) (-y).natAbs else mkRat z y.natAbs
theorem p_Make_pos (h : NI w z L s A n c) (k : NI w y M t B m d) (hL : L <= 3000) (hM : M <= 3000) (hy : 0 < y) (hT : Tab w) : Calls Tryz.prog 78 #[.agg #[.bool s, .slice A n c], .agg #[.bool t, .slice B m d]] w (RetNRE (mkQ z y) (max L M) w) := by
 have hs : y.sign = 1 := Int.sign_eq_one_of_pos hy;have hq : mkQ z y = mkRat z y.natAbs := if_neg (by omega);rw [hq];clear hq
 go_enter Tryz.func78, Tryz.ntmps78
 go_upto_region 1 with (fail)
 obtain ⟨W, hW, extW, bx, by_, bz, hz⟩ := box3 w 25 25 27 #[.bool s, .slice A n c] #[.bool t, .slice B m d] #[Value.bool false, Value.slice none 0 0, Value.bool false, Value.slice none 0 0];rw [<- hW];clear hW;replace h := h.ext extW;replace k := k.ext extW;refine wpL.st 4 (fun hQ ES => ?_);refine wpL.tk (i := 0) (d := some 7) (v := ?v_0) rfl rfl hQ (Or.inl ⟨by rfl, ?y_0⟩) ES ?_
 case y_0 => intro w' hSw;have k00 := (bx.ext hSw).c2;have k10 := (by_.ext hSw).c2;go_simp;try with_reducible rfl
 try simp only [zP]
 refine wpL.take2 3 (i := 2) (d := some 9) (v := ?v_1) rfl rfl (by kernel_rfl) (by kernel_rfl) (by kernel_rfl) (by kernel_rfl) hQ (Or.inl ⟨by rfl, ?y_1⟩) ES ?r_1
 case y_1 => intro w' hSw;have k00 := (bx.ext hSw).c2;have k10 := (by_.ext hSw).c2;go_simp;try with_reducible rfl
 try simp only [zP]
 refine wpL.cl (i := 1) rfl (fun K hK => ?_);go_simp
 (go_at_call 95; refine (p_Norm (h.ext ES) (by omega)).mono ?_; rintro e wk1 ⟨s1, A1, n1, c1, rfl, h1, hx0⟩; have E0_1 := Ext.trans ES hx0)
 refine hK.out _ _ E0_1 ?_;clear hK K
 try simp only [zP]
 refine wpL.cl (i := 3) rfl (fun K hK => ?_);go_simp
 (go_at_call 95; refine (p_Norm (k.ext E0_1) (by omega)).mono ?_; rintro e wk2 ⟨s2, A2, n2, c2, rfl, h2, hx1⟩; have E1_1 := Ext.trans E0_1 hx1)
 refine hK.out _ _ E1_1 ?_;clear hK K
 try simp only [zP]
 have z0 := (bx.ext E1_1).cell 0 _ rfl;have z1 := (bx.ext E1_1).cell 1 _ rfl;have f0 := (bx.ext E1_1).frozen 0;have f1 := (bx.ext E1_1).frozen 1;have u0 := (by_.ext E1_1).cell 0 _ rfl;have u1 := (by_.ext E1_1).cell 1 _ rfl;have v0 := (by_.ext E1_1).frozen 0;have v1 := (by_.ext E1_1).frozen 1;refine wpL.tl (i := 4) rfl (fun K hK => ?_);go_simp;refine hK.out _ _ ?_;clear hK K
 try simp only [zP]
 refine wpL.tl (i := 5) rfl (fun K hK => ?_);go_simp;refine hK.out _ _ ?_;clear hK K
 try simp only [zP]
 refine wpL.done (by kernel_rfl) ?_ _;clear hQ;refine at_exit (fun U => Ext w U /\ Box U w.heap.size 25 #[.bool s1, .slice A1 n1 c1] /\ Box U (w.heap.size + 1) 25 #[.bool s2, .slice A2 n2 c2] /\ Box U (w.heap.size + 1 + 1) 27 #[Value.bool false, Value.slice none 0 0, Value.bool false, Value.slice none 0 0] /\ NI U (z) L s1 A1 n1 c1 /\ NI U (y) M s2 A2 n2 c2) ?_ ?_
 ·have q1 := fin_dual (s := s1) (A := A1) (n := n1) (c := c1) (bx.ext E1_1)
  have q2 := fin_dual (s := s2) (A := A2) (n := n2) (c := c2) (q1.2.2.2 _ _ _ (by omega) (by_.ext E1_1));exact ⟨q2.2.2.1 _ (q1.2.2.1 _ (extW.trans E1_1) (by omega)) (by omega), q2.2.2.2 _ _ _ (by omega) q1.1, q2.1, q2.2.2.2 _ _ _ (by omega) (q1.2.2.2 _ _ _ (by omega) (bz.ext E1_1)), q2.2.1 _ _ _ _ _ _ (q1.2.1 _ _ _ _ _ _ (h1.ext hx1)), q2.2.1 _ _ _ _ _ _ (q1.2.1 _ _ _ _ _ _ h2)⟩
 clear extW bx by_ bz h k;rintro U ⟨extW, bx, by_, bz, h, k⟩;have y0 := by_.cell 0 (.bool s2) rfl;have y1 := by_.cell 1 (.slice A2 n2 c2) rfl
 go_wp2_with fail
 refine (p_Sign k (by omega)).mono ?_;rintro e V ⟨rfl, hxa⟩;replace bx := bx.ext hxa;replace by_ := by_.ext hxa;replace bz := bz.ext hxa;replace h := h.ext hxa;replace k := k.ext hxa;replace extW := extW.trans hxa;clear hxa y0 y1;rw [hs];have y0 := by_.cell 0 (.bool s2) rfl;have y1 := by_.cell 1 (.slice A2 n2 c2) rfl
 go_wp2_with fail
 refine (p_isOne k).mono ?_;rintro e Vo ⟨rfl, hxo⟩;replace bx := bx.ext hxo;replace by_ := by_.ext hxo;replace bz := bz.ext hxo;replace h := h.ext hxo;replace k := k.ext hxo;replace extW := extW.trans hxo;clear hxo y0 y1
 by_cases hone : y = 1
 ·rw [decide_eq_true hone]
  obtain ⟨m1, m2⟩ := mkRat_parts (z) (D := (y).natAbs) (by omega);have hab : (y).natAbs = 1 := by omega
  rw [hab, Nat.gcd_one_right, Nat.div_one] at m2;rw [hab, Nat.gcd_one_right] at m1;have m3 : ((mkRat (z) (y).natAbs).num) = z := by rw [hab, m1]; exact Int.ediv_one _
  have m4 : (((mkRat (z) (y).natAbs).den : Nat) : Int) = y := by rw [hab, m2]; exact hone.symm
  have hE := Ext.refl Vo;have x0 := bx.cell 0 (.bool s1) rfl;have x1 := bx.cell 1 (.slice A1 n1 c1) rfl;have y0 := by_.cell 0 (.bool s2) rfl;have y1 := by_.cell 1 (.slice A2 n2 c2) rfl;have z0 := (bz.ext hE).cell 0 _ rfl;have z1 := (bz.ext hE).cell 1 _ rfl;have z2 := (bz.ext hE).cell 2 _ rfl;have z3 := (bz.ext hE).cell 3 _ rfl;have f0 := (bz.ext hE).frozen 0;have f1 := (bz.ext hE).frozen 1;have f2 := (bz.ext hE).frozen 2;have f3 := (bz.ext hE).frozen 3
  go_wp2_with fail
  obtain ⟨b1, b2, b3, b4⟩ := fin_quad (s := s1) (A := A1) (n := n1) (c := c1) (t := s2) (B := A2) (m := n2) (d := c2) (bz.ext hE);have r0 := b1.cell 0 (.bool s1) rfl;have r1 := b1.cell 1 (.slice A1 n1 c1) rfl;have r2 := b1.cell 2 (.bool s2) rfl;have r3 := b1.cell 3 (.slice A2 n2 c2) rfl;unfold set4 at r0 r1 r2 r3;refine bodyPost_ret (v := .tuple #[.agg #[.bool s1, .slice A1 n1 c1, .bool s2, .slice A2 n2 c2], .int .i64 0]) (by simp [results, Tryz.results78, go_sem, r0, r1, r2, r3]) rfl ⟨s1, A1, n1, c1, s2, A2, n2, c2, rfl, ⟨(b2 _ _ _ _ _ _ (by rw [m3]; exact h)).le (by omega), (b2 _ _ _ _ _ _ (by rw [m4]; exact k)).le (by omega)⟩, b3 _ (extW.trans hE) (by omega)⟩
 rw [decide_eq_false hone];clear hone;have hEo := Ext.refl Vo;have x0 := bx.cell 0 (.bool s1) rfl;have x1 := bx.cell 1 (.slice A1 n1 c1) rfl;have y0 := by_.cell 0 (.bool s2) rfl;have y1 := by_.cell 1 (.slice A2 n2 c2) rfl
 go_wp2_with fail
 refine (p_GCD h k (by omega) (by omega) (hT.ext extW)).mono ?_;rintro e we ⟨s4, A4, n4, c4, rfl, hg, hxe⟩;obtain ⟨g, hge⟩ : ∃ g, Nat.gcd (z).natAbs (y).natAbs = g := ⟨_, rfl⟩;rw [hge] at hg;have hgz : g ∣ (z).natAbs := by rw [<- hge]; exact Nat.gcd_dvd_left _ _
 have hgy : g ∣ (y).natAbs := by rw [<- hge]; exact Nat.gcd_dvd_right _ _
 have hy0 : (y).natAbs ≠ 0 := by omega
 have hg0 : (g : Int) ≠ 0 := by
  intro h0;have : g = 0 := by omega
  rw [this] at hgy;exact hy0 (Nat.eq_zero_of_zero_dvd hgy)
 obtain ⟨m1, m2⟩ := mkRat_parts (z) (D := (y).natAbs) hy0;rw [hge] at m1 m2;have Hm1 := Lib.hid m1;have Hm2 := Lib.hid m2;have Hg0 := Lib.hid hg0;have Hgz := Lib.hid (Int.ofNat_dvd_left.2 hgz);have Hgy := Lib.hid (Int.ofNat_dvd_left.2 hgy);have Hya := Lib.hid (show (((y).natAbs : Nat) : Int) = y from Int.natAbs_of_nonneg (by omega));clear hge hg0 hgz hgy m1 m2 hy0 x0 x1 y0 y1
 go_upto_region 10 with (fail)
 refine at_world (fun V9 => Ext Vo V9 /\ Box V9 we.heap.size 25 #[.bool s4, .slice A4 n4 c4] /\ NI V9 (g : Int) (max L M) s4 A4 n4 c4) ⟨hxe.alloc _, Box.new we _ _, hg.ext ((Ext.refl we).alloc _)⟩ ?_;generalize we.heap.size = g8;clear hxe hg;rintro V9 ⟨EV, b8, hg⟩;replace bx := bx.ext EV;replace by_ := by_.ext EV;replace bz := bz.ext EV;replace h := h.ext EV;replace k := k.ext EV;replace extW := extW.trans EV;clear EV
 go_wp2_with fail
 refine wpL.st 7 (fun hQ ES => ?_);refine wpL.tk (i := 0) (d := some 30) (v := ?v_2) rfl rfl hQ (Or.inl ⟨by rfl, ?y_2⟩) ES ?_
 case y_2 => intro w' hSw;have k00 := (bx.ext hSw).c2;have k10 := (by_.ext hSw).c2;have k20 := (b8.ext hSw).c2;go_simp;try with_reducible rfl
 try simp only [zP]
 refine wpL.tk (i := 1) (d := some 31) (v := ?v_3) rfl rfl hQ (Or.inl ⟨by rfl, ?y_3⟩) ES ?_
 case y_3 => intro w' hSw;have k00 := (bx.ext hSw).c2;have k10 := (by_.ext hSw).c2;have k20 := (b8.ext hSw).c2;go_simp;try with_reducible rfl
 try simp only [zP]
 refine wpL.tk (i := 3) (d := some 33) (v := ?v_4) rfl rfl hQ (Or.inl ⟨by rfl, ?y_4⟩) ES ?_
 case y_4 => intro w' hSw;have k00 := (bx.ext hSw).c2;have k10 := (by_.ext hSw).c2;have k20 := (b8.ext hSw).c2;go_simp;try with_reducible rfl
 try simp only [zP]
 refine wpL.tk (i := 4) (d := some 34) (v := ?v_5) rfl rfl hQ (Or.inl ⟨by rfl, ?y_5⟩) ES ?_
 case y_5 => intro w' hSw;have k00 := (bx.ext hSw).c2;have k10 := (by_.ext hSw).c2;have k20 := (b8.ext hSw).c2;go_simp;try with_reducible rfl
 try simp only [zP]
 refine wpL.cl (i := 2) rfl (fun K hK => ?_);go_simp
 (go_at_call 103; refine (p_divide (h.ext ES) (hg.ext ES) (by omega) (by omega) Hg0.out Hgz.out).mono ?_; rintro e wk5 ⟨s5, A5, n5, c5, rfl, h5, hx0⟩; have E0_10 := Ext.trans ES hx0)
 refine hK.out _ _ E0_10 ?_;clear hK K
 try simp only [zP]
 refine wpL.cl (i := 5) rfl (fun K hK => ?_);go_simp
 (go_at_call 103; refine (p_divide (k.ext E0_10) (hg.ext E0_10) (by omega) (by omega) Hg0.out Hgy.out).mono ?_; rintro e wk6 ⟨s6, A6, n6, c6, rfl, h6, hx1⟩; have E1_10 := Ext.trans E0_10 hx1)
 refine hK.out _ _ E1_10 ?_;clear hK K
 try simp only [zP]
 refine wpL.tk (i := 6) (d := some 36) (v := ?v_6) rfl rfl hQ (Or.inl ⟨by rfl, ?y_6⟩) E1_10 ?_
 case y_6 => intro w' hSw;go_simp;try with_reducible rfl
 try simp only [zP]
 have z0 := (bz.ext E1_10).cell 0 _ rfl;have z1 := (bz.ext E1_10).cell 1 _ rfl;have z2 := (bz.ext E1_10).cell 2 _ rfl;have z3 := (bz.ext E1_10).cell 3 _ rfl;have f0 := (bz.ext E1_10).frozen 0;have f1 := (bz.ext E1_10).frozen 1;have f2 := (bz.ext E1_10).frozen 2;have f3 := (bz.ext E1_10).frozen 3;refine wpL.tl (i := 7) rfl (fun K hK => ?_);go_simp;refine hK.out _ _ ?_;clear hK K
 try simp only [zP]
 refine wpL.tl (i := 8) rfl (fun K hK => ?_);go_simp;refine hK.out _ _ ?_;clear hK K
 try simp only [zP]
 refine wpL.done (by kernel_rfl) ?_ _;clear hQ
 go_wp2_with fail
 have hk1 : (y) / (g : Int) = ((mkRat (z) (y).natAbs).den : Int) := by rw [Hm2.out, Int.natCast_ediv, Hya.out]
 rw [hk1] at h6;rw [<- Hm1.out] at h5;obtain ⟨b1, b2, b3, b4⟩ := fin_quad (s := s5) (A := A5) (n := n5) (c := c5) (t := s6) (B := A6) (m := n6) (d := c6) (bz.ext E1_10);have r0 := b1.cell 0 (.bool s5) rfl;have r1 := b1.cell 1 (.slice A5 n5 c5) rfl;have r2 := b1.cell 2 (.bool s6) rfl;have r3 := b1.cell 3 (.slice A6 n6 c6) rfl;unfold set4 at r0 r1 r2 r3;refine bodyPost_ret (v := .tuple #[.agg #[.bool s5, .slice A5 n5 c5, .bool s6, .slice A6 n6 c6], .int .i64 0]) (by simp [results, Tryz.results78, go_sem, r0, r1, r2, r3]) rfl ⟨s5, A5, n5, c5, s6, A6, n6, c6, rfl, ⟨(b2 _ _ _ _ _ _ (h5.ext hx1)).le (by omega), (b2 _ _ _ _ _ _ h6).le (by omega)⟩, b3 _ (extW.trans E1_10) (by omega)⟩
theorem p_Make_neg (h : NI w z L s A n c) (k : NI w y M t B m d) (hL : L <= 3000) (hM : M <= 3000) (hy : y < 0) (hT : Tab w) : Calls Tryz.prog 78 #[.agg #[.bool s, .slice A n c], .agg #[.bool t, .slice B m d]] w (RetNRE (mkQ z y) (max L M) w) := by
 have hs : y.sign = -1 := Int.sign_eq_neg_one_of_neg hy;have hq : mkQ z y = mkRat (-z) (-y).natAbs := if_pos hy;rw [hq];clear hq
 go_enter Tryz.func78, Tryz.ntmps78
 go_upto_region 1 with (fail)
 obtain ⟨W, hW, extW, bx, by_, bz, hz⟩ := box3 w 25 25 27 #[.bool s, .slice A n c] #[.bool t, .slice B m d] #[Value.bool false, Value.slice none 0 0, Value.bool false, Value.slice none 0 0];rw [<- hW];clear hW;replace h := h.ext extW;replace k := k.ext extW;refine wpL.st 4 (fun hQ ES => ?_);refine wpL.tk (i := 0) (d := some 7) (v := ?v_0) rfl rfl hQ (Or.inl ⟨by rfl, ?y_0⟩) ES ?_
 case y_0 => intro w' hSw;have k00 := (bx.ext hSw).c2;have k10 := (by_.ext hSw).c2;go_simp;try with_reducible rfl
 try simp only [zP]
 refine wpL.take2 3 (i := 2) (d := some 9) (v := ?v_1) rfl rfl (by kernel_rfl) (by kernel_rfl) (by kernel_rfl) (by kernel_rfl) hQ (Or.inl ⟨by rfl, ?y_1⟩) ES ?r_1
 case y_1 => intro w' hSw;have k00 := (bx.ext hSw).c2;have k10 := (by_.ext hSw).c2;go_simp;try with_reducible rfl
 try simp only [zP]
 refine wpL.cl (i := 1) rfl (fun K hK => ?_);go_simp
 (go_at_call 95; refine (p_Norm (h.ext ES) (by omega)).mono ?_; rintro e wk1 ⟨s1, A1, n1, c1, rfl, h1, hx0⟩; have E0_1 := Ext.trans ES hx0)
 refine hK.out _ _ E0_1 ?_;clear hK K
 try simp only [zP]
 refine wpL.cl (i := 3) rfl (fun K hK => ?_);go_simp
 (go_at_call 95; refine (p_Norm (k.ext E0_1) (by omega)).mono ?_; rintro e wk2 ⟨s2, A2, n2, c2, rfl, h2, hx1⟩; have E1_1 := Ext.trans E0_1 hx1)
 refine hK.out _ _ E1_1 ?_;clear hK K
 try simp only [zP]
 have z0 := (bx.ext E1_1).cell 0 _ rfl;have z1 := (bx.ext E1_1).cell 1 _ rfl;have f0 := (bx.ext E1_1).frozen 0;have f1 := (bx.ext E1_1).frozen 1;have u0 := (by_.ext E1_1).cell 0 _ rfl;have u1 := (by_.ext E1_1).cell 1 _ rfl;have v0 := (by_.ext E1_1).frozen 0;have v1 := (by_.ext E1_1).frozen 1;refine wpL.tl (i := 4) rfl (fun K hK => ?_);go_simp;refine hK.out _ _ ?_;clear hK K
 try simp only [zP]
 refine wpL.tl (i := 5) rfl (fun K hK => ?_);go_simp;refine hK.out _ _ ?_;clear hK K
 try simp only [zP]
 refine wpL.done (by kernel_rfl) ?_ _;clear hQ;refine at_exit (fun U => Ext w U /\ Box U w.heap.size 25 #[.bool s1, .slice A1 n1 c1] /\ Box U (w.heap.size + 1) 25 #[.bool s2, .slice A2 n2 c2] /\ Box U (w.heap.size + 1 + 1) 27 #[Value.bool false, Value.slice none 0 0, Value.bool false, Value.slice none 0 0] /\ NI U (z) L s1 A1 n1 c1 /\ NI U (y) M s2 A2 n2 c2) ?_ ?_
 ·have q1 := fin_dual (s := s1) (A := A1) (n := n1) (c := c1) (bx.ext E1_1)
  have q2 := fin_dual (s := s2) (A := A2) (n := n2) (c := c2) (q1.2.2.2 _ _ _ (by omega) (by_.ext E1_1));exact ⟨q2.2.2.1 _ (q1.2.2.1 _ (extW.trans E1_1) (by omega)) (by omega), q2.2.2.2 _ _ _ (by omega) q1.1, q2.1, q2.2.2.2 _ _ _ (by omega) (q1.2.2.2 _ _ _ (by omega) (bz.ext E1_1)), q2.2.1 _ _ _ _ _ _ (q1.2.1 _ _ _ _ _ _ (h1.ext hx1)), q2.2.1 _ _ _ _ _ _ (q1.2.1 _ _ _ _ _ _ h2)⟩
 clear extW bx by_ bz h k;rintro U ⟨extW, bx, by_, bz, h, k⟩;have y0 := by_.cell 0 (.bool s2) rfl;have y1 := by_.cell 1 (.slice A2 n2 c2) rfl
 go_wp2_with fail
 refine (p_Sign k (by omega)).mono ?_;rintro e V ⟨rfl, hxa⟩;replace bx := bx.ext hxa;replace by_ := by_.ext hxa;replace bz := bz.ext hxa;replace h := h.ext hxa;replace k := k.ext hxa;replace extW := extW.trans hxa;clear hxa y0 y1;rw [hs]
 go_upto_region 6 with (fail)
 refine wpL.st 4 (fun hQ ES => ?_);refine wpL.tk (i := 0) (d := some 18) (v := ?v_2) rfl rfl hQ (Or.inl ⟨by rfl, ?y_2⟩) ES ?_
 case y_2 => intro w' hSw;have k00 := (bx.ext hSw).c2;have k10 := (by_.ext hSw).c2;go_simp;try with_reducible rfl
 try simp only [zP]
 refine wpL.take2 3 (i := 2) (d := some 20) (v := ?v_3) rfl rfl (by kernel_rfl) (by kernel_rfl) (by kernel_rfl) (by kernel_rfl) hQ (Or.inl ⟨by rfl, ?y_3⟩) ES ?r_3
 case y_3 => intro w' hSw;have k00 := (bx.ext hSw).c2;have k10 := (by_.ext hSw).c2;go_simp;try with_reducible rfl
 try simp only [zP]
 refine wpL.cl (i := 1) rfl (fun K hK => ?_);go_simp
 (go_at_call 106; refine (p_Neg (h.ext ES) (by omega)).mono ?_; rintro e wk3 ⟨s3, A3, n3, c3, rfl, h1, hx0⟩; have E0_6 := Ext.trans ES hx0)
 refine hK.out _ _ E0_6 ?_;clear hK K
 try simp only [zP]
 refine wpL.cl (i := 3) rfl (fun K hK => ?_);go_simp
 (go_at_call 106; refine (p_Neg (k.ext E0_6) (by omega)).mono ?_; rintro e wk4 ⟨s3', A3', n3', c3', rfl, h2, hx1⟩; have E1_6 := Ext.trans E0_6 hx1)
 refine hK.out _ _ E1_6 ?_;clear hK K
 try simp only [zP]
 have z0 := (bx.ext E1_6).cell 0 _ rfl;have z1 := (bx.ext E1_6).cell 1 _ rfl;have f0 := (bx.ext E1_6).frozen 0;have f1 := (bx.ext E1_6).frozen 1;have u0 := (by_.ext E1_6).cell 0 _ rfl;have u1 := (by_.ext E1_6).cell 1 _ rfl;have v0 := (by_.ext E1_6).frozen 0;have v1 := (by_.ext E1_6).frozen 1;refine wpL.tl (i := 4) rfl (fun K hK => ?_);go_simp;refine hK.out _ _ ?_;clear hK K
 try simp only [zP]
 refine wpL.tl (i := 5) rfl (fun K hK => ?_);go_simp;refine hK.out _ _ ?_;clear hK K
 try simp only [zP]
 refine wpL.done (by kernel_rfl) ?_ _;clear hQ;refine at_exit (fun V2 => Ext w V2 /\ Box V2 w.heap.size 25 #[.bool s3, .slice A3 n3 c3] /\ Box V2 (w.heap.size + 1) 25 #[.bool s3', .slice A3' n3' c3'] /\ Box V2 (w.heap.size + 1 + 1) 27 #[Value.bool false, Value.slice none 0 0, Value.bool false, Value.slice none 0 0] /\ NI V2 (-z) L s3 A3 n3 c3 /\ NI V2 (-y) M s3' A3' n3' c3') ?_ ?_
 ·have q1 := fin_dual (s := s3) (A := A3) (n := n3) (c := c3) (bx.ext E1_6)
  have q2 := fin_dual (s := s3') (A := A3') (n := n3') (c := c3') (q1.2.2.2 _ _ _ (by omega) (by_.ext E1_6));exact ⟨q2.2.2.1 _ (q1.2.2.1 _ (extW.trans E1_6) (by omega)) (by omega), q2.2.2.2 _ _ _ (by omega) q1.1, q2.1, q2.2.2.2 _ _ _ (by omega) (q1.2.2.2 _ _ _ (by omega) (bz.ext E1_6)), q2.2.1 _ _ _ _ _ _ (q1.2.1 _ _ _ _ _ _ (h1.ext hx1)), q2.2.1 _ _ _ _ _ _ (q1.2.1 _ _ _ _ _ _ h2)⟩
 clear extW bx by_ bz h k;rintro V2 ⟨extW, bx, by_, bz, h, k⟩;have y0 := by_.cell 0 (.bool s3') rfl;have y1 := by_.cell 1 (.slice A3' n3' c3') rfl
 go_wp2_with fail
 refine (p_isOne k).mono ?_;rintro e V2o ⟨rfl, hxo⟩;replace bx := bx.ext hxo;replace by_ := by_.ext hxo;replace bz := bz.ext hxo;replace h := h.ext hxo;replace k := k.ext hxo;replace extW := extW.trans hxo;clear hxo y0 y1
 by_cases hone : -y = 1
 ·rw [decide_eq_true hone]
  obtain ⟨m1, m2⟩ := mkRat_parts (-z) (D := (-y).natAbs) (by omega);have hab : (-y).natAbs = 1 := by omega
  rw [hab, Nat.gcd_one_right, Nat.div_one] at m2;rw [hab, Nat.gcd_one_right] at m1;have m3 : ((mkRat (-z) (-y).natAbs).num) = -z := by rw [hab, m1]; exact Int.ediv_one _
  have m4 : (((mkRat (-z) (-y).natAbs).den : Nat) : Int) = -y := by rw [hab, m2]; exact hone.symm
  have hE := Ext.refl V2o;have x0 := bx.cell 0 (.bool s3) rfl;have x1 := bx.cell 1 (.slice A3 n3 c3) rfl;have y0 := by_.cell 0 (.bool s3') rfl;have y1 := by_.cell 1 (.slice A3' n3' c3') rfl;have z0 := (bz.ext hE).cell 0 _ rfl;have z1 := (bz.ext hE).cell 1 _ rfl;have z2 := (bz.ext hE).cell 2 _ rfl;have z3 := (bz.ext hE).cell 3 _ rfl;have f0 := (bz.ext hE).frozen 0;have f1 := (bz.ext hE).frozen 1;have f2 := (bz.ext hE).frozen 2;have f3 := (bz.ext hE).frozen 3
  go_wp2_with fail
  obtain ⟨b1, b2, b3, b4⟩ := fin_quad (s := s3) (A := A3) (n := n3) (c := c3) (t := s3') (B := A3') (m := n3') (d := c3') (bz.ext hE);have r0 := b1.cell 0 (.bool s3) rfl;have r1 := b1.cell 1 (.slice A3 n3 c3) rfl;have r2 := b1.cell 2 (.bool s3') rfl;have r3 := b1.cell 3 (.slice A3' n3' c3') rfl;unfold set4 at r0 r1 r2 r3;refine bodyPost_ret (v := .tuple #[.agg #[.bool s3, .slice A3 n3 c3, .bool s3', .slice A3' n3' c3'], .int .i64 0]) (by simp [results, Tryz.results78, go_sem, r0, r1, r2, r3]) rfl ⟨s3, A3, n3, c3, s3', A3', n3', c3', rfl, ⟨(b2 _ _ _ _ _ _ (by rw [m3]; exact h)).le (by omega), (b2 _ _ _ _ _ _ (by rw [m4]; exact k)).le (by omega)⟩, b3 _ (extW.trans hE) (by omega)⟩
 rw [decide_eq_false hone];clear hone;have hEo := Ext.refl V2o;have x0 := bx.cell 0 (.bool s3) rfl;have x1 := bx.cell 1 (.slice A3 n3 c3) rfl;have y0 := by_.cell 0 (.bool s3') rfl;have y1 := by_.cell 1 (.slice A3' n3' c3') rfl
 go_wp2_with fail
 refine (p_GCD h k (by omega) (by omega) (hT.ext extW)).mono ?_;rintro e we ⟨s4, A4, n4, c4, rfl, hg, hxe⟩;obtain ⟨g, hge⟩ : ∃ g, Nat.gcd (-z).natAbs (-y).natAbs = g := ⟨_, rfl⟩;rw [hge] at hg;have hgz : g ∣ (-z).natAbs := by rw [<- hge]; exact Nat.gcd_dvd_left _ _
 have hgy : g ∣ (-y).natAbs := by rw [<- hge]; exact Nat.gcd_dvd_right _ _
 have hy0 : (-y).natAbs ≠ 0 := by omega
 have hg0 : (g : Int) ≠ 0 := by
  intro h0;have : g = 0 := by omega
  rw [this] at hgy;exact hy0 (Nat.eq_zero_of_zero_dvd hgy)
 obtain ⟨m1, m2⟩ := mkRat_parts (-z) (D := (-y).natAbs) hy0;rw [hge] at m1 m2;have Hm1 := Lib.hid m1;have Hm2 := Lib.hid m2;have Hg0 := Lib.hid hg0;have Hgz := Lib.hid (Int.ofNat_dvd_left.2 hgz);have Hgy := Lib.hid (Int.ofNat_dvd_left.2 hgy);have Hya := Lib.hid (show (((-y).natAbs : Nat) : Int) = -y from Int.natAbs_of_nonneg (by omega));clear hge hg0 hgz hgy m1 m2 hy0 x0 x1 y0 y1
 go_upto_region 10 with (fail)
 refine at_world (fun V9 => Ext V2o V9 /\ Box V9 we.heap.size 25 #[.bool s4, .slice A4 n4 c4] /\ NI V9 (g : Int) (max L M) s4 A4 n4 c4) ⟨hxe.alloc _, Box.new we _ _, hg.ext ((Ext.refl we).alloc _)⟩ ?_;generalize we.heap.size = g8;clear hxe hg;rintro V9 ⟨EV, b8, hg⟩;replace bx := bx.ext EV;replace by_ := by_.ext EV;replace bz := bz.ext EV;replace h := h.ext EV;replace k := k.ext EV;replace extW := extW.trans EV;clear EV
 go_wp2_with fail
 refine wpL.st 7 (fun hQ ES => ?_);refine wpL.tk (i := 0) (d := some 30) (v := ?v_4) rfl rfl hQ (Or.inl ⟨by rfl, ?y_4⟩) ES ?_
 case y_4 => intro w' hSw;have k00 := (bx.ext hSw).c2;have k10 := (by_.ext hSw).c2;have k20 := (b8.ext hSw).c2;go_simp;try with_reducible rfl
 try simp only [zP]
 refine wpL.tk (i := 1) (d := some 31) (v := ?v_5) rfl rfl hQ (Or.inl ⟨by rfl, ?y_5⟩) ES ?_
 case y_5 => intro w' hSw;have k00 := (bx.ext hSw).c2;have k10 := (by_.ext hSw).c2;have k20 := (b8.ext hSw).c2;go_simp;try with_reducible rfl
 try simp only [zP]
 refine wpL.tk (i := 3) (d := some 33) (v := ?v_6) rfl rfl hQ (Or.inl ⟨by rfl, ?y_6⟩) ES ?_
 case y_6 => intro w' hSw;have k00 := (bx.ext hSw).c2;have k10 := (by_.ext hSw).c2;have k20 := (b8.ext hSw).c2;go_simp;try with_reducible rfl
 try simp only [zP]
 refine wpL.tk (i := 4) (d := some 34) (v := ?v_7) rfl rfl hQ (Or.inl ⟨by rfl, ?y_7⟩) ES ?_
 case y_7 => intro w' hSw;have k00 := (bx.ext hSw).c2;have k10 := (by_.ext hSw).c2;have k20 := (b8.ext hSw).c2;go_simp;try with_reducible rfl
 try simp only [zP]
 refine wpL.cl (i := 2) rfl (fun K hK => ?_);go_simp
 (go_at_call 103; refine (p_divide (h.ext ES) (hg.ext ES) (by omega) (by omega) Hg0.out Hgz.out).mono ?_; rintro e wk5 ⟨s5, A5, n5, c5, rfl, h5, hx0⟩; have E0_10 := Ext.trans ES hx0)
 refine hK.out _ _ E0_10 ?_;clear hK K
 try simp only [zP]
 refine wpL.cl (i := 5) rfl (fun K hK => ?_);go_simp
 (go_at_call 103; refine (p_divide (k.ext E0_10) (hg.ext E0_10) (by omega) (by omega) Hg0.out Hgy.out).mono ?_; rintro e wk6 ⟨s6, A6, n6, c6, rfl, h6, hx1⟩; have E1_10 := Ext.trans E0_10 hx1)
 refine hK.out _ _ E1_10 ?_;clear hK K
 try simp only [zP]
 refine wpL.tk (i := 6) (d := some 36) (v := ?v_8) rfl rfl hQ (Or.inl ⟨by rfl, ?y_8⟩) E1_10 ?_
 case y_8 => intro w' hSw;go_simp;try with_reducible rfl
 try simp only [zP]
 have z0 := (bz.ext E1_10).cell 0 _ rfl;have z1 := (bz.ext E1_10).cell 1 _ rfl;have z2 := (bz.ext E1_10).cell 2 _ rfl;have z3 := (bz.ext E1_10).cell 3 _ rfl;have f0 := (bz.ext E1_10).frozen 0;have f1 := (bz.ext E1_10).frozen 1;have f2 := (bz.ext E1_10).frozen 2;have f3 := (bz.ext E1_10).frozen 3;refine wpL.tl (i := 7) rfl (fun K hK => ?_);go_simp;refine hK.out _ _ ?_;clear hK K
 try simp only [zP]
 refine wpL.tl (i := 8) rfl (fun K hK => ?_);go_simp;refine hK.out _ _ ?_;clear hK K
 try simp only [zP]
 refine wpL.done (by kernel_rfl) ?_ _;clear hQ
 go_wp2_with fail
 have hk1 : (-y) / (g : Int) = ((mkRat (-z) (-y).natAbs).den : Int) := by rw [Hm2.out, Int.natCast_ediv, Hya.out]
 rw [hk1] at h6;rw [<- Hm1.out] at h5;obtain ⟨b1, b2, b3, b4⟩ := fin_quad (s := s5) (A := A5) (n := n5) (c := c5) (t := s6) (B := A6) (m := n6) (d := c6) (bz.ext E1_10);have r0 := b1.cell 0 (.bool s5) rfl;have r1 := b1.cell 1 (.slice A5 n5 c5) rfl;have r2 := b1.cell 2 (.bool s6) rfl;have r3 := b1.cell 3 (.slice A6 n6 c6) rfl;unfold set4 at r0 r1 r2 r3;refine bodyPost_ret (v := .tuple #[.agg #[.bool s5, .slice A5 n5 c5, .bool s6, .slice A6 n6 c6], .int .i64 0]) (by simp [results, Tryz.results78, go_sem, r0, r1, r2, r3]) rfl ⟨s5, A5, n5, c5, s6, A6, n6, c6, rfl, ⟨(b2 _ _ _ _ _ _ (h5.ext hx1)).le (by omega), (b2 _ _ _ _ _ _ h6).le (by omega)⟩, b3 _ (extW.trans E1_10) (by omega)⟩
theorem p_Make_nz (h : NI w z L s A n c) (k : NI w y M t B m d) (hL : L <= 3000) (hM : M <= 3000) (hy : y ≠ 0) (hT : Tab w) : Calls Tryz.prog 78 #[.agg #[.bool s, .slice A n c], .agg #[.bool t, .slice B m d]] w (RetNRE (mkQ z y) (max L M) w) := by
 rcases Int.lt_trichotomy y 0 with h1 | h1 | h1
 ·exact p_Make_neg h k hL hM h1 hT
 ·exact absurd h1 hy
 ·exact p_Make_pos h k hL hM h1 hT
end
section
variable {w w' : World} {z y : Int} {q p : Rat} {L M : Nat} {s t s' t' : Bool} {A B A' B' : Option Addr} {n c m d n' c' m' d' : Nat} {xs ys xs' ys' : List Nat}
theorem q_Make_pos (h : NI w z L s A n c) (k : NI w y M t B m d) (hL : L <= 3000) (hM : M <= 3000) (hy : 0 < y) : Calls Tryz.prog 92 #[.agg #[.bool s, .slice A n c], .agg #[.bool t, .slice B m d]] w (RetNR (mkQ z y) (max L M) w) := by
 have hs : y.sign = 1 := Int.sign_eq_one_of_pos hy;have hq : mkQ z y = mkRat z y.natAbs := if_neg (by omega);rw [hq];clear hq
 go_enter Tryz.func92, Tryz.ntmps92
 go_upto_region 1 with (fail)
 obtain ⟨W, hW, extW, bx, by_, bz, hz⟩ := box3 w 25 25 27 #[.bool s, .slice A n c] #[.bool t, .slice B m d] #[Value.bool false, Value.slice none 0 0, Value.bool false, Value.slice none 0 0];rw [<- hW];clear hW;replace h := h.ext extW;replace k := k.ext extW;have x0 := bx.cell 0 (.bool s) rfl;have x1 := bx.cell 1 (.slice A n c) rfl;have y0 := by_.cell 0 (.bool t) rfl;have y1 := by_.cell 1 (.slice B m d) rfl
 go_wp2_with fail
 refine (q_GCD h k (by omega) (by omega)).mono ?_;rintro e we ⟨s4, A4, n4, c4, rfl, hg, hxe⟩;obtain ⟨g, hge⟩ : ∃ g, Nat.gcd z.natAbs y.natAbs = g := ⟨_, rfl⟩;rw [hge] at hg;have hgz : g ∣ z.natAbs := by rw [<- hge]; exact Nat.gcd_dvd_left _ _
 have hgy : g ∣ y.natAbs := by rw [<- hge]; exact Nat.gcd_dvd_right _ _
 have hg0 : (g : Int) ≠ 0 := by
  intro h0;have : g = 0 := by omega
  rw [this] at hgy;have := Nat.eq_zero_of_zero_dvd hgy;omega
 clear x0 x1 y0 y1
 go_upto_region 2 with (fail)
 refine at_world (fun V => Ext W V /\ Box V we.heap.size 25 #[.bool s4, .slice A4 n4 c4] /\ NI V (g : Int) (max L M) s4 A4 n4 c4) ⟨hxe.alloc _, Box.new we _ _, hg.ext ((Ext.refl we).alloc _)⟩ ?_;have hsz : W.heap.size <= we.heap.size := hxe.size;generalize we.heap.size = g8 at *;clear hxe hg;rintro V ⟨EV, b8, hg⟩;replace bx := bx.ext EV;replace by_ := by_.ext EV;replace bz := bz.ext EV;replace h := h.ext EV;replace k := k.ext EV;replace extW := extW.trans EV;clear EV;have y0 := by_.cell 0 (.bool t) rfl;have y1 := by_.cell 1 (.slice B m d) rfl
 go_wp2_with fail
 refine (q_Sign k (by omega)).mono ?_;rintro e V2 ⟨rfl, hxa⟩;replace bx := bx.ext hxa;replace by_ := by_.ext hxa;replace bz := bz.ext hxa;replace b8 := b8.ext hxa;replace h := h.ext hxa;replace k := k.ext hxa;replace hg := hg.ext hxa;replace extW := extW.trans hxa;clear hxa y0 y1;rw [hs];obtain ⟨m1, m2⟩ := mkRat_parts z (D := y.natAbs) (by omega);rw [hge] at m1 m2;have Hm1 := Lib.hid m1;have Hm2 := Lib.hid m2;have Hg0 := Lib.hid hg0;have Hgz := Lib.hid (Int.ofNat_dvd_left.2 hgz);have Hgy := Lib.hid (Int.ofNat_dvd_left.2 hgy);have Hya := Lib.hid (show ((y.natAbs : Nat) : Int) = y from Int.natAbs_of_nonneg (by omega));clear hge hg0 hgz hgy m1 m2 hs
 go_upto_region 4 with (fail)
 refine wpL.st 7 (fun hQ ES => ?_);refine wpL.tk (i := 0) (d := some 14) (v := ?v_0) rfl rfl hQ (Or.inl ⟨by rfl, ?y_0⟩) ES ?_
 case y_0 => intro w' hSw;have k00 := (bx.ext hSw).c2;have k10 := (by_.ext hSw).c2;have k20 := (b8.ext hSw).c2;go_simp;try with_reducible rfl
 try simp only [zP]
 refine wpL.tk (i := 1) (d := some 15) (v := ?v_1) rfl rfl hQ (Or.inl ⟨by rfl, ?y_1⟩) ES ?_
 case y_1 => intro w' hSw;have k00 := (bx.ext hSw).c2;have k10 := (by_.ext hSw).c2;have k20 := (b8.ext hSw).c2;go_simp;try with_reducible rfl
 try simp only [zP]
 refine wpL.tk (i := 3) (d := some 17) (v := ?v_2) rfl rfl hQ (Or.inl ⟨by rfl, ?y_2⟩) ES ?_
 case y_2 => intro w' hSw;have k00 := (bx.ext hSw).c2;have k10 := (by_.ext hSw).c2;have k20 := (b8.ext hSw).c2;go_simp;try with_reducible rfl
 try simp only [zP]
 refine wpL.tk (i := 4) (d := some 18) (v := ?v_3) rfl rfl hQ (Or.inl ⟨by rfl, ?y_3⟩) ES ?_
 case y_3 => intro w' hSw;have k00 := (bx.ext hSw).c2;have k10 := (by_.ext hSw).c2;have k20 := (b8.ext hSw).c2;go_simp;try with_reducible rfl
 try simp only [zP]
 refine wpL.cl (i := 2) rfl (fun K hK => ?_);go_simp
 (go_at_call 105; refine (q_quo (h.ext ES) (hg.ext ES) (by omega) (by omega) Hg0.out Hgz.out).mono ?_; rintro e wk5 ⟨s5, A5, n5, c5, rfl, h5, hx0⟩; have E0_4 := Ext.trans ES hx0)
 refine hK.out _ _ E0_4 ?_;clear hK K
 try simp only [zP]
 refine wpL.cl (i := 5) rfl (fun K hK => ?_);go_simp
 (go_at_call 105; refine (q_quo (k.ext E0_4) (hg.ext E0_4) (by omega) (by omega) Hg0.out Hgy.out).mono ?_; rintro e wk6 ⟨s6, A6, n6, c6, rfl, h6, hx1⟩; have E1_4 := Ext.trans E0_4 hx1)
 refine hK.out _ _ E1_4 ?_;clear hK K
 try simp only [zP]
 refine wpL.tk (i := 6) (d := some 20) (v := ?v_4) rfl rfl hQ (Or.inl ⟨by rfl, ?y_4⟩) E1_4 ?_
 case y_4 => intro w' hSw;go_simp;try with_reducible rfl
 try simp only [zP]
 have z0 := (bz.ext E1_4).cell 0 _ rfl;have z1 := (bz.ext E1_4).cell 1 _ rfl;have z2 := (bz.ext E1_4).cell 2 _ rfl;have z3 := (bz.ext E1_4).cell 3 _ rfl;have f0 := (bz.ext E1_4).frozen 0;have f1 := (bz.ext E1_4).frozen 1;have f2 := (bz.ext E1_4).frozen 2;have f3 := (bz.ext E1_4).frozen 3;refine wpL.tl (i := 7) rfl (fun K hK => ?_);go_simp;refine hK.out _ _ ?_;clear hK K
 try simp only [zP]
 refine wpL.done (by kernel_rfl) ?_ _;clear hQ
 go_wp2_with fail
 have hk1 : y / (g : Int) = ((mkRat z y.natAbs).den : Int) := by rw [Hm2.out, Int.natCast_ediv, Hya.out]
 rw [hk1] at h6;rw [<- Hm1.out] at h5;obtain ⟨b1, b2, b3, b4⟩ := fin_quad (s := s5) (A := A5) (n := n5) (c := c5) (t := s6) (B := A6) (m := n6) (d := c6) (bz.ext E1_4);have r0 := b1.cell 0 (.bool s5) rfl;have r1 := b1.cell 1 (.slice A5 n5 c5) rfl;have r2 := b1.cell 2 (.bool s6) rfl;have r3 := b1.cell 3 (.slice A6 n6 c6) rfl;unfold set4 at r0 r1 r2 r3;refine bodyPost_ret (v := .agg #[.bool s5, .slice A5 n5 c5, .bool s6, .slice A6 n6 c6]) (by simp [results, Tryz.results92, go_sem, r0, r1, r2, r3]) rfl ⟨s5, A5, n5, c5, s6, A6, n6, c6, rfl, ⟨?_, ?_⟩, b3 _ (extW.trans E1_4) (by omega)⟩
 ·exact (b2 _ _ _ _ _ _ (h5.ext hx1)).le (by omega)
 ·exact (b2 _ _ _ _ _ _ h6).le (by omega)
theorem q_Make_neg (h : NI w z L s A n c) (k : NI w y M t B m d) (hL : L <= 3000) (hM : M <= 3000) (hy : y < 0) : Calls Tryz.prog 92 #[.agg #[.bool s, .slice A n c], .agg #[.bool t, .slice B m d]] w (RetNR (mkQ z y) (max L M) w) := by
 have hs : y.sign = -1 := Int.sign_eq_neg_one_of_neg hy;have hq : mkQ z y = mkRat (-z) (-y).natAbs := if_pos hy;rw [hq, Int.natAbs_neg];clear hq
 go_enter Tryz.func92, Tryz.ntmps92
 go_upto_region 1 with (fail)
 obtain ⟨W, hW, extW, bx, by_, bz, hz⟩ := box3 w 25 25 27 #[.bool s, .slice A n c] #[.bool t, .slice B m d] #[Value.bool false, Value.slice none 0 0, Value.bool false, Value.slice none 0 0];rw [<- hW];clear hW;replace h := h.ext extW;replace k := k.ext extW;have x0 := bx.cell 0 (.bool s) rfl;have x1 := bx.cell 1 (.slice A n c) rfl;have y0 := by_.cell 0 (.bool t) rfl;have y1 := by_.cell 1 (.slice B m d) rfl
 go_wp2_with fail
 refine (q_GCD h k (by omega) (by omega)).mono ?_;rintro e we ⟨s4, A4, n4, c4, rfl, hg, hxe⟩;obtain ⟨g, hge⟩ : ∃ g, Nat.gcd z.natAbs y.natAbs = g := ⟨_, rfl⟩;rw [hge] at hg;have hgz : g ∣ z.natAbs := by rw [<- hge]; exact Nat.gcd_dvd_left _ _
 have hgy : g ∣ y.natAbs := by rw [<- hge]; exact Nat.gcd_dvd_right _ _
 have hg0 : (g : Int) ≠ 0 := by
  intro h0;have : g = 0 := by omega
  rw [this] at hgy;have := Nat.eq_zero_of_zero_dvd hgy;omega
 clear x0 x1 y0 y1
 go_upto_region 2 with (fail)
 refine at_world (fun V => Ext W V /\ Box V we.heap.size 25 #[.bool s4, .slice A4 n4 c4] /\ NI V (g : Int) (max L M) s4 A4 n4 c4) ⟨hxe.alloc _, Box.new we _ _, hg.ext ((Ext.refl we).alloc _)⟩ ?_;have hsz : W.heap.size <= we.heap.size := hxe.size;generalize we.heap.size = g8 at *;clear hxe hg;rintro V ⟨EV, b8, hg⟩;replace bx := bx.ext EV;replace by_ := by_.ext EV;replace bz := bz.ext EV;replace h := h.ext EV;replace k := k.ext EV;replace extW := extW.trans EV;clear EV;have y0 := by_.cell 0 (.bool t) rfl;have y1 := by_.cell 1 (.slice B m d) rfl
 go_wp2_with fail
 refine (q_Sign k (by omega)).mono ?_;rintro e V2 ⟨rfl, hxa⟩;replace bx := bx.ext hxa;replace by_ := by_.ext hxa;replace bz := bz.ext hxa;replace b8 := b8.ext hxa;replace h := h.ext hxa;replace k := k.ext hxa;replace hg := hg.ext hxa;replace extW := extW.trans hxa;clear hxa y0 y1;rw [hs];obtain ⟨m1, m2⟩ := mkRat_parts (-z) (D := (-y).natAbs) (by omega);rw [Int.natAbs_neg, Int.natAbs_neg, hge] at m1 m2;have e1 : z / (-(g : Int)) = (-z) / (g : Int) := by rw [Int.ediv_neg, Int.neg_ediv_of_dvd (Int.ofNat_dvd_left.2 hgz)]
 have e2 : y / (-(g : Int)) = (-y) / (g : Int) := by rw [Int.ediv_neg, Int.neg_ediv_of_dvd (Int.ofNat_dvd_left.2 hgy)]
 have He1 := Lib.hid (show z / (-(g : Int)) = (mkRat (-z) y.natAbs).num by rw [e1, m1]);have He2 := Lib.hid (show y / (-(g : Int)) = ((mkRat (-z) y.natAbs).den : Int) by rw [e2, m2, Int.natCast_ediv]; congr 1; omega);have Hg0 := Lib.hid (show -(g : Int) ≠ 0 by omega);have Hgz := Lib.hid (Int.neg_dvd.2 (Int.ofNat_dvd_left.2 hgz));have Hgy := Lib.hid (Int.neg_dvd.2 (Int.ofNat_dvd_left.2 hgy));clear hge hg0 hgz hgy m1 m2 hs e1 e2;have x0 := b8.cell 0 (.bool s4) rfl;have x1 := b8.cell 1 (.slice A4 n4 c4) rfl
 go_wp2_with fail
 refine (q_Neg hg (by omega)).mono ?_;rintro e V3 ⟨s3, A3, n3, c3, rfl, hg2, hxb⟩;replace bx := bx.ext hxb;replace by_ := by_.ext hxb;replace bz := bz.ext hxb;replace b8 := b8.ext hxb;replace h := h.ext hxb;replace k := k.ext hxb;replace extW := extW.trans hxb;clear x0 x1 hg;have z0 := b8.cell 0 _ rfl;have z1 := b8.cell 1 _ rfl;have f0 := b8.frozen 0;have f1 := b8.frozen 1
 go_upto_region 4 with (fail)
 refine at_world (fun U => Ext w U /\ Box U w.heap.size 25 #[.bool s, .slice A n c] /\ Box U (w.heap.size + 1) 25 #[.bool t, .slice B m d] /\ Box U (w.heap.size + 1 + 1) 27 #[Value.bool false, Value.slice none 0 0, Value.bool false, Value.slice none 0 0] /\ Box U g8 25 #[.bool s3, .slice A3 n3 c3] /\ NI U z L s A n c /\ NI U y M t B m d /\ NI U (-(g : Int)) (max L M) s3 A3 n3 c3) ?_ ?_
 ·have q1 := fin_dual (s := s3) (A := A3) (n := n3) (c := c3) b8
  exact ⟨q1.2.2.1 _ extW (by omega), q1.2.2.2 _ _ _ (by omega) bx, q1.2.2.2 _ _ _ (by omega) by_, q1.2.2.2 _ _ _ (by omega) bz, q1.1, q1.2.1 _ _ _ _ _ _ h, q1.2.1 _ _ _ _ _ _ k, q1.2.1 _ _ _ _ _ _ hg2⟩
 clear extW bx by_ bz b8 h k hg2 z0 z1 f0 f1;rintro U ⟨extW, bx, by_, bz, b8, h, k, hg⟩;refine wpL.st 7 (fun hQ ES => ?_);refine wpL.tk (i := 0) (d := some 14) (v := ?v_0) rfl rfl hQ (Or.inl ⟨by rfl, ?y_0⟩) ES ?_
 case y_0 => intro w' hSw;have k00 := (bx.ext hSw).c2;have k10 := (by_.ext hSw).c2;have k20 := (b8.ext hSw).c2;go_simp;try with_reducible rfl
 try simp only [zP]
 refine wpL.tk (i := 1) (d := some 15) (v := ?v_1) rfl rfl hQ (Or.inl ⟨by rfl, ?y_1⟩) ES ?_
 case y_1 => intro w' hSw;have k00 := (bx.ext hSw).c2;have k10 := (by_.ext hSw).c2;have k20 := (b8.ext hSw).c2;go_simp;try with_reducible rfl
 try simp only [zP]
 refine wpL.tk (i := 3) (d := some 17) (v := ?v_2) rfl rfl hQ (Or.inl ⟨by rfl, ?y_2⟩) ES ?_
 case y_2 => intro w' hSw;have k00 := (bx.ext hSw).c2;have k10 := (by_.ext hSw).c2;have k20 := (b8.ext hSw).c2;go_simp;try with_reducible rfl
 try simp only [zP]
 refine wpL.tk (i := 4) (d := some 18) (v := ?v_3) rfl rfl hQ (Or.inl ⟨by rfl, ?y_3⟩) ES ?_
 case y_3 => intro w' hSw;have k00 := (bx.ext hSw).c2;have k10 := (by_.ext hSw).c2;have k20 := (b8.ext hSw).c2;go_simp;try with_reducible rfl
 try simp only [zP]
 refine wpL.cl (i := 2) rfl (fun K hK => ?_);go_simp
 (go_at_call 105; refine (q_quo (h.ext ES) (hg.ext ES) (by omega) (by omega) Hg0.out Hgz.out).mono ?_; rintro e wk5 ⟨s5, A5, n5, c5, rfl, h5, hx0⟩; have E0_4 := Ext.trans ES hx0)
 refine hK.out _ _ E0_4 ?_;clear hK K
 try simp only [zP]
 refine wpL.cl (i := 5) rfl (fun K hK => ?_);go_simp
 (go_at_call 105; refine (q_quo (k.ext E0_4) (hg.ext E0_4) (by omega) (by omega) Hg0.out Hgy.out).mono ?_; rintro e wk6 ⟨s6, A6, n6, c6, rfl, h6, hx1⟩; have E1_4 := Ext.trans E0_4 hx1)
 refine hK.out _ _ E1_4 ?_;clear hK K
 try simp only [zP]
 refine wpL.tk (i := 6) (d := some 20) (v := ?v_4) rfl rfl hQ (Or.inl ⟨by rfl, ?y_4⟩) E1_4 ?_
 case y_4 => intro w' hSw;go_simp;try with_reducible rfl
 try simp only [zP]
 have z0 := (bz.ext E1_4).cell 0 _ rfl;have z1 := (bz.ext E1_4).cell 1 _ rfl;have z2 := (bz.ext E1_4).cell 2 _ rfl;have z3 := (bz.ext E1_4).cell 3 _ rfl;have f0 := (bz.ext E1_4).frozen 0;have f1 := (bz.ext E1_4).frozen 1;have f2 := (bz.ext E1_4).frozen 2;have f3 := (bz.ext E1_4).frozen 3;refine wpL.tl (i := 7) rfl (fun K hK => ?_);go_simp;refine hK.out _ _ ?_;clear hK K
 try simp only [zP]
 refine wpL.done (by kernel_rfl) ?_ _;clear hQ
 go_wp2_with fail
 rw [He2.out] at h6;rw [He1.out] at h5;obtain ⟨b1, b2, b3, b4⟩ := fin_quad (s := s5) (A := A5) (n := n5) (c := c5) (t := s6) (B := A6) (m := n6) (d := c6) (bz.ext E1_4);have r0 := b1.cell 0 (.bool s5) rfl;have r1 := b1.cell 1 (.slice A5 n5 c5) rfl;have r2 := b1.cell 2 (.bool s6) rfl;have r3 := b1.cell 3 (.slice A6 n6 c6) rfl;unfold set4 at r0 r1 r2 r3;refine bodyPost_ret (v := .agg #[.bool s5, .slice A5 n5 c5, .bool s6, .slice A6 n6 c6]) (by simp [results, Tryz.results92, go_sem, r0, r1, r2, r3]) rfl ⟨s5, A5, n5, c5, s6, A6, n6, c6, rfl, ⟨?_, ?_⟩, b3 _ (extW.trans E1_4) (by omega)⟩
 ·exact (b2 _ _ _ _ _ _ (h5.ext hx1)).le (by omega)
 ·exact (b2 _ _ _ _ _ _ h6).le (by omega)
theorem q_Make_nz (h : NI w z L s A n c) (k : NI w y M t B m d) (hL : L <= 3000) (hM : M <= 3000) (hy : y ≠ 0) : Calls Tryz.prog 92 #[.agg #[.bool s, .slice A n c], .agg #[.bool t, .slice B m d]] w (RetNR (mkQ z y) (max L M) w) := by
 rcases Int.lt_trichotomy y 0 with h1 | h1 | h1
 ·exact q_Make_neg h k hL hM h1
 ·exact absurd h1 hy
 ·exact q_Make_pos h k hL hM h1
theorem q_Frac (a b : Int) (ha : -9223372036854775808 <= a) (ha' : a < 9223372036854775808) (hb : -9223372036854775808 <= b) (hb' : b < 9223372036854775808) : Calls Tryz.prog 47 #[.int .i64 a, .int .i64 b] w (RetNR (mkQ a b) 2 w) := by
 by_cases h0 : b = 0
 ·have hq : ((0 : Int) : Rat) = mkQ a b := by rw [h0]; unfold mkQ; rw [if_neg (by omega)]; exact (Rat.mkRat_zero a).symm
  rw [<- hq];subst h0;clear hq
  go_enter Tryz.func47, Tryz.ntmps47
  go_upto_region 1 with (fail)
  obtain ⟨W, hW, extW, bz, hz⟩ := box1 w 27 #[Value.bool false, Value.slice none 0 0, Value.bool false, Value.slice none 0 0];rw [<- hW];clear hW
  go_wp2_with fail
  refine (q_FromIntR 0 (by omega) (by omega)).mono ?_;rintro e wd ⟨s3, A3, n3, c3, s4, A4, n4, c4, rfl, hr, hx3⟩;have z0 := (bz.ext hx3).cell 0 _ rfl;have z1 := (bz.ext hx3).cell 1 _ rfl;have z2 := (bz.ext hx3).cell 2 _ rfl;have z3 := (bz.ext hx3).cell 3 _ rfl;have f0 := (bz.ext hx3).frozen 0;have f1 := (bz.ext hx3).frozen 1;have f2 := (bz.ext hx3).frozen 2;have f3 := (bz.ext hx3).frozen 3
  go_wp2_with fail
  obtain ⟨b1, b2, b3, b4⟩ := fin_quad (s := s3) (A := A3) (n := n3) (c := c3) (t := s4) (B := A4) (m := n4) (d := c4) (bz.ext hx3);have r0 := b1.cell 0 (.bool s3) rfl;have r1 := b1.cell 1 (.slice A3 n3 c3) rfl;have r2 := b1.cell 2 (.bool s4) rfl;have r3 := b1.cell 3 (.slice A4 n4 c4) rfl;unfold set4 at r0 r1 r2 r3;refine bodyPost_ret (v := .agg #[.bool s3, .slice A3 n3 c3, .bool s4, .slice A4 n4 c4]) (by simp [results, Tryz.results47, go_sem, r0, r1, r2, r3]) rfl ⟨s3, A3, n3, c3, s4, A4, n4, c4, rfl, ⟨?_, ?_⟩, b3 _ (extW.trans hx3) (by omega)⟩
  ·exact b2 _ _ _ _ _ _ hr.num
  ·exact b2 _ _ _ _ _ _ hr.den
 ·have hb0 : (b == 0) = false := beq_eq_false_iff_ne.2 h0
  go_enter Tryz.func47, Tryz.ntmps47
  go_upto_region 1 with (fail)
  obtain ⟨W, hW, extW, bz, hz⟩ := box1 w 27 #[Value.bool false, Value.slice none 0 0, Value.bool false, Value.slice none 0 0];rw [<- hW];clear hW
  go_wp2_with fail
  refine (q_FromInt a ha ha').mono ?_;rintro e wa ⟨s1, A1, n1, c1, rfl, h1, hx0⟩
  go_wp2_with fail
  refine (q_FromInt b hb hb').mono ?_;rintro e wb ⟨s2, A2, n2, c2, rfl, h2, hx1⟩
  go_wp2_with fail
  refine (q_Make_nz (h1.ext hx1) h2 (by omega) (by omega) h0).mono ?_;rintro e wc ⟨s3, A3, n3, c3, s4, A4, n4, c4, rfl, hr, hx2⟩;have hE := hx0.trans (hx1.trans hx2);have z0 := (bz.ext hE).cell 0 _ rfl;have z1 := (bz.ext hE).cell 1 _ rfl;have z2 := (bz.ext hE).cell 2 _ rfl;have z3 := (bz.ext hE).cell 3 _ rfl;have f0 := (bz.ext hE).frozen 0;have f1 := (bz.ext hE).frozen 1;have f2 := (bz.ext hE).frozen 2;have f3 := (bz.ext hE).frozen 3
  go_wp2_with fail
  obtain ⟨b1, b2, b3, b4⟩ := fin_quad (s := s3) (A := A3) (n := n3) (c := c3) (t := s4) (B := A4) (m := n4) (d := c4) (bz.ext hE);have r0 := b1.cell 0 (.bool s3) rfl;have r1 := b1.cell 1 (.slice A3 n3 c3) rfl;have r2 := b1.cell 2 (.bool s4) rfl;have r3 := b1.cell 3 (.slice A4 n4 c4) rfl;unfold set4 at r0 r1 r2 r3;refine bodyPost_ret (v := .agg #[.bool s3, .slice A3 n3 c3, .bool s4, .slice A4 n4 c4]) (by simp [results, Tryz.results47, go_sem, r0, r1, r2, r3]) rfl ⟨s3, A3, n3, c3, s4, A4, n4, c4, rfl, ⟨?_, ?_⟩, b3 _ (extW.trans hE) (by omega)⟩
  ·exact b2 _ _ _ _ _ _ hr.num
  ·exact b2 _ _ _ _ _ _ hr.den
end
end Go.Proofs.YtpeddoaknfjbbaaGreatDoor
