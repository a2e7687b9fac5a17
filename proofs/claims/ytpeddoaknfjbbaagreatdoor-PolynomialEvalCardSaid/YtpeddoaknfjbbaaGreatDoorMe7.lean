/- Walks and laws, a part. -/
import Derived.Test.YtpeddoaknfjbbaaGreatDoorMe2
import Derived.Test.YtpeddoaknfjbbaaGreatDoorMe3
import Derived.Test.YtpeddoaknfjbbaaGreatDoorMe4
import Derived.Test.YtpeddoaknfjbbaaGreatDoorMe6
import Derived.Test.YtpeddoaknfjbbaaGreatDoorMe0
import Derived.Test.YtpeddoaknfjbbaaGreatDoorMe1
import Derived.Test.YtpeddoaknfjbbaaGreatDoorMe5
import Derived.Lib.ItoaNum
import Derived.Lib.Strings
import Derived.Lib.TrimByte
import Derived.Test.YtpeddoaknfjbbaaGreatDoorProg
import Derived.Lib.ItoaMem
import Derived.Laws.BytesArg
import Derived.Maps.AppendAt
set_option linter.unusedSimpArgs false
set_option linter.unusedVariables false
set_option maxHeartbeats 64000000
namespace Go.Proofs.YtpeddoaknfjbbaaGreatDoor
section
open Go.RowKit
attribute [local go_sem ↓] Go.wp_at_zero Go.wp_at_succ
theorem ival_abs {s : Bool} {xs : List Nat} (h : 0 <= ival s xs) : ival s xs = (val xs : Int) := by
 unfold ival at *
 cases s <;> simp at h ⊢ <;> omega
theorem validB_int {z : Int} {b : Bool} {rs : List Nat} (h : IsInt z b rs) : validB b rs = true := by
 have hn := h.nrm;unfold Nrm at hn;have hs := h.sgn;unfold validB;rw [hn]
 cases rs with
 | nil => rw [hs rfl]; rfl
 | cons a l => simp
section
variable {A B : Option Addr} {c d n m : Nat} {xs ys : List Nat} {w : World} {s t : Bool}
end
structure RI (w : World) (A : Option Addr) (n c : Nat) (xs : List Nat) : Prop where
 len : xs.length = n
 rd : Rd w A xs
 cap : n <= c
 top : c <= maxLen
theorem RI.ext {w w' : World} {A : Option Addr} {n c : Nat} {xs : List Nat} (h : RI w A n c xs) (e : Ext w w') : RI w' A n c xs := ⟨h.len, h.rd.ext e, h.cap, h.top⟩
def validQ (s : Bool) (xs : List Nat) (t : Bool) (ys : List Nat) : Bool := validB s xs && (validB t ys && (decide (0 < ival t ys) && decide (((Nat.gcd (val xs) (val ys) : Nat) : Int) = 1)))
theorem validB_is {s : Bool} {xs : List Nat} (h : validB s xs = true) (hw : W32 xs) : IsInt (ival s xs) s xs := by
 unfold validB at h;rw [Bool.and_eq_true, decide_eq_true_eq] at h;obtain ⟨h1, h2⟩ := h;have hn : Nrm xs := by unfold Nrm; rw [trimL_take, h1, List.take_length]
 refine ⟨hw, hn, fun h0 => ?_, rfl⟩;subst h0
 simpa using h2
theorem NI.of_raw {w : World} {s : Bool} {A : Option Addr} {n c : Nat} {xs : List Nat} {L : Nat} (h : RI w A n c xs) (hv : validB s xs = true) (hl : n <= L) : NI w (ival s xs) L s A n c :=
 ⟨xs, h.len, h.rd, h.cap, h.top, validB_is hv h.rd.1, hl⟩
theorem NR.of_raw {w : World} {s : Bool} {A : Option Addr} {n c : Nat} {xs : List Nat} {t : Bool} {B : Option Addr} {m d : Nat} {ys : List Nat} {L : Nat} (h : RI w A n c xs) (k : RI w B m d ys) (hv : validQ s xs t ys = true) (hn : n <= L) (hm : m <= L) :
  ∃ q : Rat, NR w q L s A n c t B m d := by
 unfold validQ at hv;simp only [Bool.and_eq_true, decide_eq_true_eq] at hv;obtain ⟨h1, h2, h3, h4⟩ := hv;have hg : Nat.gcd (val xs) (val ys) = 1 := by omega
 have hy : ival t ys = (val ys : Int) := ival_abs (by omega);refine ⟨⟨ival s xs, val ys, by omega, by rw [ival_ab]; exact hg⟩, NI.of_raw h h1 hn, ?_⟩
 show NI w ((val ys : Nat) : Int) L t B m d
 rw [<- hy];exact NI.of_raw k h2 hm
theorem NR.raw {w : World} {q : Rat} {L : Nat} {s : Bool} {A : Option Addr} {n c : Nat} {t : Bool} {B : Option Addr} {m d : Nat} (h : NR w q L s A n c t B m d) :
  ∃ xs ys, RI w A n c xs /\ RI w B m d ys /\ validQ s xs t ys = true /\ n <= L /\ m <= L /\ (∀ w' A' c' B' d', RI w' A' n c' xs -> RI w' B' m d' ys -> NR w' q L s A' n c' t B' m d') := by
 obtain ⟨xs, h1, h2, h3, h4, h5, h6⟩ := h.num.out;obtain ⟨ys, k1, k2, k3, k4, k5, k6⟩ := h.den.out;refine ⟨xs, ys, ⟨h1, h2, h3, h4⟩, ⟨k1, k2, k3, k4⟩, ?_, h6, k6, fun w' A' c' B' d' r1 r2 => ⟨⟨xs, r1.len, r1.rd, r1.cap, r1.top, h5, h6⟩, ⟨ys, r2.len, r2.rd, r2.cap, r2.top, k5, k6⟩⟩⟩;unfold validQ;rw [validB_int h5, validB_int k5, h5.abs, k5.abs, k5.eq];have hd := q.den_pos;have hr := q.reduced;unfold Nat.Coprime at hr;simp [hr];omega
section
variable {w w' : World} {z y : Int} {q p : Rat} {L M : Nat} {s t s' t' : Bool} {A B A' B' : Option Addr} {n c m d n' c' m' d' : Nat} {xs ys xs' ys' : List Nat}
theorem q_ValidRaw (h : RI w A n c xs) (k : RI w B m d ys) (h1 : n <= 3000) (h2 : m <= 3000) : Calls Tryz.prog 30 #[.agg #[.bool s, .slice A n c, .bool t, .slice B m d]] w fun e w' => e = .returned (.bool (validQ s xs t ys)) /\ Ext w w' := by
 obtain ⟨r, hr⟩ : ∃ r, validQ s xs t ys = r := ⟨_, rfl⟩;have HR := Lib.hid hr;rw [hr];clear hr
 go_enter Tryz.func30, Tryz.ntmps30
 go_upto_region 1 with (fail)
 obtain ⟨W, hW, extW, bx, hz⟩ := box1 w 27 #[.bool s, .slice A n c, .bool t, .slice B m d];rw [<- hW];clear hW;replace h := h.ext extW;replace k := k.ext extW;have x0 := bx.cell 0 (.bool s) rfl;have x1 := bx.cell 1 (.slice A n c) rfl;have x2 := bx.cell 2 (.bool t) rfl;have x3 := bx.cell 3 (.slice B m d) rfl
 go_wp2_with fail
 refine (ref_Valid h.len h.rd h.cap h.top (by omega)).mono ?_;rintro e wa ⟨rfl, hxa⟩;replace bx := bx.ext hxa;replace h := h.ext hxa;replace k := k.ext hxa;replace extW := extW.trans hxa;clear hxa x0 x1 x2 x3;have x0 := bx.cell 0 (.bool s) rfl;have x1 := bx.cell 1 (.slice A n c) rfl;have x2 := bx.cell 2 (.bool t) rfl;have x3 := bx.cell 3 (.slice B m d) rfl
 cases hv1 : validB s xs with
 | false =>
  go_wp2_with fail
  go_ret
  exact ⟨by rw [<- HR.out]; unfold validQ; rw [hv1]; rfl, extW⟩
 | true =>
  go_wp2_with fail
  refine (ref_Valid k.len k.rd k.cap k.top (by omega)).mono ?_;rintro e wb ⟨rfl, hxb⟩;replace bx := bx.ext hxb;replace h := h.ext hxb;replace k := k.ext hxb;replace extW := extW.trans hxb;clear hxb x0 x1 x2 x3;have x0 := bx.cell 0 (.bool s) rfl;have x1 := bx.cell 1 (.slice A n c) rfl;have x2 := bx.cell 2 (.bool t) rfl;have x3 := bx.cell 3 (.slice B m d) rfl
  cases hv2 : validB t ys with
  | false =>
   go_wp2_with fail
   go_ret
   exact ⟨by rw [<- HR.out]; unfold validQ; rw [hv1, hv2]; rfl, extW⟩
  | true =>
   have H1 := NI.of_raw (L := 3000) h hv1 h1;have H2 := NI.of_raw (L := 3000) k hv2 h2;have hvq : validQ s xs t ys = (decide (0 < ival t ys) && decide (((Nat.gcd (val xs) (val ys) : Nat) : Int) = 1)) := by unfold validQ; rw [hv1, hv2]; rfl
   rw [HR.out] at hvq;have HVQ := Lib.hid hvq;clear hv1 hv2 hvq HR
   go_wp2_with fail
   refine (q_Sign H2 (by omega)).mono ?_;rintro e wc ⟨rfl, hxc⟩;replace bx := bx.ext hxc;replace H1 := H1.ext hxc;replace H2 := H2.ext hxc;replace extW := extW.trans hxc;clear hxc x0 x1 x2 x3 h k;have x0 := bx.cell 0 (.bool s) rfl;have x1 := bx.cell 1 (.slice A n c) rfl;have x2 := bx.cell 2 (.bool t) rfl;have x3 := bx.cell 3 (.slice B m d) rfl
   by_cases hp : 0 < ival t ys
   ·rw [Int.sign_eq_one_of_pos hp]
    have hvr : r = decide (((Nat.gcd (val xs) (val ys) : Nat) : Int) = 1) := by rw [HVQ.out, decide_eq_true hp, Bool.true_and]
    have HP := Lib.hid hvr;clear HVQ hvr;have ab1 := ival_ab s xs;have ab2 := ival_ab t ys;clear hp
    go_wp2_with fail
    refine (q_GCD H1 H2 (by omega) (by omega)).mono ?_;rintro e wd ⟨s1, A1, n1, c1, rfl, hg, hxd⟩;rw [ab1, ab2] at hg
    go_wp2_with fail
    refine (q_one hg).mono ?_;rintro e we ⟨rfl, hxe⟩
    go_wp2_with fail
    go_ret
    exact ⟨by rw [HP.out]; rfl, extW.trans (hxd.trans hxe)⟩
   ·have hvr : r = false := by rw [HVQ.out, decide_eq_false hp, Bool.false_and]
    subst hvr;clear HVQ
    have hs : (ival t ys).sign = 0 \/ (ival t ys).sign = -1 := by
     rcases Int.lt_trichotomy (ival t ys) 0 with h | h | h
     ·exact Or.inr (Int.sign_eq_neg_one_of_neg h)
     ·exact Or.inl (by rw [h]; rfl)
     ·exact absurd h hp
    clear hp
    rcases hs with hs | hs
    ·rw [hs]
     go_wp2_with fail
     go_ret
     exact ⟨rfl, extW⟩
    ·rw [hs]
     go_wp2_with fail
     go_ret
     exact ⟨rfl, extW⟩
end
section
variable {A : Option Addr} {c n : Nat} {xs : List Nat} {w : World} {s : Bool}
end
section
variable {w w' : World} {z y : Int} {q p : Rat} {L M : Nat} {s t s' t' : Bool} {A B A' B' : Option Addr} {n c m d n' c' m' d' : Nat} {xs ys xs' ys' : List Nat}
end
section
variable {w w' : World} {z y : Int} {q p : Rat} {L M : Nat} {s t s' t' : Bool} {A B A' B' : Option Addr} {n c m d n' c' m' d' : Nat} {xs ys xs' ys' : List Nat}
def mkQ (z y : Int) : Rat := if y < 0 then mkRat (-z) (-y).natAbs else mkRat z y.natAbs
theorem p_Make_pos (h : NI w z L s A n c) (k : NI w y M t B m d) (hL : L <= 3000) (hM : M <= 3000) (hy : 0 < y) (hT : Tab w) : Calls Tryz.prog 78 #[.agg #[.bool s, .slice A n c], .agg #[.bool t, .slice B m d]] w (RetNRE (mkQ z y) (max L M) w) := by
 have hs : y.sign = 1 := Int.sign_eq_one_of_pos hy;have hq : mkQ z y = mkRat z y.natAbs := if_neg (by omega);rw [hq];clear hq
 go_enter Tryz.func78, Tryz.ntmps78
 go_upto_region 1 with (fail)
 obtain ⟨W, hW, extW, bx, by_, bz, hz⟩ := box3 w 25 25 27 #[.bool s, .slice A n c] #[.bool t, .slice B m d] #[Value.bool false, Value.slice none 0 0, Value.bool false, Value.slice none 0 0];rw [<- hW];clear hW;replace h := h.ext extW;replace k := k.ext extW;refine wpL.st 4 (fun hQ ES => ?_);refine wpL.t 0 7 ?v_0 hQ ?y_0 ES ?_
 case y_0 => intro w' hSw;have k00 := (bx.ext hSw).c2;have k10 := (by_.ext hSw).c2;go_simp;try rfl
 try simp only [zP]
 refine wpL.take2 3 (i := 2) (d := some 9) (v := ?v_1) rfl rfl (by kernel_rfl) (by kernel_rfl) (by kernel_rfl) (by kernel_rfl) hQ (Or.inl ⟨by rfl, ?y_1⟩) ES ?r_1
 case y_1 => intro w' hSw;have k00 := (bx.ext hSw).c2;have k10 := (by_.ext hSw).c2;go_simp;try rfl
 try simp only [zP]
 refine wpL.cl (i := 1) rfl (fun K hK => ?_);go_simp
 (go_at_call 95; refine (p_Norm (h.ext ES) (by omega)).mono ?_; rintro e wk1 ⟨s1, A1, n1, c1, rfl, h1, hx0⟩; have E0_1 := Ext.trans ES hx0)
 refine hK.out _ _ E0_1 ?_;clear hK K
 try simp only [zP]
 refine wpL.cl (i := 3) rfl (fun K hK => ?_);go_simp
 (go_at_call 95; refine (p_Norm (k.ext E0_1) (by omega)).mono ?_; rintro e wk2 ⟨s2, A2, n2, c2, rfl, h2, hx1⟩; have E1_1 := Ext.trans E0_1 hx1)
 refine hK.out _ _ E1_1 ?_;clear hK K
 try simp only [zP]
 have z0 := (bx.ext E1_1).cell 0 _ rfl;have z1 := (bx.ext E1_1).cell 1 _ rfl;have f0 := (bx.ext E1_1).frozen 0;have f1 := (bx.ext E1_1).frozen 1;have u0 := (by_.ext E1_1).cell 0 _ rfl;have u1 := (by_.ext E1_1).cell 1 _ rfl;have v0 := (by_.ext E1_1).frozen 0;have v1 := (by_.ext E1_1).frozen 1;refine wpL.tl (i := 4) rfl (fun K hK => ?_);go_simp;refine hK.out _ _ ?_;clear hK K
 try simp only [zP]
 refine wpL.tl (i := 5) rfl (fun K hK => ?_);go_simp;refine hK.out _ _ ?_;clear hK K
 try simp only [zP]
 refine wpL.done (by kernel_rfl) ?_ _;clear hQ;refine at_exit (fun U => Ext w U /\ Box U w.heap.size 25 #[.bool s1, .slice A1 n1 c1] /\ Box U (w.heap.size + 1) 25 #[.bool s2, .slice A2 n2 c2] /\ Box U (w.heap.size + 1 + 1) 27 #[Value.bool false, Value.slice none 0 0, Value.bool false, Value.slice none 0 0] /\ NI U (z) L s1 A1 n1 c1 /\ NI U (y) M s2 A2 n2 c2) ?_ ?_
 ·have q1 := fin_dual (s := s1) (A := A1) (n := n1) (c := c1) (bx.ext E1_1)
  have q2 := fin_dual (s := s2) (A := A2) (n := n2) (c := c2) (q1.2.2.2 _ _ _ (by omega) (by_.ext E1_1));exact ⟨q2.2.2.1 _ (q1.2.2.1 _ (extW.trans E1_1) (by omega)) (by omega), q2.2.2.2 _ _ _ (by omega) q1.1, q2.1, q2.2.2.2 _ _ _ (by omega) (q1.2.2.2 _ _ _ (by omega) (bz.ext E1_1)), q2.2.1 _ _ _ _ _ _ (q1.2.1 _ _ _ _ _ _ (h1.ext hx1)), q2.2.1 _ _ _ _ _ _ (q1.2.1 _ _ _ _ _ _ h2)⟩
 clear extW bx by_ bz h k;rintro U ⟨extW, bx, by_, bz, h, k⟩;have y0 := by_.cell 0 (.bool s2) rfl;have y1 := by_.cell 1 (.slice A2 n2 c2) rfl
 go_wp2_with fail
 refine (p_Sign k (by omega)).mono ?_;rintro e V ⟨rfl, hxa⟩;replace bx := bx.ext hxa;replace by_ := by_.ext hxa;replace bz := bz.ext hxa;replace h := h.ext hxa;replace k := k.ext hxa;replace extW := extW.trans hxa;clear hxa y0 y1;rw [hs];have y0 := by_.cell 0 (.bool s2) rfl;have y1 := by_.cell 1 (.slice A2 n2 c2) rfl
 go_wp2_with fail
 refine (p_isOne k).mono ?_;rintro e Vo ⟨rfl, hxo⟩;replace bx := bx.ext hxo;replace by_ := by_.ext hxo;replace bz := bz.ext hxo;replace h := h.ext hxo;replace k := k.ext hxo;replace extW := extW.trans hxo;clear hxo y0 y1
 by_cases hone : y = 1
 ·rw [decide_eq_true hone]
  obtain ⟨m1, m2⟩ := mkRat_parts (z) (D := (y).natAbs) (by omega);have hab : (y).natAbs = 1 := by omega
  rw [hab, Nat.gcd_one_right, Nat.div_one] at m2;rw [hab, Nat.gcd_one_right] at m1;have m3 : ((mkRat (z) (y).natAbs).num) = z := by rw [hab, m1]; exact Int.ediv_one _
  have m4 : (((mkRat (z) (y).natAbs).den : Nat) : Int) = y := by rw [hab, m2]; exact hone.symm
  have hE := Ext.refl Vo;have x0 := bx.cell 0 (.bool s1) rfl;have x1 := bx.cell 1 (.slice A1 n1 c1) rfl;have y0 := by_.cell 0 (.bool s2) rfl;have y1 := by_.cell 1 (.slice A2 n2 c2) rfl;have z0 := (bz.ext hE).cell 0 _ rfl;have z1 := (bz.ext hE).cell 1 _ rfl;have z2 := (bz.ext hE).cell 2 _ rfl;have z3 := (bz.ext hE).cell 3 _ rfl;have f0 := (bz.ext hE).frozen 0;have f1 := (bz.ext hE).frozen 1;have f2 := (bz.ext hE).frozen 2;have f3 := (bz.ext hE).frozen 3
  go_wp2_with fail
  obtain ⟨b1, b2, b3, b4⟩ := fin_quad (s := s1) (A := A1) (n := n1) (c := c1) (t := s2) (B := A2) (m := n2) (d := c2) (bz.ext hE);have r0 := b1.cell 0 (.bool s1) rfl;have r1 := b1.cell 1 (.slice A1 n1 c1) rfl;have r2 := b1.cell 2 (.bool s2) rfl;have r3 := b1.cell 3 (.slice A2 n2 c2) rfl;unfold set4 at r0 r1 r2 r3;refine bodyPost_ret (v := .tuple #[.agg #[.bool s1, .slice A1 n1 c1, .bool s2, .slice A2 n2 c2], .int .i64 0]) (by simp [results, Tryz.results78, go_sem, r0, r1, r2, r3]) rfl ⟨s1, A1, n1, c1, s2, A2, n2, c2, rfl, ⟨(b2 _ _ _ _ _ _ (by rw [m3]; exact h)).le (by omega), (b2 _ _ _ _ _ _ (by rw [m4]; exact k)).le (by omega)⟩, b3 _ (extW.trans hE) (by omega)⟩
 rw [decide_eq_false hone];clear hone;have hEo := Ext.refl Vo;have x0 := bx.cell 0 (.bool s1) rfl;have x1 := bx.cell 1 (.slice A1 n1 c1) rfl;have y0 := by_.cell 0 (.bool s2) rfl;have y1 := by_.cell 1 (.slice A2 n2 c2) rfl
 go_wp2_with fail
 refine (p_GCD h k (by omega) (by omega) (hT.ext extW)).mono ?_;rintro e we ⟨s4, A4, n4, c4, rfl, hg, hxe⟩;obtain ⟨g, hge⟩ : ∃ g, Nat.gcd (z).natAbs (y).natAbs = g := ⟨_, rfl⟩;rw [hge] at hg;have hgz : g ∣ (z).natAbs := by rw [<- hge]; exact Nat.gcd_dvd_left _ _
 have hgy : g ∣ (y).natAbs := by rw [<- hge]; exact Nat.gcd_dvd_right _ _
 have hy0 : (y).natAbs ≠ 0 := by omega
 have hg0 : (g : Int) ≠ 0 := by
  intro h0;have : g = 0 := by omega
  rw [this] at hgy;exact hy0 (Nat.eq_zero_of_zero_dvd hgy)
 obtain ⟨m1, m2⟩ := mkRat_parts (z) (D := (y).natAbs) hy0;rw [hge] at m1 m2;have Hm1 := Lib.hid m1;have Hm2 := Lib.hid m2;have Hg0 := Lib.hid hg0;have Hgz := Lib.hid (Int.ofNat_dvd_left.2 hgz);have Hgy := Lib.hid (Int.ofNat_dvd_left.2 hgy);have Hya := Lib.hid (show (((y).natAbs : Nat) : Int) = y from Int.natAbs_of_nonneg (by omega));clear hge hg0 hgz hgy m1 m2 hy0 x0 x1 y0 y1
 go_upto_region 10 with (fail)
 refine at_world (fun V9 => Ext Vo V9 /\ Box V9 we.heap.size 25 #[.bool s4, .slice A4 n4 c4] /\ NI V9 (g : Int) (max L M) s4 A4 n4 c4) ⟨hxe.alloc _, Box.new we _ _, hg.ext ((Ext.refl we).alloc _)⟩ ?_;generalize we.heap.size = g8;clear hxe hg;rintro V9 ⟨EV, b8, hg⟩;replace bx := bx.ext EV;replace by_ := by_.ext EV;replace bz := bz.ext EV;replace h := h.ext EV;replace k := k.ext EV;replace extW := extW.trans EV;clear EV
 go_wp2_with fail
 refine wpL.st 7 (fun hQ ES => ?_);refine wpL.t 0 30 ?v_2 hQ ?y_2 ES ?_
 case y_2 => intro w' hSw;have k00 := (bx.ext hSw).c2;have k10 := (by_.ext hSw).c2;have k20 := (b8.ext hSw).c2;go_simp;try rfl
 try simp only [zP]
 refine wpL.t 1 31 ?v_3 hQ ?y_3 ES ?_
 case y_3 => intro w' hSw;have k00 := (bx.ext hSw).c2;have k10 := (by_.ext hSw).c2;have k20 := (b8.ext hSw).c2;go_simp;try rfl
 try simp only [zP]
 refine wpL.t 3 33 ?v_4 hQ ?y_4 ES ?_
 case y_4 => intro w' hSw;have k00 := (bx.ext hSw).c2;have k10 := (by_.ext hSw).c2;have k20 := (b8.ext hSw).c2;go_simp;try rfl
 try simp only [zP]
 refine wpL.t 4 34 ?v_5 hQ ?y_5 ES ?_
 case y_5 => intro w' hSw;have k00 := (bx.ext hSw).c2;have k10 := (by_.ext hSw).c2;have k20 := (b8.ext hSw).c2;go_simp;try rfl
 try simp only [zP]
 refine wpL.cl (i := 2) rfl (fun K hK => ?_);go_simp
 (go_at_call 103; refine (p_divide (h.ext ES) (hg.ext ES) (by omega) (by omega) Hg0.out Hgz.out).mono ?_; rintro e wk5 ⟨s5, A5, n5, c5, rfl, h5, hx0⟩; have E0_10 := Ext.trans ES hx0)
 refine hK.out _ _ E0_10 ?_;clear hK K
 try simp only [zP]
 refine wpL.cl (i := 5) rfl (fun K hK => ?_);go_simp
 (go_at_call 103; refine (p_divide (k.ext E0_10) (hg.ext E0_10) (by omega) (by omega) Hg0.out Hgy.out).mono ?_; rintro e wk6 ⟨s6, A6, n6, c6, rfl, h6, hx1⟩; have E1_10 := Ext.trans E0_10 hx1)
 refine hK.out _ _ E1_10 ?_;clear hK K
 try simp only [zP]
 refine wpL.t 6 36 ?v_6 hQ ?y_6 E1_10 ?_
 case y_6 => intro w' hSw;go_simp;try rfl
 try simp only [zP]
 have z0 := (bz.ext E1_10).cell 0 _ rfl;have z1 := (bz.ext E1_10).cell 1 _ rfl;have z2 := (bz.ext E1_10).cell 2 _ rfl;have z3 := (bz.ext E1_10).cell 3 _ rfl;have f0 := (bz.ext E1_10).frozen 0;have f1 := (bz.ext E1_10).frozen 1;have f2 := (bz.ext E1_10).frozen 2;have f3 := (bz.ext E1_10).frozen 3;refine wpL.tl (i := 7) rfl (fun K hK => ?_);go_simp;refine hK.out _ _ ?_;clear hK K
 try simp only [zP]
 refine wpL.tl (i := 8) rfl (fun K hK => ?_);go_simp;refine hK.out _ _ ?_;clear hK K
 try simp only [zP]
 refine wpL.done (by kernel_rfl) ?_ _;clear hQ
 go_wp2_with fail
 have hk1 : (y) / (g : Int) = ((mkRat (z) (y).natAbs).den : Int) := by rw [Hm2.out, Int.natCast_ediv, Hya.out]
 rw [hk1] at h6;rw [<- Hm1.out] at h5;obtain ⟨b1, b2, b3, b4⟩ := fin_quad (s := s5) (A := A5) (n := n5) (c := c5) (t := s6) (B := A6) (m := n6) (d := c6) (bz.ext E1_10);have r0 := b1.cell 0 (.bool s5) rfl;have r1 := b1.cell 1 (.slice A5 n5 c5) rfl;have r2 := b1.cell 2 (.bool s6) rfl;have r3 := b1.cell 3 (.slice A6 n6 c6) rfl;unfold set4 at r0 r1 r2 r3;refine bodyPost_ret (v := .tuple #[.agg #[.bool s5, .slice A5 n5 c5, .bool s6, .slice A6 n6 c6], .int .i64 0]) (by simp [results, Tryz.results78, go_sem, r0, r1, r2, r3]) rfl ⟨s5, A5, n5, c5, s6, A6, n6, c6, rfl, ⟨(b2 _ _ _ _ _ _ (h5.ext hx1)).le (by omega), (b2 _ _ _ _ _ _ h6).le (by omega)⟩, b3 _ (extW.trans E1_10) (by omega)⟩
theorem p_Make_neg (h : NI w z L s A n c) (k : NI w y M t B m d) (hL : L <= 3000) (hM : M <= 3000) (hy : y < 0) (hT : Tab w) : Calls Tryz.prog 78 #[.agg #[.bool s, .slice A n c], .agg #[.bool t, .slice B m d]] w (RetNRE (mkQ z y) (max L M) w) := by
 have hs : y.sign = -1 := Int.sign_eq_neg_one_of_neg hy;have hq : mkQ z y = mkRat (-z) (-y).natAbs := if_pos hy;rw [hq];clear hq
 go_enter Tryz.func78, Tryz.ntmps78
 go_upto_region 1 with (fail)
 obtain ⟨W, hW, extW, bx, by_, bz, hz⟩ := box3 w 25 25 27 #[.bool s, .slice A n c] #[.bool t, .slice B m d] #[Value.bool false, Value.slice none 0 0, Value.bool false, Value.slice none 0 0];rw [<- hW];clear hW;replace h := h.ext extW;replace k := k.ext extW;refine wpL.st 4 (fun hQ ES => ?_);refine wpL.t 0 7 ?v_0 hQ ?y_0 ES ?_
 case y_0 => intro w' hSw;have k00 := (bx.ext hSw).c2;have k10 := (by_.ext hSw).c2;go_simp;try rfl
 try simp only [zP]
 refine wpL.take2 3 (i := 2) (d := some 9) (v := ?v_1) rfl rfl (by kernel_rfl) (by kernel_rfl) (by kernel_rfl) (by kernel_rfl) hQ (Or.inl ⟨by rfl, ?y_1⟩) ES ?r_1
 case y_1 => intro w' hSw;have k00 := (bx.ext hSw).c2;have k10 := (by_.ext hSw).c2;go_simp;try rfl
 try simp only [zP]
 refine wpL.cl (i := 1) rfl (fun K hK => ?_);go_simp
 (go_at_call 95; refine (p_Norm (h.ext ES) (by omega)).mono ?_; rintro e wk1 ⟨s1, A1, n1, c1, rfl, h1, hx0⟩; have E0_1 := Ext.trans ES hx0)
 refine hK.out _ _ E0_1 ?_;clear hK K
 try simp only [zP]
 refine wpL.cl (i := 3) rfl (fun K hK => ?_);go_simp
 (go_at_call 95; refine (p_Norm (k.ext E0_1) (by omega)).mono ?_; rintro e wk2 ⟨s2, A2, n2, c2, rfl, h2, hx1⟩; have E1_1 := Ext.trans E0_1 hx1)
 refine hK.out _ _ E1_1 ?_;clear hK K
 try simp only [zP]
 have z0 := (bx.ext E1_1).cell 0 _ rfl;have z1 := (bx.ext E1_1).cell 1 _ rfl;have f0 := (bx.ext E1_1).frozen 0;have f1 := (bx.ext E1_1).frozen 1;have u0 := (by_.ext E1_1).cell 0 _ rfl;have u1 := (by_.ext E1_1).cell 1 _ rfl;have v0 := (by_.ext E1_1).frozen 0;have v1 := (by_.ext E1_1).frozen 1;refine wpL.tl (i := 4) rfl (fun K hK => ?_);go_simp;refine hK.out _ _ ?_;clear hK K
 try simp only [zP]
 refine wpL.tl (i := 5) rfl (fun K hK => ?_);go_simp;refine hK.out _ _ ?_;clear hK K
 try simp only [zP]
 refine wpL.done (by kernel_rfl) ?_ _;clear hQ;refine at_exit (fun U => Ext w U /\ Box U w.heap.size 25 #[.bool s1, .slice A1 n1 c1] /\ Box U (w.heap.size + 1) 25 #[.bool s2, .slice A2 n2 c2] /\ Box U (w.heap.size + 1 + 1) 27 #[Value.bool false, Value.slice none 0 0, Value.bool false, Value.slice none 0 0] /\ NI U (z) L s1 A1 n1 c1 /\ NI U (y) M s2 A2 n2 c2) ?_ ?_
 ·have q1 := fin_dual (s := s1) (A := A1) (n := n1) (c := c1) (bx.ext E1_1)
  have q2 := fin_dual (s := s2) (A := A2) (n := n2) (c := c2) (q1.2.2.2 _ _ _ (by omega) (by_.ext E1_1));exact ⟨q2.2.2.1 _ (q1.2.2.1 _ (extW.trans E1_1) (by omega)) (by omega), q2.2.2.2 _ _ _ (by omega) q1.1, q2.1, q2.2.2.2 _ _ _ (by omega) (q1.2.2.2 _ _ _ (by omega) (bz.ext E1_1)), q2.2.1 _ _ _ _ _ _ (q1.2.1 _ _ _ _ _ _ (h1.ext hx1)), q2.2.1 _ _ _ _ _ _ (q1.2.1 _ _ _ _ _ _ h2)⟩
 clear extW bx by_ bz h k;rintro U ⟨extW, bx, by_, bz, h, k⟩;have y0 := by_.cell 0 (.bool s2) rfl;have y1 := by_.cell 1 (.slice A2 n2 c2) rfl
 go_wp2_with fail
 refine (p_Sign k (by omega)).mono ?_;rintro e V ⟨rfl, hxa⟩;replace bx := bx.ext hxa;replace by_ := by_.ext hxa;replace bz := bz.ext hxa;replace h := h.ext hxa;replace k := k.ext hxa;replace extW := extW.trans hxa;clear hxa y0 y1;rw [hs]
 go_upto_region 6 with (fail)
 refine wpL.st 4 (fun hQ ES => ?_);refine wpL.t 0 18 ?v_2 hQ ?y_2 ES ?_
 case y_2 => intro w' hSw;have k00 := (bx.ext hSw).c2;have k10 := (by_.ext hSw).c2;go_simp;try rfl
 try simp only [zP]
 refine wpL.take2 3 (i := 2) (d := some 20) (v := ?v_3) rfl rfl (by kernel_rfl) (by kernel_rfl) (by kernel_rfl) (by kernel_rfl) hQ (Or.inl ⟨by rfl, ?y_3⟩) ES ?r_3
 case y_3 => intro w' hSw;have k00 := (bx.ext hSw).c2;have k10 := (by_.ext hSw).c2;go_simp;try rfl
 try simp only [zP]
 refine wpL.cl (i := 1) rfl (fun K hK => ?_);go_simp
 (go_at_call 106; refine (p_Neg (h.ext ES) (by omega)).mono ?_; rintro e wk3 ⟨s3, A3, n3, c3, rfl, h1, hx0⟩; have E0_6 := Ext.trans ES hx0)
 refine hK.out _ _ E0_6 ?_;clear hK K
 try simp only [zP]
 refine wpL.cl (i := 3) rfl (fun K hK => ?_);go_simp
 (go_at_call 106; refine (p_Neg (k.ext E0_6) (by omega)).mono ?_; rintro e wk4 ⟨s3', A3', n3', c3', rfl, h2, hx1⟩; have E1_6 := Ext.trans E0_6 hx1)
 refine hK.out _ _ E1_6 ?_;clear hK K
 try simp only [zP]
 have z0 := (bx.ext E1_6).cell 0 _ rfl;have z1 := (bx.ext E1_6).cell 1 _ rfl;have f0 := (bx.ext E1_6).frozen 0;have f1 := (bx.ext E1_6).frozen 1;have u0 := (by_.ext E1_6).cell 0 _ rfl;have u1 := (by_.ext E1_6).cell 1 _ rfl;have v0 := (by_.ext E1_6).frozen 0;have v1 := (by_.ext E1_6).frozen 1;refine wpL.tl (i := 4) rfl (fun K hK => ?_);go_simp;refine hK.out _ _ ?_;clear hK K
 try simp only [zP]
 refine wpL.tl (i := 5) rfl (fun K hK => ?_);go_simp;refine hK.out _ _ ?_;clear hK K
 try simp only [zP]
 refine wpL.done (by kernel_rfl) ?_ _;clear hQ;refine at_exit (fun V2 => Ext w V2 /\ Box V2 w.heap.size 25 #[.bool s3, .slice A3 n3 c3] /\ Box V2 (w.heap.size + 1) 25 #[.bool s3', .slice A3' n3' c3'] /\ Box V2 (w.heap.size + 1 + 1) 27 #[Value.bool false, Value.slice none 0 0, Value.bool false, Value.slice none 0 0] /\ NI V2 (-z) L s3 A3 n3 c3 /\ NI V2 (-y) M s3' A3' n3' c3') ?_ ?_
 ·have q1 := fin_dual (s := s3) (A := A3) (n := n3) (c := c3) (bx.ext E1_6)
  have q2 := fin_dual (s := s3') (A := A3') (n := n3') (c := c3') (q1.2.2.2 _ _ _ (by omega) (by_.ext E1_6));exact ⟨q2.2.2.1 _ (q1.2.2.1 _ (extW.trans E1_6) (by omega)) (by omega), q2.2.2.2 _ _ _ (by omega) q1.1, q2.1, q2.2.2.2 _ _ _ (by omega) (q1.2.2.2 _ _ _ (by omega) (bz.ext E1_6)), q2.2.1 _ _ _ _ _ _ (q1.2.1 _ _ _ _ _ _ (h1.ext hx1)), q2.2.1 _ _ _ _ _ _ (q1.2.1 _ _ _ _ _ _ h2)⟩
 clear extW bx by_ bz h k;rintro V2 ⟨extW, bx, by_, bz, h, k⟩;have y0 := by_.cell 0 (.bool s3') rfl;have y1 := by_.cell 1 (.slice A3' n3' c3') rfl
 go_wp2_with fail
 refine (p_isOne k).mono ?_;rintro e V2o ⟨rfl, hxo⟩;replace bx := bx.ext hxo;replace by_ := by_.ext hxo;replace bz := bz.ext hxo;replace h := h.ext hxo;replace k := k.ext hxo;replace extW := extW.trans hxo;clear hxo y0 y1
 by_cases hone : -y = 1
 ·rw [decide_eq_true hone]
  obtain ⟨m1, m2⟩ := mkRat_parts (-z) (D := (-y).natAbs) (by omega);have hab : (-y).natAbs = 1 := by omega
  rw [hab, Nat.gcd_one_right, Nat.div_one] at m2;rw [hab, Nat.gcd_one_right] at m1;have m3 : ((mkRat (-z) (-y).natAbs).num) = -z := by rw [hab, m1]; exact Int.ediv_one _
  have m4 : (((mkRat (-z) (-y).natAbs).den : Nat) : Int) = -y := by rw [hab, m2]; exact hone.symm
  have hE := Ext.refl V2o;have x0 := bx.cell 0 (.bool s3) rfl;have x1 := bx.cell 1 (.slice A3 n3 c3) rfl;have y0 := by_.cell 0 (.bool s3') rfl;have y1 := by_.cell 1 (.slice A3' n3' c3') rfl;have z0 := (bz.ext hE).cell 0 _ rfl;have z1 := (bz.ext hE).cell 1 _ rfl;have z2 := (bz.ext hE).cell 2 _ rfl;have z3 := (bz.ext hE).cell 3 _ rfl;have f0 := (bz.ext hE).frozen 0;have f1 := (bz.ext hE).frozen 1;have f2 := (bz.ext hE).frozen 2;have f3 := (bz.ext hE).frozen 3
  go_wp2_with fail
  obtain ⟨b1, b2, b3, b4⟩ := fin_quad (s := s3) (A := A3) (n := n3) (c := c3) (t := s3') (B := A3') (m := n3') (d := c3') (bz.ext hE);have r0 := b1.cell 0 (.bool s3) rfl;have r1 := b1.cell 1 (.slice A3 n3 c3) rfl;have r2 := b1.cell 2 (.bool s3') rfl;have r3 := b1.cell 3 (.slice A3' n3' c3') rfl;unfold set4 at r0 r1 r2 r3;refine bodyPost_ret (v := .tuple #[.agg #[.bool s3, .slice A3 n3 c3, .bool s3', .slice A3' n3' c3'], .int .i64 0]) (by simp [results, Tryz.results78, go_sem, r0, r1, r2, r3]) rfl ⟨s3, A3, n3, c3, s3', A3', n3', c3', rfl, ⟨(b2 _ _ _ _ _ _ (by rw [m3]; exact h)).le (by omega), (b2 _ _ _ _ _ _ (by rw [m4]; exact k)).le (by omega)⟩, b3 _ (extW.trans hE) (by omega)⟩
 rw [decide_eq_false hone];clear hone;have hEo := Ext.refl V2o;have x0 := bx.cell 0 (.bool s3) rfl;have x1 := bx.cell 1 (.slice A3 n3 c3) rfl;have y0 := by_.cell 0 (.bool s3') rfl;have y1 := by_.cell 1 (.slice A3' n3' c3') rfl
 go_wp2_with fail
 refine (p_GCD h k (by omega) (by omega) (hT.ext extW)).mono ?_;rintro e we ⟨s4, A4, n4, c4, rfl, hg, hxe⟩;obtain ⟨g, hge⟩ : ∃ g, Nat.gcd (-z).natAbs (-y).natAbs = g := ⟨_, rfl⟩;rw [hge] at hg;have hgz : g ∣ (-z).natAbs := by rw [<- hge]; exact Nat.gcd_dvd_left _ _
 have hgy : g ∣ (-y).natAbs := by rw [<- hge]; exact Nat.gcd_dvd_right _ _
 have hy0 : (-y).natAbs ≠ 0 := by omega
 have hg0 : (g : Int) ≠ 0 := by
  intro h0;have : g = 0 := by omega
  rw [this] at hgy;exact hy0 (Nat.eq_zero_of_zero_dvd hgy)
 obtain ⟨m1, m2⟩ := mkRat_parts (-z) (D := (-y).natAbs) hy0;rw [hge] at m1 m2;have Hm1 := Lib.hid m1;have Hm2 := Lib.hid m2;have Hg0 := Lib.hid hg0;have Hgz := Lib.hid (Int.ofNat_dvd_left.2 hgz);have Hgy := Lib.hid (Int.ofNat_dvd_left.2 hgy);have Hya := Lib.hid (show (((-y).natAbs : Nat) : Int) = -y from Int.natAbs_of_nonneg (by omega));clear hge hg0 hgz hgy m1 m2 hy0 x0 x1 y0 y1
 go_upto_region 10 with (fail)
 refine at_world (fun V9 => Ext V2o V9 /\ Box V9 we.heap.size 25 #[.bool s4, .slice A4 n4 c4] /\ NI V9 (g : Int) (max L M) s4 A4 n4 c4) ⟨hxe.alloc _, Box.new we _ _, hg.ext ((Ext.refl we).alloc _)⟩ ?_;generalize we.heap.size = g8;clear hxe hg;rintro V9 ⟨EV, b8, hg⟩;replace bx := bx.ext EV;replace by_ := by_.ext EV;replace bz := bz.ext EV;replace h := h.ext EV;replace k := k.ext EV;replace extW := extW.trans EV;clear EV
 go_wp2_with fail
 refine wpL.st 7 (fun hQ ES => ?_);refine wpL.t 0 30 ?v_4 hQ ?y_4 ES ?_
 case y_4 => intro w' hSw;have k00 := (bx.ext hSw).c2;have k10 := (by_.ext hSw).c2;have k20 := (b8.ext hSw).c2;go_simp;try rfl
 try simp only [zP]
 refine wpL.t 1 31 ?v_5 hQ ?y_5 ES ?_
 case y_5 => intro w' hSw;have k00 := (bx.ext hSw).c2;have k10 := (by_.ext hSw).c2;have k20 := (b8.ext hSw).c2;go_simp;try rfl
 try simp only [zP]
 refine wpL.t 3 33 ?v_6 hQ ?y_6 ES ?_
 case y_6 => intro w' hSw;have k00 := (bx.ext hSw).c2;have k10 := (by_.ext hSw).c2;have k20 := (b8.ext hSw).c2;go_simp;try rfl
 try simp only [zP]
 refine wpL.t 4 34 ?v_7 hQ ?y_7 ES ?_
 case y_7 => intro w' hSw;have k00 := (bx.ext hSw).c2;have k10 := (by_.ext hSw).c2;have k20 := (b8.ext hSw).c2;go_simp;try rfl
 try simp only [zP]
 refine wpL.cl (i := 2) rfl (fun K hK => ?_);go_simp
 (go_at_call 103; refine (p_divide (h.ext ES) (hg.ext ES) (by omega) (by omega) Hg0.out Hgz.out).mono ?_; rintro e wk5 ⟨s5, A5, n5, c5, rfl, h5, hx0⟩; have E0_10 := Ext.trans ES hx0)
 refine hK.out _ _ E0_10 ?_;clear hK K
 try simp only [zP]
 refine wpL.cl (i := 5) rfl (fun K hK => ?_);go_simp
 (go_at_call 103; refine (p_divide (k.ext E0_10) (hg.ext E0_10) (by omega) (by omega) Hg0.out Hgy.out).mono ?_; rintro e wk6 ⟨s6, A6, n6, c6, rfl, h6, hx1⟩; have E1_10 := Ext.trans E0_10 hx1)
 refine hK.out _ _ E1_10 ?_;clear hK K
 try simp only [zP]
 refine wpL.t 6 36 ?v_8 hQ ?y_8 E1_10 ?_
 case y_8 => intro w' hSw;go_simp;try rfl
 try simp only [zP]
 have z0 := (bz.ext E1_10).cell 0 _ rfl;have z1 := (bz.ext E1_10).cell 1 _ rfl;have z2 := (bz.ext E1_10).cell 2 _ rfl;have z3 := (bz.ext E1_10).cell 3 _ rfl;have f0 := (bz.ext E1_10).frozen 0;have f1 := (bz.ext E1_10).frozen 1;have f2 := (bz.ext E1_10).frozen 2;have f3 := (bz.ext E1_10).frozen 3;refine wpL.tl (i := 7) rfl (fun K hK => ?_);go_simp;refine hK.out _ _ ?_;clear hK K
 try simp only [zP]
 refine wpL.tl (i := 8) rfl (fun K hK => ?_);go_simp;refine hK.out _ _ ?_;clear hK K
 try simp only [zP]
 refine wpL.done (by kernel_rfl) ?_ _;clear hQ
 go_wp2_with fail
 have hk1 : (-y) / (g : Int) = ((mkRat (-z) (-y).natAbs).den : Int) := by rw [Hm2.out, Int.natCast_ediv, Hya.out]
 rw [hk1] at h6;rw [<- Hm1.out] at h5;obtain ⟨b1, b2, b3, b4⟩ := fin_quad (s := s5) (A := A5) (n := n5) (c := c5) (t := s6) (B := A6) (m := n6) (d := c6) (bz.ext E1_10);have r0 := b1.cell 0 (.bool s5) rfl;have r1 := b1.cell 1 (.slice A5 n5 c5) rfl;have r2 := b1.cell 2 (.bool s6) rfl;have r3 := b1.cell 3 (.slice A6 n6 c6) rfl;unfold set4 at r0 r1 r2 r3;refine bodyPost_ret (v := .tuple #[.agg #[.bool s5, .slice A5 n5 c5, .bool s6, .slice A6 n6 c6], .int .i64 0]) (by simp [results, Tryz.results78, go_sem, r0, r1, r2, r3]) rfl ⟨s5, A5, n5, c5, s6, A6, n6, c6, rfl, ⟨(b2 _ _ _ _ _ _ (h5.ext hx1)).le (by omega), (b2 _ _ _ _ _ _ h6).le (by omega)⟩, b3 _ (extW.trans E1_10) (by omega)⟩
theorem p_Make_nz (h : NI w z L s A n c) (k : NI w y M t B m d) (hL : L <= 3000) (hM : M <= 3000) (hy : y ≠ 0) (hT : Tab w) : Calls Tryz.prog 78 #[.agg #[.bool s, .slice A n c], .agg #[.bool t, .slice B m d]] w (RetNRE (mkQ z y) (max L M) w) := by
 rcases Int.lt_trichotomy y 0 with h1 | h1 | h1
 ·exact p_Make_neg h k hL hM h1 hT
 ·exact absurd h1 hy
 ·exact p_Make_pos h k hL hM h1 hT
end
section
variable {w w' : World} {z y : Int} {q p : Rat} {L M : Nat} {s t s' t' : Bool} {A B A' B' : Option Addr} {n c m d n' c' m' d' : Nat} {xs ys xs' ys' : List Nat}
theorem q_Make_pos (h : NI w z L s A n c) (k : NI w y M t B m d) (hL : L <= 3000) (hM : M <= 3000) (hy : 0 < y) : Calls Tryz.prog 92 #[.agg #[.bool s, .slice A n c], .agg #[.bool t, .slice B m d]] w (RetNR (mkQ z y) (max L M) w) := by
 have hs : y.sign = 1 := Int.sign_eq_one_of_pos hy;have hq : mkQ z y = mkRat z y.natAbs := if_neg (by omega);rw [hq];clear hq
 go_enter Tryz.func92, Tryz.ntmps92
 go_upto_region 1 with (fail)
 obtain ⟨W, hW, extW, bx, by_, bz, hz⟩ := box3 w 25 25 27 #[.bool s, .slice A n c] #[.bool t, .slice B m d] #[Value.bool false, Value.slice none 0 0, Value.bool false, Value.slice none 0 0];rw [<- hW];clear hW;replace h := h.ext extW;replace k := k.ext extW;have x0 := bx.cell 0 (.bool s) rfl;have x1 := bx.cell 1 (.slice A n c) rfl;have y0 := by_.cell 0 (.bool t) rfl;have y1 := by_.cell 1 (.slice B m d) rfl
 go_wp2_with fail
 refine (q_GCD h k (by omega) (by omega)).mono ?_;rintro e we ⟨s4, A4, n4, c4, rfl, hg, hxe⟩;obtain ⟨g, hge⟩ : ∃ g, Nat.gcd z.natAbs y.natAbs = g := ⟨_, rfl⟩;rw [hge] at hg;have hgz : g ∣ z.natAbs := by rw [<- hge]; exact Nat.gcd_dvd_left _ _
 have hgy : g ∣ y.natAbs := by rw [<- hge]; exact Nat.gcd_dvd_right _ _
 have hg0 : (g : Int) ≠ 0 := by
  intro h0;have : g = 0 := by omega
  rw [this] at hgy;have := Nat.eq_zero_of_zero_dvd hgy;omega
 clear x0 x1 y0 y1
 go_upto_region 2 with (fail)
 refine at_world (fun V => Ext W V /\ Box V we.heap.size 25 #[.bool s4, .slice A4 n4 c4] /\ NI V (g : Int) (max L M) s4 A4 n4 c4) ⟨hxe.alloc _, Box.new we _ _, hg.ext ((Ext.refl we).alloc _)⟩ ?_;have hsz : W.heap.size <= we.heap.size := hxe.size;generalize we.heap.size = g8 at *;clear hxe hg;rintro V ⟨EV, b8, hg⟩;replace bx := bx.ext EV;replace by_ := by_.ext EV;replace bz := bz.ext EV;replace h := h.ext EV;replace k := k.ext EV;replace extW := extW.trans EV;clear EV;have y0 := by_.cell 0 (.bool t) rfl;have y1 := by_.cell 1 (.slice B m d) rfl
 go_wp2_with fail
 refine (q_Sign k (by omega)).mono ?_;rintro e V2 ⟨rfl, hxa⟩;replace bx := bx.ext hxa;replace by_ := by_.ext hxa;replace bz := bz.ext hxa;replace b8 := b8.ext hxa;replace h := h.ext hxa;replace k := k.ext hxa;replace hg := hg.ext hxa;replace extW := extW.trans hxa;clear hxa y0 y1;rw [hs];obtain ⟨m1, m2⟩ := mkRat_parts z (D := y.natAbs) (by omega);rw [hge] at m1 m2;have Hm1 := Lib.hid m1;have Hm2 := Lib.hid m2;have Hg0 := Lib.hid hg0;have Hgz := Lib.hid (Int.ofNat_dvd_left.2 hgz);have Hgy := Lib.hid (Int.ofNat_dvd_left.2 hgy);have Hya := Lib.hid (show ((y.natAbs : Nat) : Int) = y from Int.natAbs_of_nonneg (by omega));clear hge hg0 hgz hgy m1 m2 hs
 go_upto_region 4 with (fail)
 refine wpL.st 7 (fun hQ ES => ?_);refine wpL.t 0 14 ?v_0 hQ ?y_0 ES ?_
 case y_0 => intro w' hSw;have k00 := (bx.ext hSw).c2;have k10 := (by_.ext hSw).c2;have k20 := (b8.ext hSw).c2;go_simp;try rfl
 try simp only [zP]
 refine wpL.t 1 15 ?v_1 hQ ?y_1 ES ?_
 case y_1 => intro w' hSw;have k00 := (bx.ext hSw).c2;have k10 := (by_.ext hSw).c2;have k20 := (b8.ext hSw).c2;go_simp;try rfl
 try simp only [zP]
 refine wpL.t 3 17 ?v_2 hQ ?y_2 ES ?_
 case y_2 => intro w' hSw;have k00 := (bx.ext hSw).c2;have k10 := (by_.ext hSw).c2;have k20 := (b8.ext hSw).c2;go_simp;try rfl
 try simp only [zP]
 refine wpL.t 4 18 ?v_3 hQ ?y_3 ES ?_
 case y_3 => intro w' hSw;have k00 := (bx.ext hSw).c2;have k10 := (by_.ext hSw).c2;have k20 := (b8.ext hSw).c2;go_simp;try rfl
 try simp only [zP]
 refine wpL.cl (i := 2) rfl (fun K hK => ?_);go_simp
 (go_at_call 105; refine (q_quo (h.ext ES) (hg.ext ES) (by omega) (by omega) Hg0.out Hgz.out).mono ?_; rintro e wk5 ⟨s5, A5, n5, c5, rfl, h5, hx0⟩; have E0_4 := Ext.trans ES hx0)
 refine hK.out _ _ E0_4 ?_;clear hK K
 try simp only [zP]
 refine wpL.cl (i := 5) rfl (fun K hK => ?_);go_simp
 (go_at_call 105; refine (q_quo (k.ext E0_4) (hg.ext E0_4) (by omega) (by omega) Hg0.out Hgy.out).mono ?_; rintro e wk6 ⟨s6, A6, n6, c6, rfl, h6, hx1⟩; have E1_4 := Ext.trans E0_4 hx1)
 refine hK.out _ _ E1_4 ?_;clear hK K
 try simp only [zP]
 refine wpL.t 6 20 ?v_4 hQ ?y_4 E1_4 ?_
 case y_4 => intro w' hSw;go_simp;try rfl
 try simp only [zP]
 have z0 := (bz.ext E1_4).cell 0 _ rfl;have z1 := (bz.ext E1_4).cell 1 _ rfl;have z2 := (bz.ext E1_4).cell 2 _ rfl;have z3 := (bz.ext E1_4).cell 3 _ rfl;have f0 := (bz.ext E1_4).frozen 0;have f1 := (bz.ext E1_4).frozen 1;have f2 := (bz.ext E1_4).frozen 2;have f3 := (bz.ext E1_4).frozen 3;refine wpL.tl (i := 7) rfl (fun K hK => ?_);go_simp;refine hK.out _ _ ?_;clear hK K
 try simp only [zP]
 refine wpL.done (by kernel_rfl) ?_ _;clear hQ
 go_wp2_with fail
 have hk1 : y / (g : Int) = ((mkRat z y.natAbs).den : Int) := by rw [Hm2.out, Int.natCast_ediv, Hya.out]
 rw [hk1] at h6;rw [<- Hm1.out] at h5;obtain ⟨b1, b2, b3, b4⟩ := fin_quad (s := s5) (A := A5) (n := n5) (c := c5) (t := s6) (B := A6) (m := n6) (d := c6) (bz.ext E1_4);have r0 := b1.cell 0 (.bool s5) rfl;have r1 := b1.cell 1 (.slice A5 n5 c5) rfl;have r2 := b1.cell 2 (.bool s6) rfl;have r3 := b1.cell 3 (.slice A6 n6 c6) rfl;unfold set4 at r0 r1 r2 r3;refine bodyPost_ret (v := .agg #[.bool s5, .slice A5 n5 c5, .bool s6, .slice A6 n6 c6]) (by simp [results, Tryz.results92, go_sem, r0, r1, r2, r3]) rfl ⟨s5, A5, n5, c5, s6, A6, n6, c6, rfl, ⟨?_, ?_⟩, b3 _ (extW.trans E1_4) (by omega)⟩
 ·exact (b2 _ _ _ _ _ _ (h5.ext hx1)).le (by omega)
 ·exact (b2 _ _ _ _ _ _ h6).le (by omega)
theorem q_Make_neg (h : NI w z L s A n c) (k : NI w y M t B m d) (hL : L <= 3000) (hM : M <= 3000) (hy : y < 0) : Calls Tryz.prog 92 #[.agg #[.bool s, .slice A n c], .agg #[.bool t, .slice B m d]] w (RetNR (mkQ z y) (max L M) w) := by
 have hs : y.sign = -1 := Int.sign_eq_neg_one_of_neg hy;have hq : mkQ z y = mkRat (-z) (-y).natAbs := if_pos hy;rw [hq, Int.natAbs_neg];clear hq
 go_enter Tryz.func92, Tryz.ntmps92
 go_upto_region 1 with (fail)
 obtain ⟨W, hW, extW, bx, by_, bz, hz⟩ := box3 w 25 25 27 #[.bool s, .slice A n c] #[.bool t, .slice B m d] #[Value.bool false, Value.slice none 0 0, Value.bool false, Value.slice none 0 0];rw [<- hW];clear hW;replace h := h.ext extW;replace k := k.ext extW;have x0 := bx.cell 0 (.bool s) rfl;have x1 := bx.cell 1 (.slice A n c) rfl;have y0 := by_.cell 0 (.bool t) rfl;have y1 := by_.cell 1 (.slice B m d) rfl
 go_wp2_with fail
 refine (q_GCD h k (by omega) (by omega)).mono ?_;rintro e we ⟨s4, A4, n4, c4, rfl, hg, hxe⟩;obtain ⟨g, hge⟩ : ∃ g, Nat.gcd z.natAbs y.natAbs = g := ⟨_, rfl⟩;rw [hge] at hg;have hgz : g ∣ z.natAbs := by rw [<- hge]; exact Nat.gcd_dvd_left _ _
 have hgy : g ∣ y.natAbs := by rw [<- hge]; exact Nat.gcd_dvd_right _ _
 have hg0 : (g : Int) ≠ 0 := by
  intro h0;have : g = 0 := by omega
  rw [this] at hgy;have := Nat.eq_zero_of_zero_dvd hgy;omega
 clear x0 x1 y0 y1
 go_upto_region 2 with (fail)
 refine at_world (fun V => Ext W V /\ Box V we.heap.size 25 #[.bool s4, .slice A4 n4 c4] /\ NI V (g : Int) (max L M) s4 A4 n4 c4) ⟨hxe.alloc _, Box.new we _ _, hg.ext ((Ext.refl we).alloc _)⟩ ?_;have hsz : W.heap.size <= we.heap.size := hxe.size;generalize we.heap.size = g8 at *;clear hxe hg;rintro V ⟨EV, b8, hg⟩;replace bx := bx.ext EV;replace by_ := by_.ext EV;replace bz := bz.ext EV;replace h := h.ext EV;replace k := k.ext EV;replace extW := extW.trans EV;clear EV;have y0 := by_.cell 0 (.bool t) rfl;have y1 := by_.cell 1 (.slice B m d) rfl
 go_wp2_with fail
 refine (q_Sign k (by omega)).mono ?_;rintro e V2 ⟨rfl, hxa⟩;replace bx := bx.ext hxa;replace by_ := by_.ext hxa;replace bz := bz.ext hxa;replace b8 := b8.ext hxa;replace h := h.ext hxa;replace k := k.ext hxa;replace hg := hg.ext hxa;replace extW := extW.trans hxa;clear hxa y0 y1;rw [hs];obtain ⟨m1, m2⟩ := mkRat_parts (-z) (D := (-y).natAbs) (by omega);rw [Int.natAbs_neg, Int.natAbs_neg, hge] at m1 m2;have e1 : z / (-(g : Int)) = (-z) / (g : Int) := by rw [Int.ediv_neg, Int.neg_ediv_of_dvd (Int.ofNat_dvd_left.2 hgz)]
 have e2 : y / (-(g : Int)) = (-y) / (g : Int) := by rw [Int.ediv_neg, Int.neg_ediv_of_dvd (Int.ofNat_dvd_left.2 hgy)]
 have He1 := Lib.hid (show z / (-(g : Int)) = (mkRat (-z) y.natAbs).num by rw [e1, m1]);have He2 := Lib.hid (show y / (-(g : Int)) = ((mkRat (-z) y.natAbs).den : Int) by rw [e2, m2, Int.natCast_ediv]; congr 1; omega);have Hg0 := Lib.hid (show -(g : Int) ≠ 0 by omega);have Hgz := Lib.hid (Int.neg_dvd.2 (Int.ofNat_dvd_left.2 hgz));have Hgy := Lib.hid (Int.neg_dvd.2 (Int.ofNat_dvd_left.2 hgy));clear hge hg0 hgz hgy m1 m2 hs e1 e2;have x0 := b8.cell 0 (.bool s4) rfl;have x1 := b8.cell 1 (.slice A4 n4 c4) rfl
 go_wp2_with fail
 refine (q_Neg hg (by omega)).mono ?_;rintro e V3 ⟨s3, A3, n3, c3, rfl, hg2, hxb⟩;replace bx := bx.ext hxb;replace by_ := by_.ext hxb;replace bz := bz.ext hxb;replace b8 := b8.ext hxb;replace h := h.ext hxb;replace k := k.ext hxb;replace extW := extW.trans hxb;clear x0 x1 hg;have z0 := b8.cell 0 _ rfl;have z1 := b8.cell 1 _ rfl;have f0 := b8.frozen 0;have f1 := b8.frozen 1
 go_upto_region 4 with (fail)
 refine at_world (fun U => Ext w U /\ Box U w.heap.size 25 #[.bool s, .slice A n c] /\ Box U (w.heap.size + 1) 25 #[.bool t, .slice B m d] /\ Box U (w.heap.size + 1 + 1) 27 #[Value.bool false, Value.slice none 0 0, Value.bool false, Value.slice none 0 0] /\ Box U g8 25 #[.bool s3, .slice A3 n3 c3] /\ NI U z L s A n c /\ NI U y M t B m d /\ NI U (-(g : Int)) (max L M) s3 A3 n3 c3) ?_ ?_
 ·have q1 := fin_dual (s := s3) (A := A3) (n := n3) (c := c3) b8
  exact ⟨q1.2.2.1 _ extW (by omega), q1.2.2.2 _ _ _ (by omega) bx, q1.2.2.2 _ _ _ (by omega) by_, q1.2.2.2 _ _ _ (by omega) bz, q1.1, q1.2.1 _ _ _ _ _ _ h, q1.2.1 _ _ _ _ _ _ k, q1.2.1 _ _ _ _ _ _ hg2⟩
 clear extW bx by_ bz b8 h k hg2 z0 z1 f0 f1;rintro U ⟨extW, bx, by_, bz, b8, h, k, hg⟩;refine wpL.st 7 (fun hQ ES => ?_);refine wpL.t 0 14 ?v_0 hQ ?y_0 ES ?_
 case y_0 => intro w' hSw;have k00 := (bx.ext hSw).c2;have k10 := (by_.ext hSw).c2;have k20 := (b8.ext hSw).c2;go_simp;try rfl
 try simp only [zP]
 refine wpL.t 1 15 ?v_1 hQ ?y_1 ES ?_
 case y_1 => intro w' hSw;have k00 := (bx.ext hSw).c2;have k10 := (by_.ext hSw).c2;have k20 := (b8.ext hSw).c2;go_simp;try rfl
 try simp only [zP]
 refine wpL.t 3 17 ?v_2 hQ ?y_2 ES ?_
 case y_2 => intro w' hSw;have k00 := (bx.ext hSw).c2;have k10 := (by_.ext hSw).c2;have k20 := (b8.ext hSw).c2;go_simp;try rfl
 try simp only [zP]
 refine wpL.t 4 18 ?v_3 hQ ?y_3 ES ?_
 case y_3 => intro w' hSw;have k00 := (bx.ext hSw).c2;have k10 := (by_.ext hSw).c2;have k20 := (b8.ext hSw).c2;go_simp;try rfl
 try simp only [zP]
 refine wpL.cl (i := 2) rfl (fun K hK => ?_);go_simp
 (go_at_call 105; refine (q_quo (h.ext ES) (hg.ext ES) (by omega) (by omega) Hg0.out Hgz.out).mono ?_; rintro e wk5 ⟨s5, A5, n5, c5, rfl, h5, hx0⟩; have E0_4 := Ext.trans ES hx0)
 refine hK.out _ _ E0_4 ?_;clear hK K
 try simp only [zP]
 refine wpL.cl (i := 5) rfl (fun K hK => ?_);go_simp
 (go_at_call 105; refine (q_quo (k.ext E0_4) (hg.ext E0_4) (by omega) (by omega) Hg0.out Hgy.out).mono ?_; rintro e wk6 ⟨s6, A6, n6, c6, rfl, h6, hx1⟩; have E1_4 := Ext.trans E0_4 hx1)
 refine hK.out _ _ E1_4 ?_;clear hK K
 try simp only [zP]
 refine wpL.t 6 20 ?v_4 hQ ?y_4 E1_4 ?_
 case y_4 => intro w' hSw;go_simp;try rfl
 try simp only [zP]
 have z0 := (bz.ext E1_4).cell 0 _ rfl;have z1 := (bz.ext E1_4).cell 1 _ rfl;have z2 := (bz.ext E1_4).cell 2 _ rfl;have z3 := (bz.ext E1_4).cell 3 _ rfl;have f0 := (bz.ext E1_4).frozen 0;have f1 := (bz.ext E1_4).frozen 1;have f2 := (bz.ext E1_4).frozen 2;have f3 := (bz.ext E1_4).frozen 3;refine wpL.tl (i := 7) rfl (fun K hK => ?_);go_simp;refine hK.out _ _ ?_;clear hK K
 try simp only [zP]
 refine wpL.done (by kernel_rfl) ?_ _;clear hQ
 go_wp2_with fail
 rw [He2.out] at h6;rw [He1.out] at h5;obtain ⟨b1, b2, b3, b4⟩ := fin_quad (s := s5) (A := A5) (n := n5) (c := c5) (t := s6) (B := A6) (m := n6) (d := c6) (bz.ext E1_4);have r0 := b1.cell 0 (.bool s5) rfl;have r1 := b1.cell 1 (.slice A5 n5 c5) rfl;have r2 := b1.cell 2 (.bool s6) rfl;have r3 := b1.cell 3 (.slice A6 n6 c6) rfl;unfold set4 at r0 r1 r2 r3;refine bodyPost_ret (v := .agg #[.bool s5, .slice A5 n5 c5, .bool s6, .slice A6 n6 c6]) (by simp [results, Tryz.results92, go_sem, r0, r1, r2, r3]) rfl ⟨s5, A5, n5, c5, s6, A6, n6, c6, rfl, ⟨?_, ?_⟩, b3 _ (extW.trans E1_4) (by omega)⟩
 ·exact (b2 _ _ _ _ _ _ (h5.ext hx1)).le (by omega)
 ·exact (b2 _ _ _ _ _ _ h6).le (by omega)
theorem q_Make_nz (h : NI w z L s A n c) (k : NI w y M t B m d) (hL : L <= 3000) (hM : M <= 3000) (hy : y ≠ 0) : Calls Tryz.prog 92 #[.agg #[.bool s, .slice A n c], .agg #[.bool t, .slice B m d]] w (RetNR (mkQ z y) (max L M) w) := by
 rcases Int.lt_trichotomy y 0 with h1 | h1 | h1
 ·exact q_Make_neg h k hL hM h1
 ·exact absurd h1 hy
 ·exact q_Make_pos h k hL hM h1
theorem q_Frac (a b : Int) (ha : -9223372036854775808 <= a) (ha' : a < 9223372036854775808) (hb : -9223372036854775808 <= b) (hb' : b < 9223372036854775808) : Calls Tryz.prog 47 #[.int .i64 a, .int .i64 b] w (RetNR (mkQ a b) 2 w) := by
 by_cases h0 : b = 0
 ·have hq : ((0 : Int) : Rat) = mkQ a b := by rw [h0]; unfold mkQ; rw [if_neg (by omega)]; exact (Rat.mkRat_zero a).symm
  rw [<- hq];subst h0;clear hq
  go_enter Tryz.func47, Tryz.ntmps47
  go_upto_region 1 with (fail)
  obtain ⟨W, hW, extW, bz, hz⟩ := box1 w 27 #[Value.bool false, Value.slice none 0 0, Value.bool false, Value.slice none 0 0];rw [<- hW];clear hW
  go_wp2_with fail
  refine (q_FromIntR 0 (by omega) (by omega)).mono ?_;rintro e wd ⟨s3, A3, n3, c3, s4, A4, n4, c4, rfl, hr, hx3⟩;have z0 := (bz.ext hx3).cell 0 _ rfl;have z1 := (bz.ext hx3).cell 1 _ rfl;have z2 := (bz.ext hx3).cell 2 _ rfl;have z3 := (bz.ext hx3).cell 3 _ rfl;have f0 := (bz.ext hx3).frozen 0;have f1 := (bz.ext hx3).frozen 1;have f2 := (bz.ext hx3).frozen 2;have f3 := (bz.ext hx3).frozen 3
  go_wp2_with fail
  obtain ⟨b1, b2, b3, b4⟩ := fin_quad (s := s3) (A := A3) (n := n3) (c := c3) (t := s4) (B := A4) (m := n4) (d := c4) (bz.ext hx3);have r0 := b1.cell 0 (.bool s3) rfl;have r1 := b1.cell 1 (.slice A3 n3 c3) rfl;have r2 := b1.cell 2 (.bool s4) rfl;have r3 := b1.cell 3 (.slice A4 n4 c4) rfl;unfold set4 at r0 r1 r2 r3;refine bodyPost_ret (v := .agg #[.bool s3, .slice A3 n3 c3, .bool s4, .slice A4 n4 c4]) (by simp [results, Tryz.results47, go_sem, r0, r1, r2, r3]) rfl ⟨s3, A3, n3, c3, s4, A4, n4, c4, rfl, ⟨?_, ?_⟩, b3 _ (extW.trans hx3) (by omega)⟩
  ·exact b2 _ _ _ _ _ _ hr.num
  ·exact b2 _ _ _ _ _ _ hr.den
 ·have hb0 : (b == 0) = false := beq_eq_false_iff_ne.2 h0
  go_enter Tryz.func47, Tryz.ntmps47
  go_upto_region 1 with (fail)
  obtain ⟨W, hW, extW, bz, hz⟩ := box1 w 27 #[Value.bool false, Value.slice none 0 0, Value.bool false, Value.slice none 0 0];rw [<- hW];clear hW
  go_wp2_with fail
  refine (q_FromInt a ha ha').mono ?_;rintro e wa ⟨s1, A1, n1, c1, rfl, h1, hx0⟩
  go_wp2_with fail
  refine (q_FromInt b hb hb').mono ?_;rintro e wb ⟨s2, A2, n2, c2, rfl, h2, hx1⟩
  go_wp2_with fail
  refine (q_Make_nz (h1.ext hx1) h2 (by omega) (by omega) h0).mono ?_;rintro e wc ⟨s3, A3, n3, c3, s4, A4, n4, c4, rfl, hr, hx2⟩;have hE := hx0.trans (hx1.trans hx2);have z0 := (bz.ext hE).cell 0 _ rfl;have z1 := (bz.ext hE).cell 1 _ rfl;have z2 := (bz.ext hE).cell 2 _ rfl;have z3 := (bz.ext hE).cell 3 _ rfl;have f0 := (bz.ext hE).frozen 0;have f1 := (bz.ext hE).frozen 1;have f2 := (bz.ext hE).frozen 2;have f3 := (bz.ext hE).frozen 3
  go_wp2_with fail
  obtain ⟨b1, b2, b3, b4⟩ := fin_quad (s := s3) (A := A3) (n := n3) (c := c3) (t := s4) (B := A4) (m := n4) (d := c4) (bz.ext hE);have r0 := b1.cell 0 (.bool s3) rfl;have r1 := b1.cell 1 (.slice A3 n3 c3) rfl;have r2 := b1.cell 2 (.bool s4) rfl;have r3 := b1.cell 3 (.slice A4 n4 c4) rfl;unfold set4 at r0 r1 r2 r3;refine bodyPost_ret (v := .agg #[.bool s3, .slice A3 n3 c3, .bool s4, .slice A4 n4 c4]) (by simp [results, Tryz.results47, go_sem, r0, r1, r2, r3]) rfl ⟨s3, A3, n3, c3, s4, A4, n4, c4, rfl, ⟨?_, ?_⟩, b3 _ (extW.trans hE) (by omega)⟩
  ·exact b2 _ _ _ _ _ _ hr.num
  ·exact b2 _ _ _ _ _ _ hr.den
end
end
section
open Go.RowKit
def dv (l : List UInt8) : Nat := l.foldl (fun a c => 10 * a + (c.toNat - 48)) 0
def Dig (c : UInt8) : Prop := 48 <= c.toNat /\ c.toNat <= 57
def Digs (l : List UInt8) : Prop := ∀ c ∈ l, Dig c
theorem Digs.left {l m : List UInt8} (h : Digs (l ++ m)) : Digs l := fun c hc => h c (List.mem_append.2 (.inl hc))
theorem Digs.right {l m : List UInt8} (h : Digs (l ++ m)) : Digs m := fun c hc => h c (List.mem_append.2 (.inr hc))
def Bd (b : UInt8) : Value := .int .u8 (b.toNat : Int)
def BlkB (w : World) (g : Nat) (bs : List UInt8) : Prop := w.heap[g]? = some (.cells (bs.map Bd).toArray 5 (0, 0))
section
variable {w w' : World} {g g' : Nat} {bs : List UInt8}
theorem BlkB.lt (h : BlkB w g bs) : g < w.heap.size := by
 rcases Nat.lt_or_ge g w.heap.size with hlt | hge
 ·exact hlt
 ·unfold BlkB at h; rw [Array.getElem?_eq_none hge] at h; cases h
theorem BlkB.cell (h : BlkB w g bs) {i : Nat} (hi : i < bs.length) : w.cell? ⟨g, i, none⟩ = some (.int .u8 (bs[i].toNat : Int)) := by
 rw [cell_of_row w g i _ _ (0, 0) h];simp [hi, Bd]
theorem BlkB.frozen (h : BlkB w g bs) (i : Nat) : w.frozen? ⟨g, i, none⟩ = false := by
 unfold BlkB at h;simp [World.frozen?, h]
theorem BlkB.ext (h : BlkB w g bs) (e : Ext w w') : BlkB w' g bs := by
 have hb : Below w.heap.size w w' := e;exact (hb.block g h.lt).trans h
theorem BlkB.mod (h : BlkB w g bs) (e : Mod w w' g') (hn : g ≠ g') : BlkB w' g bs := (e.block g h.lt (fun e => hn (by injection e))).trans h
theorem BlkB.set (h : BlkB w g bs) (i : Nat) {v : Int} {b : UInt8} (hv : v = (b.toNat : Int)) : BlkB (w.setCell ⟨g, i, none⟩ (.int .u8 v)) g (bs.set i b) := by
 subst hv;unfold BlkB at h ⊢;simp [World.setCell, Array.getElem?_modify, h, Bd]
theorem BlkB.new (w : World) (n : Nat) : BlkB (w.alloc (.cells (madeCells #[.int .u8 0] n) 5)) w.heap.size (List.replicate n 0) := by
 unfold BlkB;rw [heap_alloc_new w _]
 congr 2
 apply Array.toList_inj.1
 rw [toList_madeCells_one];simp [Bd]
end
theorem owns_ext {w w' : World} {base : Nat} {e : TypeId} {size : Nat} {v : Value} {n : Nat} {xs : List Value} (h : w.ownsRow base e size v n xs) (k : Ext w w') : w'.ownsRow base e size v n xs := by
 refine ⟨h.1, h.2.imp id ?_⟩;rintro ⟨g, cap, cur, hv, hb, hh, h1⟩;have hb' : Below w.heap.size w w' := k
 have hlt : g < w.heap.size := by
  rcases Nat.lt_or_ge g w.heap.size with hlt | hge
  ·exact hlt
  ·rw [Array.getElem?_eq_none hge] at hh; cases hh
 exact ⟨g, cap, cur, hv, hb, (hb'.block g hlt).trans hh, h1⟩
theorem owns_nil (w : World) (base : Nat) (e : TypeId) (size : Nat) : w.ownsRow base e size (.slice none 0 0) 0 [] := ⟨by simp, .inl ⟨rfl, rfl⟩⟩
theorem owns_block {w : World} {base : Nat} {e : TypeId} {size : Nat} {v : Value} {n : Nat} {xs : List Value} (h : w.ownsRow base e size v n xs) : ∀ k, v.ownBlock = some k -> base <= k := by
 intro k hk
 rcases h.2 with ⟨rfl, _⟩ | ⟨g, cap, cur, rfl, hb, _⟩
 ·cases hk
 ·injection hk with hk
  subst hk;exact hb
theorem info_partsB {P : Program} {e : TypeId} {z : Value} {a b : Nat} (h : (P.info? e).map (fun i => (i.zero, i.size, i.bytes)) = some (some z, a, b)) : ∃ i, P.info? e = some i /\ i.zero = some z /\ i.size = a /\ i.bytes = b := by
 cases hi : P.info? e with
 | none => rw [hi] at h; cases h
 | some i =>
  rw [hi] at h;simp only [Option.map_some, Option.some.injEq, Prod.mk.injEq] at h;exact ⟨i, rfl, h.1, h.2.1, h.2.2⟩
section
variable {A : Option Addr} {c n : Nat} {xs : List Nat} {w : World}
end
end
section
open Go.RowKit Go.Sort Go.Lib
abbrev TabP (w : World) : Prop := Lib.TabIs Tryz.prog w "internal/strconv.uint64pow10" .u64 Lib.pow10Tab
section
variable {w : World}
end
end
section
open Go.RowKit
attribute [local go_sem ↓] Go.wp_at_zero Go.wp_at_succ
theorem TabP.ext {w w' : World} (h : TabP w) (e : Ext w w') : TabP w' := by
 unfold TabP Lib.TabIs World.var? at *
 cases hg : Tryz.prog.globalNamed "internal/strconv.uint64pow10" with
 | none => simp [hg] at h
 | some g =>
  simp only [hg, Option.bind_some] at h ⊢
  have hlt : g < w.heap.size := by
   rcases Nat.lt_or_ge g w.heap.size with h' | h'
   ·exact h'
   ·rw [Array.getElem?_eq_none h'] at h; simp at h
  have hb : Below w.heap.size w w' := e;rw [hb.block g hlt];exact h
section
variable {A : Option Addr} {c n : Nat} {xs : List Nat} {w : World} {s : Bool}
end
section
variable {w w' : World} {q p r : Rat} {L : Nat} {s t s' t' u u' : Bool} {A B A' B' C D : Option Addr} {n c m d n' c' m' d' l e0 l' e' : Nat} {xs ys xs' ys' zs zs' : List Nat}
variable {z y : Int} {M : Nat}
theorem p_Div_nz (h : NR w q L s A n c t B m d) (k : NR w p M s' A' n' c' t' B' m' d') (hL : L <= 1000) (hM : M <= 1000) (h64 : min L M < 64) (hT : Tab w) (hp : p ≠ 0) : Calls Tryz.prog 86 #[.agg #[.bool s, .slice A n c, .bool t, .slice B m d], .agg #[.bool s', .slice A' n' c', .bool t', .slice B' m' d']] w (RetNRE (q / p) (L + M) w) := by
 rcases Int.lt_trichotomy p.num 0 with h1 | h1 | h1
 ·exact p_Div_neg h k hL hM h64 hT h1
 ·exact absurd (Rat.num_eq_zero.1 h1) hp
 ·exact p_Div_pos h k hL hM h64 hT h1
end
theorem ratCmp_sub (q p : Rat) : (q - p).num.sign = ratCmp q p := by
 unfold ratCmp;rw [Rat.sub_def'];obtain ⟨h1, _⟩ := mkRat_parts (q.num * p.den - p.num * q.den) (D := q.den * p.den) (Nat.mul_ne_zero q.den_nz p.den_nz);rw [h1];generalize hN : q.num * (p.den : Int) - p.num * (q.den : Int) = N;have hg0 : 0 < Nat.gcd N.natAbs (q.den * p.den) := Nat.gcd_pos_of_pos_right _ (Nat.mul_pos q.den_pos p.den_pos);obtain ⟨c, hc⟩ : (Nat.gcd N.natAbs (q.den * p.den) : Int) ∣ N := Int.ofNat_dvd_left.2 (Nat.gcd_dvd_left _ _);generalize Nat.gcd N.natAbs (q.den * p.den) = g at *;rw [hc, Int.mul_ediv_cancel_left _ (by omega), Int.sign_mul, Int.sign_eq_one_of_pos (show (0 : Int) < (g : Int) by omega), Int.one_mul]
end
section
theorem sign_lt0 {z : Int} : z.sign < 0 ↔ z < 0 := by
 rcases Int.lt_trichotomy z 0 with h | h | h
 ·rw [Int.sign_eq_neg_one_of_neg h]; omega
 ·rw [h]; decide
 ·rw [Int.sign_eq_one_of_pos h]; omega
theorem sign_gt0 {z : Int} : 0 < z.sign ↔ 0 < z := by
 rcases Int.lt_trichotomy z 0 with h | h | h
 ·rw [Int.sign_eq_neg_one_of_neg h]; omega
 ·rw [h]; decide
 ·rw [Int.sign_eq_one_of_pos h]; omega
theorem rnum_neg {q : Rat} : q.num < 0 ↔ q < 0 := by
 rw [<- Int.not_le, Rat.num_nonneg, Rat.not_le]
theorem rnum_pos {q : Rat} : 0 < q.num ↔ 0 < q := by
 have h1 : 0 <= q.num ↔ 0 <= q := Rat.num_nonneg;have h2 : q.num = 0 ↔ q = 0 := Rat.num_eq_zero
 constructor
 ·intro h
  have h3 : 0 <= q := h1.1 (by omega);have h4 : ¬ q = 0 := fun e => by have := h2.2 e; omega
  grind
 ·intro h
  have h3 : 0 <= q.num := h1.2 (by grind);have h4 : ¬ q.num = 0 := fun e => by have := h2.1 e; grind
  omega
theorem sub_neg_iff {q p : Rat} : q - p < 0 ↔ q < p := by
 constructor <;> intro h <;> grind
theorem sub_pos_iff {q p : Rat} : 0 < q - p ↔ p < q := by
 constructor <;> intro h <;> grind
theorem ratCmp_lt {q p : Rat} : ratCmp q p < 0 ↔ q < p := by
 rw [<- ratCmp_sub, sign_lt0, rnum_neg, sub_neg_iff]
theorem ratCmp_gt {q p : Rat} : 0 < ratCmp q p ↔ p < q := by
 rw [<- ratCmp_sub, sign_gt0, rnum_pos, sub_pos_iff]
theorem ratCmp_le {q p : Rat} : ratCmp q p <= 0 ↔ q <= p := by
 rw [<- Int.not_lt, ratCmp_gt, Rat.not_lt]
theorem ratCmp_eq {q p : Rat} : ratCmp q p = 0 ↔ q = p := by
 constructor
 ·intro h
  have h1 : q <= p := ratCmp_le.1 (by omega);have h2 : ¬ q < p := fun h2 => by have := ratCmp_lt.2 h2; omega
  exact Rat.le_antisymm h1 (Rat.not_lt.1 h2)
 ·rintro rfl
  have h1 : ¬ q < q := fun h => by grind
  have h2 := mt ratCmp_lt.1 h1;have h3 := mt ratCmp_gt.1 h1;omega
def IsHull (lo hi : Rat) (qs : List Rat) : Prop := lo ∈ qs /\ hi ∈ qs /\ ∀ q ∈ qs, lo <= q /\ q <= hi
theorem IsHull.one (q : Rat) : IsHull q q [q] := ⟨List.mem_singleton.2 rfl, List.mem_singleton.2 rfl, fun x hx => by rw [List.mem_singleton.1 hx]; exact ⟨Rat.le_refl, Rat.le_refl⟩⟩
theorem IsHull.snoc {lo hi x : Rat} {qs : List Rat} (h : IsHull lo hi qs) : IsHull (if x < lo then x else lo) (if hi < x then x else hi) (qs ++ [x]) := by
 obtain ⟨h1, h2, h3⟩ := h;have hm : x ∈ qs ++ [x] := List.mem_append.2 (.inr (List.mem_singleton.2 rfl));have hl : ∀ {y}, y ∈ qs -> y ∈ qs ++ [x] := fun h => List.mem_append.2 (.inl h)
 refine ⟨by split; exact hm; exact hl h1, by split; exact hm; exact hl h2, fun q hq => ?_⟩;have hlh : lo <= hi := (h3 lo h1).2
 rcases List.mem_append.1 hq with hq | hq
 ·obtain ⟨g1, g2⟩ := h3 q hq
  constructor
  ·split <;> grind
  ·split <;> grind
 ·rw [List.mem_singleton.1 hq]
  constructor
  ·split <;> grind
  ·split <;> grind
end
section
open Go.RowKit
structure IV (w : World) (lo hi : Rat) (L : Nat) (s : Bool) (A : Option Addr) (n c : Nat) (t : Bool) (B : Option Addr) (m d : Nat) (s' : Bool) (A' : Option Addr) (n' c' : Nat) (t' : Bool) (B' : Option Addr) (m' d' : Nat) : Prop where
 low : NR w lo L s A n c t B m d
 high : NR w hi L s' A' n' c' t' B' m' d'
def RatAt (w : World) (b o : Nat) (q : Rat) (L : Nat) : Prop :=
 ∃ s A n c t B m d, w.cell? ⟨b, o, none⟩ = some (.bool s) /\ w.cell? ⟨b, o + 1, none⟩ = some (.slice A n c) /\ w.cell? ⟨b, o + 2, none⟩ = some (.bool t) /\ w.cell? ⟨b, o + 3, none⟩ = some (.slice B m d) /\ NR w q L s A n c t B m d
structure RatsAt (w : World) (b o : Nat) (qs : List Rat) (L : Nat) : Prop where
 at_ : ∀ i (h : i < qs.length), RatAt w b (o + 4 * i) qs[i] L
inductive CellsOf (w : World) (L : Nat) : List Rat -> List Value -> Prop
 | nil : CellsOf w L [] []
 | cons {q : Rat} {qs : List Rat} {s : Bool} {A : Option Addr} {n c : Nat} {t : Bool} {B : Option Addr} {m d : Nat} {cs : List Value} : NR w q L s A n c t B m d -> CellsOf w L qs cs -> CellsOf w L (q :: qs) (.bool s :: .slice A n c :: .bool t :: .slice B m d :: cs)
section
variable {w w' : World} {q lo hi : Rat} {L M : Nat} {s t s' t' : Bool} {A B A' B' : Option Addr} {n c m d n' c' m' d' b o : Nat} {qs ps : List Rat} {cs ds : List Value}
theorem IV.ext (h : IV w lo hi L s A n c t B m d s' A' n' c' t' B' m' d') (e : Ext w w') : IV w' lo hi L s A n c t B m d s' A' n' c' t' B' m' d' := ⟨h.low.ext e, h.high.ext e⟩
theorem IV.le (h : IV w lo hi L s A n c t B m d s' A' n' c' t' B' m' d') (hl : L <= M) : IV w lo hi M s A n c t B m d s' A' n' c' t' B' m' d' := ⟨h.low.le hl, h.high.le hl⟩
theorem RatAt.ext (h : RatAt w b o q L) (e : Ext w w') : RatAt w' b o q L := by
 obtain ⟨s, A, n, c, t, B, m, d, h0, h1, h2, h3, h4⟩ := h;exact ⟨s, A, n, c, t, B, m, d, e.cellv h0, e.cellv h1, e.cellv h2, e.cellv h3, h4.ext e⟩
theorem RatsAt.ext (h : RatsAt w b o qs L) (e : Ext w w') : RatsAt w' b o qs L := ⟨fun i hi => (h.at_ i hi).ext e⟩
theorem CellsOf.ext (h : CellsOf w L qs cs) (e : Ext w w') : CellsOf w' L qs cs := by
 induction h with
 | nil => exact .nil
 | cons h _ ih => exact .cons (h.ext e) ih
theorem CellsOf.len (h : CellsOf w L qs cs) : cs.length = qs.length * 4 := by
 induction h with
 | nil => rfl
 | cons _ _ ih => simp only [List.length_cons, ih]; omega
theorem CellsOf.append (h : CellsOf w L qs cs) (k : CellsOf w L ps ds) : CellsOf w L (qs ++ ps) (cs ++ ds) := by
 induction h with
 | nil => exact k
 | cons h _ ih => exact .cons h ih
theorem CellsOf.le (h : CellsOf w L qs cs) (hl : L <= M) : CellsOf w M qs cs := by
 induction h with
 | nil => exact .nil
 | cons h _ ih => exact .cons (h.le hl) ih
theorem CellsOf.get (h : CellsOf w L qs cs) : ∀ i (hi : i < qs.length), ∃ s A n c t B m d, cs[4 * i]? = some (.bool s) /\ cs[4 * i + 1]? = some (.slice A n c) /\ cs[4 * i + 2]? = some (.bool t) /\ cs[4 * i + 3]? = some (.slice B m d) /\ NR w qs[i] L s A n c t B m d := by
 induction h with
 | nil => intro i hi; simp at hi
 | @cons q qs s A n c t B m d cs h _ ih =>
  intro i hi
  cases i with
  | zero => exact ⟨s, A, n, c, t, B, m, d, rfl, rfl, rfl, rfl, h⟩
  | succ i =>
   obtain ⟨s1, A1, n1, c1, t1, B1, m1, d1, k0, k1, k2, k3, k4⟩ := ih i (by simpa using hi);refine ⟨s1, A1, n1, c1, t1, B1, m1, d1, ?_, ?_, ?_, ?_, k4⟩
   ·rw [show 4 * (i + 1) = 4 * i + 1 + 1 + 1 + 1 by omega]; exact k0
   ·rw [show 4 * (i + 1) + 1 = 4 * i + 1 + 1 + 1 + 1 + 1 by omega]; exact k1
   ·rw [show 4 * (i + 1) + 2 = 4 * i + 2 + 1 + 1 + 1 + 1 by omega]; exact k2
   ·rw [show 4 * (i + 1) + 3 = 4 * i + 3 + 1 + 1 + 1 + 1 by omega]; exact k3
theorem CellsOf.one (h : CellsOf w L qs cs) : ∀ u ∈ cs, u.oneCell' = true := by
 induction h with
 | nil => intro u hu; cases hu
 | cons _ _ ih =>
  intro u hu;simp only [List.mem_cons] at hu
  rcases hu with rfl | rfl | rfl | rfl | hu
  ·rfl
  ·rfl
  ·rfl
  ·rfl
  ·exact ih u hu
theorem RatsAt.of_box {g : Nat} {T : TypeId} (hb : Box w g T cs.toArray) (h : CellsOf w L qs cs) : RatsAt w g 0 qs L := by
 refine ⟨fun i hi => ?_⟩;obtain ⟨s, A, n, c, t, B, m, d, k0, k1, k2, k3, k4⟩ := h.get i hi;rw [Nat.zero_add];exact ⟨s, A, n, c, t, B, m, d, hb.cell (4 * i) _ (by simpa using k0), hb.cell (4 * i + 1) _ (by simpa using k1), hb.cell (4 * i + 2) _ (by simpa using k2), hb.cell (4 * i + 3) _ (by simpa using k3), k4⟩
def RatsOwn (w : World) (base : Nat) (v : Value) (qs : List Rat) (L : Nat) : Prop := ∃ cs, w.ownsRow base 27 4 v qs.length cs /\ CellsOf w L qs cs
theorem RatsOwn.rd {base g cap k : Nat} (h : RatsOwn w base (.slice (some ⟨g, 0, none⟩) k cap) qs L) : RatsAt w g 0 qs L := by
 obtain ⟨cs, ⟨hl, h1⟩, h2⟩ := h
 rcases h1 with ⟨h1, _⟩ | ⟨g', cap', cur, h1, _, hg, hn, _, hsz, htk⟩
 ·cases h1
 ·injection h1 with h1
  injection h1 with h1
  injection h1 with h1
  subst h1
  have hcell : ∀ j u, cs[j]? = some u -> w.cell? ⟨g, j, none⟩ = some u := by
   intro j u hu
   have hj : j < cs.length := by
    rcases Nat.lt_or_ge j cs.length with h | h
    ·exact h
    ·rw [List.getElem?_eq_none h] at hu; cases hu
   rw [<- htk, List.getElem?_take, if_pos (by rw [<- hl]; exact hj)] at hu;rw [cell_of_row w g j _ _ (0, 0) hg]
   simpa using hu
  refine ⟨fun i hi => ?_⟩;obtain ⟨s, A, n, c, t, B, m, d, k0, k1, k2, k3, k4⟩ := h2.get i hi;rw [Nat.zero_add];exact ⟨s, A, n, c, t, B, m, d, hcell _ _ k0, hcell _ _ k1, hcell _ _ k2, hcell _ _ k3, k4⟩
end
end
section
open Go.RowKit
attribute [local go_sem ↓] Go.wp_at_zero Go.wp_at_succ
theorem NoWord.oct {a b a' b' : Bool} {A B A' B' : Option Addr} {n c m d n' c' m' d' : Nat} : NoWord #[.bool a, .slice A n c, .bool b, .slice B m d, .bool a', .slice A' n' c', .bool b', .slice B' m' d'] := by
 intro i k h
 match i with
 | 0 => simp at h
 | 1 => simp at h
 | 2 => simp at h
 | 3 => simp at h
 | 4 => simp at h
 | 5 => simp at h
 | 6 => simp at h
 | 7 => simp at h
 | i + 8 => simp at h
def Oct (cs : Array Value) : Prop := cs.size = 8 /\ NoWord cs
theorem Oct.set {cs : Array Value} (h : Oct cs) (i : Nat) {v : Value} (hv : ∀ k, v ≠ .int .u32 k) : Oct (cs.setIfInBounds i v) := by
 refine ⟨by simp [h.1], fun j k hj => ?_⟩;rw [Array.getElem?_setIfInBounds] at hj
 split at hj
 ·split at hj
  ·injection hj with hj; exact hv k hj
  ·cases hj
 ·exact h.2 j k hj
structure FinOK (w2 w3 : World) (g : Nat) (T : TypeId) (cs : Array Value) : Prop where
 box : Box w3 g T cs
 oct : Oct cs
 ni : ∀ z L s' A' n' c', NI w2 z L s' A' n' c' -> NI w3 z L s' A' n' c'
 ext : ∀ W, Ext W w2 -> W.heap.size <= g -> Ext W w3
 far : ∀ g' T' cs', g' ≠ g -> Box w2 g' T' cs' -> Box w3 g' T' cs'
theorem FinOK.refl {w2 : World} {g : Nat} {T : TypeId} {u0 u1 u2 u3 u4 u5 u6 u7 : Value} (hb : Box w2 g T #[u0, u1, u2, u3, u4, u5, u6, u7]) (hn : NoWord #[u0, u1, u2, u3, u4, u5, u6, u7]) : FinOK w2 w2 g T #[u0, u1, u2, u3, u4, u5, u6, u7] :=
 ⟨hb, ⟨rfl, hn⟩, fun _ _ _ _ _ _ h => h, fun _ h _ => h, fun _ _ _ _ h => h⟩
theorem FinOK.step {w2 w3 : World} {g : Nat} {T : TypeId} {cs : Array Value} (h : FinOK w2 w3 g T cs) (i : Nat) {v : Value} (hv : ∀ k, v ≠ .int .u32 k) : FinOK w2 (w3.setCell ⟨g, i, none⟩ v) g T (cs.setIfInBounds i v) :=
 ⟨h.box.set i v, h.oct.set i hv, fun _ _ _ _ _ _ k => (h.ni _ _ _ _ _ _ k).set h.box h.oct.2 i v, fun _ e hg => (h.ext _ e hg).setCell hg _, fun _ _ _ hg k => (h.far _ _ _ hg k).far hg _⟩
section
variable {w w' : World} {q p lo hi : Rat} {L M : Nat} {s t s' t' : Bool} {A B A' B' : Option Addr} {n c m d n' c' m' d' : Nat} {qs : List Rat}
end
end
section
open Go.RowKit
def NWL (l : List Value) : Prop := ∀ u ∈ l, ∀ k, u ≠ .int .u32 k
theorem NWL.arr {l : List Value} (h : NWL l) : NoWord l.toArray := by
 intro i k hk;exact h _ (List.mem_of_getElem? (by simpa using hk)) k rfl
theorem NWL.of {cs : Array Value} (h : NoWord cs) : NWL cs.toList := by
 intro u hu k e;obtain ⟨i, hi⟩ := List.mem_iff_getElem?.1 hu;exact h i k (by rw [<- e, <- hi]; simp)
theorem NWL.append {l l' : List Value} (h : NWL l) (h' : NWL l') : NWL (l ++ l') := by
 intro u hu
 rcases List.mem_append.1 hu with hu | hu
 ·exact h u hu
 ·exact h' u hu
theorem NWL.take {l : List Value} (h : NWL l) (n : Nat) : NWL (l.take n) := fun u hu => h u (List.mem_of_mem_take hu)
theorem NWL.drop {l : List Value} (h : NWL l) (n : Nat) : NWL (l.drop n) := fun u hu => h u (List.mem_of_mem_drop hu)
theorem NWL.zero {z : Array Value} (h : NWL z.toList) (n : Nat) : NWL (Builtin.zeroCells z n).toList := by
 intro u hu k e;simp only [Builtin.zeroCells, Array.mem_toList_iff, Array.mem_map, Array.mem_range] at hu;obtain ⟨i, hi, rfl⟩ := hu
 have hz : 0 < z.size := by
  rcases Nat.eq_zero_or_pos z.size with h0 | h0
  ·rw [h0] at hi; omega
  ·exact h0
 have hm : i % z.size < z.size := Nat.mod_lt _ hz;rw [getElem!_pos z _ hm] at e;exact h _ (by simp) k e
theorem NWL.arr' {cs : Array Value} (h : NWL cs.toList) : NoWord cs := h.arr
def NWB (w : World) (v : Value) : Prop := ∀ g, v.ownBlock = some g -> ∃ cur e fz, w.heap[g]? = some (.cells cur e fz) /\ NoWord cur
section
variable {P : Program} {w : World}
theorem run_append_nw {base : Nat} {t ty e : TypeId} {i : TypeInfo} {z : Value} {bytes : Nat} (ht : P.underlying t = some (.slice e)) (hi : P.info? e = some i) (hz : i.zero = some z)
  (hby : i.bytes = bytes) (hzs : z.cells.size = i.size) (hsz : 0 < i.size) (hzw : NWL z.cells.toList)
  {v : Value} {n : Nat} {xs : List Value} (hown : w.ownsRow base e i.size v n xs) (hv : NWB w v)
  {a : Addr} {m c : Nat} {news : List Value} (hl : news.length = m * i.size) (hnews : ∀ j u, news[j]? = some u -> w.cell? (a.add j) = some u) (h1 : ∀ u ∈ news, u.oneCell' = true) (hnw : NWL news) (hm : 0 < m)
  (h63 : n + m <= maxLen) (hbytes : (n + m) * bytes <= 140737488355328) (hbase : base <= w.heap.size) :
  ∃ v' w', (Builtin.append_ #[t, t] ty #[v, .slice (some a) m c]).run P w = .ok v' w' /\ w'.ownsRow base e i.size v' (n + m) (xs ++ news) /\ w.grownBy w' v.ownBlock /\
   (v'.ownBlock = v.ownBlock \/ v'.ownBlock = some w.heap.size) /\ NWB w' v' := by
 obtain ⟨v', w', hr, h2, h3, _, h5⟩ := run_append_own_at (P := P) w base t ty e i z i.size bytes ht hi hz rfl hby hzs hsz v n xs hown a m c news hl hnews h1 h63 hbytes hbase;refine ⟨v', w', hr, h2, h3, h5, ?_⟩;subst hby;have hsmall : n + m <= 9223372036854775807 := by simp only [maxLen] at h63; omega
 rcases hown.2 with ⟨rfl, rfl⟩ | ⟨g, cap, cur, rfl, hbg, hg, hnc, hcm, hcs, htake⟩
 ·have hr2 := run_append_nil (P := P) w t ty e i z ht hi hz a m c news hl hnews hm (by omega) (by have hb := hbytes; simp only [Nat.zero_add] at hb; omega)
  rw [hr] at hr2
  injection hr2 with e1 e2
  subst e1 e2;intro g hg
  injection hg with hg
  subst hg;refine ⟨_, _, _, heap_alloc_new w.drew _, ?_⟩;refine NWL.arr' ?_;rw [Array.toList_append];exact hnw.append (hzw.zero _)
 ·obtain ⟨cur', e', fz, hg', hcw⟩ := hv g rfl
  rw [hg] at hg'
  injection hg' with hg'
  injection hg' with q1 q2 q3
  subst q1;have hc := NWL.of hcw
  by_cases hroom : n + m <= cap
  ·have hfit : n * i.size + news.length <= cur.size := by rw [hl, hcs, <- Nat.add_mul]; exact Nat.mul_le_mul_right _ hroom
   have hr2 := run_append_room (P := P) w t ty e i ht hi g n cap cur hg a m c news hl hnews h1 hroom hfit;rw [hr] at hr2
   injection hr2 with e1 e2
   subst e1 e2;intro g' hg'
   injection hg' with hg'
   subst hg';exact ⟨_, _, _, setRow_heap w g cur _ e _ hg, (((hc.take _).append hnw).append (hc.drop _)).arr⟩
  ·have holds : ∀ j u, xs[j]? = some u -> w.cell? ((⟨g, 0, none⟩ : Addr).add j) = some u := hown.cells (g := g) rfl
   have hr2 := run_append_grow (P := P) w t ty e i z ht hi hz ⟨g, 0, none⟩ n cap xs hown.1 holds a m c news hl hnews (by omega) (by omega) (growslice_fits (by omega) hbytes);rw [hr] at hr2
   injection hr2 with e1 e2
   subst e1 e2;intro g' hg'
   injection hg' with hg'
   subst hg';refine ⟨_, _, _, heap_alloc_new w.drew _, ?_⟩;have hx : NWL xs := by rw [<- htake]; exact hc.take _
   refine NWL.arr' ?_;rw [Array.toList_append, Array.toList_append];exact (hx.append hnw).append (hzw.zero _)
variable {w' : World} {A A' B B' : Option Addr} {xs : List Nat} {v : Value} {z : Int} {L n c m d n' c' m' d' : Nat} {s t s' t' : Bool} {q lo hi : Rat}
theorem ext_none (h : w.grownBy w' none) : Ext w w' := ⟨h.os, h.tape, h.output, h.size, fun i hi => h.block i hi (by simp)⟩
theorem Rd.own (h : Rd w A xs) (hv : NWB w v) (k : w.grownBy w' v.ownBlock) : Rd w' A xs := by
 cases hb : v.ownBlock with
 | none => rw [hb] at k; exact h.ext (ext_none k)
 | some g =>
  rw [hb] at k;refine h.mod k ?_;intro hx a ha hag;obtain ⟨b, off, hA, _, hc⟩ := h.2 hx;rw [ha] at hA
  injection hA with hA
  subst hA;obtain ⟨cur, e, fz, hg, hn⟩ := hv g hb;have h0 : 0 < xs.length := List.length_pos_iff.2 hx;have hc0 := hc 0 h0;have hag' : b = g := hag;subst hag';rw [cell_of_row w b _ _ _ _ hg] at hc0;exact hn _ _ hc0
theorem NI.own (h : NI w z L s A n c) (hv : NWB w v) (k : w.grownBy w' v.ownBlock) : NI w' z L s A n c := by
 obtain ⟨xs, h1, h2, h3⟩ := h.out;exact ⟨xs, h1, h2.own hv k, h3⟩
theorem NR.own (h : NR w q L s A n c t B m d) (hv : NWB w v) (k : w.grownBy w' v.ownBlock) : NR w' q L s A n c t B m d := ⟨h.num.own hv k, h.den.own hv k⟩
theorem CellsOf.own {qs : List Rat} {cs : List Value} (h : CellsOf w L qs cs) (hv : NWB w v) (k : w.grownBy w' v.ownBlock) : CellsOf w' L qs cs := by
 induction h with
 | nil => exact .nil
 | cons h _ ih => exact .cons (h.own hv k) ih
theorem CellsOf.nwl {qs : List Rat} {cs : List Value} (h : CellsOf w L qs cs) : NWL cs := by
 induction h with
 | nil => intro u hu; cases hu
 | cons _ _ ih =>
  intro u hu;simp only [List.mem_cons] at hu
  rcases hu with rfl | rfl | rfl | rfl | hu
  ·intro k e; cases e
  ·intro k e; cases e
  ·intro k e; cases e
  ·intro k e; cases e
  ·exact ih u hu
theorem Box.own {g : Nat} {T : TypeId} {cs : Array Value} (h : Box w g T cs) (k : w.grownBy w' v.ownBlock) (hne : v.ownBlock ≠ some g) : Box w' g T cs := by
 have hlt := h.lt;unfold Box at h ⊢;rw [<- h];exact k.block g hlt (fun e => hne e.symm)
end
theorem Tryz.infoR : (Tryz.prog.info? 27).map (fun i => (i.zero, i.size, i.bytes)) = some (some (.agg #[.bool false, .slice none 0 0, .bool false, .slice none 0 0]), 4, 64) := by kernel_rfl
structure Row4 (w : World) (base : Nat) (v : Value) (qs : List Rat) (L : Nat) : Prop where
 own : RatsOwn w base v qs L
 nwb : NWB w v
section
variable {w w' : World} {base L M : Nat} {v : Value} {qs : List Rat} {q : Rat} {s t : Bool} {A B : Option Addr} {n c m d g : Nat}
theorem NWB.ext (h : NWB w v) (e : Ext w w') : NWB w' v := by
 intro g hg;obtain ⟨cur, e', fz, h1, h2⟩ := h g hg;refine ⟨cur, e', fz, ?_, h2⟩
 have hlt : g < w.heap.size := by
  rcases Nat.lt_or_ge g w.heap.size with k | k
  ·exact k
  ·rw [Array.getElem?_eq_none k] at h1; cases h1
 rw [<- h1];exact Below.block e g hlt
theorem Row4.ext (h : Row4 w base v qs L) (e : Ext w w') : Row4 w' base v qs L := by
 obtain ⟨cs, h1, h2⟩ := h.own;exact ⟨⟨cs, owns_ext h1 e, h2.ext e⟩, h.nwb.ext e⟩
theorem Row4.nil (w : World) (base L : Nat) : Row4 w base (.slice none 0 0) [] L := ⟨⟨[], owns_nil _ _ _ _, .nil⟩, fun g hg => by cases hg⟩
theorem Row4.block (h : Row4 w base v qs L) : ∀ k, v.ownBlock = some k -> base <= k /\ k < w.heap.size := by
 intro k hk;obtain ⟨cs, h1, _⟩ := h.own;refine ⟨owns_block h1 k hk, ?_⟩;obtain ⟨cur, e', fz, h2, _⟩ := h.nwb k hk
 rcases Nat.lt_or_ge k w.heap.size with j | j
 ·exact j
 ·rw [Array.getElem?_eq_none j] at h2; cases h2
theorem run_append_rat {ty : TypeId} (h : Row4 w base v qs L) (hq : NR w q L s A n c t B m d) (hb : Box w g 27 #[.bool s, .slice A n c, .bool t, .slice B m d]) (hl : qs.length <= 1000) (hbase : base <= w.heap.size) :
  ∃ v' w', (Builtin.append_ #[22, 22] ty #[v, .slice (some ⟨g, 0, none⟩) 1 1]).run Tryz.prog w = .ok v' w' /\ Row4 w' base v' (qs ++ [q]) L /\ w.grownBy w' v.ownBlock /\ (v'.ownBlock = v.ownBlock \/ v'.ownBlock = some w.heap.size) := by
 obtain ⟨i0, hi, hz0, hz1, hz2⟩ := info_partsB Tryz.infoR;obtain ⟨cs, h1, h2⟩ := h.own;have hone : CellsOf w L [q] [.bool s, .slice A n c, .bool t, .slice B m d] := .cons hq .nil
 have hnews : ∀ j u, ([.bool s, .slice A n c, .bool t, .slice B m d] : List Value)[j]? = some u -> w.cell? ((⟨g, 0, none⟩ : Addr).add j) = some u := by
  intro j u hj
  match j, hj with
  | 0, hj => exact hb.cell 0 u hj
  | 1, hj => exact hb.cell 1 u hj
  | 2, hj => exact hb.cell 2 u hj
  | 3, hj => exact hb.cell 3 u hj
  | j + 4, hj => simp at hj
 rw [<- hz1] at h1
 obtain ⟨v', w', hr, k1, k2, k3, k4⟩ := run_append_nw (P := Tryz.prog) (ty := ty) (c := 1) Tryz.underlying22 hi hz0 hz2 (by rw [hz1]; rfl) (by omega) (by
  intro u hu k e;simp [Value.cells] at hu
  rcases hu with rfl | rfl | rfl | rfl <;> cases e) h1 h.nwb (m := 1) (by rw [hz1]; rfl) hnews hone.one hone.nwl (by omega) (by unfold maxLen; omega) (by omega) hbase
 rw [hz1] at k1;refine ⟨v', w', hr, ⟨⟨cs ++ [.bool s, .slice A n c, .bool t, .slice B m d], ?_, (h2.own h.nwb k2).append (hone.own h.nwb k2)⟩, k4⟩, k2, k3⟩;rw [List.length_append];exact k1
end
theorem wpList_append_rat {w : World} {base L : Nat} {v : Value} {qs : List Rat} {q : Rat} {s t : Bool} {A B : Option Addr} {n c m d g : Nat} {ops : Array Oper} {rest : List Oper} {o : Oper} {a : Act} {Q : Exit -> Act -> World -> Prop} (hgd : o.guard = none) (x y : Operand)
  (ho : o.op = .call { callee := .builtin .append, args := #[x, y], argTypes := #[22, 22] })
  (hx : a.eval x = v) (hy : a.eval y = .slice (some ⟨g, 0, none⟩) 1 1)
  (h : Row4 w base v qs L) (hq : NR w q L s A n c t B m d) (hb : Box w g 27 #[.bool s, .slice A n c, .bool t, .slice B m d]) (hl : qs.length <= 1000) (hbase : base <= w.heap.size)
  (hK : ∀ v' w', Row4 w' base v' (qs ++ [q]) L -> w.grownBy w' v.ownBlock -> (v'.ownBlock = v.ownBlock \/ v'.ownBlock = some w.heap.size) -> wpList Tryz.prog ops Q rest (a.put o.dst v') w') :
  wpList Tryz.prog ops Q (o :: rest) a w := by
 refine wpList_plain hgd fun K hKK => ?_
 obtain ⟨v', w', hr, h2, h3, h5⟩ := run_append_rat (ty := o.type) h hq hb hl hbase;unfold Oper.wp execOp;simp only [ho, resolve, invoke, builtin, Sem.run_bind, Sem.run_pure, Result.andThen_ok, List.map_toArray, List.map_cons, List.map_nil, hx, hy, hr];exact hKK _ _ (hK v' w' h2 h3 h5)
theorem step_append_rat {w : World} {base L : Nat} {v : Value} {qs : List Rat} {q : Rat} {s t : Bool} {A B : Option Addr} {n c m d g : Nat} {ops : Array Oper} {o : Oper} {a : Act} {K : Act -> World -> Prop} {Q : Exit -> Act -> World -> Prop} {E : Prop} (hgd : o.guard = none) (x y : Operand)
  (ho : o.op = .call { callee := .builtin .append, args := #[x, y], argTypes := #[22, 22] })
  (hx : a.eval x = v) (hy : a.eval y = .slice (some ⟨g, 0, none⟩) 1 1)
  (h : Row4 w base v qs L) (hq : NR w q L s A n c t B m d) (hb : Box w g 27 #[.bool s, .slice A n c, .bool t, .slice B m d]) (hl : qs.length <= 1000) (hbase : base <= w.heap.size)
  (hK : ∀ v' w', Row4 w' base v' (qs ++ [q]) L -> w.grownBy w' v.ownBlock -> (v'.ownBlock = v.ownBlock \/ v'.ownBlock = some w.heap.size) -> K (a.put o.dst v') w') :
  if Region.wanted o (yielded ops a.tmps) = true then Oper.wp Tryz.prog o a w K Q else E := by
 have hw : Region.wanted o (yielded ops a.tmps) = true := by simp [Region.wanted, hgd]
 rw [if_pos hw];obtain ⟨v', w', hr, h2, h3, h5⟩ := run_append_rat (ty := o.type) h hq hb hl hbase;unfold Oper.wp execOp;simp only [ho, resolve, invoke, builtin, Sem.run_bind, Sem.run_pure, Result.andThen_ok, List.map_toArray, List.map_cons, List.map_nil, hx, hy, hr];exact hK v' w' h2 h3 h5
end
section
def trimP (l : List Rat) : List Rat := (l.reverse.dropWhile (fun x => decide (x = 0))).reverse
theorem trimP_nil : trimP [] = [] := rfl
theorem trimP_zero (l : List Rat) : trimP (l ++ [0]) = trimP l := by
 unfold trimP;rw [List.reverse_append];simp
theorem trimP_snoc (l : List Rat) {x : Rat} (h : x ≠ 0) : trimP (l ++ [x]) = l ++ [x] := by
 unfold trimP;rw [List.reverse_append];simp [h]
theorem ratSnoc_ind {P : List Rat -> Prop} (h0 : P []) (h1 : ∀ l x, P l -> P (l ++ [x])) (l : List Rat) : P l := by
 have : ∀ m : List Rat, P m.reverse := by
  intro m
  induction m with
  | nil => exact h0
  | cons x m ih => rw [List.reverse_cons]; exact h1 _ _ ih
 have := this l.reverse
 rwa [List.reverse_reverse] at this
theorem trimP_idem (l : List Rat) : trimP (trimP l) = trimP l := by
 induction l using ratSnoc_ind with
 | h0 => rfl
 | h1 l x ih =>
  by_cases h : x = 0
  ·subst h; rw [trimP_zero]; exact ih
  ·rw [trimP_snoc l h, trimP_snoc l h]
theorem trimP_pre (l : List Rat) : ∃ k, l = trimP l ++ List.replicate k 0 := by
 induction l using ratSnoc_ind with
 | h0 => exact ⟨0, rfl⟩
 | h1 l x ih =>
  by_cases h : x = 0
  ·subst h
   obtain ⟨k, hk⟩ := ih;refine ⟨k + 1, ?_⟩;rw [trimP_zero, List.replicate_succ', <- List.append_assoc, <- hk]
  ·exact ⟨0, by rw [trimP_snoc l h]; simp⟩
theorem trimP_len (l : List Rat) : (trimP l).length <= l.length := by
 obtain ⟨k, hk⟩ := trimP_pre l;have := congrArg List.length hk;rw [List.length_append] at this;omega
theorem trimP_take (l : List Rat) : trimP l = l.take (trimP l).length := by
 obtain ⟨k, hk⟩ := trimP_pre l;exact ((congrArg (List.take (trimP l).length) hk).trans (List.take_left ..)).symm
theorem trimP_step {l : List Rat} {n : Nat} (hn : n < l.length) (h0 : l[n] = 0) (h : trimP (l.take (n + 1)) = trimP l) : trimP (l.take n) = trimP l := by
 rw [<- h, List.take_succ_eq_append_getElem hn, h0, trimP_zero]
theorem trimP_stop {l : List Rat} {n : Nat} (hn : n < l.length) (h0 : l[n] ≠ 0) (h : trimP (l.take (n + 1)) = trimP l) : trimP l = l.take (n + 1) := by
 rw [<- h, List.take_succ_eq_append_getElem hn, trimP_snoc _ h0]
def atP (l : List Rat) (i : Nat) : Rat := l.getD i 0
theorem atP_lt {l : List Rat} {i : Nat} (h : i < l.length) : atP l i = l[i] := by unfold atP; simp [h]
theorem atP_ge {l : List Rat} {i : Nat} (h : l.length <= i) : atP l i = 0 := by unfold atP; simp [h]
def sumP (a b : List Rat) : List Rat := (List.range (max a.length b.length)).map fun i => atP a i + atP b i
theorem sumP_len (a b : List Rat) : (sumP a b).length = max a.length b.length := by unfold sumP; simp
theorem sumP_at (a b : List Rat) (i : Nat) (h : i < (sumP a b).length) : (sumP a b)[i] = atP a i + atP b i := by simp [sumP]
def scaleP (a : List Rat) (n : Rat) : List Rat := a.map (· * n)
def negP (a : List Rat) : List Rat := a.map fun x => -x
theorem scaleP_neg (a : List Rat) : scaleP a (-1) = negP a := by
 unfold scaleP negP
 congr 1
 funext x
 rw [Rat.mul_neg, Rat.mul_one]
theorem trimP_zeros (n : Nat) : trimP (List.replicate n 0) = [] := by
 induction n with
 | zero => rfl
 | succ n ih => rw [List.replicate_succ', trimP_zero]; exact ih
theorem sumP_negP (a : List Rat) : sumP a (negP a) = List.replicate a.length 0 := by
 refine List.ext_getElem (by rw [sumP_len]; simp [negP]) (fun i h1 h2 => ?_);have hl : i < a.length := by simpa using h2
 rw [List.getElem_replicate];rw [sumP_at, atP_lt hl, atP_lt (by simpa [negP] using hl)];simp [negP, Rat.add_neg_cancel]
theorem trimP_rep (l : List Rat) (k : Nat) : trimP (l ++ List.replicate k 0) = trimP l := by
 induction k with
 | zero => rw [List.replicate_zero, List.append_nil]
 | succ k ih => rw [List.replicate_succ', <- List.append_assoc, trimP_zero]; exact ih
theorem atP_app_rep (l : List Rat) (k i : Nat) : atP (l ++ List.replicate k 0) i = atP l i := by
 by_cases h : i < l.length
 ·rw [atP_lt (by rw [List.length_append]; omega), atP_lt h, List.getElem_append_left h]
 ·rw [atP_ge (l := l) (by omega)]
  by_cases h2 : i < (l ++ List.replicate k (0 : Rat)).length
  ·rw [atP_lt h2, List.getElem_append_right (by omega), List.getElem_replicate]
  ·rw [atP_ge (by omega)]
theorem atP_trimP (l : List Rat) (i : Nat) : atP (trimP l) i = atP l i := by
 obtain ⟨k, hk⟩ := trimP_pre l;exact (atP_app_rep _ k i).symm.trans (congrArg (atP · i) hk.symm)
theorem trimP_ext_le {l l' : List Rat} (hl : l.length <= l'.length) (h : ∀ i, atP l i = atP l' i) : trimP l = trimP l' := by
 have e : l' = l ++ List.replicate (l'.length - l.length) 0 := by
  refine List.ext_getElem (by rw [List.length_append, List.length_replicate]; omega) (fun i h1 h2 => ?_);rw [<- atP_lt h1, <- h i, <- atP_lt h2, atP_app_rep]
 rw [e, trimP_rep]
theorem trimP_ext {l l' : List Rat} (h : ∀ i, atP l i = atP l' i) : trimP l = trimP l' := by
 rcases Nat.le_total l.length l'.length with hl | hl
 ·exact trimP_ext_le hl h
 ·exact (trimP_ext_le hl (fun i => (h i).symm)).symm
theorem atP_sumP (a b : List Rat) (i : Nat) : atP (sumP a b) i = atP a i + atP b i := by
 by_cases h : i < (sumP a b).length
 ·rw [atP_lt h, sumP_at]
 ·rw [atP_ge (by omega)]
  rw [sumP_len] at h;rw [atP_ge (l := a) (by omega), atP_ge (l := b) (by omega), Rat.add_zero]
theorem trimP_sum_r (a b : List Rat) : trimP (sumP a (trimP b)) = trimP (sumP a b) := trimP_ext fun i => by rw [atP_sumP, atP_sumP, atP_trimP]
end
end Go.Proofs.YtpeddoaknfjbbaaGreatDoor
