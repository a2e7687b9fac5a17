/- Walks and laws, a part. -/
import Derived.Test.YtpeddoaknfjbbaaGreatDoorMd2
import Derived.Test.YtpeddoaknfjbbaaGreatDoorMd3
import Derived.Test.YtpeddoaknfjbbaaGreatDoorMd6
import Derived.Test.YtpeddoaknfjbbaaGreatDoorMd0
import Derived.Test.YtpeddoaknfjbbaaGreatDoorMd1
import Derived.Test.YtpeddoaknfjbbaaGreatDoorMd5
import Derived.Test.YtpeddoaknfjbbaaGreatDoorMd4
import Derived.Lib.ItoaNum
import Derived.Lib.Strings
import Derived.Lib.TrimByte
import Derived.Test.YtpeddoaknfjbbaaGreatDoorProg
import Derived.Lib.ItoaMem
import Derived.Laws.BytesArg
import Derived.Maps.AppendAt
import Derived.Laws.CopyRow
import Derived.Laws.CopyOwn
set_option linter.unusedSimpArgs false
set_option linter.unusedVariables false
set_option maxHeartbeats 64000000
namespace Go.Proofs.YtpeddoaknfjbbaaGreatDoor
section
open Go.RowKit
attribute [local go_sem ↓] Go.wp_at_zero Go.wp_at_succ
theorem ival_abs {s : Bool} {xs : List Nat} (h : 0 <= ival s xs) : ival s xs = (val xs : Int) := by
 unfold ival at *
 cases s <;> simp at h ⊢ <;> omega
theorem validB_int {z : Int} {b : Bool} {rs : List Nat} (h : IsInt z b rs) : validB b rs = true := by
 have hn := h.nrm;unfold Nrm at hn;have hs := h.sgn;unfold validB;rw [hn]
 cases rs with
 | nil => rw [hs rfl]; rfl
 | cons a l => simp
section
variable {A B : Option Addr} {c d n m : Nat} {xs ys : List Nat} {w : World} {s t : Bool}
end
structure RI (w : World) (A : Option Addr) (n c : Nat) (xs : List Nat) : Prop where
 len : xs.length = n
 rd : Rd w A xs
 cap : n <= c
 top : c <= maxLen
theorem RI.ext {w w' : World} {A : Option Addr} {n c : Nat} {xs : List Nat} (h : RI w A n c xs) (e : Ext w w') : RI w' A n c xs := ⟨h.len, h.rd.ext e, h.cap, h.top⟩
def validQ (s : Bool) (xs : List Nat) (t : Bool) (ys : List Nat) : Bool := validB s xs && (validB t ys && (decide (0 < ival t ys) && decide (((Nat.gcd (val xs) (val ys) : Nat) : Int) = 1)))
theorem validB_is {s : Bool} {xs : List Nat} (h : validB s xs = true) (hw : W32 xs) : IsInt (ival s xs) s xs := by
 unfold validB at h;rw [Bool.and_eq_true, decide_eq_true_eq] at h;obtain ⟨h1, h2⟩ := h;have hn : Nrm xs := by unfold Nrm; rw [trimL_take, h1, List.take_length]
 refine ⟨hw, hn, fun h0 => ?_, rfl⟩;subst h0
 simpa using h2
theorem NI.of_raw {w : World} {s : Bool} {A : Option Addr} {n c : Nat} {xs : List Nat} {L : Nat} (h : RI w A n c xs) (hv : validB s xs = true) (hl : n <= L) : NI w (ival s xs) L s A n c :=
 ⟨xs, h.len, h.rd, h.cap, h.top, validB_is hv h.rd.1, hl⟩
theorem NR.of_raw {w : World} {s : Bool} {A : Option Addr} {n c : Nat} {xs : List Nat} {t : Bool} {B : Option Addr} {m d : Nat} {ys : List Nat} {L : Nat} (h : RI w A n c xs) (k : RI w B m d ys) (hv : validQ s xs t ys = true) (hn : n <= L) (hm : m <= L) :
  ∃ q : Rat, NR w q L s A n c t B m d := by
 unfold validQ at hv;simp only [Bool.and_eq_true, decide_eq_true_eq] at hv;obtain ⟨h1, h2, h3, h4⟩ := hv;have hg : Nat.gcd (val xs) (val ys) = 1 := by omega
 have hy : ival t ys = (val ys : Int) := ival_abs (by omega);refine ⟨⟨ival s xs, val ys, by omega, by rw [ival_ab]; exact hg⟩, NI.of_raw h h1 hn, ?_⟩
 show NI w ((val ys : Nat) : Int) L t B m d
 rw [<- hy];exact NI.of_raw k h2 hm
theorem NR.raw {w : World} {q : Rat} {L : Nat} {s : Bool} {A : Option Addr} {n c : Nat} {t : Bool} {B : Option Addr} {m d : Nat} (h : NR w q L s A n c t B m d) :
  ∃ xs ys, RI w A n c xs /\ RI w B m d ys /\ validQ s xs t ys = true /\ n <= L /\ m <= L /\ (∀ w' A' c' B' d', RI w' A' n c' xs -> RI w' B' m d' ys -> NR w' q L s A' n c' t B' m d') := by
 obtain ⟨xs, h1, h2, h3, h4, h5, h6⟩ := h.num.out;obtain ⟨ys, k1, k2, k3, k4, k5, k6⟩ := h.den.out;refine ⟨xs, ys, ⟨h1, h2, h3, h4⟩, ⟨k1, k2, k3, k4⟩, ?_, h6, k6, fun w' A' c' B' d' r1 r2 => ⟨⟨xs, r1.len, r1.rd, r1.cap, r1.top, h5, h6⟩, ⟨ys, r2.len, r2.rd, r2.cap, r2.top, k5, k6⟩⟩⟩;unfold validQ;rw [validB_int h5, validB_int k5, h5.abs, k5.abs, k5.eq];have hd := q.den_pos;have hr := q.reduced;unfold Nat.Coprime at hr;simp [hr];omega
section
variable {w w' : World} {z y : Int} {q p : Rat} {L M : Nat} {s t s' t' : Bool} {A B A' B' : Option Addr} {n c m d n' c' m' d' : Nat} {xs ys xs' ys' : List Nat}
theorem q_ValidRaw (h : RI w A n c xs) (k : RI w B m d ys) (h1 : n <= 3000) (h2 : m <= 3000) : Calls Tryz.prog 30 #[.agg #[.bool s, .slice A n c, .bool t, .slice B m d]] w fun e w' => e = .returned (.bool (validQ s xs t ys)) /\ Ext w w' := by
 obtain ⟨r, hr⟩ : ∃ r, validQ s xs t ys = r := ⟨_, rfl⟩;have HR := Lib.hid hr;rw [hr];clear hr
 go_enter Tryz.func30, Tryz.ntmps30
 go_upto_region 1 with (fail)
 obtain ⟨W, hW, extW, bx, hz⟩ := box1 w 27 #[.bool s, .slice A n c, .bool t, .slice B m d];rw [<- hW];clear hW;replace h := h.ext extW;replace k := k.ext extW;have x0 := bx.cell 0 (.bool s) rfl;have x1 := bx.cell 1 (.slice A n c) rfl;have x2 := bx.cell 2 (.bool t) rfl;have x3 := bx.cell 3 (.slice B m d) rfl
 go_wp2_with fail
 refine (ref_Valid h.len h.rd h.cap h.top (by omega)).mono ?_;rintro e wa ⟨rfl, hxa⟩;replace bx := bx.ext hxa;replace h := h.ext hxa;replace k := k.ext hxa;replace extW := extW.trans hxa;clear hxa x0 x1 x2 x3;have x0 := bx.cell 0 (.bool s) rfl;have x1 := bx.cell 1 (.slice A n c) rfl;have x2 := bx.cell 2 (.bool t) rfl;have x3 := bx.cell 3 (.slice B m d) rfl
 cases hv1 : validB s xs with
 | false =>
  go_wp2_with fail
  go_ret
  exact ⟨by rw [<- HR.out]; unfold validQ; rw [hv1]; rfl, extW⟩
 | true =>
  go_wp2_with fail
  refine (ref_Valid k.len k.rd k.cap k.top (by omega)).mono ?_;rintro e wb ⟨rfl, hxb⟩;replace bx := bx.ext hxb;replace h := h.ext hxb;replace k := k.ext hxb;replace extW := extW.trans hxb;clear hxb x0 x1 x2 x3;have x0 := bx.cell 0 (.bool s) rfl;have x1 := bx.cell 1 (.slice A n c) rfl;have x2 := bx.cell 2 (.bool t) rfl;have x3 := bx.cell 3 (.slice B m d) rfl
  cases hv2 : validB t ys with
  | false =>
   go_wp2_with fail
   go_ret
   exact ⟨by rw [<- HR.out]; unfold validQ; rw [hv1, hv2]; rfl, extW⟩
  | true =>
   have H1 := NI.of_raw (L := 3000) h hv1 h1;have H2 := NI.of_raw (L := 3000) k hv2 h2;have hvq : validQ s xs t ys = (decide (0 < ival t ys) && decide (((Nat.gcd (val xs) (val ys) : Nat) : Int) = 1)) := by unfold validQ; rw [hv1, hv2]; rfl
   rw [HR.out] at hvq;have HVQ := Lib.hid hvq;clear hv1 hv2 hvq HR
   go_wp2_with fail
   refine (q_Sign H2 (by omega)).mono ?_;rintro e wc ⟨rfl, hxc⟩;replace bx := bx.ext hxc;replace H1 := H1.ext hxc;replace H2 := H2.ext hxc;replace extW := extW.trans hxc;clear hxc x0 x1 x2 x3 h k;have x0 := bx.cell 0 (.bool s) rfl;have x1 := bx.cell 1 (.slice A n c) rfl;have x2 := bx.cell 2 (.bool t) rfl;have x3 := bx.cell 3 (.slice B m d) rfl
   by_cases hp : 0 < ival t ys
   ·rw [Int.sign_eq_one_of_pos hp]
    have hvr : r = decide (((Nat.gcd (val xs) (val ys) : Nat) : Int) = 1) := by rw [HVQ.out, decide_eq_true hp, Bool.true_and]
    have HP := Lib.hid hvr;clear HVQ hvr;have ab1 := ival_ab s xs;have ab2 := ival_ab t ys;clear hp
    go_wp2_with fail
    refine (q_GCD H1 H2 (by omega) (by omega)).mono ?_;rintro e wd ⟨s1, A1, n1, c1, rfl, hg, hxd⟩;rw [ab1, ab2] at hg
    go_wp2_with fail
    refine (q_one hg).mono ?_;rintro e we ⟨rfl, hxe⟩
    go_wp2_with fail
    go_ret
    exact ⟨by rw [HP.out]; rfl, extW.trans (hxd.trans hxe)⟩
   ·have hvr : r = false := by rw [HVQ.out, decide_eq_false hp, Bool.false_and]
    subst hvr;clear HVQ
    have hs : (ival t ys).sign = 0 \/ (ival t ys).sign = -1 := by
     rcases Int.lt_trichotomy (ival t ys) 0 with h | h | h
     ·exact Or.inr (Int.sign_eq_neg_one_of_neg h)
     ·exact Or.inl (by rw [h]; rfl)
     ·exact absurd h hp
    clear hp
    rcases hs with hs | hs
    ·rw [hs]
     go_wp2_with fail
     go_ret
     exact ⟨rfl, extW⟩
    ·rw [hs]
     go_wp2_with fail
     go_ret
     exact ⟨rfl, extW⟩
end
section
variable {A : Option Addr} {c n : Nat} {xs : List Nat} {w : World} {s : Bool}
end
section
variable {w w' : World} {z y : Int} {q p : Rat} {L M : Nat} {s t s' t' : Bool} {A B A' B' : Option Addr} {n c m d n' c' m' d' : Nat} {xs ys xs' ys' : List Nat}
end
section
variable {w w' : World} {z y : Int} {q p : Rat} {L M : Nat} {s t s' t' : Bool} {A B A' B' : Option Addr} {n c m d n' c' m' d' : Nat} {xs ys xs' ys' : List Nat}
def mkQ (z y : Int) : Rat := if y < 0 then mkRat (-z) (-y).natAbs else mkRat z y.natAbs
theorem p_Make_pos (h : NI w z L s A n c) (k : NI w y M t B m d) (hL : L <= 3000) (hM : M <= 3000) (hy : 0 < y) (hT : Tab w) : Calls Tryz.prog 78 #[.agg #[.bool s, .slice A n c], .agg #[.bool t, .slice B m d]] w (RetNRE (mkQ z y) (max L M) w) := by
 have hs : y.sign = 1 := Int.sign_eq_one_of_pos hy;have hq : mkQ z y = mkRat z y.natAbs := if_neg (by omega);rw [hq];clear hq
 go_enter Tryz.func78, Tryz.ntmps78
 go_upto_region 1 with (fail)
 obtain ⟨W, hW, extW, bx, by_, bz, hz⟩ := box3 w 25 25 27 #[.bool s, .slice A n c] #[.bool t, .slice B m d] #[Value.bool false, Value.slice none 0 0, Value.bool false, Value.slice none 0 0];rw [<- hW];clear hW;replace h := h.ext extW;replace k := k.ext extW;refine wpL.st 4 (fun hQ ES => ?_);refine wpL.t 0 7 ?v_0 hQ ?y_0 ES ?_
 case y_0 => intro w' hSw;have k00 := (bx.ext hSw).c2;have k10 := (by_.ext hSw).c2;go_simp;try rfl
 try simp only [zP]
 refine wpL.take2 3 (i := 2) (d := some 9) (v := ?v_1) rfl rfl (by kernel_rfl) (by kernel_rfl) (by kernel_rfl) (by kernel_rfl) hQ (Or.inl ⟨by rfl, ?y_1⟩) ES ?r_1
 case y_1 => intro w' hSw;have k00 := (bx.ext hSw).c2;have k10 := (by_.ext hSw).c2;go_simp;try rfl
 try simp only [zP]
 refine wpL.cl (i := 1) rfl (fun K hK => ?_);go_simp
 (go_at_call 95; refine (p_Norm (h.ext ES) (by omega)).mono ?_; rintro e wk1 ⟨s1, A1, n1, c1, rfl, h1, hx0⟩; have E0_1 := Ext.trans ES hx0)
 refine hK.out _ _ E0_1 ?_;clear hK K
 try simp only [zP]
 refine wpL.cl (i := 3) rfl (fun K hK => ?_);go_simp
 (go_at_call 95; refine (p_Norm (k.ext E0_1) (by omega)).mono ?_; rintro e wk2 ⟨s2, A2, n2, c2, rfl, h2, hx1⟩; have E1_1 := Ext.trans E0_1 hx1)
 refine hK.out _ _ E1_1 ?_;clear hK K
 try simp only [zP]
 have z0 := (bx.ext E1_1).cell 0 _ rfl;have z1 := (bx.ext E1_1).cell 1 _ rfl;have f0 := (bx.ext E1_1).frozen 0;have f1 := (bx.ext E1_1).frozen 1;have u0 := (by_.ext E1_1).cell 0 _ rfl;have u1 := (by_.ext E1_1).cell 1 _ rfl;have v0 := (by_.ext E1_1).frozen 0;have v1 := (by_.ext E1_1).frozen 1;refine wpL.tl (i := 4) rfl (fun K hK => ?_);go_simp;refine hK.out _ _ ?_;clear hK K
 try simp only [zP]
 refine wpL.tl (i := 5) rfl (fun K hK => ?_);go_simp;refine hK.out _ _ ?_;clear hK K
 try simp only [zP]
 refine wpL.done (by kernel_rfl) ?_ _;clear hQ;refine at_exit (fun U => Ext w U /\ Box U w.heap.size 25 #[.bool s1, .slice A1 n1 c1] /\ Box U (w.heap.size + 1) 25 #[.bool s2, .slice A2 n2 c2] /\ Box U (w.heap.size + 1 + 1) 27 #[Value.bool false, Value.slice none 0 0, Value.bool false, Value.slice none 0 0] /\ NI U (z) L s1 A1 n1 c1 /\ NI U (y) M s2 A2 n2 c2) ?_ ?_
 ·have q1 := fin_dual (s := s1) (A := A1) (n := n1) (c := c1) (bx.ext E1_1)
  have q2 := fin_dual (s := s2) (A := A2) (n := n2) (c := c2) (q1.2.2.2 _ _ _ (by omega) (by_.ext E1_1));exact ⟨q2.2.2.1 _ (q1.2.2.1 _ (extW.trans E1_1) (by omega)) (by omega), q2.2.2.2 _ _ _ (by omega) q1.1, q2.1, q2.2.2.2 _ _ _ (by omega) (q1.2.2.2 _ _ _ (by omega) (bz.ext E1_1)), q2.2.1 _ _ _ _ _ _ (q1.2.1 _ _ _ _ _ _ (h1.ext hx1)), q2.2.1 _ _ _ _ _ _ (q1.2.1 _ _ _ _ _ _ h2)⟩
 clear extW bx by_ bz h k;rintro U ⟨extW, bx, by_, bz, h, k⟩;have y0 := by_.cell 0 (.bool s2) rfl;have y1 := by_.cell 1 (.slice A2 n2 c2) rfl
 go_wp2_with fail
 refine (p_Sign k (by omega)).mono ?_;rintro e V ⟨rfl, hxa⟩;replace bx := bx.ext hxa;replace by_ := by_.ext hxa;replace bz := bz.ext hxa;replace h := h.ext hxa;replace k := k.ext hxa;replace extW := extW.trans hxa;clear hxa y0 y1;rw [hs];have y0 := by_.cell 0 (.bool s2) rfl;have y1 := by_.cell 1 (.slice A2 n2 c2) rfl
 go_wp2_with fail
 refine (p_isOne k).mono ?_;rintro e Vo ⟨rfl, hxo⟩;replace bx := bx.ext hxo;replace by_ := by_.ext hxo;replace bz := bz.ext hxo;replace h := h.ext hxo;replace k := k.ext hxo;replace extW := extW.trans hxo;clear hxo y0 y1
 by_cases hone : y = 1
 ·rw [decide_eq_true hone]
  obtain ⟨m1, m2⟩ := mkRat_parts (z) (D := (y).natAbs) (by omega);have hab : (y).natAbs = 1 := by omega
  rw [hab, Nat.gcd_one_right, Nat.div_one] at m2;rw [hab, Nat.gcd_one_right] at m1;have m3 : ((mkRat (z) (y).natAbs).num) = z := by rw [hab, m1]; exact Int.ediv_one _
  have m4 : (((mkRat (z) (y).natAbs).den : Nat) : Int) = y := by rw [hab, m2]; exact hone.symm
  have hE := Ext.refl Vo;have x0 := bx.cell 0 (.bool s1) rfl;have x1 := bx.cell 1 (.slice A1 n1 c1) rfl;have y0 := by_.cell 0 (.bool s2) rfl;have y1 := by_.cell 1 (.slice A2 n2 c2) rfl;have z0 := (bz.ext hE).cell 0 _ rfl;have z1 := (bz.ext hE).cell 1 _ rfl;have z2 := (bz.ext hE).cell 2 _ rfl;have z3 := (bz.ext hE).cell 3 _ rfl;have f0 := (bz.ext hE).frozen 0;have f1 := (bz.ext hE).frozen 1;have f2 := (bz.ext hE).frozen 2;have f3 := (bz.ext hE).frozen 3
  go_wp2_with fail
  obtain ⟨b1, b2, b3, b4⟩ := fin_quad (s := s1) (A := A1) (n := n1) (c := c1) (t := s2) (B := A2) (m := n2) (d := c2) (bz.ext hE);have r0 := b1.cell 0 (.bool s1) rfl;have r1 := b1.cell 1 (.slice A1 n1 c1) rfl;have r2 := b1.cell 2 (.bool s2) rfl;have r3 := b1.cell 3 (.slice A2 n2 c2) rfl;unfold set4 at r0 r1 r2 r3;refine bodyPost_ret (v := .tuple #[.agg #[.bool s1, .slice A1 n1 c1, .bool s2, .slice A2 n2 c2], .int .i64 0]) (by simp [results, Tryz.results78, go_sem, r0, r1, r2, r3]) rfl ⟨s1, A1, n1, c1, s2, A2, n2, c2, rfl, ⟨(b2 _ _ _ _ _ _ (by rw [m3]; exact h)).le (by omega), (b2 _ _ _ _ _ _ (by rw [m4]; exact k)).le (by omega)⟩, b3 _ (extW.trans hE) (by omega)⟩
 rw [decide_eq_false hone];clear hone;have hEo := Ext.refl Vo;have x0 := bx.cell 0 (.bool s1) rfl;have x1 := bx.cell 1 (.slice A1 n1 c1) rfl;have y0 := by_.cell 0 (.bool s2) rfl;have y1 := by_.cell 1 (.slice A2 n2 c2) rfl
 go_wp2_with fail
 refine (p_GCD h k (by omega) (by omega) (hT.ext extW)).mono ?_;rintro e we ⟨s4, A4, n4, c4, rfl, hg, hxe⟩;obtain ⟨g, hge⟩ : ∃ g, Nat.gcd (z).natAbs (y).natAbs = g := ⟨_, rfl⟩;rw [hge] at hg;have hgz : g ∣ (z).natAbs := by rw [<- hge]; exact Nat.gcd_dvd_left _ _
 have hgy : g ∣ (y).natAbs := by rw [<- hge]; exact Nat.gcd_dvd_right _ _
 have hy0 : (y).natAbs ≠ 0 := by omega
 have hg0 : (g : Int) ≠ 0 := by
  intro h0;have : g = 0 := by omega
  rw [this] at hgy;exact hy0 (Nat.eq_zero_of_zero_dvd hgy)
 obtain ⟨m1, m2⟩ := mkRat_parts (z) (D := (y).natAbs) hy0;rw [hge] at m1 m2;have Hm1 := Lib.hid m1;have Hm2 := Lib.hid m2;have Hg0 := Lib.hid hg0;have Hgz := Lib.hid (Int.ofNat_dvd_left.2 hgz);have Hgy := Lib.hid (Int.ofNat_dvd_left.2 hgy);have Hya := Lib.hid (show (((y).natAbs : Nat) : Int) = y from Int.natAbs_of_nonneg (by omega));clear hge hg0 hgz hgy m1 m2 hy0 x0 x1 y0 y1
 go_upto_region 10 with (fail)
 refine at_world (fun V9 => Ext Vo V9 /\ Box V9 we.heap.size 25 #[.bool s4, .slice A4 n4 c4] /\ NI V9 (g : Int) (max L M) s4 A4 n4 c4) ⟨hxe.alloc _, Box.new we _ _, hg.ext ((Ext.refl we).alloc _)⟩ ?_;generalize we.heap.size = g8;clear hxe hg;rintro V9 ⟨EV, b8, hg⟩;replace bx := bx.ext EV;replace by_ := by_.ext EV;replace bz := bz.ext EV;replace h := h.ext EV;replace k := k.ext EV;replace extW := extW.trans EV;clear EV
 go_wp2_with fail
 refine wpL.st 7 (fun hQ ES => ?_);refine wpL.t 0 30 ?v_2 hQ ?y_2 ES ?_
 case y_2 => intro w' hSw;have k00 := (bx.ext hSw).c2;have k10 := (by_.ext hSw).c2;have k20 := (b8.ext hSw).c2;go_simp;try rfl
 try simp only [zP]
 refine wpL.t 1 31 ?v_3 hQ ?y_3 ES ?_
 case y_3 => intro w' hSw;have k00 := (bx.ext hSw).c2;have k10 := (by_.ext hSw).c2;have k20 := (b8.ext hSw).c2;go_simp;try rfl
 try simp only [zP]
 refine wpL.t 3 33 ?v_4 hQ ?y_4 ES ?_
 case y_4 => intro w' hSw;have k00 := (bx.ext hSw).c2;have k10 := (by_.ext hSw).c2;have k20 := (b8.ext hSw).c2;go_simp;try rfl
 try simp only [zP]
 refine wpL.t 4 34 ?v_5 hQ ?y_5 ES ?_
 case y_5 => intro w' hSw;have k00 := (bx.ext hSw).c2;have k10 := (by_.ext hSw).c2;have k20 := (b8.ext hSw).c2;go_simp;try rfl
 try simp only [zP]
 refine wpL.cl (i := 2) rfl (fun K hK => ?_);go_simp
 (go_at_call 103; refine (p_divide (h.ext ES) (hg.ext ES) (by omega) (by omega) Hg0.out Hgz.out).mono ?_; rintro e wk5 ⟨s5, A5, n5, c5, rfl, h5, hx0⟩; have E0_10 := Ext.trans ES hx0)
 refine hK.out _ _ E0_10 ?_;clear hK K
 try simp only [zP]
 refine wpL.cl (i := 5) rfl (fun K hK => ?_);go_simp
 (go_at_call 103; refine (p_divide (k.ext E0_10) (hg.ext E0_10) (by omega) (by omega) Hg0.out Hgy.out).mono ?_; rintro e wk6 ⟨s6, A6, n6, c6, rfl, h6, hx1⟩; have E1_10 := Ext.trans E0_10 hx1)
 refine hK.out _ _ E1_10 ?_;clear hK K
 try simp only [zP]
 refine wpL.t 6 36 ?v_6 hQ ?y_6 E1_10 ?_
 case y_6 => intro w' hSw;go_simp;try rfl
 try simp only [zP]
 have z0 := (bz.ext E1_10).cell 0 _ rfl;have z1 := (bz.ext E1_10).cell 1 _ rfl;have z2 := (bz.ext E1_10).cell 2 _ rfl;have z3 := (bz.ext E1_10).cell 3 _ rfl;have f0 := (bz.ext E1_10).frozen 0;have f1 := (bz.ext E1_10).frozen 1;have f2 := (bz.ext E1_10).frozen 2;have f3 := (bz.ext E1_10).frozen 3;refine wpL.tl (i := 7) rfl (fun K hK => ?_);go_simp;refine hK.out _ _ ?_;clear hK K
 try simp only [zP]
 refine wpL.tl (i := 8) rfl (fun K hK => ?_);go_simp;refine hK.out _ _ ?_;clear hK K
 try simp only [zP]
 refine wpL.done (by kernel_rfl) ?_ _;clear hQ
 go_wp2_with fail
 have hk1 : (y) / (g : Int) = ((mkRat (z) (y).natAbs).den : Int) := by rw [Hm2.out, Int.natCast_ediv, Hya.out]
 rw [hk1] at h6;rw [<- Hm1.out] at h5;obtain ⟨b1, b2, b3, b4⟩ := fin_quad (s := s5) (A := A5) (n := n5) (c := c5) (t := s6) (B := A6) (m := n6) (d := c6) (bz.ext E1_10);have r0 := b1.cell 0 (.bool s5) rfl;have r1 := b1.cell 1 (.slice A5 n5 c5) rfl;have r2 := b1.cell 2 (.bool s6) rfl;have r3 := b1.cell 3 (.slice A6 n6 c6) rfl;unfold set4 at r0 r1 r2 r3;refine bodyPost_ret (v := .tuple #[.agg #[.bool s5, .slice A5 n5 c5, .bool s6, .slice A6 n6 c6], .int .i64 0]) (by simp [results, Tryz.results78, go_sem, r0, r1, r2, r3]) rfl ⟨s5, A5, n5, c5, s6, A6, n6, c6, rfl, ⟨(b2 _ _ _ _ _ _ (h5.ext hx1)).le (by omega), (b2 _ _ _ _ _ _ h6).le (by omega)⟩, b3 _ (extW.trans E1_10) (by omega)⟩
theorem p_Make_neg (h : NI w z L s A n c) (k : NI w y M t B m d) (hL : L <= 3000) (hM : M <= 3000) (hy : y < 0) (hT : Tab w) : Calls Tryz.prog 78 #[.agg #[.bool s, .slice A n c], .agg #[.bool t, .slice B m d]] w (RetNRE (mkQ z y) (max L M) w) := by
 have hs : y.sign = -1 := Int.sign_eq_neg_one_of_neg hy;have hq : mkQ z y = mkRat (-z) (-y).natAbs := if_pos hy;rw [hq];clear hq
 go_enter Tryz.func78, Tryz.ntmps78
 go_upto_region 1 with (fail)
 obtain ⟨W, hW, extW, bx, by_, bz, hz⟩ := box3 w 25 25 27 #[.bool s, .slice A n c] #[.bool t, .slice B m d] #[Value.bool false, Value.slice none 0 0, Value.bool false, Value.slice none 0 0];rw [<- hW];clear hW;replace h := h.ext extW;replace k := k.ext extW;refine wpL.st 4 (fun hQ ES => ?_);refine wpL.t 0 7 ?v_0 hQ ?y_0 ES ?_
 case y_0 => intro w' hSw;have k00 := (bx.ext hSw).c2;have k10 := (by_.ext hSw).c2;go_simp;try rfl
 try simp only [zP]
 refine wpL.take2 3 (i := 2) (d := some 9) (v := ?v_1) rfl rfl (by kernel_rfl) (by kernel_rfl) (by kernel_rfl) (by kernel_rfl) hQ (Or.inl ⟨by rfl, ?y_1⟩) ES ?r_1
 case y_1 => intro w' hSw;have k00 := (bx.ext hSw).c2;have k10 := (by_.ext hSw).c2;go_simp;try rfl
 try simp only [zP]
 refine wpL.cl (i := 1) rfl (fun K hK => ?_);go_simp
 (go_at_call 95; refine (p_Norm (h.ext ES) (by omega)).mono ?_; rintro e wk1 ⟨s1, A1, n1, c1, rfl, h1, hx0⟩; have E0_1 := Ext.trans ES hx0)
 refine hK.out _ _ E0_1 ?_;clear hK K
 try simp only [zP]
 refine wpL.cl (i := 3) rfl (fun K hK => ?_);go_simp
 (go_at_call 95; refine (p_Norm (k.ext E0_1) (by omega)).mono ?_; rintro e wk2 ⟨s2, A2, n2, c2, rfl, h2, hx1⟩; have E1_1 := Ext.trans E0_1 hx1)
 refine hK.out _ _ E1_1 ?_;clear hK K
 try simp only [zP]
 have z0 := (bx.ext E1_1).cell 0 _ rfl;have z1 := (bx.ext E1_1).cell 1 _ rfl;have f0 := (bx.ext E1_1).frozen 0;have f1 := (bx.ext E1_1).frozen 1;have u0 := (by_.ext E1_1).cell 0 _ rfl;have u1 := (by_.ext E1_1).cell 1 _ rfl;have v0 := (by_.ext E1_1).frozen 0;have v1 := (by_.ext E1_1).frozen 1;refine wpL.tl (i := 4) rfl (fun K hK => ?_);go_simp;refine hK.out _ _ ?_;clear hK K
 try simp only [zP]
 refine wpL.tl (i := 5) rfl (fun K hK => ?_);go_simp;refine hK.out _ _ ?_;clear hK K
 try simp only [zP]
 refine wpL.done (by kernel_rfl) ?_ _;clear hQ;refine at_exit (fun U => Ext w U /\ Box U w.heap.size 25 #[.bool s1, .slice A1 n1 c1] /\ Box U (w.heap.size + 1) 25 #[.bool s2, .slice A2 n2 c2] /\ Box U (w.heap.size + 1 + 1) 27 #[Value.bool false, Value.slice none 0 0, Value.bool false, Value.slice none 0 0] /\ NI U (z) L s1 A1 n1 c1 /\ NI U (y) M s2 A2 n2 c2) ?_ ?_
 ·have q1 := fin_dual (s := s1) (A := A1) (n := n1) (c := c1) (bx.ext E1_1)
  have q2 := fin_dual (s := s2) (A := A2) (n := n2) (c := c2) (q1.2.2.2 _ _ _ (by omega) (by_.ext E1_1));exact ⟨q2.2.2.1 _ (q1.2.2.1 _ (extW.trans E1_1) (by omega)) (by omega), q2.2.2.2 _ _ _ (by omega) q1.1, q2.1, q2.2.2.2 _ _ _ (by omega) (q1.2.2.2 _ _ _ (by omega) (bz.ext E1_1)), q2.2.1 _ _ _ _ _ _ (q1.2.1 _ _ _ _ _ _ (h1.ext hx1)), q2.2.1 _ _ _ _ _ _ (q1.2.1 _ _ _ _ _ _ h2)⟩
 clear extW bx by_ bz h k;rintro U ⟨extW, bx, by_, bz, h, k⟩;have y0 := by_.cell 0 (.bool s2) rfl;have y1 := by_.cell 1 (.slice A2 n2 c2) rfl
 go_wp2_with fail
 refine (p_Sign k (by omega)).mono ?_;rintro e V ⟨rfl, hxa⟩;replace bx := bx.ext hxa;replace by_ := by_.ext hxa;replace bz := bz.ext hxa;replace h := h.ext hxa;replace k := k.ext hxa;replace extW := extW.trans hxa;clear hxa y0 y1;rw [hs]
 go_upto_region 6 with (fail)
 refine wpL.st 4 (fun hQ ES => ?_);refine wpL.t 0 18 ?v_2 hQ ?y_2 ES ?_
 case y_2 => intro w' hSw;have k00 := (bx.ext hSw).c2;have k10 := (by_.ext hSw).c2;go_simp;try rfl
 try simp only [zP]
 refine wpL.take2 3 (i := 2) (d := some 20) (v := ?v_3) rfl rfl (by kernel_rfl) (by kernel_rfl) (by kernel_rfl) (by kernel_rfl) hQ (Or.inl ⟨by rfl, ?y_3⟩) ES ?r_3
 case y_3 => intro w' hSw;have k00 := (bx.ext hSw).c2;have k10 := (by_.ext hSw).c2;go_simp;try rfl
 try simp only [zP]
 refine wpL.cl (i := 1) rfl (fun K hK => ?_);go_simp
 (go_at_call 106; refine (p_Neg (h.ext ES) (by omega)).mono ?_; rintro e wk3 ⟨s3, A3, n3, c3, rfl, h1, hx0⟩; have E0_6 := Ext.trans ES hx0)
 refine hK.out _ _ E0_6 ?_;clear hK K
 try simp only [zP]
 refine wpL.cl (i := 3) rfl (fun K hK => ?_);go_simp
 (go_at_call 106; refine (p_Neg (k.ext E0_6) (by omega)).mono ?_; rintro e wk4 ⟨s3', A3', n3', c3', rfl, h2, hx1⟩; have E1_6 := Ext.trans E0_6 hx1)
 refine hK.out _ _ E1_6 ?_;clear hK K
 try simp only [zP]
 have z0 := (bx.ext E1_6).cell 0 _ rfl;have z1 := (bx.ext E1_6).cell 1 _ rfl;have f0 := (bx.ext E1_6).frozen 0;have f1 := (bx.ext E1_6).frozen 1;have u0 := (by_.ext E1_6).cell 0 _ rfl;have u1 := (by_.ext E1_6).cell 1 _ rfl;have v0 := (by_.ext E1_6).frozen 0;have v1 := (by_.ext E1_6).frozen 1;refine wpL.tl (i := 4) rfl (fun K hK => ?_);go_simp;refine hK.out _ _ ?_;clear hK K
 try simp only [zP]
 refine wpL.tl (i := 5) rfl (fun K hK => ?_);go_simp;refine hK.out _ _ ?_;clear hK K
 try simp only [zP]
 refine wpL.done (by kernel_rfl) ?_ _;clear hQ;refine at_exit (fun V2 => Ext w V2 /\ Box V2 w.heap.size 25 #[.bool s3, .slice A3 n3 c3] /\ Box V2 (w.heap.size + 1) 25 #[.bool s3', .slice A3' n3' c3'] /\ Box V2 (w.heap.size + 1 + 1) 27 #[Value.bool false, Value.slice none 0 0, Value.bool false, Value.slice none 0 0] /\ NI V2 (-z) L s3 A3 n3 c3 /\ NI V2 (-y) M s3' A3' n3' c3') ?_ ?_
 ·have q1 := fin_dual (s := s3) (A := A3) (n := n3) (c := c3) (bx.ext E1_6)
  have q2 := fin_dual (s := s3') (A := A3') (n := n3') (c := c3') (q1.2.2.2 _ _ _ (by omega) (by_.ext E1_6));exact ⟨q2.2.2.1 _ (q1.2.2.1 _ (extW.trans E1_6) (by omega)) (by omega), q2.2.2.2 _ _ _ (by omega) q1.1, q2.1, q2.2.2.2 _ _ _ (by omega) (q1.2.2.2 _ _ _ (by omega) (bz.ext E1_6)), q2.2.1 _ _ _ _ _ _ (q1.2.1 _ _ _ _ _ _ (h1.ext hx1)), q2.2.1 _ _ _ _ _ _ (q1.2.1 _ _ _ _ _ _ h2)⟩
 clear extW bx by_ bz h k;rintro V2 ⟨extW, bx, by_, bz, h, k⟩;have y0 := by_.cell 0 (.bool s3') rfl;have y1 := by_.cell 1 (.slice A3' n3' c3') rfl
 go_wp2_with fail
 refine (p_isOne k).mono ?_;rintro e V2o ⟨rfl, hxo⟩;replace bx := bx.ext hxo;replace by_ := by_.ext hxo;replace bz := bz.ext hxo;replace h := h.ext hxo;replace k := k.ext hxo;replace extW := extW.trans hxo;clear hxo y0 y1
 by_cases hone : -y = 1
 ·rw [decide_eq_true hone]
  obtain ⟨m1, m2⟩ := mkRat_parts (-z) (D := (-y).natAbs) (by omega);have hab : (-y).natAbs = 1 := by omega
  rw [hab, Nat.gcd_one_right, Nat.div_one] at m2;rw [hab, Nat.gcd_one_right] at m1;have m3 : ((mkRat (-z) (-y).natAbs).num) = -z := by rw [hab, m1]; exact Int.ediv_one _
  have m4 : (((mkRat (-z) (-y).natAbs).den : Nat) : Int) = -y := by rw [hab, m2]; exact hone.symm
  have hE := Ext.refl V2o;have x0 := bx.cell 0 (.bool s3) rfl;have x1 := bx.cell 1 (.slice A3 n3 c3) rfl;have y0 := by_.cell 0 (.bool s3') rfl;have y1 := by_.cell 1 (.slice A3' n3' c3') rfl;have z0 := (bz.ext hE).cell 0 _ rfl;have z1 := (bz.ext hE).cell 1 _ rfl;have z2 := (bz.ext hE).cell 2 _ rfl;have z3 := (bz.ext hE).cell 3 _ rfl;have f0 := (bz.ext hE).frozen 0;have f1 := (bz.ext hE).frozen 1;have f2 := (bz.ext hE).frozen 2;have f3 := (bz.ext hE).frozen 3
  go_wp2_with fail
  obtain ⟨b1, b2, b3, b4⟩ := fin_quad (s := s3) (A := A3) (n := n3) (c := c3) (t := s3') (B := A3') (m := n3') (d := c3') (bz.ext hE);have r0 := b1.cell 0 (.bool s3) rfl;have r1 := b1.cell 1 (.slice A3 n3 c3) rfl;have r2 := b1.cell 2 (.bool s3') rfl;have r3 := b1.cell 3 (.slice A3' n3' c3') rfl;unfold set4 at r0 r1 r2 r3;refine bodyPost_ret (v := .tuple #[.agg #[.bool s3, .slice A3 n3 c3, .bool s3', .slice A3' n3' c3'], .int .i64 0]) (by simp [results, Tryz.results78, go_sem, r0, r1, r2, r3]) rfl ⟨s3, A3, n3, c3, s3', A3', n3', c3', rfl, ⟨(b2 _ _ _ _ _ _ (by rw [m3]; exact h)).le (by omega), (b2 _ _ _ _ _ _ (by rw [m4]; exact k)).le (by omega)⟩, b3 _ (extW.trans hE) (by omega)⟩
 rw [decide_eq_false hone];clear hone;have hEo := Ext.refl V2o;have x0 := bx.cell 0 (.bool s3) rfl;have x1 := bx.cell 1 (.slice A3 n3 c3) rfl;have y0 := by_.cell 0 (.bool s3') rfl;have y1 := by_.cell 1 (.slice A3' n3' c3') rfl
 go_wp2_with fail
 refine (p_GCD h k (by omega) (by omega) (hT.ext extW)).mono ?_;rintro e we ⟨s4, A4, n4, c4, rfl, hg, hxe⟩;obtain ⟨g, hge⟩ : ∃ g, Nat.gcd (-z).natAbs (-y).natAbs = g := ⟨_, rfl⟩;rw [hge] at hg;have hgz : g ∣ (-z).natAbs := by rw [<- hge]; exact Nat.gcd_dvd_left _ _
 have hgy : g ∣ (-y).natAbs := by rw [<- hge]; exact Nat.gcd_dvd_right _ _
 have hy0 : (-y).natAbs ≠ 0 := by omega
 have hg0 : (g : Int) ≠ 0 := by
  intro h0;have : g = 0 := by omega
  rw [this] at hgy;exact hy0 (Nat.eq_zero_of_zero_dvd hgy)
 obtain ⟨m1, m2⟩ := mkRat_parts (-z) (D := (-y).natAbs) hy0;rw [hge] at m1 m2;have Hm1 := Lib.hid m1;have Hm2 := Lib.hid m2;have Hg0 := Lib.hid hg0;have Hgz := Lib.hid (Int.ofNat_dvd_left.2 hgz);have Hgy := Lib.hid (Int.ofNat_dvd_left.2 hgy);have Hya := Lib.hid (show (((-y).natAbs : Nat) : Int) = -y from Int.natAbs_of_nonneg (by omega));clear hge hg0 hgz hgy m1 m2 hy0 x0 x1 y0 y1
 go_upto_region 10 with (fail)
 refine at_world (fun V9 => Ext V2o V9 /\ Box V9 we.heap.size 25 #[.bool s4, .slice A4 n4 c4] /\ NI V9 (g : Int) (max L M) s4 A4 n4 c4) ⟨hxe.alloc _, Box.new we _ _, hg.ext ((Ext.refl we).alloc _)⟩ ?_;generalize we.heap.size = g8;clear hxe hg;rintro V9 ⟨EV, b8, hg⟩;replace bx := bx.ext EV;replace by_ := by_.ext EV;replace bz := bz.ext EV;replace h := h.ext EV;replace k := k.ext EV;replace extW := extW.trans EV;clear EV
 go_wp2_with fail
 refine wpL.st 7 (fun hQ ES => ?_);refine wpL.t 0 30 ?v_4 hQ ?y_4 ES ?_
 case y_4 => intro w' hSw;have k00 := (bx.ext hSw).c2;have k10 := (by_.ext hSw).c2;have k20 := (b8.ext hSw).c2;go_simp;try rfl
 try simp only [zP]
 refine wpL.t 1 31 ?v_5 hQ ?y_5 ES ?_
 case y_5 => intro w' hSw;have k00 := (bx.ext hSw).c2;have k10 := (by_.ext hSw).c2;have k20 := (b8.ext hSw).c2;go_simp;try rfl
 try simp only [zP]
 refine wpL.t 3 33 ?v_6 hQ ?y_6 ES ?_
 case y_6 => intro w' hSw;have k00 := (bx.ext hSw).c2;have k10 := (by_.ext hSw).c2;have k20 := (b8.ext hSw).c2;go_simp;try rfl
 try simp only [zP]
 refine wpL.t 4 34 ?v_7 hQ ?y_7 ES ?_
 case y_7 => intro w' hSw;have k00 := (bx.ext hSw).c2;have k10 := (by_.ext hSw).c2;have k20 := (b8.ext hSw).c2;go_simp;try rfl
 try simp only [zP]
 refine wpL.cl (i := 2) rfl (fun K hK => ?_);go_simp
 (go_at_call 103; refine (p_divide (h.ext ES) (hg.ext ES) (by omega) (by omega) Hg0.out Hgz.out).mono ?_; rintro e wk5 ⟨s5, A5, n5, c5, rfl, h5, hx0⟩; have E0_10 := Ext.trans ES hx0)
 refine hK.out _ _ E0_10 ?_;clear hK K
 try simp only [zP]
 refine wpL.cl (i := 5) rfl (fun K hK => ?_);go_simp
 (go_at_call 103; refine (p_divide (k.ext E0_10) (hg.ext E0_10) (by omega) (by omega) Hg0.out Hgy.out).mono ?_; rintro e wk6 ⟨s6, A6, n6, c6, rfl, h6, hx1⟩; have E1_10 := Ext.trans E0_10 hx1)
 refine hK.out _ _ E1_10 ?_;clear hK K
 try simp only [zP]
 refine wpL.t 6 36 ?v_8 hQ ?y_8 E1_10 ?_
 case y_8 => intro w' hSw;go_simp;try rfl
 try simp only [zP]
 have z0 := (bz.ext E1_10).cell 0 _ rfl;have z1 := (bz.ext E1_10).cell 1 _ rfl;have z2 := (bz.ext E1_10).cell 2 _ rfl;have z3 := (bz.ext E1_10).cell 3 _ rfl;have f0 := (bz.ext E1_10).frozen 0;have f1 := (bz.ext E1_10).frozen 1;have f2 := (bz.ext E1_10).frozen 2;have f3 := (bz.ext E1_10).frozen 3;refine wpL.tl (i := 7) rfl (fun K hK => ?_);go_simp;refine hK.out _ _ ?_;clear hK K
 try simp only [zP]
 refine wpL.tl (i := 8) rfl (fun K hK => ?_);go_simp;refine hK.out _ _ ?_;clear hK K
 try simp only [zP]
 refine wpL.done (by kernel_rfl) ?_ _;clear hQ
 go_wp2_with fail
 have hk1 : (-y) / (g : Int) = ((mkRat (-z) (-y).natAbs).den : Int) := by rw [Hm2.out, Int.natCast_ediv, Hya.out]
 rw [hk1] at h6;rw [<- Hm1.out] at h5;obtain ⟨b1, b2, b3, b4⟩ := fin_quad (s := s5) (A := A5) (n := n5) (c := c5) (t := s6) (B := A6) (m := n6) (d := c6) (bz.ext E1_10);have r0 := b1.cell 0 (.bool s5) rfl;have r1 := b1.cell 1 (.slice A5 n5 c5) rfl;have r2 := b1.cell 2 (.bool s6) rfl;have r3 := b1.cell 3 (.slice A6 n6 c6) rfl;unfold set4 at r0 r1 r2 r3;refine bodyPost_ret (v := .tuple #[.agg #[.bool s5, .slice A5 n5 c5, .bool s6, .slice A6 n6 c6], .int .i64 0]) (by simp [results, Tryz.results78, go_sem, r0, r1, r2, r3]) rfl ⟨s5, A5, n5, c5, s6, A6, n6, c6, rfl, ⟨(b2 _ _ _ _ _ _ (h5.ext hx1)).le (by omega), (b2 _ _ _ _ _ _ h6).le (by omega)⟩, b3 _ (extW.trans E1_10) (by omega)⟩
theorem p_Make_nz (h : NI w z L s A n c) (k : NI w y M t B m d) (hL : L <= 3000) (hM : M <= 3000) (hy : y ≠ 0) (hT : Tab w) : Calls Tryz.prog 78 #[.agg #[.bool s, .slice A n c], .agg #[.bool t, .slice B m d]] w (RetNRE (mkQ z y) (max L M) w) := by
 rcases Int.lt_trichotomy y 0 with h1 | h1 | h1
 ·exact p_Make_neg h k hL hM h1 hT
 ·exact absurd h1 hy
 ·exact p_Make_pos h k hL hM h1 hT
end
section
variable {w w' : World} {z y : Int} {q p : Rat} {L M : Nat} {s t s' t' : Bool} {A B A' B' : Option Addr} {n c m d n' c' m' d' : Nat} {xs ys xs' ys' : List Nat}
theorem q_Make_pos (h : NI w z L s A n c) (k : NI w y M t B m d) (hL : L <= 3000) (hM : M <= 3000) (hy : 0 < y) : Calls Tryz.prog 92 #[.agg #[.bool s, .slice A n c], .agg #[.bool t, .slice B m d]] w (RetNR (mkQ z y) (max L M) w) := by
 have hs : y.sign = 1 := Int.sign_eq_one_of_pos hy;have hq : mkQ z y = mkRat z y.natAbs := if_neg (by omega);rw [hq];clear hq
 go_enter Tryz.func92, Tryz.ntmps92
 go_upto_region 1 with (fail)
 obtain ⟨W, hW, extW, bx, by_, bz, hz⟩ := box3 w 25 25 27 #[.bool s, .slice A n c] #[.bool t, .slice B m d] #[Value.bool false, Value.slice none 0 0, Value.bool false, Value.slice none 0 0];rw [<- hW];clear hW;replace h := h.ext extW;replace k := k.ext extW;have x0 := bx.cell 0 (.bool s) rfl;have x1 := bx.cell 1 (.slice A n c) rfl;have y0 := by_.cell 0 (.bool t) rfl;have y1 := by_.cell 1 (.slice B m d) rfl
 go_wp2_with fail
 refine (q_GCD h k (by omega) (by omega)).mono ?_;rintro e we ⟨s4, A4, n4, c4, rfl, hg, hxe⟩;obtain ⟨g, hge⟩ : ∃ g, Nat.gcd z.natAbs y.natAbs = g := ⟨_, rfl⟩;rw [hge] at hg;have hgz : g ∣ z.natAbs := by rw [<- hge]; exact Nat.gcd_dvd_left _ _
 have hgy : g ∣ y.natAbs := by rw [<- hge]; exact Nat.gcd_dvd_right _ _
 have hg0 : (g : Int) ≠ 0 := by
  intro h0;have : g = 0 := by omega
  rw [this] at hgy;have := Nat.eq_zero_of_zero_dvd hgy;omega
 clear x0 x1 y0 y1
 go_upto_region 2 with (fail)
 refine at_world (fun V => Ext W V /\ Box V we.heap.size 25 #[.bool s4, .slice A4 n4 c4] /\ NI V (g : Int) (max L M) s4 A4 n4 c4) ⟨hxe.alloc _, Box.new we _ _, hg.ext ((Ext.refl we).alloc _)⟩ ?_;have hsz : W.heap.size <= we.heap.size := hxe.size;generalize we.heap.size = g8 at *;clear hxe hg;rintro V ⟨EV, b8, hg⟩;replace bx := bx.ext EV;replace by_ := by_.ext EV;replace bz := bz.ext EV;replace h := h.ext EV;replace k := k.ext EV;replace extW := extW.trans EV;clear EV;have y0 := by_.cell 0 (.bool t) rfl;have y1 := by_.cell 1 (.slice B m d) rfl
 go_wp2_with fail
 refine (q_Sign k (by omega)).mono ?_;rintro e V2 ⟨rfl, hxa⟩;replace bx := bx.ext hxa;replace by_ := by_.ext hxa;replace bz := bz.ext hxa;replace b8 := b8.ext hxa;replace h := h.ext hxa;replace k := k.ext hxa;replace hg := hg.ext hxa;replace extW := extW.trans hxa;clear hxa y0 y1;rw [hs];obtain ⟨m1, m2⟩ := mkRat_parts z (D := y.natAbs) (by omega);rw [hge] at m1 m2;have Hm1 := Lib.hid m1;have Hm2 := Lib.hid m2;have Hg0 := Lib.hid hg0;have Hgz := Lib.hid (Int.ofNat_dvd_left.2 hgz);have Hgy := Lib.hid (Int.ofNat_dvd_left.2 hgy);have Hya := Lib.hid (show ((y.natAbs : Nat) : Int) = y from Int.natAbs_of_nonneg (by omega));clear hge hg0 hgz hgy m1 m2 hs
 go_upto_region 4 with (fail)
 refine wpL.st 7 (fun hQ ES => ?_);refine wpL.t 0 14 ?v_0 hQ ?y_0 ES ?_
 case y_0 => intro w' hSw;have k00 := (bx.ext hSw).c2;have k10 := (by_.ext hSw).c2;have k20 := (b8.ext hSw).c2;go_simp;try rfl
 try simp only [zP]
 refine wpL.t 1 15 ?v_1 hQ ?y_1 ES ?_
 case y_1 => intro w' hSw;have k00 := (bx.ext hSw).c2;have k10 := (by_.ext hSw).c2;have k20 := (b8.ext hSw).c2;go_simp;try rfl
 try simp only [zP]
 refine wpL.t 3 17 ?v_2 hQ ?y_2 ES ?_
 case y_2 => intro w' hSw;have k00 := (bx.ext hSw).c2;have k10 := (by_.ext hSw).c2;have k20 := (b8.ext hSw).c2;go_simp;try rfl
 try simp only [zP]
 refine wpL.t 4 18 ?v_3 hQ ?y_3 ES ?_
 case y_3 => intro w' hSw;have k00 := (bx.ext hSw).c2;have k10 := (by_.ext hSw).c2;have k20 := (b8.ext hSw).c2;go_simp;try rfl
 try simp only [zP]
 refine wpL.cl (i := 2) rfl (fun K hK => ?_);go_simp
 (go_at_call 105; refine (q_quo (h.ext ES) (hg.ext ES) (by omega) (by omega) Hg0.out Hgz.out).mono ?_; rintro e wk5 ⟨s5, A5, n5, c5, rfl, h5, hx0⟩; have E0_4 := Ext.trans ES hx0)
 refine hK.out _ _ E0_4 ?_;clear hK K
 try simp only [zP]
 refine wpL.cl (i := 5) rfl (fun K hK => ?_);go_simp
 (go_at_call 105; refine (q_quo (k.ext E0_4) (hg.ext E0_4) (by omega) (by omega) Hg0.out Hgy.out).mono ?_; rintro e wk6 ⟨s6, A6, n6, c6, rfl, h6, hx1⟩; have E1_4 := Ext.trans E0_4 hx1)
 refine hK.out _ _ E1_4 ?_;clear hK K
 try simp only [zP]
 refine wpL.t 6 20 ?v_4 hQ ?y_4 E1_4 ?_
 case y_4 => intro w' hSw;go_simp;try rfl
 try simp only [zP]
 have z0 := (bz.ext E1_4).cell 0 _ rfl;have z1 := (bz.ext E1_4).cell 1 _ rfl;have z2 := (bz.ext E1_4).cell 2 _ rfl;have z3 := (bz.ext E1_4).cell 3 _ rfl;have f0 := (bz.ext E1_4).frozen 0;have f1 := (bz.ext E1_4).frozen 1;have f2 := (bz.ext E1_4).frozen 2;have f3 := (bz.ext E1_4).frozen 3;refine wpL.tl (i := 7) rfl (fun K hK => ?_);go_simp;refine hK.out _ _ ?_;clear hK K
 try simp only [zP]
 refine wpL.done (by kernel_rfl) ?_ _;clear hQ
 go_wp2_with fail
 have hk1 : y / (g : Int) = ((mkRat z y.natAbs).den : Int) := by rw [Hm2.out, Int.natCast_ediv, Hya.out]
 rw [hk1] at h6;rw [<- Hm1.out] at h5;obtain ⟨b1, b2, b3, b4⟩ := fin_quad (s := s5) (A := A5) (n := n5) (c := c5) (t := s6) (B := A6) (m := n6) (d := c6) (bz.ext E1_4);have r0 := b1.cell 0 (.bool s5) rfl;have r1 := b1.cell 1 (.slice A5 n5 c5) rfl;have r2 := b1.cell 2 (.bool s6) rfl;have r3 := b1.cell 3 (.slice A6 n6 c6) rfl;unfold set4 at r0 r1 r2 r3;refine bodyPost_ret (v := .agg #[.bool s5, .slice A5 n5 c5, .bool s6, .slice A6 n6 c6]) (by simp [results, Tryz.results92, go_sem, r0, r1, r2, r3]) rfl ⟨s5, A5, n5, c5, s6, A6, n6, c6, rfl, ⟨?_, ?_⟩, b3 _ (extW.trans E1_4) (by omega)⟩
 ·exact (b2 _ _ _ _ _ _ (h5.ext hx1)).le (by omega)
 ·exact (b2 _ _ _ _ _ _ h6).le (by omega)
theorem q_Make_neg (h : NI w z L s A n c) (k : NI w y M t B m d) (hL : L <= 3000) (hM : M <= 3000) (hy : y < 0) : Calls Tryz.prog 92 #[.agg #[.bool s, .slice A n c], .agg #[.bool t, .slice B m d]] w (RetNR (mkQ z y) (max L M) w) := by
 have hs : y.sign = -1 := Int.sign_eq_neg_one_of_neg hy;have hq : mkQ z y = mkRat (-z) (-y).natAbs := if_pos hy;rw [hq, Int.natAbs_neg];clear hq
 go_enter Tryz.func92, Tryz.ntmps92
 go_upto_region 1 with (fail)
 obtain ⟨W, hW, extW, bx, by_, bz, hz⟩ := box3 w 25 25 27 #[.bool s, .slice A n c] #[.bool t, .slice B m d] #[Value.bool false, Value.slice none 0 0, Value.bool false, Value.slice none 0 0];rw [<- hW];clear hW;replace h := h.ext extW;replace k := k.ext extW;have x0 := bx.cell 0 (.bool s) rfl;have x1 := bx.cell 1 (.slice A n c) rfl;have y0 := by_.cell 0 (.bool t) rfl;have y1 := by_.cell 1 (.slice B m d) rfl
 go_wp2_with fail
 refine (q_GCD h k (by omega) (by omega)).mono ?_;rintro e we ⟨s4, A4, n4, c4, rfl, hg, hxe⟩;obtain ⟨g, hge⟩ : ∃ g, Nat.gcd z.natAbs y.natAbs = g := ⟨_, rfl⟩;rw [hge] at hg;have hgz : g ∣ z.natAbs := by rw [<- hge]; exact Nat.gcd_dvd_left _ _
 have hgy : g ∣ y.natAbs := by rw [<- hge]; exact Nat.gcd_dvd_right _ _
 have hg0 : (g : Int) ≠ 0 := by
  intro h0;have : g = 0 := by omega
  rw [this] at hgy;have := Nat.eq_zero_of_zero_dvd hgy;omega
 clear x0 x1 y0 y1
 go_upto_region 2 with (fail)
 refine at_world (fun V => Ext W V /\ Box V we.heap.size 25 #[.bool s4, .slice A4 n4 c4] /\ NI V (g : Int) (max L M) s4 A4 n4 c4) ⟨hxe.alloc _, Box.new we _ _, hg.ext ((Ext.refl we).alloc _)⟩ ?_;have hsz : W.heap.size <= we.heap.size := hxe.size;generalize we.heap.size = g8 at *;clear hxe hg;rintro V ⟨EV, b8, hg⟩;replace bx := bx.ext EV;replace by_ := by_.ext EV;replace bz := bz.ext EV;replace h := h.ext EV;replace k := k.ext EV;replace extW := extW.trans EV;clear EV;have y0 := by_.cell 0 (.bool t) rfl;have y1 := by_.cell 1 (.slice B m d) rfl
 go_wp2_with fail
 refine (q_Sign k (by omega)).mono ?_;rintro e V2 ⟨rfl, hxa⟩;replace bx := bx.ext hxa;replace by_ := by_.ext hxa;replace bz := bz.ext hxa;replace b8 := b8.ext hxa;replace h := h.ext hxa;replace k := k.ext hxa;replace hg := hg.ext hxa;replace extW := extW.trans hxa;clear hxa y0 y1;rw [hs];obtain ⟨m1, m2⟩ := mkRat_parts (-z) (D := (-y).natAbs) (by omega);rw [Int.natAbs_neg, Int.natAbs_neg, hge] at m1 m2;have e1 : z / (-(g : Int)) = (-z) / (g : Int) := by rw [Int.ediv_neg, Int.neg_ediv_of_dvd (Int.ofNat_dvd_left.2 hgz)]
 have e2 : y / (-(g : Int)) = (-y) / (g : Int) := by rw [Int.ediv_neg, Int.neg_ediv_of_dvd (Int.ofNat_dvd_left.2 hgy)]
 have He1 := Lib.hid (show z / (-(g : Int)) = (mkRat (-z) y.natAbs).num by rw [e1, m1]);have He2 := Lib.hid (show y / (-(g : Int)) = ((mkRat (-z) y.natAbs).den : Int) by rw [e2, m2, Int.natCast_ediv]; congr 1; omega);have Hg0 := Lib.hid (show -(g : Int) ≠ 0 by omega);have Hgz := Lib.hid (Int.neg_dvd.2 (Int.ofNat_dvd_left.2 hgz));have Hgy := Lib.hid (Int.neg_dvd.2 (Int.ofNat_dvd_left.2 hgy));clear hge hg0 hgz hgy m1 m2 hs e1 e2;have x0 := b8.cell 0 (.bool s4) rfl;have x1 := b8.cell 1 (.slice A4 n4 c4) rfl
 go_wp2_with fail
 refine (q_Neg hg (by omega)).mono ?_;rintro e V3 ⟨s3, A3, n3, c3, rfl, hg2, hxb⟩;replace bx := bx.ext hxb;replace by_ := by_.ext hxb;replace bz := bz.ext hxb;replace b8 := b8.ext hxb;replace h := h.ext hxb;replace k := k.ext hxb;replace extW := extW.trans hxb;clear x0 x1 hg;have z0 := b8.cell 0 _ rfl;have z1 := b8.cell 1 _ rfl;have f0 := b8.frozen 0;have f1 := b8.frozen 1
 go_upto_region 4 with (fail)
 refine at_world (fun U => Ext w U /\ Box U w.heap.size 25 #[.bool s, .slice A n c] /\ Box U (w.heap.size + 1) 25 #[.bool t, .slice B m d] /\ Box U (w.heap.size + 1 + 1) 27 #[Value.bool false, Value.slice none 0 0, Value.bool false, Value.slice none 0 0] /\ Box U g8 25 #[.bool s3, .slice A3 n3 c3] /\ NI U z L s A n c /\ NI U y M t B m d /\ NI U (-(g : Int)) (max L M) s3 A3 n3 c3) ?_ ?_
 ·have q1 := fin_dual (s := s3) (A := A3) (n := n3) (c := c3) b8
  exact ⟨q1.2.2.1 _ extW (by omega), q1.2.2.2 _ _ _ (by omega) bx, q1.2.2.2 _ _ _ (by omega) by_, q1.2.2.2 _ _ _ (by omega) bz, q1.1, q1.2.1 _ _ _ _ _ _ h, q1.2.1 _ _ _ _ _ _ k, q1.2.1 _ _ _ _ _ _ hg2⟩
 clear extW bx by_ bz b8 h k hg2 z0 z1 f0 f1;rintro U ⟨extW, bx, by_, bz, b8, h, k, hg⟩;refine wpL.st 7 (fun hQ ES => ?_);refine wpL.t 0 14 ?v_0 hQ ?y_0 ES ?_
 case y_0 => intro w' hSw;have k00 := (bx.ext hSw).c2;have k10 := (by_.ext hSw).c2;have k20 := (b8.ext hSw).c2;go_simp;try rfl
 try simp only [zP]
 refine wpL.t 1 15 ?v_1 hQ ?y_1 ES ?_
 case y_1 => intro w' hSw;have k00 := (bx.ext hSw).c2;have k10 := (by_.ext hSw).c2;have k20 := (b8.ext hSw).c2;go_simp;try rfl
 try simp only [zP]
 refine wpL.t 3 17 ?v_2 hQ ?y_2 ES ?_
 case y_2 => intro w' hSw;have k00 := (bx.ext hSw).c2;have k10 := (by_.ext hSw).c2;have k20 := (b8.ext hSw).c2;go_simp;try rfl
 try simp only [zP]
 refine wpL.t 4 18 ?v_3 hQ ?y_3 ES ?_
 case y_3 => intro w' hSw;have k00 := (bx.ext hSw).c2;have k10 := (by_.ext hSw).c2;have k20 := (b8.ext hSw).c2;go_simp;try rfl
 try simp only [zP]
 refine wpL.cl (i := 2) rfl (fun K hK => ?_);go_simp
 (go_at_call 105; refine (q_quo (h.ext ES) (hg.ext ES) (by omega) (by omega) Hg0.out Hgz.out).mono ?_; rintro e wk5 ⟨s5, A5, n5, c5, rfl, h5, hx0⟩; have E0_4 := Ext.trans ES hx0)
 refine hK.out _ _ E0_4 ?_;clear hK K
 try simp only [zP]
 refine wpL.cl (i := 5) rfl (fun K hK => ?_);go_simp
 (go_at_call 105; refine (q_quo (k.ext E0_4) (hg.ext E0_4) (by omega) (by omega) Hg0.out Hgy.out).mono ?_; rintro e wk6 ⟨s6, A6, n6, c6, rfl, h6, hx1⟩; have E1_4 := Ext.trans E0_4 hx1)
 refine hK.out _ _ E1_4 ?_;clear hK K
 try simp only [zP]
 refine wpL.t 6 20 ?v_4 hQ ?y_4 E1_4 ?_
 case y_4 => intro w' hSw;go_simp;try rfl
 try simp only [zP]
 have z0 := (bz.ext E1_4).cell 0 _ rfl;have z1 := (bz.ext E1_4).cell 1 _ rfl;have z2 := (bz.ext E1_4).cell 2 _ rfl;have z3 := (bz.ext E1_4).cell 3 _ rfl;have f0 := (bz.ext E1_4).frozen 0;have f1 := (bz.ext E1_4).frozen 1;have f2 := (bz.ext E1_4).frozen 2;have f3 := (bz.ext E1_4).frozen 3;refine wpL.tl (i := 7) rfl (fun K hK => ?_);go_simp;refine hK.out _ _ ?_;clear hK K
 try simp only [zP]
 refine wpL.done (by kernel_rfl) ?_ _;clear hQ
 go_wp2_with fail
 rw [He2.out] at h6;rw [He1.out] at h5;obtain ⟨b1, b2, b3, b4⟩ := fin_quad (s := s5) (A := A5) (n := n5) (c := c5) (t := s6) (B := A6) (m := n6) (d := c6) (bz.ext E1_4);have r0 := b1.cell 0 (.bool s5) rfl;have r1 := b1.cell 1 (.slice A5 n5 c5) rfl;have r2 := b1.cell 2 (.bool s6) rfl;have r3 := b1.cell 3 (.slice A6 n6 c6) rfl;unfold set4 at r0 r1 r2 r3;refine bodyPost_ret (v := .agg #[.bool s5, .slice A5 n5 c5, .bool s6, .slice A6 n6 c6]) (by simp [results, Tryz.results92, go_sem, r0, r1, r2, r3]) rfl ⟨s5, A5, n5, c5, s6, A6, n6, c6, rfl, ⟨?_, ?_⟩, b3 _ (extW.trans E1_4) (by omega)⟩
 ·exact (b2 _ _ _ _ _ _ (h5.ext hx1)).le (by omega)
 ·exact (b2 _ _ _ _ _ _ h6).le (by omega)
theorem q_Make_nz (h : NI w z L s A n c) (k : NI w y M t B m d) (hL : L <= 3000) (hM : M <= 3000) (hy : y ≠ 0) : Calls Tryz.prog 92 #[.agg #[.bool s, .slice A n c], .agg #[.bool t, .slice B m d]] w (RetNR (mkQ z y) (max L M) w) := by
 rcases Int.lt_trichotomy y 0 with h1 | h1 | h1
 ·exact q_Make_neg h k hL hM h1
 ·exact absurd h1 hy
 ·exact q_Make_pos h k hL hM h1
theorem q_Frac (a b : Int) (ha : -9223372036854775808 <= a) (ha' : a < 9223372036854775808) (hb : -9223372036854775808 <= b) (hb' : b < 9223372036854775808) : Calls Tryz.prog 47 #[.int .i64 a, .int .i64 b] w (RetNR (mkQ a b) 2 w) := by
 by_cases h0 : b = 0
 ·have hq : ((0 : Int) : Rat) = mkQ a b := by rw [h0]; unfold mkQ; rw [if_neg (by omega)]; exact (Rat.mkRat_zero a).symm
  rw [<- hq];subst h0;clear hq
  go_enter Tryz.func47, Tryz.ntmps47
  go_upto_region 1 with (fail)
  obtain ⟨W, hW, extW, bz, hz⟩ := box1 w 27 #[Value.bool false, Value.slice none 0 0, Value.bool false, Value.slice none 0 0];rw [<- hW];clear hW
  go_wp2_with fail
  refine (q_FromIntR 0 (by omega) (by omega)).mono ?_;rintro e wd ⟨s3, A3, n3, c3, s4, A4, n4, c4, rfl, hr, hx3⟩;have z0 := (bz.ext hx3).cell 0 _ rfl;have z1 := (bz.ext hx3).cell 1 _ rfl;have z2 := (bz.ext hx3).cell 2 _ rfl;have z3 := (bz.ext hx3).cell 3 _ rfl;have f0 := (bz.ext hx3).frozen 0;have f1 := (bz.ext hx3).frozen 1;have f2 := (bz.ext hx3).frozen 2;have f3 := (bz.ext hx3).frozen 3
  go_wp2_with fail
  obtain ⟨b1, b2, b3, b4⟩ := fin_quad (s := s3) (A := A3) (n := n3) (c := c3) (t := s4) (B := A4) (m := n4) (d := c4) (bz.ext hx3);have r0 := b1.cell 0 (.bool s3) rfl;have r1 := b1.cell 1 (.slice A3 n3 c3) rfl;have r2 := b1.cell 2 (.bool s4) rfl;have r3 := b1.cell 3 (.slice A4 n4 c4) rfl;unfold set4 at r0 r1 r2 r3;refine bodyPost_ret (v := .agg #[.bool s3, .slice A3 n3 c3, .bool s4, .slice A4 n4 c4]) (by simp [results, Tryz.results47, go_sem, r0, r1, r2, r3]) rfl ⟨s3, A3, n3, c3, s4, A4, n4, c4, rfl, ⟨?_, ?_⟩, b3 _ (extW.trans hx3) (by omega)⟩
  ·exact b2 _ _ _ _ _ _ hr.num
  ·exact b2 _ _ _ _ _ _ hr.den
 ·have hb0 : (b == 0) = false := beq_eq_false_iff_ne.2 h0
  go_enter Tryz.func47, Tryz.ntmps47
  go_upto_region 1 with (fail)
  obtain ⟨W, hW, extW, bz, hz⟩ := box1 w 27 #[Value.bool false, Value.slice none 0 0, Value.bool false, Value.slice none 0 0];rw [<- hW];clear hW
  go_wp2_with fail
  refine (q_FromInt a ha ha').mono ?_;rintro e wa ⟨s1, A1, n1, c1, rfl, h1, hx0⟩
  go_wp2_with fail
  refine (q_FromInt b hb hb').mono ?_;rintro e wb ⟨s2, A2, n2, c2, rfl, h2, hx1⟩
  go_wp2_with fail
  refine (q_Make_nz (h1.ext hx1) h2 (by omega) (by omega) h0).mono ?_;rintro e wc ⟨s3, A3, n3, c3, s4, A4, n4, c4, rfl, hr, hx2⟩;have hE := hx0.trans (hx1.trans hx2);have z0 := (bz.ext hE).cell 0 _ rfl;have z1 := (bz.ext hE).cell 1 _ rfl;have z2 := (bz.ext hE).cell 2 _ rfl;have z3 := (bz.ext hE).cell 3 _ rfl;have f0 := (bz.ext hE).frozen 0;have f1 := (bz.ext hE).frozen 1;have f2 := (bz.ext hE).frozen 2;have f3 := (bz.ext hE).frozen 3
  go_wp2_with fail
  obtain ⟨b1, b2, b3, b4⟩ := fin_quad (s := s3) (A := A3) (n := n3) (c := c3) (t := s4) (B := A4) (m := n4) (d := c4) (bz.ext hE);have r0 := b1.cell 0 (.bool s3) rfl;have r1 := b1.cell 1 (.slice A3 n3 c3) rfl;have r2 := b1.cell 2 (.bool s4) rfl;have r3 := b1.cell 3 (.slice A4 n4 c4) rfl;unfold set4 at r0 r1 r2 r3;refine bodyPost_ret (v := .agg #[.bool s3, .slice A3 n3 c3, .bool s4, .slice A4 n4 c4]) (by simp [results, Tryz.results47, go_sem, r0, r1, r2, r3]) rfl ⟨s3, A3, n3, c3, s4, A4, n4, c4, rfl, ⟨?_, ?_⟩, b3 _ (extW.trans hE) (by omega)⟩
  ·exact b2 _ _ _ _ _ _ hr.num
  ·exact b2 _ _ _ _ _ _ hr.den
end
end
section
open Go.RowKit
section
variable {w w' : World} {g g' : Nat} {bs : List UInt8}
end
theorem owns_ext {w w' : World} {base : Nat} {e : TypeId} {size : Nat} {v : Value} {n : Nat} {xs : List Value} (h : w.ownsRow base e size v n xs) (k : Ext w w') : w'.ownsRow base e size v n xs := by
 refine ⟨h.1, h.2.imp id ?_⟩;rintro ⟨g, cap, cur, hv, hb, hh, h1⟩;have hb' : Below w.heap.size w w' := k
 have hlt : g < w.heap.size := by
  rcases Nat.lt_or_ge g w.heap.size with hlt | hge
  ·exact hlt
  ·rw [Array.getElem?_eq_none hge] at hh; cases hh
 exact ⟨g, cap, cur, hv, hb, (hb'.block g hlt).trans hh, h1⟩
theorem owns_nil (w : World) (base : Nat) (e : TypeId) (size : Nat) : w.ownsRow base e size (.slice none 0 0) 0 [] := ⟨by simp, .inl ⟨rfl, rfl⟩⟩
theorem owns_block {w : World} {base : Nat} {e : TypeId} {size : Nat} {v : Value} {n : Nat} {xs : List Value} (h : w.ownsRow base e size v n xs) : ∀ k, v.ownBlock = some k -> base <= k := by
 intro k hk
 rcases h.2 with ⟨rfl, _⟩ | ⟨g, cap, cur, rfl, hb, _⟩
 ·cases hk
 ·injection hk with hk
  subst hk;exact hb
theorem info_partsB {P : Program} {e : TypeId} {z : Value} {a b : Nat} (h : (P.info? e).map (fun i => (i.zero, i.size, i.bytes)) = some (some z, a, b)) : ∃ i, P.info? e = some i /\ i.zero = some z /\ i.size = a /\ i.bytes = b := by
 cases hi : P.info? e with
 | none => rw [hi] at h; cases h
 | some i =>
  rw [hi] at h;simp only [Option.map_some, Option.some.injEq, Prod.mk.injEq] at h;exact ⟨i, rfl, h.1, h.2.1, h.2.2⟩
section
variable {A : Option Addr} {c n : Nat} {xs : List Nat} {w : World}
end
end
section
open Go.RowKit Go.Sort Go.Lib
section
variable {w : World}
end
end
section
open Go.RowKit
attribute [local go_sem ↓] Go.wp_at_zero Go.wp_at_succ
section
variable {A : Option Addr} {c n : Nat} {xs : List Nat} {w : World} {s : Bool}
end
section
variable {w w' : World} {q p r : Rat} {L : Nat} {s t s' t' u u' : Bool} {A B A' B' C D : Option Addr} {n c m d n' c' m' d' l e0 l' e' : Nat} {xs ys xs' ys' zs zs' : List Nat}
variable {z y : Int} {M : Nat}
theorem p_Div_nz (h : NR w q L s A n c t B m d) (k : NR w p M s' A' n' c' t' B' m' d') (hL : L <= 1000) (hM : M <= 1000) (h64 : min L M < 64) (hT : Tab w) (hp : p ≠ 0) : Calls Tryz.prog 86 #[.agg #[.bool s, .slice A n c, .bool t, .slice B m d], .agg #[.bool s', .slice A' n' c', .bool t', .slice B' m' d']] w (RetNRE (q / p) (L + M) w) := by
 rcases Int.lt_trichotomy p.num 0 with h1 | h1 | h1
 ·exact p_Div_neg h k hL hM h64 hT h1
 ·exact absurd (Rat.num_eq_zero.1 h1) hp
 ·exact p_Div_pos h k hL hM h64 hT h1
end
end
section
end
section
open Go.RowKit
def RatAt (w : World) (b o : Nat) (q : Rat) (L : Nat) : Prop :=
 ∃ s A n c t B m d, w.cell? ⟨b, o, none⟩ = some (.bool s) /\ w.cell? ⟨b, o + 1, none⟩ = some (.slice A n c) /\ w.cell? ⟨b, o + 2, none⟩ = some (.bool t) /\ w.cell? ⟨b, o + 3, none⟩ = some (.slice B m d) /\ NR w q L s A n c t B m d
structure RatsAt (w : World) (b o : Nat) (qs : List Rat) (L : Nat) : Prop where
 at_ : ∀ i (h : i < qs.length), RatAt w b (o + 4 * i) qs[i] L
inductive CellsOf (w : World) (L : Nat) : List Rat -> List Value -> Prop
 | nil : CellsOf w L [] []
 | cons {q : Rat} {qs : List Rat} {s : Bool} {A : Option Addr} {n c : Nat} {t : Bool} {B : Option Addr} {m d : Nat} {cs : List Value} : NR w q L s A n c t B m d -> CellsOf w L qs cs -> CellsOf w L (q :: qs) (.bool s :: .slice A n c :: .bool t :: .slice B m d :: cs)
section
variable {w w' : World} {q lo hi : Rat} {L M : Nat} {s t s' t' : Bool} {A B A' B' : Option Addr} {n c m d n' c' m' d' b o : Nat} {qs ps : List Rat} {cs ds : List Value}
theorem RatAt.ext (h : RatAt w b o q L) (e : Ext w w') : RatAt w' b o q L := by
 obtain ⟨s, A, n, c, t, B, m, d, h0, h1, h2, h3, h4⟩ := h;exact ⟨s, A, n, c, t, B, m, d, e.cellv h0, e.cellv h1, e.cellv h2, e.cellv h3, h4.ext e⟩
theorem RatsAt.ext (h : RatsAt w b o qs L) (e : Ext w w') : RatsAt w' b o qs L := ⟨fun i hi => (h.at_ i hi).ext e⟩
theorem CellsOf.ext (h : CellsOf w L qs cs) (e : Ext w w') : CellsOf w' L qs cs := by
 induction h with
 | nil => exact .nil
 | cons h _ ih => exact .cons (h.ext e) ih
theorem CellsOf.len (h : CellsOf w L qs cs) : cs.length = qs.length * 4 := by
 induction h with
 | nil => rfl
 | cons _ _ ih => simp only [List.length_cons, ih]; omega
theorem CellsOf.append (h : CellsOf w L qs cs) (k : CellsOf w L ps ds) : CellsOf w L (qs ++ ps) (cs ++ ds) := by
 induction h with
 | nil => exact k
 | cons h _ ih => exact .cons h ih
theorem CellsOf.get (h : CellsOf w L qs cs) : ∀ i (hi : i < qs.length), ∃ s A n c t B m d, cs[4 * i]? = some (.bool s) /\ cs[4 * i + 1]? = some (.slice A n c) /\ cs[4 * i + 2]? = some (.bool t) /\ cs[4 * i + 3]? = some (.slice B m d) /\ NR w qs[i] L s A n c t B m d := by
 induction h with
 | nil => intro i hi; simp at hi
 | @cons q qs s A n c t B m d cs h _ ih =>
  intro i hi
  cases i with
  | zero => exact ⟨s, A, n, c, t, B, m, d, rfl, rfl, rfl, rfl, h⟩
  | succ i =>
   obtain ⟨s1, A1, n1, c1, t1, B1, m1, d1, k0, k1, k2, k3, k4⟩ := ih i (by simpa using hi);refine ⟨s1, A1, n1, c1, t1, B1, m1, d1, ?_, ?_, ?_, ?_, k4⟩
   ·rw [show 4 * (i + 1) = 4 * i + 1 + 1 + 1 + 1 by omega]; exact k0
   ·rw [show 4 * (i + 1) + 1 = 4 * i + 1 + 1 + 1 + 1 + 1 by omega]; exact k1
   ·rw [show 4 * (i + 1) + 2 = 4 * i + 2 + 1 + 1 + 1 + 1 by omega]; exact k2
   ·rw [show 4 * (i + 1) + 3 = 4 * i + 3 + 1 + 1 + 1 + 1 by omega]; exact k3
theorem CellsOf.one (h : CellsOf w L qs cs) : ∀ u ∈ cs, u.oneCell' = true := by
 induction h with
 | nil => intro u hu; cases hu
 | cons _ _ ih =>
  intro u hu;simp only [List.mem_cons] at hu
  rcases hu with rfl | rfl | rfl | rfl | hu
  ·rfl
  ·rfl
  ·rfl
  ·rfl
  ·exact ih u hu
theorem RatsAt.of_box {g : Nat} {T : TypeId} (hb : Box w g T cs.toArray) (h : CellsOf w L qs cs) : RatsAt w g 0 qs L := by
 refine ⟨fun i hi => ?_⟩;obtain ⟨s, A, n, c, t, B, m, d, k0, k1, k2, k3, k4⟩ := h.get i hi;rw [Nat.zero_add];exact ⟨s, A, n, c, t, B, m, d, hb.cell (4 * i) _ (by simpa using k0), hb.cell (4 * i + 1) _ (by simpa using k1), hb.cell (4 * i + 2) _ (by simpa using k2), hb.cell (4 * i + 3) _ (by simpa using k3), k4⟩
def RatsOwn (w : World) (base : Nat) (v : Value) (qs : List Rat) (L : Nat) : Prop := ∃ cs, w.ownsRow base 27 4 v qs.length cs /\ CellsOf w L qs cs
theorem RatsOwn.rd {base g cap k : Nat} (h : RatsOwn w base (.slice (some ⟨g, 0, none⟩) k cap) qs L) : RatsAt w g 0 qs L := by
 obtain ⟨cs, ⟨hl, h1⟩, h2⟩ := h
 rcases h1 with ⟨h1, _⟩ | ⟨g', cap', cur, h1, _, hg, hn, _, hsz, htk⟩
 ·cases h1
 ·injection h1 with h1
  injection h1 with h1
  injection h1 with h1
  subst h1
  have hcell : ∀ j u, cs[j]? = some u -> w.cell? ⟨g, j, none⟩ = some u := by
   intro j u hu
   have hj : j < cs.length := by
    rcases Nat.lt_or_ge j cs.length with h | h
    ·exact h
    ·rw [List.getElem?_eq_none h] at hu; cases hu
   rw [<- htk, List.getElem?_take, if_pos (by rw [<- hl]; exact hj)] at hu;rw [cell_of_row w g j _ _ (0, 0) hg]
   simpa using hu
  refine ⟨fun i hi => ?_⟩;obtain ⟨s, A, n, c, t, B, m, d, k0, k1, k2, k3, k4⟩ := h2.get i hi;rw [Nat.zero_add];exact ⟨s, A, n, c, t, B, m, d, hcell _ _ k0, hcell _ _ k1, hcell _ _ k2, hcell _ _ k3, k4⟩
end
end
section
open Go.RowKit
attribute [local go_sem ↓] Go.wp_at_zero Go.wp_at_succ
section
variable {w w' : World} {q p lo hi : Rat} {L M : Nat} {s t s' t' : Bool} {A B A' B' : Option Addr} {n c m d n' c' m' d' : Nat} {qs : List Rat}
end
end
section
open Go.RowKit
def NWL (l : List Value) : Prop := ∀ u ∈ l, ∀ k, u ≠ .int .u32 k
theorem NWL.arr {l : List Value} (h : NWL l) : NoWord l.toArray := by
 intro i k hk;exact h _ (List.mem_of_getElem? (by simpa using hk)) k rfl
theorem NWL.of {cs : Array Value} (h : NoWord cs) : NWL cs.toList := by
 intro u hu k e;obtain ⟨i, hi⟩ := List.mem_iff_getElem?.1 hu;exact h i k (by rw [<- e, <- hi]; simp)
theorem NWL.append {l l' : List Value} (h : NWL l) (h' : NWL l') : NWL (l ++ l') := by
 intro u hu
 rcases List.mem_append.1 hu with hu | hu
 ·exact h u hu
 ·exact h' u hu
theorem NWL.take {l : List Value} (h : NWL l) (n : Nat) : NWL (l.take n) := fun u hu => h u (List.mem_of_mem_take hu)
theorem NWL.drop {l : List Value} (h : NWL l) (n : Nat) : NWL (l.drop n) := fun u hu => h u (List.mem_of_mem_drop hu)
theorem NWL.zero {z : Array Value} (h : NWL z.toList) (n : Nat) : NWL (Builtin.zeroCells z n).toList := by
 intro u hu k e;simp only [Builtin.zeroCells, Array.mem_toList_iff, Array.mem_map, Array.mem_range] at hu;obtain ⟨i, hi, rfl⟩ := hu
 have hz : 0 < z.size := by
  rcases Nat.eq_zero_or_pos z.size with h0 | h0
  ·rw [h0] at hi; omega
  ·exact h0
 have hm : i % z.size < z.size := Nat.mod_lt _ hz;rw [getElem!_pos z _ hm] at e;exact h _ (by simp) k e
theorem NWL.arr' {cs : Array Value} (h : NWL cs.toList) : NoWord cs := h.arr
def NWB (w : World) (v : Value) : Prop := ∀ g, v.ownBlock = some g -> ∃ cur e fz, w.heap[g]? = some (.cells cur e fz) /\ NoWord cur
section
variable {P : Program} {w : World}
theorem run_append_nw {base : Nat} {t ty e : TypeId} {i : TypeInfo} {z : Value} {bytes : Nat} (ht : P.underlying t = some (.slice e)) (hi : P.info? e = some i) (hz : i.zero = some z)
  (hby : i.bytes = bytes) (hzs : z.cells.size = i.size) (hsz : 0 < i.size) (hzw : NWL z.cells.toList)
  {v : Value} {n : Nat} {xs : List Value} (hown : w.ownsRow base e i.size v n xs) (hv : NWB w v)
  {a : Addr} {m c : Nat} {news : List Value} (hl : news.length = m * i.size) (hnews : ∀ j u, news[j]? = some u -> w.cell? (a.add j) = some u) (h1 : ∀ u ∈ news, u.oneCell' = true) (hnw : NWL news) (hm : 0 < m)
  (h63 : n + m <= maxLen) (hbytes : (n + m) * bytes <= 140737488355328) (hbase : base <= w.heap.size) :
  ∃ v' w', (Builtin.append_ #[t, t] ty #[v, .slice (some a) m c]).run P w = .ok v' w' /\ w'.ownsRow base e i.size v' (n + m) (xs ++ news) /\ w.grownBy w' v.ownBlock /\
   (v'.ownBlock = v.ownBlock \/ v'.ownBlock = some w.heap.size) /\ NWB w' v' := by
 obtain ⟨v', w', hr, h2, h3, _, h5⟩ := run_append_own_at (P := P) w base t ty e i z i.size bytes ht hi hz rfl hby hzs hsz v n xs hown a m c news hl hnews h1 h63 hbytes hbase;refine ⟨v', w', hr, h2, h3, h5, ?_⟩;subst hby;have hsmall : n + m <= 9223372036854775807 := by simp only [maxLen] at h63; omega
 rcases hown.2 with ⟨rfl, rfl⟩ | ⟨g, cap, cur, rfl, hbg, hg, hnc, hcm, hcs, htake⟩
 ·have hr2 := run_append_nil (P := P) w t ty e i z ht hi hz a m c news hl hnews hm (by omega) (by have hb := hbytes; simp only [Nat.zero_add] at hb; omega)
  rw [hr] at hr2
  injection hr2 with e1 e2
  subst e1 e2;intro g hg
  injection hg with hg
  subst hg;refine ⟨_, _, _, heap_alloc_new w.drew _, ?_⟩;refine NWL.arr' ?_;rw [Array.toList_append];exact hnw.append (hzw.zero _)
 ·obtain ⟨cur', e', fz, hg', hcw⟩ := hv g rfl
  rw [hg] at hg'
  injection hg' with hg'
  injection hg' with q1 q2 q3
  subst q1;have hc := NWL.of hcw
  by_cases hroom : n + m <= cap
  ·have hfit : n * i.size + news.length <= cur.size := by rw [hl, hcs, <- Nat.add_mul]; exact Nat.mul_le_mul_right _ hroom
   have hr2 := run_append_room (P := P) w t ty e i ht hi g n cap cur hg a m c news hl hnews h1 hroom hfit;rw [hr] at hr2
   injection hr2 with e1 e2
   subst e1 e2;intro g' hg'
   injection hg' with hg'
   subst hg';exact ⟨_, _, _, setRow_heap w g cur _ e _ hg, (((hc.take _).append hnw).append (hc.drop _)).arr⟩
  ·have holds : ∀ j u, xs[j]? = some u -> w.cell? ((⟨g, 0, none⟩ : Addr).add j) = some u := hown.cells (g := g) rfl
   have hr2 := run_append_grow (P := P) w t ty e i z ht hi hz ⟨g, 0, none⟩ n cap xs hown.1 holds a m c news hl hnews (by omega) (by omega) (growslice_fits (by omega) hbytes);rw [hr] at hr2
   injection hr2 with e1 e2
   subst e1 e2;intro g' hg'
   injection hg' with hg'
   subst hg';refine ⟨_, _, _, heap_alloc_new w.drew _, ?_⟩;have hx : NWL xs := by rw [<- htake]; exact hc.take _
   refine NWL.arr' ?_;rw [Array.toList_append, Array.toList_append];exact (hx.append hnw).append (hzw.zero _)
variable {w' : World} {A A' B B' : Option Addr} {xs : List Nat} {v : Value} {z : Int} {L n c m d n' c' m' d' : Nat} {s t s' t' : Bool} {q lo hi : Rat}
theorem ext_none (h : w.grownBy w' none) : Ext w w' := ⟨h.os, h.tape, h.output, h.size, fun i hi => h.block i hi (by simp)⟩
theorem Rd.own (h : Rd w A xs) (hv : NWB w v) (k : w.grownBy w' v.ownBlock) : Rd w' A xs := by
 cases hb : v.ownBlock with
 | none => rw [hb] at k; exact h.ext (ext_none k)
 | some g =>
  rw [hb] at k;refine h.mod k ?_;intro hx a ha hag;obtain ⟨b, off, hA, _, hc⟩ := h.2 hx;rw [ha] at hA
  injection hA with hA
  subst hA;obtain ⟨cur, e, fz, hg, hn⟩ := hv g hb;have h0 : 0 < xs.length := List.length_pos_iff.2 hx;have hc0 := hc 0 h0;have hag' : b = g := hag;subst hag';rw [cell_of_row w b _ _ _ _ hg] at hc0;exact hn _ _ hc0
theorem NI.own (h : NI w z L s A n c) (hv : NWB w v) (k : w.grownBy w' v.ownBlock) : NI w' z L s A n c := by
 obtain ⟨xs, h1, h2, h3⟩ := h.out;exact ⟨xs, h1, h2.own hv k, h3⟩
theorem NR.own (h : NR w q L s A n c t B m d) (hv : NWB w v) (k : w.grownBy w' v.ownBlock) : NR w' q L s A n c t B m d := ⟨h.num.own hv k, h.den.own hv k⟩
theorem CellsOf.own {qs : List Rat} {cs : List Value} (h : CellsOf w L qs cs) (hv : NWB w v) (k : w.grownBy w' v.ownBlock) : CellsOf w' L qs cs := by
 induction h with
 | nil => exact .nil
 | cons h _ ih => exact .cons (h.own hv k) ih
theorem CellsOf.nwl {qs : List Rat} {cs : List Value} (h : CellsOf w L qs cs) : NWL cs := by
 induction h with
 | nil => intro u hu; cases hu
 | cons _ _ ih =>
  intro u hu;simp only [List.mem_cons] at hu
  rcases hu with rfl | rfl | rfl | rfl | hu
  ·intro k e; cases e
  ·intro k e; cases e
  ·intro k e; cases e
  ·intro k e; cases e
  ·exact ih u hu
end
theorem Tryz.infoR : (Tryz.prog.info? 27).map (fun i => (i.zero, i.size, i.bytes)) = some (some (.agg #[.bool false, .slice none 0 0, .bool false, .slice none 0 0]), 4, 64) := by kernel_rfl
structure Row4 (w : World) (base : Nat) (v : Value) (qs : List Rat) (L : Nat) : Prop where
 own : RatsOwn w base v qs L
 nwb : NWB w v
section
variable {w w' : World} {base L M : Nat} {v : Value} {qs : List Rat} {q : Rat} {s t : Bool} {A B : Option Addr} {n c m d g : Nat}
theorem NWB.ext (h : NWB w v) (e : Ext w w') : NWB w' v := by
 intro g hg;obtain ⟨cur, e', fz, h1, h2⟩ := h g hg;refine ⟨cur, e', fz, ?_, h2⟩
 have hlt : g < w.heap.size := by
  rcases Nat.lt_or_ge g w.heap.size with k | k
  ·exact k
  ·rw [Array.getElem?_eq_none k] at h1; cases h1
 rw [<- h1];exact Below.block e g hlt
theorem Row4.ext (h : Row4 w base v qs L) (e : Ext w w') : Row4 w' base v qs L := by
 obtain ⟨cs, h1, h2⟩ := h.own;exact ⟨⟨cs, owns_ext h1 e, h2.ext e⟩, h.nwb.ext e⟩
theorem Row4.nil (w : World) (base L : Nat) : Row4 w base (.slice none 0 0) [] L := ⟨⟨[], owns_nil _ _ _ _, .nil⟩, fun g hg => by cases hg⟩
theorem Row4.block (h : Row4 w base v qs L) : ∀ k, v.ownBlock = some k -> base <= k /\ k < w.heap.size := by
 intro k hk;obtain ⟨cs, h1, _⟩ := h.own;refine ⟨owns_block h1 k hk, ?_⟩;obtain ⟨cur, e', fz, h2, _⟩ := h.nwb k hk
 rcases Nat.lt_or_ge k w.heap.size with j | j
 ·exact j
 ·rw [Array.getElem?_eq_none j] at h2; cases h2
theorem run_append_rat {ty : TypeId} (h : Row4 w base v qs L) (hq : NR w q L s A n c t B m d) (hb : Box w g 27 #[.bool s, .slice A n c, .bool t, .slice B m d]) (hl : qs.length <= 1000) (hbase : base <= w.heap.size) :
  ∃ v' w', (Builtin.append_ #[22, 22] ty #[v, .slice (some ⟨g, 0, none⟩) 1 1]).run Tryz.prog w = .ok v' w' /\ Row4 w' base v' (qs ++ [q]) L /\ w.grownBy w' v.ownBlock /\ (v'.ownBlock = v.ownBlock \/ v'.ownBlock = some w.heap.size) := by
 obtain ⟨i0, hi, hz0, hz1, hz2⟩ := info_partsB Tryz.infoR;obtain ⟨cs, h1, h2⟩ := h.own;have hone : CellsOf w L [q] [.bool s, .slice A n c, .bool t, .slice B m d] := .cons hq .nil
 have hnews : ∀ j u, ([.bool s, .slice A n c, .bool t, .slice B m d] : List Value)[j]? = some u -> w.cell? ((⟨g, 0, none⟩ : Addr).add j) = some u := by
  intro j u hj
  match j, hj with
  | 0, hj => exact hb.cell 0 u hj
  | 1, hj => exact hb.cell 1 u hj
  | 2, hj => exact hb.cell 2 u hj
  | 3, hj => exact hb.cell 3 u hj
  | j + 4, hj => simp at hj
 rw [<- hz1] at h1
 obtain ⟨v', w', hr, k1, k2, k3, k4⟩ := run_append_nw (P := Tryz.prog) (ty := ty) (c := 1) Tryz.underlying22 hi hz0 hz2 (by rw [hz1]; rfl) (by omega) (by
  intro u hu k e;simp [Value.cells] at hu
  rcases hu with rfl | rfl | rfl | rfl <;> cases e) h1 h.nwb (m := 1) (by rw [hz1]; rfl) hnews hone.one hone.nwl (by omega) (by unfold maxLen; omega) (by omega) hbase
 rw [hz1] at k1;refine ⟨v', w', hr, ⟨⟨cs ++ [.bool s, .slice A n c, .bool t, .slice B m d], ?_, (h2.own h.nwb k2).append (hone.own h.nwb k2)⟩, k4⟩, k2, k3⟩;rw [List.length_append];exact k1
end
theorem wpList_append_rat {w : World} {base L : Nat} {v : Value} {qs : List Rat} {q : Rat} {s t : Bool} {A B : Option Addr} {n c m d g : Nat} {ops : Array Oper} {rest : List Oper} {o : Oper} {a : Act} {Q : Exit -> Act -> World -> Prop} (hgd : o.guard = none) (x y : Operand)
  (ho : o.op = .call { callee := .builtin .append, args := #[x, y], argTypes := #[22, 22] })
  (hx : a.eval x = v) (hy : a.eval y = .slice (some ⟨g, 0, none⟩) 1 1)
  (h : Row4 w base v qs L) (hq : NR w q L s A n c t B m d) (hb : Box w g 27 #[.bool s, .slice A n c, .bool t, .slice B m d]) (hl : qs.length <= 1000) (hbase : base <= w.heap.size)
  (hK : ∀ v' w', Row4 w' base v' (qs ++ [q]) L -> w.grownBy w' v.ownBlock -> (v'.ownBlock = v.ownBlock \/ v'.ownBlock = some w.heap.size) -> wpList Tryz.prog ops Q rest (a.put o.dst v') w') :
  wpList Tryz.prog ops Q (o :: rest) a w := by
 refine wpList_plain hgd fun K hKK => ?_
 obtain ⟨v', w', hr, h2, h3, h5⟩ := run_append_rat (ty := o.type) h hq hb hl hbase;unfold Oper.wp execOp;simp only [ho, resolve, invoke, builtin, Sem.run_bind, Sem.run_pure, Result.andThen_ok, List.map_toArray, List.map_cons, List.map_nil, hx, hy, hr];exact hKK _ _ (hK v' w' h2 h3 h5)
theorem step_append_rat {w : World} {base L : Nat} {v : Value} {qs : List Rat} {q : Rat} {s t : Bool} {A B : Option Addr} {n c m d g : Nat} {ops : Array Oper} {o : Oper} {a : Act} {K : Act -> World -> Prop} {Q : Exit -> Act -> World -> Prop} {E : Prop} (hgd : o.guard = none) (x y : Operand)
  (ho : o.op = .call { callee := .builtin .append, args := #[x, y], argTypes := #[22, 22] })
  (hx : a.eval x = v) (hy : a.eval y = .slice (some ⟨g, 0, none⟩) 1 1)
  (h : Row4 w base v qs L) (hq : NR w q L s A n c t B m d) (hb : Box w g 27 #[.bool s, .slice A n c, .bool t, .slice B m d]) (hl : qs.length <= 1000) (hbase : base <= w.heap.size)
  (hK : ∀ v' w', Row4 w' base v' (qs ++ [q]) L -> w.grownBy w' v.ownBlock -> (v'.ownBlock = v.ownBlock \/ v'.ownBlock = some w.heap.size) -> K (a.put o.dst v') w') :
  if Region.wanted o (yielded ops a.tmps) = true then Oper.wp Tryz.prog o a w K Q else E := by
 have hw : Region.wanted o (yielded ops a.tmps) = true := by simp [Region.wanted, hgd]
 rw [if_pos hw];obtain ⟨v', w', hr, h2, h3, h5⟩ := run_append_rat (ty := o.type) h hq hb hl hbase;unfold Oper.wp execOp;simp only [ho, resolve, invoke, builtin, Sem.run_bind, Sem.run_pure, Result.andThen_ok, List.map_toArray, List.map_cons, List.map_nil, hx, hy, hr];exact hK v' w' h2 h3 h5
end
section
def trimP (l : List Rat) : List Rat := (l.reverse.dropWhile (fun x => decide (x = 0))).reverse
theorem trimP_nil : trimP [] = [] := rfl
theorem trimP_zero (l : List Rat) : trimP (l ++ [0]) = trimP l := by
 unfold trimP;rw [List.reverse_append];simp
theorem trimP_snoc (l : List Rat) {x : Rat} (h : x ≠ 0) : trimP (l ++ [x]) = l ++ [x] := by
 unfold trimP;rw [List.reverse_append];simp [h]
theorem ratSnoc_ind {P : List Rat -> Prop} (h0 : P []) (h1 : ∀ l x, P l -> P (l ++ [x])) (l : List Rat) : P l := by
 have : ∀ m : List Rat, P m.reverse := by
  intro m
  induction m with
  | nil => exact h0
  | cons x m ih => rw [List.reverse_cons]; exact h1 _ _ ih
 have := this l.reverse
 rwa [List.reverse_reverse] at this
theorem trimP_idem (l : List Rat) : trimP (trimP l) = trimP l := by
 induction l using ratSnoc_ind with
 | h0 => rfl
 | h1 l x ih =>
  by_cases h : x = 0
  ·subst h; rw [trimP_zero]; exact ih
  ·rw [trimP_snoc l h, trimP_snoc l h]
theorem trimP_pre (l : List Rat) : ∃ k, l = trimP l ++ List.replicate k 0 := by
 induction l using ratSnoc_ind with
 | h0 => exact ⟨0, rfl⟩
 | h1 l x ih =>
  by_cases h : x = 0
  ·subst h
   obtain ⟨k, hk⟩ := ih;refine ⟨k + 1, ?_⟩;rw [trimP_zero, List.replicate_succ', <- List.append_assoc, <- hk]
  ·exact ⟨0, by rw [trimP_snoc l h]; simp⟩
theorem trimP_len (l : List Rat) : (trimP l).length <= l.length := by
 obtain ⟨k, hk⟩ := trimP_pre l;have := congrArg List.length hk;rw [List.length_append] at this;omega
theorem trimP_take (l : List Rat) : trimP l = l.take (trimP l).length := by
 obtain ⟨k, hk⟩ := trimP_pre l;exact ((congrArg (List.take (trimP l).length) hk).trans (List.take_left ..)).symm
theorem trimP_step {l : List Rat} {n : Nat} (hn : n < l.length) (h0 : l[n] = 0) (h : trimP (l.take (n + 1)) = trimP l) : trimP (l.take n) = trimP l := by
 rw [<- h, List.take_succ_eq_append_getElem hn, h0, trimP_zero]
theorem trimP_stop {l : List Rat} {n : Nat} (hn : n < l.length) (h0 : l[n] ≠ 0) (h : trimP (l.take (n + 1)) = trimP l) : trimP l = l.take (n + 1) := by
 rw [<- h, List.take_succ_eq_append_getElem hn, trimP_snoc _ h0]
def atP (l : List Rat) (i : Nat) : Rat := l.getD i 0
theorem atP_lt {l : List Rat} {i : Nat} (h : i < l.length) : atP l i = l[i] := by unfold atP; simp [h]
theorem atP_ge {l : List Rat} {i : Nat} (h : l.length <= i) : atP l i = 0 := by unfold atP; simp [h]
def sumP (a b : List Rat) : List Rat := (List.range (max a.length b.length)).map fun i => atP a i + atP b i
theorem sumP_len (a b : List Rat) : (sumP a b).length = max a.length b.length := by unfold sumP; simp
theorem sumP_at (a b : List Rat) (i : Nat) (h : i < (sumP a b).length) : (sumP a b)[i] = atP a i + atP b i := by simp [sumP]
theorem sumP_comm (a b : List Rat) : sumP a b = sumP b a := by
 unfold sumP;rw [Nat.max_comm]
 congr 1
 funext i
 exact Rat.add_comm _ _
def scaleP (a : List Rat) (n : Rat) : List Rat := a.map (· * n)
def negP (a : List Rat) : List Rat := a.map fun x => -x
theorem scaleP_neg (a : List Rat) : scaleP a (-1) = negP a := by
 unfold scaleP negP
 congr 1
 funext x
 rw [Rat.mul_neg, Rat.mul_one]
theorem trimP_zeros (n : Nat) : trimP (List.replicate n 0) = [] := by
 induction n with
 | zero => rfl
 | succ n ih => rw [List.replicate_succ', trimP_zero]; exact ih
theorem sumP_negP (a : List Rat) : sumP a (negP a) = List.replicate a.length 0 := by
 refine List.ext_getElem (by rw [sumP_len]; simp [negP]) (fun i h1 h2 => ?_);have hl : i < a.length := by simpa using h2
 rw [List.getElem_replicate];rw [sumP_at, atP_lt hl, atP_lt (by simpa [negP] using hl)];simp [negP, Rat.add_neg_cancel]
theorem trimP_rep (l : List Rat) (k : Nat) : trimP (l ++ List.replicate k 0) = trimP l := by
 induction k with
 | zero => rw [List.replicate_zero, List.append_nil]
 | succ k ih => rw [List.replicate_succ', <- List.append_assoc, trimP_zero]; exact ih
theorem atP_app_rep (l : List Rat) (k i : Nat) : atP (l ++ List.replicate k 0) i = atP l i := by
 by_cases h : i < l.length
 ·rw [atP_lt (by rw [List.length_append]; omega), atP_lt h, List.getElem_append_left h]
 ·rw [atP_ge (l := l) (by omega)]
  by_cases h2 : i < (l ++ List.replicate k (0 : Rat)).length
  ·rw [atP_lt h2, List.getElem_append_right (by omega), List.getElem_replicate]
  ·rw [atP_ge (by omega)]
theorem atP_trimP (l : List Rat) (i : Nat) : atP (trimP l) i = atP l i := by
 obtain ⟨k, hk⟩ := trimP_pre l;exact (atP_app_rep _ k i).symm.trans (congrArg (atP · i) hk.symm)
theorem trimP_ext_le {l l' : List Rat} (hl : l.length <= l'.length) (h : ∀ i, atP l i = atP l' i) : trimP l = trimP l' := by
 have e : l' = l ++ List.replicate (l'.length - l.length) 0 := by
  refine List.ext_getElem (by rw [List.length_append, List.length_replicate]; omega) (fun i h1 h2 => ?_);rw [<- atP_lt h1, <- h i, <- atP_lt h2, atP_app_rep]
 rw [e, trimP_rep]
theorem trimP_ext {l l' : List Rat} (h : ∀ i, atP l i = atP l' i) : trimP l = trimP l' := by
 rcases Nat.le_total l.length l'.length with hl | hl
 ·exact trimP_ext_le hl h
 ·exact (trimP_ext_le hl (fun i => (h i).symm)).symm
theorem atP_sumP (a b : List Rat) (i : Nat) : atP (sumP a b) i = atP a i + atP b i := by
 by_cases h : i < (sumP a b).length
 ·rw [atP_lt h, sumP_at]
 ·rw [atP_ge (by omega)]
  rw [sumP_len] at h;rw [atP_ge (l := a) (by omega), atP_ge (l := b) (by omega), Rat.add_zero]
theorem trimP_sum_r (a b : List Rat) : trimP (sumP a (trimP b)) = trimP (sumP a b) := trimP_ext fun i => by rw [atP_sumP, atP_sumP, atP_trimP]
end
section
open Go.RowKit
def zeroC : Nat -> List Value
 | 0 => []
 | n + 1 => .bool false :: .slice none 0 0 :: .bool false :: .slice none 0 0 :: zeroC n
theorem zeroC_len : ∀ n, (zeroC n).length = n * 4
 | 0 => rfl
 | n + 1 => by simp only [zeroC, List.length_cons, zeroC_len n]; omega
theorem zeroC_nwl : ∀ n, NWL (zeroC n)
 | 0 => fun u hu => by cases hu
 | n + 1 => by
  intro u hu;simp only [zeroC, List.mem_cons] at hu
  rcases hu with rfl | rfl | rfl | rfl | hu
  ·intro k e; cases e
  ·intro k e; cases e
  ·intro k e; cases e
  ·intro k e; cases e
  ·exact zeroC_nwl n u hu
theorem zeroC_at : ∀ (n i : Nat) (h : i < (zeroC n).length), (zeroC n)[i] = (#[Value.bool false, .slice none 0 0, .bool false, .slice none 0 0] : Array Value)[i % 4]!
 | 0, i, h => by simp [zeroC] at h
 | n + 1, 0, _ => rfl
 | n + 1, 1, _ => rfl
 | n + 1, 2, _ => rfl
 | n + 1, 3, _ => rfl
 | n + 1, i + 4, h => by
  have h' : i < (zeroC n).length := by simp only [zeroC, List.length_cons] at h; omega
  have := zeroC_at n i h';rw [Nat.add_mod_right];exact this
theorem made_rats (n : Nat) : madeCells #[Value.bool false, .slice none 0 0, .bool false, .slice none 0 0] (n * 4) = (zeroC n).toArray := by
 refine Array.ext (by rw [size_madeCells]; simp [zeroC_len]) (fun i h1 h2 => ?_);have h3 : i < (zeroC n).length := by simpa using h2
 have e2 : (zeroC n).toArray[i] = (zeroC n)[i] := by simp
 rw [e2, zeroC_at n i h3];simp [madeCells]
theorem mk_rats (n : Nat) (hn : n <= 100000) (W : World) :
  (Instr.makeSlice 22 (.int .i64 (n : Int)) (.int .i64 (n : Int))).run Tryz.prog W = .ok (.slice (some ⟨W.heap.size, 0, none⟩) n n) (W.alloc (.cells (zeroC n).toArray 27)) := by
 obtain ⟨i0, hi, hz0, hz1, hz2⟩ := info_parts Tryz.infoR;have h := run_make_rowN (P := Tryz.prog) 22 27 i0 _ Tryz.underlying22 hi hz0 .i64 .i64 n n (Nat.le_refl _) (by rw [hz2]; omega) (by omega) W;rw [hz1] at h;rw [<- made_rats];exact h
structure Fill (w : World) (g n : Nat) (qs : List Rat) (L : Nat) : Prop where
 out : ∃ ds, Box w g 27 (ds ++ zeroC (n - qs.length)).toArray /\ CellsOf w L qs ds
 le : qs.length <= n
section
variable {w w' : World} {g n L : Nat} {qs : List Rat} {q : Rat} {s t : Bool} {A B : Option Addr} {a c b d : Nat}
theorem Fill.ext (h : Fill w g n qs L) (e : Ext w w') : Fill w' g n qs L := by
 obtain ⟨⟨ds, h1, h2⟩, h3⟩ := h;exact ⟨⟨ds, h1.ext e, h2.ext e⟩, h3⟩
theorem Fill.new (w : World) (n L : Nat) : Fill (w.alloc (.cells (zeroC n).toArray 27)) w.heap.size n [] L :=
 ⟨⟨[], by rw [List.nil_append]; exact Box.new w _ _, .nil⟩, Nat.zero_le _⟩
theorem Fill.rats (h : Fill w g n qs L) (hn : qs.length = n) : RatsAt w g 0 qs L := by
 obtain ⟨⟨ds, h1, h2⟩, _⟩ := h;rw [hn, Nat.sub_self, zeroC, List.append_nil] at h1;exact RatsAt.of_box h1 h2
theorem set_at {l r : List Value} {v u : Value} (k : Nat) (hk : l.length = k) : (l ++ v :: r).set k u = l ++ u :: r := by
 subst hk;rw [List.set_append_right _ _ (Nat.le_refl _), Nat.sub_self, List.set_cons_zero]
theorem Fill.cells (h : Fill w g n qs L) (hk : qs.length < n) :
  w.cell? ⟨g, qs.length * 4, none⟩ = some (.bool false) /\ w.cell? ⟨g, qs.length * 4 + 1, none⟩ = some (.slice none 0 0) /\ w.cell? ⟨g, qs.length * 4 + 2, none⟩ = some (.bool false) /\ w.cell? ⟨g, qs.length * 4 + 3, none⟩ = some (.slice none 0 0) := by
 obtain ⟨⟨ds, h1, h2⟩, _⟩ := h;have hl := h2.len;obtain ⟨m, hm⟩ : ∃ m, n - qs.length = m + 1 := ⟨n - qs.length - 1, by omega⟩;rw [hm, zeroC] at h1;refine ⟨h1.cell _ _ ?_, h1.cell _ _ ?_, h1.cell _ _ ?_, h1.cell _ _ ?_⟩
 all_goals
  rw [<- hl];simp
theorem Fill.frozen (h : Fill w g n qs L) (i : Nat) : w.frozen? ⟨g, i, none⟩ = false := by
 obtain ⟨⟨ds, h1, _⟩, _⟩ := h;exact h1.frozen i
structure FinRow (w2 w3 : World) (g : Nat) (T : TypeId) (l : List Value) : Prop where
 box : Box w3 g T l.toArray
 nwl : NWL l
 ni : ∀ z L s' A' n' c', NI w2 z L s' A' n' c' -> NI w3 z L s' A' n' c'
 ext : ∀ W, Ext W w2 -> W.heap.size <= g -> Ext W w3
 far : ∀ g' T' cs', g' ≠ g -> Box w2 g' T' cs' -> Box w3 g' T' cs'
theorem FinRow.refl {w2 : World} {T : TypeId} {l : List Value} (hb : Box w2 g T l.toArray) (hn : NWL l) : FinRow w2 w2 g T l := ⟨hb, hn, fun _ _ _ _ _ _ h => h, fun _ h _ => h, fun _ _ _ _ h => h⟩
theorem FinRow.step {w2 w3 : World} {T : TypeId} {l : List Value} (h : FinRow w2 w3 g T l) (i : Nat) {v : Value} (hv : ∀ k, v ≠ .int .u32 k) : FinRow w2 (w3.setCell ⟨g, i, none⟩ v) g T (l.set i v) := by
 refine ⟨?_, ?_, fun _ _ _ _ _ _ k => (h.ni _ _ _ _ _ _ k).set h.box h.nwl.arr i v, fun _ e hg => (h.ext _ e hg).setCell hg _, fun _ _ _ hg k => (h.far _ _ _ hg k).far hg _⟩
 ·have := h.box.set i v
  rwa [List.setIfInBounds_toArray] at this
 ·intro u hu k e
  rcases List.mem_or_eq_of_mem_set hu with hu | hu
  ·exact h.nwl u hu k e
  ·exact hv k (hu.symm.trans e)
theorem CellsOf.ni {w w' : World} (hf : ∀ z L s' A' n' c', NI w z L s' A' n' c' -> NI w' z L s' A' n' c') {ds : List Value} (h : CellsOf w L qs ds) : CellsOf w' L qs ds := by
 induction h with
 | nil => exact .nil
 | cons h _ ih => exact .cons ⟨hf _ _ _ _ _ _ h.num, hf _ _ _ _ _ _ h.den⟩ ih
theorem Fill.put {k : Nat} (h : Fill w g n qs L) (hk : qs.length = k) (hkn : k < n) (hq : NR w q L s A a c t B b d) :
  Fill ((((w.setCell ⟨g, k * 4, none⟩ (.bool s)).setCell ⟨g, k * 4 + 1, none⟩ (.slice A a c)).setCell ⟨g, k * 4 + 2, none⟩ (.bool t)).setCell ⟨g, k * 4 + 3, none⟩ (.slice B b d)) g n (qs ++ [q]) L /\
  (∀ z L s' A' n' c', NI w z L s' A' n' c' -> NI ((((w.setCell ⟨g, k * 4, none⟩ (.bool s)).setCell ⟨g, k * 4 + 1, none⟩ (.slice A a c)).setCell ⟨g, k * 4 + 2, none⟩ (.bool t)).setCell ⟨g, k * 4 + 3, none⟩ (.slice B b d)) z L s' A' n' c') /\
  (∀ W, Ext W w -> W.heap.size <= g -> Ext W ((((w.setCell ⟨g, k * 4, none⟩ (.bool s)).setCell ⟨g, k * 4 + 1, none⟩ (.slice A a c)).setCell ⟨g, k * 4 + 2, none⟩ (.bool t)).setCell ⟨g, k * 4 + 3, none⟩ (.slice B b d))) /\
  (∀ g' T' cs', g' ≠ g -> Box w g' T' cs' -> Box ((((w.setCell ⟨g, k * 4, none⟩ (.bool s)).setCell ⟨g, k * 4 + 1, none⟩ (.slice A a c)).setCell ⟨g, k * 4 + 2, none⟩ (.bool t)).setCell ⟨g, k * 4 + 3, none⟩ (.slice B b d)) g' T' cs') := by
 obtain ⟨⟨ds, h1, h2⟩, _⟩ := h;have hl := h2.len;rw [hk] at hl h1;obtain ⟨m, hm⟩ : ∃ m, n - k = m + 1 := ⟨n - k - 1, by omega⟩;rw [hm, zeroC] at h1;have F := ((((FinRow.refl h1 (h2.nwl.append (zeroC_nwl (m + 1)))).step (k * 4) (v := .bool s) (by intro k h; cases h)).step (k * 4 + 1) (v := .slice A a c) (by intro k h; cases h)).step (k * 4 + 2) (v := .bool t) (by intro k h; cases h)).step (k * 4 + 3) (v := .slice B b d) (by intro k h; cases h)
 have e : ((((ds ++ .bool false :: .slice none 0 0 :: .bool false :: .slice none 0 0 :: zeroC m).set (k * 4) (.bool s)).set (k * 4 + 1) (.slice A a c)).set (k * 4 + 2) (.bool t)).set (k * 4 + 3) (.slice B b d) = (ds ++ [.bool s, .slice A a c, .bool t, .slice B b d]) ++ zeroC m := by
  rw [set_at _ hl];rw [show ds ++ Value.bool s :: .slice none 0 0 :: .bool false :: .slice none 0 0 :: zeroC m = (ds ++ [.bool s]) ++ .slice none 0 0 :: .bool false :: .slice none 0 0 :: zeroC m by simp];rw [set_at (k * 4 + 1) (by simp [hl])];rw [show (ds ++ [Value.bool s]) ++ .slice A a c :: .bool false :: .slice none 0 0 :: zeroC m = (ds ++ [.bool s, .slice A a c]) ++ .bool false :: .slice none 0 0 :: zeroC m by simp];rw [set_at (k * 4 + 2) (by simp [hl])];rw [show (ds ++ [Value.bool s, .slice A a c]) ++ .bool t :: .slice none 0 0 :: zeroC m = (ds ++ [.bool s, .slice A a c, .bool t]) ++ .slice none 0 0 :: zeroC m by simp];rw [set_at (k * 4 + 3) (by simp [hl])];simp
 rw [e] at F;refine ⟨⟨⟨_, ?_, (h2.ni F.ni).append (.cons ⟨F.ni _ _ _ _ _ _ hq.num, F.ni _ _ _ _ _ _ hq.den⟩ .nil)⟩, by rw [List.length_append]; simp; omega⟩, F.ni, F.ext, F.far⟩;have hb := F.box;rw [show n - (qs ++ [q]).length = m by rw [List.length_append, hk]; simp; omega];exact hb
end
end
section
open Go.RowKit
attribute [local go_sem ↓] Go.wp_at_zero Go.wp_at_succ
structure Pol (w : World) (A : Option Addr) (n c : Nat) (qs : List Rat) (L : Nat) : Prop where
 len : qs.length = n
 cap : n <= c
 top : c <= maxLen
 at_ : qs ≠ [] -> ∃ b off, A = some ⟨b, off, none⟩ /\ RatsAt w b off qs L
def RetPol (qs : List Rat) (L : Nat) (w : World) (e : Ending) (w' : World) : Prop := ∃ A n c, e = .returned (.slice A n c) /\ Pol w' A n c qs L /\ Ext w w'
section
variable {w w' : World} {A : Option Addr} {n c L : Nat} {qs : List Rat}
theorem Pol.ext (h : Pol w A n c qs L) (e : Ext w w') : Pol w' A n c qs L :=
 ⟨h.len, h.cap, h.top, fun hq => by obtain ⟨b, off, h1, h2⟩ := h.at_ hq; exact ⟨b, off, h1, h2.ext e⟩⟩
theorem RatsAt.take {b o : Nat} (h : RatsAt w b o qs L) (k : Nat) : RatsAt w b o (qs.take k) L := ⟨fun i hi => by
 have hi' : i < qs.length := by rw [List.length_take] at hi; omega
 have := h.at_ i hi';rw [List.getElem_take];exact this⟩
theorem Pol.take (h : Pol w A n c qs L) {k : Nat} (hk : k <= n) : Pol w A k c (qs.take k) L := by
 refine ⟨by rw [List.length_take, h.len]; omega, Nat.le_trans hk h.cap, h.top, fun hq => ?_⟩;obtain ⟨b, off, h1, h2⟩ := h.at_ (fun e => hq (by rw [e]; simp));exact ⟨b, off, h1, h2.take k⟩
theorem Pol.none (w : World) (L : Nat) : Pol w none 0 0 [] L := ⟨rfl, Nat.le_refl _, Nat.zero_le _, fun h => absurd rfl h⟩
theorem Fill.pol {g : Nat} (h : Fill w g n qs L) (hn : qs.length = n) (hm : n <= maxLen) : Pol w (some ⟨g, 0, none⟩) n n qs L := ⟨hn, Nat.le_refl _, hm, fun _ => ⟨g, 0, rfl, h.rats hn⟩⟩
theorem num_zero {q : Rat} (h : q = 0) : q.num.sign = 0 := by rw [h]; rfl
theorem num_nz {q : Rat} (h : q ≠ 0) : q.num.sign ≠ 0 := fun e => h (Rat.num_eq_zero.1 (Int.sign_eq_zero_iff_zero.1 e))
end
section
variable {w w' : World} {q x : Rat} {L M : Nat} {s t : Bool} {A B : Option Addr} {n c m d : Nat} {sx tx : Bool} {Ax Bx : Option Addr} {nx cx mx dx : Nat} {qs ps : List Rat}
theorem p_cutR (h : Pol w A n c qs L) (hL : L <= 1000) (hn : n <= 1000) : Calls Tryz.prog 51 #[.slice A n c, .func (.func 52) #[] #[]] w (RetPol (trimP qs) L w) := by
 go_enter Tryz.func51, Tryz.ntmps51
 go_wp2_with fail
 go_loopw [0] (fun v wr => ∃ k : Nat, k <= n /\ v = .slice A k c /\ Ext w wr /\ trimP (qs.take k) = trimP qs) (fun v _ => lenV v)
 case atStart => exact ⟨n, Nat.le_refl _, rfl, Ext.refl _, by rw [List.take_of_length_le (Nat.le_of_eq h.len)]⟩
 case round =>
  obtain ⟨k, hk, rfl, ext, ht⟩ := hrel;have HT := Lib.hid ht;clear ht
  rcases Nat.eq_zero_or_pos k with h0 | h0
  ·subst h0
   go_wp2_with fail
   go_ret
   have ht := HT.out;exact ⟨A, 0, c, rfl, by rw [<- ht]; exact (h.ext ext).take (Nat.zero_le _), ext⟩
  ·obtain ⟨j, rfl⟩ : ∃ j, k = j + 1 := ⟨k - 1, by omega⟩
   have hj : j < qs.length := by rw [h.len]; omega
   have hjc : (j : Int) <= (c : Int) := by have := h.cap; omega
   obtain ⟨b, off, rfl, hr⟩ := h.at_ (fun e => by rw [e] at hj; exact absurd hj (Nat.not_lt_zero _));obtain ⟨sx, Ax, nx, cx, tx, Bx, mx, dx, e0, e1, e2, e3, hx⟩ := (hr.ext ext).at_ j hj;have e0' : wr.cell? ⟨b, off + j * 4, none⟩ = some (.bool sx) := by rw [Nat.mul_comm]; exact e0
   have e1' : wr.cell? ⟨b, off + j * 4 + 1, none⟩ = some (.slice Ax nx cx) := by rw [Nat.mul_comm]; exact e1
   have e2' : wr.cell? ⟨b, off + j * 4 + 2, none⟩ = some (.bool tx) := by rw [Nat.mul_comm]; exact e2
   have e3' : wr.cell? ⟨b, off + j * 4 + 3, none⟩ = some (.slice Bx mx dx) := by rw [Nat.mul_comm]; exact e3
   by_cases hq : qs[j] = 0
   ·have HS := Lib.hid (num_zero hq)
    have HQ := Lib.hid hq;clear hq
    go_wp2_with fail
    refine (p_SignR hx (by omega)).mono ?_;rintro e V ⟨rfl, hxt⟩;rw [HS.out]
    go_wp2_with fail
    go_roundw
    case rel => exact ⟨j, by omega, by go_num, ext.trans hxt, trimP_step hj HQ.out HT.out⟩
    case measure => simp [lenV]
   ·obtain ⟨S, hS, dS⟩ : ∃ S, (qs[j]).num.sign = S /\ (S == 0) = false := ⟨_, rfl, beq_eq_false_iff_ne.2 (num_nz hq)⟩
    have HS := Lib.hid hS;have HQ := Lib.hid hq;clear hS hq
    go_wp2_with fail
    refine (p_SignR hx (by omega)).mono ?_;rintro e V ⟨rfl, hxt⟩;rw [HS.out]
    go_wp2_with fail
    go_ret
    refine ⟨some ⟨b, off, none⟩, j + 1, c, rfl, ?_, ext.trans hxt⟩;rw [trimP_stop hj HQ.out HT.out];exact (h.ext (ext.trans hxt)).take hk
end
end
section
open Go.RowKit
theorem run_copy_size {P : Program} (w : World) (dT sT ty elem : TypeId) (g o dLen dCap : Nat) (a : Addr) (sLen sCap : Nat) (cur : Array Value) (t : TypeId) (cs : List Value) {k : Nat}
  (hu : P.underlying dT = some (.slice elem)) (hs : (P.info? elem).map (·.size) = some k)
  (hg : w.heap[g]? = some (.cells cur t (0, 0))) (hn : cs.length = Nat.min sLen dLen * k)
  (hsrc : ∀ j v, cs[j]? = some v -> w.cell? (a.add j) = some v) (hfit : o + cs.length <= cur.size) (h1 : ∀ v ∈ cs, v.oneCell' = true) :
  (Builtin.copy_ #[dT, sT] ty #[.slice (some ⟨g, o, none⟩) dLen dCap, .slice (some a) sLen sCap]).run P w =
   .ok (goInt (Nat.min sLen dLen)) (w.setRow g (cur.toList.take o ++ cs ++ cur.toList.drop (o + cs.length)).toArray) := by
 have hl := run_loadCells_list (P := P) w a cs hsrc;have hst := run_storeCells_at P g o t cs 0 cur w hg (by simpa using hfit) h1
 cases hq : P.info? elem with
 | none => simp [hq] at hs
 | some i =>
  have hi : i.size = k := by simpa [hq] using hs
  simp [Builtin.copy_, run_underlying hu, Builtin.lenOf, Builtin.firstCells, sizeOf, typeInfo, hq, hi, <- hn, hl, hst]
structure Half (w : World) (g : Nat) (rs qs : List Rat) (M L : Nat) : Prop where
 out : ∃ ds es, Box w g 27 (ds ++ es).toArray /\ CellsOf w M rs ds /\ CellsOf w L qs es
section
variable {w w' : World} {A B : Option Addr} {a b c d g n o L M : Nat} {s t : Bool} {q q0 : Rat} {qs rs : List Rat}
theorem Half.ext (h : Half w g rs qs M L) (e : Ext w w') : Half w' g rs qs M L := by
 obtain ⟨ds, es, h1, h2, h3⟩ := h.out;exact ⟨ds, es, h1.ext e, h2.ext e, h3.ext e⟩
theorem Half.frozen (h : Half w g rs qs M L) (i : Nat) : w.frozen? ⟨g, i, none⟩ = false := by
 obtain ⟨ds, es, h1, _⟩ := h.out;exact h1.frozen i
theorem Half.rats (h : Half w g rs [] M L) : RatsAt w g 0 rs M := by
 obtain ⟨ds, es, h1, h2, h3⟩ := h.out
 cases h3
 rw [List.append_nil] at h1;exact RatsAt.of_box h1 h2
theorem Half.get {k : Nat} (h : Half w g rs (q0 :: qs) M L) (hk : rs.length = k) :
  ∃ s A n c t B m d, w.cell? ⟨g, k * 4, none⟩ = some (.bool s) /\ w.cell? ⟨g, k * 4 + 1, none⟩ = some (.slice A n c) /\ w.cell? ⟨g, k * 4 + 2, none⟩ = some (.bool t) /\ w.cell? ⟨g, k * 4 + 3, none⟩ = some (.slice B m d) /\ NR w q0 L s A n c t B m d := by
 obtain ⟨ds, es, h1, h2, h3⟩ := h.out;have hl := h2.len;rw [hk] at hl
 cases h3 with
 | @cons _ _ s A n c t B m d es hq hr =>
  refine ⟨s, A, n, c, t, B, m, d, h1.cell _ _ ?_, h1.cell _ _ ?_, h1.cell _ _ ?_, h1.cell _ _ ?_, hq⟩
  all_goals
   rw [<- hl];simp
theorem Half.put {k : Nat} (h : Half w g rs (q0 :: qs) M L) (hk : rs.length = k) (hq : NR w q M s A a c t B b d) :
  Half ((((w.setCell ⟨g, k * 4, none⟩ (.bool s)).setCell ⟨g, k * 4 + 1, none⟩ (.slice A a c)).setCell ⟨g, k * 4 + 2, none⟩ (.bool t)).setCell ⟨g, k * 4 + 3, none⟩ (.slice B b d)) g (rs ++ [q]) qs M L /\
  (∀ z L s' A' n' c', NI w z L s' A' n' c' -> NI ((((w.setCell ⟨g, k * 4, none⟩ (.bool s)).setCell ⟨g, k * 4 + 1, none⟩ (.slice A a c)).setCell ⟨g, k * 4 + 2, none⟩ (.bool t)).setCell ⟨g, k * 4 + 3, none⟩ (.slice B b d)) z L s' A' n' c') /\
  (∀ W, Ext W w -> W.heap.size <= g -> Ext W ((((w.setCell ⟨g, k * 4, none⟩ (.bool s)).setCell ⟨g, k * 4 + 1, none⟩ (.slice A a c)).setCell ⟨g, k * 4 + 2, none⟩ (.bool t)).setCell ⟨g, k * 4 + 3, none⟩ (.slice B b d))) := by
 obtain ⟨ds, es, h1, h2, h3⟩ := h.out;have hl := h2.len;rw [hk] at hl;have hn := h2.nwl.append h3.nwl
 cases h3 with
 | @cons _ _ s0 A0 n0 c0 t0 B0 m0 d0 es hq0 hr =>
  have F := ((((FinRow.refl h1 hn).step (k * 4) (v := .bool s) (by intro k h; cases h)).step (k * 4 + 1) (v := .slice A a c) (by intro k h; cases h)).step (k * 4 + 2) (v := .bool t) (by intro k h; cases h)).step (k * 4 + 3) (v := .slice B b d) (by intro k h; cases h)
  have e : ((((ds ++ .bool s0 :: .slice A0 n0 c0 :: .bool t0 :: .slice B0 m0 d0 :: es).set (k * 4) (.bool s)).set (k * 4 + 1) (.slice A a c)).set (k * 4 + 2) (.bool t)).set (k * 4 + 3) (.slice B b d) = (ds ++ [.bool s, .slice A a c, .bool t, .slice B b d]) ++ es := by
   rw [set_at _ hl];rw [show ds ++ Value.bool s :: .slice A0 n0 c0 :: .bool t0 :: .slice B0 m0 d0 :: es = (ds ++ [.bool s]) ++ .slice A0 n0 c0 :: .bool t0 :: .slice B0 m0 d0 :: es by simp];rw [set_at (k * 4 + 1) (by simp [hl])];rw [show (ds ++ [Value.bool s]) ++ .slice A a c :: .bool t0 :: .slice B0 m0 d0 :: es = (ds ++ [.bool s, .slice A a c]) ++ .bool t0 :: .slice B0 m0 d0 :: es by simp];rw [set_at (k * 4 + 2) (by simp [hl])];rw [show (ds ++ [Value.bool s, .slice A a c]) ++ .bool t :: .slice B0 m0 d0 :: es = (ds ++ [.bool s, .slice A a c, .bool t]) ++ .slice B0 m0 d0 :: es by simp];rw [set_at (k * 4 + 3) (by simp [hl])];simp
  rw [e] at F;exact ⟨⟨_, es, F.box, (h2.ni F.ni).append (.cons ⟨F.ni _ _ _ _ _ _ hq.num, F.ni _ _ _ _ _ _ hq.den⟩ .nil), hr.ni F.ni⟩, F.ni, F.ext⟩
theorem addr_add (b o j : Nat) : (⟨b, o, none⟩ : Addr).add j = ⟨b, o + j, none⟩ := by
 unfold Addr.add
 split
 ·rename_i h; rw [h]; rfl
 ·rfl
theorem RatsAt.list (h : RatsAt w b o qs L) : ∃ cs, CellsOf w L qs cs /\ ∀ j u, cs[j]? = some u -> w.cell? ((⟨b, o, none⟩ : Addr).add j) = some u := by
 induction qs generalizing o with
 | nil => exact ⟨[], .nil, fun j u h => by simp at h⟩
 | cons q qs ih =>
  obtain ⟨s, A, n, c, t, B, m, d, e0, e1, e2, e3, hq⟩ := h.at_ 0 (by simp)
  have ht : RatsAt w b (o + 4) qs L := ⟨fun i hi => by
   have := h.at_ (i + 1) (by simp; omega);rw [show o + 4 * (i + 1) = o + 4 + 4 * i by omega] at this;exact this⟩
  obtain ⟨cs, h1, h2⟩ := ih ht;refine ⟨_, .cons hq h1, fun j u hj => ?_⟩
  match j with
  | 0 => simp at hj; subst hj; simpa [Addr.add] using e0
  | 1 => simp at hj; subst hj; simpa [Addr.add] using e1
  | 2 => simp at hj; subst hj; simpa [Addr.add] using e2
  | 3 => simp at hj; subst hj; simpa [Addr.add] using e3
  | j + 4 =>
   simp at hj;have := h2 j u hj;rw [addr_add] at this ⊢;rw [show o + (j + 4) = o + 4 + j by omega];exact this
theorem run_copy_rats {w0 w : World} (ty : TypeId) (he : Ext w0 w) (hg : w0.heap.size <= g) (hb : Box w g 27 (zeroC n).toArray) (hp : Pol w0 A n c qs L) :
  ∃ w', (Builtin.copy_ #[22, 22] ty #[.slice (some ⟨g, 0, none⟩) n n, .slice A n c]).run Tryz.prog w = .ok (goInt n) w' /\ Half w' g [] qs M L /\ Ext w0 w' := by
 have hz : (Tryz.prog.info? 27).map (·.size) = some 4 := by kernel_rfl
 by_cases hq : qs = []
 ·have hn : n = 0 := by rw [<- hp.len, hq]; rfl
  subst hn;have hH : Half w g [] qs M L := by rw [hq]; exact ⟨[], [], by simpa [zeroC] using hb, .nil, .nil⟩
  cases A with
  | none =>
   have hc : c = 0 \/ c ≠ 0 := by omega
   refine ⟨w, ?_, hH, he⟩
   cases hi : Tryz.prog.info? 27 with
   | none => rw [hi] at hz; cases hz
   | some i => simp [Builtin.copy_, run_underlying Tryz.underlying22, Builtin.lenOf, Builtin.firstCells, sizeOf, typeInfo, hi, storeCells]
  | some ad =>
   have h := run_copy_size (P := Tryz.prog) w 22 22 ty 27 g 0 0 0 ad 0 c _ _ [] Tryz.underlying22 hz hb rfl (fun j v h => by simp at h) (by simp) (fun v h => by cases h);refine ⟨_, h, ?_, below_setRow he hg _⟩;rw [hq];exact ⟨[], [], by have := setRow_heap w g _ #[] _ _ hb; simpa [zeroC, Box] using this, .nil, .nil⟩
 ·obtain ⟨b, o, rfl, hrat⟩ := hp.at_ hq
  obtain ⟨cs, h1, h2⟩ := (hrat.ext he).list;have hl : cs.length = n * 4 := by rw [h1.len, hp.len]
  have hm : Nat.min n n = n := Nat.min_self n;have h := run_copy_size (P := Tryz.prog) w 22 22 ty 27 g 0 n n ⟨b, o, none⟩ n c _ _ cs Tryz.underlying22 hz hb (by rw [hl, hm]) h2 (by simp [hl, zeroC_len]) h1.one;rw [hm] at h;refine ⟨_, h, ?_, below_setRow he hg _⟩;have hx2 := below_setRow he hg ((zeroC n).toArray.toList.take 0 ++ cs ++ (zeroC n).toArray.toList.drop (0 + cs.length)).toArray;obtain ⟨cs', k1, k2⟩ := hrat.list
  have hcc : cs' = cs := by
   refine List.ext_getElem? fun j => ?_
   cases e1 : cs'[j]? with
   | none =>
    have : cs'.length <= j := List.getElem?_eq_none_iff.1 e1;rw [k1.len] at this;exact (List.getElem?_eq_none_iff.2 (by rw [h1.len]; exact this)).symm
   | some u =>
    have hj : j < cs.length := by
     have := (List.getElem?_eq_some_iff.1 e1).1;rw [k1.len] at this;rw [h1.len]; exact this
    have a1 := he.cellv (k2 j u e1);have a2 := h2 j _ (List.getElem?_eq_getElem hj);rw [a1] at a2;rw [List.getElem?_eq_getElem hj];exact a2
  refine ⟨[], cs, ?_, .nil, ?_⟩
  ·have := setRow_heap w g _ ((zeroC n).toArray.toList.take 0 ++ cs ++ (zeroC n).toArray.toList.drop (0 + cs.length)).toArray _ _ hb
   unfold Box;rw [this];simp [hl, zeroC_len]
  ·have k3 : CellsOf w0 L qs cs := by rw [<- hcc]; exact k1
   exact k3.ext hx2
end
def zeroI : Nat -> List Value
 | 0 => []
 | n + 1 => .bool false :: .slice none 0 0 :: zeroI n
theorem zeroI_len : ∀ n, (zeroI n).length = n * 2
 | 0 => rfl
 | n + 1 => by simp only [zeroI, List.length_cons, zeroI_len n]; omega
theorem zeroI_at : ∀ (n i : Nat) (h : i < (zeroI n).length), (zeroI n)[i] = (#[Value.bool false, .slice none 0 0] : Array Value)[i % 2]!
 | 0, i, h => by simp [zeroI] at h
 | n + 1, 0, _ => rfl
 | n + 1, 1, _ => rfl
 | n + 1, i + 2, h => by
  have h' : i < (zeroI n).length := by simp only [zeroI, List.length_cons] at h; omega
  have := zeroI_at n i h';rw [Nat.add_mod_right];exact this
theorem made_ints (n : Nat) : madeCells #[Value.bool false, .slice none 0 0] (n * 2) = (zeroI n).toArray := by
 refine Array.ext (by rw [size_madeCells]; simp [zeroI_len]) (fun i h1 h2 => ?_);have h3 : i < (zeroI n).length := by simpa using h2
 have e2 : (zeroI n).toArray[i] = (zeroI n)[i] := by simp
 rw [e2, zeroI_at n i h3];simp [madeCells]
theorem Tryz.infoInt : (Tryz.prog.info? 25).map (fun i => (i.zero, i.size, i.bytes)) = some (some (.agg #[.bool false, .slice none 0 0]), 2, 32) := by kernel_rfl
theorem mk_ints (n : Nat) (hn : n <= 100000) (W : World) :
  (Instr.makeSlice 46 (.int .i64 (n : Int)) (.int .i64 (n : Int))).run Tryz.prog W = .ok (.slice (some ⟨W.heap.size, 0, none⟩) n n) (W.alloc (.cells (zeroI n).toArray 25)) := by
 obtain ⟨i0, hi, hz0, hz1, hz2⟩ := info_parts Tryz.infoInt;have h := run_make_rowN (P := Tryz.prog) 46 25 i0 _ Tryz.underlying46 hi hz0 .i64 .i64 n n (Nat.le_refl _) (by rw [hz2]; omega) (by omega) W;rw [hz1] at h;rw [<- made_ints];exact h
inductive ICells (w : World) (L : Nat) : List Int -> List Value -> Prop
 | nil : ICells w L [] []
 | cons {z : Int} {zs : List Int} {s : Bool} {A : Option Addr} {n c : Nat} {cs : List Value} : NI w z L s A n c -> ICells w L zs cs -> ICells w L (z :: zs) (.bool s :: .slice A n c :: cs)
structure IntsAt (w : World) (b o : Nat) (zs : List Int) (L : Nat) : Prop where
 at_ : ∀ i (h : i < zs.length), ∃ s A n c, w.cell? ⟨b, o + 2 * i, none⟩ = some (.bool s) /\ w.cell? ⟨b, o + 2 * i + 1, none⟩ = some (.slice A n c) /\ NI w zs[i] L s A n c
structure IPol (w : World) (A : Option Addr) (n c : Nat) (zs : List Int) (L : Nat) : Prop where
 len : zs.length = n
 cap : n <= c
 top : c <= maxLen
 at_ : zs ≠ [] -> ∃ b off, A = some ⟨b, off, none⟩ /\ IntsAt w b off zs L
def RetIPol (zs : List Int) (L : Nat) (w : World) (e : Ending) (w' : World) : Prop := ∃ A n c, e = .returned (.slice A n c) /\ IPol w' A n c zs L /\ Ext w w'
def IRow (w : World) (g : Nat) (zs : List Int) (L : Nat) : Prop := ∃ cs : List Value, Box w g 25 cs.toArray /\ ICells w L zs cs
section
variable {w w' : World} {z : Int} {zs ys : List Int} {L M b o g n c k : Nat} {s : Bool} {A : Option Addr} {cs ds : List Value}
theorem ICells.ext (h : ICells w L zs cs) (e : Ext w w') : ICells w' L zs cs := by
 induction h with
 | nil => exact .nil
 | cons h _ ih => exact .cons (h.ext e) ih
theorem ICells.len (h : ICells w L zs cs) : cs.length = zs.length * 2 := by
 induction h with
 | nil => rfl
 | cons _ _ ih => simp only [List.length_cons, ih]; omega
theorem ICells.le (h : ICells w L zs cs) (hl : L <= M) : ICells w M zs cs := by
 induction h with
 | nil => exact .nil
 | cons h _ ih => exact .cons (h.le hl) ih
theorem ICells.nwl (h : ICells w L zs cs) : NWL cs := by
 induction h with
 | nil => intro u hu; cases hu
 | cons _ _ ih =>
  intro u hu;simp only [List.mem_cons] at hu
  rcases hu with rfl | rfl | hu
  ·intro k e; cases e
  ·intro k e; cases e
  ·exact ih u hu
theorem ICells.one (h : ICells w L zs cs) : ∀ u ∈ cs, u.oneCell' = true := by
 induction h with
 | nil => intro u hu; cases hu
 | cons _ _ ih =>
  intro u hu;simp only [List.mem_cons] at hu
  rcases hu with rfl | rfl | hu
  ·rfl
  ·rfl
  ·exact ih u hu
theorem ICells.ni (hf : ∀ z L s' A' n' c', NI w z L s' A' n' c' -> NI w' z L s' A' n' c') (h : ICells w L zs cs) : ICells w' L zs cs := by
 induction h with
 | nil => exact .nil
 | cons h _ ih => exact .cons (hf _ _ _ _ _ _ h) ih
theorem ICells.get (h : ICells w L zs cs) : ∀ i (hi : i < zs.length), ∃ s A n c, cs[2 * i]? = some (.bool s) /\ cs[2 * i + 1]? = some (.slice A n c) /\ NI w zs[i] L s A n c := by
 induction h with
 | nil => intro i hi; simp at hi
 | @cons z zs s A n c cs h _ ih =>
  intro i hi
  cases i with
  | zero => exact ⟨s, A, n, c, rfl, rfl, h⟩
  | succ i =>
   obtain ⟨s1, A1, n1, c1, k0, k1, k2⟩ := ih i (by simpa using hi);refine ⟨s1, A1, n1, c1, ?_, ?_, k2⟩
   ·rw [show 2 * (i + 1) = 2 * i + 1 + 1 by omega]; exact k0
   ·rw [show 2 * (i + 1) + 1 = 2 * i + 1 + 1 + 1 by omega]; exact k1
theorem ICells.set (h : ICells w L zs cs) (hz : NI w z L s A n c) : ∀ k, k < zs.length -> ICells w L (zs.set k z) ((cs.set (k * 2) (.bool s)).set (k * 2 + 1) (.slice A n c)) := by
 induction h with
 | nil => intro k hk; simp at hk
 | @cons z0 zs s0 A0 n0 c0 cs h0 h1 ih =>
  intro k hk
  cases k with
  | zero => exact .cons hz h1
  | succ k =>
   have := ih k (by simpa using hk);rw [show (k + 1) * 2 = k * 2 + 1 + 1 by omega];simp only [List.set_cons_succ];exact .cons h0 this
theorem ICells.zero (w : World) (L : Nat) : ∀ n, ICells w L (List.replicate n 0) (zeroI n)
 | 0 => .nil
 | n + 1 => by rw [List.replicate_succ]; exact .cons (NI.nil w L) (ICells.zero w L n)
theorem IntsAt.ext (h : IntsAt w b o zs L) (e : Ext w w') : IntsAt w' b o zs L := ⟨fun i hi => by
 obtain ⟨s, A, n, c, h1, h2, h3⟩ := h.at_ i hi;exact ⟨s, A, n, c, e.cellv h1, e.cellv h2, h3.ext e⟩⟩
theorem IntsAt.take (h : IntsAt w b o zs L) (k : Nat) : IntsAt w b o (zs.take k) L := ⟨fun i hi => by
 have hi' : i < zs.length := by rw [List.length_take] at hi; omega
 have := h.at_ i hi';rw [List.getElem_take];exact this⟩
theorem IPol.ext (h : IPol w A n c zs L) (e : Ext w w') : IPol w' A n c zs L :=
 ⟨h.len, h.cap, h.top, fun hq => by obtain ⟨b, off, h1, h2⟩ := h.at_ hq; exact ⟨b, off, h1, h2.ext e⟩⟩
theorem IPol.take (h : IPol w A n c zs L) {k : Nat} (hk : k <= n) : IPol w A k c (zs.take k) L := by
 refine ⟨by rw [List.length_take, h.len]; omega, Nat.le_trans hk h.cap, h.top, fun hq => ?_⟩;obtain ⟨b, off, h1, h2⟩ := h.at_ (fun e => hq (by rw [e]; simp));exact ⟨b, off, h1, h2.take k⟩
theorem IPol.none (w : World) (L : Nat) : IPol w none 0 0 [] L := ⟨rfl, Nat.le_refl _, Nat.zero_le _, fun h => absurd rfl h⟩
theorem IRow.ext (h : IRow w g zs L) (e : Ext w w') : IRow w' g zs L := by
 obtain ⟨cs, h1, h2⟩ := h;exact ⟨cs, h1.ext e, h2.ext e⟩
theorem IRow.frozen (h : IRow w g zs L) (i : Nat) : w.frozen? ⟨g, i, none⟩ = false := by
 obtain ⟨cs, h1, _⟩ := h;exact h1.frozen i
theorem IRow.lt (h : IRow w g zs L) : g < w.heap.size := by
 obtain ⟨cs, h1, _⟩ := h;exact h1.lt
theorem IRow.le (h : IRow w g zs L) (hl : L <= M) : IRow w g zs M := by
 obtain ⟨cs, h1, h2⟩ := h;exact ⟨cs, h1, h2.le hl⟩
theorem IRow.ints (h : IRow w g zs L) : IntsAt w g 0 zs L := by
 obtain ⟨cs, h1, h2⟩ := h;refine ⟨fun i hi => ?_⟩;obtain ⟨s, A, n, c, k0, k1, k2⟩ := h2.get i hi;rw [Nat.zero_add];exact ⟨s, A, n, c, h1.cell (2 * i) _ (by simpa using k0), h1.cell (2 * i + 1) _ (by simpa using k1), k2⟩
theorem IRow.pol (h : IRow w g zs L) (hn : zs.length = n) (hm : n <= maxLen) : IPol w (some ⟨g, 0, none⟩) n n zs L := ⟨hn, Nat.le_refl _, hm, fun _ => ⟨g, 0, rfl, h.ints⟩⟩
theorem IRow.new (w : World) (n L : Nat) : IRow (w.alloc (.cells (zeroI n).toArray 25)) w.heap.size (List.replicate n 0) L := ⟨zeroI n, Box.new w _ _, ICells.zero _ L n⟩
theorem IRow.get (h : IRow w g zs L) (hk : k < zs.length) : ∃ s A n c, w.cell? ⟨g, k * 2, none⟩ = some (.bool s) /\ w.cell? ⟨g, k * 2 + 1, none⟩ = some (.slice A n c) /\ NI w zs[k] L s A n c := by
 obtain ⟨s, A, n, c, h1, h2, h3⟩ := h.ints.at_ k hk;rw [Nat.zero_add, Nat.mul_comm] at h1 h2;exact ⟨s, A, n, c, h1, h2, h3⟩
theorem IRow.put (h : IRow w g zs L) (hk : k < zs.length) (hz : NI w z L s A n c) :
  IRow ((w.setCell ⟨g, k * 2, none⟩ (.bool s)).setCell ⟨g, k * 2 + 1, none⟩ (.slice A n c)) g (zs.set k z) L /\
  (∀ z L s' A' n' c', NI w z L s' A' n' c' -> NI ((w.setCell ⟨g, k * 2, none⟩ (.bool s)).setCell ⟨g, k * 2 + 1, none⟩ (.slice A n c)) z L s' A' n' c') /\
  (∀ W, Ext W w -> W.heap.size <= g -> Ext W ((w.setCell ⟨g, k * 2, none⟩ (.bool s)).setCell ⟨g, k * 2 + 1, none⟩ (.slice A n c))) /\
  (∀ g' T' cs', g' ≠ g -> Box w g' T' cs' -> Box ((w.setCell ⟨g, k * 2, none⟩ (.bool s)).setCell ⟨g, k * 2 + 1, none⟩ (.slice A n c)) g' T' cs') := by
 obtain ⟨cs, h1, h2⟩ := h;have F := ((FinRow.refl h1 h2.nwl).step (k * 2) (v := .bool s) (by intro k h; cases h)).step (k * 2 + 1) (v := .slice A n c) (by intro k h; cases h);exact ⟨⟨_, F.box, (h2.set hz k hk).ni F.ni⟩, F.ni, F.ext, F.far⟩
end
end
section
def cfI (l : List Int) (i : Nat) : Int := l.getD i 0
theorem cfI_lt {l : List Int} {i : Nat} (h : i < l.length) : cfI l i = l[i] := by unfold cfI; simp [h]
theorem cfI_ge {l : List Int} {i : Nat} (h : l.length <= i) : cfI l i = 0 := by unfold cfI; simp [h]
def psum (f : Nat -> Int) : Nat -> Int
 | 0 => 0
 | n + 1 => psum f n + f n
def termI (xs ys : List Int) (s i : Nat) : Int := if i <= s then cfI xs i * cfI ys (s - i) else 0
def mulI (xs ys : List Int) : List Int := (List.range (xs.length + ys.length - 1)).map fun s => psum (termI xs ys s) xs.length
def midI (xs ys : List Int) (i j : Nat) : List Int := (List.range (xs.length + ys.length - 1)).map fun s => psum (termI xs ys s) i + if i <= s /\ s < i + j then cfI xs i * cfI ys (s - i) else 0
variable (xs ys : List Int)
theorem midI_len (i j : Nat) : (midI xs ys i j).length = xs.length + ys.length - 1 := by unfold midI; simp
theorem midI_at (i j s : Nat) (h : s < (midI xs ys i j).length) : (midI xs ys i j)[s] = psum (termI xs ys s) i + if i <= s /\ s < i + j then cfI xs i * cfI ys (s - i) else 0 := by simp [midI]
theorem midI_zero : midI xs ys 0 0 = List.replicate (xs.length + ys.length - 1) 0 := by
 refine List.ext_getElem (by rw [midI_len]; simp) (fun s h1 h2 => ?_);rw [midI_at, List.getElem_replicate, if_neg (by omega)]
 rfl
theorem midI_row (i : Nat) : midI xs ys i ys.length = midI xs ys (i + 1) 0 := by
 refine List.ext_getElem (by rw [midI_len, midI_len]) (fun s h1 h2 => ?_);rw [midI_at, midI_at, if_neg (c := i + 1 <= s /\ s < i + 1 + 0) (by omega), Int.add_zero]
 show _ = psum (termI xs ys s) i + termI xs ys s i
 congr 1
 unfold termI
 by_cases h : i <= s
 ·rw [if_pos h]
  by_cases h3 : s < i + ys.length
  ·rw [if_pos ⟨h, h3⟩]
  ·rw [if_neg (by omega), cfI_ge (l := ys) (by omega), Int.mul_zero]
 ·rw [if_neg (by omega), if_neg h]
theorem midI_end : midI xs ys xs.length 0 = mulI xs ys := by
 refine List.ext_getElem (by rw [midI_len]; simp [mulI]) (fun s h1 h2 => ?_);rw [midI_at, if_neg (by omega), Int.add_zero];simp [mulI]
theorem midI_step {i j : Nat} (hi : i < xs.length) (hj : j < ys.length) (h : i + j < (midI xs ys i j).length) : (midI xs ys i j).set (i + j) ((midI xs ys i j)[i + j] + xs[i] * ys[j]) = midI xs ys i (j + 1) := by
 refine List.ext_getElem (by rw [List.length_set, midI_len, midI_len]) (fun s h1 h2 => ?_);rw [List.getElem_set]
 by_cases e : i + j = s
 ·subst e
  rw [if_pos rfl, midI_at, midI_at, if_neg (by omega), if_pos (by omega), Int.add_zero, cfI_lt hi, show i + j - i = j by omega, cfI_lt hj]
 ·rw [if_neg e, midI_at, midI_at]
  congr 1
  by_cases h3 : i <= s /\ s < i + j
  ·rw [if_pos h3, if_pos (by omega)]
  ·rw [if_neg h3, if_neg (by omega)]
theorem cfI_abs {l : List Int} {X : Nat} (h : ∀ x ∈ l, x.natAbs <= X) (i : Nat) : (cfI l i).natAbs <= X := by
 by_cases hi : i < l.length
 ·rw [cfI_lt hi]; exact h _ (List.getElem_mem hi)
 ·rw [cfI_ge (by omega)]; exact Nat.zero_le _
theorem psum_abs {f : Nat -> Int} {B : Nat} (h : ∀ i, (f i).natAbs <= B) : ∀ n, (psum f n).natAbs <= n * B
 | 0 => by simp [psum]
 | n + 1 => by
  have h1 := psum_abs h n;have h2 := h n;have h3 := Int.natAbs_add_le (psum f n) (f n)
  show (psum f n + f n).natAbs <= _
  rw [Nat.succ_mul];omega
theorem termI_abs {X Y : Nat} (hx : ∀ x ∈ xs, x.natAbs <= X) (hy : ∀ y ∈ ys, y.natAbs <= Y) (s i : Nat) : (termI xs ys s i).natAbs <= X * Y := by
 unfold termI
 split
 ·rw [Int.natAbs_mul]; exact Nat.mul_le_mul (cfI_abs hx _) (cfI_abs hy _)
 ·exact Nat.zero_le _
theorem midI_abs {X Y : Nat} (hx : ∀ x ∈ xs, x.natAbs <= X) (hy : ∀ y ∈ ys, y.natAbs <= Y) (i j : Nat) : ∀ z ∈ midI xs ys i j, z.natAbs <= (i + 1) * (X * Y) := by
 intro z hz;obtain ⟨s, _, rfl⟩ := List.mem_map.1 hz;have h1 := psum_abs (termI_abs xs ys hx hy s) i
 have h2 : (if i <= s /\ s < i + j then cfI xs i * cfI ys (s - i) else 0 : Int).natAbs <= X * Y := by
  split
  ·rw [Int.natAbs_mul]; exact Nat.mul_le_mul (cfI_abs hx _) (cfI_abs hy _)
  ·exact Nat.zero_le _
 refine Nat.le_trans (Int.natAbs_add_le _ _) ?_;rw [Nat.succ_mul];omega
end
section
open Go.RowKit
attribute [local go_sem ↓] Go.wp_at_zero Go.wp_at_succ
def trimI (l : List Int) : List Int := (l.reverse.dropWhile (fun x => decide (x = 0))).reverse
theorem trimI_zero (l : List Int) : trimI (l ++ [0]) = trimI l := by
 unfold trimI;rw [List.reverse_append];simp
theorem trimI_snoc (l : List Int) {x : Int} (h : x ≠ 0) : trimI (l ++ [x]) = l ++ [x] := by
 unfold trimI;rw [List.reverse_append];simp [h]
theorem trimI_step {l : List Int} {n : Nat} (hn : n < l.length) (h0 : l[n] = 0) (h : trimI (l.take (n + 1)) = trimI l) : trimI (l.take n) = trimI l := by
 rw [<- h, List.take_succ_eq_append_getElem hn, h0, trimI_zero]
theorem trimI_stop {l : List Int} {n : Nat} (hn : n < l.length) (h0 : l[n] ≠ 0) (h : trimI (l.take (n + 1)) = trimI l) : trimI l = l.take (n + 1) := by
 rw [<- h, List.take_succ_eq_append_getElem hn, trimI_snoc _ h0]
theorem trimI_pre (l : List Int) : ∃ k, l = trimI l ++ List.replicate k 0 := by
 have : ∀ m : List Int, ∃ k, m.reverse = trimI m.reverse ++ List.replicate k 0 := by
  intro m
  induction m with
  | nil => exact ⟨0, rfl⟩
  | cons x m ih =>
   rw [List.reverse_cons]
   by_cases h : x = 0
   ·subst h
    obtain ⟨k, hk⟩ := ih;refine ⟨k + 1, ?_⟩;rw [trimI_zero, List.replicate_succ', <- List.append_assoc, <- hk]
   ·exact ⟨0, by rw [trimI_snoc _ h]; simp⟩
 have := this l.reverse
 rwa [List.reverse_reverse] at this
theorem trimI_take (l : List Int) : l.take (trimI l).length = trimI l := by
 obtain ⟨k, hk⟩ := trimI_pre l;exact (congrArg (List.take (trimI l).length) hk).trans (List.take_left ..)
theorem trimI_len (l : List Int) : (trimI l).length <= l.length := by
 obtain ⟨k, hk⟩ := trimI_pre l;have := congrArg List.length hk;rw [List.length_append] at this;omega
section
variable {w w' : World} {z y : Int} {zs ys : List Int} {L M : Nat} {s t : Bool} {A B : Option Addr} {n c m d : Nat}
theorem p_exact (h : NI w z L s A n c) (k : NI w y M t B m d) (hL : L <= 8000) (hM : M <= 8000) (h0 : y ≠ 0) (hd : y ∣ z) : Calls Tryz.prog 108 #[.agg #[.bool s, .slice A n c], .agg #[.bool t, .slice B m d]] w (RetNI (z / y) L w) := by
 go_enter Tryz.func108, Tryz.ntmps108
 go_upto_region 1 with (fail)
 obtain ⟨W, hW, extW, bx, by_, bz, hz⟩ := box3 w 25 25 25 #[.bool s, .slice A n c] #[.bool t, .slice B m d] #[Value.bool false, Value.slice none 0 0];rw [<- hW];clear hW;have x0 := bx.cell 0 (.bool s) rfl;have x1 := bx.cell 1 (.slice A n c) rfl;have y0 := by_.cell 0 (.bool t) rfl;have y1 := by_.cell 1 (.slice B m d) rfl
 go_wp2_with fail
 refine (p_DivMod (h.ext extW) (k.ext extW) (by omega) (by omega) h0).mono ?_;rintro e wb ⟨s1, A1, n1, c1, s2, A2, n2, c2, q, r, rfl, hq, hr, hdm, hx1⟩;obtain ⟨_, hqe, hql⟩ := (dm_q_le hdm h0).2.2 hd;rw [hqe] at hq hql;have hq' := hq.tight h (by simpa using hql);clear x0 x1 y0 y1
 go_upto_region 2 with (fail)
 refine at_world (fun V => Ext W V /\ Box V wb.heap.size 25 #[.bool s1, .slice A1 n1 c1] /\ NI V (z / y) L s1 A1 n1 c1) ?_ ?_
 ·obtain ⟨e1, e2, e3⟩ := two_new wb 25 #[.bool s1, .slice A1 n1 c1] #[.bool s2, .slice A2 n2 c2]
  exact ⟨hx1.trans e1, e2, hq'.ext e1⟩
 generalize wb.heap.size = g5;rintro V ⟨EV, b5, hqV⟩;have x0 := b5.cell 0 _ rfl;have x1 := b5.cell 1 _ rfl;have z0 := (bz.ext EV).cell 0 _ rfl;have z1 := (bz.ext EV).cell 1 _ rfl;have f0 := (bz.ext EV).frozen 0;have f1 := (bz.ext EV).frozen 1
 go_wp2_with fail
 obtain ⟨b1, b2, b3, b4⟩ := fin_dual (s := s1) (A := A1) (n := n1) (c := c1) (bz.ext EV);have r0 := b1.cell 0 (.bool s1) rfl;have r1 := b1.cell 1 (.slice A1 n1 c1) rfl;unfold set2 at r0 r1;refine bodyPost_ret (v := .agg #[.bool s1, .slice A1 n1 c1]) (by simp [results, Tryz.results108, go_sem, r0, r1]) rfl ⟨s1, A1, n1, c1, rfl, ?_, b3 _ (extW.trans EV) (by omega)⟩;exact b2 _ _ _ _ _ _ hqV
theorem p_cutI_same (h : IPol w A n c zs L) (hL : L <= 10000) (hn : n <= 1000) : Calls Tryz.prog 109 #[.slice A n c, .func (.func 96) #[] #[]] w fun e w' => e = .returned (.slice A (trimI zs).length c) /\ Ext w w' := by
 go_enter Tryz.func109, Tryz.ntmps109
 go_wp2_with fail
 go_loopw [0] (fun v wr => ∃ k : Nat, k <= n /\ v = .slice A k c /\ Ext w wr /\ trimI (zs.take k) = trimI zs) (fun v _ => lenV v)
 case atStart => exact ⟨n, Nat.le_refl _, rfl, Ext.refl _, by rw [List.take_of_length_le (Nat.le_of_eq h.len)]⟩
 case round =>
  obtain ⟨k, hk, rfl, ext, ht⟩ := hrel;have HT := Lib.hid ht;clear ht
  rcases Nat.eq_zero_or_pos k with h0 | h0
  ·subst h0
   go_wp2_with fail
   go_ret
   have ht := HT.out;exact ⟨by rw [<- ht]; rfl, ext⟩
  ·obtain ⟨j, rfl⟩ : ∃ j, k = j + 1 := ⟨k - 1, by omega⟩
   have hj : j < zs.length := by rw [h.len]; omega
   have hjc : (j : Int) <= (c : Int) := by have := h.cap; omega
   obtain ⟨b, off, rfl, hr⟩ := h.at_ (fun e => by rw [e] at hj; exact absurd hj (Nat.not_lt_zero _));obtain ⟨sx, Ax, nx, cx, e0, e1, hx⟩ := (hr.ext ext).at_ j hj;have e0' : wr.cell? ⟨b, off + j * 2, none⟩ = some (.bool sx) := by rw [Nat.mul_comm]; exact e0
   have e1' : wr.cell? ⟨b, off + j * 2 + 1, none⟩ = some (.slice Ax nx cx) := by rw [Nat.mul_comm]; exact e1
   by_cases hq : zs[j] = 0
   ·have HS := Lib.hid (show (zs[j]).sign = 0 by rw [hq]; rfl)
    have HQ := Lib.hid hq;clear hq
    go_wp2_with fail
    refine (p_Sign hx (by omega)).mono ?_;rintro e V ⟨rfl, hxt⟩;rw [HS.out]
    go_wp2_with fail
    go_roundw
    case rel => exact ⟨j, by omega, by go_num, ext.trans hxt, trimI_step hj HQ.out HT.out⟩
    case measure => simp [lenV]
   ·obtain ⟨S, hS, dS⟩ : ∃ S, (zs[j]).sign = S /\ (S == 0) = false := ⟨_, rfl, beq_eq_false_iff_ne.2 (fun e => hq (Int.sign_eq_zero_iff_zero.1 e))⟩
    have HS := Lib.hid hS;have HQ := Lib.hid hq;clear hS hq
    go_wp2_with fail
    refine (p_Sign hx (by omega)).mono ?_;rintro e V ⟨rfl, hxt⟩;rw [HS.out]
    go_wp2_with fail
    go_ret
    refine ⟨?_, ext.trans hxt⟩;rw [trimI_stop hj HQ.out HT.out, List.length_take, Nat.min_eq_left (by omega)]
    rfl
end
end
end Go.Proofs.YtpeddoaknfjbbaaGreatDoor
