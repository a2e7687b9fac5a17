/- Walks and laws, a part. -/
import Derived.Test.YtijdljfnmdoffaaGreatDoorP6
import Derived.Test.YtijdljfnmdoffaaGreatDoorP5
import Derived.Test.YtijdljfnmdoffaaGreatDoorP4
import Derived.Test.YtijdljfnmdoffaaGreatDoorP0
import Derived.Deep.Slices
import Derived.WalkKit
set_option linter.unusedSimpArgs false
set_option linter.unusedVariables false
set_option maxHeartbeats 64000000
namespace Go.Proofs.YtijdljfnmdoffaaGreatDoor
section
open Go.RowKit
attribute [local go_sem ↓] Go.wp_at_zero Go.wp_at_succ
def formedB (ts us : List (List RawR)) : Bool := towerB ts 0 && us.all fun l => validL l (2 ^ ts.length)
section
variable {w w' : World} {q x : Rat} {L M : Nat} {s t : Bool} {A B : Option Addr} {n c m d : Nat} {sx tx : Bool} {Ax Bx : Option Addr} {nx cx mx dx : Nat} {qs ps : List Rat} {rs : List RawR} {ts us : List (List RawR)}
theorem p_validT (h : RawP w A n c rs) (k : Nat) (hk0 : k <= 100000) (hr : rs.all (fun r => r.le 1000) = true) (hT : Tab w) : Calls Tryz.prog 91 #[.slice A n c, .int .i64 (k : Int)] w fun e w' => e = .returned (.bool (validL rs k)) /\ Ext w w' := by
 have Hlen := Lib.hid h.len
 by_cases hb : n = k
 ·subst hb
  go_enter Tryz.func91, Tryz.ntmps91
  go_wp2_with fail
  go_loopw [13] (fun i wr => ∃ k : Nat, k <= n /\ i = .int .i64 (k : Int) /\ Ext w wr /\ (rs.take k).all RawR.valid = true) (fun i _ => n - (intOf i).toNat)
  case atStart => exact ⟨0, by omega, rfl, Ext.refl _, by simp⟩
  case round =>
   obtain ⟨k, hk, rfl, ext, hall⟩ := hrel;have HA := Lib.hid hall;clear hall
   by_cases hlt : k < n
   ·have hj : k < rs.length := by rw [Hlen.out]; exact hlt
    have hI : (k : Int) < (n : Int) := by omega
    obtain ⟨p, off, rfl, hr'⟩ := h.at_ (fun e => by rw [e] at hj; exact absurd hj (Nat.not_lt_zero _));obtain ⟨Ax, nx, cx, Bx, mx, dx, e0, e1, e2, e3, hx, hy⟩ := (hr' k hj).ext ext;have HT := Lib.hid (show (rs.take (k + 1)).all RawR.valid = ((rs.take k).all RawR.valid && RawR.valid rs[k]) by rw [List.take_succ_eq_append_getElem hj, List.all_append]; simp)
    have HM := Lib.hid (fun hf : RawR.valid rs[k] = false => show validL rs n = false by
     unfold validL;rw [Bool.and_eq_false_iff]
     right
     rw [List.all_eq_false];exact ⟨rs[k], List.getElem_mem hj, by rw [hf]; simp⟩)
    have hle := List.all_eq_true.1 hr rs[k] (List.getElem_mem hj);unfold RawR.le at hle;simp only [Bool.and_eq_true, decide_eq_true_eq] at hle;have l1 := hle.1;have l2 := hle.2;have x1 := hx.len;have x2 := hy.len;clear hle;generalize rs[k] = r at e0 e1 e2 e3 hx hy HT HM l1 l2 x1 x2;have l3 : nx <= 1000 := by omega
    have l4 : mx <= 1000 := by omega
    clear l1 l2 x1 x2;have e0' : wr.cell? ⟨p, off + k * 4, none⟩ = some (.bool r.s) := by rw [Nat.mul_comm]; exact e0
    have e1' : wr.cell? ⟨p, off + k * 4 + 1, none⟩ = some (.slice Ax nx cx) := by rw [Nat.mul_comm]; exact e1
    have e2' : wr.cell? ⟨p, off + k * 4 + 2, none⟩ = some (.bool r.t) := by rw [Nat.mul_comm]; exact e2
    have e3' : wr.cell? ⟨p, off + k * 4 + 3, none⟩ = some (.slice Bx mx dx) := by rw [Nat.mul_comm]; exact e3
    go_upto_region 6 with (fail)
    obtain ⟨W, hW, extW, bx, hz⟩ := box1 wr 30 #[.bool r.s, .slice Ax nx cx, .bool r.t, .slice Bx mx dx];rw [<- hW];clear hW hz;have x0 := bx.cell 0 (.bool r.s) rfl;have x1 := bx.cell 1 (.slice Ax nx cx) rfl;have x2 := bx.cell 2 (.bool r.t) rfl;have x3 := bx.cell 3 (.slice Bx mx dx) rfl;replace ext := ext.trans extW
    cases hs : validQ r.s r.xs r.t r.ys with
    | false =>
     have HS := Lib.hid hs;clear hs
     go_wp2_with fail
     refine (p_ValidRaw (hx.ext extW) (hy.ext extW) (by omega) (by omega) (hT.ext ext)).mono ?_;rintro e V ⟨rfl, hxv⟩;rw [HS.out]
     go_wp2_with fail
     go_ret
     exact ⟨by rw [HM.out HS.out]; rfl, ext.trans hxv⟩
    | true =>
     have HS := Lib.hid hs;clear hs
     go_wp2_with fail
     refine (p_ValidRaw (hx.ext extW) (hy.ext extW) (by omega) (by omega) (hT.ext ext)).mono ?_;rintro e V ⟨rfl, hxv⟩;rw [HS.out]
     go_wp2_with fail
     go_roundw
     case rel => exact ⟨k + 1, by omega, by go_num, ext.trans hxv, by rw [HT.out, HA.out]; exact HS.out⟩
     case measure => simp [intOf]; omega
   ·have hI : (n : Int) <= (k : Int) := by omega
    go_wp2_with fail
    go_ret
    refine ⟨?_, ext⟩;have ha := HA.out;rw [List.take_of_length_le (by rw [Hlen.out]; omega)] at ha;have : validL rs n = true := by unfold validL; rw [ha, Hlen.out]; simp
    rw [this]; rfl
 ·have hg : ((n : Int) == (k : Int)) = false := beq_eq_false_iff_ne.2 (by omega)
  have hs : validL rs k = false := by unfold validL; rw [Hlen.out, decide_eq_false hb]; rfl
  rw [hs];clear hs
  go_enter Tryz.func91, Tryz.ntmps91
  go_wp2_with fail
  go_ret
  exact ⟨rfl, Ext.refl _⟩
theorem p_formedT (h : RawT w A n c ts) (k : RawT w B m d us) (hn : n <= 16) (hm : m <= 16) (hr : ∀ l ∈ ts, l.all (fun r => r.le 1000) = true) (hr' : ∀ l ∈ us, l.all (fun r => r.le 1000) = true) (hT : Tab w) :
  Calls Tryz.prog 49 #[.slice A n c, .slice B m d] w fun e w' => e = .returned (.bool (formedB ts us)) /\ Ext w w' := by
 have Hlen := Lib.hid h.len;have Hlen' := Lib.hid k.len
 go_enter Tryz.func49, Tryz.ntmps49
 go_wp2_with fail
 go_loopw [5, 12] (fun ln i wr => ∃ j P : Nat, j <= n /\ P = 2 ^ j /\ i = .int .i64 (j : Int) /\ ln = .int .i64 (P : Int) /\ Ext w wr /\ towerB (ts.take j) 0 = true) (fun _ i _ => n - (intOf i).toNat)
 case atStart => exact ⟨0, 1, by omega, rfl, rfl, rfl, Ext.refl _, rfl⟩
 case round =>
  obtain ⟨j, P, hj, hP, rfl, rfl, ext, hall⟩ := hrel
  have hPb : P <= 65536 := by
   rw [hP];exact Nat.le_trans (Nat.pow_le_pow_right (by omega) (show j <= 16 by omega)) (by decide)
  have HA := Lib.hid hall;have HP := Lib.hid hP;clear hall hP
  by_cases hlt : j < n
  ·have hjl : j < ts.length := by rw [Hlen.out]; exact hlt
   have hI : (j : Int) < (n : Int) := by omega
   obtain ⟨p, off, rfl, hr0⟩ := h.at_ (fun e => by rw [e] at hjl; exact absurd hjl (Nat.not_lt_zero _));obtain ⟨A', n', c', e0, hx⟩ := hr0 j hjl;replace e0 := ext.cellv e0;have hle := hr ts[j] (List.getElem_mem hjl);have HT := Lib.hid (towerB_step hjl HA.out);have HM := Lib.hid (fun hf : validL ts[j] (2 ^ j) = false => towerB_stop hjl hf);generalize ts[j] = l at hx hle HT HM
   cases hs : validL l P with
   | false =>
    have HS := Lib.hid hs;clear hs
    go_wp2_with fail
    refine (p_validT (hx.ext ext) P (by omega) hle (hT.ext ext)).mono ?_;rintro e V ⟨rfl, hxv⟩;rw [HS.out]
    go_wp2_with fail
    go_ret
    exact ⟨by unfold formedB; rw [HM.out (by rw [<- HP.out]; exact HS.out)]; rfl, ext.trans hxv⟩
   | true =>
    have HS := Lib.hid hs;clear hs
    go_wp2_with fail
    refine (p_validT (hx.ext ext) P (by omega) hle (hT.ext ext)).mono ?_;rintro e V ⟨rfl, hxv⟩;rw [HS.out]
    go_wp2_with fail
    go_roundw
    case rel => exact ⟨j + 1, P * 2, by omega, by rw [Nat.pow_succ, HP.out], by go_num, by go_num, ext.trans hxv, by rw [HT.out, <- HP.out]; exact HS.out⟩
    case measure => simp [intOf]; omega
  ·have hI : (n : Int) <= (j : Int) := by omega
   have hjn : j = n := by omega
   have ha := HA.out;rw [List.take_of_length_le (by rw [Hlen.out]; omega)] at ha;have Ha := Lib.hid ha;have hP2 : P = 2 ^ ts.length := by rw [HP.out, hjn, Hlen.out]
   have HP2 := Lib.hid hP2;clear ha hP2 hjn
   go_wp2_with fail
   go_loopw [25] (fun i wr => ∃ o : Nat, o <= m /\ i = .int .i64 (o : Int) /\ Ext w wr /\ (us.take o).all (fun l => validL l P) = true) (fun i _ => m - (intOf i).toNat)
   case atStart => exact ⟨0, by omega, rfl, ext, by simp⟩
   case round =>
    clear ext;obtain ⟨o, ho, rfl, ext, hall⟩ := hrel;have HO := Lib.hid hall;clear hall
    by_cases hlt : o < m
    ·have hjl : o < us.length := by rw [Hlen'.out]; exact hlt
     have hI : (o : Int) < (m : Int) := by omega
     obtain ⟨p, off, rfl, hr0⟩ := k.at_ (fun e => by rw [e] at hjl; exact absurd hjl (Nat.not_lt_zero _));obtain ⟨A', n', c', e0, hx⟩ := hr0 o hjl;replace e0 := ext.cellv e0;have hle := hr' us[o] (List.getElem_mem hjl);have HT := Lib.hid (show (us.take (o + 1)).all (fun l => validL l P) = ((us.take o).all (fun l => validL l P) && validL us[o] P) by rw [List.take_succ_eq_append_getElem hjl, List.all_append]; simp)
     have HM := Lib.hid (fun hf : validL us[o] P = false => show us.all (fun l => validL l P) = false by
      rw [List.all_eq_false];exact ⟨us[o], List.getElem_mem hjl, by rw [hf]; simp⟩)
     generalize us[o] = l at hx hle HT HM
     cases hs : validL l P with
     | false =>
      have HS := Lib.hid hs;clear hs
      go_wp2_with fail
      refine (p_validT (hx.ext ext) P (by omega) hle (hT.ext ext)).mono ?_;rintro e V ⟨rfl, hxv⟩;rw [HS.out]
      go_wp2_with fail
      go_ret
      exact ⟨by unfold formedB; rw [<- HP2.out, HM.out HS.out, Bool.and_false]; rfl, ext.trans hxv⟩
     | true =>
      have HS := Lib.hid hs;clear hs
      go_wp2_with fail
      refine (p_validT (hx.ext ext) P (by omega) hle (hT.ext ext)).mono ?_;rintro e V ⟨rfl, hxv⟩;rw [HS.out]
      go_wp2_with fail
      go_roundw
      case rel => exact ⟨o + 1, by omega, by go_num, ext.trans hxv, by rw [HT.out, HO.out]; exact HS.out⟩
      case measure => simp [intOf]; omega
    ·have hI : (m : Int) <= (o : Int) := by omega
     go_wp2_with fail
     go_ret
     refine ⟨?_, ext⟩;have ho := HO.out;rw [List.take_of_length_le (by rw [Hlen'.out]; omega)] at ho;have : formedB ts us = true := by unfold formedB; rw [Ha.out, <- HP2.out, ho]; rfl
     rw [this]; rfl
end
def zeroB (qs : List Rat) : Bool := qs.all fun q => decide (q = 0)
section
variable {w w' : World} {q x : Rat} {L M : Nat} {s t : Bool} {A B : Option Addr} {n c m d : Nat} {sx tx : Bool} {Ax Bx : Option Addr} {nx cx mx dx : Nat} {qs ps : List Rat} {rs : List RawR} {ts us : List (List RawR)}
theorem p_cloneT (h : NR w q L s A n c t B m d) (hL : L <= 100000) : Calls Tryz.prog 52 #[.agg #[.bool s, .slice A n c, .bool t, .slice B m d]] w (RetNR q L w) := by
 go_enter Tryz.func52, Tryz.ntmps52
 go_upto_region 1 with (fail)
 obtain ⟨W, hW, extW, bx, bz, hz⟩ := box2 w 30 30 #[.bool s, .slice A n c, .bool t, .slice B m d] #[Value.bool false, Value.slice none 0 0, Value.bool false, Value.slice none 0 0];rw [<- hW];clear hW;refine wpL.st 7 (fun hQ ES => ?_);refine wpL.u 0 3 hQ ES ?_
 try simp only [zP]
 refine wpL.u 3 6 hQ ES ?_
 try simp only [zP]
 refine wpL.t 1 4 ?v_2 hQ ?y_2 ES ?_
 case y_2 => intro w' hSw;have k00 := (bx.ext hSw).c4;go_simp;try rfl
 try simp only [zP]
 refine wpL.t 4 7 ?v_3 hQ ?y_3 ES ?_
 case y_3 => intro w' hSw;have k00 := (bx.ext hSw).c4;go_simp;try rfl
 try simp only [zP]
 refine wpL.cl (i := 2) rfl (fun K hK => ?_);go_simp
 (go_at_call 92; refine (p_Norm (h.num.ext (extW.trans ES)) hL).mono ?_; rintro e wa ⟨s1, A1, n1, c1, rfl, h1, hx0⟩; have E0_1 := Ext.trans ES hx0)
 refine hK.out _ _ E0_1 ?_;clear hK K
 try simp only [zP]
 refine wpL.cl (i := 5) rfl (fun K hK => ?_);go_simp
 (go_at_call 92; refine (p_Norm (h.den.ext (extW.trans E0_1)) hL).mono ?_; rintro e wb ⟨s2, A2, n2, c2, rfl, h2, hx1⟩; have E1_1 := Ext.trans E0_1 hx1)
 refine hK.out _ _ E1_1 ?_;clear hK K
 try simp only [zP]
 refine wpL.u 6 9 hQ E1_1 ?_
 try simp only [zP]
 have z0 := (bz.ext E1_1).cell 0 _ rfl;have z1 := (bz.ext E1_1).cell 1 _ rfl;have z2 := (bz.ext E1_1).cell 2 _ rfl;have z3 := (bz.ext E1_1).cell 3 _ rfl;have f0 := (bz.ext E1_1).frozen 0;have f1 := (bz.ext E1_1).frozen 1;have f2 := (bz.ext E1_1).frozen 2;have f3 := (bz.ext E1_1).frozen 3;refine wpL.tl (i := 7) rfl (fun K hK => ?_);go_simp;refine hK.out _ _ ?_;clear hK K
 try simp only [zP]
 refine wpL.done (by kernel_rfl) ?_ _;clear hQ
 go_wp2_with fail
 obtain ⟨b1, b2, b3, b4⟩ := fin_quad (s := s1) (A := A1) (n := n1) (c := c1) (t := s2) (B := A2) (m := n2) (d := c2) (bz.ext E1_1);have r0 := b1.cell 0 (.bool s1) rfl;have r1 := b1.cell 1 (.slice A1 n1 c1) rfl;have r2 := b1.cell 2 (.bool s2) rfl;have r3 := b1.cell 3 (.slice A2 n2 c2) rfl;unfold set4 at r0 r1 r2 r3;refine bodyPost_ret (v := .agg #[.bool s1, .slice A1 n1 c1, .bool s2, .slice A2 n2 c2]) (by simp [results, Tryz.results52, go_sem, r0, r1, r2, r3]) rfl ⟨s1, A1, n1, c1, s2, A2, n2, c2, rfl, ⟨?_, ?_⟩, b3 _ (extW.trans E1_1) (by omega)⟩
 ·exact b2 _ _ _ _ _ _ (h1.ext hx1)
 ·exact b2 _ _ _ _ _ _ h2
theorem p_zerosT (n : Nat) (hn : n <= 1000) : Calls Tryz.prog 51 #[.int .i64 (n : Int)] w fun e w' => e = .returned (.slice (some ⟨w.heap.size, 0, none⟩) n n) /\ Fill w' w.heap.size n (List.replicate n 0) 2 /\ Ext w w' := by
 have hmk := mk_rats n (by omega)
 go_enter Tryz.func51, Tryz.ntmps51
 go_wp2_with fail
 go_loopw [9] (fun i wr => ∃ k : Nat, k <= n /\ i = .int .i64 (k : Int) /\ Ext w wr /\ Fill wr w.heap.size n (List.replicate k 0) 2) (fun i _ => n - (intOf i).toNat)
 case atStart => exact ⟨0, Nat.zero_le _, rfl, (Ext.refl w).alloc _, Fill.new w n _⟩
 case round =>
  obtain ⟨k, hk, rfl, ext, hF⟩ := hrel
  by_cases hlt : k < n
  ·have hkl : (List.replicate k (0 : Rat)).length = k := List.length_replicate
   have HR := Lib.hid (List.replicate_succ' (n := k) (a := (0 : Rat)))
   go_wp2_with fail
   refine (p_FromIntR 0 (by omega) (by omega)).mono ?_;rintro e V ⟨s7, A7, n7, c7, t7, B7, m7, d7, rfl, h7, hxt⟩;replace hF := hF.ext hxt;replace ext := ext.trans hxt;have hcs := hF.cells (by rw [hkl]; exact hlt);rw [hkl] at hcs;obtain ⟨p0, p1, p2, p3⟩ := hcs;have f0 := hF.frozen (k * 4);have f1 := hF.frozen (k * 4 + 1);have f2 := hF.frozen (k * 4 + 2);have f3 := hF.frozen (k * 4 + 3)
   go_wp2_with fail
   have P := hF.put hkl hlt h7
   go_roundw
   case rel => exact ⟨k + 1, by omega, by go_num, P.2.2.1 _ ext (Nat.le_refl _), by rw [HR.out]; exact P.1⟩
   case measure => simp [intOf]; omega
  ·have hkn : k = n := by omega
   subst hkn
   go_wp2_with fail
   go_ret
   exact ⟨rfl, hF, ext⟩
theorem num_zeroT {q : Rat} (h : q = 0) : q.num.sign = 0 := by rw [h]; rfl
theorem num_nzT {q : Rat} (h : q ≠ 0) : q.num.sign ≠ 0 := fun e => h (Rat.num_eq_zero.1 (Int.sign_eq_zero_iff_zero.1 e))
theorem p_ZeroT (h : Pol w A n c qs L) (hL : L <= 1000) (hn : n <= 100000) : Calls Tryz.prog 35 #[.slice A n c] w fun e w' => e = .returned (.bool (zeroB qs)) /\ Ext w w' := by
 have Hlen := Lib.hid h.len
 go_enter Tryz.func35, Tryz.ntmps35
 go_wp2_with fail
 go_loopw [7] (fun i wr => ∃ k : Nat, k <= n /\ i = .int .i64 (k : Int) /\ Ext w wr /\ zeroB (qs.take k) = true) (fun i _ => n - (intOf i).toNat)
 case atStart => exact ⟨0, by omega, rfl, Ext.refl _, by simp [zeroB]⟩
 case round =>
  obtain ⟨k, hk, rfl, ext, hall⟩ := hrel;have HA := Lib.hid hall;clear hall
  by_cases hlt : k < n
  ·have hj : k < qs.length := by rw [Hlen.out]; exact hlt
   have hI : (k : Int) < (n : Int) := by omega
   obtain ⟨p, off, rfl, hr⟩ := h.at_ (fun e => by rw [e] at hj; exact absurd hj (Nat.not_lt_zero _));obtain ⟨sx, Ax, nx, cx, tx, Bx, mx, dx, e0, e1, e2, e3, hx⟩ := (hr.ext ext).at_ k hj;have e0' : wr.cell? ⟨p, off + k * 4, none⟩ = some (.bool sx) := by rw [Nat.mul_comm]; exact e0
   have e1' : wr.cell? ⟨p, off + k * 4 + 1, none⟩ = some (.slice Ax nx cx) := by rw [Nat.mul_comm]; exact e1
   have e2' : wr.cell? ⟨p, off + k * 4 + 2, none⟩ = some (.bool tx) := by rw [Nat.mul_comm]; exact e2
   have e3' : wr.cell? ⟨p, off + k * 4 + 3, none⟩ = some (.slice Bx mx dx) := by rw [Nat.mul_comm]; exact e3
   have HT := Lib.hid (show zeroB (qs.take (k + 1)) = (zeroB (qs.take k) && decide (qs[k] = 0)) by unfold zeroB; rw [List.take_succ_eq_append_getElem hj, List.all_append]; simp)
   have HM := Lib.hid (fun hf : qs[k] ≠ 0 => show zeroB qs = false by
    unfold zeroB;rw [List.all_eq_false];exact ⟨qs[k], List.getElem_mem hj, by simpa using hf⟩)
   generalize qs[k] = r at hx HT HM
   go_upto_region 4 with (fail)
   obtain ⟨W, hW, extW, bx, hz⟩ := box1 wr 30 #[.bool sx, .slice Ax nx cx, .bool tx, .slice Bx mx dx];rw [<- hW];clear hW hz e0 e1 e2 e3 e0' e1' e2' e3';replace hx := hx.ext extW;replace ext := ext.trans extW;have x0 := bx.cell 0 (.bool sx) rfl;have x1 := bx.cell 1 (.slice Ax nx cx) rfl;have x2 := bx.cell 2 (.bool tx) rfl;have x3 := bx.cell 3 (.slice Bx mx dx) rfl
   by_cases hq : r = 0
   ·have HS := Lib.hid (num_zeroT hq)
    have HQ := Lib.hid hq;clear hq
    go_wp2_with fail
    refine (p_SignR hx (by omega)).mono ?_;rintro e V ⟨rfl, hxt⟩;rw [HS.out]
    go_wp2_with fail
    go_roundw
    case rel => exact ⟨k + 1, by omega, by go_num, ext.trans hxt, by rw [HT.out, HA.out, decide_eq_true HQ.out]; rfl⟩
    case measure => simp [intOf]; omega
   ·obtain ⟨S, hS, dS⟩ : ∃ S, r.num.sign = S /\ (S == 0) = false := ⟨_, rfl, beq_eq_false_iff_ne.2 (num_nzT hq)⟩
    have HS := Lib.hid hS;have HQ := Lib.hid hq;clear hS hq
    go_wp2_with fail
    refine (p_SignR hx (by omega)).mono ?_;rintro e V ⟨rfl, hxt⟩;rw [HS.out]
    go_wp2_with fail
    go_ret
    exact ⟨by rw [HM.out HQ.out]; rfl, ext.trans hxt⟩
  ·have hI : (n : Int) <= (k : Int) := by omega
   go_wp2_with fail
   go_ret
   refine ⟨?_, ext⟩;have ha := HA.out;rw [List.take_of_length_le (by rw [Hlen.out]; omega)] at ha;rw [ha]; rfl
end
def TowL (ts : List (List Rat)) : Prop := ∀ i (h : i < ts.length), ts[i].length = 2 ^ i
section
variable {w w' : World} {ts : List (List Rat)} {us : List (List RawR)} {rs : List RawR} {qs ps : List Rat} {A B : Option Addr} {n c m d b o k L M : Nat}
theorem NR.rawR {q : Rat} {s t : Bool} (h : NR w q L s A n c t B m d) : ∃ xs ys, RI w A n c xs /\ RI w B m d ys /\ (RawR.mk s xs t ys).valid = true /\ (RawR.mk s xs t ys).le L = true := by
 obtain ⟨xs, ys, h1, h2, h3, h4, h5, _⟩ := h.raw;refine ⟨xs, ys, h1, h2, h3, ?_⟩;have := h1.len;have := h2.len;unfold RawR.le;simp only [Bool.and_eq_true, decide_eq_true_eq];omega
theorem Pol.raw (h : Pol w A n c qs L) : ∃ rs : List RawR, RawP w A n c rs /\ rs.all RawR.valid = true /\ rs.all (fun r => r.le L) = true /\ rs.length = qs.length := by
 rcases Nat.eq_zero_or_pos n with h0 | h0
 ·exact ⟨[], ⟨h0.symm, h.cap, h.top, fun e => absurd rfl e⟩, rfl, rfl, by rw [h.len, h0]; rfl⟩
 obtain ⟨b, off, rfl, hr⟩ := h.at_ (fun e => by have := h.len; rw [e] at this; simp at this; omega)
 have key : ∀ i, i < n -> ∃ r : RawR, RawAt w b (off + 4 * i) r /\ r.valid = true /\ r.le L = true := by
  intro i hi;obtain ⟨s, A', n', c', t, B', m', d', e0, e1, e2, e3, hx⟩ := hr.at_ i (by rw [h.len]; exact hi);obtain ⟨xs, ys, h1, h2, h3, h4⟩ := hx.rawR;exact ⟨⟨s, xs, t, ys⟩, ⟨A', n', c', B', m', d', e0, e1, e2, e3, h1, h2⟩, h3, h4⟩
 haveI : Inhabited RawR := ⟨⟨false, [], false, []⟩⟩
 obtain ⟨F, hF⟩ := Deep.choose_lt (n := n) (α := RawR) (p := fun i r => RawAt w b (off + 4 * i) r /\ r.valid = true /\ r.le L = true) key;refine ⟨(List.range n).map F, ⟨by simp, h.cap, h.top, fun _ => ⟨b, off, rfl, fun i hi => ?_⟩⟩, ?_, ?_, by simp [h.len]⟩
 ·have hi2 : i < n := by simpa using hi
  have := (hF i hi2).1
  simpa using this
 ·rw [List.all_eq_true]
  intro r hr';obtain ⟨i, hi, rfl⟩ := List.mem_map.1 hr';exact (hF i (List.mem_range.1 hi)).2.1
 ·rw [List.all_eq_true]
  intro r hr';obtain ⟨i, hi, rfl⟩ := List.mem_map.1 hr';exact (hF i (List.mem_range.1 hi)).2.2
theorem PolT.raw (h : PolT w A n c ts L) : ∃ us : List (List RawR), RawT w A n c us /\ us.length = n /\ (∀ l ∈ us, l.all (fun r => r.le L) = true) /\ ∀ i (h : i < us.length) (h' : i < ts.length), us[i].all RawR.valid = true /\ us[i].length = ts[i].length := by
 rcases Nat.eq_zero_or_pos n with h0 | h0
 ·exact ⟨[], ⟨h0.symm, h.cap, h.top, fun e => absurd rfl e⟩, h0.symm, fun l hl => (by cases hl), fun i hi => (by cases hi)⟩
 obtain ⟨b, off, rfl, hr⟩ := h.at_ (fun e => by have := h.len; rw [e] at this; simp at this; omega)
 have key : ∀ i, i < n -> ∃ r : List RawR, (∃ A' n' c', w.cell? ⟨b, off + i, none⟩ = some (.slice A' n' c') /\ RawP w A' n' c' r) /\ r.all (fun r => r.le L) = true /\ ∀ h' : i < ts.length, r.all RawR.valid = true /\ r.length = ts[i].length := by
  intro i hi;have hi' : i < ts.length := by rw [h.len]; exact hi
  obtain ⟨A', n', c', e0, hx⟩ := hr i hi';obtain ⟨rs, h1, h2, h3, h4⟩ := hx.raw;exact ⟨rs, ⟨A', n', c', e0, h1⟩, h3, fun _ => ⟨h2, h4⟩⟩
 obtain ⟨F, hF⟩ := Deep.choose_lt (n := n) (α := List RawR) (p := fun i r => (∃ A' n' c', w.cell? ⟨b, off + i, none⟩ = some (.slice A' n' c') /\ RawP w A' n' c' r) /\ r.all (fun r => r.le L) = true /\ ∀ h' : i < ts.length, r.all RawR.valid = true /\ r.length = ts[i].length) key;refine ⟨(List.range n).map F, ⟨by simp, h.cap, h.top, fun _ => ⟨b, off, rfl, fun i hi => ?_⟩⟩, by simp, ?_, ?_⟩
 ·have hi2 : i < n := by simpa using hi
  have := (hF i hi2).1
  simpa using this
 ·intro l hl
  obtain ⟨i, hi, rfl⟩ := List.mem_map.1 hl;exact (hF i (List.mem_range.1 hi)).2.1
 ·intro i hi hi'
  have hi2 : i < n := by simpa using hi
  have := (hF i hi2).2.2 hi'
  simpa using this
theorem towerB_of : ∀ (us : List (List RawR)) (k : Nat), (∀ i (h : i < us.length), validL us[i] (2 ^ (k + i)) = true) -> towerB us k = true
 | [], _, _ => rfl
 | l :: us, k, h => by
  rw [towerB];have h0 := h 0 (by simp);simp only [List.getElem_cons_zero, Nat.add_zero] at h0
  rw [h0, towerB_of us (k + 1) (fun i hi => by
   have := h (i + 1) (by simp; omega);simp only [List.getElem_cons_succ] at this;rw [show k + 1 + i = k + (i + 1) by omega];exact this)]
  rfl
theorem validL_of (hv : rs.all RawR.valid = true) (hl : rs.length = k) : validL rs k = true := by unfold validL; rw [hv, decide_eq_true hl]; rfl
theorem PolT.tower (h : PolT w A n c ts L) (ht : TowL ts) (hL : L <= 1000) : ∃ us : List (List RawR), RawT w A n c us /\ us.length = n /\ (∀ l ∈ us, l.all (fun r => r.le 1000) = true) /\ towerB us 0 = true := by
 obtain ⟨us, h1, h2, h3, h4⟩ := h.raw
 have hle : ∀ l : List RawR, l.all (fun r => r.le L) = true -> l.all (fun r => r.le 1000) = true := fun l hl => by
  rw [List.all_eq_true] at hl ⊢;intro r hr;have := hl r hr;unfold RawR.le at this ⊢;simp only [Bool.and_eq_true, decide_eq_true_eq] at this ⊢;omega
 refine ⟨us, h1, h2, fun l hl => hle l (h3 l hl), towerB_of us 0 (fun i hi => ?_)⟩;have hi' : i < ts.length := by rw [h.len, <- h2]; exact hi
 rw [Nat.zero_add];exact validL_of (h4 i hi hi').1 ((h4 i hi hi').2.trans (ht i hi'))
theorem Pol.rawK (h : Pol w A n c qs L) (hL : L <= 1000) : ∃ rs : List RawR, RawP w A n c rs /\ rs.all RawR.valid = true /\ rs.all (fun r => r.le 1000) = true /\ rs.length = qs.length := by
 obtain ⟨rs, h1, h2, h3, h4⟩ := h.raw;refine ⟨rs, h1, h2, ?_, h4⟩;rw [List.all_eq_true] at h3 ⊢;intro r hr;have := h3 r hr;unfold RawR.le at this ⊢;simp only [Bool.and_eq_true, decide_eq_true_eq] at this ⊢;omega
theorem p_formed0 (h : PolT w A n c ts L) (ht : TowL ts) (hL : L <= 1000) (hn : n <= 16) (hT : Tab w) : Calls Tryz.prog 49 #[.slice A n c, .slice none 0 0] w fun e w' => e = .returned (.bool true) /\ Ext w w' := by
 obtain ⟨us, h1, h2, h3, h4⟩ := h.tower ht hL;refine (p_formedT h1 (RawT.none w) hn (by omega) h3 (fun l hl => by cases hl) hT).mono ?_;rintro e w' ⟨rfl, hx⟩;exact ⟨by unfold formedB; rw [h4]; rfl, hx⟩
theorem p_formed1 {g : Nat} {T : TypeId} (h : PolT w A n c ts L) (ht : TowL ts) (hb : Box w g T #[.slice B m d]) (hq : Pol w B m d qs L) (hm : m = 2 ^ n) (hL : L <= 1000) (hn : n <= 16) (hT : Tab w) : Calls Tryz.prog 49 #[.slice A n c, .slice (some ⟨g, 0, none⟩) 1 1] w fun e w' => e = .returned (.bool true) /\ Ext w w' := by
 obtain ⟨us, h1, h2, h3, h4⟩ := h.tower ht hL;obtain ⟨rs, k1, k2, k3, k4⟩ := hq.rawK hL;refine (p_formedT h1 (RawT.one hb k1) hn (by omega) h3 (fun l hl => by rw [List.mem_singleton.1 hl]; exact k3) hT).mono ?_;rintro e w' ⟨rfl, hx⟩;exact ⟨by unfold formedB; rw [h4, h2]; simp [validL_of k2 (show rs.length = 2 ^ n by rw [k4, hq.len, hm])], hx⟩
theorem p_formed2 {g : Nat} {T : TypeId} {D : Option Addr} {l e0 : Nat} (h : PolT w A n c ts L) (ht : TowL ts) (hb : Box w g T #[.slice B m d, .slice D l e0]) (hq : Pol w B m d qs L) (hp : Pol w D l e0 ps L) (hm : m = 2 ^ n) (hl : l = 2 ^ n) (hL : L <= 1000) (hn : n <= 16) (hT : Tab w) : Calls Tryz.prog 49 #[.slice A n c, .slice (some ⟨g, 0, none⟩) 2 2] w fun e w' => e = .returned (.bool true) /\ Ext w w' := by
 obtain ⟨us, h1, h2, h3, h4⟩ := h.tower ht hL;obtain ⟨rs, k1, k2, k3, k4⟩ := hq.rawK hL;obtain ⟨ss, j1, j2, j3, j4⟩ := hp.rawK hL
 refine (p_formedT h1 (RawT.two hb k1 j1) hn (by omega) h3 (fun l hl => by
  rcases List.mem_cons.1 hl with rfl | hl
  ·exact k3
  ·rw [List.mem_singleton.1 hl]; exact j3) hT).mono ?_
 rintro e w' ⟨rfl, hx⟩;exact ⟨by unfold formedB; rw [h4, h2]; simp [validL_of k2 (show rs.length = 2 ^ n by rw [k4, hq.len, hm]), validL_of j2 (show ss.length = 2 ^ n by rw [j4, hp.len, hl])], hx⟩
end
end
section
open Go.RowKit
def RRow (w : World) (g : Nat) (qs : List Rat) (L : Nat) : Prop := ∃ cs : List Value, Box w g 30 cs.toArray /\ CellsOf w L qs cs
section
variable {w w' : World} {qs ps : List Rat} {q : Rat} {A B : Option Addr} {n c m d a b g k L M : Nat} {s t : Bool} {cs : List Value}
theorem CellsOf.split : ∀ (ps : List Rat) {cs : List Value}, CellsOf w L (ps ++ qs) cs -> ∃ ds es, cs = ds ++ es /\ CellsOf w L ps ds /\ CellsOf w L qs es
 | [], cs, h => ⟨[], cs, rfl, .nil, h⟩
 | p :: ps, cs, h => by
  cases h with
  | cons hq hr =>
   obtain ⟨ds, es, rfl, h1, h2⟩ := CellsOf.split ps hr;exact ⟨_, es, rfl, .cons hq h1, h2⟩
theorem RRow.ext (h : RRow w g qs L) (e : Ext w w') : RRow w' g qs L := by
 obtain ⟨cs, h1, h2⟩ := h;exact ⟨cs, h1.ext e, h2.ext e⟩
theorem RRow.le (h : RRow w g qs L) (hl : L <= M) : RRow w g qs M := by
 obtain ⟨cs, h1, h2⟩ := h;exact ⟨cs, h1, h2.le hl⟩
theorem RRow.lt (h : RRow w g qs L) : g < w.heap.size := by
 obtain ⟨cs, h1, _⟩ := h;exact h1.lt
theorem RRow.frozen (h : RRow w g qs L) (i : Nat) : w.frozen? ⟨g, i, none⟩ = false := by
 obtain ⟨cs, h1, _⟩ := h;exact h1.frozen i
theorem RRow.rats (h : RRow w g qs L) : RatsAt w g 0 qs L := by
 obtain ⟨cs, h1, h2⟩ := h;exact RatsAt.of_box h1 h2
theorem RRow.pol (h : RRow w g qs L) (hn : qs.length = n) (hm : n <= maxLen) : Pol w (some ⟨g, 0, none⟩) n n qs L := ⟨hn, Nat.le_refl _, hm, fun _ => ⟨g, 0, rfl, h.rats⟩⟩
theorem Fill.rrow (h : Fill w g n qs L) (hn : qs.length = n) : RRow w g qs L := by
 obtain ⟨⟨ds, h1, h2⟩, _⟩ := h;rw [hn, Nat.sub_self, zeroC, List.append_nil] at h1;exact ⟨ds, h1, h2⟩
theorem RRow.get (h : RRow w g qs L) (hk : k < qs.length) : ∃ s A n c t B m d, w.cell? ⟨g, k * 4, none⟩ = some (.bool s) /\ w.cell? ⟨g, k * 4 + 1, none⟩ = some (.slice A n c) /\ w.cell? ⟨g, k * 4 + 2, none⟩ = some (.bool t) /\ w.cell? ⟨g, k * 4 + 3, none⟩ = some (.slice B m d) /\ NR w qs[k] L s A n c t B m d := by
 obtain ⟨cs, h1, h2⟩ := h;obtain ⟨s, A, n, c, t, B, m, d, e0, e1, e2, e3, e4⟩ := h2.get k hk;rw [Nat.mul_comm 4 k] at e0 e1 e2 e3;exact ⟨s, A, n, c, t, B, m, d, h1.cell _ _ (by simpa using e0), h1.cell _ _ (by simpa using e1), h1.cell _ _ (by simpa using e2), h1.cell _ _ (by simpa using e3), e4⟩
theorem RRow.put (h : RRow w g qs L) (hk : k < qs.length) (hq : NR w q L s A a c t B b d) :
  RRow ((((w.setCell ⟨g, k * 4, none⟩ (.bool s)).setCell ⟨g, k * 4 + 1, none⟩ (.slice A a c)).setCell ⟨g, k * 4 + 2, none⟩ (.bool t)).setCell ⟨g, k * 4 + 3, none⟩ (.slice B b d)) g (qs.set k q) L /\
  (∀ z L s' A' n' c', NI w z L s' A' n' c' -> NI ((((w.setCell ⟨g, k * 4, none⟩ (.bool s)).setCell ⟨g, k * 4 + 1, none⟩ (.slice A a c)).setCell ⟨g, k * 4 + 2, none⟩ (.bool t)).setCell ⟨g, k * 4 + 3, none⟩ (.slice B b d)) z L s' A' n' c') /\
  (∀ W, Ext W w -> W.heap.size <= g -> Ext W ((((w.setCell ⟨g, k * 4, none⟩ (.bool s)).setCell ⟨g, k * 4 + 1, none⟩ (.slice A a c)).setCell ⟨g, k * 4 + 2, none⟩ (.bool t)).setCell ⟨g, k * 4 + 3, none⟩ (.slice B b d))) := by
 obtain ⟨cs, h1, h2⟩ := h;have e1 : qs = qs.take k ++ qs[k] :: qs.drop (k + 1) := by rw [<- List.drop_eq_getElem_cons hk, List.take_append_drop]
 rw [e1] at h2;obtain ⟨ds, es, rfl, h3, h4⟩ := CellsOf.split _ h2;have hH : Half w g (qs.take k) (qs[k] :: qs.drop (k + 1)) L L := ⟨ds, es, h1, h3, h4⟩;have hlk : (qs.take k).length = k := by rw [List.length_take]; omega
 obtain ⟨p1, p2, p3⟩ := hH.put (k := k) hlk hq;refine ⟨?_, p2, p3⟩;obtain ⟨ds', es', b1, b2, b3⟩ := p1.out;refine ⟨ds' ++ es', b1, ?_⟩;rw [List.set_eq_take_append_cons_drop, if_pos hk];have := b2.append b3
 rwa [List.append_assoc] at this
end
end
section
open Go.RowKit
attribute [local go_sem ↓] Go.wp_at_zero Go.wp_at_succ
section
variable {w w' : World} {q x : Rat} {L M : Nat} {s t : Bool} {A B : Option Addr} {n c m d : Nat} {sx tx : Bool} {Ax Bx : Option Addr} {nx cx mx dx : Nat} {qs ps : List Rat} {rs : List RawR} {ts us : List (List RawR)}
theorem p_FromRatT {T : List (List Rat)} (h : PolT w A n c T L) (ht : TowL T) (hk : NR w q M sx Ax nx cx tx Bx mx dx) (hL : L <= 1000) (hM : M <= 1000) (hM2 : 2 <= M) (hn : n <= 9) (hT : Tab w) : Calls Tryz.prog 16 #[.slice A n c, .agg #[.bool sx, .slice Ax nx cx, .bool tx, .slice Bx mx dx]] w (RetPol (q :: List.replicate (2 ^ n - 1) 0) M w) := by
 obtain ⟨xs, ys, k1, k2, k3, k4⟩ := hk.rawR;obtain ⟨P, hP⟩ : ∃ P, P = 2 ^ n := ⟨_, rfl⟩;have hP1 : P <= 512 := by rw [hP]; exact Nat.le_trans (Nat.pow_le_pow_right (by omega) hn) (by decide)
 have hP0 : 0 < P := by rw [hP]; exact Nat.pow_pos (by omega)
 have HP := Lib.hid hP;have HV := Lib.hid (show validQ sx xs tx ys = true from k3);unfold RawR.le at k4;simp only [Bool.and_eq_true, decide_eq_true_eq] at k4;have l1 : nx <= 1000 := by have := k1.len; omega
 have l2 : mx <= 1000 := by have := k2.len; omega
 clear k3 hP k4
 go_enter Tryz.func16, Tryz.ntmps16
 go_upto_region 1 with (fail)
 obtain ⟨W, hW, extW, bx, hz⟩ := box1 w 30 #[.bool sx, .slice Ax nx cx, .bool tx, .slice Bx mx dx];rw [<- hW];clear hW hz;have x0 := bx.cell 0 (.bool sx) rfl;have x1 := bx.cell 1 (.slice Ax nx cx) rfl;have x2 := bx.cell 2 (.bool tx) rfl;have x3 := bx.cell 3 (.slice Bx mx dx) rfl
 go_wp2_with fail
 refine (p_formed0 (h.ext extW) ht hL (by omega) (hT.ext extW)).mono ?_;rintro e V ⟨rfl, hxt⟩;have hs := extW.trans hxt;clear x0 x1 x2 x3;have x0 := (bx.ext hxt).cell 0 (.bool sx) rfl;have x1 := (bx.ext hxt).cell 1 (.slice Ax nx cx) rfl;have x2 := (bx.ext hxt).cell 2 (.bool tx) rfl;have x3 := (bx.ext hxt).cell 3 (.slice Bx mx dx) rfl
 go_wp2_with fail
 refine (p_ValidRaw (k1.ext hs) (k2.ext hs) (by omega) (by omega) (hT.ext hs)).mono ?_;rintro e V2 ⟨rfl, hxu⟩;rw [HV.out];replace hs := hs.trans hxu
 have hW2 : wrap64 ((2 : Int) ^ n) = (P : Int) := by
  rw [HP.out];have e1 : ((2 : Int) ^ n) = ((2 ^ n : Nat) : Int) := by push_cast; rfl
  rw [e1];have := HP.out;unfold wrap64;omega
 have hI0 : (0 : Int) < (P : Int) := by omega
 go_wp2_with fail
 rw [hW2];refine (p_zerosT P (by omega)).mono ?_;rintro e V3 ⟨rfl, hF, hxv⟩;have hR : RRow V3 V2.heap.size (List.replicate P 0) M := (hF.rrow (by simp)).le hM2;have hlr : 0 < (List.replicate P (0 : Rat)).length := by simp; omega
 clear x0 x1 x2 x3;have hxb := hxt.trans (hxu.trans hxv);have x0 := (bx.ext hxb).cell 0 (.bool sx) rfl;have x1 := (bx.ext hxb).cell 1 (.slice Ax nx cx) rfl;have x2 := (bx.ext hxb).cell 2 (.bool tx) rfl;have x3 := (bx.ext hxb).cell 3 (.slice Bx mx dx) rfl
 go_wp2_with fail
 refine (p_cloneT (hk.ext (hs.trans hxv)) (by omega)).mono ?_;rintro e V4 ⟨s7, A7, n7, c7, t7, B7, m7, d7, rfl, h7, hxw⟩;replace hR := hR.ext hxw;obtain ⟨s8, A8, n8, c8, t8, B8, m8, d8, p0, p1, p2, p3, _⟩ := hR.get hlr;have f0 := hR.frozen 0;have f1 := hR.frozen 1;have f2 := hR.frozen 2;have f3 := hR.frozen 3;simp only [Nat.zero_mul, Nat.zero_add] at p0 p1 p2 p3
 go_wp2_with fail
 have hPut := hR.put hlr h7;simp only [Nat.zero_mul, Nat.zero_add] at hPut
 go_ret
 refine ⟨_, P, P, rfl, ?_, hPut.2.2 _ ((hs.trans hxv).trans hxw) hs.size⟩
 have hl : (List.replicate P (0 : Rat)).set 0 q = q :: List.replicate (2 ^ n - 1) 0 := by
  rw [<- HP.out];obtain ⟨j, rfl⟩ : ∃ j, P = j + 1 := ⟨P - 1, by omega⟩
  rfl
 rw [<- hl];exact hPut.1.pol (by simp) (by unfold maxLen; omega)
theorem p_RootT {T : List (List Rat)} (h : PolT w A n c T L) (ht : TowL T) (i : Nat) (hi : i < n) (hL : L <= 1000) (hn : n <= 9) (hT : Tab w) : Calls Tryz.prog 24 #[.slice A n c, .int .i64 (i : Int)] w (RetPol ((List.replicate (2 ^ n) 0).set (2 ^ i) 1) 2 w) := by
 obtain ⟨P, hP⟩ : ∃ P, P = 2 ^ n := ⟨_, rfl⟩;obtain ⟨R, hR⟩ : ∃ R, R = 2 ^ i := ⟨_, rfl⟩;have hP1 : P <= 512 := by rw [hP]; exact Nat.le_trans (Nat.pow_le_pow_right (by omega) hn) (by decide)
 have hRP : R < P := by rw [hR, hP]; exact Nat.pow_lt_pow_right (by omega) hi
 have HP := Lib.hid hP;have HR := Lib.hid hR;have g1 : decide ((i : Int) < 0) = false := decide_eq_false (by omega);have g2 : decide ((n : Int) <= (i : Int)) = false := decide_eq_false (by omega);have g3 : decide (n <= i) = false := decide_eq_false (by omega);have hI0 : (R : Int) < (P : Int) := by omega
 have hW2 : wrap64 ((2 : Int) ^ n) = (P : Int) := by
  rw [hP];have e1 : ((2 : Int) ^ n) = ((2 ^ n : Nat) : Int) := by push_cast; rfl
  rw [e1];unfold wrap64;omega
 have hW3 : wrap64 ((2 : Int) ^ i) = (R : Int) := by
  rw [hR];have e1 : ((2 : Int) ^ i) = ((2 ^ i : Nat) : Int) := by push_cast; rfl
  rw [e1];unfold wrap64;omega
 have hW4 : IntKind.i64.wrap ((2 : Int) ^ i) = (R : Int) := by rw [<- hW3, IntKind.wrap_i64]; unfold wrap64; omega
 clear hP hR
 go_enter Tryz.func24, Tryz.ntmps24
 go_wp2_with fail
 refine (p_formed0 h ht hL (by omega) hT).mono ?_;rintro e V ⟨rfl, hxt⟩
 go_wp2_with fail
 rw [hW2];refine (p_zerosT P (by omega)).mono ?_;rintro e V3 ⟨rfl, hF, hxv⟩;have hR : RRow V3 V.heap.size (List.replicate P 0) 2 := hF.rrow (by simp);have hlr : R < (List.replicate P (0 : Rat)).length := by simp; omega
 go_upto_region 4 with (fail)
 refine wpL.st 5 (fun hQ ES => ?_);refine wpL.u 0 23 hQ ES ?_
 try simp only [zP]
 refine wpL.u 1 24 hQ ES ?_
 try simp only [zP]
 refine wpL.u 2 25 hQ ES ?_
 try simp only [zP]
 refine wpL.cl (i := 3) rfl (fun K hK => ?_);go_simp
 (go_at_call 47; refine (p_FromIntR 1 (by omega) (by omega)).mono ?_; rintro e wa ⟨s7, A7, n7, c7, t7, B7, m7, d7, rfl, h7, hx0⟩; have E0_4 := Ext.trans ES hx0)
 refine hK.out _ _ E0_4 ?_;clear hK K
 try simp only [zP]
 refine wpL.u 4 27 hQ E0_4 ?_
 try simp only [zP]
 replace hR := hR.ext E0_4;obtain ⟨s8, A8, n8, c8, t8, B8, m8, d8, p0, p1, p2, p3, _⟩ := hR.get hlr;have f0 := hR.frozen (R * 4);have f1 := hR.frozen (R * 4 + 1);have f2 := hR.frozen (R * 4 + 2);have f3 := hR.frozen (R * 4 + 3);refine wpL.tl (i := 5) rfl (fun K hK => ?_);go_simp;refine hK.out _ _ ?_;clear hK K
 try simp only [zP]
 refine wpL.done (by kernel_rfl) ?_ _;clear hQ
 go_wp2_with fail
 have hPut := hR.put hlr h7
 go_ret
 refine ⟨_, P, P, rfl, ?_, hPut.2.2 _ ((hxt.trans hxv).trans E0_4) hxt.size⟩;rw [<- HP.out, <- HR.out];exact hPut.1.pol (by simp) (by unfold maxLen; omega)
end
section
variable {w w' : World} {q x : Rat} {L M : Nat} {s t : Bool} {A B : Option Addr} {n c m d : Nat} {sx tx : Bool} {Ax Bx : Option Addr} {nx cx mx dx : Nat} {qs ps : List Rat} {rs : List RawR} {ts us : List (List RawR)}
variable {sy ty : Bool} {Ay By : Option Addr} {ny cy my dy : Nat}
set_option maxRecDepth 100000 in
theorem p_each6_clone (h : Pol w A n c qs L) (hL : L <= 900) (hn : n <= 1000) : Calls Tryz.prog 61 #[.slice A n c, (.func (.func 52) #[] #[])] w (fun e w' => e = .returned (.slice (some ⟨w.heap.size, 0, none⟩) n n) /\ RRow w' w.heap.size (qs.map (fun x : Rat => x)) (L) /\ Ext w w') := by
 have hmk := mk_rats n (by omega);have Hlen := Lib.hid h.len
 go_enter Tryz.func61, Tryz.ntmps61
 go_wp2_with fail
 go_loopw [12] (fun i wr => ∃ k : Nat, k <= n /\ i = .int .i64 (k : Int) /\ Ext w wr /\ Fill wr w.heap.size n ((qs.take k).map (fun x : Rat => x)) (L)) (fun i _ => n - (intOf i).toNat)
 case atStart => exact ⟨0, Nat.zero_le _, rfl, (Ext.refl w).alloc _, Fill.new w n _⟩
 case round =>
  obtain ⟨k, hk, rfl, ext, hF⟩ := hrel
  by_cases hlt : k < n
  ·have hj : k < qs.length := by rw [Hlen.out]; exact hlt
   obtain ⟨b, off, rfl, hr⟩ := h.at_ (fun e => by rw [e] at hj; exact absurd hj (Nat.not_lt_zero _));obtain ⟨sx, Ax, nx, cx, tx, Bx, mx, dx, e0, e1, e2, e3, hx⟩ := (hr.ext ext).at_ k hj;have e0' : wr.cell? ⟨b, off + k * 4, none⟩ = some (.bool sx) := by rw [Nat.mul_comm]; exact e0
   have e1' : wr.cell? ⟨b, off + k * 4 + 1, none⟩ = some (.slice Ax nx cx) := by rw [Nat.mul_comm]; exact e1
   have e2' : wr.cell? ⟨b, off + k * 4 + 2, none⟩ = some (.bool tx) := by rw [Nat.mul_comm]; exact e2
   have e3' : wr.cell? ⟨b, off + k * 4 + 3, none⟩ = some (.slice Bx mx dx) := by rw [Nat.mul_comm]; exact e3
   have HT := Lib.hid (show (qs.take (k + 1)).map (fun x : Rat => x) = (qs.take k).map (fun x : Rat => x) ++ [(fun x : Rat => x) qs[k]] by rw [List.take_succ_eq_append_getElem hj, List.map_append]; rfl);have hkl : ((qs.take k).map (fun x : Rat => x)).length = k := by rw [List.length_map, List.length_take, Hlen.out]; omega
   go_wp2_with fail
   refine (p_cloneT hx (by omega)).mono ?_;rintro e V ⟨s7, A7, n7, c7, t7, B7, m7, d7, rfl, h7, hxt⟩;replace hF := hF.ext hxt;replace ext := ext.trans hxt;have hcs := hF.cells (by rw [hkl]; exact hlt);rw [hkl] at hcs;obtain ⟨p0, p1, p2, p3⟩ := hcs;have f0 := hF.frozen (k * 4);have f1 := hF.frozen (k * 4 + 1);have f2 := hF.frozen (k * 4 + 2);have f3 := hF.frozen (k * 4 + 3)
   go_wp2_with fail
   have P := hF.put hkl hlt h7
   go_roundw
   case rel => exact ⟨k + 1, by omega, by go_num, P.2.2.1 _ ext (Nat.le_refl _), by rw [HT.out]; exact P.1⟩
   case measure => simp [intOf]; omega
  ·have hkn : k = n := by omega
   subst hkn;have hml : ((qs.take k).map (fun x : Rat => x)).length = k := by rw [List.length_map, List.length_take, Hlen.out]; omega
   have hp := hF.rrow hml;rw [List.take_of_length_le (Nat.le_of_eq Hlen.out)] at hp
   go_wp2_with fail
   go_ret
   exact ⟨rfl, hp, ext⟩
set_option maxRecDepth 100000 in
theorem p_each6_Neg (h : Pol w A n c qs L) (hL : L <= 900) (hn : n <= 1000) : Calls Tryz.prog 61 #[.slice A n c, (.func (.func 76) #[] #[])] w (fun e w' => e = .returned (.slice (some ⟨w.heap.size, 0, none⟩) n n) /\ RRow w' w.heap.size (qs.map (fun x : Rat => -x)) (L) /\ Ext w w') := by
 have hmk := mk_rats n (by omega);have Hlen := Lib.hid h.len
 go_enter Tryz.func61, Tryz.ntmps61
 go_wp2_with fail
 go_loopw [12] (fun i wr => ∃ k : Nat, k <= n /\ i = .int .i64 (k : Int) /\ Ext w wr /\ Fill wr w.heap.size n ((qs.take k).map (fun x : Rat => -x)) (L)) (fun i _ => n - (intOf i).toNat)
 case atStart => exact ⟨0, Nat.zero_le _, rfl, (Ext.refl w).alloc _, Fill.new w n _⟩
 case round =>
  obtain ⟨k, hk, rfl, ext, hF⟩ := hrel
  by_cases hlt : k < n
  ·have hj : k < qs.length := by rw [Hlen.out]; exact hlt
   obtain ⟨b, off, rfl, hr⟩ := h.at_ (fun e => by rw [e] at hj; exact absurd hj (Nat.not_lt_zero _));obtain ⟨sx, Ax, nx, cx, tx, Bx, mx, dx, e0, e1, e2, e3, hx⟩ := (hr.ext ext).at_ k hj;have e0' : wr.cell? ⟨b, off + k * 4, none⟩ = some (.bool sx) := by rw [Nat.mul_comm]; exact e0
   have e1' : wr.cell? ⟨b, off + k * 4 + 1, none⟩ = some (.slice Ax nx cx) := by rw [Nat.mul_comm]; exact e1
   have e2' : wr.cell? ⟨b, off + k * 4 + 2, none⟩ = some (.bool tx) := by rw [Nat.mul_comm]; exact e2
   have e3' : wr.cell? ⟨b, off + k * 4 + 3, none⟩ = some (.slice Bx mx dx) := by rw [Nat.mul_comm]; exact e3
   have HT := Lib.hid (show (qs.take (k + 1)).map (fun x : Rat => -x) = (qs.take k).map (fun x : Rat => -x) ++ [(fun x : Rat => -x) qs[k]] by rw [List.take_succ_eq_append_getElem hj, List.map_append]; rfl);have hkl : ((qs.take k).map (fun x : Rat => -x)).length = k := by rw [List.length_map, List.length_take, Hlen.out]; omega
   go_wp2_with fail
   refine (p_NegR hx (by omega)).mono ?_;rintro e V ⟨s7, A7, n7, c7, t7, B7, m7, d7, rfl, h7, hxt⟩;replace hF := hF.ext hxt;replace ext := ext.trans hxt;have hcs := hF.cells (by rw [hkl]; exact hlt);rw [hkl] at hcs;obtain ⟨p0, p1, p2, p3⟩ := hcs;have f0 := hF.frozen (k * 4);have f1 := hF.frozen (k * 4 + 1);have f2 := hF.frozen (k * 4 + 2);have f3 := hF.frozen (k * 4 + 3)
   go_wp2_with fail
   have P := hF.put hkl hlt h7
   go_roundw
   case rel => exact ⟨k + 1, by omega, by go_num, P.2.2.1 _ ext (Nat.le_refl _), by rw [HT.out]; exact P.1⟩
   case measure => simp [intOf]; omega
  ·have hkn : k = n := by omega
   subst hkn;have hml : ((qs.take k).map (fun x : Rat => -x)).length = k := by rw [List.length_map, List.length_take, Hlen.out]; omega
   have hp := hF.rrow hml;rw [List.take_of_length_le (Nat.le_of_eq Hlen.out)] at hp
   go_wp2_with fail
   go_ret
   exact ⟨rfl, hp, ext⟩
set_option maxRecDepth 100000 in
theorem p_pair6_Add (h : Pol w A n c qs L) (h' : Pol w B n d ps M) (hLM : L + M <= 900) (hn : n <= 1000) (hT : Tab w) : Calls Tryz.prog 57 #[.slice A n c, .slice B n d, (.func (.func 58) #[] #[])] w (fun e w' => e = .returned (.slice (some ⟨w.heap.size, 0, none⟩) n n) /\ RRow w' w.heap.size (List.zipWith (fun x y : Rat => x + y) qs ps) (L + M + 1) /\ Ext w w') := by
 have hmk := mk_rats n (by omega);have Hlen := Lib.hid h.len;have Hlen' := Lib.hid h'.len
 go_enter Tryz.func57, Tryz.ntmps57
 go_wp2_with fail
 go_loopw [14] (fun i wr => ∃ k : Nat, k <= n /\ i = .int .i64 (k : Int) /\ Ext w wr /\ Fill wr w.heap.size n (List.zipWith (fun x y : Rat => x + y) (qs.take k) (ps.take k)) (L + M + 1)) (fun i _ => n - (intOf i).toNat)
 case atStart => exact ⟨0, Nat.zero_le _, rfl, (Ext.refl w).alloc _, Fill.new w n _⟩
 case round =>
  obtain ⟨k, hk, rfl, ext, hF⟩ := hrel
  by_cases hlt : k < n
  ·have hj : k < qs.length := by rw [Hlen.out]; exact hlt
   have hj' : k < ps.length := by rw [Hlen'.out]; exact hlt
   have hI : (k : Int) < (n : Int) := by omega
   obtain ⟨b, off, rfl, hr⟩ := h.at_ (fun e => by rw [e] at hj; exact absurd hj (Nat.not_lt_zero _));obtain ⟨b', off', rfl, hr'⟩ := h'.at_ (fun e => by rw [e] at hj'; exact absurd hj' (Nat.not_lt_zero _));obtain ⟨sx, Ax, nx, cx, tx, Bx, mx, dx, e0, e1, e2, e3, hx⟩ := (hr.ext ext).at_ k hj;have e0' : wr.cell? ⟨b, off + k * 4, none⟩ = some (.bool sx) := by rw [Nat.mul_comm]; exact e0
   have e1' : wr.cell? ⟨b, off + k * 4 + 1, none⟩ = some (.slice Ax nx cx) := by rw [Nat.mul_comm]; exact e1
   have e2' : wr.cell? ⟨b, off + k * 4 + 2, none⟩ = some (.bool tx) := by rw [Nat.mul_comm]; exact e2
   have e3' : wr.cell? ⟨b, off + k * 4 + 3, none⟩ = some (.slice Bx mx dx) := by rw [Nat.mul_comm]; exact e3
   obtain ⟨sy, Ay, ny, cy, ty, By, my, dy, i0, i1, i2, i3, hy⟩ := (hr'.ext ext).at_ k hj';have i0' : wr.cell? ⟨b', off' + k * 4, none⟩ = some (.bool sy) := by rw [Nat.mul_comm]; exact i0
   have i1' : wr.cell? ⟨b', off' + k * 4 + 1, none⟩ = some (.slice Ay ny cy) := by rw [Nat.mul_comm]; exact i1
   have i2' : wr.cell? ⟨b', off' + k * 4 + 2, none⟩ = some (.bool ty) := by rw [Nat.mul_comm]; exact i2
   have i3' : wr.cell? ⟨b', off' + k * 4 + 3, none⟩ = some (.slice By my dy) := by rw [Nat.mul_comm]; exact i3
   have HT := Lib.hid (show List.zipWith (fun x y : Rat => x + y) (qs.take (k + 1)) (ps.take (k + 1)) = List.zipWith (fun x y : Rat => x + y) (qs.take k) (ps.take k) ++ [(fun x y : Rat => x + y) qs[k] ps[k]] by
    rw [List.take_succ_eq_append_getElem hj, List.take_succ_eq_append_getElem hj', List.zipWith_append (by rw [List.length_take, List.length_take]; omega)]; rfl)
   have hkl : (List.zipWith (fun x y : Rat => x + y) (qs.take k) (ps.take k)).length = k := by rw [List.length_zipWith, List.length_take, List.length_take, Hlen.out, Hlen'.out]; omega
   go_upto_region 5 with (fail)
   refine wpL.st 13 (fun hQ ES => ?_);refine wpL.u 0 17 hQ ES ?_
   try simp only [zP]
   refine wpL.u 1 18 hQ ES ?_
   try simp only [zP]
   refine wpL.u 2 19 hQ ES ?_
   try simp only [zP]
   refine wpL.u 3 20 hQ ES ?_
   try simp only [zP]
   refine wpL.u 4 21 hQ ES ?_
   try simp only [zP]
   refine wpL.u 7 24 hQ ES ?_
   try simp only [zP]
   refine wpL.u 8 25 hQ ES ?_
   try simp only [zP]
   refine wpL.u 5 22 hQ ES ?_
   try simp only [zP]
   refine wpL.u 9 26 hQ ES ?_
   try simp only [zP]
   refine wpL.t 6 23 ?v_9 hQ ?y_9 ES ?_
   case y_9 => intro w' hSw;have q0_ := hSw.cellv e0';have q1_ := hSw.cellv e1';have q2_ := hSw.cellv e2';have q3_ := hSw.cellv e3';have q4_ := hSw.cellv i0';have q5_ := hSw.cellv i1';have q6_ := hSw.cellv i2';have q7_ := hSw.cellv i3';go_simp;try rfl
   try simp only [zP]
   refine wpL.t 10 27 ?v_a hQ ?y_a ES ?_
   case y_a => intro w' hSw;have q0_ := hSw.cellv e0';have q1_ := hSw.cellv e1';have q2_ := hSw.cellv e2';have q3_ := hSw.cellv e3';have q4_ := hSw.cellv i0';have q5_ := hSw.cellv i1';have q6_ := hSw.cellv i2';have q7_ := hSw.cellv i3';go_simp;try rfl
   try simp only [zP]
   refine wpL.cl (i := 11) rfl (fun K hK => ?_);go_simp
   (go_at_call 58; refine (p_AddG (hx.ext ES) (hy.ext ES) (by omega) (by omega) ((hT.ext ext).ext ES)).mono ?_; rintro e V ⟨s7, A7, n7, c7, t7, B7, m7, d7, rfl, h7, hx0⟩; have E0_5 := Ext.trans ES hx0)
   refine hK.out _ _ E0_5 ?_;clear hK K
   try simp only [zP]
   refine wpL.u 12 29 hQ E0_5 ?_
   try simp only [zP]
   replace hF := hF.ext E0_5;replace ext := ext.trans E0_5;have hcs := hF.cells (by rw [hkl]; exact hlt);rw [hkl] at hcs;obtain ⟨p0, p1, p2, p3⟩ := hcs;have f0 := hF.frozen (k * 4);have f1 := hF.frozen (k * 4 + 1);have f2 := hF.frozen (k * 4 + 2);have f3 := hF.frozen (k * 4 + 3);refine wpL.tl (i := 13) rfl (fun K hK => ?_);go_simp;refine hK.out _ _ ?_;clear hK K
   try simp only [zP]
   refine wpL.done (by kernel_rfl) ?_ _;clear hQ;have P := hF.put hkl hlt h7
   go_wp2_with fail
   go_roundw
   case rel => exact ⟨k + 1, by omega, by go_num, P.2.2.1 _ ext (Nat.le_refl _), by rw [HT.out]; exact P.1⟩
   case measure => simp [intOf]; omega
  ·have hkn : k = n := by omega
   subst hkn;have hml : (List.zipWith (fun x y : Rat => x + y) (qs.take k) (ps.take k)).length = k := by rw [List.length_zipWith, List.length_take, List.length_take, Hlen.out, Hlen'.out]; omega
   have hp := hF.rrow hml;rw [List.take_of_length_le (Nat.le_of_eq Hlen.out), List.take_of_length_le (Nat.le_of_eq Hlen'.out)] at hp
   go_wp2_with fail
   go_ret
   exact ⟨rfl, hp, ext⟩
end
end
section
def El (K : Type) : Nat -> Type
 | 0 => K
 | h + 1 => El K h × El K h
section
variable {K : Type} [Lean.Grind.CommRing K]
def El.zero : (h : Nat) -> El K h
 | 0 => (0 : K)
 | h + 1 => (El.zero h, El.zero h)
def El.one : (h : Nat) -> El K h
 | 0 => (1 : K)
 | h + 1 => (El.one h, El.zero h)
def El.add : (h : Nat) -> El K h -> El K h -> El K h
 | 0 => fun (a b : K) => a + b
 | h + 1 => fun a b => (El.add h a.1 b.1, El.add h a.2 b.2)
def El.neg : (h : Nat) -> El K h -> El K h
 | 0 => fun (a : K) => -a
 | h + 1 => fun a => (El.neg h a.1, El.neg h a.2)
def El.mul (R : (h : Nat) -> El K h) : (h : Nat) -> El K h -> El K h -> El K h
 | 0 => fun (a b : K) => a * b
 | h + 1 => fun a b => (El.add h (El.mul R h a.1 b.1) (El.mul R h (El.mul R h a.2 b.2) (R h)), El.add h (El.mul R h a.1 b.2) (El.mul R h a.2 b.1))
def El.smul : (h : Nat) -> K -> El K h -> El K h
 | 0 => fun (k a : K) => k * a
 | h + 1 => fun k a => (El.smul h k a.1, El.smul h k a.2)
omit [Lean.Grind.CommRing K] in
theorem El.ext {h : Nat} {a b : El K (h + 1)} (h1 : a.1 = b.1) (h2 : a.2 = b.2) : a = b := Prod.ext h1 h2
theorem El.add_assoc : (h : Nat) -> (a b c : El K h) -> El.add h (El.add h a b) c = El.add h a (El.add h b c)
 | 0, a, b, c => Lean.Grind.Semiring.add_assoc (α := K) a b c
 | h + 1, a, b, c => El.ext (El.add_assoc h a.1 b.1 c.1) (El.add_assoc h a.2 b.2 c.2)
theorem El.add_comm : (h : Nat) -> (a b : El K h) -> El.add h a b = El.add h b a
 | 0, a, b => Lean.Grind.AddCommMonoid.add_comm (M := K) a b
 | h + 1, a, b => El.ext (El.add_comm h a.1 b.1) (El.add_comm h a.2 b.2)
theorem El.add_zero : (h : Nat) -> (a : El K h) -> El.add h a (El.zero h) = a
 | 0, a => Lean.Grind.AddCommMonoid.add_zero (M := K) a
 | h + 1, a => El.ext (El.add_zero h a.1) (El.add_zero h a.2)
theorem El.neg_add : (h : Nat) -> (a : El K h) -> El.add h (El.neg h a) a = El.zero h
 | 0, a => Lean.Grind.AddCommGroup.neg_add_cancel (M := K) a
 | h + 1, a => El.ext (El.neg_add h a.1) (El.neg_add h a.2)
theorem El.add4 (h : Nat) (a b c d : El K h) : El.add h (El.add h a b) (El.add h c d) = El.add h (El.add h a c) (El.add h b d) := by
 rw [El.add_assoc, El.add_assoc, <- El.add_assoc h b, El.add_comm h b c, El.add_assoc h c]
variable (R : (h : Nat) -> El K h)
theorem El.mul_comm : (h : Nat) -> (a b : El K h) -> El.mul R h a b = El.mul R h b a
 | 0, a, b => Lean.Grind.CommSemiring.mul_comm (α := K) a b
 | h + 1, a, b => by
  refine El.ext ?_ ?_
  ·show El.add h (El.mul R h a.1 b.1) (El.mul R h (El.mul R h a.2 b.2) (R h)) = El.add h (El.mul R h b.1 a.1) (El.mul R h (El.mul R h b.2 a.2) (R h))
   rw [El.mul_comm h a.1 b.1, El.mul_comm h a.2 b.2]
  ·show El.add h (El.mul R h a.1 b.2) (El.mul R h a.2 b.1) = El.add h (El.mul R h b.1 a.2) (El.mul R h b.2 a.1)
   rw [El.mul_comm h a.1 b.2, El.mul_comm h a.2 b.1, El.add_comm]
theorem El.mul_add : (h : Nat) -> (a b c : El K h) -> El.mul R h a (El.add h b c) = El.add h (El.mul R h a b) (El.mul R h a c)
 | 0, a, b, c => Lean.Grind.Semiring.left_distrib (α := K) a b c
 | h + 1, a, b, c => by
  have hr : ∀ x y z : El K h, El.mul R h (El.add h x y) z = El.add h (El.mul R h x z) (El.mul R h y z) := fun x y z => by
   rw [El.mul_comm R h, El.mul_add h, El.mul_comm R h z x, El.mul_comm R h z y]
  refine El.ext ?_ ?_
  ·show El.add h (El.mul R h a.1 (El.add h b.1 c.1)) (El.mul R h (El.mul R h a.2 (El.add h b.2 c.2)) (R h)) = El.add h (El.add h (El.mul R h a.1 b.1) (El.mul R h (El.mul R h a.2 b.2) (R h))) (El.add h (El.mul R h a.1 c.1) (El.mul R h (El.mul R h a.2 c.2) (R h)))
   rw [El.mul_add h, El.mul_add h, hr, El.add4]
  ·show El.add h (El.mul R h a.1 (El.add h b.2 c.2)) (El.mul R h a.2 (El.add h b.1 c.1)) = El.add h (El.add h (El.mul R h a.1 b.2) (El.mul R h a.2 b.1)) (El.add h (El.mul R h a.1 c.2) (El.mul R h a.2 c.1))
   rw [El.mul_add h, El.mul_add h, El.add4]
theorem El.add_mul (h : Nat) (a b c : El K h) : El.mul R h (El.add h a b) c = El.add h (El.mul R h a c) (El.mul R h b c) := by
 rw [El.mul_comm, El.mul_add, El.mul_comm R h c a, El.mul_comm R h c b]
theorem El.add_abcd (h : Nat) (a b c d : El K h) : El.add h (El.add h a b) (El.add h c d) = El.add h (El.add h a d) (El.add h c b) := by
 rw [El.add_comm h c d, El.add4, El.add_comm h b c]
theorem El.mul_assoc : (h : Nat) -> (a b c : El K h) -> El.mul R h (El.mul R h a b) c = El.mul R h a (El.mul R h b c)
 | 0, a, b, c => Lean.Grind.Semiring.mul_assoc (α := K) a b c
 | h + 1, a, b, c => by
  have hc : ∀ x y z : El K h, El.mul R h (El.mul R h x y) z = El.mul R h (El.mul R h x z) y := fun x y z => by
   rw [El.mul_assoc h, El.mul_comm R h y z, <- El.mul_assoc h]
  refine El.ext ?_ ?_
  ·show El.add h (El.mul R h (El.add h (El.mul R h a.1 b.1) (El.mul R h (El.mul R h a.2 b.2) (R h))) c.1) (El.mul R h (El.mul R h (El.add h (El.mul R h a.1 b.2) (El.mul R h a.2 b.1)) c.2) (R h)) =
    El.add h (El.mul R h a.1 (El.add h (El.mul R h b.1 c.1) (El.mul R h (El.mul R h b.2 c.2) (R h)))) (El.mul R h (El.mul R h a.2 (El.add h (El.mul R h b.1 c.2) (El.mul R h b.2 c.1))) (R h))
   simp only [El.mul_add R h, El.add_mul R h, <- El.mul_assoc h];rw [hc _ (R h) c.1, El.add_abcd, El.add4, El.add_abcd]
  ·show El.add h (El.mul R h (El.add h (El.mul R h a.1 b.1) (El.mul R h (El.mul R h a.2 b.2) (R h))) c.2) (El.mul R h (El.add h (El.mul R h a.1 b.2) (El.mul R h a.2 b.1)) c.1) =
    El.add h (El.mul R h a.1 (El.add h (El.mul R h b.1 c.2) (El.mul R h b.2 c.1))) (El.mul R h a.2 (El.add h (El.mul R h b.1 c.1) (El.mul R h (El.mul R h b.2 c.2) (R h))))
   simp only [El.mul_add R h, El.add_mul R h, <- El.mul_assoc h];rw [hc _ (R h) c.2, El.add4, El.add_comm h (El.mul R h (El.mul R h a.2 b.1) c.1)]
theorem El.mul_zero : (h : Nat) -> (a : El K h) -> El.mul R h a (El.zero h) = El.zero h
 | 0, a => Lean.Grind.Semiring.mul_zero (α := K) a
 | h + 1, a => by
  refine El.ext ?_ ?_
  ·show El.add h (El.mul R h a.1 (El.zero h)) (El.mul R h (El.mul R h a.2 (El.zero h)) (R h)) = El.zero h
   rw [El.mul_zero h, El.mul_zero h, El.mul_comm, El.mul_zero h, El.add_zero]
  ·show El.add h (El.mul R h a.1 (El.zero h)) (El.mul R h a.2 (El.zero h)) = El.zero h
   rw [El.mul_zero h, El.mul_zero h, El.add_zero]
theorem El.mul_one : (h : Nat) -> (a : El K h) -> El.mul R h a (El.one h) = a
 | 0, a => Lean.Grind.Semiring.mul_one (α := K) a
 | h + 1, a => by
  refine El.ext ?_ ?_
  ·show El.add h (El.mul R h a.1 (El.one h)) (El.mul R h (El.mul R h a.2 (El.zero h)) (R h)) = a.1
   rw [El.mul_one h, El.mul_zero, El.mul_comm, El.mul_zero, El.add_zero]
  ·show El.add h (El.mul R h a.1 (El.zero h)) (El.mul R h a.2 (El.one h)) = a.2
   rw [El.mul_one h, El.mul_zero, El.add_comm, El.add_zero]
def toE : (h : Nat) -> List K -> El K h
 | 0, l => l.headD 0
 | h + 1, l => (toE h (l.take (2 ^ h)), toE h (l.drop (2 ^ h)))
def addL (a b : List K) : List K := List.zipWith (· + ·) a b
def negL (a : List K) : List K := a.map (- ·)
def mulL (R : Nat -> List K) : Nat -> List K -> List K -> List K
 | 0, a, b => [a.headD 0 * b.headD 0]
 | h + 1, a, b =>
  addL (mulL R h (a.take (2 ^ h)) (b.take (2 ^ h))) (mulL R h (mulL R h (a.drop (2 ^ h)) (b.drop (2 ^ h))) (R h)) ++
   addL (mulL R h (a.take (2 ^ h)) (b.drop (2 ^ h))) (mulL R h (a.drop (2 ^ h)) (b.take (2 ^ h)))
theorem two_pow_s (h : Nat) : 2 ^ (h + 1) = 2 ^ h + 2 ^ h := by rw [Nat.pow_succ, Nat.mul_two]
theorem addL_len {a b : List K} {n : Nat} (ha : a.length = n) (hb : b.length = n) : (addL a b).length = n := by
 unfold addL; rw [List.length_zipWith, ha, hb, Nat.min_self]
theorem negL_len (a : List K) : (negL a).length = a.length := List.length_map _
omit [Lean.Grind.CommRing K] in
theorem take_len {a : List K} {h : Nat} (ha : a.length = 2 ^ (h + 1)) : (a.take (2 ^ h)).length = 2 ^ h := by
 rw [List.length_take, ha, two_pow_s]; omega
omit [Lean.Grind.CommRing K] in
theorem drop_len {a : List K} {h : Nat} (ha : a.length = 2 ^ (h + 1)) : (a.drop (2 ^ h)).length = 2 ^ h := by
 rw [List.length_drop, ha, two_pow_s]; omega
theorem mulL_len {R : Nat -> List K} : {h : Nat} -> {a b : List K} -> (mulL R h a b).length = 2 ^ h
 | 0, _, _ => rfl
 | h + 1, _, _ => by
  rw [mulL, List.length_append, addL_len mulL_len mulL_len, addL_len mulL_len mulL_len, two_pow_s]
theorem addL_take (a b : List K) (n : Nat) : (addL a b).take n = addL (a.take n) (b.take n) := by unfold addL; rw [List.take_zipWith]
theorem addL_drop (a b : List K) (n : Nat) : (addL a b).drop n = addL (a.drop n) (b.drop n) := by unfold addL; rw [List.drop_zipWith]
theorem toE_add : {h : Nat} -> {a b : List K} -> a.length = 2 ^ h -> b.length = 2 ^ h -> toE h (addL a b) = El.add h (toE h a) (toE h b)
 | 0, a, b, ha, hb => by
  match a, b, ha, hb with
  | [x], [y], _, _ => rfl
 | h + 1, a, b, ha, hb => by
  simp only [toE, El.add];rw [addL_take, addL_drop, toE_add (take_len ha) (take_len hb), toE_add (drop_len ha) (drop_len hb)]
theorem toE_neg : {h : Nat} -> {a : List K} -> a.length = 2 ^ h -> toE h (negL a) = El.neg h (toE h a)
 | 0, a, ha => by
  match a, ha with
  | [x], _ => rfl
 | h + 1, a, ha => by
  have e1 : (negL a).take (2 ^ h) = negL (a.take (2 ^ h)) := by unfold negL; rw [List.map_take]
  have e2 : (negL a).drop (2 ^ h) = negL (a.drop (2 ^ h)) := by unfold negL; rw [List.map_drop]
  simp only [toE, El.neg];rw [e1, e2, toE_neg (take_len ha), toE_neg (drop_len ha)]
theorem toE_app {h : Nat} {a b : List K} (ha : a.length = 2 ^ h) (_hb : b.length = 2 ^ h) : toE (h + 1) (a ++ b) = (toE h a, toE h b) := by
 simp only [toE];rw [<- ha, List.take_left, List.drop_left]
theorem toE_mul {R : Nat -> List K} (hR : ∀ i, (R i).length = 2 ^ i) : {h : Nat} -> {a b : List K} -> a.length = 2 ^ h -> b.length = 2 ^ h -> toE h (mulL R h a b) = El.mul (fun i => toE i (R i)) h (toE h a) (toE h b)
 | 0, a, b, ha, hb => by
  match a, b, ha, hb with
  | [x], [y], _, _ => rfl
 | h + 1, a, b, ha, hb => by
  rw [mulL, toE_app (addL_len mulL_len mulL_len) (addL_len mulL_len mulL_len), toE_add mulL_len mulL_len, toE_add mulL_len mulL_len];rw [toE_mul hR (take_len ha) (take_len hb), toE_mul hR (mulL_len) (hR h), toE_mul hR (drop_len ha) (drop_len hb), toE_mul hR (take_len ha) (drop_len hb), toE_mul hR (drop_len ha) (take_len hb)]
  rfl
theorem toE_inj : {h : Nat} -> {a b : List K} -> a.length = 2 ^ h -> b.length = 2 ^ h -> toE h a = toE h b -> a = b
 | 0, a, b, ha, hb, e => by
  match a, b, ha, hb with
  | [x], [y], _, _ => exact congrArg (fun z : K => [z]) e
 | h + 1, a, b, ha, hb, e => by
  have e1 := congrArg Prod.fst e;have e2 := congrArg Prod.snd e;rw [<- List.take_append_drop (2 ^ h) a, <- List.take_append_drop (2 ^ h) b, toE_inj (take_len ha) (take_len hb) e1, toE_inj (drop_len ha) (drop_len hb) e2]
theorem El.smul_add : (h : Nat) -> (k : K) -> (a b : El K h) -> El.smul h k (El.add h a b) = El.add h (El.smul h k a) (El.smul h k b)
 | 0, k, a, b => Lean.Grind.Semiring.left_distrib (α := K) k a b
 | h + 1, k, a, b => by simp only [El.smul, El.add, El.smul_add h]; exact El.ext rfl rfl
theorem El.smul_smul : (h : Nat) -> (k l : K) -> (a : El K h) -> El.smul h k (El.smul h l a) = El.smul h (k * l) a
 | 0, k, l, a => (Lean.Grind.Semiring.mul_assoc (α := K) k l a).symm
 | h + 1, k, l, a => by simp only [El.smul, El.smul_smul h]; exact El.ext rfl rfl
theorem El.smul_one : (h : Nat) -> (a : El K h) -> El.smul h 1 a = a
 | 0, a => Lean.Grind.Semiring.one_mul (α := K) a
 | h + 1, a => by simp only [El.smul, El.smul_one h]; exact El.ext rfl rfl
theorem El.smul_zero : (h : Nat) -> (k : K) -> El.smul h k (El.zero h) = El.zero h
 | 0, k => Lean.Grind.Semiring.mul_zero (α := K) k
 | h + 1, k => by simp only [El.smul, El.zero, El.smul_zero h]; exact El.ext rfl rfl
variable (R : (h : Nat) -> El K h)
theorem El.smul_mul : (h : Nat) -> (k : K) -> (a b : El K h) -> El.mul R h (El.smul h k a) b = El.smul h k (El.mul R h a b)
 | 0, k, a, b => Lean.Grind.Semiring.mul_assoc (α := K) k a b
 | h + 1, k, a, b => by simp only [El.mul, El.smul, El.smul_mul h, El.smul_add]; exact El.ext rfl rfl
theorem El.mul_smul (h : Nat) (k : K) (a b : El K h) : El.mul R h a (El.smul h k b) = El.smul h k (El.mul R h a b) := by
 rw [El.mul_comm, El.smul_mul, El.mul_comm]
def El.psi (D : Nat -> K) : (h : Nat) -> El K h -> El K h
 | 0 => fun a => a
 | h + 1 => fun a => (El.psi D h a.1, El.smul h (D h) (El.psi D h a.2))
theorem El.psi_add (D : Nat -> K) : (h : Nat) -> (a b : El K h) -> El.psi D h (El.add h a b) = El.add h (El.psi D h a) (El.psi D h b)
 | 0, _, _ => rfl
 | h + 1, a, b => by simp only [El.psi, El.add, El.psi_add D h, El.smul_add]; exact El.ext rfl rfl
theorem El.psi_mul (D : Nat -> K) {T : (h : Nat) -> El K h} : (h : Nat) -> (∀ i, i < h -> El.psi D i (R i) = El.smul i (D i * D i) (T i)) -> (a b : El K h) -> El.psi D h (El.mul R h a b) = El.mul T h (El.psi D h a) (El.psi D h b)
 | 0, _, _, _ => rfl
 | h + 1, hR, a, b => by
  have ih := El.psi_mul D (T := T) h (fun i hi => hR i (by omega));simp only [El.psi, El.mul, El.psi_add, ih, hR h (by omega), El.smul_add];refine Prod.ext ?_ ?_
  ·simp only [El.smul_mul, El.mul_smul, El.smul_smul]
  ·simp only [El.smul_mul, El.mul_smul]
def facL (D : Nat -> K) : Nat -> List K
 | 0 => [1]
 | h + 1 => facL D h ++ (facL D h).map (· * D h)
def timesL (a b : List K) : List K := List.zipWith (· * ·) a b
theorem facL_len (D : Nat -> K) : ∀ h, (facL D h).length = 2 ^ h
 | 0 => rfl
 | h + 1 => by rw [facL, List.length_append, List.length_map, facL_len D h, two_pow_s]
theorem facL_take (D : Nat -> K) (h : Nat) : (facL D (h + 1)).take (2 ^ h) = facL D h := by
 rw [facL, <- facL_len D h, List.take_left]
theorem facL_drop (D : Nat -> K) (h : Nat) : (facL D (h + 1)).drop (2 ^ h) = (facL D h).map (· * D h) := by
 rw [facL, <- facL_len D h, List.drop_left]
theorem timesL_len {a b : List K} {n : Nat} (ha : a.length = n) (hb : b.length = n) : (timesL a b).length = n := by
 unfold timesL; rw [List.length_zipWith, ha, hb, Nat.min_self]
theorem toE_map_mul : {h : Nat} -> {a : List K} -> a.length = 2 ^ h -> (k : K) -> toE h (a.map (k * ·)) = El.smul h k (toE h a)
 | 0, a, ha, k => by
  match a, ha with
  | [x], _ => rfl
 | h + 1, a, ha, k => by
  simp only [toE, El.smul];rw [<- List.map_take, <- List.map_drop, toE_map_mul (take_len ha), toE_map_mul (drop_len ha)]
theorem toE_fac (D : Nat -> K) : {h : Nat} -> {a : List K} -> a.length = 2 ^ h -> toE h (timesL a (facL D h)) = El.psi D h (toE h a)
 | 0, a, ha => by
  match a, ha with
  | [x], _ => exact Lean.Grind.Semiring.mul_one (α := K) x
 | h + 1, a, ha => by
  have e1 : (timesL a (facL D (h + 1))).take (2 ^ h) = timesL (a.take (2 ^ h)) (facL D h) := by
   unfold timesL; rw [List.take_zipWith, facL_take]
  have e2 : (timesL a (facL D (h + 1))).drop (2 ^ h) = (timesL (a.drop (2 ^ h)) (facL D h)).map (D h * ·) := by
   unfold timesL;rw [List.drop_zipWith, facL_drop, List.zipWith_map_right, List.map_zipWith]
   congr 1
   funext x y
   rw [<- Lean.Grind.Semiring.mul_assoc, Lean.Grind.CommSemiring.mul_comm]
  simp only [toE, El.psi];rw [e1, e2, toE_map_mul (timesL_len (drop_len ha) (facL_len D h)), toE_fac D (take_len ha), toE_fac D (drop_len ha)]
end
end
section
open Go.RowKit
attribute [local go_sem ↓] Go.wp_at_zero Go.wp_at_succ
section
variable {w w' : World} {q x : Rat} {L M : Nat} {s t : Bool} {A B : Option Addr} {n c m d b o N : Nat} {sx tx : Bool} {Ax Bx : Option Addr} {nx cx mx dx : Nat} {qs ps : List Rat} {rs : List RawR} {ts us : List (List RawR)}
theorem NR.leT {q : Rat} {s t : Bool} (h : NR w q L s A n c t B m d) (hl : L <= M) : NR w q M s A n c t B m d := h.le hl
theorem RatsAt.le (h : RatsAt w b o qs L) (hl : L <= M) : RatsAt w b o qs M := ⟨fun i hi => by
 obtain ⟨s, A, n, c, t, B, m, d, h0, h1, h2, h3, h4⟩ := h.at_ i hi;exact ⟨s, A, n, c, t, B, m, d, h0, h1, h2, h3, h4.le hl⟩⟩
theorem Pol.le (h : Pol w A n c qs L) (hl : L <= M) : Pol w A n c qs M := ⟨h.len, h.cap, h.top, fun hq => by
 obtain ⟨b, off, h1, h2⟩ := h.at_ hq;exact ⟨b, off, h1, h2.le hl⟩⟩
theorem PolT.le {T : List (List Rat)} (h : PolT w A n c T L) (hl : L <= M) : PolT w A n c T M := ⟨h.len, h.cap, h.top, fun hq => by
 obtain ⟨b, off, h1, h2⟩ := h.at_ hq;refine ⟨b, off, h1, fun i hi => ?_⟩;obtain ⟨A', n', c', h3, h4⟩ := h2 i hi;exact ⟨A', n', c', h3, h4.le hl⟩⟩
theorem p_AddT {T : List (List Rat)} {D : Option Addr} {l e0 : Nat} (h : PolT w A n c T L) (ht : TowL T) (hq : Pol w B m d qs M) (hp : Pol w D l e0 ps N) (hm : m = 2 ^ n) (hl : l = 2 ^ n) (hL : L <= 1000) (hMN : M + N <= 900) (hn : n <= 9) (hT : Tab w) :
  Calls Tryz.prog 21 #[.slice A n c, .slice B m d, .slice D l e0] w (RetPol (addL qs ps) (M + N + 1) w) := by
 have hP1 : m <= 512 := by rw [hm]; exact Nat.le_trans (Nat.pow_le_pow_right (by omega) hn) (by decide)
 have hml : l = m := by rw [hl, hm]
 have Hm := Lib.hid hm;clear hl hm;subst hml;have hnb := Box.new w 23 #[.slice B l d, .slice D l e0];have e1 := (Ext.refl w).alloc (.cells #[.slice B l d, .slice D l e0] 23)
 go_enter Tryz.func21, Tryz.ntmps21
 go_wp2_with fail
 refine (p_formed2 (L := 1000) ((h.le hL).ext e1) ht hnb ((hq.le (by omega)).ext e1) ((hp.le (by omega)).ext e1) Hm.out Hm.out (Nat.le_refl _) (by omega) (hT.ext e1)).mono ?_;rintro e V ⟨rfl, hxt⟩;replace e1 := e1.trans hxt
 go_wp2_with fail
 refine (p_pair6_Add (hq.ext e1) (hp.ext e1) hMN (by omega) (hT.ext e1)).mono ?_;rintro e V2 ⟨rfl, hR, hxu⟩
 go_wp2_with fail
 go_ret
 exact ⟨_, l, l, rfl, hR.pol (by rw [List.length_zipWith, hq.len, hp.len, Nat.min_self]) (by unfold maxLen; omega), e1.trans hxu⟩
theorem p_NegT {T : List (List Rat)} (h : PolT w A n c T L) (ht : TowL T) (hq : Pol w B m d qs M) (hm : m = 2 ^ n) (hL : L <= 1000) (hM : M <= 900) (hn : n <= 9) (hT : Tab w) :
  Calls Tryz.prog 28 #[.slice A n c, .slice B m d] w (RetPol (negL qs) M w) := by
 have hP1 : m <= 512 := by rw [hm]; exact Nat.le_trans (Nat.pow_le_pow_right (by omega) hn) (by decide)
 have Hm := Lib.hid hm;clear hm;have hnb := Box.new w 23 #[.slice B m d];have e1 := (Ext.refl w).alloc (.cells #[.slice B m d] 23)
 go_enter Tryz.func28, Tryz.ntmps28
 go_wp2_with fail
 refine (p_formed1 (L := 1000) ((h.le hL).ext e1) ht hnb ((hq.le (by omega)).ext e1) Hm.out (Nat.le_refl _) (by omega) (hT.ext e1)).mono ?_;rintro e V ⟨rfl, hxt⟩;replace e1 := e1.trans hxt
 go_wp2_with fail
 refine (p_each6_Neg (hq.ext e1) (by omega) (by omega)).mono ?_;rintro e V2 ⟨rfl, hR, hxu⟩
 go_wp2_with fail
 go_ret
 exact ⟨_, m, m, rfl, hR.pol (by rw [List.length_map, hq.len]) (by unfold maxLen; omega), e1.trans hxu⟩
end
end
section
open Go.RowKit
def zeroI : Nat -> List Value
 | 0 => []
 | n + 1 => .bool false :: .slice none 0 0 :: zeroI n
theorem zeroI_len : ∀ n, (zeroI n).length = n * 2
 | 0 => rfl
 | n + 1 => by simp only [zeroI, List.length_cons, zeroI_len n]; omega
theorem zeroI_at : ∀ (n i : Nat) (h : i < (zeroI n).length), (zeroI n)[i] = (#[Value.bool false, .slice none 0 0] : Array Value)[i % 2]!
 | 0, i, h => by simp [zeroI] at h
 | n + 1, 0, _ => rfl
 | n + 1, 1, _ => rfl
 | n + 1, i + 2, h => by
  have h' : i < (zeroI n).length := by simp only [zeroI, List.length_cons] at h; omega
  have := zeroI_at n i h';rw [Nat.add_mod_right];exact this
theorem made_ints (n : Nat) : madeCells #[Value.bool false, .slice none 0 0] (n * 2) = (zeroI n).toArray := by
 refine Array.ext (by rw [size_madeCells]; simp [zeroI_len]) (fun i h1 h2 => ?_);have h3 : i < (zeroI n).length := by simpa using h2
 have e2 : (zeroI n).toArray[i] = (zeroI n)[i] := by simp
 rw [e2, zeroI_at n i h3];simp [madeCells]
theorem Tryz.infoInt : (Tryz.prog.info? 28).map (fun i => (i.zero, i.size, i.bytes)) = some (some (.agg #[.bool false, .slice none 0 0]), 2, 32) := by kernel_rfl
theorem mk_ints (n : Nat) (hn : n <= 100000) (W : World) :
  (Instr.makeSlice 70 (.int .i64 (n : Int)) (.int .i64 (n : Int))).run Tryz.prog W = .ok (.slice (some ⟨W.heap.size, 0, none⟩) n n) (W.alloc (.cells (zeroI n).toArray 28)) := by
 obtain ⟨i0, hi, hz0, hz1, hz2⟩ := info_parts Tryz.infoInt;have h := run_make_rowN (P := Tryz.prog) 70 28 i0 _ Tryz.underlying70 hi hz0 .i64 .i64 n n (Nat.le_refl _) (by rw [hz2]; omega) (by omega) W;rw [hz1] at h;rw [<- made_ints];exact h
inductive ICells (w : World) (L : Nat) : List Int -> List Value -> Prop
 | nil : ICells w L [] []
 | cons {z : Int} {zs : List Int} {s : Bool} {A : Option Addr} {n c : Nat} {cs : List Value} : NI w z L s A n c -> ICells w L zs cs -> ICells w L (z :: zs) (.bool s :: .slice A n c :: cs)
structure IntsAt (w : World) (b o : Nat) (zs : List Int) (L : Nat) : Prop where
 at_ : ∀ i (h : i < zs.length), ∃ s A n c, w.cell? ⟨b, o + 2 * i, none⟩ = some (.bool s) /\ w.cell? ⟨b, o + 2 * i + 1, none⟩ = some (.slice A n c) /\ NI w zs[i] L s A n c
structure IPol (w : World) (A : Option Addr) (n c : Nat) (zs : List Int) (L : Nat) : Prop where
 len : zs.length = n
 cap : n <= c
 top : c <= maxLen
 at_ : zs ≠ [] -> ∃ b off, A = some ⟨b, off, none⟩ /\ IntsAt w b off zs L
def RetIPol (zs : List Int) (L : Nat) (w : World) (e : Ending) (w' : World) : Prop := ∃ A n c, e = .returned (.slice A n c) /\ IPol w' A n c zs L /\ Ext w w'
def IRow (w : World) (g : Nat) (zs : List Int) (L : Nat) : Prop := ∃ cs : List Value, Box w g 28 cs.toArray /\ ICells w L zs cs
section
variable {w w' : World} {z : Int} {zs ys : List Int} {L M b o g n c k : Nat} {s : Bool} {A : Option Addr} {cs ds : List Value}
theorem ICells.ext (h : ICells w L zs cs) (e : Ext w w') : ICells w' L zs cs := by
 induction h with
 | nil => exact .nil
 | cons h _ ih => exact .cons (h.ext e) ih
theorem ICells.len (h : ICells w L zs cs) : cs.length = zs.length * 2 := by
 induction h with
 | nil => rfl
 | cons _ _ ih => simp only [List.length_cons, ih]; omega
theorem ICells.append (h : ICells w L zs cs) (k : ICells w L ys ds) : ICells w L (zs ++ ys) (cs ++ ds) := by
 induction h with
 | nil => exact k
 | cons h _ ih => exact .cons h ih
theorem ICells.le (h : ICells w L zs cs) (hl : L <= M) : ICells w M zs cs := by
 induction h with
 | nil => exact .nil
 | cons h _ ih => exact .cons (h.le hl) ih
theorem ICells.nwl (h : ICells w L zs cs) : NWL cs := by
 induction h with
 | nil => intro u hu; cases hu
 | cons _ _ ih =>
  intro u hu;simp only [List.mem_cons] at hu
  rcases hu with rfl | rfl | hu
  ·intro k e; cases e
  ·intro k e; cases e
  ·exact ih u hu
theorem ICells.one (h : ICells w L zs cs) : ∀ u ∈ cs, u.oneCell' = true := by
 induction h with
 | nil => intro u hu; cases hu
 | cons _ _ ih =>
  intro u hu;simp only [List.mem_cons] at hu
  rcases hu with rfl | rfl | hu
  ·rfl
  ·rfl
  ·exact ih u hu
theorem ICells.ni (hf : ∀ z L s' A' n' c', NI w z L s' A' n' c' -> NI w' z L s' A' n' c') (h : ICells w L zs cs) : ICells w' L zs cs := by
 induction h with
 | nil => exact .nil
 | cons h _ ih => exact .cons (hf _ _ _ _ _ _ h) ih
theorem ICells.get (h : ICells w L zs cs) : ∀ i (hi : i < zs.length), ∃ s A n c, cs[2 * i]? = some (.bool s) /\ cs[2 * i + 1]? = some (.slice A n c) /\ NI w zs[i] L s A n c := by
 induction h with
 | nil => intro i hi; simp at hi
 | @cons z zs s A n c cs h _ ih =>
  intro i hi
  cases i with
  | zero => exact ⟨s, A, n, c, rfl, rfl, h⟩
  | succ i =>
   obtain ⟨s1, A1, n1, c1, k0, k1, k2⟩ := ih i (by simpa using hi);refine ⟨s1, A1, n1, c1, ?_, ?_, k2⟩
   ·rw [show 2 * (i + 1) = 2 * i + 1 + 1 by omega]; exact k0
   ·rw [show 2 * (i + 1) + 1 = 2 * i + 1 + 1 + 1 by omega]; exact k1
theorem ICells.set (h : ICells w L zs cs) (hz : NI w z L s A n c) : ∀ k, k < zs.length -> ICells w L (zs.set k z) ((cs.set (k * 2) (.bool s)).set (k * 2 + 1) (.slice A n c)) := by
 induction h with
 | nil => intro k hk; simp at hk
 | @cons z0 zs s0 A0 n0 c0 cs h0 h1 ih =>
  intro k hk
  cases k with
  | zero => exact .cons hz h1
  | succ k =>
   have := ih k (by simpa using hk);rw [show (k + 1) * 2 = k * 2 + 1 + 1 by omega];simp only [List.set_cons_succ];exact .cons h0 this
theorem ICells.zero (w : World) (L : Nat) : ∀ n, ICells w L (List.replicate n 0) (zeroI n)
 | 0 => .nil
 | n + 1 => by rw [List.replicate_succ]; exact .cons (NI.nil w L) (ICells.zero w L n)
theorem IntsAt.ext (h : IntsAt w b o zs L) (e : Ext w w') : IntsAt w' b o zs L := ⟨fun i hi => by
 obtain ⟨s, A, n, c, h1, h2, h3⟩ := h.at_ i hi;exact ⟨s, A, n, c, e.cellv h1, e.cellv h2, h3.ext e⟩⟩
theorem IntsAt.take (h : IntsAt w b o zs L) (k : Nat) : IntsAt w b o (zs.take k) L := ⟨fun i hi => by
 have hi' : i < zs.length := by rw [List.length_take] at hi; omega
 have := h.at_ i hi';rw [List.getElem_take];exact this⟩
theorem IPol.ext (h : IPol w A n c zs L) (e : Ext w w') : IPol w' A n c zs L :=
 ⟨h.len, h.cap, h.top, fun hq => by obtain ⟨b, off, h1, h2⟩ := h.at_ hq; exact ⟨b, off, h1, h2.ext e⟩⟩
theorem IPol.take (h : IPol w A n c zs L) {k : Nat} (hk : k <= n) : IPol w A k c (zs.take k) L := by
 refine ⟨by rw [List.length_take, h.len]; omega, Nat.le_trans hk h.cap, h.top, fun hq => ?_⟩;obtain ⟨b, off, h1, h2⟩ := h.at_ (fun e => hq (by rw [e]; simp));exact ⟨b, off, h1, h2.take k⟩
theorem IPol.none (w : World) (L : Nat) : IPol w none 0 0 [] L := ⟨rfl, Nat.le_refl _, Nat.zero_le _, fun h => absurd rfl h⟩
theorem IRow.ext (h : IRow w g zs L) (e : Ext w w') : IRow w' g zs L := by
 obtain ⟨cs, h1, h2⟩ := h;exact ⟨cs, h1.ext e, h2.ext e⟩
theorem IRow.frozen (h : IRow w g zs L) (i : Nat) : w.frozen? ⟨g, i, none⟩ = false := by
 obtain ⟨cs, h1, _⟩ := h;exact h1.frozen i
theorem IRow.lt (h : IRow w g zs L) : g < w.heap.size := by
 obtain ⟨cs, h1, _⟩ := h;exact h1.lt
theorem IRow.le (h : IRow w g zs L) (hl : L <= M) : IRow w g zs M := by
 obtain ⟨cs, h1, h2⟩ := h;exact ⟨cs, h1, h2.le hl⟩
theorem IRow.ints (h : IRow w g zs L) : IntsAt w g 0 zs L := by
 obtain ⟨cs, h1, h2⟩ := h;refine ⟨fun i hi => ?_⟩;obtain ⟨s, A, n, c, k0, k1, k2⟩ := h2.get i hi;rw [Nat.zero_add];exact ⟨s, A, n, c, h1.cell (2 * i) _ (by simpa using k0), h1.cell (2 * i + 1) _ (by simpa using k1), k2⟩
theorem IRow.pol (h : IRow w g zs L) (hn : zs.length = n) (hm : n <= maxLen) : IPol w (some ⟨g, 0, none⟩) n n zs L := ⟨hn, Nat.le_refl _, hm, fun _ => ⟨g, 0, rfl, h.ints⟩⟩
theorem IRow.new (w : World) (n L : Nat) : IRow (w.alloc (.cells (zeroI n).toArray 28)) w.heap.size (List.replicate n 0) L := ⟨zeroI n, Box.new w _ _, ICells.zero _ L n⟩
theorem IRow.get (h : IRow w g zs L) (hk : k < zs.length) : ∃ s A n c, w.cell? ⟨g, k * 2, none⟩ = some (.bool s) /\ w.cell? ⟨g, k * 2 + 1, none⟩ = some (.slice A n c) /\ NI w zs[k] L s A n c := by
 obtain ⟨s, A, n, c, h1, h2, h3⟩ := h.ints.at_ k hk;rw [Nat.zero_add, Nat.mul_comm] at h1 h2;exact ⟨s, A, n, c, h1, h2, h3⟩
theorem IRow.put (h : IRow w g zs L) (hk : k < zs.length) (hz : NI w z L s A n c) :
  IRow ((w.setCell ⟨g, k * 2, none⟩ (.bool s)).setCell ⟨g, k * 2 + 1, none⟩ (.slice A n c)) g (zs.set k z) L /\
  (∀ z L s' A' n' c', NI w z L s' A' n' c' -> NI ((w.setCell ⟨g, k * 2, none⟩ (.bool s)).setCell ⟨g, k * 2 + 1, none⟩ (.slice A n c)) z L s' A' n' c') /\
  (∀ W, Ext W w -> W.heap.size <= g -> Ext W ((w.setCell ⟨g, k * 2, none⟩ (.bool s)).setCell ⟨g, k * 2 + 1, none⟩ (.slice A n c))) /\
  (∀ g' T' cs', g' ≠ g -> Box w g' T' cs' -> Box ((w.setCell ⟨g, k * 2, none⟩ (.bool s)).setCell ⟨g, k * 2 + 1, none⟩ (.slice A n c)) g' T' cs') := by
 obtain ⟨cs, h1, h2⟩ := h;have F := ((FinRow.refl h1 h2.nwl).step (k * 2) (v := .bool s) (by intro k h; cases h)).step (k * 2 + 1) (v := .slice A n c) (by intro k h; cases h);exact ⟨⟨_, F.box, (h2.set hz k hk).ni F.ni⟩, F.ni, F.ext, F.far⟩
end
end
section
open Go.RowKit
attribute [local go_sem ↓] Go.wp_at_zero Go.wp_at_succ
section
variable {w w' : World} {z y : Int} {L M : Nat} {s t : Bool} {A B : Option Addr} {n c m d : Nat} {zs ys : List Int}
theorem p_isOneT (h : NI w z L s A n c) : Calls Tryz.prog 102 #[.agg #[.bool s, .slice A n c]] w fun e w' => e = .returned (.bool (decide (z = 1))) /\ Ext w w' := by
 have h1 := h.one_iff
 cases s with
 | true =>
  have hd : decide (z = 1) = false := decide_eq_false fun hz => by have := (h1.1 hz).1; cases this
  rw [hd]
  go_enter Tryz.func102, Tryz.ntmps102
  go_wp2
  go_ret
  exact ⟨rfl, (Ext.refl w).alloc _⟩
 | false =>
  by_cases hn : n = 1
  ·subst hn
   obtain ⟨xs, hl, hx, _⟩ := h.out;obtain ⟨b, off, rfl, hb, hc⟩ := hx.at_ (i := 0) (by omega);simp only [Nat.add_zero] at hc
   have hv : (decide (z = 1)) = (((xs[0]'(by omega) : Nat) : Int) == 1) := by
    by_cases hz : z = 1
    ·obtain ⟨_, _, b', off', hA, hc'⟩ := h1.1 hz
     injection hA with hA
     injection hA with e1 e2
     subst e1; subst e2;rw [hc] at hc'
     injection hc' with hc'
     injection hc' with _ hc'
     rw [hc'];simp [hz]
    ·have : ¬ ((xs[0]'(by omega) : Nat) : Int) = 1 := fun h2 => hz (h1.2 ⟨rfl, rfl, b, off, rfl, by rw [hc, h2]⟩)
     rw [decide_eq_false hz];exact (beq_eq_false_iff_ne.2 this).symm
   rw [hv];generalize (xs[0]'(by omega) : Nat) = k at hc;have hc2 := ((Ext.refl w).alloc (.cells #[.bool false, .slice (some ⟨b, off, none⟩) 1 c] 28)).cellv hc;clear h1 h hv hx hl
   go_enter Tryz.func102, Tryz.ntmps102
   go_wp2
   go_ret
   exact ⟨rfl, (Ext.refl w).alloc _⟩
  ·have hd : decide (z = 1) = false := decide_eq_false fun hz => hn (h1.1 hz).2.1
   have hn2 : ((n : Int) == 1) = false := by rw [beq_eq_false_iff_ne]; omega
   rw [hd]
   go_enter Tryz.func102, Tryz.ntmps102
   go_wp2
   go_ret
   exact ⟨rfl, (Ext.refl w).alloc _⟩
theorem p_exactT (h : NI w z L s A n c) (k : NI w y M t B m d) (hL : L <= 8000) (hM : M <= 8000) (h0 : y ≠ 0) (hd : y ∣ z) : Calls Tryz.prog 105 #[.agg #[.bool s, .slice A n c], .agg #[.bool t, .slice B m d]] w (RetNI (z / y) L w) := by
 go_enter Tryz.func105, Tryz.ntmps105
 go_upto_region 1 with (fail)
 obtain ⟨W, hW, extW, bx, by_, bz, hz⟩ := box3 w 28 28 28 #[.bool s, .slice A n c] #[.bool t, .slice B m d] #[Value.bool false, Value.slice none 0 0];rw [<- hW];clear hW;have y0 := by_.cell 0 (.bool t) rfl;have y1 := by_.cell 1 (.slice B m d) rfl
 go_wp2_with fail
 refine (p_isOneT (k.ext extW)).mono ?_;rintro e wa ⟨rfl, hx0⟩;have x0 := (bx.ext hx0).cell 0 (.bool s) rfl;have x1 := (bx.ext hx0).cell 1 (.slice A n c) rfl;have y2 := (by_.ext hx0).cell 0 (.bool t) rfl;have y3 := (by_.ext hx0).cell 1 (.slice B m d) rfl;have z0 := (bz.ext hx0).cell 0 _ rfl;have z1 := (bz.ext hx0).cell 1 _ rfl;have f0 := (bz.ext hx0).frozen 0;have f1 := (bz.ext hx0).frozen 1;clear y0 y1
 by_cases h1 : y = 1
 ·have hd1 : decide (y = 1) = true := decide_eq_true h1
  rw [hd1]
  go_wp2_with fail
  obtain ⟨b1, b2, b3, b4⟩ := fin_dual (s := s) (A := A) (n := n) (c := c) (bz.ext hx0);have r0 := b1.cell 0 (.bool s) rfl;have r1 := b1.cell 1 (.slice A n c) rfl;unfold set2 at r0 r1;refine bodyPost_ret (v := .agg #[.bool s, .slice A n c]) (by simp [results, Tryz.results105, go_sem, r0, r1]) rfl ⟨s, A, n, c, rfl, ?_, b3 _ (extW.trans hx0) (by omega)⟩;rw [h1, Int.ediv_one];exact b2 _ _ _ _ _ _ (h.ext (extW.trans hx0))
 ·have hd1 : decide (y = 1) = false := decide_eq_false h1
  rw [hd1]
  go_wp2_with fail
  refine (p_DivMod (h.ext (extW.trans hx0)) (k.ext (extW.trans hx0)) (by omega) (by omega) h0).mono ?_;rintro e wb ⟨s1, A1, n1, c1, s2, A2, n2, c2, q, r, rfl, hq, hr, hdm, hx1⟩;obtain ⟨_, hqe, hql⟩ := (dm_q_le hdm h0).2.2 hd;rw [hqe] at hq hql;have hq' := hq.tight h (by simpa using hql);clear x0 x1 y2 y3 z0 z1 f0 f1
  go_upto_region 4 with (fail)
  refine at_world (fun V => Ext W V /\ Box V wb.heap.size 28 #[.bool s1, .slice A1 n1 c1] /\ NI V (z / y) L s1 A1 n1 c1) ?_ ?_
  ·obtain ⟨e1, e2, e3⟩ := two_new wb 28 #[.bool s1, .slice A1 n1 c1] #[.bool s2, .slice A2 n2 c2]
   exact ⟨(hx0.trans hx1).trans e1, e2, hq'.ext e1⟩
  generalize wb.heap.size = g5;rintro V ⟨EV, b5, hqV⟩;have x0 := b5.cell 0 _ rfl;have x1 := b5.cell 1 _ rfl;have z0 := (bz.ext EV).cell 0 _ rfl;have z1 := (bz.ext EV).cell 1 _ rfl;have f0 := (bz.ext EV).frozen 0;have f1 := (bz.ext EV).frozen 1
  go_wp2_with fail
  obtain ⟨b1, b2, b3, b4⟩ := fin_dual (s := s1) (A := A1) (n := n1) (c := c1) (bz.ext EV);have r0 := b1.cell 0 (.bool s1) rfl;have r1 := b1.cell 1 (.slice A1 n1 c1) rfl;unfold set2 at r0 r1;refine bodyPost_ret (v := .agg #[.bool s1, .slice A1 n1 c1]) (by simp [results, Tryz.results105, go_sem, r0, r1]) rfl ⟨s1, A1, n1, c1, rfl, ?_, b3 _ (extW.trans EV) (by omega)⟩;exact b2 _ _ _ _ _ _ hqV
def noneB (zs : List Int) : Bool := zs.all fun z => decide (z = 0)
theorem p_noneT (h : IPol w A n c zs L) (hL : L <= 50000) (hn : n <= 100000) : Calls Tryz.prog 106 #[.slice A n c] w fun e w' => e = .returned (.bool (noneB zs)) /\ Ext w w' := by
 have Hlen := Lib.hid h.len
 go_enter Tryz.func106, Tryz.ntmps106
 go_wp2_with fail
 go_loopw [7] (fun i wr => ∃ k : Nat, k <= n /\ i = .int .i64 (k : Int) /\ Ext w wr /\ noneB (zs.take k) = true) (fun i _ => n - (intOf i).toNat)
 case atStart => exact ⟨0, by omega, rfl, Ext.refl _, by simp [noneB]⟩
 case round =>
  obtain ⟨k, hk, rfl, ext, hall⟩ := hrel;have HA := Lib.hid hall;clear hall
  by_cases hlt : k < n
  ·have hj : k < zs.length := by rw [Hlen.out]; exact hlt
   have hI : (k : Int) < (n : Int) := by omega
   obtain ⟨p, off, rfl, hr⟩ := h.at_ (fun e => by rw [e] at hj; exact absurd hj (Nat.not_lt_zero _));obtain ⟨sx, Ax, nx, cx, e0, e1, hx⟩ := (hr.ext ext).at_ k hj;have e0' : wr.cell? ⟨p, off + k * 2, none⟩ = some (.bool sx) := by rw [Nat.mul_comm]; exact e0
   have e1' : wr.cell? ⟨p, off + k * 2 + 1, none⟩ = some (.slice Ax nx cx) := by rw [Nat.mul_comm]; exact e1
   have HT := Lib.hid (show noneB (zs.take (k + 1)) = (noneB (zs.take k) && decide (zs[k] = 0)) by unfold noneB; rw [List.take_succ_eq_append_getElem hj, List.all_append]; simp)
   have HM := Lib.hid (fun hf : zs[k] ≠ 0 => show noneB zs = false by
    unfold noneB;rw [List.all_eq_false];exact ⟨zs[k], List.getElem_mem hj, by simpa using hf⟩)
   generalize zs[k] = r at hx HT HM
   go_upto_region 4 with (fail)
   obtain ⟨W, hW, extW, bx, hz⟩ := box1 wr 28 #[.bool sx, .slice Ax nx cx];rw [<- hW];clear hW hz e0 e1 e0' e1';replace hx := hx.ext extW;replace ext := ext.trans extW;have x0 := bx.cell 0 (.bool sx) rfl;have x1 := bx.cell 1 (.slice Ax nx cx) rfl
   by_cases hq : r = 0
   ·have HS := Lib.hid (show r.sign = 0 by rw [hq]; rfl)
    have HQ := Lib.hid hq;clear hq
    go_wp2_with fail
    refine (p_Sign hx (by omega)).mono ?_;rintro e V ⟨rfl, hxt⟩;rw [HS.out]
    go_wp2_with fail
    go_roundw
    case rel => exact ⟨k + 1, by omega, by go_num, ext.trans hxt, by rw [HT.out, HA.out, decide_eq_true HQ.out]; rfl⟩
    case measure => simp [intOf]; omega
   ·obtain ⟨S, hS, dS⟩ : ∃ S, r.sign = S /\ (S == 0) = false := ⟨_, rfl, beq_eq_false_iff_ne.2 (fun e => hq (Int.sign_eq_zero_iff_zero.1 e))⟩
    have HS := Lib.hid hS;have HQ := Lib.hid hq;clear hS hq
    go_wp2_with fail
    refine (p_Sign hx (by omega)).mono ?_;rintro e V ⟨rfl, hxt⟩;rw [HS.out]
    go_wp2_with fail
    go_ret
    exact ⟨by rw [HM.out HQ.out]; rfl, ext.trans hxt⟩
  ·have hI : (n : Int) <= (k : Int) := by omega
   go_wp2_with fail
   go_ret
   refine ⟨?_, ext⟩;have ha := HA.out;rw [List.take_of_length_le (by rw [Hlen.out]; omega)] at ha;rw [ha]; rfl
theorem IPol.drop {b o k : Nat} (h : IPol w (some ⟨b, o, Option.none⟩) n c zs L) (hk : k <= n) : IPol w (some ⟨b, o + k * 2, Option.none⟩) (n - k) (c - k) (zs.drop k) L := by
 refine ⟨by rw [List.length_drop, h.len], by have := h.cap; omega, by have := h.top; omega, fun hq => ?_⟩;obtain ⟨b', o', h1, h2⟩ := h.at_ (fun e => hq (by rw [e]; simp))
 injection h1 with h1
 injection h1 with q1 q2
 subst q1 q2;refine ⟨b, o + k * 2, rfl, ⟨fun i hi => ?_⟩⟩;rw [List.length_drop] at hi;have := h2.at_ (k + i) (by omega);rw [List.getElem_drop];rw [show o + 2 * (k + i) = o + k * 2 + 2 * i by omega] at this;exact this
theorem p_halvesT {k : Nat} (h : IPol w A n c zs L) (hk : n = k + k) (h0 : 0 < k) (hn : n <= 100000) : Calls Tryz.prog 107 #[.slice A n c] w fun e w' => ∃ A1, e = .returned (.tuple #[.slice A k c, .slice A1 k (c - k)]) /\ IPol w' A k c (zs.take k) L /\ IPol w' A1 k (c - k) (zs.drop k) L /\ Ext w w' := by
 have hc := h.cap;have ht := h.top;obtain ⟨b, off, rfl, _⟩ := h.at_ (fun e => by have := h.len; rw [e] at this; simp at this; omega);have Hh := Lib.hid (show (n : Int) / 2 = (k : Int) by omega);have Hk := Lib.hid hk;have hkn : k <= n := by omega
 have k1 : (k : Int) <= (n : Int) := by omega
 have k2 : (k : Int) <= (c : Int) := by omega
 have k3 : (n : Int) <= (c : Int) := by omega
 have k4 : ¬ c = k := by omega
 have q1 : Int.tdiv (n : Int) 2 = (k : Int) := by rw [Int.tdiv_eq_ediv_of_nonneg (by omega)]; omega
 have q2 : (n : Int) / 2 = (k : Int) := by omega
 have q3 : IntKind.i64.wrap (k : Int) = (k : Int) := IntWalk.i64_in _ (by omega);clear hk
 go_enter Tryz.func107, Tryz.ntmps107
 go_upto_region 1 with (fail)
 go_quiet (fail)
 have hs : n - k = k := by have := Hk.out; omega
 have ex := (Ext.refl w).drewN nq
 go_wp2_with fail
 refine bodyPost_ret (v := .tuple #[.slice (some ⟨b, off, Option.none⟩) k c, .slice (some ⟨b, off + k * 2, Option.none⟩) (n - k) (c - k)]) (by simp [results, Tryz.results107, go_sem]) rfl ?_;rw [hs];have hd := h.drop hkn;rw [hs] at hd;exact ⟨_, rfl, (h.take hkn).ext ex, hd.ext ex, ex⟩
theorem set_repl {l : List Int} {k m : Nat} {z : Int} (hk : l.length = k) : (l ++ List.replicate (m + 1) 0).set k z = (l ++ [z]) ++ List.replicate m 0 := by
 subst hk;rw [List.set_append_right _ _ (Nat.le_refl _), Nat.sub_self, List.replicate_succ, List.set_cons_zero, List.append_assoc]
 rfl
theorem IntsAt.leT {b o : Nat} (h : IntsAt w b o zs L) (hl : L <= M) : IntsAt w b o zs M := ⟨fun i hi => by
 obtain ⟨s, A, n, c, h1, h2, h3⟩ := h.at_ i hi;exact ⟨s, A, n, c, h1, h2, h3.le hl⟩⟩
theorem IPol.leT (h : IPol w A n c zs L) (hl : L <= M) : IPol w A n c zs M := ⟨h.len, h.cap, h.top, fun hq => by
 obtain ⟨b, off, h1, h2⟩ := h.at_ hq;exact ⟨b, off, h1, h2.leT hl⟩⟩
theorem p_SubIT {w : World} {z y : Int} {L M : Nat} {s t : Bool} {A B : Option Addr} {n c m d : Nat} (h : NI w z L s A n c) (k : NI w y M t B m d) (hL : L <= 50000) (hM : M <= 50000) : Calls Tryz.prog 143 #[.agg #[.bool s, .slice A n c], .agg #[.bool t, .slice B m d]] w (RetNI (z - y) (max L M + 1) w) := by
 obtain ⟨xs, hn, hx, hc, hcm, hi, hl⟩ := h.out;obtain ⟨ys, hm, hy, hd, hdm, hj, hk⟩ := k.out;refine (int_Sub hn hm hx hy hc hcm hd hdm (by omega) (by omega)).mono fun e w' hr => ?_
 rw [hi.eq, hj.eq] at hr;exact hr.ni (by omega)
theorem p_multiple1T {g : Nat} (h : NI w z L s A n c) (k : NI w y M t B m d) (hb : Box w g 28 #[.bool t, .slice B m d]) (hLM : L + M <= 50000) : Calls Tryz.prog 118 #[.agg #[.bool s, .slice A n c], .pointer (some ⟨g, 0, Option.none⟩)] w (RetNI (z * y) (L + M) w) := by
 go_enter Tryz.func118, Tryz.ntmps118
 go_upto_region 1 with (fail)
 obtain ⟨W, hW, extW, bx, bz, hz⟩ := box2 w 28 28 #[.bool s, .slice A n c] #[Value.bool false, Value.slice Option.none 0 0];rw [<- hW];clear hW;have hb1 := hb.ext extW;have x0 := bx.cell 0 (.bool s) rfl;have x1 := bx.cell 1 (.slice A n c) rfl;have y0 := hb1.cell 0 (.bool t) rfl;have y1 := hb1.cell 1 (.slice B m d) rfl
 go_wp2_with fail
 refine (p_MulG (h.ext extW) (k.ext extW) (by omega) (by omega)).mono ?_;rintro e V ⟨s7, A7, n7, c7, rfl, h7, EV⟩;clear x0 x1 y0 y1;have z0 := (bz.ext EV).cell 0 _ rfl;have z1 := (bz.ext EV).cell 1 _ rfl;have f0 := (bz.ext EV).frozen 0;have f1 := (bz.ext EV).frozen 1
 go_wp2_with fail
 obtain ⟨b1, b2, b3, b4⟩ := fin_dual (s := s7) (A := A7) (n := n7) (c := c7) (bz.ext EV);have r0 := b1.cell 0 (.bool s7) rfl;have r1 := b1.cell 1 (.slice A7 n7 c7) rfl;unfold set2 at r0 r1;refine bodyPost_ret (v := .agg #[.bool s7, .slice A7 n7 c7]) (by simp [results, Tryz.results118, go_sem, r0, r1]) rfl ⟨s7, A7, n7, c7, rfl, ?_, b3 _ (extW.trans EV) (by omega)⟩;exact b2 _ _ _ _ _ _ h7
theorem p_divided1T {g : Nat} (h : NI w z L s A n c) (k : NI w y M t B m d) (hb : Box w g 28 #[.bool t, .slice B m d]) (hL : L <= 8000) (hM : M <= 8000) (h0 : y ≠ 0) (hd : y ∣ z) : Calls Tryz.prog 146 #[.agg #[.bool s, .slice A n c], .pointer (some ⟨g, 0, Option.none⟩)] w (RetNI (z / y) (L) w) := by
 go_enter Tryz.func146, Tryz.ntmps146
 go_upto_region 1 with (fail)
 obtain ⟨W, hW, extW, bx, bz, hz⟩ := box2 w 28 28 #[.bool s, .slice A n c] #[Value.bool false, Value.slice Option.none 0 0];rw [<- hW];clear hW;have hb1 := hb.ext extW;have x0 := bx.cell 0 (.bool s) rfl;have x1 := bx.cell 1 (.slice A n c) rfl;have y0 := hb1.cell 0 (.bool t) rfl;have y1 := hb1.cell 1 (.slice B m d) rfl
 go_wp2_with fail
 refine (p_exactT (h.ext extW) (k.ext extW) (by omega) (by omega) h0 hd).mono ?_;rintro e V ⟨s7, A7, n7, c7, rfl, h7, EV⟩;clear x0 x1 y0 y1;have z0 := (bz.ext EV).cell 0 _ rfl;have z1 := (bz.ext EV).cell 1 _ rfl;have f0 := (bz.ext EV).frozen 0;have f1 := (bz.ext EV).frozen 1
 go_wp2_with fail
 obtain ⟨b1, b2, b3, b4⟩ := fin_dual (s := s7) (A := A7) (n := n7) (c := c7) (bz.ext EV);have r0 := b1.cell 0 (.bool s7) rfl;have r1 := b1.cell 1 (.slice A7 n7 c7) rfl;unfold set2 at r0 r1;refine bodyPost_ret (v := .agg #[.bool s7, .slice A7 n7 c7]) (by simp [results, Tryz.results146, go_sem, r0, r1]) rfl ⟨s7, A7, n7, c7, rfl, ?_, b3 _ (extW.trans EV) (by omega)⟩;exact b2 _ _ _ _ _ _ h7
set_option maxRecDepth 100000 in
theorem p_eachI_multiple (h : IPol w A n c zs L) (_hL : L <= 50000) (hn : n <= 1000) {gy : Nat} {sy : Bool} {Ay : Option Addr} {ny cy : Nat} (hnum : NI w y M sy Ay ny cy) (hb : Box w gy 28 #[.bool sy, .slice Ay ny cy]) (hLM : L + M <= 50000) : Calls Tryz.prog 117 #[.slice A n c, (.func (.func 118) #[] #[.pointer (some ⟨gy, 0, Option.none⟩)])] w (fun e w' => e = .returned (.slice (some ⟨w.heap.size, 0, Option.none⟩) n n) /\ IRow w' w.heap.size (zs.map (fun x : Int => x * y)) (L + M) /\ Ext w w') := by
 have hmk := mk_ints n (by omega);have Hlen := Lib.hid h.len
 go_enter Tryz.func117, Tryz.ntmps117
 go_wp2_with fail
 go_loopw [12] (fun i wr => ∃ k : Nat, k <= n /\ i = .int .i64 (k : Int) /\ Ext w wr /\ IRow wr w.heap.size ((zs.take k).map (fun x : Int => x * y) ++ List.replicate (n - k) 0) (L + M)) (fun i _ => n - (intOf i).toNat)
 case atStart => exact ⟨0, Nat.zero_le _, rfl, (Ext.refl w).alloc _, by simpa using IRow.new w n _⟩
 case round =>
  obtain ⟨k, hk, rfl, ext, hF⟩ := hrel
  by_cases hlt : k < n
  ·have hj : k < zs.length := by rw [Hlen.out]; exact hlt
   obtain ⟨b, off, rfl, hr⟩ := h.at_ (fun e => by rw [e] at hj; exact absurd hj (Nat.not_lt_zero _));obtain ⟨sx, Ax, nx, cx, e0, e1, hx⟩ := (hr.ext ext).at_ k hj;have e0' : wr.cell? ⟨b, off + k * 2, none⟩ = some (.bool sx) := by rw [Nat.mul_comm]; exact e0
   have e1' : wr.cell? ⟨b, off + k * 2 + 1, none⟩ = some (.slice Ax nx cx) := by rw [Nat.mul_comm]; exact e1
   have hkl : ((zs.take k).map (fun x : Int => x * y)).length = k := by rw [List.length_map, List.length_take, Hlen.out]; omega
   have HT := Lib.hid (show ∀ z, z = (fun x : Int => x * y) zs[k] -> ((zs.take k).map (fun x : Int => x * y) ++ List.replicate (n - k) 0).set k z = (zs.take (k + 1)).map (fun x : Int => x * y) ++ List.replicate (n - (k + 1)) 0 by
    intro z hz;rw [hz, show n - k = (n - (k + 1)) + 1 by omega, set_repl hkl, List.take_succ_eq_append_getElem hj, List.map_append]; rfl)
   go_wp2_with fail
   refine (p_multiple1T hx (hnum.ext ext) (hb.ext ext) (by omega)).mono ?_;rintro e V ⟨s7, A7, n7, c7, rfl, h7, hxt⟩;replace hF := hF.ext hxt;replace ext := ext.trans hxt;have hlr : k < ((zs.take k).map (fun x : Int => x * y) ++ List.replicate (n - k) (0 : Int)).length := by rw [List.length_append, hkl, List.length_replicate]; omega
   obtain ⟨s8, A8, n8, c8, p0, p1, _⟩ := hF.get hlr;have f0 := hF.frozen (k * 2);have f1 := hF.frozen (k * 2 + 1)
   go_wp2_with fail
   have P := hF.put hlr h7;rw [HT.out _ rfl] at P
   go_roundw
   case rel => exact ⟨k + 1, by omega, by go_num, P.2.2.1 _ ext (Nat.le_refl _), P.1⟩
   case measure => simp [intOf]; omega
  ·have hkn : k = n := by omega
   subst hkn;rw [List.take_of_length_le (Nat.le_of_eq Hlen.out), Nat.sub_self, List.replicate_zero, List.append_nil] at hF
   go_wp2_with fail
   go_ret
   exact ⟨rfl, hF, ext⟩
set_option maxRecDepth 100000 in
theorem p_eachI_divided (h : IPol w A n c zs L) (_hL : L <= 50000) (hn : n <= 1000) {gy : Nat} {sy : Bool} {Ay : Option Addr} {ny cy : Nat} (hnum : NI w y M sy Ay ny cy) (hb : Box w gy 28 #[.bool sy, .slice Ay ny cy]) (hL8 : L <= 8000) (hM8 : M <= 8000) (h0 : y ≠ 0) (hd : ∀ z ∈ zs, y ∣ z) : Calls Tryz.prog 117 #[.slice A n c, (.func (.func 146) #[] #[.pointer (some ⟨gy, 0, Option.none⟩)])] w (fun e w' => e = .returned (.slice (some ⟨w.heap.size, 0, Option.none⟩) n n) /\ IRow w' w.heap.size (zs.map (fun x : Int => x / y)) (L) /\ Ext w w') := by
 have hmk := mk_ints n (by omega);have Hlen := Lib.hid h.len
 go_enter Tryz.func117, Tryz.ntmps117
 go_wp2_with fail
 go_loopw [12] (fun i wr => ∃ k : Nat, k <= n /\ i = .int .i64 (k : Int) /\ Ext w wr /\ IRow wr w.heap.size ((zs.take k).map (fun x : Int => x / y) ++ List.replicate (n - k) 0) (L)) (fun i _ => n - (intOf i).toNat)
 case atStart => exact ⟨0, Nat.zero_le _, rfl, (Ext.refl w).alloc _, by simpa using IRow.new w n _⟩
 case round =>
  obtain ⟨k, hk, rfl, ext, hF⟩ := hrel
  by_cases hlt : k < n
  ·have hj : k < zs.length := by rw [Hlen.out]; exact hlt
   obtain ⟨b, off, rfl, hr⟩ := h.at_ (fun e => by rw [e] at hj; exact absurd hj (Nat.not_lt_zero _));obtain ⟨sx, Ax, nx, cx, e0, e1, hx⟩ := (hr.ext ext).at_ k hj;have e0' : wr.cell? ⟨b, off + k * 2, none⟩ = some (.bool sx) := by rw [Nat.mul_comm]; exact e0
   have e1' : wr.cell? ⟨b, off + k * 2 + 1, none⟩ = some (.slice Ax nx cx) := by rw [Nat.mul_comm]; exact e1
   have hkl : ((zs.take k).map (fun x : Int => x / y)).length = k := by rw [List.length_map, List.length_take, Hlen.out]; omega
   have HT := Lib.hid (show ∀ z, z = (fun x : Int => x / y) zs[k] -> ((zs.take k).map (fun x : Int => x / y) ++ List.replicate (n - k) 0).set k z = (zs.take (k + 1)).map (fun x : Int => x / y) ++ List.replicate (n - (k + 1)) 0 by
    intro z hz;rw [hz, show n - k = (n - (k + 1)) + 1 by omega, set_repl hkl, List.take_succ_eq_append_getElem hj, List.map_append]; rfl)
   go_wp2_with fail
   refine (p_divided1T hx (hnum.ext ext) (hb.ext ext) hL8 hM8 h0 (hd _ (List.getElem_mem hj))).mono ?_;rintro e V ⟨s7, A7, n7, c7, rfl, h7, hxt⟩;replace hF := hF.ext hxt;replace ext := ext.trans hxt;have hlr : k < ((zs.take k).map (fun x : Int => x / y) ++ List.replicate (n - k) (0 : Int)).length := by rw [List.length_append, hkl, List.length_replicate]; omega
   obtain ⟨s8, A8, n8, c8, p0, p1, _⟩ := hF.get hlr;have f0 := hF.frozen (k * 2);have f1 := hF.frozen (k * 2 + 1)
   go_wp2_with fail
   have P := hF.put hlr h7;rw [HT.out _ rfl] at P
   go_roundw
   case rel => exact ⟨k + 1, by omega, by go_num, P.2.2.1 _ ext (Nat.le_refl _), P.1⟩
   case measure => simp [intOf]; omega
  ·have hkn : k = n := by omega
   subst hkn;rw [List.take_of_length_le (Nat.le_of_eq Hlen.out), Nat.sub_self, List.replicate_zero, List.append_nil] at hF
   go_wp2_with fail
   go_ret
   exact ⟨rfl, hF, ext⟩
set_option maxRecDepth 100000 in
theorem p_pairI_Add (h : IPol w A n c zs L) (h' : IPol w B n d ys M) (hL : L <= 40000) (hM : M <= 40000) (hn : n <= 1000) : Calls Tryz.prog 142 #[.slice A n c, .slice B n d, (.func (.func 99) #[] #[])] w (fun e w' => e = .returned (.slice (some ⟨w.heap.size, 0, Option.none⟩) n n) /\ IRow w' w.heap.size (List.zipWith (fun x y : Int => x + y) zs ys) (max L M + 1) /\ Ext w w') := by
 have hmk := mk_ints n (by omega);have Hlen := Lib.hid h.len;have Hlen' := Lib.hid h'.len
 go_enter Tryz.func142, Tryz.ntmps142
 go_wp2_with fail
 go_loopw [14] (fun i wr => ∃ k : Nat, k <= n /\ i = .int .i64 (k : Int) /\ Ext w wr /\ IRow wr w.heap.size ((List.zipWith (fun x y : Int => x + y) (zs.take k) (ys.take k)) ++ List.replicate (n - k) 0) (max L M + 1)) (fun i _ => n - (intOf i).toNat)
 case atStart => exact ⟨0, Nat.zero_le _, rfl, (Ext.refl w).alloc _, by simpa using IRow.new w n _⟩
 case round =>
  obtain ⟨k, hk, rfl, ext, hF⟩ := hrel
  by_cases hlt : k < n
  ·have hj : k < zs.length := by rw [Hlen.out]; exact hlt
   have hj' : k < ys.length := by rw [Hlen'.out]; exact hlt
   have hI : (k : Int) < (n : Int) := by omega
   obtain ⟨b, off, rfl, hr⟩ := h.at_ (fun e => by rw [e] at hj; exact absurd hj (Nat.not_lt_zero _));obtain ⟨b', off', rfl, hr'⟩ := h'.at_ (fun e => by rw [e] at hj'; exact absurd hj' (Nat.not_lt_zero _));obtain ⟨sx, Ax, nx, cx, e0, e1, hx⟩ := (hr.ext ext).at_ k hj;have e0' : wr.cell? ⟨b, off + k * 2, none⟩ = some (.bool sx) := by rw [Nat.mul_comm]; exact e0
   have e1' : wr.cell? ⟨b, off + k * 2 + 1, none⟩ = some (.slice Ax nx cx) := by rw [Nat.mul_comm]; exact e1
   obtain ⟨sy, Ay, ny, cy, i0, i1, hy⟩ := (hr'.ext ext).at_ k hj';have i0' : wr.cell? ⟨b', off' + k * 2, none⟩ = some (.bool sy) := by rw [Nat.mul_comm]; exact i0
   have i1' : wr.cell? ⟨b', off' + k * 2 + 1, none⟩ = some (.slice Ay ny cy) := by rw [Nat.mul_comm]; exact i1
   have hkl : ((List.zipWith (fun x y : Int => x + y) (zs.take k) (ys.take k))).length = k := by rw [List.length_zipWith, List.length_take, List.length_take, Hlen.out, Hlen'.out]; omega
   have HT := Lib.hid (show ∀ z, z = (fun x y : Int => x + y) zs[k] ys[k] -> ((List.zipWith (fun x y : Int => x + y) (zs.take k) (ys.take k)) ++ List.replicate (n - k) 0).set k z = List.zipWith (fun x y : Int => x + y) (zs.take (k + 1)) (ys.take (k + 1)) ++ List.replicate (n - (k + 1)) 0 by
    intro z hz;rw [hz, show n - k = (n - (k + 1)) + 1 by omega, set_repl hkl, List.take_succ_eq_append_getElem hj, List.take_succ_eq_append_getElem hj', List.zipWith_append (by rw [List.length_take, List.length_take]; omega)]; rfl)
   go_upto_region 5 with (fail)
   refine wpL.st 13 (fun hQ ES => ?_);refine wpL.u 0 17 hQ ES ?_
   try simp only [zP]
   refine wpL.u 1 18 hQ ES ?_
   try simp only [zP]
   refine wpL.u 2 19 hQ ES ?_
   try simp only [zP]
   refine wpL.u 3 20 hQ ES ?_
   try simp only [zP]
   refine wpL.u 4 21 hQ ES ?_
   try simp only [zP]
   refine wpL.u 7 24 hQ ES ?_
   try simp only [zP]
   refine wpL.u 8 25 hQ ES ?_
   try simp only [zP]
   refine wpL.u 5 22 hQ ES ?_
   try simp only [zP]
   refine wpL.u 9 26 hQ ES ?_
   try simp only [zP]
   refine wpL.t 6 23 ?v_9 hQ ?y_9 ES ?_
   case y_9 => intro w' hSw;have q0_ := hSw.cellv e0';have q1_ := hSw.cellv e1';have q2_ := hSw.cellv i0';have q3_ := hSw.cellv i1';go_simp;try rfl
   try simp only [zP]
   refine wpL.t 10 27 ?v_a hQ ?y_a ES ?_
   case y_a => intro w' hSw;have q0_ := hSw.cellv e0';have q1_ := hSw.cellv e1';have q2_ := hSw.cellv i0';have q3_ := hSw.cellv i1';go_simp;try rfl
   try simp only [zP]
   refine wpL.cl (i := 11) rfl (fun K hK => ?_);go_simp
   (go_at_call 99; refine (p_Add (hx.ext ES) (hy.ext ES) (by omega) (by omega)).mono ?_; rintro e V ⟨s7, A7, n7, c7, rfl, h7, hx0⟩; have E0_5 := Ext.trans ES hx0)
   refine hK.out _ _ E0_5 ?_;clear hK K
   try simp only [zP]
   refine wpL.u 12 29 hQ E0_5 ?_
   try simp only [zP]
   replace hF := hF.ext E0_5;replace ext := ext.trans E0_5;have hlr : k < ((List.zipWith (fun x y : Int => x + y) (zs.take k) (ys.take k)) ++ List.replicate (n - k) (0 : Int)).length := by rw [List.length_append, hkl, List.length_replicate]; omega
   obtain ⟨s8, A8, n8, c8, p0, p1, _⟩ := hF.get hlr;have f0 := hF.frozen (k * 2);have f1 := hF.frozen (k * 2 + 1);refine wpL.tl (i := 13) rfl (fun K hK => ?_);go_simp;refine hK.out _ _ ?_;clear hK K
   try simp only [zP]
   refine wpL.done (by kernel_rfl) ?_ _;clear hQ;have P := hF.put hlr h7;rw [HT.out _ rfl] at P
   go_wp2_with fail
   go_roundw
   case rel => exact ⟨k + 1, by omega, by go_num, P.2.2.1 _ ext (Nat.le_refl _), P.1⟩
   case measure => simp [intOf]; omega
  ·have hkn : k = n := by omega
   subst hkn;rw [List.take_of_length_le (Nat.le_of_eq Hlen.out), List.take_of_length_le (Nat.le_of_eq Hlen'.out), Nat.sub_self, List.replicate_zero, List.append_nil] at hF
   go_wp2_with fail
   go_ret
   exact ⟨rfl, hF, ext⟩
set_option maxRecDepth 100000 in
theorem p_pairI_Sub (h : IPol w A n c zs L) (h' : IPol w B n d ys M) (hL : L <= 40000) (hM : M <= 40000) (hn : n <= 1000) : Calls Tryz.prog 142 #[.slice A n c, .slice B n d, (.func (.func 143) #[] #[])] w (fun e w' => e = .returned (.slice (some ⟨w.heap.size, 0, Option.none⟩) n n) /\ IRow w' w.heap.size (List.zipWith (fun x y : Int => x - y) zs ys) (max L M + 1) /\ Ext w w') := by
 have hmk := mk_ints n (by omega);have Hlen := Lib.hid h.len;have Hlen' := Lib.hid h'.len
 go_enter Tryz.func142, Tryz.ntmps142
 go_wp2_with fail
 go_loopw [14] (fun i wr => ∃ k : Nat, k <= n /\ i = .int .i64 (k : Int) /\ Ext w wr /\ IRow wr w.heap.size ((List.zipWith (fun x y : Int => x - y) (zs.take k) (ys.take k)) ++ List.replicate (n - k) 0) (max L M + 1)) (fun i _ => n - (intOf i).toNat)
 case atStart => exact ⟨0, Nat.zero_le _, rfl, (Ext.refl w).alloc _, by simpa using IRow.new w n _⟩
 case round =>
  obtain ⟨k, hk, rfl, ext, hF⟩ := hrel
  by_cases hlt : k < n
  ·have hj : k < zs.length := by rw [Hlen.out]; exact hlt
   have hj' : k < ys.length := by rw [Hlen'.out]; exact hlt
   have hI : (k : Int) < (n : Int) := by omega
   obtain ⟨b, off, rfl, hr⟩ := h.at_ (fun e => by rw [e] at hj; exact absurd hj (Nat.not_lt_zero _));obtain ⟨b', off', rfl, hr'⟩ := h'.at_ (fun e => by rw [e] at hj'; exact absurd hj' (Nat.not_lt_zero _));obtain ⟨sx, Ax, nx, cx, e0, e1, hx⟩ := (hr.ext ext).at_ k hj;have e0' : wr.cell? ⟨b, off + k * 2, none⟩ = some (.bool sx) := by rw [Nat.mul_comm]; exact e0
   have e1' : wr.cell? ⟨b, off + k * 2 + 1, none⟩ = some (.slice Ax nx cx) := by rw [Nat.mul_comm]; exact e1
   obtain ⟨sy, Ay, ny, cy, i0, i1, hy⟩ := (hr'.ext ext).at_ k hj';have i0' : wr.cell? ⟨b', off' + k * 2, none⟩ = some (.bool sy) := by rw [Nat.mul_comm]; exact i0
   have i1' : wr.cell? ⟨b', off' + k * 2 + 1, none⟩ = some (.slice Ay ny cy) := by rw [Nat.mul_comm]; exact i1
   have hkl : ((List.zipWith (fun x y : Int => x - y) (zs.take k) (ys.take k))).length = k := by rw [List.length_zipWith, List.length_take, List.length_take, Hlen.out, Hlen'.out]; omega
   have HT := Lib.hid (show ∀ z, z = (fun x y : Int => x - y) zs[k] ys[k] -> ((List.zipWith (fun x y : Int => x - y) (zs.take k) (ys.take k)) ++ List.replicate (n - k) 0).set k z = List.zipWith (fun x y : Int => x - y) (zs.take (k + 1)) (ys.take (k + 1)) ++ List.replicate (n - (k + 1)) 0 by
    intro z hz;rw [hz, show n - k = (n - (k + 1)) + 1 by omega, set_repl hkl, List.take_succ_eq_append_getElem hj, List.take_succ_eq_append_getElem hj', List.zipWith_append (by rw [List.length_take, List.length_take]; omega)]; rfl)
   go_upto_region 5 with (fail)
   refine wpL.st 13 (fun hQ ES => ?_);refine wpL.u 0 17 hQ ES ?_
   try simp only [zP]
   refine wpL.u 1 18 hQ ES ?_
   try simp only [zP]
   refine wpL.u 2 19 hQ ES ?_
   try simp only [zP]
   refine wpL.u 3 20 hQ ES ?_
   try simp only [zP]
   refine wpL.u 4 21 hQ ES ?_
   try simp only [zP]
   refine wpL.u 7 24 hQ ES ?_
   try simp only [zP]
   refine wpL.u 8 25 hQ ES ?_
   try simp only [zP]
   refine wpL.u 5 22 hQ ES ?_
   try simp only [zP]
   refine wpL.u 9 26 hQ ES ?_
   try simp only [zP]
   refine wpL.t 6 23 ?v_9 hQ ?y_9 ES ?_
   case y_9 => intro w' hSw;have q0_ := hSw.cellv e0';have q1_ := hSw.cellv e1';have q2_ := hSw.cellv i0';have q3_ := hSw.cellv i1';go_simp;try rfl
   try simp only [zP]
   refine wpL.t 10 27 ?v_a hQ ?y_a ES ?_
   case y_a => intro w' hSw;have q0_ := hSw.cellv e0';have q1_ := hSw.cellv e1';have q2_ := hSw.cellv i0';have q3_ := hSw.cellv i1';go_simp;try rfl
   try simp only [zP]
   refine wpL.cl (i := 11) rfl (fun K hK => ?_);go_simp
   (go_at_call 143; refine (p_SubIT (hx.ext ES) (hy.ext ES) (by omega) (by omega)).mono ?_; rintro e V ⟨s7, A7, n7, c7, rfl, h7, hx0⟩; have E0_5 := Ext.trans ES hx0)
   refine hK.out _ _ E0_5 ?_;clear hK K
   try simp only [zP]
   refine wpL.u 12 29 hQ E0_5 ?_
   try simp only [zP]
   replace hF := hF.ext E0_5;replace ext := ext.trans E0_5;have hlr : k < ((List.zipWith (fun x y : Int => x - y) (zs.take k) (ys.take k)) ++ List.replicate (n - k) (0 : Int)).length := by rw [List.length_append, hkl, List.length_replicate]; omega
   obtain ⟨s8, A8, n8, c8, p0, p1, _⟩ := hF.get hlr;have f0 := hF.frozen (k * 2);have f1 := hF.frozen (k * 2 + 1);refine wpL.tl (i := 13) rfl (fun K hK => ?_);go_simp;refine hK.out _ _ ?_;clear hK K
   try simp only [zP]
   refine wpL.done (by kernel_rfl) ?_ _;clear hQ;have P := hF.put hlr h7;rw [HT.out _ rfl] at P
   go_wp2_with fail
   go_roundw
   case rel => exact ⟨k + 1, by omega, by go_num, P.2.2.1 _ ext (Nat.le_refl _), P.1⟩
   case measure => simp [intOf]; omega
  ·have hkn : k = n := by omega
   subst hkn;rw [List.take_of_length_le (Nat.le_of_eq Hlen.out), List.take_of_length_le (Nat.le_of_eq Hlen'.out), Nat.sub_self, List.replicate_zero, List.append_nil] at hF
   go_wp2_with fail
   go_ret
   exact ⟨rfl, hF, ext⟩
theorem p_plusT (h : IPol w A n c zs L) (h' : IPol w B n d ys M) (hL : L <= 40000) (hM : M <= 40000) (hn : n <= 1000) : Calls Tryz.prog 110 #[.slice A n c, .slice B n d] w (fun e w' => e = .returned (.slice (some ⟨w.heap.size, 0, Option.none⟩) n n) /\ IRow w' w.heap.size (addL zs ys) (max L M + 1) /\ Ext w w') := by
 go_enter Tryz.func110, Tryz.ntmps110
 go_wp2_with fail
 refine (p_pairI_Add h h' hL hM hn).mono ?_;rintro e V ⟨rfl, hF, hx⟩
 go_wp2_with fail
 go_ret
 exact ⟨rfl, hF, hx⟩
theorem p_minusT (h : IPol w A n c zs L) (h' : IPol w B n d ys M) (hL : L <= 40000) (hM : M <= 40000) (hn : n <= 1000) : Calls Tryz.prog 109 #[.slice A n c, .slice B n d] w (fun e w' => e = .returned (.slice (some ⟨w.heap.size, 0, Option.none⟩) n n) /\ IRow w' w.heap.size (List.zipWith (fun x y : Int => x - y) zs ys) (max L M + 1) /\ Ext w w') := by
 go_enter Tryz.func109, Tryz.ntmps109
 go_wp2_with fail
 refine (p_pairI_Sub h h' hL hM hn).mono ?_;rintro e V ⟨rfl, hF, hx⟩
 go_wp2_with fail
 go_ret
 exact ⟨rfl, hF, hx⟩
theorem p_multipleT {sy : Bool} {Ay : Option Addr} {ny cy : Nat} (h : IPol w A n c zs L) (hk : NI w y M sy Ay ny cy) (hL : L <= 40000) (hM : M <= 40000) (hLM : L + M <= 50000) (hn : n <= 1000) : Calls Tryz.prog 73 #[.slice A n c, .agg #[.bool sy, .slice Ay ny cy]] w (RetIPol (zs.map (· * y)) (L + M) w) := by
 have hmf : ∀ (fn : Fn) (first cap : Array Value) (w : World), (Instr.makeFunc fn first cap).run Tryz.prog w = .ok (.func fn first cap) w := fun _ _ _ _ => rfl
 go_enter Tryz.func73, Tryz.ntmps73
 go_upto_region 1 with (fail)
 obtain ⟨W, hW, ext, bx, hz⟩ := box1 w 28 #[.bool sy, .slice Ay ny cy];rw [<- hW];clear hW hz;have x0 := bx.cell 0 (.bool sy) rfl;have x1 := bx.cell 1 (.slice Ay ny cy) rfl
 by_cases hone : y = 1
 ·have H1 := Lib.hid hone
  go_wp2_with fail
  refine (p_isOneT (hk.ext ext)).mono ?_;rintro e V ⟨rfl, hxt⟩;rw [decide_eq_true H1.out]
  go_wp2_with fail
  go_ret
  refine ⟨A, n, c, rfl, ?_, ext.trans hxt⟩;rw [H1.out, show zs.map (· * (1 : Int)) = zs by simp];exact (h.ext (ext.trans hxt)).leT (by omega)
 ·have H1 := Lib.hid hone
  clear hone
  go_wp2_with fail
  refine (p_isOneT (hk.ext ext)).mono ?_;rintro e V ⟨rfl, hxt⟩;rw [decide_eq_false H1.out];have e2 := ext.trans hxt
  go_wp2_with fail
  refine (p_eachI_multiple (h.ext e2) (by omega) hn (hk.ext e2) (bx.ext hxt) hLM).mono ?_;rintro e V2 ⟨rfl, hF, hx⟩
  go_wp2_with fail
  go_ret
  exact ⟨_, n, n, rfl, hF.pol (by rw [List.length_map, h.len]) (by unfold maxLen; omega), e2.trans hx⟩
theorem p_dividedT {sy : Bool} {Ay : Option Addr} {ny cy : Nat} (h : IPol w A n c zs L) (hk : NI w y M sy Ay ny cy) (hL : L <= 8000) (hM : M <= 8000) (h0 : y ≠ 0) (hd : ∀ z ∈ zs, y ∣ z) (hn : n <= 1000) : Calls Tryz.prog 116 #[.slice A n c, .agg #[.bool sy, .slice Ay ny cy]] w (fun e w' => e = .returned (.slice (some ⟨(w.heap.size + 1), 0, Option.none⟩) n n) /\ IRow w' (w.heap.size + 1) (zs.map (· / y)) (L) /\ Ext w w') := by
 have hmf : ∀ (fn : Fn) (first cap : Array Value) (w : World), (Instr.makeFunc fn first cap).run Tryz.prog w = .ok (.func fn first cap) w := fun _ _ _ _ => rfl
 go_enter Tryz.func116, Tryz.ntmps116
 go_upto_region 1 with (fail)
 have hsz : (w.alloc (.cells #[.bool sy, .slice Ay ny cy] 28)).heap.size = w.heap.size + 1 := World.size_alloc _ _;obtain ⟨W, hW, ext, bx, hz⟩ := box1 w 28 #[.bool sy, .slice Ay ny cy];rw [<- hW] at hsz ⊢;clear hW hz
 go_wp2_with fail
 refine (p_eachI_divided (h.ext ext) (by omega) hn (hk.ext ext) bx hL hM h0 hd).mono ?_;rintro e V2 ⟨rfl, hF, hx⟩;rw [hsz] at hF ⊢
 go_wp2_with fail
 go_ret
 exact ⟨rfl, hF, ext.trans hx⟩
end
end
end Go.Proofs.YtijdljfnmdoffaaGreatDoor
