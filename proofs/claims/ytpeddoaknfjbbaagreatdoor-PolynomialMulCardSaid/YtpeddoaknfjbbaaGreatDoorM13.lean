/- Walks and laws, a part. -/
import Derived.Test.YtpeddoaknfjbbaaGreatDoorM12
import Derived.Test.YtpeddoaknfjbbaaGreatDoorM7
import Derived.Test.YtpeddoaknfjbbaaGreatDoorM9
import Derived.Test.YtpeddoaknfjbbaaGreatDoorM11
import Derived.Test.YtpeddoaknfjbbaaGreatDoorM3
import Derived.Test.YtpeddoaknfjbbaaGreatDoorM10
import Derived.Test.YtpeddoaknfjbbaaGreatDoorM8
import Derived.Test.YtpeddoaknfjbbaaGreatDoorM5
import Derived.Test.YtpeddoaknfjbbaaGreatDoorM0
import Derived.Test.YtpeddoaknfjbbaaGreatDoorRows
import Derived.ProofKit
import Derived.Lib.SmallJoins
import Derived.Test.YtpeddoaknfjbbaaGreatDoorCards
import Derived.Test.YtpeddoaknfjbbaaGreatDoorTie
import Derived.LaidMore
import Derived.OpenShut
import Derived.LaidLaws
import Derived.Deep.Slices
import Derived.Lib.LaidTab
import Derived.SevenTiedAt
import Derived.Stop.Joined
set_option linter.unusedSimpArgs false
set_option linter.unusedVariables false
set_option maxHeartbeats 64000000
namespace Go.Proofs.YtpeddoaknfjbbaaGreatDoor
section
open Go.RowKit
attribute [local go_sem ↓] Go.wp_at_zero Go.wp_at_succ
def iv8 (ws : List Int) : List Value := ws.map fun x => .int .i64 x
theorem iv8_cell {w : World} {g : Nat} {ws : List Int} (hb : Box w g 2 (iv8 ws).toArray) {k : Nat} (h : k < ws.length) : w.cell? ⟨g, k, none⟩ = some (.int .i64 ws[k]) := hb.cell _ _ (by simp [iv8, h])
set_option maxRecDepth 100000 in
theorem p_ints {w : World} {A : Option Addr} {g n c L : Nat} {ws : List Int} (h : IPol w A n c ws L) (hL : L <= 1000) (hb : Box w g 2 (iv8 ws).toArray) (hn : n <= 100) (hx : ∀ x ∈ ws, -9223372036854775808 <= x /\ x < 9223372036854775808) : Calls Tryz.prog 46 #[.slice A n c, .slice (some ⟨g, 0, none⟩) n n] w fun e w' => e = .returned (.bool true) /\ Ext w w' := by
 have HX := Lib.hid hx;have HL := Lib.hid h.len;have hm : ∀ a : Int, (a - a).sign = 0 := fun a => by rw [Int.sub_self]; rfl
 clear hx
 go_enter Tryz.func46, Tryz.ntmps46
 go_wp2_with fail
 go_loopw [14] (fun i wr => ∃ k : Nat, k <= n /\ i = .int .i64 (k : Int) /\ Ext w wr) (fun i _ => n - (intOf i).toNat)
 case atStart => exact ⟨0, Nat.zero_le _, rfl, Ext.refl w⟩
 case round =>
  obtain ⟨k, hk, rfl, extr⟩ := hrel
  by_cases hlt : k < n
  ·have hkI : (k : Int) < (n : Int) := by omega
   have hkl : k < ws.length := by rw [HL.out]; exact hlt
   obtain ⟨b, off, hA, hr⟩ := (h.ext extr).at_ (fun e => by rw [e] at hkl; exact absurd hkl (Nat.not_lt_zero _));subst hA;obtain ⟨s9, A9, n9, c9, z0', z1', hz⟩ := hr.at_ k hkl;have z0 : wr.cell? ⟨b, off + k * 2, none⟩ = some (.bool s9) := by rw [Nat.mul_comm]; exact z0'
   have z1 : wr.cell? ⟨b, off + k * 2 + 1, none⟩ = some (.slice A9 n9 c9) := by rw [Nat.mul_comm]; exact z1'
   clear z0' z1';have e0 := iv8_cell (hb.ext extr) hkl;have HB := Lib.hid (HX.out _ (List.getElem_mem hkl))
   have HCM : ∀ (W : World) s1 A1 n1 c1, NI W ws[k] 2 s1 A1 n1 c1 -> NI W ws[k] L s9 A9 n9 c9 -> Calls Tryz.prog 74 #[.agg #[.bool s9, .slice A9 n9 c9], .agg #[.bool s1, .slice A1 n1 c1]] W fun e w' => e = .returned (.int .i64 0) /\ Ext W w' := by
    intro W s1 A1 n1 c1 h1 h2;have := q_Cmp h2 h1 (by omega) (by omega);rw [hm] at this;exact this
   go_upto_region 6 with (fail)
   have ES0 := Ext.refl wr;refine wp_region_held_drew (S := Ext wr) (by kernel_rfl) ES0.drew (fun ES => ?_);clear ES0;refine Late.s0 ES (fun hAl hQ => ?_);refine Late.tk (i := 0) (d := some 19) (v := ?v_0) rfl rfl hQ (Or.inl ⟨by rfl, ?y_0⟩) ?_
   case y_0 => intro w' hSw;have l0 := hSw.cellv z0;have l1 := hSw.cellv z1;have l2 := hkI;go_simp;try with_reducible rfl
   try simp only [zP]
   refine Late.tk (i := 1) (d := some 20) (v := ?v_1) rfl rfl hQ (Or.inl ⟨by rfl, ?y_1⟩) ?_
   case y_1 => intro w' hSw;have l0 := hSw.cellv z0;have l1 := hSw.cellv z1;have l2 := hkI;go_simp;try with_reducible rfl
   try simp only [zP]
   refine Late.tk (i := 2) (d := some 21) (v := ?v_2) rfl rfl hQ (Or.inl ⟨by rfl, ?y_2⟩) ?_
   case y_2 => intro w' hSw;have l0 := hSw.cellv z0;have l1 := hSw.cellv z1;have l2 := hkI;go_simp;try with_reducible rfl
   try simp only [zP]
   refine Late.tk (i := 3) (d := some 22) (v := ?v_3) rfl rfl hQ (Or.inl ⟨by rfl, ?y_3⟩) ?_
   case y_3 => intro w' hSw;have l0 := hSw.cellv z0;have l1 := hSw.cellv z1;have l2 := hkI;go_simp;try with_reducible rfl
   try simp only [zP]
   refine Late.tk (i := 4) (d := some 23) (v := ?v_4) rfl rfl hQ (Or.inl ⟨by rfl, ?y_4⟩) ?_
   case y_4 => intro w' hSw;have l0 := hSw.cellv z0;have l1 := hSw.cellv z1;have l2 := hkI;go_simp;try with_reducible rfl
   try simp only [zP]
   refine Late.cl (i := 5) rfl hAl hQ (fun w5 e5 E5 K hK => ?_);go_simp
   (go_at_call 81; refine (q_FromInt ws[k] HB.out.1 HB.out.2).mono ?_; rintro e wa ⟨s1, A1, n1, c1, rfl, h1, hx0⟩)
   refine hK.out _ _ hx0 ?_;clear hK K
   try simp only [zP]
   refine Late.cl (i := 6) rfl hAl hQ (fun w6 e6 E6 K hK => ?_);go_simp
   (go_at_call 74; refine (HCM _ _ _ _ _ (h1.ext e6) (hz.ext E6)).mono ?_; rintro e wb ⟨rfl, hx1⟩)
   refine hK.out _ _ hx1 ?_;clear hK K
   try simp only [zP]
   refine Late.tk (i := 7) (d := some 26) (v := ?v_5) rfl rfl hQ (Or.inl ⟨by rfl, ?y_5⟩) ?_
   case y_5 => intro w' hSw;go_simp;try with_reducible rfl
   try simp only [zP]
   refine Late.d0 (fun wz ez Ez => ?_);clear hAl hQ ES;have hxz := extr.trans Ez
   go_wp2_with fail
   go_roundw
   case rel => exact ⟨k + 1, by omega, by go_num, hxz⟩
   case measure => simp [intOf]; omega
  ·have hkn : k = n := by omega
   subst hkn;have hkI : (k : Int) <= (k : Int) := Int.le_refl _
   go_wp2_with fail
   go_ret
   exact ⟨rfl, extr⟩
section
variable {w w' : World} {q x : Rat} {L M : Nat} {s t : Bool} {A B : Option Addr} {n c m d : Nat} {sx tx : Bool} {Ax Bx : Option Addr} {nx cx mx dx : Nat} {qs ps : List Rat}
theorem sub_nil {qs ps : List Rat} (hl : qs.length = ps.length) : trimP (sumP qs (negP ps)) = [] ↔ qs = ps := by
 constructor
 ·intro h
  refine List.ext_getElem hl (fun i h1 h2 => ?_);have e : atP (sumP qs (negP ps)) i = 0 := by rw [<- atP_trimP, h]; rfl
  rw [atP_sumP, atP_lt h1, atP_lt (l := negP ps) (by unfold negP; rw [List.length_map]; exact h2)] at e;simp only [negP, List.getElem_map] at e;have e2 : qs[i] + -ps[i] + ps[i] = ps[i] := by rw [e, Rat.zero_add]
  rwa [Rat.add_assoc, Rat.neg_add_cancel, Rat.add_zero] at e2
 ·intro h
  rw [<- h, sumP_negP, trimP_zeros]
theorem q_ValidN (h : NR w q L s A n c t B m d) (hL : L <= 3000) : Calls Tryz.prog 30 #[.agg #[.bool s, .slice A n c, .bool t, .slice B m d]] w fun e w' => e = .returned (.bool true) /\ Ext w w' := by
 obtain ⟨xs, ys, r1, r2, hv, hn, hm, _⟩ := h.raw;refine (q_ValidRaw r1 r2 (by omega) (by omega)).mono ?_;rintro e V ⟨rfl, hx⟩;exact ⟨by rw [hv], hx⟩
theorem q_EqualP (h : Pol w A n c qs L) (h' : Pol w B m d ps M) (hL2 : 2 <= L) (hL : L <= 350) (hM : M <= 350) (hn : n <= 1000) (hm : m <= 1000) : Calls Tryz.prog 45 #[.slice A n c, .slice B m d] w fun e w' => e = .returned (.bool (decide (qs = ps))) /\ Ext w w' := by
 by_cases hlt : n = m
 ·have hd : decide (trimP (sumP qs (negP ps)) = []) = decide (qs = ps) := decide_eq_decide.2 (sub_nil (by rw [h.len, h'.len]; exact hlt))
  subst hlt;obtain ⟨b, hb⟩ : ∃ b, decide (qs = ps) = b := ⟨_, rfl⟩;rw [hb] at hd;rw [hb];have HD := Lib.hid hd;clear hd hb
  go_enter Tryz.func45, Tryz.ntmps45
  go_wp2_with fail
  refine (q_SameP h h' hL2 hL hM hn hm).mono ?_;rintro e V ⟨rfl, hxt⟩;rw [HD.out]
  go_wp2_with fail
  go_ret
  exact ⟨rfl, hxt⟩
 ·have hd : decide (qs = ps) = false := decide_eq_false (fun e => hlt (by rw [<- h.len, <- h'.len, e]))
  rw [hd];clear hd;have hb : ((n : Int) == (m : Int)) = false := beq_eq_false_iff_ne.2 (by omega)
  go_enter Tryz.func45, Tryz.ntmps45
  go_wp2_with fail
  go_ret
  exact ⟨rfl, Ext.refl _⟩
theorem good_P (h : Pol w A n c qs L) (h' : Pol w B m d ps M) (hL2 : 2 <= L) (hL : L <= 350) (hM : M <= 350) (hn : n <= 1000) (hm : m <= 1000) : Calls Tryz.prog 12 #[.slice A n c, .slice B m d] w fun e w' => e = .returned (.bool (decide (qs = ps))) /\ Ext w w' := by
 obtain ⟨b, hb⟩ : ∃ b, decide (qs = ps) = b := ⟨_, rfl⟩;have HB := Lib.hid hb;rw [hb];clear hb;have Hlen := Lib.hid h.len
 go_enter Tryz.func12, Tryz.ntmps12
 go_wp2_with fail
 go_loopw [9] (fun i wr => ∃ k : Nat, k <= n /\ i = .int .i64 (k : Int) /\ Ext w wr) (fun i _ => n - (intOf i).toNat)
 case atStart => exact ⟨0, by omega, rfl, Ext.refl _⟩
 case round =>
  obtain ⟨k, hk, rfl, ext⟩ := hrel
  by_cases hlt : k < n
  ·have hj : k < qs.length := by rw [Hlen.out]; exact hlt
   have hI : (k : Int) < (n : Int) := by omega
   obtain ⟨p, off, rfl, hr⟩ := h.at_ (fun e => by rw [e] at hj; exact absurd hj (Nat.not_lt_zero _));obtain ⟨sx, Ax, nx, cx, tx, Bx, mx, dx, e0, e1, e2, e3, hx⟩ := (hr.ext ext).at_ k hj;have e0' : wr.cell? ⟨p, off + k * 4, none⟩ = some (.bool sx) := by rw [Nat.mul_comm]; exact e0
   have e1' : wr.cell? ⟨p, off + k * 4 + 1, none⟩ = some (.slice Ax nx cx) := by rw [Nat.mul_comm]; exact e1
   have e2' : wr.cell? ⟨p, off + k * 4 + 2, none⟩ = some (.bool tx) := by rw [Nat.mul_comm]; exact e2
   have e3' : wr.cell? ⟨p, off + k * 4 + 3, none⟩ = some (.slice Bx mx dx) := by rw [Nat.mul_comm]; exact e3
   clear e0 e1 e2 e3
   go_wp2_with fail
   refine (q_ValidN (hx.ext ((Ext.refl wr).alloc _)) (by omega)).mono ?_;rintro e V ⟨rfl, hxv⟩
   go_wp2_with fail
   go_roundw
   case rel => exact ⟨k + 1, by omega, by go_num, (ext.alloc _).trans hxv⟩
   case measure => simp [intOf]; omega
  ·have hI : (n : Int) <= (k : Int) := by omega
   go_wp2_with fail
   refine (q_EqualP (h.ext ext) (h'.ext ext) hL2 hL hM hn hm).mono ?_;rintro e V ⟨rfl, hxv⟩;rw [HB.out]
   go_wp2_with fail
   go_ret
   exact ⟨rfl, ext.trans hxv⟩
end
def ex0 : List Rat := [(-1), (0), (1)]
theorem ex0_fr : fracs [(-1, 1), (0, 1), (1, 1)] = ex0 := by decide +kernel
theorem rats0 {w : World} {g : Nat} (hb : Box w g 53 #[.int .i64 (-1), .int .i64 (1), .int .i64 (0), .int .i64 (1), .int .i64 (1), .int .i64 (1)]) : Calls Tryz.prog 43 #[.slice (some ⟨g, 0, none⟩) 3 3] w (RetPol ex0 2 w) := by
 have := p_rats (n := 3) (ps := [(-1, 1), (0, 1), (1, 1)]) hb rfl (by omega) (by decide)
 rwa [ex0_fr] at this
def ex1 : List Rat := [(2), (2)]
theorem ex1_fr : fracs [(2, 1), (2, 1)] = ex1 := by decide +kernel
theorem rats1 {w : World} {g : Nat} (hb : Box w g 53 #[.int .i64 (2), .int .i64 (1), .int .i64 (2), .int .i64 (1)]) : Calls Tryz.prog 43 #[.slice (some ⟨g, 0, none⟩) 2 2] w (RetPol ex1 2 w) := by
 have := p_rats (n := 2) (ps := [(2, 1), (2, 1)]) hb rfl (by omega) (by decide)
 rwa [ex1_fr] at this
def ex2 : List Rat := [(0), (2), (-4), (2)]
theorem ex2_fr : fracs [(0, 1), (2, 1), (-4, 1), (2, 1)] = ex2 := by decide +kernel
theorem rats2 {w : World} {g : Nat} (hb : Box w g 53 #[.int .i64 (0), .int .i64 (1), .int .i64 (2), .int .i64 (1), .int .i64 (-4), .int .i64 (1), .int .i64 (2), .int .i64 (1)]) : Calls Tryz.prog 43 #[.slice (some ⟨g, 0, none⟩) 4 4] w (RetPol ex2 2 w) := by
 have := p_rats (n := 4) (ps := [(0, 1), (2, 1), (-4, 1), (2, 1)]) hb rfl (by omega) (by decide)
 rwa [ex2_fr] at this
def ex3 : List Rat := [(-1 / 3), (1 / 2)]
theorem ex3_fr : fracs [(-1, 3), (1, 2)] = ex3 := by decide +kernel
theorem rats3 {w : World} {g : Nat} (hb : Box w g 53 #[.int .i64 (-1), .int .i64 (3), .int .i64 (1), .int .i64 (2)]) : Calls Tryz.prog 43 #[.slice (some ⟨g, 0, none⟩) 2 2] w (RetPol ex3 2 w) := by
 have := p_rats (n := 2) (ps := [(-1, 3), (1, 2)]) hb rfl (by omega) (by decide)
 rwa [ex3_fr] at this
def ex4 : List Rat := [(0), (-1)]
theorem ex4_fr : fracs [(0, 1), (-1, 1)] = ex4 := by decide +kernel
theorem rats4 {w : World} {g : Nat} (hb : Box w g 53 #[.int .i64 (0), .int .i64 (1), .int .i64 (-1), .int .i64 (1)]) : Calls Tryz.prog 43 #[.slice (some ⟨g, 0, none⟩) 2 2] w (RetPol ex4 2 w) := by
 have := p_rats (n := 2) (ps := [(0, 1), (-1, 1)]) hb rfl (by omega) (by decide)
 rwa [ex4_fr] at this
def ex5 : List Rat := [(1), (-3), (2)]
theorem ex5_fr : fracs [(1, 1), (-3, 1), (2, 1)] = ex5 := by decide +kernel
theorem rats5 {w : World} {g : Nat} (hb : Box w g 53 #[.int .i64 (1), .int .i64 (1), .int .i64 (-3), .int .i64 (1), .int .i64 (2), .int .i64 (1)]) : Calls Tryz.prog 43 #[.slice (some ⟨g, 0, none⟩) 3 3] w (RetPol ex5 2 w) := by
 have := p_rats (n := 3) (ps := [(1, 1), (-3, 1), (2, 1)]) hb rfl (by omega) (by decide)
 rwa [ex5_fr] at this
def ex6 : List Rat := [(0), (0), (1)]
theorem ex6_fr : fracs [(0, 1), (0, 1), (1, 1)] = ex6 := by decide +kernel
theorem rats6 {w : World} {g : Nat} (hb : Box w g 53 #[.int .i64 (0), .int .i64 (1), .int .i64 (0), .int .i64 (1), .int .i64 (1), .int .i64 (1)]) : Calls Tryz.prog 43 #[.slice (some ⟨g, 0, none⟩) 3 3] w (RetPol ex6 2 w) := by
 have := p_rats (n := 3) (ps := [(0, 1), (0, 1), (1, 1)]) hb rfl (by omega) (by decide)
 rwa [ex6_fr] at this
def ex7 : List Rat := [(1), (1)]
theorem ex7_fr : fracs [(1, 1), (1, 1)] = ex7 := by decide +kernel
theorem rats7 {w : World} {g : Nat} (hb : Box w g 53 #[.int .i64 (1), .int .i64 (1), .int .i64 (1), .int .i64 (1)]) : Calls Tryz.prog 43 #[.slice (some ⟨g, 0, none⟩) 2 2] w (RetPol ex7 2 w) := by
 have := p_rats (n := 2) (ps := [(1, 1), (1, 1)]) hb rfl (by omega) (by decide)
 rwa [ex7_fr] at this
def ex8 : List Rat := [(-1 / 2), (1 / 2)]
theorem ex8_fr : fracs [(-1, 2), (1, 2)] = ex8 := by decide +kernel
theorem rats8 {w : World} {g : Nat} (hb : Box w g 53 #[.int .i64 (-1), .int .i64 (2), .int .i64 (1), .int .i64 (2)]) : Calls Tryz.prog 43 #[.slice (some ⟨g, 0, none⟩) 2 2] w (RetPol ex8 2 w) := by
 have := p_rats (n := 2) (ps := [(-1, 2), (1, 2)]) hb rfl (by omega) (by decide)
 rwa [ex8_fr] at this
def ex9 : List Rat := [(0), (-1), (1)]
theorem ex9_fr : fracs [(0, 1), (-1, 1), (1, 1)] = ex9 := by decide +kernel
theorem rats9 {w : World} {g : Nat} (hb : Box w g 53 #[.int .i64 (0), .int .i64 (1), .int .i64 (-1), .int .i64 (1), .int .i64 (1), .int .i64 (1)]) : Calls Tryz.prog 43 #[.slice (some ⟨g, 0, none⟩) 3 3] w (RetPol ex9 2 w) := by
 have := p_rats (n := 3) (ps := [(0, 1), (-1, 1), (1, 1)]) hb rfl (by omega) (by decide)
 rwa [ex9_fr] at this
def ex10 : List Rat := [(1), (2), (1)]
theorem ex10_fr : fracs [(1, 1), (2, 1), (1, 1)] = ex10 := by decide +kernel
theorem rats10 {w : World} {g : Nat} (hb : Box w g 53 #[.int .i64 (1), .int .i64 (1), .int .i64 (2), .int .i64 (1), .int .i64 (1), .int .i64 (1)]) : Calls Tryz.prog 43 #[.slice (some ⟨g, 0, none⟩) 3 3] w (RetPol ex10 2 w) := by
 have := p_rats (n := 3) (ps := [(1, 1), (2, 1), (1, 1)]) hb rfl (by omega) (by decide)
 rwa [ex10_fr] at this
theorem ex0_size : SizeP ex0 1 := ⟨by decide +kernel, by decide +kernel⟩
theorem ex1_size : SizeP ex1 1 := ⟨by decide +kernel, by decide +kernel⟩
theorem ex3_size : SizeP ex3 1 := ⟨by decide +kernel, by decide +kernel⟩
theorem ex4_size : SizeP ex4 1 := ⟨by decide +kernel, by decide +kernel⟩
theorem ex6_size : SizeP ex6 1 := ⟨by decide +kernel, by decide +kernel⟩
theorem ex7_size : SizeP ex7 1 := ⟨by decide +kernel, by decide +kernel⟩
theorem ex01_nums : trimI (numsP ex0) = [-1, 0, 1] /\ trimI (numsP ex1) = [2, 2] := by decide +kernel
theorem ex01_div : divC [-1, 0, 1] [2] 2 2 1 1 = true := by decide +kernel
theorem ex01_q : trimP (scaleP (divS [-1, 0, 1] [2] 2 2 2).2.2 (mkQ ((denP ex1 : Nat) : Int) ((denP ex0 : Nat) : Int))) = ex8 := by decide +kernel
theorem ex01_r : (trimI ((divS [-1, 0, 1] [2] 2 2 2).1.take 1)).map (fun z => mkQ z ((divS [-1, 0, 1] [2] 2 2 2).2.1 * ((denP ex0 : Nat) : Int))) = [] := by decide +kernel
section
variable {w : World} {A B : Option Addr} {c d L M : Nat}
theorem dm_call (h : Pol w A 3 c ex0 2) (h' : Pol w B 2 d ex1 2) (hT : Tab w) : Calls Tryz.prog 33 #[.slice A 3 c, .slice B 2 d] w (RetDM2 ex8 [] 4 3 0 w) := by
 have HC := p_DivModP (X := 1) (Y := 1) (S := 1) (C := 1) (o := 1) (N := 2) (xs := [-1, 0, 1]) (ys := [2, 2]) (os := [2]) (lead := 2) h h' (by omega) (by omega) (by omega) (by omega) ex0_size ex1_size (by omega) (by omega) ex01_nums.1 ex01_nums.2 (by decide) rfl rfl rfl rfl (by decide) (divC_ok ex01_div) (by omega) (by omega) (by omega) hT;rw [ex01_q] at HC;rw [show ([-1, 0, 1] : List Int).length - 2 = 1 from rfl, ex01_r] at HC;exact HC
theorem pr_call1 (h : Pol w A 2 c ex3 2) (hT : Tab w) : Calls Tryz.prog 37 #[.slice A 2 c] w (RetIPol [-2, 3] 1 w) := by
 have HC := p_PrimitiveP h (by omega) (by omega) ex3_size (by omega) (by decide +kernel) hT
 rwa [show primI (trimI (numsP ex3)) = [-2, 3] by decide +kernel] at HC
theorem pr_call2 (h : Pol w A 2 c ex4 2) (hT : Tab w) : Calls Tryz.prog 37 #[.slice A 2 c] w (RetIPol [0, 1] 1 w) := by
 have HC := p_PrimitiveP h (by omega) (by omega) ex4_size (by omega) (by decide +kernel) hT
 rwa [show primI (trimI (numsP ex4)) = [0, 1] by decide +kernel] at HC
theorem bo_call (h : Pol w A 3 c ex5 2) (hT : Tab w) : Calls Tryz.prog 41 #[.slice A 3 c] w (RetNR (5 / 2) 7 w) := by
 have HC := p_BoundP h (by omega) (by omega) (by omega) hT
 rwa [show (if (trimP ex5).length < 2 then 0 else 1 + maxA ((trimP ex5).take ((trimP ex5).length - 1)) / absQ ((trimP ex5).getLastD 0)) = (5 / 2 : Rat) by decide +kernel] at HC
theorem ex67_hb : HornB (trimI (numsP ex6)) (trimI (numsP ex7)) ((denP ex7 : Nat) : Int) 1 1 := by
 have e1 : trimI (numsP ex6) = [0, 0, 1] := by decide +kernel
 have e2 : trimI (numsP ex7) = [1, 1] := by decide +kernel
 have e3 : ((denP ex7 : Nat) : Int) = 1 := by decide +kernel
 rw [e1, e2, e3];exact ⟨by decide +kernel, by decide +kernel, by decide +kernel, by decide +kernel⟩
theorem co_call (h : Pol w A 3 c ex6 2) (h' : Pol w B 2 d ex7 2) (hT : Tab w) : Calls Tryz.prog 27 #[.slice A 3 c, .slice B 2 d] w (RetPol ex10 4 w) := by
 have HC := p_ComposeP h h' (by omega) (by omega) (by omega) (by omega) ex6_size ex7_size (by omega) (by omega) ex67_hb (by omega) (by omega) hT
 rwa [show (hornS (trimI (numsP ex6)) (trimI (numsP ex7)) ((denP ex7 : Nat) : Int) (trimI (numsP ex6)).length).1.map (fun z => mkQ z (((denP ex6 : Nat) : Int) * (hornS (trimI (numsP ex6)) (trimI (numsP ex7)) ((denP ex7 : Nat) : Int) (trimI (numsP ex6)).length).2)) = ex10 by decide +kernel] at HC
end
section
variable {w : World} {A B : Option Addr} {n m c d L M : Nat} {qs ps : List Rat}
theorem eq_call (h : Pol w A n c qs L) (h' : Pol w B m d ps M) (he : qs = ps) (hL2 : 2 <= L) (hL : L <= 100) (hM : M <= 100) (hn : n <= 1000) (hm : m <= 1000) : Calls Tryz.prog 45 #[.slice A n c, .slice B m d] w fun e w' => e = .returned (.bool true) /\ Ext w w' := by
 have := q_EqualP h h' hL2 (by omega) (by omega) hn hm
 rwa [show decide (qs = ps) = true from decide_eq_true he] at this
theorem cm_call {s t s' t' : Bool} {A B A' B' : Option Addr} {n c m d n' c' m' d' : Nat} (h : NR w (5 / 2) 7 s A n c t B m d) (k : NR w (mkQ 5 2) 2 s' A' n' c' t' B' m' d') : Calls Tryz.prog 31 #[.agg #[.bool s, .slice A n c, .bool t, .slice B m d], .agg #[.bool s', .slice A' n' c', .bool t', .slice B' m' d']] w fun e w' => e = .returned (.int .i64 0) /\ Ext w w' := by
 have := q_CmpR h k (by omega) (by omega)
 rwa [show ratCmp (5 / 2) (mkQ 5 2) = 0 by decide +kernel] at this
theorem ints_call1 {g : Nat} (h : IPol w A 2 c [-2, 3] 1) (hb : Box w g 2 #[.int .i64 (-2), .int .i64 3]) : Calls Tryz.prog 46 #[.slice A 2 c, .slice (some ⟨g, 0, none⟩) 2 2] w fun e w' => e = .returned (.bool true) /\ Ext w w' := p_ints h (by omega) hb (by omega) (by decide)
theorem ints_call2 {g : Nat} (h : IPol w A 2 c [0, 1] 1) (hb : Box w g 2 #[.int .i64 0, .int .i64 1]) : Calls Tryz.prog 46 #[.slice A 2 c, .slice (some ⟨g, 0, none⟩) 2 2] w fun e w' => e = .returned (.bool true) /\ Ext w w' := p_ints h (by omega) hb (by omega) (by decide)
end
def Awake4 : Prop := ∀ w : World, Tab w -> Calls Tryz.prog 9 #[] w fun e w' => e = .returned (.bool true) /\ Ext w w'
def rawQ (s : Bool) (xs : List Nat) (t : Bool) (ys : List Nat) : Rat := mkRat (ival s xs) (ival t ys).toNat
theorem Rd.uniq {w : World} {A : Option Addr} {xs ys : List Nat} (h : Rd w A xs) (k : Rd w A ys) (hl : xs.length = ys.length) : xs = ys := by
 by_cases h0 : xs = []
 ·subst h0; exact (List.length_eq_zero_iff.1 hl.symm).symm
 have k0 : ys ≠ [] := fun e => h0 (List.length_eq_zero_iff.1 (by rw [hl, e]; rfl))
 obtain ⟨b, off, hA, _, hc⟩ := h.2 h0;obtain ⟨b', off', hA', _, hc'⟩ := k.2 k0;rw [hA] at hA'
 injection hA' with hA'
 injection hA' with q1 q2
 subst q1 q2;refine List.ext_getElem hl (fun i h1 h2 => ?_);have e := (hc i h1).symm.trans (hc' i h2)
 injection e with e
 injection e with e1 e2
 omega
theorem NR.of_raw' {w : World} {s : Bool} {A : Option Addr} {n c : Nat} {xs : List Nat} {t : Bool} {B : Option Addr} {m d : Nat} {ys : List Nat} {L : Nat} (h : RI w A n c xs) (k : RI w B m d ys) (hv : validQ s xs t ys = true) (hn : n <= L) (hm : m <= L) :
  NR w (rawQ s xs t ys) L s A n c t B m d := by
 obtain ⟨q, hq⟩ := NR.of_raw h k hv hn hm;obtain ⟨xs0, a1, a2, _, _, a3, _⟩ := hq.num.out;obtain ⟨ys0, b1, b2, _, _, b3, _⟩ := hq.den.out;have e1 : xs0 = xs := a2.uniq h.rd (by rw [a1, h.len]);have e2 : ys0 = ys := b2.uniq k.rd (by rw [b1, k.len]);subst e1 e2
 have e3 : rawQ s xs0 t ys0 = q := by
  unfold rawQ;rw [a3.eq, b3.eq, Int.toNat_natCast];exact Rat.mkRat_self q
 rw [e3];exact hq
structure RawR where
 s : Bool
 xs : List Nat
 t : Bool
 ys : List Nat
def shortB (s : Bool) (xs : List Nat) (t : Bool) (ys : List Nat) : Bool :=
 decide (xs.length <= 4) && (decide (ys.length <= 4) && (validQ s xs t ys && (decide (bitsN (trimL xs) <= 120) && decide (bitsN (trimL ys) <= 120))))
def RawR.short (r : RawR) : Bool := shortB r.s r.xs r.t r.ys
def RawR.q (r : RawR) : Rat := rawQ r.s r.xs r.t r.ys
def smallB (rs : List RawR) (k : Nat) : Bool := decide (rs.length <= k) && rs.all RawR.short
theorem shortB_le {s : Bool} {xs : List Nat} {t : Bool} {ys : List Nat} (h : shortB s xs t ys = true) : xs.length <= 4 /\ ys.length <= 4 /\ validQ s xs t ys = true := by
 unfold shortB at h;simp only [Bool.and_eq_true, decide_eq_true_eq] at h;exact ⟨h.1, h.2.1, h.2.2.1⟩
def RawAt (w : World) (b o : Nat) (r : RawR) : Prop :=
 ∃ A n c B m d, w.cell? ⟨b, o, none⟩ = some (.bool r.s) /\ w.cell? ⟨b, o + 1, none⟩ = some (.slice A n c) /\ w.cell? ⟨b, o + 2, none⟩ = some (.bool r.t) /\ w.cell? ⟨b, o + 3, none⟩ = some (.slice B m d) /\ RI w A n c r.xs /\ RI w B m d r.ys
structure RawP (w : World) (A : Option Addr) (n c : Nat) (rs : List RawR) : Prop where
 len : rs.length = n
 cap : n <= c
 top : c <= maxLen
 at_ : rs ≠ [] -> ∃ b off, A = some ⟨b, off, none⟩ /\ ∀ i (h : i < rs.length), RawAt w b (off + 4 * i) rs[i]
section
variable {w w' : World} {r : RawR} {rs : List RawR} {A B : Option Addr} {n c m d b o : Nat}
theorem RawAt.ext (h : RawAt w b o r) (e : Ext w w') : RawAt w' b o r := by
 obtain ⟨A, n, c, B, m, d, h0, h1, h2, h3, h4, h5⟩ := h;exact ⟨A, n, c, B, m, d, e.cellv h0, e.cellv h1, e.cellv h2, e.cellv h3, h4.ext e, h5.ext e⟩
theorem RawP.ext (h : RawP w A n c rs) (e : Ext w w') : RawP w' A n c rs :=
 ⟨h.len, h.cap, h.top, fun hq => by obtain ⟨b, off, h1, h2⟩ := h.at_ hq; exact ⟨b, off, h1, fun i hi => (h2 i hi).ext e⟩⟩
theorem RawP.pol (h : RawP w A n c rs) (hs : rs.all RawR.short = true) : Pol w A n c (rs.map RawR.q) 4 := by
 refine ⟨by rw [List.length_map]; exact h.len, h.cap, h.top, fun hq => ?_⟩;obtain ⟨b, off, h1, h2⟩ := h.at_ (fun e => hq (by rw [e]; rfl));refine ⟨b, off, h1, ⟨fun i hi => ?_⟩⟩;have hi' : i < rs.length := by rw [List.length_map] at hi; exact hi
 obtain ⟨A, n, c, B, m, d, h0, h1, h2, h3, h4, h5⟩ := h2 i hi';have hsi := List.all_eq_true.1 hs rs[i] (List.getElem_mem hi');obtain ⟨f1, f2, f3⟩ := shortB_le hsi;rw [List.getElem_map];exact ⟨_, A, n, c, _, B, m, d, h0, h1, h2, h3, NR.of_raw' h4 h5 f3 (by rw [<- h4.len]; exact f1) (by rw [<- h5.len]; exact f2)⟩
end
section
variable {w w' : World} {s t : Bool} {A B : Option Addr} {n c m d : Nat} {xs ys : List Nat}
theorem q_Short (h : RI w A n c xs) (k : RI w B m d ys) : Calls Tryz.prog 11 #[.agg #[.bool s, .slice A n c, .bool t, .slice B m d]] w fun e w' => e = .returned (.bool (shortB s xs t ys)) /\ Ext w w' := by
 have hb : shortB s xs t ys = (decide (n <= 4) && (decide (m <= 4) && (validQ s xs t ys && (decide (bitsN (trimL xs) <= 120) && decide (bitsN (trimL ys) <= 120))))) := by unfold shortB; rw [h.len, k.len]
 rw [hb];clear hb
 by_cases h1 : n <= 4
 ·have d1 : decide ((n : Int) <= (4 : Int)) = true := decide_eq_true (by omega)
  by_cases h2 : m <= 4
  ·have d2 : decide ((m : Int) <= (4 : Int)) = true := decide_eq_true (by omega)
   rw [decide_eq_true h1, decide_eq_true h2, Bool.true_and, Bool.true_and]
   cases hv : validQ s xs t ys with
   | false =>
    have HV := Lib.hid hv;clear hv;rw [Bool.false_and]
    go_enter Tryz.func11, Tryz.ntmps11
    go_upto_region 1 with (fail)
    obtain ⟨W, hW, extW, bx, hz⟩ := box1 w 27 #[.bool s, .slice A n c, .bool t, .slice B m d];rw [<- hW];clear hW hz;replace h := h.ext extW;replace k := k.ext extW;have x0 := bx.cell 0 (.bool s) rfl;have x1 := bx.cell 1 (.slice A n c) rfl;have x2 := bx.cell 2 (.bool t) rfl;have x3 := bx.cell 3 (.slice B m d) rfl
    go_wp2_with fail
    refine (q_ValidRaw h k (by omega) (by omega)).mono ?_;rintro e wd ⟨rfl, hxd⟩;rw [HV.out]
    go_wp2_with fail
    go_ret
    exact ⟨rfl, extW.trans hxd⟩
   | true =>
    have HV := Lib.hid hv;clear hv;rw [Bool.true_and];obtain ⟨u1, hu1⟩ : ∃ u, bitsN (trimL xs) = u := ⟨_, rfl⟩;obtain ⟨u2, hu2⟩ : ∃ u, bitsN (trimL ys) = u := ⟨_, rfl⟩;have HB1 := Lib.hid hu1;have HB2 := Lib.hid hu2;rw [hu1, hu2];clear hu1 hu2
    by_cases h3 : u1 <= 120
    ·have d3 : decide ((u1 : Int) <= (120 : Int)) = true := decide_eq_true (by omega)
     rw [decide_eq_true h3, Bool.true_and];obtain ⟨f, hf⟩ : ∃ f, decide (u2 <= 120) = f := ⟨_, rfl⟩;rw [hf];have d4 : decide ((u2 : Int) <= (120 : Int)) = f := by rw [<- hf]; exact decide_eq_decide.2 (by omega)
     clear hf
     go_enter Tryz.func11, Tryz.ntmps11
     go_upto_region 1 with (fail)
     obtain ⟨W, hW, extW, bx, hz⟩ := box1 w 27 #[.bool s, .slice A n c, .bool t, .slice B m d];rw [<- hW];clear hW hz;replace h := h.ext extW;replace k := k.ext extW;have x0 := bx.cell 0 (.bool s) rfl;have x1 := bx.cell 1 (.slice A n c) rfl;have x2 := bx.cell 2 (.bool t) rfl;have x3 := bx.cell 3 (.slice B m d) rfl
     go_wp2_with fail
     refine (q_ValidRaw h k (by omega) (by omega)).mono ?_;rintro e wd ⟨rfl, hxd⟩;rw [HV.out];replace bx := bx.ext hxd;replace h := h.ext hxd;replace k := k.ext hxd;replace extW := extW.trans hxd;clear hxd x0 x1 x2 x3;have x0 := bx.cell 0 (.bool s) rfl;have x1 := bx.cell 1 (.slice A n c) rfl;have x2 := bx.cell 2 (.bool t) rfl;have x3 := bx.cell 3 (.slice B m d) rfl
     go_wp2_with fail
     refine (ref_Bits h.len h.rd h.cap h.top (by omega)).mono ?_;rintro e we ⟨rfl, hxe⟩;rw [HB1.out];replace bx := bx.ext hxe;replace h := h.ext hxe;replace k := k.ext hxe;replace extW := extW.trans hxe;clear hxe x0 x1 x2 x3;have x0 := bx.cell 0 (.bool s) rfl;have x1 := bx.cell 1 (.slice A n c) rfl;have x2 := bx.cell 2 (.bool t) rfl;have x3 := bx.cell 3 (.slice B m d) rfl
     go_wp2_with fail
     refine (ref_Bits k.len k.rd k.cap k.top (by omega)).mono ?_;rintro e wf ⟨rfl, hxf⟩;rw [HB2.out]
     go_wp2_with fail
     go_ret
     exact ⟨rfl, extW.trans hxf⟩
    ·have d3 : decide ((u1 : Int) <= (120 : Int)) = false := decide_eq_false (by omega)
     rw [decide_eq_false h3, Bool.false_and]
     go_enter Tryz.func11, Tryz.ntmps11
     go_upto_region 1 with (fail)
     obtain ⟨W, hW, extW, bx, hz⟩ := box1 w 27 #[.bool s, .slice A n c, .bool t, .slice B m d];rw [<- hW];clear hW hz;replace h := h.ext extW;replace k := k.ext extW;have x0 := bx.cell 0 (.bool s) rfl;have x1 := bx.cell 1 (.slice A n c) rfl;have x2 := bx.cell 2 (.bool t) rfl;have x3 := bx.cell 3 (.slice B m d) rfl
     go_wp2_with fail
     refine (q_ValidRaw h k (by omega) (by omega)).mono ?_;rintro e wd ⟨rfl, hxd⟩;rw [HV.out];replace bx := bx.ext hxd;replace h := h.ext hxd;replace k := k.ext hxd;replace extW := extW.trans hxd;clear hxd x0 x1 x2 x3;have x0 := bx.cell 0 (.bool s) rfl;have x1 := bx.cell 1 (.slice A n c) rfl;have x2 := bx.cell 2 (.bool t) rfl;have x3 := bx.cell 3 (.slice B m d) rfl
     go_wp2_with fail
     refine (ref_Bits h.len h.rd h.cap h.top (by omega)).mono ?_;rintro e we ⟨rfl, hxe⟩;rw [HB1.out]
     go_wp2_with fail
     go_ret
     exact ⟨rfl, extW.trans hxe⟩
  ·have d2 : decide ((m : Int) <= (4 : Int)) = false := decide_eq_false (by omega)
   rw [decide_eq_true h1, decide_eq_false h2, Bool.true_and, Bool.false_and]
   go_enter Tryz.func11, Tryz.ntmps11
   go_upto_region 1 with (fail)
   obtain ⟨W, hW, extW, bx, hz⟩ := box1 w 27 #[.bool s, .slice A n c, .bool t, .slice B m d];rw [<- hW];clear hW hz;replace h := h.ext extW;replace k := k.ext extW;have x0 := bx.cell 0 (.bool s) rfl;have x1 := bx.cell 1 (.slice A n c) rfl;have x2 := bx.cell 2 (.bool t) rfl;have x3 := bx.cell 3 (.slice B m d) rfl
   go_wp2_with fail
   go_ret
   exact ⟨rfl, extW⟩
 ·have d1 : decide ((n : Int) <= (4 : Int)) = false := decide_eq_false (by omega)
  rw [decide_eq_false h1, Bool.false_and]
  go_enter Tryz.func11, Tryz.ntmps11
  go_upto_region 1 with (fail)
  obtain ⟨W, hW, extW, bx, hz⟩ := box1 w 27 #[.bool s, .slice A n c, .bool t, .slice B m d];rw [<- hW];clear hW hz;replace h := h.ext extW;replace k := k.ext extW;have x0 := bx.cell 0 (.bool s) rfl;have x1 := bx.cell 1 (.slice A n c) rfl;have x2 := bx.cell 2 (.bool t) rfl;have x3 := bx.cell 3 (.slice B m d) rfl
  go_wp2_with fail
  go_ret
  exact ⟨rfl, extW⟩
theorem q_Small {rs : List RawR} (h : RawP w A n c rs) (N : Nat) (hN : N <= 1000) : Calls Tryz.prog 26 #[.slice A n c, .int .i64 (N : Int)] w fun e w' => e = .returned (.bool (smallB rs N)) /\ Ext w w' := by
 have Hlen := Lib.hid h.len
 by_cases hb : n <= N
 ·have hg : (n : Int) <= (N : Int) := by omega
  go_enter Tryz.func26, Tryz.ntmps26
  go_wp2_with fail
  try rw [show decide (N < n) = false from decide_eq_false (by omega)]
  go_loopw [5] (fun i wr => ∃ k : Nat, k <= n /\ i = .int .i64 (k : Int) /\ Ext w wr /\ (rs.take k).all RawR.short = true) (fun i _ => n - (intOf i).toNat)
  case atStart => exact ⟨0, by omega, rfl, Ext.refl _, by simp⟩
  case round =>
   obtain ⟨k, hk, rfl, ext, hall⟩ := hrel;have HA := Lib.hid hall;clear hall
   by_cases hlt : k < n
   ·have hj : k < rs.length := by rw [Hlen.out]; exact hlt
    have hI : (k : Int) < (n : Int) := by omega
    obtain ⟨p, off, rfl, hr⟩ := h.at_ (fun e => by rw [e] at hj; exact absurd hj (Nat.not_lt_zero _));obtain ⟨Ax, nx, cx, Bx, mx, dx, e0, e1, e2, e3, hx, hy⟩ := (hr k hj).ext ext;have HT := Lib.hid (show (rs.take (k + 1)).all RawR.short = ((rs.take k).all RawR.short && RawR.short rs[k]) by rw [List.take_succ_eq_append_getElem hj, List.all_append]; simp)
    have HM := Lib.hid (fun hf : RawR.short rs[k] = false => show smallB rs N = false by
     unfold smallB;rw [Bool.and_eq_false_iff]
     right
     rw [List.all_eq_false];exact ⟨rs[k], List.getElem_mem hj, by rw [hf]; simp⟩)
    generalize rs[k] = r at e0 e1 e2 e3 hx hy HT HM;rw [Nat.mul_comm] at e0 e1 e2 e3
    cases hs : shortB r.s r.xs r.t r.ys with
    | false =>
     have HS := Lib.hid hs;clear hs
     go_wp2_with fail
     refine (q_Short hx hy).mono ?_;rintro e V ⟨rfl, hxv⟩;rw [HS.out]
     go_wp2_with fail
     go_ret
     exact ⟨by rw [HM.out HS.out]; rfl, ext.trans hxv⟩
    | true =>
     have HS := Lib.hid hs;clear hs
     go_wp2_with fail
     refine (q_Short hx hy).mono ?_;rintro e V ⟨rfl, hxv⟩;rw [HS.out]
     go_wp2_with fail
     go_roundw
     case rel => exact ⟨k + 1, by omega, by go_num, ext.trans hxv, by rw [HT.out, HA.out]; exact HS.out⟩
     case measure => simp [intOf]; omega
   ·have hI : (n : Int) <= (k : Int) := by omega
    go_wp2_with fail
    go_ret
    refine ⟨?_, ext⟩;have ha := HA.out;rw [List.take_of_length_le (by rw [Hlen.out]; omega)] at ha;have : smallB rs N = true := by unfold smallB; rw [ha, Hlen.out, decide_eq_true hb]; rfl
    rw [this]; rfl
 ·have hg : (N : Int) < (n : Int) := by omega
  have hs : smallB rs N = false := by unfold smallB; rw [Hlen.out, decide_eq_false hb]; rfl
  rw [hs];clear hs
  go_enter Tryz.func26, Tryz.ntmps26
  go_wp2_with fail
  go_ret
  exact ⟨rfl, Ext.refl _⟩
end
section
variable {w w' : World} {q x : Rat} {L M : Nat} {s t : Bool} {A B : Option Addr} {n c m d : Nat} {sx tx : Bool} {Ax Bx : Option Addr} {nx cx mx dx : Nat} {qs ps : List Rat}
set_option maxRecDepth 100000 in
theorem p_Add_ge (h : Pol w A n c qs L) (h' : Pol w B m d ps M) (hL : L <= 63) (hM : M <= 63) (hn : n <= 1000) (_hm : m <= 1000) (hle : m <= n) (hT : Tab w) : Calls Tryz.prog 18 #[.slice A n c, .slice B m d] w (RetPol (trimP (sumP qs ps)) (L + M + 1) w) := by
 have hmk := mk_rats n (by omega);have HlP := Lib.hid h.len;have HlQ := Lib.hid h'.len;have HSl := Lib.hid (show (sumP qs ps).length = n by rw [sumP_len, h.len, h'.len]; omega);obtain ⟨w1, hcp, hH, hext⟩ := run_copy_rats (M := (L + M + 1)) 3 ((Ext.refl w).alloc (.cells (zeroC n).toArray 27)) (Nat.le_refl _) (Box.new w _ _) h
 go_enter Tryz.func18, Tryz.ntmps18
 go_wp2_with fail
 clear hcp
 try rw [show decide (n < m) = false from decide_eq_false (by omega)]
 go_loopw [23] (fun i wr => ∃ k : Nat, k <= n /\ i = .int .i64 (k : Int) /\ Ext w wr /\ Half wr w.heap.size ((sumP qs ps).take k) (qs.drop k) (L + M + 1) L) (fun i _ => n - (intOf i).toNat)
 case atStart => exact ⟨0, Nat.zero_le _, rfl, hext, hH⟩
 case round =>
  clear hH hext;obtain ⟨k, hk, rfl, ext, hH⟩ := hrel
  by_cases hlt : k < n
  ·have hj : k < qs.length := by rw [HlP.out]; exact hlt
   have hs : k < (sumP qs ps).length := by rw [HSl.out]; exact hlt
   have HT := Lib.hid (show (sumP qs ps).take (k + 1) = (sumP qs ps).take k ++ [(sumP qs ps)[k]] from List.take_succ_eq_append_getElem hs);have HV := Lib.hid (show (sumP qs ps)[k] = qs[k] + atP ps k by rw [sumP_at, atP_lt hj]);rw [List.drop_eq_getElem_cons hj] at hH;have hkl : ((sumP qs ps).take k).length = k := by rw [List.length_take, HSl.out]; omega
   have hI1 : (k : Int) < (n : Int) := by omega
   obtain ⟨sx, Ax, nx, cx, tx, Bx, mx, dx, e0, e1, e2, e3, hx⟩ := hH.get hkl
   go_upto_region 8 with (fail)
   obtain ⟨W3, hW3, ext3, b9, hz3⟩ := box1 wr 27 #[.bool sx, .slice Ax nx cx, .bool tx, .slice Bx mx dx];rw [<- hW3];clear hW3 hz3 e0 e1 e2 e3;replace hx := hx.ext ext3;replace hH := hH.ext ext3;replace ext := ext.trans ext3;clear ext3
   by_cases hlq : k < m
   ·have hjq : k < ps.length := by rw [HlQ.out]; exact hlq
    obtain ⟨b, off, rfl, hr⟩ := h'.at_ (fun e => by rw [e] at hjq; exact absurd hjq (Nat.not_lt_zero _));obtain ⟨sy, Ay, ny, cy, ty, By, my, dy, e0, e1, e2, e3, hy⟩ := (hr.ext ext).at_ k hjq;have e0' : W3.cell? ⟨b, off + k * 4, none⟩ = some (.bool sy) := by rw [Nat.mul_comm]; exact e0
    have e1' : W3.cell? ⟨b, off + k * 4 + 1, none⟩ = some (.slice Ay ny cy) := by rw [Nat.mul_comm]; exact e1
    have e2' : W3.cell? ⟨b, off + k * 4 + 2, none⟩ = some (.bool ty) := by rw [Nat.mul_comm]; exact e2
    have e3' : W3.cell? ⟨b, off + k * 4 + 3, none⟩ = some (.slice By my dy) := by rw [Nat.mul_comm]; exact e3
    clear e0 e1 e2 e3
    go_upto_region 9 with (fail)
    refine wpL.st 9 (fun hQ ES => ?_);refine wpL.tkB [8, 9] (i := 0) (d := some 32) (v := ?v_0) rfl rfl hQ (Or.inl ⟨by rfl, ?y_0⟩) ES ?_
    case y_0 => intro w' hSw;have j0 := (hSw.cellv e0');have j1 := (hSw.cellv e1');have j2 := (hSw.cellv e2');have j3 := (hSw.cellv e3');go_simp;try with_reducible rfl
    try simp only [zP]
    refine wpL.tkB [8, 9] (i := 1) (d := some 33) (v := ?v_1) rfl rfl hQ (Or.inl ⟨by rfl, ?y_1⟩) ES ?_
    case y_1 => intro w' hSw;have j0 := (hSw.cellv e0');have j1 := (hSw.cellv e1');have j2 := (hSw.cellv e2');have j3 := (hSw.cellv e3');go_simp;try with_reducible rfl
    try simp only [zP]
    refine wpL.tkB [7, 9] (i := 2) (d := some 34) (v := ?v_2) rfl rfl hQ (Or.inl ⟨by rfl, ?y_2⟩) ES ?_
    case y_2 => intro w' hSw;have k0 := (b9.ext hSw).c4;have j0 := (hSw.cellv e0');have j1 := (hSw.cellv e1');have j2 := (hSw.cellv e2');have j3 := (hSw.cellv e3');go_simp;try with_reducible rfl
    try simp only [zP]
    refine wpL.tkB [5, 6, 7, 9] (i := 3) (d := some 35) (v := ?v_3) rfl rfl hQ (Or.inl ⟨by rfl, ?y_3⟩) ES ?_
    case y_3 => intro w' hSw;have j0 := (hSw.cellv e0');have j1 := (hSw.cellv e1');have j2 := (hSw.cellv e2');have j3 := (hSw.cellv e3');go_simp;try with_reducible rfl
    try simp only [zP]
    refine wpL.tkB [5, 6, 7, 9] (i := 4) (d := some 36) (v := ?v_4) rfl rfl hQ (Or.inl ⟨by rfl, ?y_4⟩) ES ?_
    case y_4 => intro w' hSw;have j0 := (hSw.cellv e0');have j1 := (hSw.cellv e1');have j2 := (hSw.cellv e2');have j3 := (hSw.cellv e3');go_simp;try with_reducible rfl
    try simp only [zP]
    refine wpL.tkB [6, 7, 9] (i := 5) (d := some 37) (v := ?v_5) rfl rfl hQ (Or.inl ⟨by rfl, ?y_5⟩) ES ?_
    case y_5 => intro w' hSw;have j0 := (hSw.cellv e0');have j1 := (hSw.cellv e1');have j2 := (hSw.cellv e2');have j3 := (hSw.cellv e3');go_simp;try with_reducible rfl
    try simp only [zP]
    refine wpL.tkB [7, 9] (i := 6) (d := some 38) (v := ?v_6) rfl rfl hQ (Or.inl ⟨by rfl, ?y_6⟩) ES ?_
    case y_6 => intro w' hSw;have k0 := (b9.ext hSw).c4;have j0 := (hSw.cellv e0');have j1 := (hSw.cellv e1');have j2 := (hSw.cellv e2');have j3 := (hSw.cellv e3');go_simp;try with_reducible rfl
    try simp only [zP]
    refine wpL.cl (i := 7) rfl (fun K hK => ?_);go_simp
    (go_at_call 53; refine (p_AddR (hx.ext ES) (hy.ext ES) (by omega) (by omega) (by omega) (hT.ext (ext.trans ES))).mono ?_; rintro e wk ⟨s7, A7, n7, c7, t7, B7, m7, d7, rfl, h7, hx7⟩; have E9 := Ext.trans ES hx7)
    refine hK.out _ _ E9 ?_;clear hK K
    try simp only [zP]
    refine wpL.tkB [9] (i := 8) (d := some 40) (v := ?v_7) rfl rfl hQ (Or.inl ⟨by rfl, ?y_7⟩) E9 ?_
    case y_7 => intro w' hSw;have k0 := hI1;go_simp;try with_reducible rfl
    try simp only [zP]
    have hHk := hH.ext E9;obtain ⟨sz, Az, nz, cz, tz, Bz, mz, dz, p0, p1, p2, p3, _⟩ := hHk.get hkl;have f0 := hHk.frozen (k * 4);have f1 := hHk.frozen (k * 4 + 1);have f2 := hHk.frozen (k * 4 + 2);have f3 := hHk.frozen (k * 4 + 3);refine wpL.tl (i := 9) rfl (fun K hK => ?_);go_simp;refine hK.out _ _ ?_;clear hK K
    try simp only [zP]
    refine wpL.done (by kernel_rfl) ?_ _;clear hQ
    go_wp2_with fail
    have extk := ext.trans E9;have hv : qs[k] + ps[k] = (sumP qs ps)[k] := by rw [HV.out, atP_lt hjq]
    rw [hv] at h7;have PP := hHk.put hkl (⟨h7.num.le (by omega), h7.den.le (by omega)⟩)
    go_roundw
    case rel => exact ⟨k + 1, by omega, by go_num, PP.2.2 _ extk (Nat.le_refl _), by rw [HT.out]; exact PP.1⟩
    case measure => simp [intOf]; omega
   ·have hge : ps.length <= k := by rw [HlQ.out]; omega
    have x0 := b9.cell 0 (.bool sx) rfl;have x1 := b9.cell 1 (.slice Ax nx cx) rfl;have x2 := b9.cell 2 (.bool tx) rfl;have x3 := b9.cell 3 (.slice Bx mx dx) rfl
    go_wp2_with fail
    refine (p_cloneR hx (by omega)).mono ?_;rintro e V ⟨s7, A7, n7, c7, t7, B7, m7, d7, rfl, h7, hxt⟩;clear x0 x1 x2 x3;have hHk := hH.ext hxt;have extk := ext.trans hxt;obtain ⟨sz, Az, nz, cz, tz, Bz, mz, dz, p0, p1, p2, p3, _⟩ := hHk.get hkl;have f0 := hHk.frozen (k * 4);have f1 := hHk.frozen (k * 4 + 1);have f2 := hHk.frozen (k * 4 + 2);have f3 := hHk.frozen (k * 4 + 3)
    go_wp2_with fail
    have hv : qs[k] = (sumP qs ps)[k] := by rw [HV.out, atP_ge hge, Rat.add_zero]
    rw [hv] at h7;have PP := hHk.put hkl (⟨h7.num.le (by omega), h7.den.le (by omega)⟩)
    go_roundw
    case rel => exact ⟨k + 1, by omega, by go_num, PP.2.2 _ extk (Nat.le_refl _), by rw [HT.out]; exact PP.1⟩
    case measure => simp [intOf]; omega
  ·have hkn : k = n := by omega
   rw [hkn, List.take_of_length_le (Nat.le_of_eq HSl.out), List.drop_of_length_le (Nat.le_of_eq HlP.out)] at hH;have hp : Pol wr (some ⟨w.heap.size, 0, none⟩) n n (sumP qs ps) (L + M + 1) := ⟨HSl.out, Nat.le_refl _, by unfold maxLen; omega, fun _ => ⟨_, 0, rfl, hH.rats⟩⟩
   go_wp2_with fail
   refine (p_cutR hp (by omega) (by omega)).mono ?_;rintro e V ⟨A8, n8, c8, rfl, h8, hxt⟩
   go_wp2_with fail
   go_ret
   exact ⟨A8, n8, c8, rfl, h8, ext.trans hxt⟩
set_option maxRecDepth 100000 in
theorem p_Add_lt (h : Pol w A n c qs L) (h' : Pol w B m d ps M) (hL : L <= 63) (hM : M <= 63) (_hn : n <= 1000) (hm : m <= 1000) (hle : n < m) (hT : Tab w) : Calls Tryz.prog 18 #[.slice A n c, .slice B m d] w (RetPol (trimP (sumP ps qs)) (L + M + 1) w) := by
 have hmk := mk_rats m (by omega);have HlP := Lib.hid h'.len;have HlQ := Lib.hid h.len;have HSl := Lib.hid (show (sumP ps qs).length = m by rw [sumP_len, h'.len, h.len]; omega);obtain ⟨w1, hcp, hH, hext⟩ := run_copy_rats (M := (L + M + 1)) 3 ((Ext.refl w).alloc (.cells (zeroC m).toArray 27)) (Nat.le_refl _) (Box.new w _ _) h'
 go_enter Tryz.func18, Tryz.ntmps18
 go_wp2_with fail
 clear hcp
 skip
 go_loopw [23] (fun i wr => ∃ k : Nat, k <= m /\ i = .int .i64 (k : Int) /\ Ext w wr /\ Half wr w.heap.size ((sumP ps qs).take k) (ps.drop k) (L + M + 1) M) (fun i _ => m - (intOf i).toNat)
 case atStart => exact ⟨0, Nat.zero_le _, rfl, hext, hH⟩
 case round =>
  clear hH hext;obtain ⟨k, hk, rfl, ext, hH⟩ := hrel
  by_cases hlt : k < m
  ·have hj : k < ps.length := by rw [HlP.out]; exact hlt
   have hs : k < (sumP ps qs).length := by rw [HSl.out]; exact hlt
   have HT := Lib.hid (show (sumP ps qs).take (k + 1) = (sumP ps qs).take k ++ [(sumP ps qs)[k]] from List.take_succ_eq_append_getElem hs);have HV := Lib.hid (show (sumP ps qs)[k] = ps[k] + atP qs k by rw [sumP_at, atP_lt hj]);rw [List.drop_eq_getElem_cons hj] at hH;have hkl : ((sumP ps qs).take k).length = k := by rw [List.length_take, HSl.out]; omega
   have hI1 : (k : Int) < (m : Int) := by omega
   obtain ⟨sx, Ax, nx, cx, tx, Bx, mx, dx, e0, e1, e2, e3, hx⟩ := hH.get hkl
   go_upto_region 8 with (fail)
   obtain ⟨W3, hW3, ext3, b9, hz3⟩ := box1 wr 27 #[.bool sx, .slice Ax nx cx, .bool tx, .slice Bx mx dx];rw [<- hW3];clear hW3 hz3 e0 e1 e2 e3;replace hx := hx.ext ext3;replace hH := hH.ext ext3;replace ext := ext.trans ext3;clear ext3
   by_cases hlq : k < n
   ·have hjq : k < qs.length := by rw [HlQ.out]; exact hlq
    obtain ⟨b, off, rfl, hr⟩ := h.at_ (fun e => by rw [e] at hjq; exact absurd hjq (Nat.not_lt_zero _));obtain ⟨sy, Ay, ny, cy, ty, By, my, dy, e0, e1, e2, e3, hy⟩ := (hr.ext ext).at_ k hjq;have e0' : W3.cell? ⟨b, off + k * 4, none⟩ = some (.bool sy) := by rw [Nat.mul_comm]; exact e0
    have e1' : W3.cell? ⟨b, off + k * 4 + 1, none⟩ = some (.slice Ay ny cy) := by rw [Nat.mul_comm]; exact e1
    have e2' : W3.cell? ⟨b, off + k * 4 + 2, none⟩ = some (.bool ty) := by rw [Nat.mul_comm]; exact e2
    have e3' : W3.cell? ⟨b, off + k * 4 + 3, none⟩ = some (.slice By my dy) := by rw [Nat.mul_comm]; exact e3
    clear e0 e1 e2 e3
    go_upto_region 9 with (fail)
    refine wpL.st 9 (fun hQ ES => ?_);refine wpL.tkB [8, 9] (i := 0) (d := some 32) (v := ?v_0) rfl rfl hQ (Or.inl ⟨by rfl, ?y_0⟩) ES ?_
    case y_0 => intro w' hSw;have j0 := (hSw.cellv e0');have j1 := (hSw.cellv e1');have j2 := (hSw.cellv e2');have j3 := (hSw.cellv e3');go_simp;try with_reducible rfl
    try simp only [zP]
    refine wpL.tkB [8, 9] (i := 1) (d := some 33) (v := ?v_1) rfl rfl hQ (Or.inl ⟨by rfl, ?y_1⟩) ES ?_
    case y_1 => intro w' hSw;have j0 := (hSw.cellv e0');have j1 := (hSw.cellv e1');have j2 := (hSw.cellv e2');have j3 := (hSw.cellv e3');go_simp;try with_reducible rfl
    try simp only [zP]
    refine wpL.tkB [7, 9] (i := 2) (d := some 34) (v := ?v_2) rfl rfl hQ (Or.inl ⟨by rfl, ?y_2⟩) ES ?_
    case y_2 => intro w' hSw;have k0 := (b9.ext hSw).c4;have j0 := (hSw.cellv e0');have j1 := (hSw.cellv e1');have j2 := (hSw.cellv e2');have j3 := (hSw.cellv e3');go_simp;try with_reducible rfl
    try simp only [zP]
    refine wpL.tkB [5, 6, 7, 9] (i := 3) (d := some 35) (v := ?v_3) rfl rfl hQ (Or.inl ⟨by rfl, ?y_3⟩) ES ?_
    case y_3 => intro w' hSw;have j0 := (hSw.cellv e0');have j1 := (hSw.cellv e1');have j2 := (hSw.cellv e2');have j3 := (hSw.cellv e3');go_simp;try with_reducible rfl
    try simp only [zP]
    refine wpL.tkB [5, 6, 7, 9] (i := 4) (d := some 36) (v := ?v_4) rfl rfl hQ (Or.inl ⟨by rfl, ?y_4⟩) ES ?_
    case y_4 => intro w' hSw;have j0 := (hSw.cellv e0');have j1 := (hSw.cellv e1');have j2 := (hSw.cellv e2');have j3 := (hSw.cellv e3');go_simp;try with_reducible rfl
    try simp only [zP]
    refine wpL.tkB [6, 7, 9] (i := 5) (d := some 37) (v := ?v_5) rfl rfl hQ (Or.inl ⟨by rfl, ?y_5⟩) ES ?_
    case y_5 => intro w' hSw;have j0 := (hSw.cellv e0');have j1 := (hSw.cellv e1');have j2 := (hSw.cellv e2');have j3 := (hSw.cellv e3');go_simp;try with_reducible rfl
    try simp only [zP]
    refine wpL.tkB [7, 9] (i := 6) (d := some 38) (v := ?v_6) rfl rfl hQ (Or.inl ⟨by rfl, ?y_6⟩) ES ?_
    case y_6 => intro w' hSw;have k0 := (b9.ext hSw).c4;have j0 := (hSw.cellv e0');have j1 := (hSw.cellv e1');have j2 := (hSw.cellv e2');have j3 := (hSw.cellv e3');go_simp;try with_reducible rfl
    try simp only [zP]
    refine wpL.cl (i := 7) rfl (fun K hK => ?_);go_simp
    (go_at_call 53; refine (p_AddR (hx.ext ES) (hy.ext ES) (by omega) (by omega) (by omega) (hT.ext (ext.trans ES))).mono ?_; rintro e wk ⟨s7, A7, n7, c7, t7, B7, m7, d7, rfl, h7, hx7⟩; have E9 := Ext.trans ES hx7)
    refine hK.out _ _ E9 ?_;clear hK K
    try simp only [zP]
    refine wpL.tkB [9] (i := 8) (d := some 40) (v := ?v_7) rfl rfl hQ (Or.inl ⟨by rfl, ?y_7⟩) E9 ?_
    case y_7 => intro w' hSw;have k0 := hI1;go_simp;try with_reducible rfl
    try simp only [zP]
    have hHk := hH.ext E9;obtain ⟨sz, Az, nz, cz, tz, Bz, mz, dz, p0, p1, p2, p3, _⟩ := hHk.get hkl;have f0 := hHk.frozen (k * 4);have f1 := hHk.frozen (k * 4 + 1);have f2 := hHk.frozen (k * 4 + 2);have f3 := hHk.frozen (k * 4 + 3);refine wpL.tl (i := 9) rfl (fun K hK => ?_);go_simp;refine hK.out _ _ ?_;clear hK K
    try simp only [zP]
    refine wpL.done (by kernel_rfl) ?_ _;clear hQ
    go_wp2_with fail
    have extk := ext.trans E9;have hv : ps[k] + qs[k] = (sumP ps qs)[k] := by rw [HV.out, atP_lt hjq]
    rw [hv] at h7;have PP := hHk.put hkl (⟨h7.num.le (by omega), h7.den.le (by omega)⟩)
    go_roundw
    case rel => exact ⟨k + 1, by omega, by go_num, PP.2.2 _ extk (Nat.le_refl _), by rw [HT.out]; exact PP.1⟩
    case measure => simp [intOf]; omega
   ·have hge : qs.length <= k := by rw [HlQ.out]; omega
    have x0 := b9.cell 0 (.bool sx) rfl;have x1 := b9.cell 1 (.slice Ax nx cx) rfl;have x2 := b9.cell 2 (.bool tx) rfl;have x3 := b9.cell 3 (.slice Bx mx dx) rfl
    go_wp2_with fail
    refine (p_cloneR hx (by omega)).mono ?_;rintro e V ⟨s7, A7, n7, c7, t7, B7, m7, d7, rfl, h7, hxt⟩;clear x0 x1 x2 x3;have hHk := hH.ext hxt;have extk := ext.trans hxt;obtain ⟨sz, Az, nz, cz, tz, Bz, mz, dz, p0, p1, p2, p3, _⟩ := hHk.get hkl;have f0 := hHk.frozen (k * 4);have f1 := hHk.frozen (k * 4 + 1);have f2 := hHk.frozen (k * 4 + 2);have f3 := hHk.frozen (k * 4 + 3)
    go_wp2_with fail
    have hv : ps[k] = (sumP ps qs)[k] := by rw [HV.out, atP_ge hge, Rat.add_zero]
    rw [hv] at h7;have PP := hHk.put hkl (⟨h7.num.le (by omega), h7.den.le (by omega)⟩)
    go_roundw
    case rel => exact ⟨k + 1, by omega, by go_num, PP.2.2 _ extk (Nat.le_refl _), by rw [HT.out]; exact PP.1⟩
    case measure => simp [intOf]; omega
  ·have hkn : k = m := by omega
   rw [hkn, List.take_of_length_le (Nat.le_of_eq HSl.out), List.drop_of_length_le (Nat.le_of_eq HlP.out)] at hH;have hp : Pol wr (some ⟨w.heap.size, 0, none⟩) m m (sumP ps qs) (L + M + 1) := ⟨HSl.out, Nat.le_refl _, by unfold maxLen; omega, fun _ => ⟨_, 0, rfl, hH.rats⟩⟩
   go_wp2_with fail
   refine (p_cutR hp (by omega) (by omega)).mono ?_;rintro e V ⟨A8, n8, c8, rfl, h8, hxt⟩
   go_wp2_with fail
   go_ret
   exact ⟨A8, n8, c8, rfl, h8, ext.trans hxt⟩
theorem p_AddP (h : Pol w A n c qs L) (h' : Pol w B m d ps M) (hL : L <= 63) (hM : M <= 63) (hn : n <= 1000) (hm : m <= 1000) (hT : Tab w) : Calls Tryz.prog 18 #[.slice A n c, .slice B m d] w (RetPol (trimP (sumP qs ps)) (L + M + 1) w) := by
 by_cases hlt : n < m
 ·rw [sumP_comm]
  exact p_Add_lt h h' hL hM hn hm hlt hT
 ·exact p_Add_ge h h' hL hM hn hm (by omega) hT
end
section
variable {w : World} {A B : Option Addr} {n m c d L M : Nat} {qs ps : List Rat}
theorem good_same (h : Pol w A n c qs L) (h' : Pol w B m d ps M) (he : qs = ps) (hL2 : 2 <= L) (hL : L <= 350) (hM : M <= 350) (hn : n <= 1000) (hm : m <= 1000) : Calls Tryz.prog 12 #[.slice A n c, .slice B m d] w fun e w' => e = .returned (.bool true) /\ Ext w w' := by
 have := good_P h h' hL2 hL hM hn hm
 rwa [show decide (qs = ps) = true from decide_eq_true he] at this
end
def qsum (f : Nat -> Rat) : Nat -> Rat
 | 0 => 0
 | n + 1 => qsum f n + f n
def termQ (a b : List Rat) (s i : Nat) : Rat := if i <= s then atP a i * atP b (s - i) else 0
theorem qsum_congr {f g : Nat -> Rat} : ∀ n, (∀ i, i < n -> f i = g i) -> qsum f n = qsum g n
 | 0, _ => rfl
 | n + 1, h => by
  show qsum f n + f n = qsum g n + g n
  rw [qsum_congr n (fun i hi => h i (by omega)), h n (Nat.lt_succ_self n)]
theorem qsum_mul (f : Nat -> Rat) (c : Rat) : ∀ n, qsum (fun i => f i * c) n = qsum f n * c
 | 0 => by show (0 : Rat) = 0 * c; grind
 | n + 1 => by
  show qsum (fun i => f i * c) n + f n * c = (qsum f n + f n) * c
  rw [qsum_mul f c n]
  grind
theorem qsum_add (f g : Nat -> Rat) : ∀ n, qsum (fun i => f i + g i) n = qsum f n + qsum g n
 | 0 => by show (0 : Rat) = 0 + 0; grind
 | n + 1 => by
  show qsum (fun i => f i + g i) n + (f n + g n) = (qsum f n + f n) + (qsum g n + g n)
  rw [qsum_add f g n]
  grind
theorem qsum_more {f : Nat -> Rat} {n m : Nat} (h : n <= m) (h0 : ∀ i, n <= i -> i < m -> f i = 0) : qsum f m = qsum f n := by
 obtain ⟨k, rfl⟩ : ∃ k, m = n + k := ⟨m - n, by omega⟩;clear h
 induction k with
 | zero => rfl
 | succ k ih =>
  show qsum f (n + k) + f (n + k) = qsum f n
  rw [ih (fun i h1 h2 => h0 i h1 (by omega)), h0 (n + k) (by omega) (by omega)]
  grind
theorem cast_psum (f : Nat -> Int) : ∀ n, ((psum f n : Int) : Rat) = qsum (fun i => ((f i : Int) : Rat)) n
 | 0 => rfl
 | n + 1 => by
  show ((psum f n + f n : Int) : Rat) = _
  rw [Rat.intCast_add, cast_psum f n]
  rfl
theorem mkQ_div {z d : Int} (h : 0 < d) : mkQ z d = (z : Rat) / (d : Rat) := by
 unfold mkQ;rw [if_neg (by omega), Rat.mkRat_eq_div]
 congr 1
 have : ((d.natAbs : Nat) : Int) = d := by omega
 rw [<- Rat.intCast_natCast, this]
theorem cfI_trim (l : List Int) (i : Nat) : cfI (trimI l) i = cfI l i := by
 obtain ⟨k, hk⟩ := trimI_pre l
 by_cases h : i < (trimI l).length
 ·have h2 : i < l.length := Nat.lt_of_lt_of_le h (trimI_len l)
  rw [cfI_lt h, cfI_lt h2]
  have : l[i]? = (trimI l)[i]? := by
   conv => lhs; rw [hk]
   rw [List.getElem?_append_left h]
  rw [List.getElem?_eq_getElem h, List.getElem?_eq_getElem h2] at this;exact (Option.some.inj this).symm
 ·rw [cfI_ge (by omega)]
  by_cases h2 : i < l.length
  ·rw [cfI_lt h2]
   have : l[i]? = (List.replicate k 0)[i - (trimI l).length]? := by
    conv => lhs; rw [hk]
    rw [List.getElem?_append_right (by omega)]
   rw [List.getElem?_eq_getElem h2] at this;have h3 := List.mem_of_getElem? this.symm;exact (List.eq_of_mem_replicate h3).symm
  ·rw [cfI_ge (by omega)]
theorem psum_more {f : Nat -> Int} {n m : Nat} (h : n <= m) (h0 : ∀ i, n <= i -> i < m -> f i = 0) : psum f m = psum f n := by
 obtain ⟨k, rfl⟩ : ∃ k, m = n + k := ⟨m - n, by omega⟩;clear h
 induction k with
 | zero => rfl
 | succ k ih =>
  show psum f (n + k) + f (n + k) = psum f n
  rw [ih (fun i h1 h2 => h0 i h1 (by omega)), h0 (n + k) (by omega) (by omega), Int.add_zero]
theorem nums_cast (qs : List Rat) (i : Nat) : ((cfI (numsP qs) i : Int) : Rat) = atP qs i * (((denP qs : Nat) : Int) : Rat) := by
 by_cases h : i < qs.length
 ·rw [cfI_lt (by rw [numsP_len]; exact h), numsP_at qs i (by rw [numsP_len]; exact h) h, atP_lt h]
  have hd := denP_dvd (List.getElem_mem h);generalize qs[i] = q at hd;obtain ⟨e, he⟩ := hd;have h0 : (q.den : Int) ≠ 0 := by have := q.den_nz; omega
  rw [he, Int.natCast_mul, Int.mul_ediv_cancel_left _ h0, Rat.intCast_mul, Rat.intCast_mul]
  have h1 : ((q.den : Int) : Rat) ≠ 0 := by
   intro e1;exact h0 (by exact_mod_cast e1)
  have h2 : q = (q.num : Rat) / ((q.den : Int) : Rat) := by
   rw [Rat.intCast_natCast]; exact (Rat.mkRat_self q).symm.trans (Rat.mkRat_eq_div _ _)
  generalize ((q.den : Int) : Rat) = d at h1 h2;generalize (q.num : Rat) = n at h2;rw [h2]
  grind
 ·rw [cfI_ge (by rw [numsP_len]; omega), atP_ge (by omega)]
  show (0 : Rat) = 0 * _
  grind
theorem prodI_coef (xs ys : List Int) (s : Nat) : cfI (prodI xs ys) s = psum (termI xs ys s) xs.length := by
 unfold prodI
 split
 ·rename_i h
  rw [cfI_ge (Nat.zero_le _)]
  rcases h with h | h
  ·rw [h]; rfl
  ·exact (psum_more (n := 0) (Nat.zero_le _) (fun i _ _ => by
    unfold termI
    split
    ·rw [cfI_ge (l := ys) (by omega), Int.mul_zero]
    ·rfl)).symm
 ·rename_i h
  by_cases hs : s < xs.length + ys.length - 1
  ·rw [cfI_lt (by unfold mulI; simpa using hs)]
   simp [mulI]
  ·rw [cfI_ge (by unfold mulI; simp; omega)]
   exact (psum_more (n := 0) (Nat.zero_le _) (fun i _ hi => by
    unfold termI
    split
    ·rw [cfI_ge (l := ys) (by omega), Int.mul_zero]
    ·rfl)).symm
theorem mul_coef (qs ps : List Rat) (s : Nat) : atP ((prodI (trimI (numsP qs)) (trimI (numsP ps))).map (fun z => mkQ z (((denP qs : Nat) : Int) * ((denP ps : Nat) : Int)))) s = qsum (termQ qs ps s) qs.length := by
 have hD : 0 < ((denP qs : Nat) : Int) * ((denP ps : Nat) : Int) := Int.mul_pos (by have := denP_pos qs; omega) (by have := denP_pos ps; omega)
 have e1 : atP ((prodI (trimI (numsP qs)) (trimI (numsP ps))).map (fun z => mkQ z (((denP qs : Nat) : Int) * ((denP ps : Nat) : Int)))) s = mkQ (cfI (prodI (trimI (numsP qs)) (trimI (numsP ps))) s) (((denP qs : Nat) : Int) * ((denP ps : Nat) : Int)) := by
  generalize prodI (trimI (numsP qs)) (trimI (numsP ps)) = l
  by_cases h : s < l.length
  ·rw [atP_lt (by simpa using h), cfI_lt h]
   simp
  ·rw [atP_ge (by simp; omega), cfI_ge (by omega), mkQ_div hD]
   show (0 : Rat) = 0 / _
   grind
 rw [e1, mkQ_div hD, prodI_coef, <- psum_more (m := qs.length) (by have := trimI_len (numsP qs); rw [numsP_len] at this; exact this) (fun i h1 _ => by
  unfold termI
  split
  ·rw [cfI_ge h1, Int.zero_mul]
  ·rfl), cast_psum, qsum_congr (g := fun i => termQ qs ps s i * (((((denP qs : Nat) : Int) * ((denP ps : Nat) : Int) : Int)) : Rat)) _ (fun i _ => by
  unfold termI termQ
  split
  ·rw [cfI_trim, cfI_trim, Rat.intCast_mul, Rat.intCast_mul, nums_cast, nums_cast]
   grind
  ·show (0 : Rat) = 0 * _
   grind), qsum_mul]
 have h0 : (((((denP qs : Nat) : Int) * ((denP ps : Nat) : Int) : Int)) : Rat) ≠ 0 := by
  intro e;have : ((denP qs : Nat) : Int) * ((denP ps : Nat) : Int) = 0 := by exact_mod_cast e
  omega
 grind
theorem qsum_head (f : Nat -> Rat) : ∀ n, qsum f (n + 1) = f 0 + qsum (fun i => f (i + 1)) n
 | 0 => by show (0 : Rat) + f 0 = f 0 + 0; grind
 | n + 1 => by
  show qsum f (n + 1) + f (n + 1) = f 0 + (qsum (fun i => f (i + 1)) n + f (n + 1))
  rw [qsum_head f n]
  grind
theorem termQ_all (a b : List Rat) (s : Nat) : qsum (termQ a b s) a.length = qsum (termQ a b s) (s + 1) := by
 rcases Nat.le_total a.length (s + 1) with h | h
 ·exact (qsum_more h (fun i h1 _ => by
   unfold termQ
   split
   ·rw [atP_ge h1]; grind
   ·rfl)).symm
 ·exact qsum_more h (fun i h1 _ => by unfold termQ; rw [if_neg (by omega)])
end
section
open Go.RowKit
structure BndR (q : Rat) (N D : Nat) : Prop where
 num : q.num.natAbs <= N
 den : q.den <= D
def Bnd (qs : List Rat) (N D : Nat) : Prop := ∀ q ∈ qs, BndR q N D
def dprod (qs : List Rat) : Nat := qs.foldr (fun q d => q.den * d) 1
theorem dprod_pos : ∀ qs : List Rat, 0 < dprod qs
 | [] => Nat.one_pos
 | q :: qs => Nat.mul_pos q.den_pos (dprod_pos qs)
theorem dprod_le {N D : Nat} : ∀ {qs : List Rat}, Bnd qs N D -> dprod qs <= D ^ qs.length
 | [], _ => Nat.le_refl _
 | q :: qs, h => by
  show q.den * dprod qs <= D ^ (qs.length + 1)
  rw [Nat.pow_succ, Nat.mul_comm (D ^ _)];exact Nat.mul_le_mul (h q (List.mem_cons_self ..)).den (dprod_le fun p hp => h p (List.mem_cons_of_mem _ hp))
theorem dprod_mem {N D : Nat} : ∀ {qs : List Rat} {q : Rat}, Bnd qs N D -> q ∈ qs -> ∃ m, dprod qs = q.den * m /\ m <= D ^ (qs.length - 1)
 | [], _, _, hq => by cases hq
 | p :: qs, q, h, hq => by
  rcases List.mem_cons.1 hq with rfl | hq
  ·exact ⟨dprod qs, rfl, dprod_le fun p hp => h p (List.mem_cons_of_mem _ hp)⟩
  ·obtain ⟨m, h1, h2⟩ := dprod_mem (fun p hp => h p (List.mem_cons_of_mem _ hp)) hq
   refine ⟨p.den * m, ?_, ?_⟩
   ·show p.den * dprod qs = _
    rw [h1, Nat.mul_left_comm]
   ·have h3 : (p :: qs).length - 1 = (qs.length - 1) + 1 := by have := List.length_pos_of_mem hq; rw [List.length_cons]; omega
    rw [h3, Nat.pow_succ, Nat.mul_comm (D ^ _)];exact Nat.mul_le_mul (h p (List.mem_cons_self ..)).den h2
theorem foldl_dvd (qs : List Rat) : ∀ d, qs.foldl (fun d q => Nat.lcm d q.den) d ∣ d * dprod qs := by
 induction qs with
 | nil => intro d; show d ∣ d * 1; rw [Nat.mul_one]; exact Nat.dvd_refl _
 | cons p qs ih =>
  intro d;refine Nat.dvd_trans (ih (Nat.lcm d p.den)) ?_
  show _ ∣ d * (p.den * dprod qs)
  rw [<- Nat.mul_assoc];exact Nat.mul_dvd_mul_right (Nat.lcm_dvd (Nat.dvd_mul_right _ _) (Nat.dvd_mul_left _ _)) _
theorem denP_dprod (qs : List Rat) : denP qs ∣ dprod qs := by
 have := foldl_dvd qs 1;rw [Nat.one_mul] at this;exact this
theorem sizeP_of {qs : List Rat} {N D k X : Nat} (h : Bnd qs N D) (hD : 1 <= D) (hl : qs.length <= k) (h1 : D ^ k < 4294967296 ^ X) (h2 : N * D ^ (k - 1) < 4294967296 ^ X) : SizeP qs X := by
 refine ⟨?_, fun z hz => ?_⟩
 ·exact Nat.lt_of_le_of_lt (Nat.le_trans (Nat.le_of_dvd (dprod_pos qs) (denP_dprod qs)) (Nat.le_trans (dprod_le h) (Nat.pow_le_pow_right hD hl))) h1
 ·unfold numsP at hz
  obtain ⟨q, hq, rfl⟩ := List.mem_map.1 hz;obtain ⟨m, e1, e2⟩ := dprod_mem h hq;obtain ⟨e, he⟩ := denP_dvd hq
  have h3 : e ∣ m := by
   have := denP_dprod qs;rw [he, e1] at this;exact Nat.dvd_of_mul_dvd_mul_left q.den_pos this
  have hm : 0 < m := by
   rcases Nat.eq_zero_or_pos m with h0 | h0
   ·have := dprod_pos qs
    rw [e1, h0, Nat.mul_zero] at this;omega
   ·exact h0
  have h4 := Nat.le_of_dvd hm h3
  have h5 : (q.num * (((denP qs : Nat) : Int) / ((q.den : Nat) : Int))).natAbs = q.num.natAbs * e := by
   rw [he, Int.natCast_mul, Int.mul_ediv_cancel_left _ (by have := q.den_nz; omega), Int.natAbs_mul, Int.natAbs_natCast]
  rw [h5];exact Nat.lt_of_le_of_lt (Nat.mul_le_mul (h q hq).num (Nat.le_trans h4 (Nat.le_trans e2 (Nat.pow_le_pow_right hD (Nat.sub_le_sub_right hl 1))))) h2
theorem bndR_mk (z : Int) {d : Nat} (hd : d ≠ 0) : BndR (mkRat z d) z.natAbs d := by
 obtain ⟨m, hm, e1, e2⟩ := Rat.mkRat_num_den (n := z) (n' := (mkRat z d).num) (d' := (mkRat z d).den) (z' := (mkRat z d).den_nz) (c := (mkRat z d).reduced) hd rfl;refine ⟨?_, ?_⟩
 ·conv => rhs; rw [e1]
  rw [Int.natAbs_mul, Int.natAbs_natCast];exact Nat.le_mul_of_pos_right _ (Nat.pos_of_ne_zero hm)
 ·conv => rhs; rw [e2]
  exact Nat.le_mul_of_pos_right _ (Nat.pos_of_ne_zero hm)
theorem BndR.le {q : Rat} {N D N' D' : Nat} (h : BndR q N D) (h1 : N <= N') (h2 : D <= D') : BndR q N' D' := ⟨Nat.le_trans h.num h1, Nat.le_trans h.den h2⟩
theorem BndR.zero {N D : Nat} (hD : 1 <= D) : BndR 0 N D := ⟨Nat.zero_le _, hD⟩
theorem BndR.add {a b : Rat} {N D M E : Nat} (h : BndR a N D) (k : BndR b M E) : BndR (a + b) (N * E + M * D) (D * E) := by
 have e : a + b = mkRat (a.num * (b.den : Int) + b.num * (a.den : Int)) (a.den * b.den) := by rw [Rat.add_def, Rat.normalize_eq_mkRat]
 rw [e];refine (bndR_mk _ (Nat.mul_ne_zero a.den_nz b.den_nz)).le ?_ (Nat.mul_le_mul h.den k.den);refine Nat.le_trans (Int.natAbs_add_le _ _) ?_;rw [Int.natAbs_mul, Int.natAbs_mul, Int.natAbs_natCast, Int.natAbs_natCast];exact Nat.add_le_add (Nat.mul_le_mul h.num k.den) (Nat.mul_le_mul k.num h.den)
theorem BndR.int (z : Int) : BndR ((z : Int) : Rat) z.natAbs 1 := ⟨Nat.le_refl _, Nat.le_refl _⟩
theorem Bnd.at_ {qs : List Rat} {N D : Nat} (h : Bnd qs N D) (hD : 1 <= D) (i : Nat) : BndR (atP qs i) N D := by
 by_cases hi : i < qs.length
 ·rw [atP_lt hi]; exact h _ (List.getElem_mem hi)
 ·rw [atP_ge (by omega)]; exact BndR.zero hD
theorem Bnd.trim {qs : List Rat} {N D : Nat} (h : Bnd qs N D) : Bnd (trimP qs) N D := fun q hq => by
 rw [trimP_take] at hq;exact h q (List.mem_of_mem_take hq)
def B120 : Nat := 1329227995784915872903807060280344575
theorem bits_le {xs : List Nat} (hw : W32 xs) (hn : Nrm xs) (h : bitsN (trimL xs) <= 120) : val xs <= B120 := by
 rw [show trimL xs = xs from hn] at h
 by_cases h0 : 0 < xs.length
 ·obtain ⟨_, _, h3, _⟩ := bitsN_spec hw hn h0
  have h4 : 2 ^ bitsN xs <= 2 ^ 120 := Nat.pow_le_pow_right (by omega) h;have h5 : (2 : Nat) ^ 120 = B120 + 1 := by decide +kernel
  rw [h5] at h4;exact Nat.le_of_lt_succ (Nat.lt_of_lt_of_le h3 h4)
 ·have : xs = [] := List.length_eq_zero_iff.1 (by omega)
  subst this;exact Nat.zero_le _
theorem short_bnd {w : World} {s t : Bool} {A B : Option Addr} {n c m d : Nat} {xs ys : List Nat} (h : RI w A n c xs) (k : RI w B m d ys) (hs : shortB s xs t ys = true) : BndR (rawQ s xs t ys) B120 B120 := by
 obtain ⟨f1, f2, f3⟩ := shortB_le hs;have hq := NR.of_raw' (L := 4) h k f3 (by rw [<- h.len]; exact f1) (by rw [<- k.len]; exact f2);unfold shortB at hs;simp only [Bool.and_eq_true, decide_eq_true_eq] at hs;obtain ⟨_, _, _, g1, g2⟩ := hs;obtain ⟨xs0, a1, a2, _, _, a3, _⟩ := hq.num.out;obtain ⟨ys0, b1, b2, _, _, b3, _⟩ := hq.den.out;have e1 : xs0 = xs := a2.uniq h.rd (by rw [a1, h.len]);have e2 : ys0 = ys := b2.uniq k.rd (by rw [b1, k.len]);subst e1 e2;refine ⟨?_, ?_⟩
 ·rw [<- a3.abs]; exact bits_le a3.w32 a3.nrm g1
 ·have := bits_le b3.w32 b3.nrm g2
  rw [b3.abs, Int.natAbs_natCast] at this;exact this
theorem RawP.bnd {w : World} {A : Option Addr} {n c : Nat} {rs : List RawR} (h : RawP w A n c rs) (hs : rs.all RawR.short = true) : Bnd (rs.map RawR.q) B120 B120 := fun q hq => by
 obtain ⟨r, hr, rfl⟩ := List.mem_map.1 hq;have hsr := List.all_eq_true.1 hs r hr;obtain ⟨i, hi, rfl⟩ := List.getElem_of_mem hr;obtain ⟨b, off, h1, h2⟩ := h.at_ (fun e => by subst e; exact absurd hi (Nat.not_lt_zero _));obtain ⟨A, n, c, B, m, d, _, _, _, _, h4, h5⟩ := h2 i hi;exact short_bnd h4 h5 hsr
theorem Bnd.few {qs : List Rat} (h : Bnd qs B120 B120) (hl : qs.length <= 8) : SizeP qs 30 := sizeP_of h (by decide +kernel) hl (by decide +kernel) (by decide +kernel)
def prodQ (qs ps : List Rat) : List Rat := (prodI (trimI (numsP qs)) (trimI (numsP ps))).map (fun z => mkQ z (((denP qs : Nat) : Int) * ((denP ps : Nat) : Int)))
theorem prodQ_len (qs ps : List Rat) : (prodQ qs ps).length <= qs.length + ps.length := by
 unfold prodQ;rw [List.length_map];have h1 := prodI_len (trimI (numsP qs)) (trimI (numsP ps));have h2 := trimI_len (numsP qs);have h3 := trimI_len (numsP ps);rw [numsP_len] at h2 h3;omega
theorem prodQ_at (qs ps : List Rat) (s : Nat) : atP (prodQ qs ps) s = qsum (termQ qs ps s) (s + 1) := (mul_coef qs ps s).trans (termQ_all _ _ _)
section
variable {w w' : World} {A B : Option Addr} {n c m d L M : Nat} {qs ps : List Rat}
theorem p_MulQ {X Y : Nat} (h : Pol w A n c qs L) (h' : Pol w B m d ps M) (hL : L <= 60) (hM : M <= 60) (hn : n <= 40) (hm : m <= 40) (hX : SizeP qs X) (hY : SizeP ps Y) (hX1 : X <= 1000) (hY1 : Y <= 1000) (h64 : min X Y < 64) (hT : Tab w) :
  Calls Tryz.prog 24 #[.slice A n c, .slice B m d] w (RetPol (prodQ qs ps) (X + Y + 1) w) := p_MulP h h' hL hM hn hm hX hY hX1 hY1 h64 hT
end
end
section
open Go.RowKit
attribute [local go_sem ↓] Go.wp_at_zero Go.wp_at_succ
set_option maxRecDepth 100000 in
theorem awake4 : Awake4 := by
 intro w hT
 go_enter Tryz.func9, Tryz.ntmps9
 have ext := Ext.refl w
 go_wp2_with fail
 refine (rats0 (Box.new _ _ _)).mono ?_;rintro e W1 ⟨Aa0, na0, ca0, rfl, a0, x1⟩;have y1 := ((Ext.refl w).alloc _).trans x1;replace hT := hT.ext y1;replace ext := ext.trans y1;have hna0 : na0 = 3 := a0.len.symm;subst hna0;clear y1;clear x1
 go_wp2_with fail
 refine (rats1 (Box.new _ _ _)).mono ?_;rintro e W2 ⟨Aa1, na1, ca1, rfl, a1, x2⟩;have y2 := ((Ext.refl W1).alloc _).trans x2;replace a0 := a0.ext y2;replace hT := hT.ext y2;replace ext := ext.trans y2;have hna1 : na1 = 2 := a1.len.symm;subst hna1;clear y2;clear x2
 go_wp2_with fail
 refine (dm_call a0 a1 hT).mono ?_;rintro e W3 ⟨Aq, nq, cq, Ar, nr, cr, rfl, hq, hr, x3⟩;replace a0 := a0.ext x3;replace a1 := a1.ext x3;replace hT := hT.ext x3;replace ext := ext.trans x3;have hnq : nq = 2 := hq.len.symm;subst hnq;have hnr : nr = 0 := hr.len.symm;subst hnr;clear hr;clear x3;clear a0;clear a1
 go_wp2_with fail
 refine (rats2 (Box.new _ _ _)).mono ?_;rintro e W4 ⟨Aa2, na2, ca2, rfl, a2, x4⟩;have y4 := ((Ext.refl W3).alloc _).trans x4;replace hq := hq.ext y4;replace hT := hT.ext y4;replace ext := ext.trans y4;have hna2 : na2 = 4 := a2.len.symm;subst hna2;clear y4;clear x4
 go_wp2_with fail
 refine (p_Squarefree_ex a2 (by omega) hT).mono ?_;rintro e W5 ⟨As, ns, cs, rfl, hs, x5⟩;replace hq := hq.ext x5;replace a2 := a2.ext x5;replace hT := hT.ext x5;replace ext := ext.trans x5;have hns : ns = 3 := hs.len.symm;subst hns;clear x5;clear a2
 go_wp2_with fail
 refine (rats3 (Box.new _ _ _)).mono ?_;rintro e W6 ⟨Aa3, na3, ca3, rfl, a3, x6⟩;have y6 := ((Ext.refl W5).alloc _).trans x6;replace hq := hq.ext y6;replace hs := hs.ext y6;replace hT := hT.ext y6;replace ext := ext.trans y6;have hna3 : na3 = 2 := a3.len.symm;subst hna3;clear y6;clear x6
 go_wp2_with fail
 refine (pr_call1 a3 hT).mono ?_;rintro e W7 ⟨Ap, np, cp, rfl, hp, x7⟩;replace hq := hq.ext x7;replace hs := hs.ext x7;replace a3 := a3.ext x7;replace hT := hT.ext x7;replace ext := ext.trans x7;have hnp : np = 2 := hp.len.symm;subst hnp;clear x7;clear a3
 go_wp2_with fail
 refine (rats4 (Box.new _ _ _)).mono ?_;rintro e W8 ⟨Aa4, na4, ca4, rfl, a4, x8⟩;have y8 := ((Ext.refl W7).alloc _).trans x8;replace hq := hq.ext y8;replace hs := hs.ext y8;replace hp := hp.ext y8;replace hT := hT.ext y8;replace ext := ext.trans y8;have hna4 : na4 = 2 := a4.len.symm;subst hna4;clear y8;clear x8
 go_wp2_with fail
 refine (pr_call2 a4 hT).mono ?_;rintro e W9 ⟨Ai, ni, ci, rfl, hi, x9⟩;replace hq := hq.ext x9;replace hs := hs.ext x9;replace hp := hp.ext x9;replace a4 := a4.ext x9;replace hT := hT.ext x9;replace ext := ext.trans x9;have hni : ni = 2 := hi.len.symm;subst hni;clear x9;clear a4
 go_wp2_with fail
 refine (rats5 (Box.new _ _ _)).mono ?_;rintro e W10 ⟨Aa5, na5, ca5, rfl, a5, x10⟩;have y10 := ((Ext.refl W9).alloc _).trans x10;replace hq := hq.ext y10;replace hs := hs.ext y10;replace hp := hp.ext y10;replace hi := hi.ext y10;replace hT := hT.ext y10;replace ext := ext.trans y10;have hna5 : na5 = 3 := a5.len.symm;subst hna5;clear y10;clear x10
 go_wp2_with fail
 refine (bo_call a5 hT).mono ?_;rintro e W11 ⟨sb, Ab, nb, cb, tb, Bb, mb, db, rfl, hb, x11⟩;replace hq := hq.ext x11;replace hs := hs.ext x11;replace hp := hp.ext x11;replace hi := hi.ext x11;replace a5 := a5.ext x11;replace hT := hT.ext x11;replace ext := ext.trans x11;clear x11;clear a5
 go_upto_region 6 with (fail)
 obtain ⟨W12, hW12, xb, b7, hzb⟩ := box1 W11 27 #[.bool sb, .slice Ab nb cb, .bool tb, .slice Bb mb db];rw [<- hW12];clear hW12 hzb;replace hq := hq.ext xb;replace hs := hs.ext xb;replace hp := hp.ext xb;replace hi := hi.ext xb;replace hb := hb.ext xb;replace hT := hT.ext xb;replace ext := ext.trans xb;clear xb;generalize W11.heap.size = g7 at b7 ⊢
 go_wp2_with fail
 refine (rats6 (Box.new _ _ _)).mono ?_;rintro e W13 ⟨Aa6, na6, ca6, rfl, a6, x13⟩;have y13 := ((Ext.refl W12).alloc _).trans x13;replace hq := hq.ext y13;replace hs := hs.ext y13;replace hp := hp.ext y13;replace hi := hi.ext y13;replace hb := hb.ext y13;replace b7 := b7.ext y13;replace hT := hT.ext y13;replace ext := ext.trans y13;have hna6 : na6 = 3 := a6.len.symm;subst hna6;clear y13;clear x13
 go_wp2_with fail
 refine (rats7 (Box.new _ _ _)).mono ?_;rintro e W14 ⟨Aa7, na7, ca7, rfl, a7, x14⟩;have y14 := ((Ext.refl W13).alloc _).trans x14;replace hq := hq.ext y14;replace hs := hs.ext y14;replace hp := hp.ext y14;replace hi := hi.ext y14;replace hb := hb.ext y14;replace b7 := b7.ext y14;replace a6 := a6.ext y14;replace hT := hT.ext y14;replace ext := ext.trans y14;have hna7 : na7 = 2 := a7.len.symm;subst hna7;clear y14;clear x14
 go_wp2_with fail
 refine (co_call a6 a7 hT).mono ?_;rintro e W15 ⟨Ac, nc, cc, rfl, hc, x15⟩;replace hq := hq.ext x15;replace hs := hs.ext x15;replace hp := hp.ext x15;replace hi := hi.ext x15;replace hb := hb.ext x15;replace b7 := b7.ext x15;replace a6 := a6.ext x15;replace a7 := a7.ext x15;replace hT := hT.ext x15;replace ext := ext.trans x15;have hnc : nc = 3 := hc.len.symm;subst hnc;clear x15;clear a6;clear a7
 go_upto_region 7 with (fail)
 have ES0 := Ext.refl W15;refine wp_region_held_drew (S := Ext W15) (by kernel_rfl) ES0.drew (fun ES => ?_);clear ES0;refine Late.s0 ES (fun hAl hQ => ?_);replace hq := hq.ext ES;replace hs := hs.ext ES;replace hp := hp.ext ES;replace hi := hi.ext ES;replace hb := hb.ext ES;replace hc := hc.ext ES;refine Late.tk (i := 0) (d := some 56) (v := ?v_0) rfl rfl hQ (Or.inl ⟨by rfl, ?y_0⟩) ?_
 case y_0 => intro w' hSw;go_simp;try with_reducible rfl
 try simp only [zP]
 refine Late.tk (i := 1) (d := some 57) (v := ?v_1) rfl rfl hQ (Or.inl ⟨by rfl, ?y_1⟩) ?_
 case y_1 => intro w' hSw;go_simp;try with_reducible rfl
 try simp only [zP]
 refine Late.tk (i := 2) (d := some 58) (v := ?v_2) rfl rfl hQ (Or.inl ⟨by rfl, ?y_2⟩) ?_
 case y_2 => intro w' hSw;go_simp;try with_reducible rfl
 try simp only [zP]
 refine Late.tk (i := 3) (d := some 59) (v := ?v_3) rfl rfl hQ (Or.inl ⟨by rfl, ?y_3⟩) ?_
 case y_3 => intro w' hSw;go_simp;try with_reducible rfl
 try simp only [zP]
 refine Late.tk (i := 4) (d := some 60) (v := ?v_4) rfl rfl hQ (Or.inl ⟨by rfl, ?y_4⟩) ?_
 case y_4 => intro w' hSw;go_simp;try with_reducible rfl
 try simp only [zP]
 refine Late.tk (i := 5) (d := some 61) (v := ?v_5) rfl rfl hQ (Or.inl ⟨by rfl, ?y_5⟩) ?_
 case y_5 => intro w' hSw;go_simp;try with_reducible rfl
 try simp only [zP]
 refine Late.cl (i := 6) rfl hAl hQ (fun w6 e6 E6 K hK => ?_);go_simp;replace hq := hq.ext e6;replace hs := hs.ext e6;replace hp := hp.ext e6;replace hi := hi.ext e6;replace hb := hb.ext e6;replace hc := hc.ext e6;have y6 := (Ext.refl w6).alloc (.cells #[.int .i64 (-1), .int .i64 (2), .int .i64 (1), .int .i64 (2)] 53);have bx := Box.new w6 53 #[.int .i64 (-1), .int .i64 (2), .int .i64 (1), .int .i64 (2)];replace hq := hq.ext y6;replace hs := hs.ext y6;replace hp := hp.ext y6;replace hi := hi.ext y6;replace hb := hb.ext y6;replace hc := hc.ext y6;obtain ⟨g6, hg6⟩ : ∃ g, w6.heap.size = g := ⟨_, rfl⟩;rw [hg6] at bx ⊢;clear hg6;refine hK.out _ _ y6 ?_;clear hK K
 try simp only [zP]
 refine Late.cl (i := 7) rfl hAl hQ (fun w7 e7 E7 K hK => ?_);go_simp
 (replace hq := hq.ext e7; replace hs := hs.ext e7; replace hp := hp.ext e7; replace hi := hi.ext e7; replace hb := hb.ext e7; replace hc := hc.ext e7; replace bx := bx.ext e7; go_at_call 43; refine (rats8 bx).mono ?_; rintro e wk7 ⟨Aq8, nq8, cq8, rfl, q8, hx7⟩; replace hq := hq.ext hx7; replace hs := hs.ext hx7; replace hp := hp.ext hx7; replace hi := hi.ext hx7; replace hb := hb.ext hx7; replace hc := hc.ext hx7; have hnq8 : nq8 = 2 := q8.len.symm; subst hnq8)
 refine hK.out _ _ hx7 ?_;clear hK K
 try simp only [zP]
 refine Late.cl (i := 8) rfl hAl hQ (fun w8 e8 E8 K hK => ?_);go_simp
 (replace hq := hq.ext e8; replace hs := hs.ext e8; replace hp := hp.ext e8; replace hi := hi.ext e8; replace hb := hb.ext e8; replace hc := hc.ext e8; replace q8 := q8.ext e8; go_at_call 45; refine (eq_call hq q8 rfl (by omega) (by omega) (by omega) (by omega) (by omega)).mono ?_; rintro e wk8 ⟨rfl, hx8⟩; replace hq := hq.ext hx8; replace hs := hs.ext hx8; replace hp := hp.ext hx8; replace hi := hi.ext hx8; replace hb := hb.ext hx8; replace hc := hc.ext hx8; replace q8 := q8.ext hx8)
 refine hK.out _ _ hx8 ?_;clear hK K
 try simp only [zP]
 refine Late.tk (i := 9) (d := some 65) (v := ?v_6) rfl rfl hQ (Or.inl ⟨by rfl, ?y_6⟩) ?_
 case y_6 => intro w' hSw;go_simp;try with_reducible rfl
 try simp only [zP]
 refine Late.tk (i := 10) (d := some 66) (v := ?v_7) rfl rfl hQ (Or.inl ⟨by rfl, ?y_7⟩) ?_
 case y_7 => intro w' hSw;go_simp;try with_reducible rfl
 try simp only [zP]
 refine Late.tk (i := 11) (d := some 67) (v := ?v_8) rfl rfl hQ (Or.inl ⟨by rfl, ?y_8⟩) ?_
 case y_8 => intro w' hSw;go_simp;try with_reducible rfl
 try simp only [zP]
 refine Late.tk (i := 12) (d := some 68) (v := ?v_9) rfl rfl hQ (Or.inl ⟨by rfl, ?y_9⟩) ?_
 case y_9 => intro w' hSw;go_simp;try with_reducible rfl
 try simp only [zP]
 refine Late.tk (i := 13) (d := some 69) (v := ?v_a) rfl rfl hQ (Or.inl ⟨by rfl, ?y_a⟩) ?_
 case y_a => intro w' hSw;go_simp;try with_reducible rfl
 try simp only [zP]
 refine Late.tk (i := 14) (d := some 70) (v := ?v_b) rfl rfl hQ (Or.inl ⟨by rfl, ?y_b⟩) ?_
 case y_b => intro w' hSw;go_simp;try with_reducible rfl
 try simp only [zP]
 refine Late.tk (i := 15) (d := some 71) (v := ?v_c) rfl rfl hQ (Or.inl ⟨by rfl, ?y_c⟩) ?_
 case y_c => intro w' hSw;go_simp;try with_reducible rfl
 try simp only [zP]
 refine Late.tk (i := 16) (d := some 72) (v := ?v_d) rfl rfl hQ (Or.inl ⟨by rfl, ?y_d⟩) ?_
 case y_d => intro w' hSw;go_simp;try with_reducible rfl
 try simp only [zP]
 refine Late.tk (i := 17) (d := some 73) (v := ?v_e) rfl rfl hQ (Or.inl ⟨by rfl, ?y_e⟩) ?_
 case y_e => intro w' hSw;go_simp;try with_reducible rfl
 try simp only [zP]
 refine Late.tk (i := 18) (d := some 74) (v := ?v_f) rfl rfl hQ (Or.inl ⟨by rfl, ?y_f⟩) ?_
 case y_f => intro w' hSw;go_simp;try with_reducible rfl
 try simp only [zP]
 refine Late.tk (i := 19) (d := some 75) (v := ?v_g) rfl rfl hQ (Or.inl ⟨by rfl, ?y_g⟩) ?_
 case y_g => intro w' hSw;go_simp;try with_reducible rfl
 try simp only [zP]
 refine Late.cl (i := 20) rfl hAl hQ (fun w20 e20 E20 K hK => ?_);go_simp;replace hq := hq.ext e20;replace hs := hs.ext e20;replace hp := hp.ext e20;replace hi := hi.ext e20;replace hb := hb.ext e20;replace hc := hc.ext e20;have y20 := (Ext.refl w20).alloc (.cells #[.int .i64 (0), .int .i64 (1), .int .i64 (-1), .int .i64 (1), .int .i64 (1), .int .i64 (1)] 53);have bx := Box.new w20 53 #[.int .i64 (0), .int .i64 (1), .int .i64 (-1), .int .i64 (1), .int .i64 (1), .int .i64 (1)];replace hq := hq.ext y20;replace hs := hs.ext y20;replace hp := hp.ext y20;replace hi := hi.ext y20;replace hb := hb.ext y20;replace hc := hc.ext y20;obtain ⟨g20, hg20⟩ : ∃ g, w20.heap.size = g := ⟨_, rfl⟩;rw [hg20] at bx ⊢;clear hg20;refine hK.out _ _ y20 ?_;clear hK K
 try simp only [zP]
 refine Late.cl (i := 21) rfl hAl hQ (fun w21 e21 E21 K hK => ?_);go_simp
 (replace hq := hq.ext e21; replace hs := hs.ext e21; replace hp := hp.ext e21; replace hi := hi.ext e21; replace hb := hb.ext e21; replace hc := hc.ext e21; replace bx := bx.ext e21; go_at_call 43; refine (rats9 bx).mono ?_; rintro e wk21 ⟨Aq9, nq9, cq9, rfl, q9, hx21⟩; replace hq := hq.ext hx21; replace hs := hs.ext hx21; replace hp := hp.ext hx21; replace hi := hi.ext hx21; replace hb := hb.ext hx21; replace hc := hc.ext hx21; have hnq9 : nq9 = 3 := q9.len.symm; subst hnq9)
 refine hK.out _ _ hx21 ?_;clear hK K
 try simp only [zP]
 refine Late.cl (i := 22) rfl hAl hQ (fun w22 e22 E22 K hK => ?_);go_simp
 (replace hq := hq.ext e22; replace hs := hs.ext e22; replace hp := hp.ext e22; replace hi := hi.ext e22; replace hb := hb.ext e22; replace hc := hc.ext e22; replace q9 := q9.ext e22; go_at_call 45; refine (eq_call hs q9 rfl (by omega) (by omega) (by omega) (by omega) (by omega)).mono ?_; rintro e wk22 ⟨rfl, hx22⟩; replace hq := hq.ext hx22; replace hs := hs.ext hx22; replace hp := hp.ext hx22; replace hi := hi.ext hx22; replace hb := hb.ext hx22; replace hc := hc.ext hx22; replace q9 := q9.ext hx22)
 refine hK.out _ _ hx22 ?_;clear hK K
 try simp only [zP]
 refine Late.tk (i := 23) (d := some 79) (v := ?v_h) rfl rfl hQ (Or.inl ⟨by rfl, ?y_h⟩) ?_
 case y_h => intro w' hSw;go_simp;try with_reducible rfl
 try simp only [zP]
 refine Late.tk (i := 24) (d := some 80) (v := ?v_i) rfl rfl hQ (Or.inl ⟨by rfl, ?y_i⟩) ?_
 case y_i => intro w' hSw;go_simp;try with_reducible rfl
 try simp only [zP]
 refine Late.tk (i := 25) (d := some 81) (v := ?v_j) rfl rfl hQ (Or.inl ⟨by rfl, ?y_j⟩) ?_
 case y_j => intro w' hSw;go_simp;try with_reducible rfl
 try simp only [zP]
 refine Late.cl (i := 26) rfl hAl hQ (fun w26 e26 E26 K hK => ?_);go_simp;replace hq := hq.ext e26;replace hs := hs.ext e26;replace hp := hp.ext e26;replace hi := hi.ext e26;replace hb := hb.ext e26;replace hc := hc.ext e26;have y26 := (Ext.refl w26).alloc (.cells #[.int .i64 (-2), .int .i64 3] 2);have bx := Box.new w26 2 #[.int .i64 (-2), .int .i64 3];replace hq := hq.ext y26;replace hs := hs.ext y26;replace hp := hp.ext y26;replace hi := hi.ext y26;replace hb := hb.ext y26;replace hc := hc.ext y26;obtain ⟨g26, hg26⟩ : ∃ g, w26.heap.size = g := ⟨_, rfl⟩;rw [hg26] at bx ⊢;clear hg26;refine hK.out _ _ y26 ?_;clear hK K
 try simp only [zP]
 refine Late.cl (i := 27) rfl hAl hQ (fun w27 e27 E27 K hK => ?_);go_simp
 (replace hq := hq.ext e27; replace hs := hs.ext e27; replace hp := hp.ext e27; replace hi := hi.ext e27; replace hb := hb.ext e27; replace hc := hc.ext e27; replace bx := bx.ext e27; go_at_call 46; refine (ints_call1 hp bx).mono ?_; rintro e wk27 ⟨rfl, hx27⟩; replace hq := hq.ext hx27; replace hs := hs.ext hx27; replace hp := hp.ext hx27; replace hi := hi.ext hx27; replace hb := hb.ext hx27; replace hc := hc.ext hx27)
 refine hK.out _ _ hx27 ?_;clear hK K
 try simp only [zP]
 refine Late.tk (i := 28) (d := some 84) (v := ?v_k) rfl rfl hQ (Or.inl ⟨by rfl, ?y_k⟩) ?_
 case y_k => intro w' hSw;go_simp;try with_reducible rfl
 try simp only [zP]
 refine Late.tk (i := 29) (d := some 85) (v := ?v_l) rfl rfl hQ (Or.inl ⟨by rfl, ?y_l⟩) ?_
 case y_l => intro w' hSw;go_simp;try with_reducible rfl
 try simp only [zP]
 refine Late.tk (i := 30) (d := some 86) (v := ?v_m) rfl rfl hQ (Or.inl ⟨by rfl, ?y_m⟩) ?_
 case y_m => intro w' hSw;go_simp;try with_reducible rfl
 try simp only [zP]
 refine Late.cl (i := 31) rfl hAl hQ (fun w31 e31 E31 K hK => ?_);go_simp;replace hq := hq.ext e31;replace hs := hs.ext e31;replace hp := hp.ext e31;replace hi := hi.ext e31;replace hb := hb.ext e31;replace hc := hc.ext e31;have y31 := (Ext.refl w31).alloc (.cells #[.int .i64 0, .int .i64 1] 2);have bx := Box.new w31 2 #[.int .i64 0, .int .i64 1];replace hq := hq.ext y31;replace hs := hs.ext y31;replace hp := hp.ext y31;replace hi := hi.ext y31;replace hb := hb.ext y31;replace hc := hc.ext y31;obtain ⟨g31, hg31⟩ : ∃ g, w31.heap.size = g := ⟨_, rfl⟩;rw [hg31] at bx ⊢;clear hg31;refine hK.out _ _ y31 ?_;clear hK K
 try simp only [zP]
 refine Late.cl (i := 32) rfl hAl hQ (fun w32 e32 E32 K hK => ?_);go_simp
 (replace hq := hq.ext e32; replace hs := hs.ext e32; replace hp := hp.ext e32; replace hi := hi.ext e32; replace hb := hb.ext e32; replace hc := hc.ext e32; replace bx := bx.ext e32; go_at_call 46; refine (ints_call2 hi bx).mono ?_; rintro e wk32 ⟨rfl, hx32⟩; replace hq := hq.ext hx32; replace hs := hs.ext hx32; replace hp := hp.ext hx32; replace hi := hi.ext hx32; replace hb := hb.ext hx32; replace hc := hc.ext hx32)
 refine hK.out _ _ hx32 ?_;clear hK K
 try simp only [zP]
 refine Late.tk (i := 33) (d := some 89) (v := ?v_n) rfl rfl hQ (Or.inl ⟨by rfl, ?y_n⟩) ?_
 case y_n => intro w' hSw;go_simp;try with_reducible rfl
 try simp only [zP]
 refine Late.tk (i := 34) (d := some 90) (v := ?v_o) rfl rfl hQ (Or.inl ⟨by rfl, ?y_o⟩) ?_
 case y_o => intro w' hSw;go_simp;try with_reducible rfl
 try simp only [zP]
 refine Late.tk (i := 35) (d := some 91) (v := ?v_p) rfl rfl hQ (Or.inl ⟨by rfl, ?y_p⟩) ?_
 case y_p => intro w' hSw;have k0 := (b7.ext hSw).c4;go_simp;try with_reducible rfl
 try simp only [zP]
 refine Late.cl (i := 36) rfl hAl hQ (fun w36 e36 E36 K hK => ?_);go_simp
 (replace hq := hq.ext e36; replace hs := hs.ext e36; replace hp := hp.ext e36; replace hi := hi.ext e36; replace hb := hb.ext e36; replace hc := hc.ext e36; go_at_call 30; refine (q_ValidN hb (by omega)).mono ?_; rintro e wk36 ⟨rfl, hx36⟩; replace hq := hq.ext hx36; replace hs := hs.ext hx36; replace hp := hp.ext hx36; replace hi := hi.ext hx36; replace hb := hb.ext hx36; replace hc := hc.ext hx36)
 refine hK.out _ _ hx36 ?_;clear hK K
 try simp only [zP]
 refine Late.tk (i := 37) (d := some 93) (v := ?v_q) rfl rfl hQ (Or.inl ⟨by rfl, ?y_q⟩) ?_
 case y_q => intro w' hSw;go_simp;try with_reducible rfl
 try simp only [zP]
 refine Late.tk (i := 38) (d := some 94) (v := ?v_r) rfl rfl hQ (Or.inl ⟨by rfl, ?y_r⟩) ?_
 case y_r => intro w' hSw;go_simp;try with_reducible rfl
 try simp only [zP]
 refine Late.tk (i := 39) (d := some 95) (v := ?v_s) rfl rfl hQ (Or.inl ⟨by rfl, ?y_s⟩) ?_
 case y_s => intro w' hSw;have k0 := (b7.ext hSw).c4;go_simp;try with_reducible rfl
 try simp only [zP]
 refine Late.cl (i := 40) rfl hAl hQ (fun w40 e40 E40 K hK => ?_);go_simp
 (replace hq := hq.ext e40; replace hs := hs.ext e40; replace hp := hp.ext e40; replace hi := hi.ext e40; replace hb := hb.ext e40; replace hc := hc.ext e40; go_at_call 47; refine (q_Frac 5 2 (by omega) (by omega) (by omega) (by omega)).mono ?_; rintro e wk40 ⟨s5, A5, n5, c5, t5, B5, m5, d5, rfl, h5, hx40⟩; replace hq := hq.ext hx40; replace hs := hs.ext hx40; replace hp := hp.ext hx40; replace hi := hi.ext hx40; replace hb := hb.ext hx40; replace hc := hc.ext hx40)
 refine hK.out _ _ hx40 ?_;clear hK K
 try simp only [zP]
 refine Late.cl (i := 41) rfl hAl hQ (fun w41 e41 E41 K hK => ?_);go_simp
 (replace hq := hq.ext e41; replace hs := hs.ext e41; replace hp := hp.ext e41; replace hi := hi.ext e41; replace hb := hb.ext e41; replace hc := hc.ext e41; replace h5 := h5.ext e41; go_at_call 31; refine (cm_call hb h5).mono ?_; rintro e wk41 ⟨rfl, hx41⟩; replace hq := hq.ext hx41; replace hs := hs.ext hx41; replace hp := hp.ext hx41; replace hi := hi.ext hx41; replace hb := hb.ext hx41; replace hc := hc.ext hx41; replace h5 := h5.ext hx41)
 refine hK.out _ _ hx41 ?_;clear hK K
 try simp only [zP]
 refine Late.tk (i := 42) (d := some 98) (v := ?v_t) rfl rfl hQ (Or.inl ⟨by rfl, ?y_t⟩) ?_
 case y_t => intro w' hSw;go_simp;try with_reducible rfl
 try simp only [zP]
 refine Late.tk (i := 43) (d := some 99) (v := ?v_u) rfl rfl hQ (Or.inl ⟨by rfl, ?y_u⟩) ?_
 case y_u => intro w' hSw;go_simp;try with_reducible rfl
 try simp only [zP]
 refine Late.tk (i := 44) (d := some 100) (v := ?v_v) rfl rfl hQ (Or.inl ⟨by rfl, ?y_v⟩) ?_
 case y_v => intro w' hSw;go_simp;try with_reducible rfl
 try simp only [zP]
 refine Late.tk (i := 45) (d := some 101) (v := ?v_w) rfl rfl hQ (Or.inl ⟨by rfl, ?y_w⟩) ?_
 case y_w => intro w' hSw;go_simp;try with_reducible rfl
 try simp only [zP]
 refine Late.tk (i := 46) (d := some 102) (v := ?v_x) rfl rfl hQ (Or.inl ⟨by rfl, ?y_x⟩) ?_
 case y_x => intro w' hSw;go_simp;try with_reducible rfl
 try simp only [zP]
 refine Late.tk (i := 47) (d := some 103) (v := ?v_y) rfl rfl hQ (Or.inl ⟨by rfl, ?y_y⟩) ?_
 case y_y => intro w' hSw;go_simp;try with_reducible rfl
 try simp only [zP]
 refine Late.tk (i := 48) (d := some 104) (v := ?v_z) rfl rfl hQ (Or.inl ⟨by rfl, ?y_z⟩) ?_
 case y_z => intro w' hSw;go_simp;try with_reducible rfl
 try simp only [zP]
 refine Late.cl (i := 49) rfl hAl hQ (fun w49 e49 E49 K hK => ?_);go_simp;replace hq := hq.ext e49;replace hs := hs.ext e49;replace hp := hp.ext e49;replace hi := hi.ext e49;replace hb := hb.ext e49;replace hc := hc.ext e49;have y49 := (Ext.refl w49).alloc (.cells #[.int .i64 (1), .int .i64 (1), .int .i64 (2), .int .i64 (1), .int .i64 (1), .int .i64 (1)] 53);have bx := Box.new w49 53 #[.int .i64 (1), .int .i64 (1), .int .i64 (2), .int .i64 (1), .int .i64 (1), .int .i64 (1)];replace hq := hq.ext y49;replace hs := hs.ext y49;replace hp := hp.ext y49;replace hi := hi.ext y49;replace hb := hb.ext y49;replace hc := hc.ext y49;obtain ⟨g49, hg49⟩ : ∃ g, w49.heap.size = g := ⟨_, rfl⟩;rw [hg49] at bx ⊢;clear hg49;refine hK.out _ _ y49 ?_;clear hK K
 try simp only [zP]
 refine Late.cl (i := 50) rfl hAl hQ (fun w50 e50 E50 K hK => ?_);go_simp
 (replace hq := hq.ext e50; replace hs := hs.ext e50; replace hp := hp.ext e50; replace hi := hi.ext e50; replace hb := hb.ext e50; replace hc := hc.ext e50; replace bx := bx.ext e50; go_at_call 43; refine (rats10 bx).mono ?_; rintro e wk50 ⟨Aq10, nq10, cq10, rfl, q10, hx50⟩; replace hq := hq.ext hx50; replace hs := hs.ext hx50; replace hp := hp.ext hx50; replace hi := hi.ext hx50; replace hb := hb.ext hx50; replace hc := hc.ext hx50; have hnq10 : nq10 = 3 := q10.len.symm; subst hnq10)
 refine hK.out _ _ hx50 ?_;clear hK K
 try simp only [zP]
 refine Late.cl (i := 51) rfl hAl hQ (fun w51 e51 E51 K hK => ?_);go_simp
 (replace hq := hq.ext e51; replace hs := hs.ext e51; replace hp := hp.ext e51; replace hi := hi.ext e51; replace hb := hb.ext e51; replace hc := hc.ext e51; replace q10 := q10.ext e51; go_at_call 45; refine (eq_call hc q10 rfl (by omega) (by omega) (by omega) (by omega) (by omega)).mono ?_; rintro e wk51 ⟨rfl, hx51⟩; replace hq := hq.ext hx51; replace hs := hs.ext hx51; replace hp := hp.ext hx51; replace hi := hi.ext hx51; replace hb := hb.ext hx51; replace hc := hc.ext hx51; replace q10 := q10.ext hx51)
 refine hK.out _ _ hx51 ?_;clear hK K
 try simp only [zP]
 refine Late.tk (i := 52) (d := some 108) (v := ?v_10) rfl rfl hQ (Or.inl ⟨by rfl, ?y_10⟩) ?_
 case y_10 => intro w' hSw;go_simp;try with_reducible rfl
 try simp only [zP]
 refine Late.tk (i := 53) (d := some 0) (v := ?v_11) rfl rfl hQ (Or.inl ⟨by rfl, ?y_11⟩) ?_
 case y_11 => intro w' hSw;go_simp;try with_reducible rfl
 try simp only [zP]
 refine Late.d0 (fun wz ez Ez => ?_);clear hAl hQ ES
 go_wp2_with fail
 go_ret
 exact ⟨rfl, ext.trans Ez⟩
end
section
open Go.ChangeShapes Go.WideShapes Go.ChangeAt Go.RowKit Go.Joins
theorem Tryz.own : ownKnob Tryz.prog.godebug = none := by kernel_rfl
theorem Tryz.laidOut : laidOutB Tryz.prog = true := by kernel_rfl
theorem Tryz.cellsI : Tryz.prog.cellsOf 25 = 2 := by kernel_rfl
theorem Tryz.cellsW : Tryz.prog.cellsOf 106 = 1 := by kernel_rfl
section
variable {H : Type} {enc : TypeId × Value -> H} {W : World} {base : Nat} {held : Bool}
theorem open_words {m : Nat} {v : Value} {y : DataW H × List MemPlace} (h : DataW.trod enc Tryz.prog W base (fun _ => true) held m 23 [v] = some y) :
  ∃ A n c xs, v = .slice A n c /\ List.length xs = n /\ Rd W A xs /\ n <= c /\ c <= maxLen := by
 rcases open_ints Tryz.underlying23 Tryz.underlying106 Tryz.cellsW h with ⟨hcs, _⟩ | ⟨a, len, cap, zs, hcs, _, hl, hm, hz, _, hcell, hwf⟩
 ·injection hcs with hcs _
  subst hcs;exact ⟨none, 0, 0, [], rfl, rfl, Rd.nil _ _, Nat.le_refl _, Nat.zero_le _⟩
 ·injection hcs with hcs _
  subst hcs;simp only [if_true] at hz
  have hb : ∀ n ∈ zs, 0 <= n /\ n <= 4294967295 := by
   intro n hn;have := hwf n hn;simp [Lit.wf, IntKind.min, IntKind.max, IntKind.bits, IntKind.signed] at this;omega
  refine ⟨some a, len, cap, (zs.take len).map Int.toNat, rfl, by simp; omega, ⟨?_, ?_⟩, hl, hm⟩
  ·intro x hx
   obtain ⟨n, hn, rfl⟩ := List.mem_map.1 hx;have := hb n (List.mem_of_mem_take hn);omega
  ·intro hne
   have hpos : 0 < zs.length := by
    rcases Nat.eq_zero_or_pos zs.length with h0 | h0
    ·exfalso
     apply hne
     have : zs = [] := List.eq_nil_of_length_eq_zero h0;rw [this]; simp
    ·exact h0
   obtain ⟨b, off, spot⟩ := a;have hc0 := hcell 0 hpos
   have hspot : spot = none := by
    cases spot with
    | none => rfl
    | some q => simp [Addr.add, World.cell?] at hc0; split at hc0 <;> simp at hc0
   subst hspot;refine ⟨b, off, rfl, cell_lt (p := ⟨b, off, none⟩) (by simpa [Addr.add] using hc0), fun i hi => ?_⟩;simp only [List.length_map, List.length_take] at hi;have hc := hcell i (by omega);have e1 : (⟨b, off, none⟩ : Addr).add i = ⟨b, off + i, none⟩ := by unfold Addr.add; split <;> simp_all
   rw [e1] at hc;rw [hc];simp only [List.getElem_map, List.getElem_take];have hi2 : i < zs.length := by omega
   have e2 : zs.getD i 0 = zs[i] := by simp [List.getD, hi2]
   rw [e2];have := hb zs[i] (List.getElem_mem hi2)
   congr 2
   omega
end
theorem cellsR : Tryz.prog.cellsOf 27 = 4 := by kernel_rfl
theorem cellsB : Tryz.prog.cellsOf 4 = 1 := by kernel_rfl
theorem cellsS : Tryz.prog.cellsOf 23 = 1 := by kernel_rfl
section
variable {H : Type} {enc : TypeId × Value -> H} {W : World} {base : Nat} {held : Bool}
theorem open_intc {m : Nat} {c0 c1 : Value} {y : DataW H × List MemPlace} (h : DataW.trod enc Tryz.prog W base (fun _ => true) held m 25 [c0, c1] = some y) :
  ∃ s A n c xs, c0 = .bool s /\ c1 = .slice A n c /\ RI W A n c xs := by
 obtain ⟨y0, y1, k, _, _, h0, h1⟩ := trod_struct2 Tryz.underlying25 h;rw [cellsB] at h0;rw [cellsS] at h1;simp only [List.drop_zero, List.drop_succ_cons, List.take_succ_cons, List.take_zero] at h0 h1;obtain ⟨s, e0, _⟩ := DataW.trod_bool Tryz.underlying4 h0
 injection e0 with e0 _
 obtain ⟨A, n, c, xs, rfl, g1, g2, g3, g4⟩ := open_words h1;exact ⟨s, A, n, c, xs, e0, rfl, g1, g2, g3, g4⟩
set_option maxRecDepth 100000 in
theorem open_ratc {m : Nat} {c0 c1 c2 c3 : Value} {y : DataW H × List MemPlace} (h : DataW.trod enc Tryz.prog W base (fun _ => true) held m 27 [c0, c1, c2, c3] = some y) :
  ∃ s A n c t B m d xs ys, c0 = .bool s /\ c1 = .slice A n c /\ c2 = .bool t /\ c3 = .slice B m d /\ RI W A n c xs /\ RI W B m d ys := by
 obtain ⟨y0, y1, k, _, _, h0, h1⟩ := trod_struct2 Tryz.underlying27 h;rw [Tryz.cellsI] at h0 h1;simp only [List.drop_zero, List.drop_succ_cons, List.take_succ_cons, List.take_zero] at h0 h1;obtain ⟨s, A, n, c, xs, rfl, rfl, r1⟩ := open_intc h0;obtain ⟨t, B, m, d, ys, rfl, rfl, r2⟩ := open_intc h1;exact ⟨s, A, n, c, t, B, m, d, xs, ys, rfl, rfl, rfl, rfl, r1, r2⟩
set_option maxRecDepth 100000 in
theorem open_rats {r : Reach} {b0 : Nat} {v : Value} {d : DataW H} {p : List MemPlace} (hv : Value.okWide Tryz.prog W r b0 22 v) (h : DataW.Trod enc Tryz.prog W base (fun _ => true) held 22 v d p) :
  ∃ A n c rs, v = .slice A n c /\ RawP W A n c rs := by
 obtain ⟨A, n, c, rfl⟩ := okWide_slice Tryz.underlying22 hv;obtain ⟨fuel, hf⟩ := h
 rcases Deep.open_slice Tryz.underlying22 hf with ⟨hcs, _⟩ | ⟨a, len, cap, m, k, D, Pl, hcs, _, hl, hm, hmm, _, hx⟩
 ·simp only [Value.cells, List.cons.injEq, Value.slice.injEq, and_true] at hcs
  obtain ⟨rfl, rfl, rfl⟩ := hcs;exact ⟨none, 0, 0, [], rfl, rfl, Nat.le_refl _, Nat.zero_le _, fun h => absurd rfl h⟩
 ·simp only [Value.cells, List.cons.injEq, Value.slice.injEq, and_true] at hcs
  obtain ⟨rfl, rfl, rfl⟩ := hcs;simp only [if_true] at hmm
  have key : ∀ i, i < n -> ∃ r : RawR, RawAt W a.block (a.off + 4 * i) r := by
   intro i hi;obtain ⟨cs', h1, h2⟩ := hx i (by omega);rw [cellsR] at h1;obtain ⟨_, hlen, hc⟩ := World.cells?_some h1
   obtain ⟨c0, c1, c2, c3, rfl⟩ : ∃ c0 c1 c2 c3, cs' = [c0, c1, c2, c3] := by
    rcases cs' with _ | ⟨c0, _ | ⟨c1, _ | ⟨c2, _ | ⟨c3, _ | ⟨c4, l⟩⟩⟩⟩⟩ <;> simp at hlen
    exact ⟨c0, c1, c2, c3, rfl⟩
   obtain ⟨s, A', n', c', t, B', m', d', xs, ys, rfl, rfl, rfl, rfl, r1, r2⟩ := open_ratc h2
   have hs : a.spot = none := by
    cases e : a.spot with
    | none => rfl
    | some q =>
     exfalso
     obtain ⟨cs0, g1, _⟩ := hx 0 (by omega);rw [cellsR] at g1;obtain ⟨_, hlen0, hc0⟩ := World.cells?_some g1;have := hc0 0 (by omega);rw [Nat.zero_mul, Deep.add_add] at this;simp only [Addr.add, Nat.add_zero, if_true] at this;rw [List.getElem?_eq_getElem (by omega)] at this;unfold World.cell? at this;rw [e] at this
     split at this <;> simp at this
   have hadd : ∀ j, j < 4 -> (a.add (i * 4)).add j = ⟨a.block, a.off + 4 * i + j, none⟩ := by
    intro j _;rw [Deep.add_add];unfold Addr.add;obtain ⟨ab, ao, asp⟩ := a;simp only at hs;subst hs
    split
    ·rename_i h0
     have : i * 4 + j = 0 := h0;simp only [Addr.mk.injEq, and_true, true_and];omega
    ·simp only [Addr.mk.injEq, and_true, true_and]
     omega
   have q0 := hc 0 (by omega);have q1 := hc 1 (by omega);have q2 := hc 2 (by omega);have q3 := hc 3 (by omega);rw [hadd _ (by omega)] at q0 q1 q2 q3;exact ⟨⟨s, xs, t, ys⟩, A', n', c', B', m', d', q0, q1, q2, q3, r1, r2⟩
  haveI : Inhabited RawR := ⟨⟨false, [], false, []⟩⟩
  obtain ⟨F, hF⟩ := Deep.choose_lt (n := n) (α := RawR) (p := fun i r => RawAt W a.block (a.off + 4 * i) r) key;refine ⟨some a, n, c, (List.range n).map F, rfl, by simp, hl, hm, fun hne => ?_⟩
  have hpos : 0 < n := by
   rcases Nat.eq_zero_or_pos n with h0 | h0
   ·exact absurd (by rw [h0]; rfl) hne
   ·exact h0
  have hs : a.spot = none := by
   cases e : a.spot with
   | none => rfl
   | some q =>
    exfalso
    obtain ⟨cs0, g1, _⟩ := hx 0 (by omega);rw [cellsR] at g1;obtain ⟨_, hlen0, hc0⟩ := World.cells?_some g1;have := hc0 0 (by omega);rw [Nat.zero_mul, Deep.add_add] at this;simp only [Addr.add, Nat.add_zero, if_true] at this;rw [List.getElem?_eq_getElem (by omega)] at this;unfold World.cell? at this;rw [e] at this
    split at this <;> simp at this
  refine ⟨a.block, a.off, ?_, fun i hi => ?_⟩
  ·obtain ⟨ab, ao, asp⟩ := a
   simp only at hs;subst hs
   rfl
  ·have hi2 : i < n := by simpa using hi
   have := hF i hi2
   simpa using this
end
def laidI : List (String × DataW Unit) := [("math/bits.deBruijn64tab", Rows.laid_math_bits_deBruijn64tab)]
def tabY : List Int := Lib.deBruijn64tab.map fun n : Nat => (n : Int)
theorem tabY_at : ∀ j : Fin 64, tabY.getD j.val 0 = ((Lib.deBruijn64tab.getD j.val 0 : Nat) : Int) := by decide +kernel
theorem laidI_tab : laidI = [("math/bits.deBruijn64tab", Lib.tabData .u8 tabY)] := by kernel_rfl
theorem gTab : Tryz.prog.globalNamed "math/bits.deBruijn64tab" = some 0 := by kernel_rfl
theorem tTab : (Tryz.prog.globals[0]?).map (·.type) = some 177 := by kernel_rfl
theorem tab_of_laid {W : World} (h : laidMet Tryz.prog laidI W) : Tab W := by
 rw [laidI_tab] at h;have hT := Lib.tabIs_of_head gTab tTab Tryz.underlying177 Tryz.underlying5 (by kernel_rfl) (by kernel_rfl) h;intro j hj;have := hT.cell gTab j (by rw [show tabY.length = 64 from by decide +kernel]; exact hj);rw [tabY_at ⟨j, hj⟩] at this;exact this
theorem doorI_met (os : Os) (args : Array Value) : laidMetH Tryz.prog laidI ((World.doorLaid Tryz.prog 400 os).forCall (fun _ _ => 0) ⟨#[], args, []⟩).memory :=
 laidMetH_of_parts3 (fuel := 8) (laidMet_of_run' 8 (by kernel_rfl) (by kernel_rfl)) (by kernel_rfl) (by kernel_rfl)
theorem tab_of_laidH {W : World} (h : laidMetH Tryz.prog laidI W) : Tab W := by
 rw [MakeChecks.laidMetH_plain _ _ _ (by kernel_rfl)] at h;exact tab_of_laid h
end
end Go.Proofs.YtpeddoaknfjbbaaGreatDoor
