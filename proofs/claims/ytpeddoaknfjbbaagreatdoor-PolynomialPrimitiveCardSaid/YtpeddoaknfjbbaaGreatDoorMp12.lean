/- Walks and laws, a part. -/
import Derived.Test.YtpeddoaknfjbbaaGreatDoorMp11
import Derived.Test.YtpeddoaknfjbbaaGreatDoorMp10
import Derived.Test.YtpeddoaknfjbbaaGreatDoorMp7
import Derived.Test.YtpeddoaknfjbbaaGreatDoorMp9
import Derived.Test.YtpeddoaknfjbbaaGreatDoorMp2
import Derived.Test.YtpeddoaknfjbbaaGreatDoorMp8
import Derived.Test.YtpeddoaknfjbbaaGreatDoorMp0
import Derived.Test.YtpeddoaknfjbbaaGreatDoorMp4
set_option linter.unusedSimpArgs false
set_option linter.unusedVariables false
set_option maxHeartbeats 64000000
namespace Go.Proofs.YtpeddoaknfjbbaaGreatDoor
section
open Go.RowKit
attribute [local go_sem ↓] Go.wp_at_zero Go.wp_at_succ
def exQ : List Rat := [0, 2, -4, 2]
def exQd : List Rat := [2, -8, 6]
def exG : List Rat := [-1, 1]
def exH : List Rat := [0, -2, 2]
def exS : List Rat := [0, -1, 1]
theorem exQ_prim : primI (trimI (numsP exQ)) = exA /\ trimI (numsP exQ) ≠ [] := by decide +kernel
theorem exQd_prim : primI (trimI (numsP exQd)) = exB /\ trimI (numsP exQd) ≠ [] := by decide +kernel
theorem exQ_size : SizeP exQ 1 := ⟨by decide +kernel, by decide +kernel⟩
theorem exQd_size : SizeP exQd 1 := ⟨by decide +kernel, by decide +kernel⟩
theorem exG_size : SizeP exG 1 := ⟨by decide +kernel, by decide +kernel⟩
theorem exG_eq : exD.map (fun z => mkQ z (exD.getLastD 0)) = exG := by decide +kernel
theorem exQ_der : trimP (derP exQ) = exQd := by decide +kernel
theorem exQ_nums : trimI (numsP exQ) = [0, 2, -4, 2] /\ trimI (numsP exG) = [-1, 1] := by decide +kernel
theorem exH_div : divC [0, 2, -4, 2] [-1] 1 3 1 1 = true := by decide +kernel
theorem exH_eq : trimP (scaleP (divS [0, 2, -4, 2] [-1] 1 3 3).2.2 (mkQ ((denP exG : Nat) : Int) ((denP exQ : Nat) : Int))) = exH := by decide +kernel
theorem exS_eq : trimP (scaleP exH (((1 : Int) : Rat) / exH.getLastD 0)) = exS /\ exH.getLastD 0 ≠ 0 := by decide +kernel
set_option maxRecDepth 100000 in
theorem p_GCD_ex {w : World} {A B : Option Addr} {c d L M : Nat} (h : Pol w A 4 c exQ L) (h' : Pol w B 3 d exQd M) (hL : L <= 60) (hM : M <= 60) (hT : Tab w) : Calls Tryz.prog 90 #[.slice A 4 c, .slice B 3 d] w (RetPol exG 1 w) := by
 go_enter Tryz.func90, Tryz.ntmps90
 go_wp2_with fail
 refine (p_PrimitiveP h hL (by omega) exQ_size (by omega) exQ_prim.2 hT).mono ?_;rw [exQ_prim.1];rintro e V1 ⟨A1, n1, c1, rfl, h1, x1⟩;have hn1 : n1 = 4 := h1.len.symm;subst hn1
 go_wp2_with fail
 refine (p_PrimitiveP (h'.ext x1) hM (by omega) exQd_size (by omega) exQd_prim.2 (hT.ext x1)).mono ?_;rw [exQd_prim.1];rintro e V2 ⟨A2, n2, c2, rfl, h2, x2⟩;have hn2 : n2 = 3 := h2.len.symm;subst hn2
 go_wp2_with fail
 refine (p_commonD_ex (h1.ext x2) h2 (hT.ext (x1.trans x2))).mono ?_;rintro e V3 ⟨A3, n3, c3, rfl, h3, x3⟩;have hn3 : n3 = 2 := h3.len.symm;subst hn3
 go_wp2_with fail
 refine (p_lastN h3 (by omega) (by omega)).mono ?_;rintro e V4 ⟨s4, A4, n4, c4, rfl, h4, x4⟩;have hT4 := hT.ext (((x1.trans x2).trans x3).trans x4)
 go_wp2_with fail
 refine (p_join (h3.ext x4) h4 (by decide) (by omega) (by omega) (by omega) hT4).mono ?_;rw [exG_eq];rintro e V5 ⟨A5, n5, c5, rfl, h5, x5⟩
 go_wp2_with fail
 go_ret
 exact ⟨A5, n5, c5, rfl, h5, (((x1.trans x2).trans x3).trans x4).trans x5⟩
set_option maxRecDepth 100000 in
theorem p_Squarefree_ex {w : World} {A : Option Addr} {c L : Nat} (h : Pol w A 4 c exQ L) (hL : L <= 50) (hT : Tab w) : Calls Tryz.prog 44 #[.slice A 4 c] w (RetPol exS 10 w) := by
 go_enter Tryz.func44, Tryz.ntmps44
 go_wp2_with fail
 refine (p_DerP h (by omega) (by omega) hT).mono ?_;rw [exQ_der];rintro e V1 ⟨A1, n1, c1, rfl, h1, x1⟩;have hn1 : n1 = 3 := h1.len.symm;subst hn1
 go_wp2_with fail
 refine (p_GCD_ex (h.ext x1) h1 (by omega) (by omega) (hT.ext x1)).mono ?_;rintro e V2 ⟨A2, n2, c2, rfl, h2, x2⟩;have hn2 : n2 = 2 := h2.len.symm;subst hn2;replace h := h.ext (x1.trans x2);replace hT := hT.ext (x1.trans x2);have HC := p_DivModP (X := 1) (Y := 1) (S := 1) (C := 1) (o := 1) (N := 3) (xs := [0, 2, -4, 2]) (ys := [-1, 1]) (os := [-1]) (lead := 1) h h2 (by omega) (by omega) (by omega) (by omega) exQ_size exG_size (by omega) (by omega) exQ_nums.1 exQ_nums.2 (by decide) rfl rfl rfl rfl (by decide) (divC_ok exH_div) (by omega) (by omega) (by omega) hT;rw [exH_eq] at HC;have HC := Lib.hid HC
 go_wp2_with fail
 refine HC.out.mono ?_;clear HC;rintro e V3 ⟨A3, n3, c3, B3, m3, d3, rfl, h3, _, x3⟩;have hn3 : n3 = 3 := h3.len.symm;subst hn3
 go_wp2_with fail
 refine (p_FromIntR 1 (by omega) (by omega)).mono ?_;rintro e V4 ⟨s4, A4, n4, c4, t4, B4, m4, d4, rfl, h4, x4⟩
 go_wp2_with fail
 refine (p_lastR (h3.ext x4) (by omega) (by omega)).mono ?_;rintro e V5 ⟨s5, A5, n5, c5, t5, B5, m5, d5, rfl, h5, x5⟩;have hT5 := hT.ext ((x3.trans x4).trans x5)
 go_wp2_with fail
 refine (p_Div_nz (h4.ext x5) h5 (by omega) (by omega) (by omega) hT5 exS_eq.2).mono ?_;rintro e V6 ⟨s6, A6, n6, c6, t6, B6, m6, d6, rfl, h6, x6⟩
 go_upto_region 5 with (fail)
 obtain ⟨W7, hW7, ext7, b7, hz7⟩ := box1 V6 27 #[.bool s6, .slice A6 n6 c6, .bool t6, .slice B6 m6 d6];rw [<- hW7];clear hW7 hz7;generalize V6.heap.size = g7 at b7 ⊢;have q0 := b7.cell 0 _ rfl;have q1 := b7.cell 1 _ rfl;have q2 := b7.cell 2 _ rfl;have q3 := b7.cell 3 _ rfl
 go_wp2_with fail
 refine (p_ScaleP (h3.ext (((x4.trans x5).trans x6).trans ext7)) (h6.ext ext7) (by omega) (by omega) (by omega) (hT5.ext (x6.trans ext7))).mono ?_;rw [exS_eq.1];rintro e V8 ⟨A8, n8, c8, rfl, h8, x8⟩
 go_wp2_with fail
 go_ret
 exact ⟨A8, n8, c8, rfl, h8, (x1.trans x2).trans ((((((x3.trans x4).trans x5).trans x6).trans ext7)).trans x8)⟩
def pv : List (Int × Int) -> List Value
 | [] => []
 | x :: l => .int .i64 x.1 :: .int .i64 x.2 :: pv l
theorem pv_at : ∀ (ps : List (Int × Int)) (k : Nat) (h : k < ps.length), (pv ps)[2 * k]? = some (.int .i64 ps[k].1) /\ (pv ps)[2 * k + 1]? = some (.int .i64 ps[k].2)
 | x :: l, 0, _ => ⟨rfl, rfl⟩
 | x :: l, k + 1, h => by
  have hl : k < l.length := by simpa using h
  have := pv_at l k hl;refine ⟨?_, ?_⟩
  ·rw [show 2 * (k + 1) = 2 * k + 1 + 1 by omega]; exact this.1
  ·rw [show 2 * (k + 1) + 1 = 2 * k + 1 + 1 + 1 by omega]; exact this.2
theorem pv_cell {w : World} {g : Nat} {ps : List (Int × Int)} (hb : Box w g 53 (pv ps).toArray) {k : Nat} (h : k < ps.length) : w.cell? ⟨g, k * 2, none⟩ = some (.int .i64 ps[k].1) /\ w.cell? ⟨g, k * 2 + 1, none⟩ = some (.int .i64 ps[k].2) := by
 have := pv_at ps k h;rw [Nat.mul_comm];exact ⟨hb.cell _ _ (by simpa using this.1), hb.cell _ _ (by simpa using this.2)⟩
def fracs (ps : List (Int × Int)) : List Rat := ps.map fun x => mkQ x.1 x.2
set_option maxRecDepth 100000 in
theorem p_rats {w : World} {g n : Nat} {ps : List (Int × Int)} (hb : Box w g 53 (pv ps).toArray) (hl : ps.length = n) (hn : n <= 100) (hx : ∀ x ∈ ps, (-9223372036854775808 <= x.1 /\ x.1 < 9223372036854775808) /\ -9223372036854775808 <= x.2 /\ x.2 < 9223372036854775808) : Calls Tryz.prog 43 #[.slice (some ⟨g, 0, none⟩) n n] w (RetPol (fracs ps) 2 w) := by
 have HX := Lib.hid hx;have HL := Lib.hid hl;clear hx hl
 go_enter Tryz.func43, Tryz.ntmps43
 go_wp2_with fail
 go_loopw [3, 8] (fun v i wr => ∃ k : Nat, k <= n /\ i = .int .i64 (k : Int) /\ Ext w wr /\ Row4 wr w.heap.size v (fracs (ps.take k)) 2) (fun _ i _ => n - (intOf i).toNat)
 case atStart => exact ⟨0, Nat.zero_le _, rfl, Ext.refl w, by rw [List.take_zero]; exact Row4.nil _ _ _⟩
 case round =>
  obtain ⟨k, hk, rfl, extr, hrow⟩ := hrel
  rename_i v _
  by_cases hlt : k < n
  ·have hkI : (k : Int) < (n : Int) := by omega
   have hkl : k < ps.length := by rw [HL.out]; exact hlt
   obtain ⟨e0, e1⟩ := pv_cell (hb.ext extr) hkl;have HT := Lib.hid (show fracs (ps.take (k + 1)) = fracs (ps.take k) ++ [mkQ ps[k].1 ps[k].2] by rw [List.take_succ_eq_append_getElem hkl]; unfold fracs; rw [List.map_append]; rfl);have HB := Lib.hid (HX.out _ (List.getElem_mem hkl));have hlen : (fracs (ps.take k)).length <= 1000 := by unfold fracs; rw [List.length_map, List.length_take]; omega
   generalize ps[k] = x at e0 e1 HT HB;obtain ⟨a, b⟩ := x;replace e0 : wr.cell? ⟨g, k * 2, none⟩ = some (.int .i64 a) := e0;replace e1 : wr.cell? ⟨g, k * 2 + 1, none⟩ = some (.int .i64 b) := e1
   go_upto_region 5 with (fail)
   obtain ⟨W4, hW4, ext4, b8, hz4⟩ := box1 wr 53 #[.int .i64 a, .int .i64 b];rw [<- hW4];clear hW4 hz4 e0 e1;replace extr := extr.trans ext4;replace hrow := hrow.ext ext4;clear ext4;have y0 := b8.cell 0 (.int .i64 a) rfl;have y1 := b8.cell 1 (.int .i64 b) rfl
   go_wp2_with fail
   refine (q_Frac a b HB.out.1.1 HB.out.1.2 HB.out.2.1 HB.out.2.2).mono ?_;rintro e W5 ⟨s7, A7, n7, c7, t7, B7, m7, d7, rfl, h7, ext5⟩;clear y0 y1;have ha5 := (ext5).alloc (.cells #[.bool s7, .slice A7 n7 c7, .bool t7, .slice B7 m7 d7] 27);replace extr := extr.trans ha5;replace hrow := hrow.ext ha5;replace h7 := h7.ext ((Ext.refl W5).alloc (.cells #[.bool s7, .slice A7 n7 c7, .bool t7, .slice B7 m7 d7] 27));clear ext5 ha5 b8
   go_wp2_with (at_builtin; refine wpList_append_rat rfl _ _ rfl rfl rfl hrow h7 (Box.new W5 _ _) hlen extr.size ?_; intro v6 W6 hrow6 hgr hob)
   go_roundw
   case rel =>
    refine ⟨k + 1, by omega, by go_num, Below.grown extr hgr extr.size (fun k hk => (hrow.block k hk).1), ?_⟩;rw [HT.out];exact hrow6
   case measure => simp [intOf]; omega
  ·have hkn : k = n := by omega
   subst hkn;rw [List.take_of_length_le (Nat.le_of_eq HL.out)] at hrow;have hkI : (k : Int) <= (k : Int) := Int.le_refl _;obtain ⟨A, m, c, rfl, hp⟩ := hrow.pol
   go_wp2_with fail
   go_ret
   exact ⟨A, m, c, rfl, hp, extr⟩
def iv8 (ws : List Int) : List Value := ws.map fun x => .int .i64 x
theorem iv8_cell {w : World} {g : Nat} {ws : List Int} (hb : Box w g 2 (iv8 ws).toArray) {k : Nat} (h : k < ws.length) : w.cell? ⟨g, k, none⟩ = some (.int .i64 ws[k]) := hb.cell _ _ (by simp [iv8, h])
set_option maxRecDepth 100000 in
theorem p_ints {w : World} {A : Option Addr} {g n c L : Nat} {ws : List Int} (h : IPol w A n c ws L) (hL : L <= 1000) (hb : Box w g 2 (iv8 ws).toArray) (hn : n <= 100) (hx : ∀ x ∈ ws, -9223372036854775808 <= x /\ x < 9223372036854775808) : Calls Tryz.prog 46 #[.slice A n c, .slice (some ⟨g, 0, none⟩) n n] w fun e w' => e = .returned (.bool true) /\ Ext w w' := by
 have HX := Lib.hid hx;have HL := Lib.hid h.len;have hm : ∀ a : Int, (a - a).sign = 0 := fun a => by rw [Int.sub_self]; rfl
 clear hx
 go_enter Tryz.func46, Tryz.ntmps46
 go_wp2_with fail
 go_loopw [14] (fun i wr => ∃ k : Nat, k <= n /\ i = .int .i64 (k : Int) /\ Ext w wr) (fun i _ => n - (intOf i).toNat)
 case atStart => exact ⟨0, Nat.zero_le _, rfl, Ext.refl w⟩
 case round =>
  obtain ⟨k, hk, rfl, extr⟩ := hrel
  by_cases hlt : k < n
  ·have hkI : (k : Int) < (n : Int) := by omega
   have hkl : k < ws.length := by rw [HL.out]; exact hlt
   obtain ⟨b, off, hA, hr⟩ := (h.ext extr).at_ (fun e => by rw [e] at hkl; exact absurd hkl (Nat.not_lt_zero _));subst hA;obtain ⟨s9, A9, n9, c9, z0', z1', hz⟩ := hr.at_ k hkl;have z0 : wr.cell? ⟨b, off + k * 2, none⟩ = some (.bool s9) := by rw [Nat.mul_comm]; exact z0'
   have z1 : wr.cell? ⟨b, off + k * 2 + 1, none⟩ = some (.slice A9 n9 c9) := by rw [Nat.mul_comm]; exact z1'
   clear z0' z1';have e0 := iv8_cell (hb.ext extr) hkl;have HB := Lib.hid (HX.out _ (List.getElem_mem hkl))
   have HCM : ∀ (W : World) s1 A1 n1 c1, NI W ws[k] 2 s1 A1 n1 c1 -> NI W ws[k] L s9 A9 n9 c9 -> Calls Tryz.prog 74 #[.agg #[.bool s9, .slice A9 n9 c9], .agg #[.bool s1, .slice A1 n1 c1]] W fun e w' => e = .returned (.int .i64 0) /\ Ext W w' := by
    intro W s1 A1 n1 c1 h1 h2;have := q_Cmp h2 h1 (by omega) (by omega);rw [hm] at this;exact this
   go_upto_region 6 with (fail)
   have ES0 := Ext.refl wr;refine wp_region_held_drew (S := Ext wr) (by kernel_rfl) ES0.drew (fun ES => ?_);clear ES0;refine Late.s0 ES (fun hAl hQ => ?_);refine Late.t 0 19 ?v_0 hQ ?y_0 ?_
   case y_0 => intro w' hSw;have l0 := hSw.cellv z0;have l1 := hSw.cellv z1;go_simp;try rfl
   try simp only [zP]
   refine Late.t 1 20 ?v_1 hQ ?y_1 ?_
   case y_1 => intro w' hSw;have l0 := hSw.cellv z0;have l1 := hSw.cellv z1;go_simp;try rfl
   try simp only [zP]
   refine Late.t 2 21 ?v_2 hQ ?y_2 ?_
   case y_2 => intro w' hSw;have l0 := hSw.cellv z0;have l1 := hSw.cellv z1;go_simp;try rfl
   try simp only [zP]
   refine Late.t 3 22 ?v_3 hQ ?y_3 ?_
   case y_3 => intro w' hSw;have l0 := hSw.cellv z0;have l1 := hSw.cellv z1;go_simp;try rfl
   try simp only [zP]
   refine Late.t 4 23 ?v_4 hQ ?y_4 ?_
   case y_4 => intro w' hSw;have l0 := hSw.cellv z0;have l1 := hSw.cellv z1;go_simp;try rfl
   try simp only [zP]
   refine Late.cl (i := 5) rfl hAl hQ (fun w5 e5 E5 K hK => ?_);go_simp
   (go_at_call 81; refine (q_FromInt ws[k] HB.out.1 HB.out.2).mono ?_; rintro e wa ⟨s1, A1, n1, c1, rfl, h1, hx0⟩)
   refine hK.out _ _ hx0 ?_;clear hK K
   try simp only [zP]
   refine Late.cl (i := 6) rfl hAl hQ (fun w6 e6 E6 K hK => ?_);go_simp
   (go_at_call 74; refine (HCM _ _ _ _ _ (h1.ext e6) (hz.ext E6)).mono ?_; rintro e wb ⟨rfl, hx1⟩)
   refine hK.out _ _ hx1 ?_;clear hK K
   try simp only [zP]
   refine Late.t 7 26 ?v_5 hQ ?y_5 ?_
   case y_5 => intro w' hSw;go_simp;try rfl
   try simp only [zP]
   refine Late.d0 (fun wz ez Ez => ?_);clear hAl hQ ES;have hxz := extr.trans Ez
   go_wp2_with fail
   go_roundw
   case rel => exact ⟨k + 1, by omega, by go_num, hxz⟩
   case measure => simp [intOf]; omega
  ·have hkn : k = n := by omega
   subst hkn;have hkI : (k : Int) <= (k : Int) := Int.le_refl _
   go_wp2_with fail
   go_ret
   exact ⟨rfl, extr⟩
section
variable {w w' : World} {q x : Rat} {L M : Nat} {s t : Bool} {A B : Option Addr} {n c m d : Nat} {sx tx : Bool} {Ax Bx : Option Addr} {nx cx mx dx : Nat} {qs ps : List Rat}
theorem sub_nil {qs ps : List Rat} (hl : qs.length = ps.length) : trimP (sumP qs (negP ps)) = [] ↔ qs = ps := by
 constructor
 ·intro h
  refine List.ext_getElem hl (fun i h1 h2 => ?_);have e : atP (sumP qs (negP ps)) i = 0 := by rw [<- atP_trimP, h]; rfl
  rw [atP_sumP, atP_lt h1, atP_lt (l := negP ps) (by unfold negP; rw [List.length_map]; exact h2)] at e;simp only [negP, List.getElem_map] at e;have e2 : qs[i] + -ps[i] + ps[i] = ps[i] := by rw [e, Rat.zero_add]
  rwa [Rat.add_assoc, Rat.neg_add_cancel, Rat.add_zero] at e2
 ·intro h
  rw [<- h, sumP_negP, trimP_zeros]
theorem q_ValidN (h : NR w q L s A n c t B m d) (hL : L <= 3000) : Calls Tryz.prog 30 #[.agg #[.bool s, .slice A n c, .bool t, .slice B m d]] w fun e w' => e = .returned (.bool true) /\ Ext w w' := by
 obtain ⟨xs, ys, r1, r2, hv, hn, hm, _⟩ := h.raw;refine (q_ValidRaw r1 r2 (by omega) (by omega)).mono ?_;rintro e V ⟨rfl, hx⟩;exact ⟨by rw [hv], hx⟩
theorem q_EqualP (h : Pol w A n c qs L) (h' : Pol w B m d ps M) (hL2 : 2 <= L) (hL : L <= 350) (hM : M <= 350) (hn : n <= 1000) (hm : m <= 1000) : Calls Tryz.prog 45 #[.slice A n c, .slice B m d] w fun e w' => e = .returned (.bool (decide (qs = ps))) /\ Ext w w' := by
 by_cases hlt : n = m
 ·have hd : decide (trimP (sumP qs (negP ps)) = []) = decide (qs = ps) := decide_eq_decide.2 (sub_nil (by rw [h.len, h'.len]; exact hlt))
  subst hlt;obtain ⟨b, hb⟩ : ∃ b, decide (qs = ps) = b := ⟨_, rfl⟩;rw [hb] at hd;rw [hb];have HD := Lib.hid hd;clear hd hb
  go_enter Tryz.func45, Tryz.ntmps45
  go_wp2_with fail
  refine (q_SameP h h' hL2 hL hM hn hm).mono ?_;rintro e V ⟨rfl, hxt⟩;rw [HD.out]
  go_wp2_with fail
  go_ret
  exact ⟨rfl, hxt⟩
 ·have hd : decide (qs = ps) = false := decide_eq_false (fun e => hlt (by rw [<- h.len, <- h'.len, e]))
  rw [hd];clear hd;have hb : ((n : Int) == (m : Int)) = false := beq_eq_false_iff_ne.2 (by omega)
  go_enter Tryz.func45, Tryz.ntmps45
  go_wp2_with fail
  go_ret
  exact ⟨rfl, Ext.refl _⟩
end
def ex0 : List Rat := [(-1), (0), (1)]
theorem ex0_fr : fracs [(-1, 1), (0, 1), (1, 1)] = ex0 := by decide +kernel
theorem rats0 {w : World} {g : Nat} (hb : Box w g 53 #[.int .i64 (-1), .int .i64 (1), .int .i64 (0), .int .i64 (1), .int .i64 (1), .int .i64 (1)]) : Calls Tryz.prog 43 #[.slice (some ⟨g, 0, none⟩) 3 3] w (RetPol ex0 2 w) := by
 have := p_rats (n := 3) (ps := [(-1, 1), (0, 1), (1, 1)]) hb rfl (by omega) (by decide)
 rwa [ex0_fr] at this
def ex1 : List Rat := [(2), (2)]
theorem ex1_fr : fracs [(2, 1), (2, 1)] = ex1 := by decide +kernel
theorem rats1 {w : World} {g : Nat} (hb : Box w g 53 #[.int .i64 (2), .int .i64 (1), .int .i64 (2), .int .i64 (1)]) : Calls Tryz.prog 43 #[.slice (some ⟨g, 0, none⟩) 2 2] w (RetPol ex1 2 w) := by
 have := p_rats (n := 2) (ps := [(2, 1), (2, 1)]) hb rfl (by omega) (by decide)
 rwa [ex1_fr] at this
def ex2 : List Rat := [(0), (2), (-4), (2)]
theorem ex2_fr : fracs [(0, 1), (2, 1), (-4, 1), (2, 1)] = ex2 := by decide +kernel
theorem rats2 {w : World} {g : Nat} (hb : Box w g 53 #[.int .i64 (0), .int .i64 (1), .int .i64 (2), .int .i64 (1), .int .i64 (-4), .int .i64 (1), .int .i64 (2), .int .i64 (1)]) : Calls Tryz.prog 43 #[.slice (some ⟨g, 0, none⟩) 4 4] w (RetPol ex2 2 w) := by
 have := p_rats (n := 4) (ps := [(0, 1), (2, 1), (-4, 1), (2, 1)]) hb rfl (by omega) (by decide)
 rwa [ex2_fr] at this
def ex3 : List Rat := [(-1 / 3), (1 / 2)]
theorem ex3_fr : fracs [(-1, 3), (1, 2)] = ex3 := by decide +kernel
theorem rats3 {w : World} {g : Nat} (hb : Box w g 53 #[.int .i64 (-1), .int .i64 (3), .int .i64 (1), .int .i64 (2)]) : Calls Tryz.prog 43 #[.slice (some ⟨g, 0, none⟩) 2 2] w (RetPol ex3 2 w) := by
 have := p_rats (n := 2) (ps := [(-1, 3), (1, 2)]) hb rfl (by omega) (by decide)
 rwa [ex3_fr] at this
def ex4 : List Rat := [(0), (-1)]
theorem ex4_fr : fracs [(0, 1), (-1, 1)] = ex4 := by decide +kernel
theorem rats4 {w : World} {g : Nat} (hb : Box w g 53 #[.int .i64 (0), .int .i64 (1), .int .i64 (-1), .int .i64 (1)]) : Calls Tryz.prog 43 #[.slice (some ⟨g, 0, none⟩) 2 2] w (RetPol ex4 2 w) := by
 have := p_rats (n := 2) (ps := [(0, 1), (-1, 1)]) hb rfl (by omega) (by decide)
 rwa [ex4_fr] at this
def ex5 : List Rat := [(1), (-3), (2)]
theorem ex5_fr : fracs [(1, 1), (-3, 1), (2, 1)] = ex5 := by decide +kernel
theorem rats5 {w : World} {g : Nat} (hb : Box w g 53 #[.int .i64 (1), .int .i64 (1), .int .i64 (-3), .int .i64 (1), .int .i64 (2), .int .i64 (1)]) : Calls Tryz.prog 43 #[.slice (some ⟨g, 0, none⟩) 3 3] w (RetPol ex5 2 w) := by
 have := p_rats (n := 3) (ps := [(1, 1), (-3, 1), (2, 1)]) hb rfl (by omega) (by decide)
 rwa [ex5_fr] at this
def ex6 : List Rat := [(0), (0), (1)]
theorem ex6_fr : fracs [(0, 1), (0, 1), (1, 1)] = ex6 := by decide +kernel
theorem rats6 {w : World} {g : Nat} (hb : Box w g 53 #[.int .i64 (0), .int .i64 (1), .int .i64 (0), .int .i64 (1), .int .i64 (1), .int .i64 (1)]) : Calls Tryz.prog 43 #[.slice (some ⟨g, 0, none⟩) 3 3] w (RetPol ex6 2 w) := by
 have := p_rats (n := 3) (ps := [(0, 1), (0, 1), (1, 1)]) hb rfl (by omega) (by decide)
 rwa [ex6_fr] at this
def ex7 : List Rat := [(1), (1)]
theorem ex7_fr : fracs [(1, 1), (1, 1)] = ex7 := by decide +kernel
theorem rats7 {w : World} {g : Nat} (hb : Box w g 53 #[.int .i64 (1), .int .i64 (1), .int .i64 (1), .int .i64 (1)]) : Calls Tryz.prog 43 #[.slice (some ⟨g, 0, none⟩) 2 2] w (RetPol ex7 2 w) := by
 have := p_rats (n := 2) (ps := [(1, 1), (1, 1)]) hb rfl (by omega) (by decide)
 rwa [ex7_fr] at this
def ex8 : List Rat := [(-1 / 2), (1 / 2)]
theorem ex8_fr : fracs [(-1, 2), (1, 2)] = ex8 := by decide +kernel
theorem rats8 {w : World} {g : Nat} (hb : Box w g 53 #[.int .i64 (-1), .int .i64 (2), .int .i64 (1), .int .i64 (2)]) : Calls Tryz.prog 43 #[.slice (some ⟨g, 0, none⟩) 2 2] w (RetPol ex8 2 w) := by
 have := p_rats (n := 2) (ps := [(-1, 2), (1, 2)]) hb rfl (by omega) (by decide)
 rwa [ex8_fr] at this
def ex9 : List Rat := [(0), (-1), (1)]
theorem ex9_fr : fracs [(0, 1), (-1, 1), (1, 1)] = ex9 := by decide +kernel
theorem rats9 {w : World} {g : Nat} (hb : Box w g 53 #[.int .i64 (0), .int .i64 (1), .int .i64 (-1), .int .i64 (1), .int .i64 (1), .int .i64 (1)]) : Calls Tryz.prog 43 #[.slice (some ⟨g, 0, none⟩) 3 3] w (RetPol ex9 2 w) := by
 have := p_rats (n := 3) (ps := [(0, 1), (-1, 1), (1, 1)]) hb rfl (by omega) (by decide)
 rwa [ex9_fr] at this
def ex10 : List Rat := [(1), (2), (1)]
theorem ex10_fr : fracs [(1, 1), (2, 1), (1, 1)] = ex10 := by decide +kernel
theorem rats10 {w : World} {g : Nat} (hb : Box w g 53 #[.int .i64 (1), .int .i64 (1), .int .i64 (2), .int .i64 (1), .int .i64 (1), .int .i64 (1)]) : Calls Tryz.prog 43 #[.slice (some ⟨g, 0, none⟩) 3 3] w (RetPol ex10 2 w) := by
 have := p_rats (n := 3) (ps := [(1, 1), (2, 1), (1, 1)]) hb rfl (by omega) (by decide)
 rwa [ex10_fr] at this
theorem ex0_size : SizeP ex0 1 := ⟨by decide +kernel, by decide +kernel⟩
theorem ex1_size : SizeP ex1 1 := ⟨by decide +kernel, by decide +kernel⟩
theorem ex3_size : SizeP ex3 1 := ⟨by decide +kernel, by decide +kernel⟩
theorem ex4_size : SizeP ex4 1 := ⟨by decide +kernel, by decide +kernel⟩
theorem ex6_size : SizeP ex6 1 := ⟨by decide +kernel, by decide +kernel⟩
theorem ex7_size : SizeP ex7 1 := ⟨by decide +kernel, by decide +kernel⟩
theorem ex01_nums : trimI (numsP ex0) = [-1, 0, 1] /\ trimI (numsP ex1) = [2, 2] := by decide +kernel
theorem ex01_div : divC [-1, 0, 1] [2] 2 2 1 1 = true := by decide +kernel
theorem ex01_q : trimP (scaleP (divS [-1, 0, 1] [2] 2 2 2).2.2 (mkQ ((denP ex1 : Nat) : Int) ((denP ex0 : Nat) : Int))) = ex8 := by decide +kernel
theorem ex01_r : (trimI ((divS [-1, 0, 1] [2] 2 2 2).1.take 1)).map (fun z => mkQ z ((divS [-1, 0, 1] [2] 2 2 2).2.1 * ((denP ex0 : Nat) : Int))) = [] := by decide +kernel
section
variable {w : World} {A B : Option Addr} {c d L M : Nat}
theorem dm_call (h : Pol w A 3 c ex0 2) (h' : Pol w B 2 d ex1 2) (hT : Tab w) : Calls Tryz.prog 33 #[.slice A 3 c, .slice B 2 d] w (RetDM2 ex8 [] 4 3 0 w) := by
 have HC := p_DivModP (X := 1) (Y := 1) (S := 1) (C := 1) (o := 1) (N := 2) (xs := [-1, 0, 1]) (ys := [2, 2]) (os := [2]) (lead := 2) h h' (by omega) (by omega) (by omega) (by omega) ex0_size ex1_size (by omega) (by omega) ex01_nums.1 ex01_nums.2 (by decide) rfl rfl rfl rfl (by decide) (divC_ok ex01_div) (by omega) (by omega) (by omega) hT;rw [ex01_q] at HC;rw [show ([-1, 0, 1] : List Int).length - 2 = 1 from rfl, ex01_r] at HC;exact HC
theorem pr_call1 (h : Pol w A 2 c ex3 2) (hT : Tab w) : Calls Tryz.prog 37 #[.slice A 2 c] w (RetIPol [-2, 3] 1 w) := by
 have HC := p_PrimitiveP h (by omega) (by omega) ex3_size (by omega) (by decide +kernel) hT
 rwa [show primI (trimI (numsP ex3)) = [-2, 3] by decide +kernel] at HC
theorem pr_call2 (h : Pol w A 2 c ex4 2) (hT : Tab w) : Calls Tryz.prog 37 #[.slice A 2 c] w (RetIPol [0, 1] 1 w) := by
 have HC := p_PrimitiveP h (by omega) (by omega) ex4_size (by omega) (by decide +kernel) hT
 rwa [show primI (trimI (numsP ex4)) = [0, 1] by decide +kernel] at HC
theorem bo_call (h : Pol w A 3 c ex5 2) (hT : Tab w) : Calls Tryz.prog 41 #[.slice A 3 c] w (RetNR (5 / 2) 7 w) := by
 have HC := p_BoundP h (by omega) (by omega) (by omega) hT
 rwa [show (if (trimP ex5).length < 2 then 0 else 1 + maxA ((trimP ex5).take ((trimP ex5).length - 1)) / absQ ((trimP ex5).getLastD 0)) = (5 / 2 : Rat) by decide +kernel] at HC
theorem ex67_hb : HornB (trimI (numsP ex6)) (trimI (numsP ex7)) ((denP ex7 : Nat) : Int) 1 1 := by
 have e1 : trimI (numsP ex6) = [0, 0, 1] := by decide +kernel
 have e2 : trimI (numsP ex7) = [1, 1] := by decide +kernel
 have e3 : ((denP ex7 : Nat) : Int) = 1 := by decide +kernel
 rw [e1, e2, e3];exact ⟨by decide +kernel, by decide +kernel, by decide +kernel, by decide +kernel⟩
theorem co_call (h : Pol w A 3 c ex6 2) (h' : Pol w B 2 d ex7 2) (hT : Tab w) : Calls Tryz.prog 27 #[.slice A 3 c, .slice B 2 d] w (RetPol ex10 4 w) := by
 have HC := p_ComposeP h h' (by omega) (by omega) (by omega) (by omega) ex6_size ex7_size (by omega) (by omega) ex67_hb (by omega) (by omega) hT
 rwa [show (hornS (trimI (numsP ex6)) (trimI (numsP ex7)) ((denP ex7 : Nat) : Int) (trimI (numsP ex6)).length).1.map (fun z => mkQ z (((denP ex6 : Nat) : Int) * (hornS (trimI (numsP ex6)) (trimI (numsP ex7)) ((denP ex7 : Nat) : Int) (trimI (numsP ex6)).length).2)) = ex10 by decide +kernel] at HC
end
section
variable {w : World} {A B : Option Addr} {n m c d L M : Nat} {qs ps : List Rat}
theorem eq_call (h : Pol w A n c qs L) (h' : Pol w B m d ps M) (he : qs = ps) (hL2 : 2 <= L) (hL : L <= 100) (hM : M <= 100) (hn : n <= 1000) (hm : m <= 1000) : Calls Tryz.prog 45 #[.slice A n c, .slice B m d] w fun e w' => e = .returned (.bool true) /\ Ext w w' := by
 have := q_EqualP h h' hL2 (by omega) (by omega) hn hm
 rwa [show decide (qs = ps) = true from decide_eq_true he] at this
theorem cm_call {s t s' t' : Bool} {A B A' B' : Option Addr} {n c m d n' c' m' d' : Nat} (h : NR w (5 / 2) 7 s A n c t B m d) (k : NR w (mkQ 5 2) 2 s' A' n' c' t' B' m' d') : Calls Tryz.prog 31 #[.agg #[.bool s, .slice A n c, .bool t, .slice B m d], .agg #[.bool s', .slice A' n' c', .bool t', .slice B' m' d']] w fun e w' => e = .returned (.int .i64 0) /\ Ext w w' := by
 have := q_CmpR h k (by omega) (by omega)
 rwa [show ratCmp (5 / 2) (mkQ 5 2) = 0 by decide +kernel] at this
theorem ints_call1 {g : Nat} (h : IPol w A 2 c [-2, 3] 1) (hb : Box w g 2 #[.int .i64 (-2), .int .i64 3]) : Calls Tryz.prog 46 #[.slice A 2 c, .slice (some ⟨g, 0, none⟩) 2 2] w fun e w' => e = .returned (.bool true) /\ Ext w w' := p_ints h (by omega) hb (by omega) (by decide)
theorem ints_call2 {g : Nat} (h : IPol w A 2 c [0, 1] 1) (hb : Box w g 2 #[.int .i64 0, .int .i64 1]) : Calls Tryz.prog 46 #[.slice A 2 c, .slice (some ⟨g, 0, none⟩) 2 2] w fun e w' => e = .returned (.bool true) /\ Ext w w' := p_ints h (by omega) hb (by omega) (by decide)
end
def Awake4 : Prop := ∀ w : World, Tab w -> Calls Tryz.prog 9 #[] w fun e w' => e = .returned (.bool true) /\ Ext w w'
def rawQ (s : Bool) (xs : List Nat) (t : Bool) (ys : List Nat) : Rat := mkRat (ival s xs) (ival t ys).toNat
theorem Rd.uniq {w : World} {A : Option Addr} {xs ys : List Nat} (h : Rd w A xs) (k : Rd w A ys) (hl : xs.length = ys.length) : xs = ys := by
 by_cases h0 : xs = []
 ·subst h0; exact (List.length_eq_zero_iff.1 hl.symm).symm
 have k0 : ys ≠ [] := fun e => h0 (List.length_eq_zero_iff.1 (by rw [hl, e]; rfl))
 obtain ⟨b, off, hA, _, hc⟩ := h.2 h0;obtain ⟨b', off', hA', _, hc'⟩ := k.2 k0;rw [hA] at hA'
 injection hA' with hA'
 injection hA' with q1 q2
 subst q1 q2;refine List.ext_getElem hl (fun i h1 h2 => ?_);have e := (hc i h1).symm.trans (hc' i h2)
 injection e with e
 injection e with e1 e2
 omega
theorem NR.of_raw' {w : World} {s : Bool} {A : Option Addr} {n c : Nat} {xs : List Nat} {t : Bool} {B : Option Addr} {m d : Nat} {ys : List Nat} {L : Nat} (h : RI w A n c xs) (k : RI w B m d ys) (hv : validQ s xs t ys = true) (hn : n <= L) (hm : m <= L) :
  NR w (rawQ s xs t ys) L s A n c t B m d := by
 obtain ⟨q, hq⟩ := NR.of_raw h k hv hn hm;obtain ⟨xs0, a1, a2, _, _, a3, _⟩ := hq.num.out;obtain ⟨ys0, b1, b2, _, _, b3, _⟩ := hq.den.out;have e1 : xs0 = xs := a2.uniq h.rd (by rw [a1, h.len]);have e2 : ys0 = ys := b2.uniq k.rd (by rw [b1, k.len]);subst e1 e2
 have e3 : rawQ s xs0 t ys0 = q := by
  unfold rawQ;rw [a3.eq, b3.eq, Int.toNat_natCast];exact Rat.mkRat_self q
 rw [e3];exact hq
structure RawR where
 s : Bool
 xs : List Nat
 t : Bool
 ys : List Nat
def shortB (s : Bool) (xs : List Nat) (t : Bool) (ys : List Nat) : Bool :=
 decide (xs.length <= 4) && (decide (ys.length <= 4) && (validQ s xs t ys && (decide (bitsN (trimL xs) <= 120) && decide (bitsN (trimL ys) <= 120))))
def RawR.short (r : RawR) : Bool := shortB r.s r.xs r.t r.ys
def RawR.q (r : RawR) : Rat := rawQ r.s r.xs r.t r.ys
def smallB (rs : List RawR) (k : Nat) : Bool := decide (rs.length <= k) && rs.all RawR.short
theorem shortB_le {s : Bool} {xs : List Nat} {t : Bool} {ys : List Nat} (h : shortB s xs t ys = true) : xs.length <= 4 /\ ys.length <= 4 /\ validQ s xs t ys = true := by
 unfold shortB at h;simp only [Bool.and_eq_true, decide_eq_true_eq] at h;exact ⟨h.1, h.2.1, h.2.2.1⟩
def RawAt (w : World) (b o : Nat) (r : RawR) : Prop :=
 ∃ A n c B m d, w.cell? ⟨b, o, none⟩ = some (.bool r.s) /\ w.cell? ⟨b, o + 1, none⟩ = some (.slice A n c) /\ w.cell? ⟨b, o + 2, none⟩ = some (.bool r.t) /\ w.cell? ⟨b, o + 3, none⟩ = some (.slice B m d) /\ RI w A n c r.xs /\ RI w B m d r.ys
structure RawP (w : World) (A : Option Addr) (n c : Nat) (rs : List RawR) : Prop where
 len : rs.length = n
 cap : n <= c
 top : c <= maxLen
 at_ : rs ≠ [] -> ∃ b off, A = some ⟨b, off, none⟩ /\ ∀ i (h : i < rs.length), RawAt w b (off + 4 * i) rs[i]
section
variable {w w' : World} {r : RawR} {rs : List RawR} {A B : Option Addr} {n c m d b o : Nat}
theorem RawAt.ext (h : RawAt w b o r) (e : Ext w w') : RawAt w' b o r := by
 obtain ⟨A, n, c, B, m, d, h0, h1, h2, h3, h4, h5⟩ := h;exact ⟨A, n, c, B, m, d, e.cellv h0, e.cellv h1, e.cellv h2, e.cellv h3, h4.ext e, h5.ext e⟩
theorem RawP.ext (h : RawP w A n c rs) (e : Ext w w') : RawP w' A n c rs :=
 ⟨h.len, h.cap, h.top, fun hq => by obtain ⟨b, off, h1, h2⟩ := h.at_ hq; exact ⟨b, off, h1, fun i hi => (h2 i hi).ext e⟩⟩
theorem RawP.pol (h : RawP w A n c rs) (hs : rs.all RawR.short = true) : Pol w A n c (rs.map RawR.q) 4 := by
 refine ⟨by rw [List.length_map]; exact h.len, h.cap, h.top, fun hq => ?_⟩;obtain ⟨b, off, h1, h2⟩ := h.at_ (fun e => hq (by rw [e]; rfl));refine ⟨b, off, h1, ⟨fun i hi => ?_⟩⟩;have hi' : i < rs.length := by rw [List.length_map] at hi; exact hi
 obtain ⟨A, n, c, B, m, d, h0, h1, h2, h3, h4, h5⟩ := h2 i hi';have hsi := List.all_eq_true.1 hs rs[i] (List.getElem_mem hi');obtain ⟨f1, f2, f3⟩ := shortB_le hsi;rw [List.getElem_map];exact ⟨_, A, n, c, _, B, m, d, h0, h1, h2, h3, NR.of_raw' h4 h5 f3 (by rw [<- h4.len]; exact f1) (by rw [<- h5.len]; exact f2)⟩
end
section
variable {w w' : World} {s t : Bool} {A B : Option Addr} {n c m d : Nat} {xs ys : List Nat}
theorem q_Short (h : RI w A n c xs) (k : RI w B m d ys) : Calls Tryz.prog 11 #[.agg #[.bool s, .slice A n c, .bool t, .slice B m d]] w fun e w' => e = .returned (.bool (shortB s xs t ys)) /\ Ext w w' := by
 have hb : shortB s xs t ys = (decide (n <= 4) && (decide (m <= 4) && (validQ s xs t ys && (decide (bitsN (trimL xs) <= 120) && decide (bitsN (trimL ys) <= 120))))) := by unfold shortB; rw [h.len, k.len]
 rw [hb];clear hb
 by_cases h1 : n <= 4
 ·have d1 : decide ((n : Int) <= (4 : Int)) = true := decide_eq_true (by omega)
  by_cases h2 : m <= 4
  ·have d2 : decide ((m : Int) <= (4 : Int)) = true := decide_eq_true (by omega)
   rw [decide_eq_true h1, decide_eq_true h2, Bool.true_and, Bool.true_and]
   cases hv : validQ s xs t ys with
   | false =>
    have HV := Lib.hid hv;clear hv;rw [Bool.false_and]
    go_enter Tryz.func11, Tryz.ntmps11
    go_upto_region 1 with (fail)
    obtain ⟨W, hW, extW, bx, hz⟩ := box1 w 27 #[.bool s, .slice A n c, .bool t, .slice B m d];rw [<- hW];clear hW hz;replace h := h.ext extW;replace k := k.ext extW;have x0 := bx.cell 0 (.bool s) rfl;have x1 := bx.cell 1 (.slice A n c) rfl;have x2 := bx.cell 2 (.bool t) rfl;have x3 := bx.cell 3 (.slice B m d) rfl
    go_wp2_with fail
    refine (q_ValidRaw h k (by omega) (by omega)).mono ?_;rintro e wd ⟨rfl, hxd⟩;rw [HV.out]
    go_wp2_with fail
    go_ret
    exact ⟨rfl, extW.trans hxd⟩
   | true =>
    have HV := Lib.hid hv;clear hv;rw [Bool.true_and];obtain ⟨u1, hu1⟩ : ∃ u, bitsN (trimL xs) = u := ⟨_, rfl⟩;obtain ⟨u2, hu2⟩ : ∃ u, bitsN (trimL ys) = u := ⟨_, rfl⟩;have HB1 := Lib.hid hu1;have HB2 := Lib.hid hu2;rw [hu1, hu2];clear hu1 hu2
    by_cases h3 : u1 <= 120
    ·have d3 : decide ((u1 : Int) <= (120 : Int)) = true := decide_eq_true (by omega)
     rw [decide_eq_true h3, Bool.true_and];obtain ⟨f, hf⟩ : ∃ f, decide (u2 <= 120) = f := ⟨_, rfl⟩;rw [hf];have d4 : decide ((u2 : Int) <= (120 : Int)) = f := by rw [<- hf]; exact decide_eq_decide.2 (by omega)
     clear hf
     go_enter Tryz.func11, Tryz.ntmps11
     go_upto_region 1 with (fail)
     obtain ⟨W, hW, extW, bx, hz⟩ := box1 w 27 #[.bool s, .slice A n c, .bool t, .slice B m d];rw [<- hW];clear hW hz;replace h := h.ext extW;replace k := k.ext extW;have x0 := bx.cell 0 (.bool s) rfl;have x1 := bx.cell 1 (.slice A n c) rfl;have x2 := bx.cell 2 (.bool t) rfl;have x3 := bx.cell 3 (.slice B m d) rfl
     go_wp2_with fail
     refine (q_ValidRaw h k (by omega) (by omega)).mono ?_;rintro e wd ⟨rfl, hxd⟩;rw [HV.out];replace bx := bx.ext hxd;replace h := h.ext hxd;replace k := k.ext hxd;replace extW := extW.trans hxd;clear hxd x0 x1 x2 x3;have x0 := bx.cell 0 (.bool s) rfl;have x1 := bx.cell 1 (.slice A n c) rfl;have x2 := bx.cell 2 (.bool t) rfl;have x3 := bx.cell 3 (.slice B m d) rfl
     go_wp2_with fail
     refine (ref_Bits h.len h.rd h.cap h.top (by omega)).mono ?_;rintro e we ⟨rfl, hxe⟩;rw [HB1.out];replace bx := bx.ext hxe;replace h := h.ext hxe;replace k := k.ext hxe;replace extW := extW.trans hxe;clear hxe x0 x1 x2 x3;have x0 := bx.cell 0 (.bool s) rfl;have x1 := bx.cell 1 (.slice A n c) rfl;have x2 := bx.cell 2 (.bool t) rfl;have x3 := bx.cell 3 (.slice B m d) rfl
     go_wp2_with fail
     refine (ref_Bits k.len k.rd k.cap k.top (by omega)).mono ?_;rintro e wf ⟨rfl, hxf⟩;rw [HB2.out]
     go_wp2_with fail
     go_ret
     exact ⟨rfl, extW.trans hxf⟩
    ·have d3 : decide ((u1 : Int) <= (120 : Int)) = false := decide_eq_false (by omega)
     rw [decide_eq_false h3, Bool.false_and]
     go_enter Tryz.func11, Tryz.ntmps11
     go_upto_region 1 with (fail)
     obtain ⟨W, hW, extW, bx, hz⟩ := box1 w 27 #[.bool s, .slice A n c, .bool t, .slice B m d];rw [<- hW];clear hW hz;replace h := h.ext extW;replace k := k.ext extW;have x0 := bx.cell 0 (.bool s) rfl;have x1 := bx.cell 1 (.slice A n c) rfl;have x2 := bx.cell 2 (.bool t) rfl;have x3 := bx.cell 3 (.slice B m d) rfl
     go_wp2_with fail
     refine (q_ValidRaw h k (by omega) (by omega)).mono ?_;rintro e wd ⟨rfl, hxd⟩;rw [HV.out];replace bx := bx.ext hxd;replace h := h.ext hxd;replace k := k.ext hxd;replace extW := extW.trans hxd;clear hxd x0 x1 x2 x3;have x0 := bx.cell 0 (.bool s) rfl;have x1 := bx.cell 1 (.slice A n c) rfl;have x2 := bx.cell 2 (.bool t) rfl;have x3 := bx.cell 3 (.slice B m d) rfl
     go_wp2_with fail
     refine (ref_Bits h.len h.rd h.cap h.top (by omega)).mono ?_;rintro e we ⟨rfl, hxe⟩;rw [HB1.out]
     go_wp2_with fail
     go_ret
     exact ⟨rfl, extW.trans hxe⟩
  ·have d2 : decide ((m : Int) <= (4 : Int)) = false := decide_eq_false (by omega)
   rw [decide_eq_true h1, decide_eq_false h2, Bool.true_and, Bool.false_and]
   go_enter Tryz.func11, Tryz.ntmps11
   go_upto_region 1 with (fail)
   obtain ⟨W, hW, extW, bx, hz⟩ := box1 w 27 #[.bool s, .slice A n c, .bool t, .slice B m d];rw [<- hW];clear hW hz;replace h := h.ext extW;replace k := k.ext extW;have x0 := bx.cell 0 (.bool s) rfl;have x1 := bx.cell 1 (.slice A n c) rfl;have x2 := bx.cell 2 (.bool t) rfl;have x3 := bx.cell 3 (.slice B m d) rfl
   go_wp2_with fail
   go_ret
   exact ⟨rfl, extW⟩
 ·have d1 : decide ((n : Int) <= (4 : Int)) = false := decide_eq_false (by omega)
  rw [decide_eq_false h1, Bool.false_and]
  go_enter Tryz.func11, Tryz.ntmps11
  go_upto_region 1 with (fail)
  obtain ⟨W, hW, extW, bx, hz⟩ := box1 w 27 #[.bool s, .slice A n c, .bool t, .slice B m d];rw [<- hW];clear hW hz;replace h := h.ext extW;replace k := k.ext extW;have x0 := bx.cell 0 (.bool s) rfl;have x1 := bx.cell 1 (.slice A n c) rfl;have x2 := bx.cell 2 (.bool t) rfl;have x3 := bx.cell 3 (.slice B m d) rfl
  go_wp2_with fail
  go_ret
  exact ⟨rfl, extW⟩
theorem q_Small {rs : List RawR} (h : RawP w A n c rs) (N : Nat) (hN : N <= 1000) : Calls Tryz.prog 26 #[.slice A n c, .int .i64 (N : Int)] w fun e w' => e = .returned (.bool (smallB rs N)) /\ Ext w w' := by
 have Hlen := Lib.hid h.len
 by_cases hb : n <= N
 ·have hg : (n : Int) <= (N : Int) := by omega
  go_enter Tryz.func26, Tryz.ntmps26
  go_wp2_with fail
  try rw [show decide (N < n) = false from decide_eq_false (by omega)]
  go_loopw [5] (fun i wr => ∃ k : Nat, k <= n /\ i = .int .i64 (k : Int) /\ Ext w wr /\ (rs.take k).all RawR.short = true) (fun i _ => n - (intOf i).toNat)
  case atStart => exact ⟨0, by omega, rfl, Ext.refl _, by simp⟩
  case round =>
   obtain ⟨k, hk, rfl, ext, hall⟩ := hrel;have HA := Lib.hid hall;clear hall
   by_cases hlt : k < n
   ·have hj : k < rs.length := by rw [Hlen.out]; exact hlt
    have hI : (k : Int) < (n : Int) := by omega
    obtain ⟨p, off, rfl, hr⟩ := h.at_ (fun e => by rw [e] at hj; exact absurd hj (Nat.not_lt_zero _));obtain ⟨Ax, nx, cx, Bx, mx, dx, e0, e1, e2, e3, hx, hy⟩ := (hr k hj).ext ext;have HT := Lib.hid (show (rs.take (k + 1)).all RawR.short = ((rs.take k).all RawR.short && RawR.short rs[k]) by rw [List.take_succ_eq_append_getElem hj, List.all_append]; simp)
    have HM := Lib.hid (fun hf : RawR.short rs[k] = false => show smallB rs N = false by
     unfold smallB;rw [Bool.and_eq_false_iff]
     right
     rw [List.all_eq_false];exact ⟨rs[k], List.getElem_mem hj, by rw [hf]; simp⟩)
    generalize rs[k] = r at e0 e1 e2 e3 hx hy HT HM;rw [Nat.mul_comm] at e0 e1 e2 e3
    cases hs : shortB r.s r.xs r.t r.ys with
    | false =>
     have HS := Lib.hid hs;clear hs
     go_wp2_with fail
     refine (q_Short hx hy).mono ?_;rintro e V ⟨rfl, hxv⟩;rw [HS.out]
     go_wp2_with fail
     go_ret
     exact ⟨by rw [HM.out HS.out]; rfl, ext.trans hxv⟩
    | true =>
     have HS := Lib.hid hs;clear hs
     go_wp2_with fail
     refine (q_Short hx hy).mono ?_;rintro e V ⟨rfl, hxv⟩;rw [HS.out]
     go_wp2_with fail
     go_roundw
     case rel => exact ⟨k + 1, by omega, by go_num, ext.trans hxv, by rw [HT.out, HA.out]; exact HS.out⟩
     case measure => simp [intOf]; omega
   ·have hI : (n : Int) <= (k : Int) := by omega
    go_wp2_with fail
    go_ret
    refine ⟨?_, ext⟩;have ha := HA.out;rw [List.take_of_length_le (by rw [Hlen.out]; omega)] at ha;have : smallB rs N = true := by unfold smallB; rw [ha, Hlen.out, decide_eq_true hb]; rfl
    rw [this]; rfl
 ·have hg : (N : Int) < (n : Int) := by omega
  have hs : smallB rs N = false := by unfold smallB; rw [Hlen.out, decide_eq_false hb]; rfl
  rw [hs];clear hs
  go_enter Tryz.func26, Tryz.ntmps26
  go_wp2_with fail
  go_ret
  exact ⟨rfl, Ext.refl _⟩
end
section
variable {w w' : World} {A B D : Option Addr} {n c m d l e : Nat} {rs ss ts : List RawR}
theorem few1_P {g : Nat} {T : TypeId} (hb : Box w g T #[.slice A n c]) (h0 : RawP w A n c rs) : Calls Tryz.prog 10 #[.slice (some ⟨g, 0, none⟩) 1 1] w fun e w' => e = .returned (.bool (smallB rs 8)) /\ Ext w w' := by
 go_enter Tryz.func10, Tryz.ntmps10
 go_wp2_with fail
 go_loopw [7] (fun i wr => ∃ k : Nat, k <= 1 /\ i = .int .i64 (k : Int) /\ Ext w wr /\ (0 < k -> smallB rs 8 = true)) (fun i _ => 1 - (intOf i).toNat)
 case atStart => exact ⟨0, by omega, rfl, Ext.refl _, by simp⟩
 case round =>
  obtain ⟨k, hk, rfl, ext, hall⟩ := hrel;have HA := Lib.hid hall;clear hall;have c0 := (hb.ext ext).cell 0 (.slice A n c) rfl;have hk2 : k = 0 \/ k = 1 := by omega
  rcases hk2 with rfl | rfl
  ·go_wp2_with fail
   refine (q_Small (h0.ext ext) 8 (by omega)).mono ?_;rintro e V ⟨rfl, hxv⟩;replace ext := ext.trans hxv
   cases hf : smallB rs 8 with
   | true =>
    have HF := Lib.hid hf;clear hf
    go_wp2_with fail
    go_roundw
    case rel => exact ⟨1, by omega, rfl, ext, by have := HA.out; simp [HF.out] at this ⊢ <;> first | done | exact this | assumption⟩
    case measure => simp [intOf]
   | false =>
    have HF := Lib.hid hf;clear hf
    go_wp2_with fail
    go_ret
    exact ⟨by have := HA.out; simp [HF.out] at this ⊢, ext⟩
  ·go_wp2_with fail
   go_ret
   exact ⟨by have := HA.out; simp at this; simp [this], ext⟩
end
theorem nums_cast (qs : List Rat) (i : Nat) : ((cfI (numsP qs) i : Int) : Rat) = atP qs i * (((denP qs : Nat) : Int) : Rat) := by
 by_cases h : i < qs.length
 ·rw [cfI_lt (by rw [numsP_len]; exact h), numsP_at qs i (by rw [numsP_len]; exact h) h, atP_lt h]
  have hd := denP_dvd (List.getElem_mem h);generalize qs[i] = q at hd;obtain ⟨e, he⟩ := hd;have h0 : (q.den : Int) ≠ 0 := by have := q.den_nz; omega
  rw [he, Int.natCast_mul, Int.mul_ediv_cancel_left _ h0, Rat.intCast_mul, Rat.intCast_mul]
  have h1 : ((q.den : Int) : Rat) ≠ 0 := by
   intro e1;exact h0 (by exact_mod_cast e1)
  have h2 : q = (q.num : Rat) / ((q.den : Int) : Rat) := by
   rw [Rat.intCast_natCast]; exact (Rat.mkRat_self q).symm.trans (Rat.mkRat_eq_div _ _)
  generalize ((q.den : Int) : Rat) = d at h1 h2;generalize (q.num : Rat) = n at h2;rw [h2]
  grind
 ·rw [cfI_ge (by rw [numsP_len]; omega), atP_ge (by omega)]
  show (0 : Rat) = 0 * _
  grind
end
section
open Go.RowKit
structure BndR (q : Rat) (N D : Nat) : Prop where
 num : q.num.natAbs <= N
 den : q.den <= D
def Bnd (qs : List Rat) (N D : Nat) : Prop := ∀ q ∈ qs, BndR q N D
def dprod (qs : List Rat) : Nat := qs.foldr (fun q d => q.den * d) 1
theorem dprod_pos : ∀ qs : List Rat, 0 < dprod qs
 | [] => Nat.one_pos
 | q :: qs => Nat.mul_pos q.den_pos (dprod_pos qs)
theorem dprod_le {N D : Nat} : ∀ {qs : List Rat}, Bnd qs N D -> dprod qs <= D ^ qs.length
 | [], _ => Nat.le_refl _
 | q :: qs, h => by
  show q.den * dprod qs <= D ^ (qs.length + 1)
  rw [Nat.pow_succ, Nat.mul_comm (D ^ _)];exact Nat.mul_le_mul (h q (List.mem_cons_self ..)).den (dprod_le fun p hp => h p (List.mem_cons_of_mem _ hp))
theorem dprod_mem {N D : Nat} : ∀ {qs : List Rat} {q : Rat}, Bnd qs N D -> q ∈ qs -> ∃ m, dprod qs = q.den * m /\ m <= D ^ (qs.length - 1)
 | [], _, _, hq => by cases hq
 | p :: qs, q, h, hq => by
  rcases List.mem_cons.1 hq with rfl | hq
  ·exact ⟨dprod qs, rfl, dprod_le fun p hp => h p (List.mem_cons_of_mem _ hp)⟩
  ·obtain ⟨m, h1, h2⟩ := dprod_mem (fun p hp => h p (List.mem_cons_of_mem _ hp)) hq
   refine ⟨p.den * m, ?_, ?_⟩
   ·show p.den * dprod qs = _
    rw [h1, Nat.mul_left_comm]
   ·have h3 : (p :: qs).length - 1 = (qs.length - 1) + 1 := by have := List.length_pos_of_mem hq; rw [List.length_cons]; omega
    rw [h3, Nat.pow_succ, Nat.mul_comm (D ^ _)];exact Nat.mul_le_mul (h p (List.mem_cons_self ..)).den h2
theorem foldl_dvd (qs : List Rat) : ∀ d, qs.foldl (fun d q => Nat.lcm d q.den) d ∣ d * dprod qs := by
 induction qs with
 | nil => intro d; show d ∣ d * 1; rw [Nat.mul_one]; exact Nat.dvd_refl _
 | cons p qs ih =>
  intro d;refine Nat.dvd_trans (ih (Nat.lcm d p.den)) ?_
  show _ ∣ d * (p.den * dprod qs)
  rw [<- Nat.mul_assoc];exact Nat.mul_dvd_mul_right (Nat.lcm_dvd (Nat.dvd_mul_right _ _) (Nat.dvd_mul_left _ _)) _
theorem denP_dprod (qs : List Rat) : denP qs ∣ dprod qs := by
 have := foldl_dvd qs 1;rw [Nat.one_mul] at this;exact this
theorem sizeP_of {qs : List Rat} {N D k X : Nat} (h : Bnd qs N D) (hD : 1 <= D) (hl : qs.length <= k) (h1 : D ^ k < 4294967296 ^ X) (h2 : N * D ^ (k - 1) < 4294967296 ^ X) : SizeP qs X := by
 refine ⟨?_, fun z hz => ?_⟩
 ·exact Nat.lt_of_le_of_lt (Nat.le_trans (Nat.le_of_dvd (dprod_pos qs) (denP_dprod qs)) (Nat.le_trans (dprod_le h) (Nat.pow_le_pow_right hD hl))) h1
 ·unfold numsP at hz
  obtain ⟨q, hq, rfl⟩ := List.mem_map.1 hz;obtain ⟨m, e1, e2⟩ := dprod_mem h hq;obtain ⟨e, he⟩ := denP_dvd hq
  have h3 : e ∣ m := by
   have := denP_dprod qs;rw [he, e1] at this;exact Nat.dvd_of_mul_dvd_mul_left q.den_pos this
  have hm : 0 < m := by
   rcases Nat.eq_zero_or_pos m with h0 | h0
   ·have := dprod_pos qs
    rw [e1, h0, Nat.mul_zero] at this;omega
   ·exact h0
  have h4 := Nat.le_of_dvd hm h3
  have h5 : (q.num * (((denP qs : Nat) : Int) / ((q.den : Nat) : Int))).natAbs = q.num.natAbs * e := by
   rw [he, Int.natCast_mul, Int.mul_ediv_cancel_left _ (by have := q.den_nz; omega), Int.natAbs_mul, Int.natAbs_natCast]
  rw [h5];exact Nat.lt_of_le_of_lt (Nat.mul_le_mul (h q hq).num (Nat.le_trans h4 (Nat.le_trans e2 (Nat.pow_le_pow_right hD (Nat.sub_le_sub_right hl 1))))) h2
theorem bndR_mk (z : Int) {d : Nat} (hd : d ≠ 0) : BndR (mkRat z d) z.natAbs d := by
 obtain ⟨m, hm, e1, e2⟩ := Rat.mkRat_num_den (n := z) (n' := (mkRat z d).num) (d' := (mkRat z d).den) (z' := (mkRat z d).den_nz) (c := (mkRat z d).reduced) hd rfl;refine ⟨?_, ?_⟩
 ·conv => rhs; rw [e1]
  rw [Int.natAbs_mul, Int.natAbs_natCast];exact Nat.le_mul_of_pos_right _ (Nat.pos_of_ne_zero hm)
 ·conv => rhs; rw [e2]
  exact Nat.le_mul_of_pos_right _ (Nat.pos_of_ne_zero hm)
theorem BndR.le {q : Rat} {N D N' D' : Nat} (h : BndR q N D) (h1 : N <= N') (h2 : D <= D') : BndR q N' D' := ⟨Nat.le_trans h.num h1, Nat.le_trans h.den h2⟩
theorem BndR.zero {N D : Nat} (hD : 1 <= D) : BndR 0 N D := ⟨Nat.zero_le _, hD⟩
theorem BndR.add {a b : Rat} {N D M E : Nat} (h : BndR a N D) (k : BndR b M E) : BndR (a + b) (N * E + M * D) (D * E) := by
 have e : a + b = mkRat (a.num * (b.den : Int) + b.num * (a.den : Int)) (a.den * b.den) := by rw [Rat.add_def, Rat.normalize_eq_mkRat]
 rw [e];refine (bndR_mk _ (Nat.mul_ne_zero a.den_nz b.den_nz)).le ?_ (Nat.mul_le_mul h.den k.den);refine Nat.le_trans (Int.natAbs_add_le _ _) ?_;rw [Int.natAbs_mul, Int.natAbs_mul, Int.natAbs_natCast, Int.natAbs_natCast];exact Nat.add_le_add (Nat.mul_le_mul h.num k.den) (Nat.mul_le_mul k.num h.den)
theorem BndR.mul {a b : Rat} {N D M E : Nat} (h : BndR a N D) (k : BndR b M E) : BndR (a * b) (N * M) (D * E) := by
 have e : a * b = mkRat (a.num * b.num) (a.den * b.den) := by rw [Rat.mul_def, Rat.normalize_eq_mkRat]
 rw [e];refine (bndR_mk _ (Nat.mul_ne_zero a.den_nz b.den_nz)).le ?_ (Nat.mul_le_mul h.den k.den);rw [Int.natAbs_mul];exact Nat.mul_le_mul h.num k.num
theorem BndR.int (z : Int) : BndR ((z : Int) : Rat) z.natAbs 1 := ⟨Nat.le_refl _, Nat.le_refl _⟩
theorem Bnd.at_ {qs : List Rat} {N D : Nat} (h : Bnd qs N D) (hD : 1 <= D) (i : Nat) : BndR (atP qs i) N D := by
 by_cases hi : i < qs.length
 ·rw [atP_lt hi]; exact h _ (List.getElem_mem hi)
 ·rw [atP_ge (by omega)]; exact BndR.zero hD
theorem Bnd.trim {qs : List Rat} {N D : Nat} (h : Bnd qs N D) : Bnd (trimP qs) N D := fun q hq => by
 rw [trimP_take] at hq;exact h q (List.mem_of_mem_take hq)
def B120 : Nat := 1329227995784915872903807060280344575
theorem bits_le {xs : List Nat} (hw : W32 xs) (hn : Nrm xs) (h : bitsN (trimL xs) <= 120) : val xs <= B120 := by
 rw [show trimL xs = xs from hn] at h
 by_cases h0 : 0 < xs.length
 ·obtain ⟨_, _, h3, _⟩ := bitsN_spec hw hn h0
  have h4 : 2 ^ bitsN xs <= 2 ^ 120 := Nat.pow_le_pow_right (by omega) h;have h5 : (2 : Nat) ^ 120 = B120 + 1 := by decide +kernel
  rw [h5] at h4;exact Nat.le_of_lt_succ (Nat.lt_of_lt_of_le h3 h4)
 ·have : xs = [] := List.length_eq_zero_iff.1 (by omega)
  subst this;exact Nat.zero_le _
theorem short_bnd {w : World} {s t : Bool} {A B : Option Addr} {n c m d : Nat} {xs ys : List Nat} (h : RI w A n c xs) (k : RI w B m d ys) (hs : shortB s xs t ys = true) : BndR (rawQ s xs t ys) B120 B120 := by
 obtain ⟨f1, f2, f3⟩ := shortB_le hs;have hq := NR.of_raw' (L := 4) h k f3 (by rw [<- h.len]; exact f1) (by rw [<- k.len]; exact f2);unfold shortB at hs;simp only [Bool.and_eq_true, decide_eq_true_eq] at hs;obtain ⟨_, _, _, g1, g2⟩ := hs;obtain ⟨xs0, a1, a2, _, _, a3, _⟩ := hq.num.out;obtain ⟨ys0, b1, b2, _, _, b3, _⟩ := hq.den.out;have e1 : xs0 = xs := a2.uniq h.rd (by rw [a1, h.len]);have e2 : ys0 = ys := b2.uniq k.rd (by rw [b1, k.len]);subst e1 e2;refine ⟨?_, ?_⟩
 ·rw [<- a3.abs]; exact bits_le a3.w32 a3.nrm g1
 ·have := bits_le b3.w32 b3.nrm g2
  rw [b3.abs, Int.natAbs_natCast] at this;exact this
theorem RawP.bnd {w : World} {A : Option Addr} {n c : Nat} {rs : List RawR} (h : RawP w A n c rs) (hs : rs.all RawR.short = true) : Bnd (rs.map RawR.q) B120 B120 := fun q hq => by
 obtain ⟨r, hr, rfl⟩ := List.mem_map.1 hq;have hsr := List.all_eq_true.1 hs r hr;obtain ⟨i, hi, rfl⟩ := List.getElem_of_mem hr;obtain ⟨b, off, h1, h2⟩ := h.at_ (fun e => by subst e; exact absurd hi (Nat.not_lt_zero _));obtain ⟨A, n, c, B, m, d, _, _, _, _, h4, h5⟩ := h2 i hi;exact short_bnd h4 h5 hsr
theorem Bnd.few {qs : List Rat} (h : Bnd qs B120 B120) (hl : qs.length <= 8) : SizeP qs 30 := sizeP_of h (by decide +kernel) hl (by decide +kernel) (by decide +kernel)
section
variable {w w' : World} {A B : Option Addr} {n c m d L M : Nat} {qs ps : List Rat}
end
structure Row2 (w : World) (base : Nat) (v : Value) (zs : List Int) (L : Nat) : Prop where
 own : ∃ cs, w.ownsRow base 25 2 v zs.length cs /\ ICells w L zs cs
 nwb : NWB w v
section
variable {w w' : World} {base L M : Nat} {v : Value} {zs : List Int} {z : Int} {s : Bool} {A : Option Addr} {n c g : Nat} {cs : List Value}
theorem ICells.own (h : ICells w L zs cs) (hv : NWB w v) (k : w.grownBy w' v.ownBlock) : ICells w' L zs cs := h.ni fun _ _ _ _ _ _ h => h.own hv k
theorem Row2.ext (h : Row2 w base v zs L) (e : Ext w w') : Row2 w' base v zs L := by
 obtain ⟨cs, h1, h2⟩ := h.own;exact ⟨⟨cs, owns_ext h1 e, h2.ext e⟩, h.nwb.ext e⟩
theorem Row2.nil (w : World) (base L : Nat) : Row2 w base (.slice none 0 0) [] L := ⟨⟨[], owns_nil _ _ _ _, .nil⟩, fun g hg => by cases hg⟩
theorem Row2.block (h : Row2 w base v zs L) : ∀ k, v.ownBlock = some k -> base <= k /\ k < w.heap.size := by
 intro k hk;obtain ⟨cs, h1, _⟩ := h.own;refine ⟨owns_block h1 k hk, ?_⟩;obtain ⟨cur, e', fz, h2, _⟩ := h.nwb k hk
 rcases Nat.lt_or_ge k w.heap.size with j | j
 ·exact j
 ·rw [Array.getElem?_eq_none j] at h2; cases h2
theorem Row2.jrow (h : Row2 w base v zs L) (hq : zs ≠ []) : ∃ g cap, v = .slice (some ⟨g, 0, none⟩) zs.length cap /\ base <= g /\ zs.length <= cap /\ cap <= maxLen /\ JRow w g zs L := by
 obtain ⟨cs, h1, h2⟩ := h.own
 rcases h1.2 with ⟨rfl, h0⟩ | ⟨g, cap, cur, rfl, hbg, hg, hnc, hcm, _, htk⟩
 ·exact absurd (List.length_eq_zero_iff.1 h0) hq
 ·refine ⟨g, cap, rfl, hbg, hnc, hcm, cs, cur.toList.drop (zs.length * 2), ?_, h2, ?_⟩
  ·have e : (cs ++ cur.toList.drop (zs.length * 2)).toArray = cur := by
    rw [<- htk, List.take_append_drop]
   rw [e];exact hg
  ·obtain ⟨cur2, e2, fz2, h4, h5⟩ := h.nwb g (by simp [Value.ownBlock])
   rw [hg] at h4
   injection h4 with h4
   injection h4 with h4
   subst h4;exact (NWL.of h5).drop _
theorem run_append_int {ty : TypeId} (h : Row2 w base v zs L) (hq : NI w z L s A n c) (hb : Box w g 25 #[.bool s, .slice A n c]) (hl : zs.length <= 1000) (hbase : base <= w.heap.size) :
  ∃ v' w', (Builtin.append_ #[46, 46] ty #[v, .slice (some ⟨g, 0, none⟩) 1 1]).run Tryz.prog w = .ok v' w' /\ Row2 w' base v' (zs ++ [z]) L /\ w.grownBy w' v.ownBlock /\ (v'.ownBlock = v.ownBlock \/ v'.ownBlock = some w.heap.size) := by
 obtain ⟨i0, hi, hz0, hz1, hz2⟩ := info_partsB Tryz.infoInt;obtain ⟨cs, h1, h2⟩ := h.own;have hone : ICells w L [z] [.bool s, .slice A n c] := .cons hq .nil
 have hnews : ∀ j u, ([.bool s, .slice A n c] : List Value)[j]? = some u -> w.cell? ((⟨g, 0, none⟩ : Addr).add j) = some u := by
  intro j u hj
  match j, hj with
  | 0, hj => exact hb.cell 0 u hj
  | 1, hj => exact hb.cell 1 u hj
  | j + 2, hj => simp at hj
 rw [<- hz1] at h1
 obtain ⟨v', w', hr, k1, k2, k3, k4⟩ := run_append_nw (P := Tryz.prog) (ty := ty) (c := 1) Tryz.underlying46 hi hz0 hz2 (by rw [hz1]; rfl) (by omega) (by
  intro u hu k e;simp [Value.cells] at hu
  rcases hu with rfl | rfl <;> cases e) h1 h.nwb (m := 1) (by rw [hz1]; rfl) hnews hone.one hone.nwl (by omega) (by unfold maxLen; omega) (by omega) hbase
 rw [hz1] at k1;refine ⟨v', w', hr, ⟨⟨cs ++ [.bool s, .slice A n c], ?_, (h2.own h.nwb k2).append (hone.own h.nwb k2)⟩, k4⟩, k2, k3⟩;rw [List.length_append];exact k1
end
theorem step_append_int {w : World} {base L : Nat} {v : Value} {zs : List Int} {z : Int} {s : Bool} {A : Option Addr} {n c g : Nat} {ops : Array Oper} {o : Oper} {a : Act} {K : Act -> World -> Prop} {Q : Exit -> Act -> World -> Prop} {E : Prop} (hgd : o.guard = none) (x y : Operand)
  (ho : o.op = .call { callee := .builtin .append, args := #[x, y], argTypes := #[46, 46] })
  (hx : a.eval x = v) (hy : a.eval y = .slice (some ⟨g, 0, none⟩) 1 1)
  (h : Row2 w base v zs L) (hq : NI w z L s A n c) (hb : Box w g 25 #[.bool s, .slice A n c]) (hl : zs.length <= 1000) (hbase : base <= w.heap.size)
  (hK : ∀ v' w', Row2 w' base v' (zs ++ [z]) L -> w.grownBy w' v.ownBlock -> (v'.ownBlock = v.ownBlock \/ v'.ownBlock = some w.heap.size) -> K (a.put o.dst v') w') :
  if Region.wanted o (yielded ops a.tmps) = true then Oper.wp Tryz.prog o a w K Q else E := by
 have hw : Region.wanted o (yielded ops a.tmps) = true := by simp [Region.wanted, hgd]
 rw [if_pos hw];obtain ⟨v', w', hr, h2, h3, h5⟩ := run_append_int (ty := o.type) h hq hb hl hbase;unfold Oper.wp execOp;simp only [ho, resolve, invoke, builtin, Sem.run_bind, Sem.run_pure, Result.andThen_ok, List.map_toArray, List.map_cons, List.map_nil, hx, hy, hr];exact hK v' w' h2 h3 h5
end
section
theorem listSnoc_ind {α : Type} {P : List α -> Prop} (h0 : P []) (h1 : ∀ l x, P l -> P (l ++ [x])) (l : List α) : P l := by
 have : ∀ m : List α, P m.reverse := by
  intro m
  induction m with
  | nil => exact h0
  | cons x m ih => rw [List.reverse_cons]; exact h1 _ _ ih
 have := this l.reverse
 rwa [List.reverse_reverse] at this
theorem denP_rep (l : List Rat) (k : Nat) : denP (l ++ List.replicate k 0) = denP l := by
 induction k with
 | zero => rw [List.replicate_zero, List.append_nil]
 | succ k ih =>
  rw [List.replicate_succ', <- List.append_assoc, denP_snoc, ih];exact Nat.lcm_one_right _
theorem trimI_rep (l : List Int) (k : Nat) : trimI (l ++ List.replicate k 0) = trimI l := by
 induction k with
 | zero => rw [List.replicate_zero, List.append_nil]
 | succ k ih => rw [List.replicate_succ', <- List.append_assoc, trimI_zero, ih]
theorem numsP_rep (l : List Rat) (k : Nat) : numsP (l ++ List.replicate k 0) = numsP l ++ List.replicate k 0 := by
 unfold numsP;rw [denP_rep, List.map_append, List.map_replicate]
 congr 2
 show (0 : Int) * _ = 0
 rw [Int.zero_mul]
theorem numsP_last {l : List Rat} (h : trimP l = l) : trimI (numsP l) = numsP l := by
 rcases List.eq_nil_or_concat l with rfl | ⟨l', x, rfl⟩
 ·rfl
 ·rw [List.concat_eq_append] at h ⊢
  have hx : x ≠ 0 := by
   intro e;subst e;rw [trimP_zero] at h;have h1 := congrArg List.length h;have h2 := trimP_len l';rw [List.length_append] at h1;simp at h1;omega
  unfold numsP;rw [List.map_append]
  show trimI (_ ++ [_]) = _ ++ [_]
  refine trimI_snoc _ (Int.mul_ne_zero (fun e => hx (Rat.num_eq_zero.1 e)) ?_);obtain ⟨e, he⟩ := denP_dvd (qs := l' ++ [x]) (q := x) (by simp);have hp := denP_pos (l' ++ [x]);rw [he] at hp ⊢;rw [Int.natCast_mul, Int.mul_ediv_cancel_left _ (by have := x.den_nz; omega)];intro e0;have : e = 0 := by omega
  rw [this, Nat.mul_zero] at hp;omega
theorem numsP_trim (qs : List Rat) : trimI (numsP qs) = numsP (trimP qs) := by
 obtain ⟨k, hk⟩ := trimP_pre qs
 conv => lhs; rw [hk, numsP_rep, trimI_rep]
 exact numsP_last (trimP_idem qs)
theorem gcdI_mul (k : Int) (l : List Int) : gcdI (l.map (· * k)) = gcdI l * k.natAbs := by
 induction l using listSnoc_ind with
 | h0 => show 0 = 0 * _; rw [Nat.zero_mul]
 | h1 l x ih =>
  rw [List.map_append]
  show gcdI (_ ++ [x * k]) = _
  rw [gcdI_snoc, gcdI_snoc, ih, Int.natAbs_mul, Nat.gcd_mul_right]
theorem lastD_map {α β : Type} (f : α -> β) (a : α) (b : β) (l : List α) (h : l ≠ []) : (l.map f).getLastD b = f (l.getLastD a) := by
 rcases List.eq_nil_or_concat l with rfl | ⟨l', x, rfl⟩
 ·exact absurd rfl h
 ·rw [List.concat_eq_append, List.map_append]
  simp [List.getLastD_eq_getLast?]
theorem primI_mul {k : Int} (hk : k ≠ 0) {l : List Int} (hl : l.getLastD 0 ≠ 0) : primI (l.map (· * k)) = primI l := by
 have hne : l ≠ [] := fun e => hl (by rw [e]; rfl)
 have hc : comI (l.map (· * k)) = comI l * k := by
  unfold comI;rw [lastD_map (· * k) 0 0 l hne, gcdI_mul, Int.natCast_mul]
  rcases Int.lt_or_gt_of_ne hk with h1 | h1
  ·have e1 : ((k.natAbs : Nat) : Int) = -k := by omega
   rw [e1]
   rcases Int.lt_or_gt_of_ne hl with h2 | h2
   ·have := Int.mul_pos_of_neg_of_neg h2 h1
    rw [if_neg (by show ¬ (_ * k < 0); omega), if_pos h2, Int.mul_neg, Int.neg_mul]
   ·have := Int.mul_neg_of_pos_of_neg h2 h1
    rw [if_pos (by show _ * k < 0; omega), if_neg (by omega), Int.mul_neg, Int.neg_neg]
  ·have e1 : ((k.natAbs : Nat) : Int) = k := by omega
   rw [e1]
   rcases Int.lt_or_gt_of_ne hl with h2 | h2
   ·have := Int.mul_neg_of_neg_of_pos h2 h1
    rw [if_pos (by show _ * k < 0; omega), if_pos h2, Int.neg_mul]
   ·have := Int.mul_pos h2 h1
    rw [if_neg (by show ¬ (_ * k < 0); omega), if_neg (by omega)]
 unfold primI;rw [hc, List.map_map];refine List.map_congr_left (fun z hz => ?_)
 show z * k / (comI l * k) = z / comI l
 have h0 : comI l ≠ 0 := by
  rw [List.getLastD_eq_getLast?] at hl
  cases e : l.getLast? with
  | none => rw [e] at hl; exact absurd rfl hl
  | some y =>
   rw [e] at hl;exact comI_ne (List.mem_of_getLast? e) hl
 obtain ⟨e, he⟩ := comI_dvd hz;generalize comI l = c at h0 he;subst he;rw [Int.mul_ediv_cancel_left _ h0, Int.mul_assoc, Int.mul_comm e k, <- Int.mul_assoc, Int.mul_ediv_cancel_left _ (Int.mul_ne_zero h0 hk)]
theorem scaleP_trim {n : Rat} (hn : n ≠ 0) (l : List Rat) : trimP (scaleP l n) = scaleP (trimP l) n := by
 induction l using listSnoc_ind with
 | h0 => rfl
 | h1 l x ih =>
  have e : scaleP (l ++ [x]) n = scaleP l n ++ [x * n] := by unfold scaleP; rw [List.map_append]; rfl
  rw [e]
  by_cases h : x = 0
  ·subst h
   rw [Rat.zero_mul, trimP_zero, trimP_zero, ih]
  ·rw [trimP_snoc _ (by intro e; rcases Rat.mul_eq_zero.1 e with h1 | h1; exact h h1; exact hn h1), trimP_snoc _ h, e]
theorem numsP_getLast {l : List Rat} (h : trimP l = l) (h0 : l ≠ []) : (numsP l).getLastD 0 ≠ 0 := by
 rw [<- numsP_last h];refine trimI_last ?_;rw [numsP_last h];intro e;have := congrArg List.length e;rw [numsP_len] at this;exact h0 (List.length_eq_zero_iff.1 this)
theorem prim_scale {n : Rat} (hn : n ≠ 0) (qs : List Rat) : primI (numsP (trimP (scaleP qs n))) = primI (numsP (trimP qs)) := by
 have hs := scaleP_trim hn qs;have hi : trimP (scaleP (trimP qs) n) = scaleP (trimP qs) n := by rw [<- hs]; exact trimP_idem _
 rw [hs];have ht := trimP_idem qs;generalize trimP qs = l at hi ht;clear hs
 by_cases h0 : l = []
 ·subst h0; rfl
 have h1 : scaleP l n ≠ [] := by unfold scaleP; intro e; exact h0 (List.map_eq_nil_iff.1 e)
 have g1 := numsP_getLast hi h1;have g2 := numsP_getLast ht h0;have hk1 : ((denP l : Nat) : Int) * ((n.den : Nat) : Int) ≠ 0 := Int.mul_ne_zero (by have := denP_pos l; omega) (by have := n.den_nz; omega);have hk2 : n.num * ((denP (scaleP l n) : Nat) : Int) ≠ 0 := Int.mul_ne_zero (fun e => hn (Rat.num_eq_zero.1 e)) (by have := denP_pos (scaleP l n); omega);rw [<- primI_mul hk1 g1, <- primI_mul hk2 g2]
 congr 1
 have hll : (scaleP l n).length = l.length := by unfold scaleP; exact List.length_map _
 refine List.ext_getElem (by rw [List.length_map, List.length_map, numsP_len, numsP_len, hll]) (fun i b1 b2 => ?_);rw [List.getElem_map, List.getElem_map];rw [List.length_map] at b1 b2;have c1 := nums_cast (scaleP l n) i;have c2 := nums_cast l i;rw [cfI_lt b1] at c1;rw [cfI_lt b2] at c2;rw [numsP_len] at b1 b2;rw [atP_lt b1] at c1;rw [atP_lt b2] at c2;rw [show (scaleP l n)[i] = l[i] * n by simp [scaleP]] at c1;generalize (numsP (scaleP l n))[i] = z1 at c1;generalize (numsP l)[i] = z2 at c2;generalize l[i] = q at c1 c2;generalize ((denP (scaleP l n) : Nat) : Int) = D1 at c1;generalize ((denP l : Nat) : Int) = D2 at c2
 have hnn : n * (((n.den : Nat) : Int) : Rat) = ((n.num : Int) : Rat) := by
  have h2 : n = (n.num : Rat) / ((n.den : Int) : Rat) := by
   rw [Rat.intCast_natCast]; exact (Rat.mkRat_self n).symm.trans (Rat.mkRat_eq_div _ _)
  have h1 : ((n.den : Int) : Rat) ≠ 0 := by
   intro e1;have : (n.den : Int) = 0 := by exact_mod_cast e1
   exact n.den_nz (by omega)
  generalize ((n.den : Int) : Rat) = d at h1 h2;generalize (n.num : Rat) = m at h2;rw [h2]
  grind
 have e : ((z1 * (D2 * ((n.den : Nat) : Int)) : Int) : Rat) = ((z2 * (n.num * D1) : Int) : Rat) := by
  rw [Rat.intCast_mul, Rat.intCast_mul, Rat.intCast_mul, Rat.intCast_mul, c1, c2, <- hnn];generalize (D1 : Rat) = d1;generalize (D2 : Rat) = d2;generalize (((n.den : Nat) : Int) : Rat) = d3
  grind
 exact_mod_cast e
theorem absQ_if (q : Rat) : absQ q = if q < 0 then -q else q := by
 unfold absQ;have hk := Rat.num_nonneg (q := q)
 by_cases h : q < 0
 ·have h3 : ¬ (0 <= q.num) := fun e => absurd (hk.1 e) (by grind)
  rw [if_pos h, if_pos (by rw [Int.sign_eq_neg_one_of_neg (by omega)]; omega)]
 ·have h3 : 0 <= q.num := hk.2 (by grind)
  rw [if_neg h, if_neg (by rcases Int.lt_or_eq_of_le h3 with h4 | h4; rw [Int.sign_eq_one_of_pos h4]; omega; rw [<- h4]; decide)]
theorem absQ_pos {c : Rat} (h : c ≠ 0) : 0 < absQ c := by
 rw [absQ_if]
 split <;> grind
theorem absQ_mul (q : Rat) {c : Rat} (hc : c ≠ 0) : absQ (q * c) = absQ q * absQ c := by
 rw [absQ_if, absQ_if, absQ_if]
 by_cases h1 : q < 0
 ·by_cases k1 : c < 0
  ·have := Rat.mul_pos (a := -q) (b := -c) (by grind) (by grind)
   grind
  ·have := Rat.mul_pos (a := -q) (b := c) (by grind) (by grind)
   grind
 ·by_cases h2 : q = 0
  ·subst h2; grind
  ·by_cases k1 : c < 0
   ·have := Rat.mul_pos (a := q) (b := -c) (by grind) (by grind)
    grind
   ·have := Rat.mul_pos (a := q) (b := c) (by grind) (by grind)
    grind
theorem maxA_mul {c : Rat} (hc : c ≠ 0) (l : List Rat) : maxA (scaleP l c) = maxA l * absQ c := by
 have hp := absQ_pos hc
 induction l using listSnoc_ind with
 | h0 => exact (Rat.zero_mul _).symm
 | h1 l x ih =>
  have e : scaleP (l ++ [x]) c = scaleP l c ++ [x * c] := by unfold scaleP; rw [List.map_append]; rfl
  rw [e, maxA_snoc, maxA_snoc, ih, absQ_mul x hc];generalize absQ c = k at hp;generalize absQ x = y;generalize maxA l = m
  have h : (0 < ratCmp (y * k) (m * k)) ↔ (0 < ratCmp y m) := by
   rw [ratCmp_gt, ratCmp_gt];exact Rat.mul_lt_mul_right hp
  by_cases h2 : 0 < ratCmp y m
  ·rw [if_pos h2, if_pos (h.2 h2)]
  ·rw [if_neg h2, if_neg (fun e => h2 (h.1 e))]
theorem bound_monic {l : List Rat} (h0 : l.getLastD 0 ≠ 0) : 1 + maxA (l.take (l.length - 1)) / absQ (l.getLastD 0) = maxA ((scaleP l (1 / l.getLastD 0)).take ((scaleP l (1 / l.getLastD 0)).length - 1)) + 1 := by
 generalize l.getLastD 0 = c at h0
 have h1 : (1 / c : Rat) ≠ 0 := by
  intro e;have : (1 / c) * c = 1 := by grind
  rw [e] at this
  grind
 have e1 : (scaleP l (1 / c)).take ((scaleP l (1 / c)).length - 1) = scaleP (l.take (l.length - 1)) (1 / c) := by
  unfold scaleP;rw [List.length_map, List.map_take]
 rw [e1, maxA_mul h1];have h2 := absQ_pos h0
 have e2 : absQ (1 / c) = 1 / absQ c := by
  have h3 := absQ_mul (1 / c) h0;rw [show (1 / c) * c = 1 by grind, show absQ 1 = 1 from rfl] at h3;generalize absQ (1 / c) = u at h3;generalize absQ c = v at h2 h3;have : v ≠ 0 := by grind
  grind
 rw [e2];generalize absQ c = v at h2;generalize maxA (l.take (l.length - 1)) = m;have : v ≠ 0 := by grind
 grind
end
section
open Go.RowKit
attribute [local go_sem ↓] Go.wp_at_zero Go.wp_at_succ
section
variable {w w' : World} {z y : Int} {zs : List Int} {v : Value} {base L M : Nat} {s t : Bool} {A B : Option Addr} {n c m d : Nat} {qs ts : List Rat} {sx tx : Bool} {Ax Bx : Option Addr} {nx cx mx dx : Nat}
theorem Row2.far (h : Row2 w base v zs L) (hb : ∀ g T cs, v.ownBlock = some g -> Box w g T cs -> Box w' g T cs) (hn : ∀ z L s A n c, NI w z L s A n c -> NI w' z L s A n c) : Row2 w' base v zs L := by
 obtain ⟨cs, h1, h2⟩ := h.own
 rcases h1.2 with ⟨rfl, h3⟩ | ⟨g, cap, cur, rfl, hbg, hg, hnc, hcm, hcs, htk⟩
 ·exact ⟨⟨cs, ⟨h1.1, .inl ⟨rfl, h3⟩⟩, h2.ni hn⟩, fun g hg => by cases hg⟩
 ·refine ⟨⟨cs, ⟨h1.1, .inr ⟨g, cap, cur, rfl, hbg, hb g _ _ rfl hg, hnc, hcm, hcs, htk⟩⟩, h2.ni hn⟩, ?_⟩
  intro g' hg'
  injection hg' with hg'
  subst hg';obtain ⟨cur2, e2, fz2, h4, h5⟩ := h.nwb g rfl;rw [hg] at h4
  injection h4 with h4
  injection h4 with h4
  subst h4;exact ⟨_, _, _, hb g _ _ rfl hg, h5⟩
theorem half_at {us bs : List Int} (h : us.length = bs.length) {k : Nat} (hk : k < bs.length) (hk2 : k < (us.take k ++ bs.drop k).length) : (us.take k ++ bs.drop k)[k] = bs[k] := by
 have hl : (us.take k).length = k := by rw [List.length_take]; omega
 rw [List.getElem_append_right (by omega)];simp only [List.getElem_drop]
 congr 1
 omega
theorem half_set {us bs : List Int} (h : us.length = bs.length) {k : Nat} (hk : k < bs.length) (hk2 : k < us.length) : (us.take k ++ bs.drop k).set k us[k] = us.take (k + 1) ++ bs.drop (k + 1) := by
 have hl : (us.take k).length = k := by rw [List.length_take]; omega
 rw [List.set_append_right _ _ (by omega), hl, Nat.sub_self, List.drop_eq_getElem_cons hk, List.set_cons_zero, List.take_succ_eq_append_getElem hk2, List.append_assoc]
 rfl
theorem nums_get {ts : List Rat} {zs : List Int} {D k : Nat} (hz : numsP ts = zs) (hD : denP ts = D) (h1 : k < ts.length) (h2 : k < zs.length) : zs[k] = ts[k].num * ((D : Int) / ((ts[k].den : Nat) : Int)) := by
 subst hz hD;exact numsP_at ts k h2 h1
theorem primI_get {zs : List Int} {k : Nat} (h : k < (primI zs).length) (h2 : k < zs.length) : (primI zs)[k] = zs[k] / comI zs := by simp [primI]
theorem lastD_at {zs : List Int} {j : Nat} (h : zs.length = j + 1) : zs.getLastD 0 = zs[j] := by
 rw [List.getLastD_eq_getLast?, List.getLast?_eq_getElem?];have e : zs[zs.length - 1]? = some zs[j] := List.getElem?_eq_some_iff.2 ⟨by omega, getElem_congr rfl (by omega) _⟩;rw [e]
 rfl
theorem q_DivX (h : NI w z L s A n c) (k : NI w y M t B m d) (hL : L <= 9000) (hM : M <= 9000) (h0 : y ≠ 0) (hd : y ∣ z) : Calls Tryz.prog 82 #[.agg #[.bool s, .slice A n c], .agg #[.bool t, .slice B m d]] w (fun e w' => ∃ s3 A3 n3 c3 s4 A4 n4 c4, e = .returned (.tuple #[.agg #[.bool s3, .slice A3 n3 c3], .agg #[.bool s4, .slice A4 n4 c4], .int .i64 0]) /\ NI w' (z / y) L s3 A3 n3 c3 /\ Ext w w') := by
 refine (q_DivMod h k hL hM h0).mono ?_;rintro e V ⟨s1, A1, n1, c1, s2, A2, n2, c2, q, r, rfl, hq, hr, hdm, hx1⟩;obtain ⟨_, hqe, hql⟩ := (dm_q_le hdm h0).2.2 hd;rw [hqe] at hq hql;exact ⟨s1, A1, n1, c1, s2, A2, n2, c2, rfl, hq.tight h (by simpa using hql), hx1⟩
set_option maxRecDepth 100000 in
theorem q_PrimR {X : Nat} (h : Pol w A n c qs L) (hL : L <= 60) (hn : n <= 40) (hX : SizeP (trimP qs) X) (hX2 : 2 <= X) (hX1 : X <= 2000) : Calls Tryz.prog 38 #[.slice A n c] w (RetIPol (primI (numsP (trimP qs))) X w) := by
 have Hl := Lib.hid h.len
 go_enter Tryz.func38, Tryz.ntmps38
 go_wp2_with fail
 refine (q_TrimP h (by omega) (by omega)).mono ?_;rintro e V0 ⟨A1, n1, c1, rfl, h1, hx0⟩;have hn1 : n1 <= 40 := by have := h1.len; have := trimP_len qs; have := Hl.out; omega
 clear h hn Hl;have HL := Lib.hid (show trimP qs ≠ [] -> (numsP (trimP qs)).getLastD 0 ≠ 0 from fun e => numsP_getLast (trimP_idem qs) e);obtain ⟨ts, hts⟩ : ∃ ts, trimP qs = ts := ⟨_, rfl⟩;rw [hts] at h1 hX HL;have HTS := Lib.hid hts;clear hts;have Hlen := Lib.hid h1.len
 by_cases hz : n1 = 0
 ·subst hz
  have e0 : ts = [] := List.length_eq_zero_iff.1 Hlen.out;subst e0
  go_wp2_with fail
  go_ret
  exact ⟨none, 0, 0, rfl, by rw [HTS.out]; exact IPol.none _ _, hx0⟩
 have dz : ((n1 : Int) == 0) = false := beq_eq_false_iff_ne.2 (by omega);have hne0 : ts ≠ [] := fun e => hz (by rw [<- Hlen.out, e]; rfl)
 have HZL := Lib.hid (HL.out hne0);clear HL hz;obtain ⟨zs, hzs⟩ : ∃ zs, numsP ts = zs := ⟨_, rfl⟩;rw [hzs] at HZL;have hzl : zs.length = n1 := by rw [<- hzs, numsP_len]; exact Hlen.out
 have HX := Lib.hid (show ∀ z ∈ zs, z.natAbs < 4294967296 ^ X by rw [<- hzs]; exact hX.num);have HXd := Lib.hid hX.den;have HZS := Lib.hid hzs;clear hX hzs;have hNL : n1 * L <= 40 * 60 := Nat.mul_le_mul hn1 hL
 go_wp2_with fail
 refine (q_FromInt 1 (by omega) (by omega)).mono ?_;rintro e W1 ⟨s3, A3, n3, c3, rfl, h3, hx1⟩
 go_upto_region 5 with (fail)
 have ha := (Ext.refl W1).alloc (.cells #[.bool s3, .slice A3 n3 c3] 25);refine at_world (fun V => Ext V0 V /\ Box V W1.heap.size 25 #[.bool s3, .slice A3 n3 c3] /\ NI V 1 2 s3 A3 n3 c3) ⟨hx1.trans ha, Box.new W1 _ _, h3.ext ha⟩ ?_;have hg3 : V0.heap.size <= W1.heap.size := hx1.size;clear ha hx1 h3;generalize W1.heap.size = g3 at hg3 ⊢;rintro V ⟨ext0, b3, h3⟩
 go_wp2_with fail
 go_loopw [4] (fun i wr => ∃ (k : Nat) (s : Bool) (A' : Option Addr) (n' c' : Nat), k <= n1 /\ i = .int .i64 (k : Int) /\ Ext V0 wr /\ Box wr g3 25 #[.bool s, .slice A' n' c'] /\ NI wr ((denP (ts.take k) : Nat) : Int) (k * L + 2) s A' n' c') (fun i _ => n1 - (intOf i).toNat)
 case atStart => exact ⟨0, s3, A3, n3, c3, Nat.zero_le _, rfl, ext0, b3, by rw [List.take_zero, Nat.zero_mul]; exact h3⟩
 case round =>
  clear b3 h3 ext0;obtain ⟨k, sd, Ad, nd, cd, hk, rfl, ext, b3, hd⟩ := hrel;have hkL : k * L <= n1 * L := Nat.mul_le_mul_right _ hk
  by_cases hlt : k < n1
  ·have hj : k < ts.length := by rw [Hlen.out]; exact hlt
   have hI : (k : Int) < (n1 : Int) := by omega
   obtain ⟨p, off, rfl, hr⟩ := h1.at_ hne0;obtain ⟨sx, Ax, nx, cx, tx, Bx, mx, dx, e0, e1, e2, e3, hx⟩ := (hr.ext ext).at_ k hj;have e0' : wr.cell? ⟨p, off + k * 4, none⟩ = some (.bool sx) := by rw [Nat.mul_comm]; exact e0
   have e1' : wr.cell? ⟨p, off + k * 4 + 1, none⟩ = some (.slice Ax nx cx) := by rw [Nat.mul_comm]; exact e1
   have e2' : wr.cell? ⟨p, off + k * 4 + 2, none⟩ = some (.bool tx) := by rw [Nat.mul_comm]; exact e2
   have e3' : wr.cell? ⟨p, off + k * 4 + 3, none⟩ = some (.slice Bx mx dx) := by rw [Nat.mul_comm]; exact e3
   clear e0 e1 e2 e3 e0' e1';have HT := Lib.hid (show ts.take (k + 1) = ts.take k ++ [ts[k]] from List.take_succ_eq_append_getElem hj);generalize ts[k] = q at hx HT;have hgp : 0 < Nat.gcd (denP (ts.take k)) q.den := Nat.gcd_pos_of_pos_right _ q.den_pos;have HG := Lib.hid (show ((Nat.gcd (denP (ts.take k)) q.den : Nat) : Int) ≠ 0 /\ ((Nat.gcd (denP (ts.take k)) q.den : Nat) : Int) ∣ ((q.den : Nat) : Int) from ⟨by omega, Int.natCast_dvd_natCast.2 (Nat.gcd_dvd_right _ _)⟩);clear hgp
   go_upto_region 8 with (fail)
   have ES0 := Ext.refl wr;refine wp_region_held_drew (S := Ext wr) (by kernel_rfl) ES0.drew (fun ES => ?_);clear ES0;refine Late.start2 (x := ⟨17, 5, 25, #[Value.bool false, Value.slice none 0 0]⟩) (y := ⟨18, 6, 25, #[Value.bool false, Value.slice none 0 0]⟩) (n := 20) ⟨_, rfl, rfl, rfl, fun a w => by go_simp⟩ ⟨_, rfl, rfl, rfl, fun a w => by go_simp⟩ (fun _ _ _ _ _ => ⟨fun h => h, fun h => h⟩) ES rfl (fun hAl hQ => ?_);refine Late.t 0 28 ?v_0 hQ ?y_0 ?_
   case y_0 => intro w' hSw;have q2 := hSw.cellv e2';have q3 := hSw.cellv e3';go_simp;try rfl
   try simp only [zP]
   refine Late.t 1 29 ?v_1 hQ ?y_1 ?_
   case y_1 => intro w' hSw;have q2 := hSw.cellv e2';have q3 := hSw.cellv e3';go_simp;try rfl
   try simp only [zP]
   refine Late.t 2 30 ?v_2 hQ ?y_2 ?_
   case y_2 => intro w' hSw;have q2 := hSw.cellv e2';have q3 := hSw.cellv e3';go_simp;try rfl
   try simp only [zP]
   refine Late.t 3 31 ?v_3 hQ ?y_3 ?_
   case y_3 => intro w' hSw;have q2 := hSw.cellv e2';have q3 := hSw.cellv e3';go_simp;try rfl
   try simp only [zP]
   refine Late.t 4 32 ?v_4 hQ ?y_4 ?_
   case y_4 => intro w' hSw;have q2 := hSw.cellv e2';have q3 := hSw.cellv e3';have k0 := (b3.ext hSw).c2;go_simp;try rfl
   try simp only [zP]
   refine Late.t 5 33 ?v_5 hQ ?y_5 ?_
   case y_5 => intro w' hSw;have q2 := hSw.cellv e2';have q3 := hSw.cellv e3';have k0 := (b3.ext hSw).c2;go_simp;try rfl
   try simp only [zP]
   refine Late.t 6 34 ?v_6 hQ ?y_6 ?_
   case y_6 => intro w' hSw;have q2 := hSw.cellv e2';have q3 := hSw.cellv e3';go_simp;try rfl
   try simp only [zP]
   refine Late.t 7 35 ?v_7 hQ ?y_7 ?_
   case y_7 => intro w' hSw;have q2 := hSw.cellv e2';have q3 := hSw.cellv e3';go_simp;try rfl
   try simp only [zP]
   refine Late.t 8 36 ?v_8 hQ ?y_8 ?_
   case y_8 => intro w' hSw;have q2 := hSw.cellv e2';have q3 := hSw.cellv e3';go_simp;try rfl
   try simp only [zP]
   refine Late.t 9 37 ?v_9 hQ ?y_9 ?_
   case y_9 => intro w' hSw;have q2 := hSw.cellv e2';have q3 := hSw.cellv e3';go_simp;try rfl
   try simp only [zP]
   refine Late.t 10 38 ?v_a hQ ?y_a ?_
   case y_a => intro w' hSw;have q2 := hSw.cellv e2';have q3 := hSw.cellv e3';have k0 := (b3.ext hSw).c2;go_simp;try rfl
   try simp only [zP]
   refine Late.cl (i := 11) rfl hAl hQ (fun w11 e11 E11 K hK => ?_);go_simp
   (go_at_call 73; refine (q_GCD (hd.ext E11) (hx.den.ext E11) (by omega) (by omega)).mono ?_; rintro e wa ⟨s4, A4, n4, c4, rfl, h4, hxa⟩; rw [Int.natAbs_natCast, Int.natAbs_natCast] at h4)
   refine hK.out _ _ hxa ?_;clear hK K
   try simp only [zP]
   refine Late.cl (i := 12) rfl hAl hQ (fun w12 e12 E12 K hK => ?_);go_simp
   (go_at_call 82; refine (q_DivX (hx.den.ext E12) (h4.ext e12) (by omega) (by omega) HG.out.1 HG.out.2).mono ?_; rintro e wb ⟨s5, A5, n5, c5, s6, A6, n6, c6, rfl, h5, hxb⟩)
   refine hK.out _ _ hxb ?_;clear hK K
   try simp only [zP]
   refine Late.t 13 27 ?v_b hQ ?y_b ?_
   case y_b => intro w' hSw;go_simp;try rfl
   try simp only [zP]
   refine Late.t 14 41 ?v_c hQ ?y_c ?_
   case y_c => intro w' hSw;go_simp;try rfl
   try simp only [zP]
   refine Late.t 15 42 ?v_d hQ ?y_d ?_
   case y_d => intro w' hSw;go_simp;try rfl
   try simp only [zP]
   refine Late.t 16 43 ?v_e hQ ?y_e ?_
   case y_e => intro w' hSw;go_simp;try rfl
   try simp only [zP]
   refine Late.finish2 (hAl _ (by simp)) (hAl _ (by simp)) (by decide) (by decide) (by kernel_rfl) (by kernel_rfl) (by kernel_rfl) (fun wz g5 g6 ez Ez lg5 lg6 hne xb1 xb2 => ?_);clear hAl hQ ES;have p10 := xb1.cell 0 (Value.bool false) rfl;have p11 := xb1.cell 1 (Value.slice none 0 0) rfl;have f10 := xb1.frozen 0;have f11 := xb1.frozen 1;have e4 := fin_dual (s := s5) (A := A5) (n := n5) (c := c5) xb1
   try simp only [zP]
   refine wpAnyH_ready (rs := [19]) (by kernel_rfl) (by simp) (AllReadyH.cons rfl (fun K hK => ?_) AllReadyH.nil);go_simp;refine hK.out _ _ (e4.2.2.1 _ Ez lg5) (fun _ => ?_);clear hK K
   try simp only [zP]
   have e5 := e4.2.2.2 _ _ _ (Ne.symm hne) xb2;refine any_world (fun U => Ext wr U /\ Box U g5 25 #[.bool s5, .slice A5 n5 c5] /\ Box U g6 25 #[Value.bool false, Value.slice none 0 0] /\ NI U ((q.den : Int) / ((Nat.gcd (denP (ts.take k)) q.den : Nat) : Int)) L s5 A5 n5 c5) ⟨e4.2.2.1 _ Ez lg5, e4.1, e5, e4.2.1 _ _ _ _ _ _ (h5.ext ez)⟩ ?_;clear e4 e5 p10 p11 f10 f11 xb1 xb2 h5;rintro U ⟨EU, xb1, xb2, h5⟩;have p10 := xb2.cell 0 (Value.bool false) rfl;have p11 := xb2.cell 1 (Value.slice none 0 0) rfl;have f10 := xb2.frozen 0;have f11 := xb2.frozen 1;have e4 := fin_dual (s := s6) (A := A6) (n := n6) (c := c6) xb2;refine wpAnyH_ready (rs := [20]) (by kernel_rfl) (by simp) (AllReadyH.cons rfl (fun K hK => ?_) AllReadyH.nil);go_simp;refine hK.out _ _ (e4.2.2.1 _ EU lg6) (fun _ => ?_);clear hK K
   try simp only [zP]
   refine any_world (fun U2 => Ext wr U2 /\ Box U2 g5 25 #[.bool s5, .slice A5 n5 c5] /\ NI U2 ((q.den : Int) / ((Nat.gcd (denP (ts.take k)) q.den : Nat) : Int)) L s5 A5 n5 c5) ⟨e4.2.2.1 _ EU lg6, e4.2.2.2 _ _ _ hne xb1, e4.2.1 _ _ _ _ _ _ h5⟩ ?_;clear e4 p10 p11 f10 f11 xb2 xb1 h5 lg5 lg6 EU;rintro U2 ⟨EU2, b5, h5⟩;refine wpAnyH_ready (rs := [21]) (by kernel_rfl) (by simp) (AllReadyH.cons rfl (fun K hK => ?_) AllReadyH.nil);go_simp;refine hK.out _ _ EU2 (fun _ => ?_);clear hK K
   try simp only [zP]
   refine wpAnyH_done (by kernel_rfl) ?_ _;have k0 := (b3.ext EU2).cell 0 _ rfl;have k1 := (b3.ext EU2).cell 1 _ rfl;have k2 := b5.cell 0 _ rfl;have k3 := b5.cell 1 _ rfl
   go_wp2_with fail
   refine (q_Mul (hd.ext EU2) h5 (by omega) (by omega)).mono ?_;rintro e W9 ⟨s9, A9, n9, c9, rfl, h9, hx9⟩;have E9 := EU2.trans hx9;clear k0 k1 k2 k3;have z0 := (b3.ext E9).cell 0 _ rfl;have z1 := (b3.ext E9).cell 1 _ rfl;have f0 := (b3.ext E9).frozen 0;have f1 := (b3.ext E9).frozen 1
   go_wp2_with fail
   obtain ⟨q1, q2, q3, q4⟩ := fin_dual (s := s9) (A := A9) (n := n9) (c := c9) (b3.ext E9);unfold set2 at q1 q2 q3 q4;have extk := q3 _ (ext.trans E9) hg3;have hdk := q2 _ _ _ _ _ _ h9;rw [lcm_step, <- denP_snoc, <- HT.out] at hdk
   go_roundw
   case rel => exact ⟨k + 1, s9, A9, n9, c9, by omega, by go_num, extk, q1, hdk.le (by rw [Nat.succ_mul]; omega)⟩
   case measure => simp [intOf]; omega
  ·have hkn : n1 = k := by omega
   subst hkn;rw [List.take_of_length_le (Nat.le_of_eq Hlen.out)] at hd;replace hd := hd.tight' (M := X) (by rw [Int.natAbs_natCast]; exact HXd.out);obtain ⟨D, hD⟩ : ∃ D, denP ts = D := ⟨_, rfl⟩;rw [hD] at hd;have HD := Lib.hid hD;clear hD hkL hlt hk
   go_wp2_with fail
   refine (q_FromInt 0 (by omega) (by omega)).mono ?_;rintro e W2 ⟨s2, A2, n2, c2, rfl, h2, hx2⟩
   go_upto_region 12 with (fail)
   have ha := (Ext.refl W2).alloc (.cells #[.bool s2, .slice A2 n2 c2] 25);refine at_world (fun V => Ext wr V /\ Box V W2.heap.size 25 #[.bool s2, .slice A2 n2 c2] /\ NI V 0 2 s2 A2 n2 c2) ⟨hx2.trans ha, Box.new W2 _ _, h2.ext ha⟩ ?_;have hg9 : wr.heap.size <= W2.heap.size := hx2.size;clear ha hx2 h2;generalize W2.heap.size = g9 at hg9 ⊢;obtain ⟨V2, hV2⟩ : ∃ V2, wr = V2 := ⟨_, rfl⟩;rw [hV2] at ext b3 hd hg9 ⊢;clear hV2;rintro V3 ⟨ext3, b9, h9⟩
   go_wp2_with fail
   go_loopw [8, 10] (fun v i wr => ∃ (k : Nat) (s : Bool) (A' : Option Addr) (n' c' : Nat), k <= n1 /\ i = .int .i64 (k : Int) /\ Ext V2 wr /\ Row2 wr V2.heap.size v (zs.take k) X /\ Box wr g9 25 #[.bool s, .slice A' n' c'] /\ NI wr ((gcdI (zs.take k) : Nat) : Int) X s A' n' c' /\ v.ownBlock ≠ some g9) (fun _ i _ => n1 - (intOf i).toNat)
   case atStart => exact ⟨0, s2, A2, n2, c2, Nat.zero_le _, rfl, ext3, by rw [List.take_zero]; exact Row2.nil _ _ _, b9, by rw [List.take_zero]; exact h9.le hX2, by simp [Value.ownBlock]⟩
   case round =>
    clear b9 h9 ext3;obtain ⟨k, s9, A9, n9, c9, hk, rfl, extr, hrow, b9, hg, hob9⟩ := hrel
    by_cases hlt : k < n1
    ·have hj : k < ts.length := by rw [Hlen.out]; exact hlt
     have hjz : k < zs.length := by rw [hzl]; exact hlt
     have hI : (k : Int) < (n1 : Int) := by omega
     obtain ⟨p, off, rfl, hr⟩ := h1.at_ hne0;obtain ⟨sx, Ax, nx, cx, tx, Bx, mx, dx, e0, e1, e2, e3, hx⟩ := (hr.ext (ext.trans extr)).at_ k hj;have e0' : wr.cell? ⟨p, off + k * 4, none⟩ = some (.bool sx) := by rw [Nat.mul_comm]; exact e0
     have e1' : wr.cell? ⟨p, off + k * 4 + 1, none⟩ = some (.slice Ax nx cx) := by rw [Nat.mul_comm]; exact e1
     have e2' : wr.cell? ⟨p, off + k * 4 + 2, none⟩ = some (.bool tx) := by rw [Nat.mul_comm]; exact e2
     have e3' : wr.cell? ⟨p, off + k * 4 + 3, none⟩ = some (.slice Bx mx dx) := by rw [Nat.mul_comm]; exact e3
     clear e0 e1 e2 e3;have HG := Lib.hid (show ((ts[k].den : Nat) : Int) ≠ 0 /\ ((ts[k].den : Nat) : Int) ∣ ((D : Nat) : Int) from ⟨by have := ts[k].den_nz; omega, Int.natCast_dvd_natCast.2 (by rw [<- HD.out]; exact denP_dvd (List.getElem_mem hj))⟩);have HT := Lib.hid (show zs.take (k + 1) = zs.take k ++ [zs[k]] from List.take_succ_eq_append_getElem hjz);have HZ := Lib.hid (nums_get HZS.out HD.out hj hjz);have HZX := Lib.hid (HX.out _ (List.getElem_mem hjz));have hlen : (zs.take k).length <= 1000 := by rw [List.length_take]; omega
     have HL1 := Lib.hid (show (zs.take (k + 1)).length = k + 1 by rw [List.length_take]; omega);obtain ⟨zk, hzk⟩ : ∃ z, zs[k] = z := ⟨_, rfl⟩;rw [hzk] at HT HZ HZX;have HZK := Lib.hid hzk;clear hzk;generalize ts[k] = q at hx HG HZ
     go_upto_region 15 with (fail)
     have ES0 := Ext.refl wr;refine wp_region_held_drew (S := Ext wr) (by kernel_rfl) ES0.drew (fun ES => ?_);clear ES0;refine Late.start2 (x := ⟨11, 11, 25, #[Value.bool false, Value.slice none 0 0]⟩) (y := ⟨12, 12, 25, #[Value.bool false, Value.slice none 0 0]⟩) (n := 14) ⟨_, rfl, rfl, rfl, fun a w => by go_simp⟩ ⟨_, rfl, rfl, rfl, fun a w => by go_simp⟩ (fun _ _ _ _ _ => ⟨fun h => h, fun h => h⟩) ES rfl (fun hAl hQ => ?_);refine Late.t 0 55 ?v_f hQ ?y_f ?_
     case y_f => intro w' hSw;have q2 := hSw.cellv e2';have q3 := hSw.cellv e3';have k0 := (b3.ext (extr.trans hSw)).cell 0 _ rfl;have k1 := (b3.ext (extr.trans hSw)).cell 1 _ rfl;go_simp;try rfl
     try simp only [zP]
     refine Late.t 1 56 ?v_g hQ ?y_g ?_
     case y_g => intro w' hSw;have q2 := hSw.cellv e2';have q3 := hSw.cellv e3';have k0 := (b3.ext (extr.trans hSw)).cell 0 _ rfl;have k1 := (b3.ext (extr.trans hSw)).cell 1 _ rfl;go_simp;try rfl
     try simp only [zP]
     refine Late.t 2 57 ?v_h hQ ?y_h ?_
     case y_h => intro w' hSw;have q2 := hSw.cellv e2';have q3 := hSw.cellv e3';have k0 := (b3.ext (extr.trans hSw)).cell 0 _ rfl;have k1 := (b3.ext (extr.trans hSw)).cell 1 _ rfl;go_simp;try rfl
     try simp only [zP]
     refine Late.t 3 58 ?v_i hQ ?y_i ?_
     case y_i => intro w' hSw;have q2 := hSw.cellv e2';have q3 := hSw.cellv e3';have k0 := (b3.ext (extr.trans hSw)).cell 0 _ rfl;have k1 := (b3.ext (extr.trans hSw)).cell 1 _ rfl;go_simp;try rfl
     try simp only [zP]
     refine Late.t 4 59 ?v_j hQ ?y_j ?_
     case y_j => intro w' hSw;have q2 := hSw.cellv e2';have q3 := hSw.cellv e3';have k0 := (b3.ext (extr.trans hSw)).cell 0 _ rfl;have k1 := (b3.ext (extr.trans hSw)).cell 1 _ rfl;go_simp;try rfl
     try simp only [zP]
     refine Late.t 5 60 ?v_k hQ ?y_k ?_
     case y_k => intro w' hSw;have q2 := hSw.cellv e2';have q3 := hSw.cellv e3';have k0 := (b3.ext (extr.trans hSw)).cell 0 _ rfl;have k1 := (b3.ext (extr.trans hSw)).cell 1 _ rfl;go_simp;try rfl
     try simp only [zP]
     refine Late.cl (i := 6) rfl hAl hQ (fun w6 e6 E6 K hK => ?_);go_simp
     (go_at_call 82; refine (q_DivX (hd.ext (extr.trans E6)) (hx.den.ext E6) (by omega) (by omega) HG.out.1 HG.out.2).mono ?_; rintro e wb ⟨s5, A5, n5, c5, s6, A6, n6, c6, rfl, h5, hxb⟩)
     refine hK.out _ _ hxb ?_;clear hK K
     try simp only [zP]
     refine Late.t 7 54 ?v_l hQ ?y_l ?_
     case y_l => intro w' hSw;go_simp;try rfl
     try simp only [zP]
     refine Late.t 8 62 ?v_m hQ ?y_m ?_
     case y_m => intro w' hSw;go_simp;try rfl
     try simp only [zP]
     refine Late.t 9 63 ?v_n hQ ?y_n ?_
     case y_n => intro w' hSw;go_simp;try rfl
     try simp only [zP]
     refine Late.t 10 64 ?v_o hQ ?y_o ?_
     case y_o => intro w' hSw;go_simp;try rfl
     try simp only [zP]
     refine Late.finish2 (hAl _ (by simp)) (hAl _ (by simp)) (by decide) (by decide) (by kernel_rfl) (by kernel_rfl) (by kernel_rfl) (fun wz g5 g6 ez Ez lg5 lg6 hne xb1 xb2 => ?_);clear hAl hQ ES;have p10 := xb1.cell 0 (Value.bool false) rfl;have p11 := xb1.cell 1 (Value.slice none 0 0) rfl;have f10 := xb1.frozen 0;have f11 := xb1.frozen 1;have e4 := fin_dual (s := s5) (A := A5) (n := n5) (c := c5) xb1
     try simp only [zP]
     refine wpAnyH_ready (rs := [13]) (by kernel_rfl) (by simp) (AllReadyH.cons rfl (fun K hK => ?_) AllReadyH.nil);go_simp;refine hK.out _ _ (e4.2.2.1 _ Ez lg5) (fun _ => ?_);clear hK K
     try simp only [zP]
     have e5 := e4.2.2.2 _ _ _ (Ne.symm hne) xb2;refine any_world (fun U => Ext wr U /\ Box U g5 25 #[.bool s5, .slice A5 n5 c5] /\ Box U g6 25 #[Value.bool false, Value.slice none 0 0] /\ NI U (((D : Nat) : Int) / ((q.den : Nat) : Int)) X s5 A5 n5 c5) ⟨e4.2.2.1 _ Ez lg5, e4.1, e5, e4.2.1 _ _ _ _ _ _ (h5.ext ez)⟩ ?_;clear e4 e5 p10 p11 f10 f11 xb1 xb2 h5;rintro U ⟨EU, xb1, xb2, h5⟩;have p10 := xb2.cell 0 (Value.bool false) rfl;have p11 := xb2.cell 1 (Value.slice none 0 0) rfl;have f10 := xb2.frozen 0;have f11 := xb2.frozen 1;have e4 := fin_dual (s := s6) (A := A6) (n := n6) (c := c6) xb2;refine wpAnyH_ready (rs := [14]) (by kernel_rfl) (by simp) (AllReadyH.cons rfl (fun K hK => ?_) AllReadyH.nil);go_simp;refine hK.out _ _ (e4.2.2.1 _ EU lg6) (fun _ => ?_);clear hK K
     try simp only [zP]
     refine any_world (fun U2 => Ext wr U2 /\ Box U2 g5 25 #[.bool s5, .slice A5 n5 c5] /\ NI U2 (((D : Nat) : Int) / ((q.den : Nat) : Int)) X s5 A5 n5 c5) ⟨e4.2.2.1 _ EU lg6, e4.2.2.2 _ _ _ hne xb1, e4.2.1 _ _ _ _ _ _ h5⟩ ?_;clear e4 p10 p11 f10 f11 xb2 xb1 h5 lg5 lg6 EU;rintro U2 ⟨EU2, b5, h5⟩;refine wpAnyH_ready (rs := [15]) (by kernel_rfl) (by simp) (AllReadyH.cons rfl (fun K hK => ?_) AllReadyH.nil);go_simp;refine hK.out _ _ EU2 (fun _ => ?_);clear hK K
     try simp only [zP]
     refine wpAnyH_done (by kernel_rfl) ?_ _;have extU := extr.trans EU2;replace hrow := hrow.ext EU2;replace b9 := b9.ext EU2;replace hg := hg.ext EU2;replace hx := hx.ext EU2;replace e0' := EU2.cellv e0';replace e1' := EU2.cellv e1';clear e2' e3' extr EU2;rw [HZ.out] at HZX
     go_upto_region 16 with (fail)
     refine wpL.st 9 (fun hQ ES => ?_);refine wpL.tB [9] 0 65 ?v_p hQ ?y_p ES ?_
     case y_p => intro w' hSw;have q0 := hSw.cellv e0';have q1 := hSw.cellv e1';go_simp;try rfl
     try simp only [zP]
     refine wpL.tB [3,4,5,7,8,9] 1 66 ?v_q hQ ?y_q ES ?_
     case y_q => intro w' hSw;have q0 := hSw.cellv e0';have q1 := hSw.cellv e1';go_simp;try rfl
     try simp only [zP]
     refine wpL.tB [3,4,5,7,8,9] 2 67 ?v_r hQ ?y_r ES ?_
     case y_r => intro w' hSw;have q0 := hSw.cellv e0';have q1 := hSw.cellv e1';go_simp;try rfl
     try simp only [zP]
     refine wpL.tB [4,5,7,8,9] 3 68 ?v_s hQ ?y_s ES ?_
     case y_s => intro w' hSw;have q0 := hSw.cellv e0';have q1 := hSw.cellv e1';go_simp;try rfl
     try simp only [zP]
     refine wpL.tB [5,7,8,9] 4 69 ?v_t hQ ?y_t ES ?_
     case y_t => intro w' hSw;have q0 := hSw.cellv e0';have q1 := hSw.cellv e1';go_simp;try rfl
     try simp only [zP]
     refine wpL.tB [7,8,9] 5 70 ?v_u hQ ?y_u ES ?_
     case y_u => intro w' hSw;have q0 := hSw.cellv e0';have q1 := hSw.cellv e1';have k0 := (b5.ext hSw).c2;go_simp;try rfl
     try simp only [zP]
     refine wpL.tB [7,8,9] 6 71 ?v_v hQ ?y_v ES ?_
     case y_v => intro w' hSw;have q0 := hSw.cellv e0';have q1 := hSw.cellv e1';have k0 := (b5.ext hSw).c2;go_simp;try rfl
     try simp only [zP]
     refine wpL.cl (i := 7) rfl (fun K hK => ?_);go_simp
     (go_at_call 75; refine (q_Mul (hx.num.ext ES) (h5.ext ES) (by omega) (by omega)).mono ?_; rintro e wk ⟨s7, A7, n7, c7, rfl, h7, hx7⟩; have E9 := Ext.trans ES hx7)
     refine hK.out _ _ E9 ?_;clear hK K
     try simp only [zP]
     refine wpL.cl (i := 8) rfl (fun K hK => ?_);have ha7 := (Ext.refl wk).alloc (.cells #[.bool s7, .slice A7 n7 c7] 25);have b7 := Box.new wk 25 #[.bool s7, .slice A7 n7 c7];go_simp;refine hK.out _ _ (E9.trans ha7) ?_;clear hK K
     try simp only [zP]
     replace h7 := (h7.ext ha7).tight' (M := X) HZX.out;rw [<- HZ.out] at h7;have E10 := E9.trans ha7;clear ha7 E9;have hrow' := hrow.ext E10;refine at_wpLP (fun V => Ext U2 V /\ Row2 V V2.heap.size u8 (zs.take k) X /\ NI V zk X s7 A7 n7 c7 /\ Box V wk.heap.size 25 #[.bool s7, .slice A7 n7 c7]) ⟨E10, hrow', h7, b7⟩ ?_;clear E10 hrow' h7 b7;generalize wk.heap.size = g7;rintro V ⟨E10, hrow', h7, b7⟩;refine wpL.tl (i := 9) rfl (fun K hK => ?_);refine step_append_int (by rfl) _ _ (by rfl) (by rfl) (by rfl) hrow' h7 b7 hlen (extU.trans E10).size ?_;intro v6 W6 hrow6 hgr hob;refine hK.out _ _ ?_;clear hK K
     try simp only [zP]
     refine wpL.tl (i := 10) rfl (fun K hK => ?_);go_simp;refine hK.out _ _ ?_;clear hK K
     try simp only [zP]
     refine wpL.done (by kernel_rfl) ?_ _;clear hQ;replace b9 := b9.ext E10;have hg6 := (hg.ext E10).own hrow'.nwb hgr;have b96 := Box.own b9 hgr hob9;have ext6 : Ext V2 W6 := Below.grown (extU.trans E10) hgr (extU.trans E10).size (fun k hk => (hrow'.block k hk).1)
     have hnb : v6.ownBlock ≠ some g9 := by
      rcases hob with e | e
      ·rw [e]; exact hob9
      ·rw [e]; intro e2; injection e2 with e2; have := b9.lt; omega
     clear hrow b9 hg b5 h5 hx e0' e1' hrow' h7 b7 hgr hob hob9 extU E10;rw [<- HT.out] at hrow6;obtain ⟨gr, cap, rfl, hbg, hcp, hcm, hJ⟩ := hrow6.jrow (fun e => by have := HL1.out; rw [e] at this; simp at this);obtain ⟨sz, Az, nz, cz, r0, r1, hzk⟩ := hJ.get (k := k) (by rw [HL1.out]; omega);rw [List.getElem_take, HZK.out] at hzk;obtain ⟨k1, hk1⟩ : ∃ k1, (zs.take (k + 1)).length = k1 := ⟨_, rfl⟩;rw [hk1] at hcp hrow6 ⊢;have hI6 : (k : Int) < (k1 : Int) := by have := HL1.out; omega
     clear hk1
     go_upto_region 17 with (fail)
     have b9 := b96;have hg := hg6;clear b96 hg6;refine wpL.st 6 (fun hQ ES => ?_);refine wpL.tB [5,6] 0 75 ?v_w hQ ?y_w ES ?_
     case y_w => intro w' hSw;have q0 := hSw.cellv r0;have q1 := hSw.cellv r1;have k0 := (b9.ext hSw).c2;go_simp;try rfl
     try simp only [zP]
     refine wpL.tB [3,4,5,6] 1 76 ?v_x hQ ?y_x ES ?_
     case y_x => intro w' hSw;have q0 := hSw.cellv r0;have q1 := hSw.cellv r1;go_simp;try rfl
     try simp only [zP]
     refine wpL.tB [3,4,5,6] 2 77 ?v_y hQ ?y_y ES ?_
     case y_y => intro w' hSw;have q0 := hSw.cellv r0;have q1 := hSw.cellv r1;go_simp;try rfl
     try simp only [zP]
     refine wpL.tB [4,5,6] 3 78 ?v_z hQ ?y_z ES ?_
     case y_z => intro w' hSw;have q0 := hSw.cellv r0;have q1 := hSw.cellv r1;go_simp;try rfl
     try simp only [zP]
     refine wpL.tB [5,6] 4 79 ?v_10 hQ ?y_10 ES ?_
     case y_10 => intro w' hSw;have q0 := hSw.cellv r0;have q1 := hSw.cellv r1;have k0 := (b9.ext hSw).c2;go_simp;try rfl
     try simp only [zP]
     refine wpL.cl (i := 5) rfl (fun K hK => ?_);go_simp
     (go_at_call 73; refine (q_GCD (hg.ext ES) (hzk.ext ES) (by omega) (by omega)).mono ?_; rintro e wk ⟨s8, A8, n8, c8, rfl, h8, hx8⟩; rw [Int.natAbs_natCast] at h8; have E9 := Ext.trans ES hx8)
     refine hK.out _ _ E9 ?_;clear hK K
     try simp only [zP]
     have z0 := (b9.ext E9).cell 0 _ rfl;have z1 := (b9.ext E9).cell 1 _ rfl;have f0 := (b9.ext E9).frozen 0;have f1 := (b9.ext E9).frozen 1;refine wpL.tl (i := 6) rfl (fun K hK => ?_);go_simp;refine hK.out _ _ ?_;clear hK K
     try simp only [zP]
     refine wpL.done (by kernel_rfl) ?_ _;clear hQ
     go_wp2_with fail
     obtain ⟨q1, q2, q3, q4⟩ := fin_dual (s := s8) (A := A8) (n := n8) (c := c8) (b9.ext E9);unfold set2 at q1 q2 q3 q4;have extk := q3 _ (ext6.trans E9) hg9;have hrk := (hrow6.ext E9).far (fun g T cs hv hb => q4 g T cs (fun e => hnb (by rw [<- e]; exact hv)) hb) q2;have hgk := q2 _ _ _ _ _ _ h8;rw [<- gcdI_snoc, <- HT.out] at hgk
     go_roundw
     case rel => exact ⟨k + 1, s8, A8, n8, c8, by omega, by go_num, extk, hrk, q1, hgk.le (by omega), hnb⟩
     case measure => simp [intOf]; omega
    ·have hkn : n1 = k := by omega
     subst hkn;rw [List.take_of_length_le (Nat.le_of_eq hzl)] at hrow hg;obtain ⟨gr, cap, rfl, hbg, hcp, hcm, hJ⟩ := hrow.jrow (fun e => by rw [e] at HZL; exact HZL.out rfl);have hgr9 : gr ≠ g9 := fun e => hob9 (by rw [e]; rfl)
     clear hrow hob9 hlt hk b3 hd;obtain ⟨j, hj1⟩ : ∃ j, n1 = j + 1 := ⟨n1 - 1, by have := List.length_pos_iff.2 hne0; have := Hlen.out; omega⟩;subst hj1;rw [hzl] at hcp ⊢;rw [lastD_at hzl] at HZL;obtain ⟨sz, Az, nz, cz, r0, r1, hzj⟩ := hJ.get (k := j) (by omega);have HP := Lib.hid (show ∀ k (h : k < (primI zs).length) (h2 : k < zs.length), (primI zs)[k] = zs[k] / comI zs from fun k h h2 => primI_get h h2);obtain ⟨cm, hcmI⟩ : ∃ cm, comI zs = cm := ⟨_, rfl⟩
     have HC := Lib.hid (show cm ≠ 0 /\ (∀ z ∈ zs, cm ∣ z) /\ cm = if zs[j] < 0 then -((gcdI zs : Nat) : Int) else ((gcdI zs : Nat) : Int) by
      rw [<- hcmI];refine ⟨comI_ne (List.getElem_mem (by omega)) HZL.out, fun z hz => comI_dvd hz, ?_⟩;unfold comI;rw [lastD_at hzl])
     rw [hcmI] at HP;clear hcmI
     go_upto_region 18 with (fail)
     go_wp2_with fail
     refine (q_Sign hzj (by omega)).mono ?_;rintro e W7 ⟨rfl, hx7⟩;obtain ⟨S, hS⟩ : ∃ S, zs[j].sign = S := ⟨_, rfl⟩;rw [hS];replace hJ := hJ.ext hx7;replace b9 := b9.ext hx7;replace hg := hg.ext hx7;replace extr := extr.trans hx7;clear hzj r0 r1 hx7
     go_upto_if 88 with fail
     go_cut [] (fun Y => ∃ s A n c, Ext V2 Y /\ JRow Y gr zs X /\ Box Y g9 25 #[.bool s, .slice A n c] /\ NI Y cm X s A n c)
     case first =>
      cases hd : decide (S < 0) with
      | false =>
       have hp : ¬ zs[j] < 0 := fun e => absurd (sign_lt0.2 e) (by rw [hS]; exact of_decide_eq_false hd)
       rw [if_neg hp] at HC
       go_wp2_with fail
       go_meet
       exact ⟨_, _, _, _, extr, hJ, b9, by rw [HC.out.2.2]; exact hg⟩
      | true =>
       have hp : zs[j] < 0 := sign_lt0.1 (by rw [hS]; exact of_decide_eq_true hd);rw [if_pos hp] at HC;have k0 := b9.cell 0 _ rfl;have k1 := b9.cell 1 _ rfl
       go_wp2_with fail
       refine (q_Neg hg (by omega)).mono ?_;rintro e W8 ⟨s8, A8, n8, c8, rfl, h8, hx8⟩;clear k0 k1;have z0 := (b9.ext hx8).cell 0 _ rfl;have z1 := (b9.ext hx8).cell 1 _ rfl;have f0 := (b9.ext hx8).frozen 0;have f1 := (b9.ext hx8).frozen 1
       go_wp2_with fail
       go_meet
       obtain ⟨q1, q2, q3, q4⟩ := fin_dual (s := s8) (A := A8) (n := n8) (c := c8) (b9.ext hx8);unfold set2 at q1 q2 q3 q4;exact ⟨_, _, _, _, q3 _ (extr.trans hx8) hg9, (hJ.ext hx8).far (fun T cs hb => q4 _ T cs hgr9 hb) q2, q1, by rw [HC.out.2.2]; exact q2 _ _ _ _ _ _ h8⟩
     case rest =>
      clear b9 hg extr hJ;obtain ⟨s8, A8, n8, c8, extr, hJ, b9, hc⟩ := hcut;have HCC := Lib.hid (show cm ≠ 0 /\ ∀ z ∈ zs, cm ∣ z from ⟨HC.out.1, HC.out.2.1⟩);clear HC;have hpl : (primI zs).length = zs.length := List.length_map _
      go_wp2_with fail
      go_loopw [14] (fun i wr => ∃ k : Nat, k <= j + 1 /\ i = .int .i64 (k : Int) /\ Ext V2 wr /\ JRow wr gr ((primI zs).take k ++ zs.drop k) X /\ Box wr g9 25 #[.bool s8, .slice A8 n8 c8] /\ NI wr cm X s8 A8 n8 c8) (fun i _ => j + 1 - (intOf i).toNat)
      case atStart => exact ⟨0, Nat.zero_le _, rfl, extr, by rw [List.take_zero, List.drop_zero, List.nil_append]; exact hJ, b9, hc⟩
      case round =>
       clear extr hJ b9 hc;obtain ⟨k, hk, rfl, extr, hJ, b9, hc⟩ := hrel;have hll : ((primI zs).take k ++ zs.drop k).length = j + 1 := by rw [List.length_append, List.length_take, List.length_drop]; omega
       by_cases hlt : k < j + 1
       ·have hkl : k < ((primI zs).take k ++ zs.drop k).length := by omega
        have hkz : k < zs.length := by omega
        have hI : (k : Int) < ((j + 1 : Nat) : Int) := by omega
        obtain ⟨sz, Az, nz, cz, r0, r1, hzk⟩ := hJ.get hkl;rw [half_at hpl hkz hkl] at hzk;have HG := Lib.hid (show cm ≠ 0 /\ cm ∣ zs[k] from ⟨HCC.out.1, HCC.out.2 _ (List.getElem_mem hkz)⟩);have HS := Lib.hid (half_set hpl hkz (by omega));have HP2 := Lib.hid (HP.out k (by omega) hkz)
        go_upto_region 23 with (fail)
        refine wpL.st 13 (fun hQ ES => ?_);refine wpL.tB [12,13] 0 98 ?v_11 hQ ?y_11 ES ?_
        case y_11 => intro w' hSw;have q0 := hSw.cellv r0;have q1 := hSw.cellv r1;go_simp;try rfl
        try simp only [zP]
        refine wpL.tB [12,13] 1 99 ?v_12 hQ ?y_12 ES ?_
        case y_12 => intro w' hSw;have q0 := hSw.cellv r0;have q1 := hSw.cellv r1;go_simp;try rfl
        try simp only [zP]
        refine wpL.tB [4,5,7,8,9,10,11,13] 2 100 ?v_13 hQ ?y_13 ES ?_
        case y_13 => intro w' hSw;have q0 := hSw.cellv r0;have q1 := hSw.cellv r1;go_simp;try rfl
        try simp only [zP]
        refine wpL.tB [4,5,7,8,9,10,11,13] 3 101 ?v_14 hQ ?y_14 ES ?_
        case y_14 => intro w' hSw;have q0 := hSw.cellv r0;have q1 := hSw.cellv r1;go_simp;try rfl
        try simp only [zP]
        refine wpL.tB [5,7,8,9,10,11,13] 4 102 ?v_15 hQ ?y_15 ES ?_
        case y_15 => intro w' hSw;have q0 := hSw.cellv r0;have q1 := hSw.cellv r1;go_simp;try rfl
        try simp only [zP]
        refine wpL.tB [7,8,9,10,11,13] 5 103 ?v_16 hQ ?y_16 ES ?_
        case y_16 => intro w' hSw;have q0 := hSw.cellv r0;have q1 := hSw.cellv r1;have k0 := (b9.ext hSw).c2;go_simp;try rfl
        try simp only [zP]
        refine wpL.tB [7,8,9,10,11,13] 6 104 ?v_17 hQ ?y_17 ES ?_
        case y_17 => intro w' hSw;have q0 := hSw.cellv r0;have q1 := hSw.cellv r1;have k0 := (b9.ext hSw).c2;go_simp;try rfl
        try simp only [zP]
        refine wpL.cl (i := 7) rfl (fun K hK => ?_);go_simp
        (go_at_call 82; refine (q_DivX (hzk.ext ES) (hc.ext ES) (by omega) (by omega) HG.out.1 HG.out.2).mono ?_; rintro e wk ⟨s5, A5, n5, c5, s6, A6, n6, c6, rfl, h5, hx8⟩; have E9 := Ext.trans ES hx8)
        refine hK.out _ _ E9 ?_;clear hK K
        try simp only [zP]
        refine wpL.tB [9,10,11,13] 8 97 ?v_18 hQ ?y_18 E9 ?_
        case y_18 => intro w' hSw;have q0 := hSw.cellv r0;have q1 := hSw.cellv r1;go_simp;try rfl
        try simp only [zP]
        refine wpL.tB [13] 9 106 ?v_19 hQ ?y_19 E9 ?_
        case y_19 => intro w' hSw;have q0 := hSw.cellv r0;have q1 := hSw.cellv r1;go_simp;try rfl
        try simp only [zP]
        refine wpL.takeT (i := 10) (d := some 107) (v := ?v_1a) rfl rfl (by kernel_rfl) (by kernel_rfl) (by kernel_rfl) (by kernel_rfl) hQ (Or.inl ⟨by rfl, ?y_1a⟩) (Or.inr E9) ?r_1a
        case y_1a => intro w' hSw;go_simp;try rfl
        try simp only [zP]
        refine wpL.takeT (i := 11) (d := some 108) (v := ?v_1b) rfl rfl (by kernel_rfl) (by kernel_rfl) (by kernel_rfl) (by kernel_rfl) hQ (Or.inl ⟨by rfl, ?y_1b⟩) (Or.inr E9) ?r_1b
        case y_1b => intro w' hSw;go_simp;try rfl
        try simp only [zP]
        refine wpL.tB [13] 12 109 ?v_1c hQ ?y_1c E9 ?_
        case y_1c => intro w' hSw;have q0 := hSw.cellv r0;have q1 := hSw.cellv r1;go_simp;try rfl
        try simp only [zP]
        have hJ9 := hJ.ext E9;obtain ⟨sz, Az, nz, cz, z0, z1, _⟩ := hJ9.get hkl;have f0 := hJ9.frozen (k * 2);have f1 := hJ9.frozen (k * 2 + 1);refine wpL.tl (i := 13) rfl (fun K hK => ?_);go_simp;refine hK.out _ _ ?_;clear hK K
        try simp only [zP]
        refine wpL.done (by kernel_rfl) ?_ _;clear hQ;have P := hJ9.put hkl (h5.ext (Ext.refl _));have extk := P.2.2.1 _ (extr.trans E9) (by omega);have bk := P.2.2.2 _ _ _ (Ne.symm hgr9) (b9.ext E9);have hck := P.2.1 _ _ _ _ _ _ (hc.ext E9);have hJk := P.1;rw [<- HP2.out, HS.out] at hJk
        go_wp2_with fail
        go_roundw
        case rel => exact ⟨k + 1, by omega, by go_num, extk, hJk, bk, hck⟩
        case measure => simp [intOf]; omega
       ·have hkn : k = j + 1 := by omega
        subst hkn;rw [List.take_of_length_le (by omega), List.drop_of_length_le (by omega), List.append_nil] at hJ
        go_wp2_with fail
        go_ret
        have hp := hJ.pol (k := j + 1) (c := cap) (by omega) hcp hcm;rw [List.take_of_length_le (by omega)] at hp;exact ⟨_, _, _, rfl, by rw [HTS.out, HZS.out]; exact hp, hx0.trans (ext.trans extr)⟩
end
end
end Go.Proofs.YtpeddoaknfjbbaaGreatDoor
