/- Walks and laws, a part. -/
import Derived.Test.YtpeddoaknfjbbaaGreatDoorMd11
import Derived.Test.YtpeddoaknfjbbaaGreatDoorMd7
import Derived.Test.YtpeddoaknfjbbaaGreatDoorMd5
import Derived.Test.YtpeddoaknfjbbaaGreatDoorMd10
import Derived.Test.YtpeddoaknfjbbaaGreatDoorMd8
import Derived.Test.YtpeddoaknfjbbaaGreatDoorMd2
import Derived.Test.YtpeddoaknfjbbaaGreatDoorMd4
import Derived.Test.YtpeddoaknfjbbaaGreatDoorMd9
set_option linter.unusedSimpArgs false
set_option linter.unusedVariables false
set_option maxHeartbeats 64000000
namespace Go.Proofs.YtpeddoaknfjbbaaGreatDoor
section
open Go.RowKit
attribute [local go_sem ↓] Go.wp_at_zero Go.wp_at_succ
def derP (qs : List Rat) : List Rat := (List.range (qs.length - 1)).map fun i => atP qs (i + 1) * (((i : Int) + 1 : Int) : Rat)
theorem derP_len (qs : List Rat) : (derP qs).length = qs.length - 1 := by unfold derP; simp
theorem derP_at (qs : List Rat) (p : Nat) (h0 : 1 <= p) (h' : p < qs.length) : (derP qs).take (p + 1 - 1) = (derP qs).take (p - 1) ++ [qs[p] * ((p : Int) : Rat)] := by
 obtain ⟨k, rfl⟩ : ∃ k, p = k + 1 := ⟨p - 1, by omega⟩;have hs : k < (derP qs).length := by rw [derP_len]; omega
 rw [show k + 1 + 1 - 1 = k + 1 by omega, show k + 1 - 1 = k by omega, List.take_succ_eq_append_getElem hs]
 congr 2
 simp [derP, atP_lt h']
section
variable {w w' : World} {q x : Rat} {L M : Nat} {s t : Bool} {A B : Option Addr} {n c m d : Nat} {sx tx : Bool} {Ax Bx : Option Addr} {nx cx mx dx : Nat} {qs ps : List Rat}
set_option maxRecDepth 100000 in
theorem p_DerP (h : Pol w A n c qs L) (hL : L <= 63) (hn : n <= 1000) (hT : Tab w) : Calls Tryz.prog 35 #[.slice A n c] w (RetPol (trimP (derP qs)) (L + 2) w) := by
 have Hlen := Lib.hid h.len;have Hd := Lib.hid (show (derP qs).length = n - 1 by rw [derP_len, h.len])
 go_enter Tryz.func35, Tryz.ntmps35
 go_wp2_with fail
 go_loopw [3, 8] (fun v i wr => ∃ k : Nat, k <= n /\ i = .int .i64 (k : Int) /\ Ext w wr /\ Row4 wr w.heap.size v ((derP qs).take (k - 1)) (L + 2)) (fun _ i _ => n - (intOf i).toNat)
 case atStart => exact ⟨0, Nat.zero_le _, rfl, Ext.refl _, Row4.nil _ _ _⟩
 case round =>
  obtain ⟨k, hk, rfl, ext, hrow⟩ := hrel
  by_cases hlt : k < n
  ·have hj : k < qs.length := by rw [Hlen.out]; exact hlt
   have hI : (k : Int) < (n : Int) := by omega
   obtain ⟨b, off, rfl, hr⟩ := h.at_ (fun e => by rw [e] at hj; exact absurd hj (Nat.not_lt_zero _));obtain ⟨sx, Ax, nx, cx, tx, Bx, mx, dx, e0, e1, e2, e3, hx⟩ := (hr.ext ext).at_ k hj;have e0' : wr.cell? ⟨b, off + k * 4, none⟩ = some (.bool sx) := by rw [Nat.mul_comm]; exact e0
   have e1' : wr.cell? ⟨b, off + k * 4 + 1, none⟩ = some (.slice Ax nx cx) := by rw [Nat.mul_comm]; exact e1
   have e2' : wr.cell? ⟨b, off + k * 4 + 2, none⟩ = some (.bool tx) := by rw [Nat.mul_comm]; exact e2
   have e3' : wr.cell? ⟨b, off + k * 4 + 3, none⟩ = some (.slice Bx mx dx) := by rw [Nat.mul_comm]; exact e3
   clear e0 e1 e2 e3
   go_upto_region 5 with (fail)
   obtain ⟨W9, hW9, ext9, b9, hz9⟩ := box1 wr 27 #[.bool sx, .slice Ax nx cx, .bool tx, .slice Bx mx dx];rw [<- hW9];clear hW9 hz9 e0' e1' e2' e3';replace hx := hx.ext ext9;replace hrow := hrow.ext ext9;replace ext := ext.trans ext9;clear ext9;generalize wr.heap.size = g9 at b9 ⊢
   rcases Nat.eq_zero_or_pos k with hk0 | hk1
   ·subst hk0
    go_wp2_with fail
    go_roundw
    case rel => exact ⟨1, by omega, by go_num, ext, hrow⟩
    case measure => simp [intOf]; omega
   ·have hlen : ((derP qs).take (k - 1)).length <= 1000 := by rw [List.length_take]; omega
    have hI2 : (0 : Int) < (k : Int) := by omega
    have HT := Lib.hid (derP_at qs k hk1 hj)
    go_upto_region 6 with (fail)
    refine wpL.st 6 (fun hQ ES => ?_);refine wpL.tB [6] 0 15 ?v_0 hQ ?y_0 ES ?_
    case y_0 => intro w' hSw;go_simp;try rfl
    try simp only [zP]
    refine wpL.tB [4,5,6] 1 16 ?v_1 hQ ?y_1 ES ?_
    case y_1 => intro w' hSw;have j0 := (b9.ext hSw).c4;go_simp;try rfl
    try simp only [zP]
    refine wpL.tB [3,4,5,6] 2 17 ?v_2 hQ ?y_2 ES ?_
    case y_2 => intro w' hSw;go_simp;try rfl
    try simp only [zP]
    refine wpL.cl (i := 3) rfl (fun K hK => ?_);go_simp
    (go_at_call 69; refine (p_FromIntR (k : Int) (by omega) (by omega)).mono ?_; rintro e wj ⟨s6, A6, n6, c6, t6, B6, m6, d6, rfl, h6, hx6⟩; have E6 := Ext.trans ES hx6)
    refine hK.out _ _ E6 ?_;clear hK K
    try simp only [zP]
    refine wpL.cl (i := 4) rfl (fun K hK => ?_);go_simp
    (go_at_call 59; refine (p_MulR (hx.ext E6) h6 (by omega) (by omega) (by omega) (hT.ext (ext.trans E6))).mono ?_; rintro e wk ⟨s7, A7, n7, c7, t7, B7, m7, d7, rfl, h7, hx7⟩; have E9 := Ext.trans E6 hx7)
    refine hK.out _ _ E9 ?_;clear hK K
    try simp only [zP]
    refine wpL.cl (i := 5) rfl (fun K hK => ?_);have ha7 := (Ext.refl wk).alloc (.cells #[.bool s7, .slice A7 n7 c7, .bool t7, .slice B7 m7 d7] 27);have b7 := Box.new wk 27 #[.bool s7, .slice A7 n7 c7, .bool t7, .slice B7 m7 d7];go_simp;refine hK.out _ _ (E9.trans ha7) ?_;clear hK K
    try simp only [zP]
    replace h7 := h7.ext ha7;have E10 := E9.trans ha7;clear ha7 E9 E6 hx6 hx7 h6;have hrow' := hrow.ext E10;refine at_wpLP (fun V => Ext W9 V /\ Row4 V w.heap.size u3 ((derP qs).take (k - 1)) (L + 2) /\ NR V (qs[k] * ((k : Int) : Rat)) (L + 2) s7 A7 n7 c7 t7 B7 m7 d7 /\ Box V wk.heap.size 27 #[.bool s7, .slice A7 n7 c7, .bool t7, .slice B7 m7 d7]) ⟨E10, hrow', h7, b7⟩ ?_;clear E10 hrow' h7 b7;generalize wk.heap.size = g7;rintro V ⟨E10, hrow', h7, b7⟩;refine wpL.tl (i := 6) rfl (fun K hK => ?_);refine step_append_rat (by rfl) _ _ (by rfl) (by rfl) (by rfl) hrow' h7 b7 hlen (ext.trans E10).size ?_;intro v6 W6 hrow6 hgr hob;refine hK.out _ _ ?_;clear hK K
    try simp only [zP]
    refine wpL.tl (i := 7) rfl (fun K hK => ?_);go_simp;refine hK.out _ _ ?_;clear hK K
    try simp only [zP]
    refine wpL.done (by kernel_rfl) ?_ _;clear hQ
    go_wp2_with fail
    go_roundw
    case rel => exact ⟨k + 1, by omega, by go_num, Below.grown (ext.trans E10) hgr (ext.trans E10).size (fun k hk => (hrow'.block k hk).1), by rw [HT.out]; exact hrow6⟩
    case measure => simp [intOf]; omega
  ·rw [List.take_of_length_le (by rw [Hd.out]; omega)] at hrow
   have hI : (n : Int) <= (k : Int) := by omega
   have hld := Hd.out;obtain ⟨A7, n7, c7, rfl, hp⟩ := hrow.pol;have hl7 := hp.len;clear hrow
   go_wp2_with fail
   refine (p_cutR hp (by omega) (by omega)).mono ?_;rintro e V ⟨A8, n8, c8, rfl, h8, hxt⟩
   go_wp2_with fail
   go_ret
   exact ⟨A8, n8, c8, rfl, h8, ext.trans hxt⟩
end
def exQ : List Rat := [0, 2, -4, 2]
def exQd : List Rat := [2, -8, 6]
def exG : List Rat := [-1, 1]
def exH : List Rat := [0, -2, 2]
def exS : List Rat := [0, -1, 1]
theorem exQ_prim : primI (trimI (numsP exQ)) = exA /\ trimI (numsP exQ) ≠ [] := by decide +kernel
theorem exQd_prim : primI (trimI (numsP exQd)) = exB /\ trimI (numsP exQd) ≠ [] := by decide +kernel
theorem exQ_size : SizeP exQ 1 := ⟨by decide +kernel, by decide +kernel⟩
theorem exQd_size : SizeP exQd 1 := ⟨by decide +kernel, by decide +kernel⟩
theorem exG_size : SizeP exG 1 := ⟨by decide +kernel, by decide +kernel⟩
theorem exG_eq : exD.map (fun z => mkQ z (exD.getLastD 0)) = exG := by decide +kernel
theorem exQ_der : trimP (derP exQ) = exQd := by decide +kernel
theorem exQ_nums : trimI (numsP exQ) = [0, 2, -4, 2] /\ trimI (numsP exG) = [-1, 1] := by decide +kernel
theorem exH_div : divC [0, 2, -4, 2] [-1] 1 3 1 1 = true := by decide +kernel
theorem exH_eq : trimP (scaleP (divS [0, 2, -4, 2] [-1] 1 3 3).2.2 (mkQ ((denP exG : Nat) : Int) ((denP exQ : Nat) : Int))) = exH := by decide +kernel
theorem exS_eq : trimP (scaleP exH (((1 : Int) : Rat) / exH.getLastD 0)) = exS /\ exH.getLastD 0 ≠ 0 := by decide +kernel
set_option maxRecDepth 100000 in
theorem p_GCD_ex {w : World} {A B : Option Addr} {c d L M : Nat} (h : Pol w A 4 c exQ L) (h' : Pol w B 3 d exQd M) (hL : L <= 60) (hM : M <= 60) (hT : Tab w) : Calls Tryz.prog 90 #[.slice A 4 c, .slice B 3 d] w (RetPol exG 1 w) := by
 go_enter Tryz.func90, Tryz.ntmps90
 go_wp2_with fail
 refine (p_PrimitiveP h hL (by omega) exQ_size (by omega) exQ_prim.2 hT).mono ?_;rw [exQ_prim.1];rintro e V1 ⟨A1, n1, c1, rfl, h1, x1⟩;have hn1 : n1 = 4 := h1.len.symm;subst hn1
 go_wp2_with fail
 refine (p_PrimitiveP (h'.ext x1) hM (by omega) exQd_size (by omega) exQd_prim.2 (hT.ext x1)).mono ?_;rw [exQd_prim.1];rintro e V2 ⟨A2, n2, c2, rfl, h2, x2⟩;have hn2 : n2 = 3 := h2.len.symm;subst hn2
 go_wp2_with fail
 refine (p_commonD_ex (h1.ext x2) h2 (hT.ext (x1.trans x2))).mono ?_;rintro e V3 ⟨A3, n3, c3, rfl, h3, x3⟩;have hn3 : n3 = 2 := h3.len.symm;subst hn3
 go_wp2_with fail
 refine (p_lastN h3 (by omega) (by omega)).mono ?_;rintro e V4 ⟨s4, A4, n4, c4, rfl, h4, x4⟩;have hT4 := hT.ext (((x1.trans x2).trans x3).trans x4)
 go_wp2_with fail
 refine (p_join (h3.ext x4) h4 (by decide) (by omega) (by omega) (by omega) hT4).mono ?_;rw [exG_eq];rintro e V5 ⟨A5, n5, c5, rfl, h5, x5⟩
 go_wp2_with fail
 go_ret
 exact ⟨A5, n5, c5, rfl, h5, (((x1.trans x2).trans x3).trans x4).trans x5⟩
set_option maxRecDepth 100000 in
theorem p_Squarefree_ex {w : World} {A : Option Addr} {c L : Nat} (h : Pol w A 4 c exQ L) (hL : L <= 50) (hT : Tab w) : Calls Tryz.prog 44 #[.slice A 4 c] w (RetPol exS 10 w) := by
 go_enter Tryz.func44, Tryz.ntmps44
 go_wp2_with fail
 refine (p_DerP h (by omega) (by omega) hT).mono ?_;rw [exQ_der];rintro e V1 ⟨A1, n1, c1, rfl, h1, x1⟩;have hn1 : n1 = 3 := h1.len.symm;subst hn1
 go_wp2_with fail
 refine (p_GCD_ex (h.ext x1) h1 (by omega) (by omega) (hT.ext x1)).mono ?_;rintro e V2 ⟨A2, n2, c2, rfl, h2, x2⟩;have hn2 : n2 = 2 := h2.len.symm;subst hn2;replace h := h.ext (x1.trans x2);replace hT := hT.ext (x1.trans x2);have HC := p_DivModP (X := 1) (Y := 1) (S := 1) (C := 1) (o := 1) (N := 3) (xs := [0, 2, -4, 2]) (ys := [-1, 1]) (os := [-1]) (lead := 1) h h2 (by omega) (by omega) (by omega) (by omega) exQ_size exG_size (by omega) (by omega) exQ_nums.1 exQ_nums.2 rfl rfl rfl rfl (by decide) (divC_ok exH_div) (by omega) (by omega) (by omega) hT;rw [exH_eq] at HC;have HC := Lib.hid HC
 go_wp2_with fail
 refine HC.out.mono ?_;clear HC;rintro e V3 ⟨A3, n3, c3, B3, m3, d3, rfl, h3, _, x3⟩;have hn3 : n3 = 3 := h3.len.symm;subst hn3
 go_wp2_with fail
 refine (p_FromIntR 1 (by omega) (by omega)).mono ?_;rintro e V4 ⟨s4, A4, n4, c4, t4, B4, m4, d4, rfl, h4, x4⟩
 go_wp2_with fail
 refine (p_lastR (h3.ext x4) (by omega) (by omega)).mono ?_;rintro e V5 ⟨s5, A5, n5, c5, t5, B5, m5, d5, rfl, h5, x5⟩;have hT5 := hT.ext ((x3.trans x4).trans x5)
 go_wp2_with fail
 refine (p_Div_nz (h4.ext x5) h5 (by omega) (by omega) (by omega) hT5 exS_eq.2).mono ?_;rintro e V6 ⟨s6, A6, n6, c6, t6, B6, m6, d6, rfl, h6, x6⟩
 go_upto_region 5 with (fail)
 obtain ⟨W7, hW7, ext7, b7, hz7⟩ := box1 V6 27 #[.bool s6, .slice A6 n6 c6, .bool t6, .slice B6 m6 d6];rw [<- hW7];clear hW7 hz7;generalize V6.heap.size = g7 at b7 ⊢;have q0 := b7.cell 0 _ rfl;have q1 := b7.cell 1 _ rfl;have q2 := b7.cell 2 _ rfl;have q3 := b7.cell 3 _ rfl
 go_wp2_with fail
 refine (p_ScaleP (h3.ext (((x4.trans x5).trans x6).trans ext7)) (h6.ext ext7) (by omega) (by omega) (by omega) (hT5.ext (x6.trans ext7))).mono ?_;rw [exS_eq.1];rintro e V8 ⟨A8, n8, c8, rfl, h8, x8⟩
 go_wp2_with fail
 go_ret
 exact ⟨A8, n8, c8, rfl, h8, (x1.trans x2).trans ((((((x3.trans x4).trans x5).trans x6).trans ext7)).trans x8)⟩
def pv : List (Int × Int) -> List Value
 | [] => []
 | x :: l => .int .i64 x.1 :: .int .i64 x.2 :: pv l
theorem pv_at : ∀ (ps : List (Int × Int)) (k : Nat) (h : k < ps.length), (pv ps)[2 * k]? = some (.int .i64 ps[k].1) /\ (pv ps)[2 * k + 1]? = some (.int .i64 ps[k].2)
 | x :: l, 0, _ => ⟨rfl, rfl⟩
 | x :: l, k + 1, h => by
  have hl : k < l.length := by simpa using h
  have := pv_at l k hl;refine ⟨?_, ?_⟩
  ·rw [show 2 * (k + 1) = 2 * k + 1 + 1 by omega]; exact this.1
  ·rw [show 2 * (k + 1) + 1 = 2 * k + 1 + 1 + 1 by omega]; exact this.2
theorem pv_cell {w : World} {g : Nat} {ps : List (Int × Int)} (hb : Box w g 53 (pv ps).toArray) {k : Nat} (h : k < ps.length) : w.cell? ⟨g, k * 2, none⟩ = some (.int .i64 ps[k].1) /\ w.cell? ⟨g, k * 2 + 1, none⟩ = some (.int .i64 ps[k].2) := by
 have := pv_at ps k h;rw [Nat.mul_comm];exact ⟨hb.cell _ _ (by simpa using this.1), hb.cell _ _ (by simpa using this.2)⟩
def fracs (ps : List (Int × Int)) : List Rat := ps.map fun x => mkQ x.1 x.2
set_option maxRecDepth 100000 in
theorem p_rats {w : World} {g n : Nat} {ps : List (Int × Int)} (hb : Box w g 53 (pv ps).toArray) (hl : ps.length = n) (hn : n <= 100) (hx : ∀ x ∈ ps, (-9223372036854775808 <= x.1 /\ x.1 < 9223372036854775808) /\ -9223372036854775808 <= x.2 /\ x.2 < 9223372036854775808) : Calls Tryz.prog 43 #[.slice (some ⟨g, 0, none⟩) n n] w (RetPol (fracs ps) 2 w) := by
 have HX := Lib.hid hx;have HL := Lib.hid hl;clear hx hl
 go_enter Tryz.func43, Tryz.ntmps43
 go_wp2_with fail
 go_loopw [3, 8] (fun v i wr => ∃ k : Nat, k <= n /\ i = .int .i64 (k : Int) /\ Ext w wr /\ Row4 wr w.heap.size v (fracs (ps.take k)) 2) (fun _ i _ => n - (intOf i).toNat)
 case atStart => exact ⟨0, Nat.zero_le _, rfl, Ext.refl w, by rw [List.take_zero]; exact Row4.nil _ _ _⟩
 case round =>
  obtain ⟨k, hk, rfl, extr, hrow⟩ := hrel
  rename_i v _
  by_cases hlt : k < n
  ·have hkI : (k : Int) < (n : Int) := by omega
   have hkl : k < ps.length := by rw [HL.out]; exact hlt
   obtain ⟨e0, e1⟩ := pv_cell (hb.ext extr) hkl;have HT := Lib.hid (show fracs (ps.take (k + 1)) = fracs (ps.take k) ++ [mkQ ps[k].1 ps[k].2] by rw [List.take_succ_eq_append_getElem hkl]; unfold fracs; rw [List.map_append]; rfl);have HB := Lib.hid (HX.out _ (List.getElem_mem hkl));have hlen : (fracs (ps.take k)).length <= 1000 := by unfold fracs; rw [List.length_map, List.length_take]; omega
   generalize ps[k] = x at e0 e1 HT HB;obtain ⟨a, b⟩ := x;replace e0 : wr.cell? ⟨g, k * 2, none⟩ = some (.int .i64 a) := e0;replace e1 : wr.cell? ⟨g, k * 2 + 1, none⟩ = some (.int .i64 b) := e1
   go_upto_region 5 with (fail)
   obtain ⟨W4, hW4, ext4, b8, hz4⟩ := box1 wr 53 #[.int .i64 a, .int .i64 b];rw [<- hW4];clear hW4 hz4 e0 e1;replace extr := extr.trans ext4;replace hrow := hrow.ext ext4;clear ext4;have y0 := b8.cell 0 (.int .i64 a) rfl;have y1 := b8.cell 1 (.int .i64 b) rfl
   go_wp2_with fail
   refine (q_Frac a b HB.out.1.1 HB.out.1.2 HB.out.2.1 HB.out.2.2).mono ?_;rintro e W5 ⟨s7, A7, n7, c7, t7, B7, m7, d7, rfl, h7, ext5⟩;clear y0 y1;have ha5 := (ext5).alloc (.cells #[.bool s7, .slice A7 n7 c7, .bool t7, .slice B7 m7 d7] 27);replace extr := extr.trans ha5;replace hrow := hrow.ext ha5;replace h7 := h7.ext ((Ext.refl W5).alloc (.cells #[.bool s7, .slice A7 n7 c7, .bool t7, .slice B7 m7 d7] 27));clear ext5 ha5 b8
   go_wp2_with (at_builtin; refine wpList_append_rat rfl _ _ rfl rfl rfl hrow h7 (Box.new W5 _ _) hlen extr.size ?_; intro v6 W6 hrow6 hgr hob)
   go_roundw
   case rel =>
    refine ⟨k + 1, by omega, by go_num, Below.grown extr hgr extr.size (fun k hk => (hrow.block k hk).1), ?_⟩;rw [HT.out];exact hrow6
   case measure => simp [intOf]; omega
  ·have hkn : k = n := by omega
   subst hkn;rw [List.take_of_length_le (Nat.le_of_eq HL.out)] at hrow;have hkI : (k : Int) <= (k : Int) := Int.le_refl _;obtain ⟨A, m, c, rfl, hp⟩ := hrow.pol
   go_wp2_with fail
   go_ret
   exact ⟨A, m, c, rfl, hp, extr⟩
def iv8 (ws : List Int) : List Value := ws.map fun x => .int .i64 x
theorem iv8_cell {w : World} {g : Nat} {ws : List Int} (hb : Box w g 2 (iv8 ws).toArray) {k : Nat} (h : k < ws.length) : w.cell? ⟨g, k, none⟩ = some (.int .i64 ws[k]) := hb.cell _ _ (by simp [iv8, h])
set_option maxRecDepth 100000 in
theorem p_ints {w : World} {A : Option Addr} {g n c L : Nat} {ws : List Int} (h : IPol w A n c ws L) (hL : L <= 1000) (hb : Box w g 2 (iv8 ws).toArray) (hn : n <= 100) (hx : ∀ x ∈ ws, -9223372036854775808 <= x /\ x < 9223372036854775808) : Calls Tryz.prog 46 #[.slice A n c, .slice (some ⟨g, 0, none⟩) n n] w fun e w' => e = .returned (.bool true) /\ Ext w w' := by
 have HX := Lib.hid hx;have HL := Lib.hid h.len;have hm : ∀ a : Int, (a - a).sign = 0 := fun a => by rw [Int.sub_self]; rfl
 clear hx
 go_enter Tryz.func46, Tryz.ntmps46
 go_wp2_with fail
 go_loopw [14] (fun i wr => ∃ k : Nat, k <= n /\ i = .int .i64 (k : Int) /\ Ext w wr) (fun i _ => n - (intOf i).toNat)
 case atStart => exact ⟨0, Nat.zero_le _, rfl, Ext.refl w⟩
 case round =>
  obtain ⟨k, hk, rfl, extr⟩ := hrel
  by_cases hlt : k < n
  ·have hkI : (k : Int) < (n : Int) := by omega
   have hkl : k < ws.length := by rw [HL.out]; exact hlt
   obtain ⟨b, off, hA, hr⟩ := (h.ext extr).at_ (fun e => by rw [e] at hkl; exact absurd hkl (Nat.not_lt_zero _));subst hA;obtain ⟨s9, A9, n9, c9, z0', z1', hz⟩ := hr.at_ k hkl;have z0 : wr.cell? ⟨b, off + k * 2, none⟩ = some (.bool s9) := by rw [Nat.mul_comm]; exact z0'
   have z1 : wr.cell? ⟨b, off + k * 2 + 1, none⟩ = some (.slice A9 n9 c9) := by rw [Nat.mul_comm]; exact z1'
   clear z0' z1';have e0 := iv8_cell (hb.ext extr) hkl;have HB := Lib.hid (HX.out _ (List.getElem_mem hkl))
   have HCM : ∀ (W : World) s1 A1 n1 c1, NI W ws[k] 2 s1 A1 n1 c1 -> NI W ws[k] L s9 A9 n9 c9 -> Calls Tryz.prog 74 #[.agg #[.bool s9, .slice A9 n9 c9], .agg #[.bool s1, .slice A1 n1 c1]] W fun e w' => e = .returned (.int .i64 0) /\ Ext W w' := by
    intro W s1 A1 n1 c1 h1 h2;have := q_Cmp h2 h1 (by omega) (by omega);rw [hm] at this;exact this
   go_upto_region 6 with (fail)
   have ES0 := Ext.refl wr;refine wp_region_held_drew (S := Ext wr) (by kernel_rfl) ES0.drew (fun ES => ?_);clear ES0;refine Late.s0 ES (fun hAl hQ => ?_);refine Late.t 0 19 ?v_0 hQ ?y_0 ?_
   case y_0 => intro w' hSw;have l0 := hSw.cellv z0;have l1 := hSw.cellv z1;go_simp;try rfl
   try simp only [zP]
   refine Late.t 1 20 ?v_1 hQ ?y_1 ?_
   case y_1 => intro w' hSw;have l0 := hSw.cellv z0;have l1 := hSw.cellv z1;go_simp;try rfl
   try simp only [zP]
   refine Late.t 2 21 ?v_2 hQ ?y_2 ?_
   case y_2 => intro w' hSw;have l0 := hSw.cellv z0;have l1 := hSw.cellv z1;go_simp;try rfl
   try simp only [zP]
   refine Late.t 3 22 ?v_3 hQ ?y_3 ?_
   case y_3 => intro w' hSw;have l0 := hSw.cellv z0;have l1 := hSw.cellv z1;go_simp;try rfl
   try simp only [zP]
   refine Late.t 4 23 ?v_4 hQ ?y_4 ?_
   case y_4 => intro w' hSw;have l0 := hSw.cellv z0;have l1 := hSw.cellv z1;go_simp;try rfl
   try simp only [zP]
   refine Late.cl (i := 5) rfl hAl hQ (fun w5 e5 E5 K hK => ?_);go_simp
   (go_at_call 81; refine (q_FromInt ws[k] HB.out.1 HB.out.2).mono ?_; rintro e wa ⟨s1, A1, n1, c1, rfl, h1, hx0⟩)
   refine hK.out _ _ hx0 ?_;clear hK K
   try simp only [zP]
   refine Late.cl (i := 6) rfl hAl hQ (fun w6 e6 E6 K hK => ?_);go_simp
   (go_at_call 74; refine (HCM _ _ _ _ _ (h1.ext e6) (hz.ext E6)).mono ?_; rintro e wb ⟨rfl, hx1⟩)
   refine hK.out _ _ hx1 ?_;clear hK K
   try simp only [zP]
   refine Late.t 7 26 ?v_5 hQ ?y_5 ?_
   case y_5 => intro w' hSw;go_simp;try rfl
   try simp only [zP]
   refine Late.d0 (fun wz ez Ez => ?_);clear hAl hQ ES;have hxz := extr.trans Ez
   go_wp2_with fail
   go_roundw
   case rel => exact ⟨k + 1, by omega, by go_num, hxz⟩
   case measure => simp [intOf]; omega
  ·have hkn : k = n := by omega
   subst hkn;have hkI : (k : Int) <= (k : Int) := Int.le_refl _
   go_wp2_with fail
   go_ret
   exact ⟨rfl, extr⟩
section
variable {w w' : World} {q x : Rat} {L M : Nat} {s t : Bool} {A B : Option Addr} {n c m d : Nat} {sx tx : Bool} {Ax Bx : Option Addr} {nx cx mx dx : Nat} {qs ps : List Rat}
theorem sub_nil {qs ps : List Rat} (hl : qs.length = ps.length) : trimP (sumP qs (negP ps)) = [] ↔ qs = ps := by
 constructor
 ·intro h
  refine List.ext_getElem hl (fun i h1 h2 => ?_);have e : atP (sumP qs (negP ps)) i = 0 := by rw [<- atP_trimP, h]; rfl
  rw [atP_sumP, atP_lt h1, atP_lt (l := negP ps) (by unfold negP; rw [List.length_map]; exact h2)] at e;simp only [negP, List.getElem_map] at e;have e2 : qs[i] + -ps[i] + ps[i] = ps[i] := by rw [e, Rat.zero_add]
  rwa [Rat.add_assoc, Rat.neg_add_cancel, Rat.add_zero] at e2
 ·intro h
  rw [<- h, sumP_negP, trimP_zeros]
theorem q_ValidN (h : NR w q L s A n c t B m d) (hL : L <= 3000) : Calls Tryz.prog 30 #[.agg #[.bool s, .slice A n c, .bool t, .slice B m d]] w fun e w' => e = .returned (.bool true) /\ Ext w w' := by
 obtain ⟨xs, ys, r1, r2, hv, hn, hm, _⟩ := h.raw;refine (q_ValidRaw r1 r2 (by omega) (by omega)).mono ?_;rintro e V ⟨rfl, hx⟩;exact ⟨by rw [hv], hx⟩
theorem q_EqualP (h : Pol w A n c qs L) (h' : Pol w B m d ps M) (hL2 : 2 <= L) (hL : L <= 350) (hM : M <= 350) (hn : n <= 1000) (hm : m <= 1000) : Calls Tryz.prog 45 #[.slice A n c, .slice B m d] w fun e w' => e = .returned (.bool (decide (qs = ps))) /\ Ext w w' := by
 by_cases hlt : n = m
 ·have hd : decide (trimP (sumP qs (negP ps)) = []) = decide (qs = ps) := decide_eq_decide.2 (sub_nil (by rw [h.len, h'.len]; exact hlt))
  subst hlt;obtain ⟨b, hb⟩ : ∃ b, decide (qs = ps) = b := ⟨_, rfl⟩;rw [hb] at hd;rw [hb];have HD := Lib.hid hd;clear hd hb
  go_enter Tryz.func45, Tryz.ntmps45
  go_wp2_with fail
  refine (q_SameP h h' hL2 hL hM hn hm).mono ?_;rintro e V ⟨rfl, hxt⟩;rw [HD.out]
  go_wp2_with fail
  go_ret
  exact ⟨rfl, hxt⟩
 ·have hd : decide (qs = ps) = false := decide_eq_false (fun e => hlt (by rw [<- h.len, <- h'.len, e]))
  rw [hd];clear hd;have hb : ((n : Int) == (m : Int)) = false := beq_eq_false_iff_ne.2 (by omega)
  go_enter Tryz.func45, Tryz.ntmps45
  go_wp2_with fail
  go_ret
  exact ⟨rfl, Ext.refl _⟩
theorem good_P (h : Pol w A n c qs L) (h' : Pol w B m d ps M) (hL2 : 2 <= L) (hL : L <= 350) (hM : M <= 350) (hn : n <= 1000) (hm : m <= 1000) : Calls Tryz.prog 12 #[.slice A n c, .slice B m d] w fun e w' => e = .returned (.bool (decide (qs = ps))) /\ Ext w w' := by
 obtain ⟨b, hb⟩ : ∃ b, decide (qs = ps) = b := ⟨_, rfl⟩;have HB := Lib.hid hb;rw [hb];clear hb;have Hlen := Lib.hid h.len
 go_enter Tryz.func12, Tryz.ntmps12
 go_wp2_with fail
 go_loopw [9] (fun i wr => ∃ k : Nat, k <= n /\ i = .int .i64 (k : Int) /\ Ext w wr) (fun i _ => n - (intOf i).toNat)
 case atStart => exact ⟨0, by omega, rfl, Ext.refl _⟩
 case round =>
  obtain ⟨k, hk, rfl, ext⟩ := hrel
  by_cases hlt : k < n
  ·have hj : k < qs.length := by rw [Hlen.out]; exact hlt
   have hI : (k : Int) < (n : Int) := by omega
   obtain ⟨p, off, rfl, hr⟩ := h.at_ (fun e => by rw [e] at hj; exact absurd hj (Nat.not_lt_zero _));obtain ⟨sx, Ax, nx, cx, tx, Bx, mx, dx, e0, e1, e2, e3, hx⟩ := (hr.ext ext).at_ k hj;have e0' : wr.cell? ⟨p, off + k * 4, none⟩ = some (.bool sx) := by rw [Nat.mul_comm]; exact e0
   have e1' : wr.cell? ⟨p, off + k * 4 + 1, none⟩ = some (.slice Ax nx cx) := by rw [Nat.mul_comm]; exact e1
   have e2' : wr.cell? ⟨p, off + k * 4 + 2, none⟩ = some (.bool tx) := by rw [Nat.mul_comm]; exact e2
   have e3' : wr.cell? ⟨p, off + k * 4 + 3, none⟩ = some (.slice Bx mx dx) := by rw [Nat.mul_comm]; exact e3
   clear e0 e1 e2 e3
   go_wp2_with fail
   refine (q_ValidN (hx.ext ((Ext.refl wr).alloc _)) (by omega)).mono ?_;rintro e V ⟨rfl, hxv⟩
   go_wp2_with fail
   go_roundw
   case rel => exact ⟨k + 1, by omega, by go_num, (ext.alloc _).trans hxv⟩
   case measure => simp [intOf]; omega
  ·have hI : (n : Int) <= (k : Int) := by omega
   go_wp2_with fail
   refine (q_EqualP (h.ext ext) (h'.ext ext) hL2 hL hM hn hm).mono ?_;rintro e V ⟨rfl, hxv⟩;rw [HB.out]
   go_wp2_with fail
   go_ret
   exact ⟨rfl, ext.trans hxv⟩
end
def ex0 : List Rat := [(-1), (0), (1)]
theorem ex0_fr : fracs [(-1, 1), (0, 1), (1, 1)] = ex0 := by decide +kernel
theorem rats0 {w : World} {g : Nat} (hb : Box w g 53 #[.int .i64 (-1), .int .i64 (1), .int .i64 (0), .int .i64 (1), .int .i64 (1), .int .i64 (1)]) : Calls Tryz.prog 43 #[.slice (some ⟨g, 0, none⟩) 3 3] w (RetPol ex0 2 w) := by
 have := p_rats (n := 3) (ps := [(-1, 1), (0, 1), (1, 1)]) hb rfl (by omega) (by decide)
 rwa [ex0_fr] at this
def ex1 : List Rat := [(2), (2)]
theorem ex1_fr : fracs [(2, 1), (2, 1)] = ex1 := by decide +kernel
theorem rats1 {w : World} {g : Nat} (hb : Box w g 53 #[.int .i64 (2), .int .i64 (1), .int .i64 (2), .int .i64 (1)]) : Calls Tryz.prog 43 #[.slice (some ⟨g, 0, none⟩) 2 2] w (RetPol ex1 2 w) := by
 have := p_rats (n := 2) (ps := [(2, 1), (2, 1)]) hb rfl (by omega) (by decide)
 rwa [ex1_fr] at this
def ex2 : List Rat := [(0), (2), (-4), (2)]
theorem ex2_fr : fracs [(0, 1), (2, 1), (-4, 1), (2, 1)] = ex2 := by decide +kernel
theorem rats2 {w : World} {g : Nat} (hb : Box w g 53 #[.int .i64 (0), .int .i64 (1), .int .i64 (2), .int .i64 (1), .int .i64 (-4), .int .i64 (1), .int .i64 (2), .int .i64 (1)]) : Calls Tryz.prog 43 #[.slice (some ⟨g, 0, none⟩) 4 4] w (RetPol ex2 2 w) := by
 have := p_rats (n := 4) (ps := [(0, 1), (2, 1), (-4, 1), (2, 1)]) hb rfl (by omega) (by decide)
 rwa [ex2_fr] at this
def ex3 : List Rat := [(-1 / 3), (1 / 2)]
theorem ex3_fr : fracs [(-1, 3), (1, 2)] = ex3 := by decide +kernel
theorem rats3 {w : World} {g : Nat} (hb : Box w g 53 #[.int .i64 (-1), .int .i64 (3), .int .i64 (1), .int .i64 (2)]) : Calls Tryz.prog 43 #[.slice (some ⟨g, 0, none⟩) 2 2] w (RetPol ex3 2 w) := by
 have := p_rats (n := 2) (ps := [(-1, 3), (1, 2)]) hb rfl (by omega) (by decide)
 rwa [ex3_fr] at this
def ex4 : List Rat := [(0), (-1)]
theorem ex4_fr : fracs [(0, 1), (-1, 1)] = ex4 := by decide +kernel
theorem rats4 {w : World} {g : Nat} (hb : Box w g 53 #[.int .i64 (0), .int .i64 (1), .int .i64 (-1), .int .i64 (1)]) : Calls Tryz.prog 43 #[.slice (some ⟨g, 0, none⟩) 2 2] w (RetPol ex4 2 w) := by
 have := p_rats (n := 2) (ps := [(0, 1), (-1, 1)]) hb rfl (by omega) (by decide)
 rwa [ex4_fr] at this
def ex5 : List Rat := [(1), (-3), (2)]
theorem ex5_fr : fracs [(1, 1), (-3, 1), (2, 1)] = ex5 := by decide +kernel
theorem rats5 {w : World} {g : Nat} (hb : Box w g 53 #[.int .i64 (1), .int .i64 (1), .int .i64 (-3), .int .i64 (1), .int .i64 (2), .int .i64 (1)]) : Calls Tryz.prog 43 #[.slice (some ⟨g, 0, none⟩) 3 3] w (RetPol ex5 2 w) := by
 have := p_rats (n := 3) (ps := [(1, 1), (-3, 1), (2, 1)]) hb rfl (by omega) (by decide)
 rwa [ex5_fr] at this
def ex6 : List Rat := [(0), (0), (1)]
theorem ex6_fr : fracs [(0, 1), (0, 1), (1, 1)] = ex6 := by decide +kernel
theorem rats6 {w : World} {g : Nat} (hb : Box w g 53 #[.int .i64 (0), .int .i64 (1), .int .i64 (0), .int .i64 (1), .int .i64 (1), .int .i64 (1)]) : Calls Tryz.prog 43 #[.slice (some ⟨g, 0, none⟩) 3 3] w (RetPol ex6 2 w) := by
 have := p_rats (n := 3) (ps := [(0, 1), (0, 1), (1, 1)]) hb rfl (by omega) (by decide)
 rwa [ex6_fr] at this
def ex7 : List Rat := [(1), (1)]
theorem ex7_fr : fracs [(1, 1), (1, 1)] = ex7 := by decide +kernel
theorem rats7 {w : World} {g : Nat} (hb : Box w g 53 #[.int .i64 (1), .int .i64 (1), .int .i64 (1), .int .i64 (1)]) : Calls Tryz.prog 43 #[.slice (some ⟨g, 0, none⟩) 2 2] w (RetPol ex7 2 w) := by
 have := p_rats (n := 2) (ps := [(1, 1), (1, 1)]) hb rfl (by omega) (by decide)
 rwa [ex7_fr] at this
def ex8 : List Rat := [(-1 / 2), (1 / 2)]
theorem ex8_fr : fracs [(-1, 2), (1, 2)] = ex8 := by decide +kernel
theorem rats8 {w : World} {g : Nat} (hb : Box w g 53 #[.int .i64 (-1), .int .i64 (2), .int .i64 (1), .int .i64 (2)]) : Calls Tryz.prog 43 #[.slice (some ⟨g, 0, none⟩) 2 2] w (RetPol ex8 2 w) := by
 have := p_rats (n := 2) (ps := [(-1, 2), (1, 2)]) hb rfl (by omega) (by decide)
 rwa [ex8_fr] at this
def ex9 : List Rat := [(0), (-1), (1)]
theorem ex9_fr : fracs [(0, 1), (-1, 1), (1, 1)] = ex9 := by decide +kernel
theorem rats9 {w : World} {g : Nat} (hb : Box w g 53 #[.int .i64 (0), .int .i64 (1), .int .i64 (-1), .int .i64 (1), .int .i64 (1), .int .i64 (1)]) : Calls Tryz.prog 43 #[.slice (some ⟨g, 0, none⟩) 3 3] w (RetPol ex9 2 w) := by
 have := p_rats (n := 3) (ps := [(0, 1), (-1, 1), (1, 1)]) hb rfl (by omega) (by decide)
 rwa [ex9_fr] at this
def ex10 : List Rat := [(1), (2), (1)]
theorem ex10_fr : fracs [(1, 1), (2, 1), (1, 1)] = ex10 := by decide +kernel
theorem rats10 {w : World} {g : Nat} (hb : Box w g 53 #[.int .i64 (1), .int .i64 (1), .int .i64 (2), .int .i64 (1), .int .i64 (1), .int .i64 (1)]) : Calls Tryz.prog 43 #[.slice (some ⟨g, 0, none⟩) 3 3] w (RetPol ex10 2 w) := by
 have := p_rats (n := 3) (ps := [(1, 1), (2, 1), (1, 1)]) hb rfl (by omega) (by decide)
 rwa [ex10_fr] at this
theorem ex0_size : SizeP ex0 1 := ⟨by decide +kernel, by decide +kernel⟩
theorem ex1_size : SizeP ex1 1 := ⟨by decide +kernel, by decide +kernel⟩
theorem ex3_size : SizeP ex3 1 := ⟨by decide +kernel, by decide +kernel⟩
theorem ex4_size : SizeP ex4 1 := ⟨by decide +kernel, by decide +kernel⟩
theorem ex6_size : SizeP ex6 1 := ⟨by decide +kernel, by decide +kernel⟩
theorem ex7_size : SizeP ex7 1 := ⟨by decide +kernel, by decide +kernel⟩
theorem ex01_nums : trimI (numsP ex0) = [-1, 0, 1] /\ trimI (numsP ex1) = [2, 2] := by decide +kernel
theorem ex01_div : divC [-1, 0, 1] [2] 2 2 1 1 = true := by decide +kernel
theorem ex01_q : trimP (scaleP (divS [-1, 0, 1] [2] 2 2 2).2.2 (mkQ ((denP ex1 : Nat) : Int) ((denP ex0 : Nat) : Int))) = ex8 := by decide +kernel
theorem ex01_r : (trimI ((divS [-1, 0, 1] [2] 2 2 2).1.take 1)).map (fun z => mkQ z ((divS [-1, 0, 1] [2] 2 2 2).2.1 * ((denP ex0 : Nat) : Int))) = [] := by decide +kernel
section
variable {w : World} {A B : Option Addr} {c d L M : Nat}
theorem dm_call (h : Pol w A 3 c ex0 2) (h' : Pol w B 2 d ex1 2) (hT : Tab w) : Calls Tryz.prog 33 #[.slice A 3 c, .slice B 2 d] w (RetDM2 ex8 [] 4 3 0 w) := by
 have HC := p_DivModP (X := 1) (Y := 1) (S := 1) (C := 1) (o := 1) (N := 2) (xs := [-1, 0, 1]) (ys := [2, 2]) (os := [2]) (lead := 2) h h' (by omega) (by omega) (by omega) (by omega) ex0_size ex1_size (by omega) (by omega) ex01_nums.1 ex01_nums.2 rfl rfl rfl rfl (by decide) (divC_ok ex01_div) (by omega) (by omega) (by omega) hT;rw [ex01_q] at HC;rw [show ([-1, 0, 1] : List Int).length - 2 = 1 from rfl, ex01_r] at HC;exact HC
theorem pr_call1 (h : Pol w A 2 c ex3 2) (hT : Tab w) : Calls Tryz.prog 37 #[.slice A 2 c] w (RetIPol [-2, 3] 1 w) := by
 have HC := p_PrimitiveP h (by omega) (by omega) ex3_size (by omega) (by decide +kernel) hT
 rwa [show primI (trimI (numsP ex3)) = [-2, 3] by decide +kernel] at HC
theorem pr_call2 (h : Pol w A 2 c ex4 2) (hT : Tab w) : Calls Tryz.prog 37 #[.slice A 2 c] w (RetIPol [0, 1] 1 w) := by
 have HC := p_PrimitiveP h (by omega) (by omega) ex4_size (by omega) (by decide +kernel) hT
 rwa [show primI (trimI (numsP ex4)) = [0, 1] by decide +kernel] at HC
theorem bo_call (h : Pol w A 3 c ex5 2) (hT : Tab w) : Calls Tryz.prog 41 #[.slice A 3 c] w (RetNR (5 / 2) 7 w) := by
 have HC := p_BoundP h (by omega) (by omega) (by omega) hT
 rwa [show (if (trimP ex5).length < 2 then 0 else 1 + maxA ((trimP ex5).take ((trimP ex5).length - 1)) / absQ ((trimP ex5).getLastD 0)) = (5 / 2 : Rat) by decide +kernel] at HC
theorem ex67_hb : HornB (trimI (numsP ex6)) (trimI (numsP ex7)) ((denP ex7 : Nat) : Int) 1 1 := by
 have e1 : trimI (numsP ex6) = [0, 0, 1] := by decide +kernel
 have e2 : trimI (numsP ex7) = [1, 1] := by decide +kernel
 have e3 : ((denP ex7 : Nat) : Int) = 1 := by decide +kernel
 rw [e1, e2, e3];exact ⟨by decide +kernel, by decide +kernel, by decide +kernel, by decide +kernel⟩
theorem co_call (h : Pol w A 3 c ex6 2) (h' : Pol w B 2 d ex7 2) (hT : Tab w) : Calls Tryz.prog 27 #[.slice A 3 c, .slice B 2 d] w (RetPol ex10 4 w) := by
 have HC := p_ComposeP h h' (by omega) (by omega) (by omega) (by omega) ex6_size ex7_size (by omega) (by omega) ex67_hb (by omega) (by omega) hT
 rwa [show (hornS (trimI (numsP ex6)) (trimI (numsP ex7)) ((denP ex7 : Nat) : Int) (trimI (numsP ex6)).length).1.map (fun z => mkQ z (((denP ex6 : Nat) : Int) * (hornS (trimI (numsP ex6)) (trimI (numsP ex7)) ((denP ex7 : Nat) : Int) (trimI (numsP ex6)).length).2)) = ex10 by decide +kernel] at HC
end
section
variable {w : World} {A B : Option Addr} {n m c d L M : Nat} {qs ps : List Rat}
theorem eq_call (h : Pol w A n c qs L) (h' : Pol w B m d ps M) (he : qs = ps) (hL2 : 2 <= L) (hL : L <= 100) (hM : M <= 100) (hn : n <= 1000) (hm : m <= 1000) : Calls Tryz.prog 45 #[.slice A n c, .slice B m d] w fun e w' => e = .returned (.bool true) /\ Ext w w' := by
 have := q_EqualP h h' hL2 (by omega) (by omega) hn hm
 rwa [show decide (qs = ps) = true from decide_eq_true he] at this
theorem cm_call {s t s' t' : Bool} {A B A' B' : Option Addr} {n c m d n' c' m' d' : Nat} (h : NR w (5 / 2) 7 s A n c t B m d) (k : NR w (mkQ 5 2) 2 s' A' n' c' t' B' m' d') : Calls Tryz.prog 31 #[.agg #[.bool s, .slice A n c, .bool t, .slice B m d], .agg #[.bool s', .slice A' n' c', .bool t', .slice B' m' d']] w fun e w' => e = .returned (.int .i64 0) /\ Ext w w' := by
 have := q_CmpR h k (by omega) (by omega)
 rwa [show ratCmp (5 / 2) (mkQ 5 2) = 0 by decide +kernel] at this
theorem ints_call1 {g : Nat} (h : IPol w A 2 c [-2, 3] 1) (hb : Box w g 2 #[.int .i64 (-2), .int .i64 3]) : Calls Tryz.prog 46 #[.slice A 2 c, .slice (some ⟨g, 0, none⟩) 2 2] w fun e w' => e = .returned (.bool true) /\ Ext w w' := p_ints h (by omega) hb (by omega) (by decide)
theorem ints_call2 {g : Nat} (h : IPol w A 2 c [0, 1] 1) (hb : Box w g 2 #[.int .i64 0, .int .i64 1]) : Calls Tryz.prog 46 #[.slice A 2 c, .slice (some ⟨g, 0, none⟩) 2 2] w fun e w' => e = .returned (.bool true) /\ Ext w w' := p_ints h (by omega) hb (by omega) (by decide)
end
def Awake4 : Prop := ∀ w : World, Tab w -> Calls Tryz.prog 9 #[] w fun e w' => e = .returned (.bool true) /\ Ext w w'
def rawQ (s : Bool) (xs : List Nat) (t : Bool) (ys : List Nat) : Rat := mkRat (ival s xs) (ival t ys).toNat
theorem Rd.uniq {w : World} {A : Option Addr} {xs ys : List Nat} (h : Rd w A xs) (k : Rd w A ys) (hl : xs.length = ys.length) : xs = ys := by
 by_cases h0 : xs = []
 ·subst h0; exact (List.length_eq_zero_iff.1 hl.symm).symm
 have k0 : ys ≠ [] := fun e => h0 (List.length_eq_zero_iff.1 (by rw [hl, e]; rfl))
 obtain ⟨b, off, hA, _, hc⟩ := h.2 h0;obtain ⟨b', off', hA', _, hc'⟩ := k.2 k0;rw [hA] at hA'
 injection hA' with hA'
 injection hA' with q1 q2
 subst q1 q2;refine List.ext_getElem hl (fun i h1 h2 => ?_);have e := (hc i h1).symm.trans (hc' i h2)
 injection e with e
 injection e with e1 e2
 omega
theorem NR.of_raw' {w : World} {s : Bool} {A : Option Addr} {n c : Nat} {xs : List Nat} {t : Bool} {B : Option Addr} {m d : Nat} {ys : List Nat} {L : Nat} (h : RI w A n c xs) (k : RI w B m d ys) (hv : validQ s xs t ys = true) (hn : n <= L) (hm : m <= L) :
  NR w (rawQ s xs t ys) L s A n c t B m d := by
 obtain ⟨q, hq⟩ := NR.of_raw h k hv hn hm;obtain ⟨xs0, a1, a2, _, _, a3, _⟩ := hq.num.out;obtain ⟨ys0, b1, b2, _, _, b3, _⟩ := hq.den.out;have e1 : xs0 = xs := a2.uniq h.rd (by rw [a1, h.len]);have e2 : ys0 = ys := b2.uniq k.rd (by rw [b1, k.len]);subst e1 e2
 have e3 : rawQ s xs0 t ys0 = q := by
  unfold rawQ;rw [a3.eq, b3.eq, Int.toNat_natCast];exact Rat.mkRat_self q
 rw [e3];exact hq
structure RawR where
 s : Bool
 xs : List Nat
 t : Bool
 ys : List Nat
def shortB (s : Bool) (xs : List Nat) (t : Bool) (ys : List Nat) : Bool :=
 decide (xs.length <= 4) && (decide (ys.length <= 4) && (validQ s xs t ys && (decide (bitsN (trimL xs) <= 120) && decide (bitsN (trimL ys) <= 120))))
def RawR.short (r : RawR) : Bool := shortB r.s r.xs r.t r.ys
def RawR.q (r : RawR) : Rat := rawQ r.s r.xs r.t r.ys
def smallB (rs : List RawR) (k : Nat) : Bool := decide (rs.length <= k) && rs.all RawR.short
theorem shortB_le {s : Bool} {xs : List Nat} {t : Bool} {ys : List Nat} (h : shortB s xs t ys = true) : xs.length <= 4 /\ ys.length <= 4 /\ validQ s xs t ys = true := by
 unfold shortB at h;simp only [Bool.and_eq_true, decide_eq_true_eq] at h;exact ⟨h.1, h.2.1, h.2.2.1⟩
def RawAt (w : World) (b o : Nat) (r : RawR) : Prop :=
 ∃ A n c B m d, w.cell? ⟨b, o, none⟩ = some (.bool r.s) /\ w.cell? ⟨b, o + 1, none⟩ = some (.slice A n c) /\ w.cell? ⟨b, o + 2, none⟩ = some (.bool r.t) /\ w.cell? ⟨b, o + 3, none⟩ = some (.slice B m d) /\ RI w A n c r.xs /\ RI w B m d r.ys
structure RawP (w : World) (A : Option Addr) (n c : Nat) (rs : List RawR) : Prop where
 len : rs.length = n
 cap : n <= c
 top : c <= maxLen
 at_ : rs ≠ [] -> ∃ b off, A = some ⟨b, off, none⟩ /\ ∀ i (h : i < rs.length), RawAt w b (off + 4 * i) rs[i]
section
variable {w w' : World} {r : RawR} {rs : List RawR} {A B : Option Addr} {n c m d b o : Nat}
theorem RawAt.ext (h : RawAt w b o r) (e : Ext w w') : RawAt w' b o r := by
 obtain ⟨A, n, c, B, m, d, h0, h1, h2, h3, h4, h5⟩ := h;exact ⟨A, n, c, B, m, d, e.cellv h0, e.cellv h1, e.cellv h2, e.cellv h3, h4.ext e, h5.ext e⟩
theorem RawP.ext (h : RawP w A n c rs) (e : Ext w w') : RawP w' A n c rs :=
 ⟨h.len, h.cap, h.top, fun hq => by obtain ⟨b, off, h1, h2⟩ := h.at_ hq; exact ⟨b, off, h1, fun i hi => (h2 i hi).ext e⟩⟩
theorem RawP.pol (h : RawP w A n c rs) (hs : rs.all RawR.short = true) : Pol w A n c (rs.map RawR.q) 4 := by
 refine ⟨by rw [List.length_map]; exact h.len, h.cap, h.top, fun hq => ?_⟩;obtain ⟨b, off, h1, h2⟩ := h.at_ (fun e => hq (by rw [e]; rfl));refine ⟨b, off, h1, ⟨fun i hi => ?_⟩⟩;have hi' : i < rs.length := by rw [List.length_map] at hi; exact hi
 obtain ⟨A, n, c, B, m, d, h0, h1, h2, h3, h4, h5⟩ := h2 i hi';have hsi := List.all_eq_true.1 hs rs[i] (List.getElem_mem hi');obtain ⟨f1, f2, f3⟩ := shortB_le hsi;rw [List.getElem_map];exact ⟨_, A, n, c, _, B, m, d, h0, h1, h2, h3, NR.of_raw' h4 h5 f3 (by rw [<- h4.len]; exact f1) (by rw [<- h5.len]; exact f2)⟩
end
section
variable {w w' : World} {s t : Bool} {A B : Option Addr} {n c m d : Nat} {xs ys : List Nat}
theorem q_Short (h : RI w A n c xs) (k : RI w B m d ys) : Calls Tryz.prog 11 #[.agg #[.bool s, .slice A n c, .bool t, .slice B m d]] w fun e w' => e = .returned (.bool (shortB s xs t ys)) /\ Ext w w' := by
 have hb : shortB s xs t ys = (decide (n <= 4) && (decide (m <= 4) && (validQ s xs t ys && (decide (bitsN (trimL xs) <= 120) && decide (bitsN (trimL ys) <= 120))))) := by unfold shortB; rw [h.len, k.len]
 rw [hb];clear hb
 by_cases h1 : n <= 4
 ·have d1 : decide ((n : Int) <= (4 : Int)) = true := decide_eq_true (by omega)
  by_cases h2 : m <= 4
  ·have d2 : decide ((m : Int) <= (4 : Int)) = true := decide_eq_true (by omega)
   rw [decide_eq_true h1, decide_eq_true h2, Bool.true_and, Bool.true_and]
   cases hv : validQ s xs t ys with
   | false =>
    have HV := Lib.hid hv;clear hv;rw [Bool.false_and]
    go_enter Tryz.func11, Tryz.ntmps11
    go_upto_region 1 with (fail)
    obtain ⟨W, hW, extW, bx, hz⟩ := box1 w 27 #[.bool s, .slice A n c, .bool t, .slice B m d];rw [<- hW];clear hW hz;replace h := h.ext extW;replace k := k.ext extW;have x0 := bx.cell 0 (.bool s) rfl;have x1 := bx.cell 1 (.slice A n c) rfl;have x2 := bx.cell 2 (.bool t) rfl;have x3 := bx.cell 3 (.slice B m d) rfl
    go_wp2_with fail
    refine (q_ValidRaw h k (by omega) (by omega)).mono ?_;rintro e wd ⟨rfl, hxd⟩;rw [HV.out]
    go_wp2_with fail
    go_ret
    exact ⟨rfl, extW.trans hxd⟩
   | true =>
    have HV := Lib.hid hv;clear hv;rw [Bool.true_and];obtain ⟨u1, hu1⟩ : ∃ u, bitsN (trimL xs) = u := ⟨_, rfl⟩;obtain ⟨u2, hu2⟩ : ∃ u, bitsN (trimL ys) = u := ⟨_, rfl⟩;have HB1 := Lib.hid hu1;have HB2 := Lib.hid hu2;rw [hu1, hu2];clear hu1 hu2
    by_cases h3 : u1 <= 120
    ·have d3 : decide ((u1 : Int) <= (120 : Int)) = true := decide_eq_true (by omega)
     rw [decide_eq_true h3, Bool.true_and];obtain ⟨f, hf⟩ : ∃ f, decide (u2 <= 120) = f := ⟨_, rfl⟩;rw [hf];have d4 : decide ((u2 : Int) <= (120 : Int)) = f := by rw [<- hf]; exact decide_eq_decide.2 (by omega)
     clear hf
     go_enter Tryz.func11, Tryz.ntmps11
     go_upto_region 1 with (fail)
     obtain ⟨W, hW, extW, bx, hz⟩ := box1 w 27 #[.bool s, .slice A n c, .bool t, .slice B m d];rw [<- hW];clear hW hz;replace h := h.ext extW;replace k := k.ext extW;have x0 := bx.cell 0 (.bool s) rfl;have x1 := bx.cell 1 (.slice A n c) rfl;have x2 := bx.cell 2 (.bool t) rfl;have x3 := bx.cell 3 (.slice B m d) rfl
     go_wp2_with fail
     refine (q_ValidRaw h k (by omega) (by omega)).mono ?_;rintro e wd ⟨rfl, hxd⟩;rw [HV.out];replace bx := bx.ext hxd;replace h := h.ext hxd;replace k := k.ext hxd;replace extW := extW.trans hxd;clear hxd x0 x1 x2 x3;have x0 := bx.cell 0 (.bool s) rfl;have x1 := bx.cell 1 (.slice A n c) rfl;have x2 := bx.cell 2 (.bool t) rfl;have x3 := bx.cell 3 (.slice B m d) rfl
     go_wp2_with fail
     refine (ref_Bits h.len h.rd h.cap h.top (by omega)).mono ?_;rintro e we ⟨rfl, hxe⟩;rw [HB1.out];replace bx := bx.ext hxe;replace h := h.ext hxe;replace k := k.ext hxe;replace extW := extW.trans hxe;clear hxe x0 x1 x2 x3;have x0 := bx.cell 0 (.bool s) rfl;have x1 := bx.cell 1 (.slice A n c) rfl;have x2 := bx.cell 2 (.bool t) rfl;have x3 := bx.cell 3 (.slice B m d) rfl
     go_wp2_with fail
     refine (ref_Bits k.len k.rd k.cap k.top (by omega)).mono ?_;rintro e wf ⟨rfl, hxf⟩;rw [HB2.out]
     go_wp2_with fail
     go_ret
     exact ⟨rfl, extW.trans hxf⟩
    ·have d3 : decide ((u1 : Int) <= (120 : Int)) = false := decide_eq_false (by omega)
     rw [decide_eq_false h3, Bool.false_and]
     go_enter Tryz.func11, Tryz.ntmps11
     go_upto_region 1 with (fail)
     obtain ⟨W, hW, extW, bx, hz⟩ := box1 w 27 #[.bool s, .slice A n c, .bool t, .slice B m d];rw [<- hW];clear hW hz;replace h := h.ext extW;replace k := k.ext extW;have x0 := bx.cell 0 (.bool s) rfl;have x1 := bx.cell 1 (.slice A n c) rfl;have x2 := bx.cell 2 (.bool t) rfl;have x3 := bx.cell 3 (.slice B m d) rfl
     go_wp2_with fail
     refine (q_ValidRaw h k (by omega) (by omega)).mono ?_;rintro e wd ⟨rfl, hxd⟩;rw [HV.out];replace bx := bx.ext hxd;replace h := h.ext hxd;replace k := k.ext hxd;replace extW := extW.trans hxd;clear hxd x0 x1 x2 x3;have x0 := bx.cell 0 (.bool s) rfl;have x1 := bx.cell 1 (.slice A n c) rfl;have x2 := bx.cell 2 (.bool t) rfl;have x3 := bx.cell 3 (.slice B m d) rfl
     go_wp2_with fail
     refine (ref_Bits h.len h.rd h.cap h.top (by omega)).mono ?_;rintro e we ⟨rfl, hxe⟩;rw [HB1.out]
     go_wp2_with fail
     go_ret
     exact ⟨rfl, extW.trans hxe⟩
  ·have d2 : decide ((m : Int) <= (4 : Int)) = false := decide_eq_false (by omega)
   rw [decide_eq_true h1, decide_eq_false h2, Bool.true_and, Bool.false_and]
   go_enter Tryz.func11, Tryz.ntmps11
   go_upto_region 1 with (fail)
   obtain ⟨W, hW, extW, bx, hz⟩ := box1 w 27 #[.bool s, .slice A n c, .bool t, .slice B m d];rw [<- hW];clear hW hz;replace h := h.ext extW;replace k := k.ext extW;have x0 := bx.cell 0 (.bool s) rfl;have x1 := bx.cell 1 (.slice A n c) rfl;have x2 := bx.cell 2 (.bool t) rfl;have x3 := bx.cell 3 (.slice B m d) rfl
   go_wp2_with fail
   go_ret
   exact ⟨rfl, extW⟩
 ·have d1 : decide ((n : Int) <= (4 : Int)) = false := decide_eq_false (by omega)
  rw [decide_eq_false h1, Bool.false_and]
  go_enter Tryz.func11, Tryz.ntmps11
  go_upto_region 1 with (fail)
  obtain ⟨W, hW, extW, bx, hz⟩ := box1 w 27 #[.bool s, .slice A n c, .bool t, .slice B m d];rw [<- hW];clear hW hz;replace h := h.ext extW;replace k := k.ext extW;have x0 := bx.cell 0 (.bool s) rfl;have x1 := bx.cell 1 (.slice A n c) rfl;have x2 := bx.cell 2 (.bool t) rfl;have x3 := bx.cell 3 (.slice B m d) rfl
  go_wp2_with fail
  go_ret
  exact ⟨rfl, extW⟩
theorem q_Small {rs : List RawR} (h : RawP w A n c rs) (N : Nat) (hN : N <= 1000) : Calls Tryz.prog 26 #[.slice A n c, .int .i64 (N : Int)] w fun e w' => e = .returned (.bool (smallB rs N)) /\ Ext w w' := by
 have Hlen := Lib.hid h.len
 by_cases hb : n <= N
 ·have hg : (n : Int) <= (N : Int) := by omega
  go_enter Tryz.func26, Tryz.ntmps26
  go_wp2_with fail
  try rw [show decide (N < n) = false from decide_eq_false (by omega)]
  go_loopw [5] (fun i wr => ∃ k : Nat, k <= n /\ i = .int .i64 (k : Int) /\ Ext w wr /\ (rs.take k).all RawR.short = true) (fun i _ => n - (intOf i).toNat)
  case atStart => exact ⟨0, by omega, rfl, Ext.refl _, by simp⟩
  case round =>
   obtain ⟨k, hk, rfl, ext, hall⟩ := hrel;have HA := Lib.hid hall;clear hall
   by_cases hlt : k < n
   ·have hj : k < rs.length := by rw [Hlen.out]; exact hlt
    have hI : (k : Int) < (n : Int) := by omega
    obtain ⟨p, off, rfl, hr⟩ := h.at_ (fun e => by rw [e] at hj; exact absurd hj (Nat.not_lt_zero _));obtain ⟨Ax, nx, cx, Bx, mx, dx, e0, e1, e2, e3, hx, hy⟩ := (hr k hj).ext ext;have HT := Lib.hid (show (rs.take (k + 1)).all RawR.short = ((rs.take k).all RawR.short && RawR.short rs[k]) by rw [List.take_succ_eq_append_getElem hj, List.all_append]; simp)
    have HM := Lib.hid (fun hf : RawR.short rs[k] = false => show smallB rs N = false by
     unfold smallB;rw [Bool.and_eq_false_iff]
     right
     rw [List.all_eq_false];exact ⟨rs[k], List.getElem_mem hj, by rw [hf]; simp⟩)
    generalize rs[k] = r at e0 e1 e2 e3 hx hy HT HM;rw [Nat.mul_comm] at e0 e1 e2 e3
    cases hs : shortB r.s r.xs r.t r.ys with
    | false =>
     have HS := Lib.hid hs;clear hs
     go_wp2_with fail
     refine (q_Short hx hy).mono ?_;rintro e V ⟨rfl, hxv⟩;rw [HS.out]
     go_wp2_with fail
     go_ret
     exact ⟨by rw [HM.out HS.out]; rfl, ext.trans hxv⟩
    | true =>
     have HS := Lib.hid hs;clear hs
     go_wp2_with fail
     refine (q_Short hx hy).mono ?_;rintro e V ⟨rfl, hxv⟩;rw [HS.out]
     go_wp2_with fail
     go_roundw
     case rel => exact ⟨k + 1, by omega, by go_num, ext.trans hxv, by rw [HT.out, HA.out]; exact HS.out⟩
     case measure => simp [intOf]; omega
   ·have hI : (n : Int) <= (k : Int) := by omega
    go_wp2_with fail
    go_ret
    refine ⟨?_, ext⟩;have ha := HA.out;rw [List.take_of_length_le (by rw [Hlen.out]; omega)] at ha;have : smallB rs N = true := by unfold smallB; rw [ha, Hlen.out, decide_eq_true hb]; rfl
    rw [this]; rfl
 ·have hg : (N : Int) < (n : Int) := by omega
  have hs : smallB rs N = false := by unfold smallB; rw [Hlen.out, decide_eq_false hb]; rfl
  rw [hs];clear hs
  go_enter Tryz.func26, Tryz.ntmps26
  go_wp2_with fail
  go_ret
  exact ⟨rfl, Ext.refl _⟩
end
section
variable {w w' : World} {A B D : Option Addr} {n c m d l e : Nat} {rs ss ts : List RawR}
theorem few2_P {g : Nat} {T : TypeId} (hb : Box w g T #[.slice A n c, .slice B m d]) (h0 : RawP w A n c rs) (h1 : RawP w B m d ss) : Calls Tryz.prog 10 #[.slice (some ⟨g, 0, none⟩) 2 2] w fun e w' => e = .returned (.bool (smallB rs 8 && smallB ss 8)) /\ Ext w w' := by
 go_enter Tryz.func10, Tryz.ntmps10
 go_wp2_with fail
 go_loopw [7] (fun i wr => ∃ k : Nat, k <= 2 /\ i = .int .i64 (k : Int) /\ Ext w wr /\ (0 < k -> smallB rs 8 = true) /\ (1 < k -> smallB ss 8 = true)) (fun i _ => 2 - (intOf i).toNat)
 case atStart => exact ⟨0, by omega, rfl, Ext.refl _, by simp⟩
 case round =>
  obtain ⟨k, hk, rfl, ext, hall⟩ := hrel;have HA := Lib.hid hall;clear hall;have c0 := (hb.ext ext).cell 0 (.slice A n c) rfl;have c1 := (hb.ext ext).cell 1 (.slice B m d) rfl;have hk2 : k = 0 \/ k = 1 \/ k = 2 := by omega
  rcases hk2 with rfl | rfl | rfl
  ·go_wp2_with fail
   refine (q_Small (h0.ext ext) 8 (by omega)).mono ?_;rintro e V ⟨rfl, hxv⟩;replace ext := ext.trans hxv
   cases hf : smallB rs 8 with
   | true =>
    have HF := Lib.hid hf;clear hf
    go_wp2_with fail
    go_roundw
    case rel => exact ⟨1, by omega, rfl, ext, by have := HA.out; simp [HF.out] at this ⊢ <;> first | done | exact this | assumption⟩
    case measure => simp [intOf]
   | false =>
    have HF := Lib.hid hf;clear hf
    go_wp2_with fail
    go_ret
    exact ⟨by have := HA.out; simp [HF.out] at this ⊢, ext⟩
  ·go_wp2_with fail
   refine (q_Small (h1.ext ext) 8 (by omega)).mono ?_;rintro e V ⟨rfl, hxv⟩;replace ext := ext.trans hxv
   cases hf : smallB ss 8 with
   | true =>
    have HF := Lib.hid hf;clear hf
    go_wp2_with fail
    go_roundw
    case rel => exact ⟨2, by omega, rfl, ext, by have := HA.out; simp [HF.out] at this ⊢ <;> first | done | exact this | assumption⟩
    case measure => simp [intOf]
   | false =>
    have HF := Lib.hid hf;clear hf
    go_wp2_with fail
    go_ret
    exact ⟨by have := HA.out; simp [HF.out] at this ⊢, ext⟩
  ·go_wp2_with fail
   go_ret
   exact ⟨by have := HA.out; simp at this; simp [this], ext⟩
end
section
variable {w w' : World} {q x : Rat} {L M : Nat} {s t : Bool} {A B : Option Addr} {n c m d : Nat} {sx tx : Bool} {Ax Bx : Option Addr} {nx cx mx dx : Nat} {qs ps : List Rat}
set_option maxRecDepth 100000 in
theorem p_Add_ge (h : Pol w A n c qs L) (h' : Pol w B m d ps M) (hL : L <= 400) (hM : M <= 400) (hv : Hid (L < 64 \/ M < 64 \/ ∀ i, AddOK (atP qs i) (atP ps i))) (hn : n <= 1000) (_hm : m <= 1000) (hle : m <= n) (hT : Tab w) : Calls Tryz.prog 18 #[.slice A n c, .slice B m d] w (RetPol (trimP (sumP qs ps)) (L + M + 1) w) := by
 have hmk := mk_rats n (by omega);have HlP := Lib.hid h.len;have HlQ := Lib.hid h'.len;have HSl := Lib.hid (show (sumP qs ps).length = n by rw [sumP_len, h.len, h'.len]; omega);obtain ⟨w1, hcp, hH, hext⟩ := run_copy_rats (M := (L + M + 1)) 3 ((Ext.refl w).alloc (.cells (zeroC n).toArray 27)) (Nat.le_refl _) (Box.new w _ _) h
 go_enter Tryz.func18, Tryz.ntmps18
 go_wp2_with fail
 clear hcp
 try rw [show decide (n < m) = false from decide_eq_false (by omega)]
 go_loopw [23] (fun i wr => ∃ k : Nat, k <= n /\ i = .int .i64 (k : Int) /\ Ext w wr /\ Half wr w.heap.size ((sumP qs ps).take k) (qs.drop k) (L + M + 1) L) (fun i _ => n - (intOf i).toNat)
 case atStart => exact ⟨0, Nat.zero_le _, rfl, hext, hH⟩
 case round =>
  clear hH hext;obtain ⟨k, hk, rfl, ext, hH⟩ := hrel
  by_cases hlt : k < n
  ·have hj : k < qs.length := by rw [HlP.out]; exact hlt
   have hs : k < (sumP qs ps).length := by rw [HSl.out]; exact hlt
   have HT := Lib.hid (show (sumP qs ps).take (k + 1) = (sumP qs ps).take k ++ [(sumP qs ps)[k]] from List.take_succ_eq_append_getElem hs);have HV := Lib.hid (show (sumP qs ps)[k] = qs[k] + atP ps k by rw [sumP_at, atP_lt hj]);rw [List.drop_eq_getElem_cons hj] at hH;have hkl : ((sumP qs ps).take k).length = k := by rw [List.length_take, HSl.out]; omega
   have hI1 : (k : Int) < (n : Int) := by omega
   obtain ⟨sx, Ax, nx, cx, tx, Bx, mx, dx, e0, e1, e2, e3, hx⟩ := hH.get hkl
   go_upto_region 8 with (fail)
   obtain ⟨W3, hW3, ext3, b9, hz3⟩ := box1 wr 27 #[.bool sx, .slice Ax nx cx, .bool tx, .slice Bx mx dx];rw [<- hW3];clear hW3 hz3 e0 e1 e2 e3;replace hx := hx.ext ext3;replace hH := hH.ext ext3;replace ext := ext.trans ext3;clear ext3
   by_cases hlq : k < m
   ·have hjq : k < ps.length := by rw [HlQ.out]; exact hlq
    obtain ⟨b, off, rfl, hr⟩ := h'.at_ (fun e => by rw [e] at hjq; exact absurd hjq (Nat.not_lt_zero _));obtain ⟨sy, Ay, ny, cy, ty, By, my, dy, e0, e1, e2, e3, hy⟩ := (hr.ext ext).at_ k hjq;have e0' : W3.cell? ⟨b, off + k * 4, none⟩ = some (.bool sy) := by rw [Nat.mul_comm]; exact e0
    have e1' : W3.cell? ⟨b, off + k * 4 + 1, none⟩ = some (.slice Ay ny cy) := by rw [Nat.mul_comm]; exact e1
    have e2' : W3.cell? ⟨b, off + k * 4 + 2, none⟩ = some (.bool ty) := by rw [Nat.mul_comm]; exact e2
    have e3' : W3.cell? ⟨b, off + k * 4 + 3, none⟩ = some (.slice By my dy) := by rw [Nat.mul_comm]; exact e3
    clear e0 e1 e2 e3
    have HAO : Hid (L < 64 \/ M < 64 \/ AddOK qs[k] ps[k]) := Lib.hid (by
     rcases hv.out with e | e | e
     ·exact .inl e
     ·exact .inr (.inl e)
     ·have e2 := e k
      rw [atP_lt hj, atP_lt hjq] at e2;exact .inr (.inr e2))
    go_upto_region 9 with (fail)
    refine wpL.st 9 (fun hQ ES => ?_);refine wpL.tB [8,9] 0 32 ?v_0 hQ ?y_0 ES ?_
    case y_0 => intro w' hSw;have j0 := (hSw.cellv e0');have j1 := (hSw.cellv e1');have j2 := (hSw.cellv e2');have j3 := (hSw.cellv e3');go_simp;try rfl
    try simp only [zP]
    refine wpL.tB [8,9] 1 33 ?v_1 hQ ?y_1 ES ?_
    case y_1 => intro w' hSw;have j0 := (hSw.cellv e0');have j1 := (hSw.cellv e1');have j2 := (hSw.cellv e2');have j3 := (hSw.cellv e3');go_simp;try rfl
    try simp only [zP]
    refine wpL.tB [7,9] 2 34 ?v_2 hQ ?y_2 ES ?_
    case y_2 => intro w' hSw;have k0 := (b9.ext hSw).c4;have j0 := (hSw.cellv e0');have j1 := (hSw.cellv e1');have j2 := (hSw.cellv e2');have j3 := (hSw.cellv e3');go_simp;try rfl
    try simp only [zP]
    refine wpL.tB [5,6,7,9] 3 35 ?v_3 hQ ?y_3 ES ?_
    case y_3 => intro w' hSw;have j0 := (hSw.cellv e0');have j1 := (hSw.cellv e1');have j2 := (hSw.cellv e2');have j3 := (hSw.cellv e3');go_simp;try rfl
    try simp only [zP]
    refine wpL.tB [5,6,7,9] 4 36 ?v_4 hQ ?y_4 ES ?_
    case y_4 => intro w' hSw;have j0 := (hSw.cellv e0');have j1 := (hSw.cellv e1');have j2 := (hSw.cellv e2');have j3 := (hSw.cellv e3');go_simp;try rfl
    try simp only [zP]
    refine wpL.tB [6,7,9] 5 37 ?v_5 hQ ?y_5 ES ?_
    case y_5 => intro w' hSw;have j0 := (hSw.cellv e0');have j1 := (hSw.cellv e1');have j2 := (hSw.cellv e2');have j3 := (hSw.cellv e3');go_simp;try rfl
    try simp only [zP]
    refine wpL.tB [7,9] 6 38 ?v_6 hQ ?y_6 ES ?_
    case y_6 => intro w' hSw;have k0 := (b9.ext hSw).c4;have j0 := (hSw.cellv e0');have j1 := (hSw.cellv e1');have j2 := (hSw.cellv e2');have j3 := (hSw.cellv e3');go_simp;try rfl
    try simp only [zP]
    refine wpL.cl (i := 7) rfl (fun K hK => ?_);go_simp
    (go_at_call 53; refine (p_AddRV (hx.ext ES) (hy.ext ES) (by omega) (by omega) HAO (hT.ext (ext.trans ES))).mono ?_; rintro e wk ⟨s7, A7, n7, c7, t7, B7, m7, d7, rfl, h7, hx7⟩; have E9 := Ext.trans ES hx7)
    refine hK.out _ _ E9 ?_;clear hK K
    try simp only [zP]
    refine wpL.tB [9] 8 40 ?v_7 hQ ?y_7 E9 ?_
    case y_7 => intro w' hSw;go_simp;try rfl
    try simp only [zP]
    have hHk := hH.ext E9;obtain ⟨sz, Az, nz, cz, tz, Bz, mz, dz, p0, p1, p2, p3, _⟩ := hHk.get hkl;have f0 := hHk.frozen (k * 4);have f1 := hHk.frozen (k * 4 + 1);have f2 := hHk.frozen (k * 4 + 2);have f3 := hHk.frozen (k * 4 + 3);refine wpL.tl (i := 9) rfl (fun K hK => ?_);go_simp;refine hK.out _ _ ?_;clear hK K
    try simp only [zP]
    refine wpL.done (by kernel_rfl) ?_ _;clear hQ
    go_wp2_with fail
    have extk := ext.trans E9;have hv2 : qs[k] + ps[k] = (sumP qs ps)[k] := by rw [HV.out, atP_lt hjq]
    rw [hv2] at h7;have PP := hHk.put hkl (⟨h7.num.le (by omega), h7.den.le (by omega)⟩)
    go_roundw
    case rel => exact ⟨k + 1, by omega, by go_num, PP.2.2 _ extk (Nat.le_refl _), by rw [HT.out]; exact PP.1⟩
    case measure => simp [intOf]; omega
   ·have hge : ps.length <= k := by rw [HlQ.out]; omega
    have x0 := b9.cell 0 (.bool sx) rfl;have x1 := b9.cell 1 (.slice Ax nx cx) rfl;have x2 := b9.cell 2 (.bool tx) rfl;have x3 := b9.cell 3 (.slice Bx mx dx) rfl
    go_wp2_with fail
    refine (p_cloneR hx (by omega)).mono ?_;rintro e V ⟨s7, A7, n7, c7, t7, B7, m7, d7, rfl, h7, hxt⟩;clear x0 x1 x2 x3;have hHk := hH.ext hxt;have extk := ext.trans hxt;obtain ⟨sz, Az, nz, cz, tz, Bz, mz, dz, p0, p1, p2, p3, _⟩ := hHk.get hkl;have f0 := hHk.frozen (k * 4);have f1 := hHk.frozen (k * 4 + 1);have f2 := hHk.frozen (k * 4 + 2);have f3 := hHk.frozen (k * 4 + 3)
    go_wp2_with fail
    have hv2 : qs[k] = (sumP qs ps)[k] := by rw [HV.out, atP_ge hge, Rat.add_zero]
    rw [hv2] at h7;have PP := hHk.put hkl (⟨h7.num.le (by omega), h7.den.le (by omega)⟩)
    go_roundw
    case rel => exact ⟨k + 1, by omega, by go_num, PP.2.2 _ extk (Nat.le_refl _), by rw [HT.out]; exact PP.1⟩
    case measure => simp [intOf]; omega
  ·have hkn : k = n := by omega
   rw [hkn, List.take_of_length_le (Nat.le_of_eq HSl.out), List.drop_of_length_le (Nat.le_of_eq HlP.out)] at hH;have hp : Pol wr (some ⟨w.heap.size, 0, none⟩) n n (sumP qs ps) (L + M + 1) := ⟨HSl.out, Nat.le_refl _, by unfold maxLen; omega, fun _ => ⟨_, 0, rfl, hH.rats⟩⟩
   go_wp2_with fail
   refine (p_cutR hp (by omega) (by omega)).mono ?_;rintro e V ⟨A8, n8, c8, rfl, h8, hxt⟩
   go_wp2_with fail
   go_ret
   exact ⟨A8, n8, c8, rfl, h8, ext.trans hxt⟩
set_option maxRecDepth 100000 in
theorem p_Add_lt (h : Pol w A n c qs L) (h' : Pol w B m d ps M) (hL : L <= 400) (hM : M <= 400) (hv : Hid (L < 64 \/ M < 64 \/ ∀ i, AddOK (atP qs i) (atP ps i))) (_hn : n <= 1000) (hm : m <= 1000) (hle : n < m) (hT : Tab w) : Calls Tryz.prog 18 #[.slice A n c, .slice B m d] w (RetPol (trimP (sumP ps qs)) (L + M + 1) w) := by
 have hmk := mk_rats m (by omega);have HlP := Lib.hid h'.len;have HlQ := Lib.hid h.len;have HSl := Lib.hid (show (sumP ps qs).length = m by rw [sumP_len, h'.len, h.len]; omega);obtain ⟨w1, hcp, hH, hext⟩ := run_copy_rats (M := (L + M + 1)) 3 ((Ext.refl w).alloc (.cells (zeroC m).toArray 27)) (Nat.le_refl _) (Box.new w _ _) h'
 go_enter Tryz.func18, Tryz.ntmps18
 go_wp2_with fail
 clear hcp
 skip
 go_loopw [23] (fun i wr => ∃ k : Nat, k <= m /\ i = .int .i64 (k : Int) /\ Ext w wr /\ Half wr w.heap.size ((sumP ps qs).take k) (ps.drop k) (L + M + 1) M) (fun i _ => m - (intOf i).toNat)
 case atStart => exact ⟨0, Nat.zero_le _, rfl, hext, hH⟩
 case round =>
  clear hH hext;obtain ⟨k, hk, rfl, ext, hH⟩ := hrel
  by_cases hlt : k < m
  ·have hj : k < ps.length := by rw [HlP.out]; exact hlt
   have hs : k < (sumP ps qs).length := by rw [HSl.out]; exact hlt
   have HT := Lib.hid (show (sumP ps qs).take (k + 1) = (sumP ps qs).take k ++ [(sumP ps qs)[k]] from List.take_succ_eq_append_getElem hs);have HV := Lib.hid (show (sumP ps qs)[k] = ps[k] + atP qs k by rw [sumP_at, atP_lt hj]);rw [List.drop_eq_getElem_cons hj] at hH;have hkl : ((sumP ps qs).take k).length = k := by rw [List.length_take, HSl.out]; omega
   have hI1 : (k : Int) < (m : Int) := by omega
   obtain ⟨sx, Ax, nx, cx, tx, Bx, mx, dx, e0, e1, e2, e3, hx⟩ := hH.get hkl
   go_upto_region 8 with (fail)
   obtain ⟨W3, hW3, ext3, b9, hz3⟩ := box1 wr 27 #[.bool sx, .slice Ax nx cx, .bool tx, .slice Bx mx dx];rw [<- hW3];clear hW3 hz3 e0 e1 e2 e3;replace hx := hx.ext ext3;replace hH := hH.ext ext3;replace ext := ext.trans ext3;clear ext3
   by_cases hlq : k < n
   ·have hjq : k < qs.length := by rw [HlQ.out]; exact hlq
    obtain ⟨b, off, rfl, hr⟩ := h.at_ (fun e => by rw [e] at hjq; exact absurd hjq (Nat.not_lt_zero _));obtain ⟨sy, Ay, ny, cy, ty, By, my, dy, e0, e1, e2, e3, hy⟩ := (hr.ext ext).at_ k hjq;have e0' : W3.cell? ⟨b, off + k * 4, none⟩ = some (.bool sy) := by rw [Nat.mul_comm]; exact e0
    have e1' : W3.cell? ⟨b, off + k * 4 + 1, none⟩ = some (.slice Ay ny cy) := by rw [Nat.mul_comm]; exact e1
    have e2' : W3.cell? ⟨b, off + k * 4 + 2, none⟩ = some (.bool ty) := by rw [Nat.mul_comm]; exact e2
    have e3' : W3.cell? ⟨b, off + k * 4 + 3, none⟩ = some (.slice By my dy) := by rw [Nat.mul_comm]; exact e3
    clear e0 e1 e2 e3
    have HAO : Hid (M < 64 \/ L < 64 \/ AddOK ps[k] qs[k]) := Lib.hid (by
     rcases hv.out with e | e | e
     ·exact .inr (.inl e)
     ·exact .inl e
     ·have e2 := e k
      rw [atP_lt hjq, atP_lt hj] at e2;exact .inr (.inr e2.symm))
    go_upto_region 9 with (fail)
    refine wpL.st 9 (fun hQ ES => ?_);refine wpL.tB [8,9] 0 32 ?v_0 hQ ?y_0 ES ?_
    case y_0 => intro w' hSw;have j0 := (hSw.cellv e0');have j1 := (hSw.cellv e1');have j2 := (hSw.cellv e2');have j3 := (hSw.cellv e3');go_simp;try rfl
    try simp only [zP]
    refine wpL.tB [8,9] 1 33 ?v_1 hQ ?y_1 ES ?_
    case y_1 => intro w' hSw;have j0 := (hSw.cellv e0');have j1 := (hSw.cellv e1');have j2 := (hSw.cellv e2');have j3 := (hSw.cellv e3');go_simp;try rfl
    try simp only [zP]
    refine wpL.tB [7,9] 2 34 ?v_2 hQ ?y_2 ES ?_
    case y_2 => intro w' hSw;have k0 := (b9.ext hSw).c4;have j0 := (hSw.cellv e0');have j1 := (hSw.cellv e1');have j2 := (hSw.cellv e2');have j3 := (hSw.cellv e3');go_simp;try rfl
    try simp only [zP]
    refine wpL.tB [5,6,7,9] 3 35 ?v_3 hQ ?y_3 ES ?_
    case y_3 => intro w' hSw;have j0 := (hSw.cellv e0');have j1 := (hSw.cellv e1');have j2 := (hSw.cellv e2');have j3 := (hSw.cellv e3');go_simp;try rfl
    try simp only [zP]
    refine wpL.tB [5,6,7,9] 4 36 ?v_4 hQ ?y_4 ES ?_
    case y_4 => intro w' hSw;have j0 := (hSw.cellv e0');have j1 := (hSw.cellv e1');have j2 := (hSw.cellv e2');have j3 := (hSw.cellv e3');go_simp;try rfl
    try simp only [zP]
    refine wpL.tB [6,7,9] 5 37 ?v_5 hQ ?y_5 ES ?_
    case y_5 => intro w' hSw;have j0 := (hSw.cellv e0');have j1 := (hSw.cellv e1');have j2 := (hSw.cellv e2');have j3 := (hSw.cellv e3');go_simp;try rfl
    try simp only [zP]
    refine wpL.tB [7,9] 6 38 ?v_6 hQ ?y_6 ES ?_
    case y_6 => intro w' hSw;have k0 := (b9.ext hSw).c4;have j0 := (hSw.cellv e0');have j1 := (hSw.cellv e1');have j2 := (hSw.cellv e2');have j3 := (hSw.cellv e3');go_simp;try rfl
    try simp only [zP]
    refine wpL.cl (i := 7) rfl (fun K hK => ?_);go_simp
    (go_at_call 53; refine (p_AddRV (hx.ext ES) (hy.ext ES) (by omega) (by omega) HAO (hT.ext (ext.trans ES))).mono ?_; rintro e wk ⟨s7, A7, n7, c7, t7, B7, m7, d7, rfl, h7, hx7⟩; have E9 := Ext.trans ES hx7)
    refine hK.out _ _ E9 ?_;clear hK K
    try simp only [zP]
    refine wpL.tB [9] 8 40 ?v_7 hQ ?y_7 E9 ?_
    case y_7 => intro w' hSw;go_simp;try rfl
    try simp only [zP]
    have hHk := hH.ext E9;obtain ⟨sz, Az, nz, cz, tz, Bz, mz, dz, p0, p1, p2, p3, _⟩ := hHk.get hkl;have f0 := hHk.frozen (k * 4);have f1 := hHk.frozen (k * 4 + 1);have f2 := hHk.frozen (k * 4 + 2);have f3 := hHk.frozen (k * 4 + 3);refine wpL.tl (i := 9) rfl (fun K hK => ?_);go_simp;refine hK.out _ _ ?_;clear hK K
    try simp only [zP]
    refine wpL.done (by kernel_rfl) ?_ _;clear hQ
    go_wp2_with fail
    have extk := ext.trans E9;have hv2 : ps[k] + qs[k] = (sumP ps qs)[k] := by rw [HV.out, atP_lt hjq]
    rw [hv2] at h7;have PP := hHk.put hkl (⟨h7.num.le (by omega), h7.den.le (by omega)⟩)
    go_roundw
    case rel => exact ⟨k + 1, by omega, by go_num, PP.2.2 _ extk (Nat.le_refl _), by rw [HT.out]; exact PP.1⟩
    case measure => simp [intOf]; omega
   ·have hge : qs.length <= k := by rw [HlQ.out]; omega
    have x0 := b9.cell 0 (.bool sx) rfl;have x1 := b9.cell 1 (.slice Ax nx cx) rfl;have x2 := b9.cell 2 (.bool tx) rfl;have x3 := b9.cell 3 (.slice Bx mx dx) rfl
    go_wp2_with fail
    refine (p_cloneR hx (by omega)).mono ?_;rintro e V ⟨s7, A7, n7, c7, t7, B7, m7, d7, rfl, h7, hxt⟩;clear x0 x1 x2 x3;have hHk := hH.ext hxt;have extk := ext.trans hxt;obtain ⟨sz, Az, nz, cz, tz, Bz, mz, dz, p0, p1, p2, p3, _⟩ := hHk.get hkl;have f0 := hHk.frozen (k * 4);have f1 := hHk.frozen (k * 4 + 1);have f2 := hHk.frozen (k * 4 + 2);have f3 := hHk.frozen (k * 4 + 3)
    go_wp2_with fail
    have hv2 : ps[k] = (sumP ps qs)[k] := by rw [HV.out, atP_ge hge, Rat.add_zero]
    rw [hv2] at h7;have PP := hHk.put hkl (⟨h7.num.le (by omega), h7.den.le (by omega)⟩)
    go_roundw
    case rel => exact ⟨k + 1, by omega, by go_num, PP.2.2 _ extk (Nat.le_refl _), by rw [HT.out]; exact PP.1⟩
    case measure => simp [intOf]; omega
  ·have hkn : k = m := by omega
   rw [hkn, List.take_of_length_le (Nat.le_of_eq HSl.out), List.drop_of_length_le (Nat.le_of_eq HlP.out)] at hH;have hp : Pol wr (some ⟨w.heap.size, 0, none⟩) m m (sumP ps qs) (L + M + 1) := ⟨HSl.out, Nat.le_refl _, by unfold maxLen; omega, fun _ => ⟨_, 0, rfl, hH.rats⟩⟩
   go_wp2_with fail
   refine (p_cutR hp (by omega) (by omega)).mono ?_;rintro e V ⟨A8, n8, c8, rfl, h8, hxt⟩
   go_wp2_with fail
   go_ret
   exact ⟨A8, n8, c8, rfl, h8, ext.trans hxt⟩
theorem p_AddPV (h : Pol w A n c qs L) (h' : Pol w B m d ps M) (hL : L <= 400) (hM : M <= 400) (hv : Hid (L < 64 \/ M < 64 \/ ∀ i, AddOK (atP qs i) (atP ps i))) (hn : n <= 1000) (hm : m <= 1000) (hT : Tab w) : Calls Tryz.prog 18 #[.slice A n c, .slice B m d] w (RetPol (trimP (sumP qs ps)) (L + M + 1) w) := by
 by_cases hlt : n < m
 ·rw [sumP_comm]
  exact p_Add_lt h h' hL hM hv hn hm hlt hT
 ·exact p_Add_ge h h' hL hM hv hn hm (by omega) hT
end
section
variable {w : World} {A B : Option Addr} {n m c d L M : Nat} {qs ps : List Rat}
theorem good_same (h : Pol w A n c qs L) (h' : Pol w B m d ps M) (he : qs = ps) (hL2 : 2 <= L) (hL : L <= 350) (hM : M <= 350) (hn : n <= 1000) (hm : m <= 1000) : Calls Tryz.prog 12 #[.slice A n c, .slice B m d] w fun e w' => e = .returned (.bool true) /\ Ext w w' := by
 have := good_P h h' hL2 hL hM hn hm
 rwa [show decide (qs = ps) = true from decide_eq_true he] at this
end
section
variable {w w' : World} {base L : Nat} {v : Value} {qs ps : List Rat} {A : Option Addr} {n c : Nat}
theorem run_append_row {ty : TypeId} (h : Row4 w base v qs L) (hp : Pol w A n c ps L) (h0 : 0 < n) (hl : qs.length <= 1000) (hn : n <= 1000) (hbase : base <= w.heap.size) :
  ∃ v' w', (Builtin.append_ #[22, 22] ty #[v, .slice A n c]).run Tryz.prog w = .ok v' w' /\ Row4 w' base v' (qs ++ ps) L /\ w.grownBy w' v.ownBlock /\ (v'.ownBlock = v.ownBlock \/ v'.ownBlock = some w.heap.size) := by
 obtain ⟨i0, hi, hz0, hz1, hz2⟩ := info_partsB Tryz.infoR;obtain ⟨cs, h1, h2⟩ := h.own;have hne : ps ≠ [] := fun e => by have := hp.len; rw [e] at this; simp at this; omega
 obtain ⟨b, off, rfl, hrat⟩ := hp.at_ hne;obtain ⟨ds, k1, k2⟩ := hrat.list;have hdl : ds.length = n * 4 := by rw [k1.len, hp.len]
 rw [<- hz1] at h1
 obtain ⟨v', w', hr, j1, j2, j3, j4⟩ := run_append_nw (P := Tryz.prog) (ty := ty) (c := c) Tryz.underlying22 hi hz0 hz2 (by rw [hz1]; rfl) (by omega) (by
  intro u hu k e;simp [Value.cells] at hu
  rcases hu with rfl | rfl | rfl | rfl <;> cases e) h1 h.nwb (m := n) (by rw [hz1]; exact hdl) (fun j u hj => k2 j u hj) k1.one k1.nwl h0 (by unfold maxLen; omega) (by omega) hbase
 rw [hz1] at j1;refine ⟨v', w', hr, ⟨⟨cs ++ ds, ?_, (h2.own h.nwb j2).append (k1.own h.nwb j2)⟩, j4⟩, j2, j3⟩;rw [List.length_append, hp.len];exact j1
end
section
variable {w w' : World} {base L : Nat} {v : Value} {qs ps : List Rat} {A : Option Addr} {n c : Nat}
theorem run_append_row0 {ty : TypeId} (h : Row4 w base v qs L) :
  (Builtin.append_ #[22, 22] ty #[v, .slice A 0 c]).run Tryz.prog w = .ok v w := by
 have hq := Tryz.infoRat
 cases hi : Tryz.prog.info? 27 with
 | none => rw [hi] at hq; cases hq
 | some i =>
 rw [hi] at hq;simp only [Option.map_some, Option.some.injEq, Prod.mk.injEq] at hq;obtain ⟨cs, h1, h2⟩ := h.own
 rcases h1.2 with ⟨rfl, h0⟩ | ⟨g, cap, cur, rfl, hbg, hg, hnc, hcm, hcs, htake⟩
 ·cases A with
  | none => simp [Builtin.append_, run_underlying Tryz.underlying22, sizeOf, typeInfo, hi, Builtin.lenOf, Builtin.firstCells]
  | some ad => simp [Builtin.append_, run_underlying Tryz.underlying22, sizeOf, typeInfo, hi, Builtin.lenOf, Builtin.firstCells, loadCells, loadCellsFrom]
 ·cases A with
  | none => simp [Builtin.append_, run_underlying Tryz.underlying22, sizeOf, typeInfo, hi, Builtin.lenOf, Builtin.firstCells, storeCells, hnc]
  | some ad => simp [Builtin.append_, run_underlying Tryz.underlying22, sizeOf, typeInfo, hi, Builtin.lenOf, Builtin.firstCells, loadCells, loadCellsFrom, storeCells, hnc]
theorem wpList_append_row {w0 : World} {ops : Array Oper} {rest : List Oper} {o : Oper} {a : Act} {Q : Exit -> Act -> World -> Prop} (hgd : o.guard = none) (x y : Operand)
  (ho : o.op = .call { callee := .builtin .append, args := #[x, y], argTypes := #[22, 22] })
  (hx : a.eval x = v) (hy : a.eval y = .slice A n c)
  (h : Row4 w base v qs L) (hp : Pol w A n c ps L) (hl : qs.length <= 1000) (hn : n <= 1000) (hbase : base <= w.heap.size) (he : Ext w0 w) (hb0 : w0.heap.size <= base)
  (hK : ∀ v' w', Row4 w' base v' (qs ++ ps) L -> Ext w0 w' -> wpList Tryz.prog ops Q rest (a.put o.dst v') w') :
  wpList Tryz.prog ops Q (o :: rest) a w := by
 refine wpList_plain hgd fun K hKK => ?_
 have key : ∃ v' w', (Builtin.append_ #[22, 22] o.type #[v, .slice A n c]).run Tryz.prog w = .ok v' w' /\ Row4 w' base v' (qs ++ ps) L /\ Ext w0 w' := by
  rcases Nat.eq_zero_or_pos n with h0 | h0
  ·subst h0
   have hps : ps = [] := List.eq_nil_of_length_eq_zero hp.len;subst hps;exact ⟨v, w, run_append_row0 h, by rw [List.append_nil]; exact h, he⟩
  ·obtain ⟨v', w', hr, h2, h3, _⟩ := run_append_row (ty := o.type) h hp h0 hl hn hbase
   exact ⟨v', w', hr, h2, Below.grown he h3 he.size (fun k hk => Nat.le_trans hb0 (h.block k hk).1)⟩
 obtain ⟨v', w', hr, h2, h3⟩ := key;unfold Oper.wp execOp;simp only [ho, resolve, invoke, builtin, Sem.run_bind, Sem.run_pure, Result.andThen_ok, List.map_toArray, List.map_cons, List.map_nil, hx, hy, hr];exact hKK _ _ (hK v' w' h2 h3)
end
def qsum (f : Nat -> Rat) : Nat -> Rat
 | 0 => 0
 | n + 1 => qsum f n + f n
def termQ (a b : List Rat) (s i : Nat) : Rat := if i <= s then atP a i * atP b (s - i) else 0
theorem qsum_congr {f g : Nat -> Rat} : ∀ n, (∀ i, i < n -> f i = g i) -> qsum f n = qsum g n
 | 0, _ => rfl
 | n + 1, h => by
  show qsum f n + f n = qsum g n + g n
  rw [qsum_congr n (fun i hi => h i (by omega)), h n (Nat.lt_succ_self n)]
theorem qsum_mul (f : Nat -> Rat) (c : Rat) : ∀ n, qsum (fun i => f i * c) n = qsum f n * c
 | 0 => by show (0 : Rat) = 0 * c; grind
 | n + 1 => by
  show qsum (fun i => f i * c) n + f n * c = (qsum f n + f n) * c
  rw [qsum_mul f c n]
  grind
theorem qsum_add (f g : Nat -> Rat) : ∀ n, qsum (fun i => f i + g i) n = qsum f n + qsum g n
 | 0 => by show (0 : Rat) = 0 + 0; grind
 | n + 1 => by
  show qsum (fun i => f i + g i) n + (f n + g n) = (qsum f n + f n) + (qsum g n + g n)
  rw [qsum_add f g n]
  grind
theorem qsum_zero : ∀ n, qsum (fun _ => 0) n = 0
 | 0 => rfl
 | n + 1 => by
  show qsum (fun _ => 0) n + 0 = 0
  rw [qsum_zero n]
  grind
theorem qsum_none {f : Nat -> Rat} (n : Nat) (h : ∀ i, i < n -> f i = 0) : qsum f n = 0 := by
 rw [qsum_congr n (g := fun _ => 0) h, qsum_zero]
theorem qsum_more {f : Nat -> Rat} {n m : Nat} (h : n <= m) (h0 : ∀ i, n <= i -> i < m -> f i = 0) : qsum f m = qsum f n := by
 obtain ⟨k, rfl⟩ : ∃ k, m = n + k := ⟨m - n, by omega⟩;clear h
 induction k with
 | zero => rfl
 | succ k ih =>
  show qsum f (n + k) + f (n + k) = qsum f n
  rw [ih (fun i h1 h2 => h0 i h1 (by omega)), h0 (n + k) (by omega) (by omega)]
  grind
theorem cast_psum (f : Nat -> Int) : ∀ n, ((psum f n : Int) : Rat) = qsum (fun i => ((f i : Int) : Rat)) n
 | 0 => rfl
 | n + 1 => by
  show ((psum f n + f n : Int) : Rat) = _
  rw [Rat.intCast_add, cast_psum f n]
  rfl
theorem mkQ_div {z d : Int} (h : 0 < d) : mkQ z d = (z : Rat) / (d : Rat) := by
 unfold mkQ;rw [if_neg (by omega), Rat.mkRat_eq_div]
 congr 1
 have : ((d.natAbs : Nat) : Int) = d := by omega
 rw [<- Rat.intCast_natCast, this]
theorem cfI_trim (l : List Int) (i : Nat) : cfI (trimI l) i = cfI l i := by
 obtain ⟨k, hk⟩ := trimI_pre l
 by_cases h : i < (trimI l).length
 ·have h2 : i < l.length := Nat.lt_of_lt_of_le h (trimI_len l)
  rw [cfI_lt h, cfI_lt h2]
  have : l[i]? = (trimI l)[i]? := by
   conv => lhs; rw [hk]
   rw [List.getElem?_append_left h]
  rw [List.getElem?_eq_getElem h, List.getElem?_eq_getElem h2] at this;exact (Option.some.inj this).symm
 ·rw [cfI_ge (by omega)]
  by_cases h2 : i < l.length
  ·rw [cfI_lt h2]
   have : l[i]? = (List.replicate k 0)[i - (trimI l).length]? := by
    conv => lhs; rw [hk]
    rw [List.getElem?_append_right (by omega)]
   rw [List.getElem?_eq_getElem h2] at this;have h3 := List.mem_of_getElem? this.symm;exact (List.eq_of_mem_replicate h3).symm
  ·rw [cfI_ge (by omega)]
theorem psum_more {f : Nat -> Int} {n m : Nat} (h : n <= m) (h0 : ∀ i, n <= i -> i < m -> f i = 0) : psum f m = psum f n := by
 obtain ⟨k, rfl⟩ : ∃ k, m = n + k := ⟨m - n, by omega⟩;clear h
 induction k with
 | zero => rfl
 | succ k ih =>
  show psum f (n + k) + f (n + k) = psum f n
  rw [ih (fun i h1 h2 => h0 i h1 (by omega)), h0 (n + k) (by omega) (by omega), Int.add_zero]
theorem nums_cast (qs : List Rat) (i : Nat) : ((cfI (numsP qs) i : Int) : Rat) = atP qs i * (((denP qs : Nat) : Int) : Rat) := by
 by_cases h : i < qs.length
 ·rw [cfI_lt (by rw [numsP_len]; exact h), numsP_at qs i (by rw [numsP_len]; exact h) h, atP_lt h]
  have hd := denP_dvd (List.getElem_mem h);generalize qs[i] = q at hd;obtain ⟨e, he⟩ := hd;have h0 : (q.den : Int) ≠ 0 := by have := q.den_nz; omega
  rw [he, Int.natCast_mul, Int.mul_ediv_cancel_left _ h0, Rat.intCast_mul, Rat.intCast_mul]
  have h1 : ((q.den : Int) : Rat) ≠ 0 := by
   intro e1;exact h0 (by exact_mod_cast e1)
  have h2 : q = (q.num : Rat) / ((q.den : Int) : Rat) := by
   rw [Rat.intCast_natCast]; exact (Rat.mkRat_self q).symm.trans (Rat.mkRat_eq_div _ _)
  generalize ((q.den : Int) : Rat) = d at h1 h2;generalize (q.num : Rat) = n at h2;rw [h2]
  grind
 ·rw [cfI_ge (by rw [numsP_len]; omega), atP_ge (by omega)]
  show (0 : Rat) = 0 * _
  grind
theorem prodI_coef (xs ys : List Int) (s : Nat) : cfI (prodI xs ys) s = psum (termI xs ys s) xs.length := by
 unfold prodI
 split
 ·rename_i h
  rw [cfI_ge (Nat.zero_le _)]
  rcases h with h | h
  ·rw [h]; rfl
  ·exact (psum_more (n := 0) (Nat.zero_le _) (fun i _ _ => by
    unfold termI
    split
    ·rw [cfI_ge (l := ys) (by omega), Int.mul_zero]
    ·rfl)).symm
 ·rename_i h
  by_cases hs : s < xs.length + ys.length - 1
  ·rw [cfI_lt (by unfold mulI; simpa using hs)]
   simp [mulI]
  ·rw [cfI_ge (by unfold mulI; simp; omega)]
   exact (psum_more (n := 0) (Nat.zero_le _) (fun i _ hi => by
    unfold termI
    split
    ·rw [cfI_ge (l := ys) (by omega), Int.mul_zero]
    ·rfl)).symm
theorem mul_coef (qs ps : List Rat) (s : Nat) : atP ((prodI (trimI (numsP qs)) (trimI (numsP ps))).map (fun z => mkQ z (((denP qs : Nat) : Int) * ((denP ps : Nat) : Int)))) s = qsum (termQ qs ps s) qs.length := by
 have hD : 0 < ((denP qs : Nat) : Int) * ((denP ps : Nat) : Int) := Int.mul_pos (by have := denP_pos qs; omega) (by have := denP_pos ps; omega)
 have e1 : atP ((prodI (trimI (numsP qs)) (trimI (numsP ps))).map (fun z => mkQ z (((denP qs : Nat) : Int) * ((denP ps : Nat) : Int)))) s = mkQ (cfI (prodI (trimI (numsP qs)) (trimI (numsP ps))) s) (((denP qs : Nat) : Int) * ((denP ps : Nat) : Int)) := by
  generalize prodI (trimI (numsP qs)) (trimI (numsP ps)) = l
  by_cases h : s < l.length
  ·rw [atP_lt (by simpa using h), cfI_lt h]
   simp
  ·rw [atP_ge (by simp; omega), cfI_ge (by omega), mkQ_div hD]
   show (0 : Rat) = 0 / _
   grind
 rw [e1, mkQ_div hD, prodI_coef, <- psum_more (m := qs.length) (by have := trimI_len (numsP qs); rw [numsP_len] at this; exact this) (fun i h1 _ => by
  unfold termI
  split
  ·rw [cfI_ge h1, Int.zero_mul]
  ·rfl), cast_psum, qsum_congr (g := fun i => termQ qs ps s i * (((((denP qs : Nat) : Int) * ((denP ps : Nat) : Int) : Int)) : Rat)) _ (fun i _ => by
  unfold termI termQ
  split
  ·rw [cfI_trim, cfI_trim, Rat.intCast_mul, Rat.intCast_mul, nums_cast, nums_cast]
   grind
  ·show (0 : Rat) = 0 * _
   grind), qsum_mul]
 have h0 : (((((denP qs : Nat) : Int) * ((denP ps : Nat) : Int) : Int)) : Rat) ≠ 0 := by
  intro e;have : ((denP qs : Nat) : Int) * ((denP ps : Nat) : Int) = 0 := by exact_mod_cast e
  omega
 grind
theorem qsum_head (f : Nat -> Rat) : ∀ n, qsum f (n + 1) = f 0 + qsum (fun i => f (i + 1)) n
 | 0 => by show (0 : Rat) + f 0 = f 0 + 0; grind
 | n + 1 => by
  show qsum f (n + 1) + f (n + 1) = f 0 + (qsum (fun i => f (i + 1)) n + f (n + 1))
  rw [qsum_head f n]
  grind
theorem qsum_rev (f : Nat -> Rat) : ∀ n, qsum f (n + 1) = qsum (fun i => f (n - i)) (n + 1)
 | 0 => rfl
 | n + 1 => by
  rw [qsum_head (fun i => f (n + 1 - i)) (n + 1)]
  show qsum f (n + 1) + f (n + 1) = f (n + 1 - 0) + qsum (fun i => f (n + 1 - (i + 1))) (n + 1)
  rw [qsum_rev f n, Nat.sub_zero, qsum_congr (f := fun i => f (n + 1 - (i + 1))) (g := fun i => f (n - i)) _ (fun i _ => by rw [Nat.add_sub_add_right])]
  grind
theorem termQ_all (a b : List Rat) (s : Nat) : qsum (termQ a b s) a.length = qsum (termQ a b s) (s + 1) := by
 rcases Nat.le_total a.length (s + 1) with h | h
 ·exact (qsum_more h (fun i h1 _ => by
   unfold termQ
   split
   ·rw [atP_ge h1]; grind
   ·rfl)).symm
 ·exact qsum_more h (fun i h1 _ => by unfold termQ; rw [if_neg (by omega)])
theorem termQ_comm (a b : List Rat) (s : Nat) : qsum (termQ a b s) a.length = qsum (termQ b a s) b.length := by
 rw [termQ_all, termQ_all, qsum_rev];refine qsum_congr _ (fun i hi => ?_);unfold termQ;rw [if_pos (by omega), if_pos (by omega), show s - (s - i) = i by omega]
 grind
section
variable {w w' : World} {A B : Option Addr} {n c m d L M : Nat} {qs ps : List Rat}
set_option maxRecDepth 100000 in
theorem q_ShiftP {k : Nat} (h : Pol w A n c qs L) (hL2 : 2 <= L) (hL : L <= 1000) (hn : n <= 400) (hk : k <= 400) : Calls Tryz.prog 65 #[.slice A n c, .int .i64 (k : Int)] w (RetPol (trimP (List.replicate k 0 ++ qs)) L w) := by
 go_enter Tryz.func65, Tryz.ntmps65
 go_wp2_with fail
 go_loopw [5, 6] (fun v i wr => ∃ j : Nat, j <= k /\ i = .int .i64 (j : Int) /\ Ext w wr /\ Row4 wr w.heap.size v (List.replicate j 0) L) (fun _ i _ => k - (intOf i).toNat)
 case atStart => exact ⟨0, Nat.zero_le _, rfl, Ext.refl w, Row4.nil _ _ _⟩
 case round =>
  obtain ⟨j, hj, rfl, extr, hrow⟩ := hrel
  by_cases hlt : j < k
  ·have hI : (j : Int) < (k : Int) := by omega
   have hlen : (List.replicate j (0 : Rat)).length <= 1000 := by rw [List.length_replicate]; omega
   go_wp2_with fail
   refine (q_zeroR).mono ?_;rintro e W5 ⟨s7, A7, n7, c7, t7, B7, m7, d7, rfl, h7, ext5⟩;have ha5 := (ext5).alloc (.cells #[.bool s7, .slice A7 n7 c7, .bool t7, .slice B7 m7 d7] 27);replace extr := extr.trans ha5;replace hrow := hrow.ext ha5;have h7' := (h7.le hL2).ext ((Ext.refl W5).alloc (.cells #[.bool s7, .slice A7 n7 c7, .bool t7, .slice B7 m7 d7] 27));clear ext5 ha5
   go_wp2_with (at_builtin; refine wpList_append_rat rfl _ _ rfl rfl rfl hrow h7' (Box.new W5 _ _) hlen extr.size ?_; intro v6 W6 hrow6 hgr hob)
   go_roundw
   case rel =>
    refine ⟨j + 1, by omega, by go_num, Below.grown extr hgr extr.size (fun k hk => (hrow.block k hk).1), ?_⟩;rw [List.replicate_succ'];exact hrow6
   case measure => simp [intOf]; omega
  ·have hkn : j = k := by omega
   subst hkn;have hI : (j : Int) <= (j : Int) := Int.le_refl _;have hlen : (List.replicate j (0 : Rat)).length <= 1000 := by rw [List.length_replicate]; omega
   go_wp2_with (at_builtin; refine wpList_append_row rfl _ _ rfl rfl rfl hrow (h.ext extr) hlen (by omega) extr.size extr (Nat.le_refl _) ?_; intro v6 W6 hrow6 ext6)
   obtain ⟨A6, n6, c6, rfl, hp6⟩ := hrow6.pol;have hn6 : n6 <= 800 := by rw [<- hp6.len, List.length_append, List.length_replicate, h.len]; omega
   refine (q_TrimP hp6 (by omega) (by omega)).mono ?_;rintro e V ⟨A8, n8, c8, rfl, h8, x8⟩
   go_wp2_with fail
   go_ret
   exact ⟨A8, n8, c8, rfl, h8, ext6.trans x8⟩
end
theorem atP_shift (k : Nat) (t : List Rat) (s : Nat) : atP (List.replicate k 0 ++ t) s = if k <= s then atP t (s - k) else 0 := by
 unfold atP
 by_cases h : k <= s
 ·rw [if_pos h, List.getD_eq_getElem?_getD, List.getElem?_append_right (by rw [List.length_replicate]; exact h), List.length_replicate, List.getD_eq_getElem?_getD]
 ·rw [if_neg h, List.getD_eq_getElem?_getD, List.getElem?_append_left (by rw [List.length_replicate]; omega), List.getElem?_replicate, if_pos (by omega)]
  rfl
theorem atP_scale (a : List Rat) (x : Rat) (i : Nat) : atP (scaleP a x) i = atP a i * x := by
 by_cases h : i < a.length
 ·rw [atP_lt (by unfold scaleP; simpa using h), atP_lt h]
  simp [scaleP]
 ·rw [atP_ge (by unfold scaleP; simpa using h), atP_ge (by omega)]
  show (0 : Rat) = 0 * x
  grind
section
variable {w w' : World} {A B : Option Addr} {n c m d L M : Nat} {qs ps : List Rat}
set_option maxRecDepth 100000 in
theorem q_MulPW (h : Pol w A n c qs L) (h' : Pol w B m d ps M) (hL2 : 2 <= L) (hM2 : 2 <= M) (hK : 2 + m * (L + M + 1) <= 998) (hn : n <= 200) (hm : m <= 200) : Calls Tryz.prog 25 #[.slice A n c, .slice B m d] w (fun e w' => ∃ os, trimP os = os /\ (∀ s, atP os s = qsum (termQ ps qs s) m) /\ os.length <= n + m /\ RetPol os (2 + m * (L + M + 1)) w e w') := by
 have Hlen := Lib.hid h.len;have Hlen' := Lib.hid h'.len;have HK := Lib.hid hK;clear hK
 go_enter Tryz.func25, Tryz.ntmps25
 go_wp2_with fail
 go_loopw [5, 6] (fun v i wr => ∃ (k : Nat) (os : List Rat) (A5 : Option Addr) (n5 c5 : Nat), k <= m /\ i = .int .i64 (k : Int) /\ v = .slice A5 n5 c5 /\ Ext w wr /\ Pol wr A5 n5 c5 os (2 + k * (L + M + 1)) /\ trimP os = os /\ (∀ s, atP os s = qsum (termQ ps qs s) k) /\ os.length <= n + k) (fun _ i _ => m - (intOf i).toNat)
 case atStart => exact ⟨0, [], none, 0, 0, Nat.zero_le _, rfl, rfl, Ext.refl w, Pol.none _ _, rfl, fun s => rfl, Nat.zero_le _⟩
 case round =>
  obtain ⟨k, os, A5, n5, c5, hk, rfl, rfl, extr, hos, ht, hc, hl⟩ := hrel;have HT := Lib.hid ht;have HC := Lib.hid hc;have HL := Lib.hid hl;clear ht hc hl
  by_cases hlt : k < m
  ·have hI : (k : Int) < (m : Int) := by omega
   have hkl : k < ps.length := by rw [Hlen'.out]; exact hlt
   have HB := Lib.hid (show 2 + k * (L + M + 1) + (L + M) + 1 = 2 + (k + 1) * (L + M + 1) by rw [Nat.succ_mul]; omega);have HB2 := Lib.hid (show 2 + (k + 1) * (L + M + 1) <= 998 from Nat.le_trans (Nat.add_le_add_left (Nat.mul_le_mul_right _ hlt) 2) HK.out);obtain ⟨b, off, rfl, hr⟩ := (h'.ext extr).at_ (fun e => by rw [e] at hkl; exact absurd hkl (Nat.not_lt_zero _));obtain ⟨sy, Ay, ny, cy, ty, By, my, dy, e0, e1, e2, e3, hy⟩ := hr.at_ k hkl;have e0' : wr.cell? ⟨b, off + k * 4, none⟩ = some (.bool sy) := by rw [Nat.mul_comm]; exact e0
   have e1' : wr.cell? ⟨b, off + k * 4 + 1, none⟩ = some (.slice Ay ny cy) := by rw [Nat.mul_comm]; exact e1
   have e2' : wr.cell? ⟨b, off + k * 4 + 2, none⟩ = some (.bool ty) := by rw [Nat.mul_comm]; exact e2
   have e3' : wr.cell? ⟨b, off + k * 4 + 3, none⟩ = some (.slice By my dy) := by rw [Nat.mul_comm]; exact e3
   clear e0 e1 e2 e3;have HP := Lib.hid (show atP ps k = ps[k] from atP_lt hkl);generalize ps[k] = x at hy HP
   go_wp2_with fail
   refine (q_ScalePW (h.ext extr) hy (by have := HB2.out; have := HB.out; omega) (by omega)).mono ?_;rintro e V1 ⟨A1, n1, c1, rfl, h1, x1⟩
   have hn1 : n1 <= 200 := by
    rw [<- h1.len];have := trimP_len (scaleP qs x);rw [show (scaleP qs x).length = qs.length by unfold scaleP; simp, Hlen.out] at this;omega
   have HN1 := Lib.hid (show (trimP (scaleP qs x)).length <= n by
    have := trimP_len (scaleP qs x);rw [show (scaleP qs x).length = qs.length by unfold scaleP; simp, Hlen.out] at this;exact this)
   clear e0' e1' e2' e3'
   go_wp2_with fail
   refine (q_ShiftP (k := k) h1 (by omega) (by have := HB2.out; have := HB.out; omega) (by omega) (by omega)).mono ?_;rintro e V2 ⟨A2, n2, c2, rfl, h2, x2⟩
   have HN2 := Lib.hid (show (trimP (List.replicate k 0 ++ trimP (scaleP qs x))).length <= k + n by
    have := trimP_len (List.replicate k 0 ++ trimP (scaleP qs x));rw [List.length_append, List.length_replicate] at this;have := HN1.out;omega)
   have hn2 : n2 <= 400 := by rw [<- h2.len]; have := HN2.out; omega
   have hn5 : n5 <= 400 := by rw [<- hos.len]; have := HL.out; omega
   go_wp2_with fail
   refine (q_AddPW (hos.ext (x1.trans x2)) h2 (by omega) (by omega) (by have := HB2.out; have := HB.out; omega) (by omega) (by omega)).mono ?_;rintro e V3 ⟨A3, n3, c3, rfl, h3, x3⟩;rw [HB.out] at h3;have ext3 := ((extr.trans x1).trans x2).trans x3
   go_wp2_with fail
   go_roundw
   case rel =>
    refine ⟨k + 1, _, A3, n3, c3, by omega, by go_num, rfl, ext3, h3, trimP_idem _, fun s => ?_, ?_⟩
    ·rw [atP_trimP, atP_sumP, HC.out, atP_trimP, atP_shift, atP_trimP, atP_scale]
     show _ = qsum (termQ ps qs s) k + termQ ps qs s k
     unfold termQ;rw [HP.out]
     split <;> grind
    ·have h8 := trimP_len (sumP os (trimP (List.replicate k 0 ++ trimP (scaleP qs x))))
     rw [sumP_len] at h8;have := HN2.out;have := HL.out;omega
   case measure => simp [intOf]; omega
  ·have hkn : k = m := by omega
   subst hkn;have hI : (k : Int) <= (k : Int) := Int.le_refl _
   go_wp2_with fail
   go_ret
   exact ⟨os, HT.out, HC.out, HL.out, A5, n5, c5, rfl, hos, extr⟩
end
section
variable {w w' : World} {A B : Option Addr} {n c m d L M : Nat} {qs ps : List Rat}
end
end
section
open Go.RowKit
theorem last_cfI {l : List Int} : l.getLastD 0 = cfI l (l.length - 1) := by
 unfold cfI;rw [List.getLastD_eq_getLast?, List.getLast?_eq_getElem?, List.getD_eq_getElem?_getD]
theorem prodI_last {xs ys : List Int} (hx : xs ≠ []) (hy : ys ≠ []) : (prodI xs ys).length = xs.length + ys.length - 1 /\ cfI (prodI xs ys) (xs.length + ys.length - 2) = xs.getLastD 0 * ys.getLastD 0 := by
 have h1 := List.length_pos_iff.2 hx;have h2 := List.length_pos_iff.2 hy;refine ⟨?_, ?_⟩
 ·unfold prodI
  rw [if_neg (by omega)];unfold mulI;simp
 ·rw [prodI_coef, last_cfI, last_cfI]
  obtain ⟨l, hl⟩ : ∃ l, xs.length = l + 1 := ⟨xs.length - 1, by omega⟩;rw [hl]
  show psum (termI xs ys (l + 1 + ys.length - 2)) l + termI xs ys (l + 1 + ys.length - 2) l = _
  rw [psum_more (n := 0) (Nat.zero_le _) (fun i _ hi => by
   unfold termI;rw [if_pos (by omega), cfI_ge (l := ys) (by omega), Int.mul_zero])]
  unfold termI;rw [if_pos (by omega), show l + 1 + ys.length - 2 - l = ys.length - 1 by omega, show l + 1 - 1 = l by omega]
  show (0 : Int) + _ = _
  rw [Int.zero_add]
theorem prod_trim (qs ps : List Rat) : trimP ((prodI (trimI (numsP qs)) (trimI (numsP ps))).map (fun z => mkQ z (((denP qs : Nat) : Int) * ((denP ps : Nat) : Int)))) = (prodI (trimI (numsP qs)) (trimI (numsP ps))).map (fun z => mkQ z (((denP qs : Nat) : Int) * ((denP ps : Nat) : Int))) := by
 have hD : 0 < ((denP qs : Nat) : Int) * ((denP ps : Nat) : Int) := Int.mul_pos (by have := denP_pos qs; omega) (by have := denP_pos ps; omega)
 by_cases hx : trimI (numsP qs) = []
 ·rw [hx, show prodI [] (trimI (numsP ps)) = [] by simp [prodI]]; rfl
 by_cases hy : trimI (numsP ps) = []
 ·rw [hy, show prodI (trimI (numsP qs)) [] = [] by simp [prodI]]; rfl
 obtain ⟨h1, h2⟩ := prodI_last hx hy;have h3 := List.length_pos_iff.2 hx;have h4 := List.length_pos_iff.2 hy;have h5 : (trimI (numsP qs)).getLastD 0 * (trimI (numsP ps)).getLastD 0 ≠ 0 := Int.mul_ne_zero (trimI_last hx) (trimI_last hy);rw [<- h2] at h5;generalize prodI (trimI (numsP qs)) (trimI (numsP ps)) = l at h1 h5;generalize ((denP qs : Nat) : Int) * ((denP ps : Nat) : Int) = D at hD;have hl : 0 < l.length := by omega
 have hlast : (trimI (numsP qs)).length + (trimI (numsP ps)).length - 2 = l.length - 1 := by omega
 rw [hlast, cfI_lt (by omega)] at h5
 have e : l = l.take (l.length - 1) ++ [l[l.length - 1]] := by
  rw [<- List.take_succ_eq_append_getElem (by omega), show l.length - 1 + 1 = l.length by omega, List.take_length]
 generalize l[l.length - 1] = z at h5 e;rw [e, List.map_append]
 show trimP (_ ++ [mkQ z D]) = _ ++ [mkQ z D]
 refine trimP_snoc _ ?_;rw [mkQ_div hD];intro h0
 have h6 : ((z : Int) : Rat) ≠ 0 := by
  intro e1;exact h5 (by exact_mod_cast e1)
 have h7 : ((D : Int) : Rat) ≠ 0 := by
  intro e1;have : D = 0 := by exact_mod_cast e1
  omega
 grind
theorem prod_same {qs ps os : List Rat} (ht : trimP os = os) (hc : ∀ s, atP os s = qsum (termQ ps qs s) ps.length) : (prodI (trimI (numsP qs)) (trimI (numsP ps))).map (fun z => mkQ z (((denP qs : Nat) : Int) * ((denP ps : Nat) : Int))) = os := by
 rw [<- prod_trim, <- ht];refine trimP_ext (fun i => ?_);rw [mul_coef, hc, termQ_comm]
structure BndR (q : Rat) (N D : Nat) : Prop where
 num : q.num.natAbs <= N
 den : q.den <= D
def Bnd (qs : List Rat) (N D : Nat) : Prop := ∀ q ∈ qs, BndR q N D
def dprod (qs : List Rat) : Nat := qs.foldr (fun q d => q.den * d) 1
theorem dprod_pos : ∀ qs : List Rat, 0 < dprod qs
 | [] => Nat.one_pos
 | q :: qs => Nat.mul_pos q.den_pos (dprod_pos qs)
theorem dprod_le {N D : Nat} : ∀ {qs : List Rat}, Bnd qs N D -> dprod qs <= D ^ qs.length
 | [], _ => Nat.le_refl _
 | q :: qs, h => by
  show q.den * dprod qs <= D ^ (qs.length + 1)
  rw [Nat.pow_succ, Nat.mul_comm (D ^ _)];exact Nat.mul_le_mul (h q (List.mem_cons_self ..)).den (dprod_le fun p hp => h p (List.mem_cons_of_mem _ hp))
theorem dprod_mem {N D : Nat} : ∀ {qs : List Rat} {q : Rat}, Bnd qs N D -> q ∈ qs -> ∃ m, dprod qs = q.den * m /\ m <= D ^ (qs.length - 1)
 | [], _, _, hq => by cases hq
 | p :: qs, q, h, hq => by
  rcases List.mem_cons.1 hq with rfl | hq
  ·exact ⟨dprod qs, rfl, dprod_le fun p hp => h p (List.mem_cons_of_mem _ hp)⟩
  ·obtain ⟨m, h1, h2⟩ := dprod_mem (fun p hp => h p (List.mem_cons_of_mem _ hp)) hq
   refine ⟨p.den * m, ?_, ?_⟩
   ·show p.den * dprod qs = _
    rw [h1, Nat.mul_left_comm]
   ·have h3 : (p :: qs).length - 1 = (qs.length - 1) + 1 := by have := List.length_pos_of_mem hq; rw [List.length_cons]; omega
    rw [h3, Nat.pow_succ, Nat.mul_comm (D ^ _)];exact Nat.mul_le_mul (h p (List.mem_cons_self ..)).den h2
theorem foldl_dvd (qs : List Rat) : ∀ d, qs.foldl (fun d q => Nat.lcm d q.den) d ∣ d * dprod qs := by
 induction qs with
 | nil => intro d; show d ∣ d * 1; rw [Nat.mul_one]; exact Nat.dvd_refl _
 | cons p qs ih =>
  intro d;refine Nat.dvd_trans (ih (Nat.lcm d p.den)) ?_
  show _ ∣ d * (p.den * dprod qs)
  rw [<- Nat.mul_assoc];exact Nat.mul_dvd_mul_right (Nat.lcm_dvd (Nat.dvd_mul_right _ _) (Nat.dvd_mul_left _ _)) _
theorem denP_dprod (qs : List Rat) : denP qs ∣ dprod qs := by
 have := foldl_dvd qs 1;rw [Nat.one_mul] at this;exact this
theorem sizeP_of {qs : List Rat} {N D k X : Nat} (h : Bnd qs N D) (hD : 1 <= D) (hl : qs.length <= k) (h1 : D ^ k < 4294967296 ^ X) (h2 : N * D ^ (k - 1) < 4294967296 ^ X) : SizeP qs X := by
 refine ⟨?_, fun z hz => ?_⟩
 ·exact Nat.lt_of_le_of_lt (Nat.le_trans (Nat.le_of_dvd (dprod_pos qs) (denP_dprod qs)) (Nat.le_trans (dprod_le h) (Nat.pow_le_pow_right hD hl))) h1
 ·unfold numsP at hz
  obtain ⟨q, hq, rfl⟩ := List.mem_map.1 hz;obtain ⟨m, e1, e2⟩ := dprod_mem h hq;obtain ⟨e, he⟩ := denP_dvd hq
  have h3 : e ∣ m := by
   have := denP_dprod qs;rw [he, e1] at this;exact Nat.dvd_of_mul_dvd_mul_left q.den_pos this
  have hm : 0 < m := by
   rcases Nat.eq_zero_or_pos m with h0 | h0
   ·have := dprod_pos qs
    rw [e1, h0, Nat.mul_zero] at this;omega
   ·exact h0
  have h4 := Nat.le_of_dvd hm h3
  have h5 : (q.num * (((denP qs : Nat) : Int) / ((q.den : Nat) : Int))).natAbs = q.num.natAbs * e := by
   rw [he, Int.natCast_mul, Int.mul_ediv_cancel_left _ (by have := q.den_nz; omega), Int.natAbs_mul, Int.natAbs_natCast]
  rw [h5];exact Nat.lt_of_le_of_lt (Nat.mul_le_mul (h q hq).num (Nat.le_trans h4 (Nat.le_trans e2 (Nat.pow_le_pow_right hD (Nat.sub_le_sub_right hl 1))))) h2
theorem bndR_mk (z : Int) {d : Nat} (hd : d ≠ 0) : BndR (mkRat z d) z.natAbs d := by
 obtain ⟨m, hm, e1, e2⟩ := Rat.mkRat_num_den (n := z) (n' := (mkRat z d).num) (d' := (mkRat z d).den) (z' := (mkRat z d).den_nz) (c := (mkRat z d).reduced) hd rfl;refine ⟨?_, ?_⟩
 ·conv => rhs; rw [e1]
  rw [Int.natAbs_mul, Int.natAbs_natCast];exact Nat.le_mul_of_pos_right _ (Nat.pos_of_ne_zero hm)
 ·conv => rhs; rw [e2]
  exact Nat.le_mul_of_pos_right _ (Nat.pos_of_ne_zero hm)
theorem BndR.le {q : Rat} {N D N' D' : Nat} (h : BndR q N D) (h1 : N <= N') (h2 : D <= D') : BndR q N' D' := ⟨Nat.le_trans h.num h1, Nat.le_trans h.den h2⟩
theorem BndR.zero {N D : Nat} (hD : 1 <= D) : BndR 0 N D := ⟨Nat.zero_le _, hD⟩
theorem BndR.add {a b : Rat} {N D M E : Nat} (h : BndR a N D) (k : BndR b M E) : BndR (a + b) (N * E + M * D) (D * E) := by
 have e : a + b = mkRat (a.num * (b.den : Int) + b.num * (a.den : Int)) (a.den * b.den) := by rw [Rat.add_def, Rat.normalize_eq_mkRat]
 rw [e];refine (bndR_mk _ (Nat.mul_ne_zero a.den_nz b.den_nz)).le ?_ (Nat.mul_le_mul h.den k.den);refine Nat.le_trans (Int.natAbs_add_le _ _) ?_;rw [Int.natAbs_mul, Int.natAbs_mul, Int.natAbs_natCast, Int.natAbs_natCast];exact Nat.add_le_add (Nat.mul_le_mul h.num k.den) (Nat.mul_le_mul k.num h.den)
theorem Bnd.at_ {qs : List Rat} {N D : Nat} (h : Bnd qs N D) (hD : 1 <= D) (i : Nat) : BndR (atP qs i) N D := by
 by_cases hi : i < qs.length
 ·rw [atP_lt hi]; exact h _ (List.getElem_mem hi)
 ·rw [atP_ge (by omega)]; exact BndR.zero hD
theorem Bnd.trim {qs : List Rat} {N D : Nat} (h : Bnd qs N D) : Bnd (trimP qs) N D := fun q hq => by
 rw [trimP_take] at hq;exact h q (List.mem_of_mem_take hq)
def B120 : Nat := 1329227995784915872903807060280344575
theorem bits_le {xs : List Nat} (hw : W32 xs) (hn : Nrm xs) (h : bitsN (trimL xs) <= 120) : val xs <= B120 := by
 rw [show trimL xs = xs from hn] at h
 by_cases h0 : 0 < xs.length
 ·obtain ⟨_, _, h3, _⟩ := bitsN_spec hw hn h0
  have h4 : 2 ^ bitsN xs <= 2 ^ 120 := Nat.pow_le_pow_right (by omega) h;have h5 : (2 : Nat) ^ 120 = B120 + 1 := by decide +kernel
  rw [h5] at h4;exact Nat.le_of_lt_succ (Nat.lt_of_lt_of_le h3 h4)
 ·have : xs = [] := List.length_eq_zero_iff.1 (by omega)
  subst this;exact Nat.zero_le _
theorem short_bnd {w : World} {s t : Bool} {A B : Option Addr} {n c m d : Nat} {xs ys : List Nat} (h : RI w A n c xs) (k : RI w B m d ys) (hs : shortB s xs t ys = true) : BndR (rawQ s xs t ys) B120 B120 := by
 obtain ⟨f1, f2, f3⟩ := shortB_le hs;have hq := NR.of_raw' (L := 4) h k f3 (by rw [<- h.len]; exact f1) (by rw [<- k.len]; exact f2);unfold shortB at hs;simp only [Bool.and_eq_true, decide_eq_true_eq] at hs;obtain ⟨_, _, _, g1, g2⟩ := hs;obtain ⟨xs0, a1, a2, _, _, a3, _⟩ := hq.num.out;obtain ⟨ys0, b1, b2, _, _, b3, _⟩ := hq.den.out;have e1 : xs0 = xs := a2.uniq h.rd (by rw [a1, h.len]);have e2 : ys0 = ys := b2.uniq k.rd (by rw [b1, k.len]);subst e1 e2;refine ⟨?_, ?_⟩
 ·rw [<- a3.abs]; exact bits_le a3.w32 a3.nrm g1
 ·have := bits_le b3.w32 b3.nrm g2
  rw [b3.abs, Int.natAbs_natCast] at this;exact this
theorem RawP.bnd {w : World} {A : Option Addr} {n c : Nat} {rs : List RawR} (h : RawP w A n c rs) (hs : rs.all RawR.short = true) : Bnd (rs.map RawR.q) B120 B120 := fun q hq => by
 obtain ⟨r, hr, rfl⟩ := List.mem_map.1 hq;have hsr := List.all_eq_true.1 hs r hr;obtain ⟨i, hi, rfl⟩ := List.getElem_of_mem hr;obtain ⟨b, off, h1, h2⟩ := h.at_ (fun e => by subst e; exact absurd hi (Nat.not_lt_zero _));obtain ⟨A, n, c, B, m, d, _, _, _, _, h4, h5⟩ := h2 i hi;exact short_bnd h4 h5 hsr
theorem Bnd.few {qs : List Rat} (h : Bnd qs B120 B120) (hl : qs.length <= 8) : SizeP qs 30 := sizeP_of h (by decide +kernel) hl (by decide +kernel) (by decide +kernel)
def prodQ (qs ps : List Rat) : List Rat := (prodI (trimI (numsP qs)) (trimI (numsP ps))).map (fun z => mkQ z (((denP qs : Nat) : Int) * ((denP ps : Nat) : Int)))
theorem prodQ_len (qs ps : List Rat) : (prodQ qs ps).length <= qs.length + ps.length := by
 unfold prodQ;rw [List.length_map];have h1 := prodI_len (trimI (numsP qs)) (trimI (numsP ps));have h2 := trimI_len (numsP qs);have h3 := trimI_len (numsP ps);rw [numsP_len] at h2 h3;omega
theorem prodQ_at (qs ps : List Rat) (s : Nat) : atP (prodQ qs ps) s = qsum (termQ qs ps s) (s + 1) := (mul_coef qs ps s).trans (termQ_all _ _ _)
theorem prodQ_trim (qs ps : List Rat) : trimP (prodQ qs ps) = prodQ qs ps := prod_trim qs ps
section
variable {w w' : World} {A B : Option Addr} {n c m d L M : Nat} {qs ps : List Rat}
theorem p_MulQV {X Y : Nat} (h : Pol w A n c qs L) (h' : Pol w B m d ps M) (hL : L <= 500) (hM : M <= 60) (hn : n <= 40) (hm : m <= 40) (hNL : n * L <= 2900) (hCx : Hid (L < 64 \/ (denP qs < 4294967296 ^ 126 /\ ∀ z ∈ numsP qs, z.natAbs < 4294967296 ^ 126))) (hX : SizeP qs X) (hY : SizeP ps Y) (hX1 : X <= 1000) (hY1 : Y <= 1000) (h64 : min X Y < 64) (hT : Tab w) :
  Calls Tryz.prog 24 #[.slice A n c, .slice B m d] w (RetPol (prodQ qs ps) (X + Y + 1) w) := p_MulV h h' hL hM hn hm hNL hCx hX hY hX1 hY1 h64 hT
theorem q_MulQW (h : Pol w A n c qs L) (h' : Pol w B m d ps M) (hL2 : 2 <= L) (hM2 : 2 <= M) (hK : 2 + m * (L + M + 1) <= 998) (hn : n <= 200) (hm : m <= 200) : Calls Tryz.prog 25 #[.slice A n c, .slice B m d] w (RetPol (prodQ qs ps) (2 + m * (L + M + 1)) w) := by
 refine (q_MulPW h h' hL2 hM2 hK hn hm).mono ?_;rintro e V ⟨os, h1, h2, _, hr⟩;have e1 : prodQ qs ps = os := prod_same h1 (fun s => by rw [h2 s, h'.len]);rw [e1];exact hr
end
end
section
theorem atP_succ (a : Rat) (l : List Rat) (i : Nat) : atP (a :: l) (i + 1) = atP l i := rfl
theorem atP_nil (i : Nat) : atP [] i = 0 := atP_ge (Nat.zero_le _)
theorem trimP_len_le {l : List Rat} {n : Nat} (h : ∀ i, n <= i -> atP l i = 0) : (trimP l).length <= n := by
 refine Decidable.byContradiction fun hc => ?_
 have h1 : trimP l ≠ [] := fun e => by rw [e] at hc; simp at hc
 have h2 := trimP_last h1;rw [List.getLastD_eq_getLast?, List.getLast?_eq_getElem?] at h2;have h3 := h ((trimP l).length - 1) (by omega);rw [<- atP_trimP] at h3;unfold atP at h3;rw [List.getD_eq_getElem?_getD] at h3;exact h2 h3
theorem denP_rep (l : List Rat) (k : Nat) : denP (l ++ List.replicate k 0) = denP l := by
 induction k with
 | zero => rw [List.replicate_zero, List.append_nil]
 | succ k ih =>
  rw [List.replicate_succ', <- List.append_assoc, denP_snoc, ih];exact Nat.lcm_one_right _
theorem trimI_rep (l : List Int) (k : Nat) : trimI (l ++ List.replicate k 0) = trimI l := by
 induction k with
 | zero => rw [List.replicate_zero, List.append_nil]
 | succ k ih => rw [List.replicate_succ', <- List.append_assoc, trimI_zero, ih]
theorem numsP_rep (l : List Rat) (k : Nat) : numsP (l ++ List.replicate k 0) = numsP l ++ List.replicate k 0 := by
 unfold numsP;rw [denP_rep, List.map_append, List.map_replicate]
 congr 2
 show (0 : Int) * _ = 0
 rw [Int.zero_mul]
theorem numsP_last {l : List Rat} (h : trimP l = l) : trimI (numsP l) = numsP l := by
 rcases List.eq_nil_or_concat l with rfl | ⟨l', x, rfl⟩
 ·rfl
 ·rw [List.concat_eq_append] at h ⊢
  have hx : x ≠ 0 := by
   intro e;subst e;rw [trimP_zero] at h;have h1 := congrArg List.length h;have h2 := trimP_len l';rw [List.length_append] at h1;simp at h1;omega
  unfold numsP;rw [List.map_append]
  show trimI (_ ++ [_]) = _ ++ [_]
  refine trimI_snoc _ (Int.mul_ne_zero (fun e => hx (Rat.num_eq_zero.1 e)) ?_);obtain ⟨e, he⟩ := denP_dvd (qs := l' ++ [x]) (q := x) (by simp);have hp := denP_pos (l' ++ [x]);rw [he] at hp ⊢;rw [Int.natCast_mul, Int.mul_ediv_cancel_left _ (by have := x.den_nz; omega)];intro e0;have : e = 0 := by omega
  rw [this, Nat.mul_zero] at hp;omega
theorem numsP_trim (qs : List Rat) : trimI (numsP qs) = numsP (trimP qs) := by
 obtain ⟨k, hk⟩ := trimP_pre qs
 conv => lhs; rw [hk, numsP_rep, trimI_rep]
 exact numsP_last (trimP_idem qs)
theorem numsP_getLast {l : List Rat} (h : trimP l = l) (h0 : l ≠ []) : (numsP l).getLastD 0 ≠ 0 := by
 rw [<- numsP_last h];refine trimI_last ?_;rw [numsP_last h];intro e;have := congrArg List.length e;rw [numsP_len] at this;exact h0 (List.length_eq_zero_iff.1 this)
structure IsDiv (a b Q R : List Rat) (o : Nat) : Prop where
 eq : ∀ s, atP a s = qsum (termQ Q b s) (s + 1) + atP R s
 len : R.length <= o
 nq : trimP Q = Q
 nr : trimP R = R
theorem list_eq {l l' : List Rat} (h : trimP l = l) (h' : trimP l' = l') (e : ∀ i, atP l i = atP l' i) : l = l' := by
 rw [<- h, <- h'];exact trimP_ext e
theorem qsum_one {f : Nat -> Rat} {n t : Nat} (ht : t < n) (h : ∀ i, i < n -> i ≠ t -> f i = 0) : qsum f n = f t := by
 induction n with
 | zero => omega
 | succ n ih =>
  show qsum f n + f n = f t
  by_cases e : t = n
  ·subst e
   rw [qsum_none t (fun i hi => h i (by omega) (by omega))]
   grind
  ·rw [ih (by omega) (fun i hi => h i (by omega)), h n (by omega) (by omega)]
   grind
theorem IsDiv.unique {a b Q R Q' R' : List Rat} {o : Nat} (h : IsDiv a b Q R o) (h' : IsDiv a b Q' R' o) (hb : b.length = o + 1) (hl : atP b o ≠ 0) : Q = Q' /\ R = R' := by
 have key : ∀ d t, max Q.length Q'.length <= t + d -> atP Q t = atP Q' t := by
  intro d
  induction d with
  | zero =>
   intro t ht;rw [atP_ge (by omega), atP_ge (by omega)]
  | succ d ih =>
   intro t ht
   by_cases h0 : max Q.length Q'.length <= t + d
   ·exact ih t h0
   have e1 := h.eq (t + o);have e2 := h'.eq (t + o);have l1 := h.len;have l2 := h'.len;rw [atP_ge (l := R) (by omega)] at e1;rw [atP_ge (l := R') (by omega)] at e2
   have e3 : qsum (fun i => termQ Q b (t + o) i - termQ Q' b (t + o) i) (t + o + 1) = termQ Q b (t + o) t - termQ Q' b (t + o) t := by
    refine qsum_one (by omega) (fun i hi hne => ?_);unfold termQ;rw [if_pos (by omega), if_pos (by omega)]
    rcases Nat.lt_or_ge i t with hlt | hge
    ·rw [atP_ge (l := b) (by omega)]
     grind
    ·rw [ih i (by omega)]
     grind
   have e4 : qsum (fun i => termQ Q b (t + o) i - termQ Q' b (t + o) i) (t + o + 1) = qsum (termQ Q b (t + o)) (t + o + 1) - qsum (termQ Q' b (t + o)) (t + o + 1) := by
    have hs := qsum_add (fun i => termQ Q b (t + o) i - termQ Q' b (t + o) i) (termQ Q' b (t + o)) (t + o + 1)
    rw [qsum_congr (g := termQ Q b (t + o)) _ (fun i _ => by
     show termQ Q b (t + o) i - termQ Q' b (t + o) i + termQ Q' b (t + o) i = _
     grind)] at hs
    grind
   rw [e4] at e3;unfold termQ at e3;rw [if_pos (by omega), if_pos (by omega), show t + o - t = o by omega] at e3
   have e5 : (atP Q t - atP Q' t) * atP b o = 0 := by
    unfold termQ at e1 e2
    grind
   rcases Rat.mul_eq_zero.1 e5 with e6 | e6
   ·grind
   ·exact absurd e6 hl
 have hq : Q = Q' := list_eq h.nq h'.nq (fun i => key (max Q.length Q'.length) i (by omega));refine ⟨hq, list_eq h.nr h'.nr (fun i => ?_)⟩;have e1 := h.eq i;have e2 := h'.eq i;rw [hq] at e1;rw [e1] at e2
 grind
def rhoD (xs os : List Int) (lead : Int) (N k s : Nat) : Rat := if s < N - k + os.length then ((cfI (divS xs os lead N k).1 s : Int) : Rat) / (((divS xs os lead N k).2.1 : Int) : Rat) else 0
theorem cfI_midD (R : List Int) (f m : Int) (os : List Int) (i a b j : Nat) (hj : j < R.length) : cfI (midD R f m os i a b) j = (if j < a then cfI R j * f else cfI R j) - (if i <= j /\ j < i + b then cfI os (j - i) * m else 0) := by
 rw [cfI_lt (by rw [midD_len]; exact hj), midD_at]
theorem cast_ne {z : Int} (h : z ≠ 0) : ((z : Int) : Rat) ≠ 0 := fun e => h (by exact_mod_cast e)
theorem mkQ_quot {z y : Int} (h : y ≠ 0) : mkQ z y = ((z : Int) : Rat) / ((y : Int) : Rat) := by
 rcases Int.lt_or_gt_of_ne h with h1 | h1
 ·have h2 : mkQ z y = mkQ (-z) (-y) := by
   unfold mkQ;rw [if_pos h1, if_neg (by omega)]
  rw [h2, mkQ_div (by omega), Rat.intCast_neg, Rat.intCast_neg];have := cast_ne h
  grind
 ·exact mkQ_div h1
theorem divS_round {xs os ys : List Int} {lead : Int} {N k : Nat} (hl : lead ≠ 0) (hys : ys = os ++ [lead]) (hk : k < N) (hN : N + os.length = xs.length) (s : Nat) :
  rhoD xs os lead N k s = mkQ (topD (divS xs os lead N k).1 (N - 1 - k) os.length) ((divS xs os lead N k).2.1 * lead) * (if N - 1 - k <= s then ((cfI ys (s - (N - 1 - k)) : Int) : Rat) else 0) + rhoD xs os lead N (k + 1) s := by
 have hR := divS_len xs os lead N k;have hsc := divS_nz (xs := xs) (os := os) (N := N) hl k;have hc0 := comD_ne (R := (divS xs os lead N k).1) (i := N - 1 - k) (o := os.length) hl;have hct := comD_top (R := (divS xs os lead N k).1) (lead := lead) (i := N - 1 - k) (o := os.length);have hcl := comD_lead (R := (divS xs os lead N k).1) (lead := lead) (i := N - 1 - k) (o := os.length);have hylen : ys.length = os.length + 1 := by rw [hys]; simp
 have hyo : ∀ j, j < os.length -> cfI ys j = cfI os j := fun j hj => by
  rw [hys];unfold cfI;simp [List.getD_eq_getElem?_getD, List.getElem?_append_left hj]
 have hyl : cfI ys os.length = lead := by
  rw [hys];unfold cfI;simp
 unfold rhoD
 show _ = _ + (if s < N - (k + 1) + os.length then ((cfI (midD (divS xs os lead N k).1 (lead / comD (divS xs os lead N k).1 lead (N - 1 - k) os.length) (topD (divS xs os lead N k).1 (N - 1 - k) os.length / comD (divS xs os lead N k).1 lead (N - 1 - k) os.length) os (N - 1 - k) (N - 1 - k + os.length) os.length) s : Int) : Rat) / (((divS xs os lead N k).2.1 * (lead / comD (divS xs os lead N k).1 lead (N - 1 - k) os.length) : Int) : Rat) else 0)
 generalize comD (divS xs os lead N k).1 lead (N - 1 - k) os.length = com at hc0 hct hcl ⊢;have htop : topD (divS xs os lead N k).1 (N - 1 - k) os.length = cfI (divS xs os lead N k).1 (N - 1 - k + os.length) := rfl;generalize topD (divS xs os lead N k).1 (N - 1 - k) os.length = top at hct htop ⊢;generalize (divS xs os lead N k).1 = R at hR htop ⊢;generalize (divS xs os lead N k).2.1 = sc at hsc ⊢;obtain ⟨f, hf⟩ := hcl;obtain ⟨m, hm⟩ := hct;rw [hf, hm, Int.mul_ediv_cancel_left _ hc0, Int.mul_ediv_cancel_left _ hc0];have hf0 : f ≠ 0 := fun e => hl (by rw [hf, e, Int.mul_zero])
 have hQ : mkQ (com * m) (sc * (com * f)) = ((m : Int) : Rat) / (((sc : Int) : Rat) * ((f : Int) : Rat)) := by
  have h1 : sc * (com * f) ≠ 0 := Int.mul_ne_zero hsc (Int.mul_ne_zero hc0 hf0);have h2 : mkQ (com * m) (sc * (com * f)) = (((com * m : Int)) : Rat) / (((sc * (com * f) : Int)) : Rat) := mkQ_quot h1;rw [h2, Rat.intCast_mul, Rat.intCast_mul, Rat.intCast_mul];have a1 := cast_ne hsc;have a2 := cast_ne hc0;have a3 := cast_ne hf0
  grind
 rw [hQ];have a1 := cast_ne hsc;have a3 := cast_ne hf0;have a2 := cast_ne hc0
 by_cases hs : s < N - (k + 1) + os.length
 ·have g1 : s < N - k + os.length := by omega
  have g2 : s < N - 1 - k + os.length := by omega
  rw [if_pos hs, if_pos g1, cfI_midD _ _ _ _ _ _ _ _ (by omega), if_pos g2]
  by_cases hi : N - 1 - k <= s
  ·have g3 : N - 1 - k <= s /\ s < N - 1 - k + os.length := ⟨hi, g2⟩
   rw [if_pos hi, if_pos g3, hyo _ (by omega), Rat.intCast_sub, Rat.intCast_mul, Rat.intCast_mul, Rat.intCast_mul]
   grind
  ·have g3 : ¬ (N - 1 - k <= s /\ s < N - 1 - k + os.length) := fun e => hi e.1
   rw [if_neg hi, if_neg g3, Int.sub_zero, Rat.intCast_mul, Rat.intCast_mul]
   grind
 ·rw [if_neg hs]
  by_cases hi : s = N - 1 - k + os.length
  ·have g1 : s < N - k + os.length := by omega
   have g3 : N - 1 - k <= s := by omega
   rw [if_pos g1, if_pos g3, show s - (N - 1 - k) = os.length by omega, hyl, hf, hi, <- htop, hm, Rat.intCast_mul, Rat.intCast_mul]
   grind
  ·have g1 : ¬ s < N - k + os.length := by omega
   have g3 : N - 1 - k <= s := by omega
   rw [if_neg g1, if_pos g3, cfI_ge (l := ys) (by omega)]
   show (0 : Rat) = _ * (0 : Rat) + 0
   grind
def quoD (xs os : List Int) (lead : Int) (N k : Nat) : Rat := mkQ (topD (divS xs os lead N k).1 (N - 1 - k) os.length) ((divS xs os lead N k).2.1 * lead)
def sumD (xs os ys : List Int) (lead : Int) (N s k : Nat) : Rat := qsum (fun j => quoD xs os lead N j * (if N - 1 - j <= s then ((cfI ys (s - (N - 1 - j)) : Int) : Rat) else 0)) k
theorem divS_sum {xs os ys : List Int} {lead : Int} {N : Nat} (hl : lead ≠ 0) (hys : ys = os ++ [lead]) (hN : N = xs.length - os.length) (s : Nat) : ∀ k, k <= N -> ((cfI xs s : Int) : Rat) = sumD xs os ys lead N s k + rhoD xs os lead N k s
 | 0, _ => by
  show _ = (0 : Rat) + rhoD xs os lead N 0 s
  unfold rhoD
  show _ = (0 : Rat) + (if s < N - 0 + os.length then ((cfI xs s : Int) : Rat) / (((1 : Int)) : Rat) else 0)
  by_cases h : s < N - 0 + os.length
  ·rw [if_pos h]
   show _ = (0 : Rat) + ((cfI xs s : Int) : Rat) / (1 : Rat)
   grind
  ·rw [if_neg h, cfI_ge (by omega)]
   show (0 : Rat) = 0 + 0
   grind
 | k + 1, hk => by
  have ih := divS_sum hl hys hN s k (by omega);have hr := divS_round (N := N) (k := k) hl hys (by omega) (by omega : N + os.length = xs.length) s;rw [ih, hr]
  show _ = (sumD xs os ys lead N s k + quoD xs os lead N k * _) + _
  unfold quoD
  grind
theorem quo_at (xs os : List Int) (lead : Int) (N : Nat) : ∀ k i, i < k -> atP (divS xs os lead N k).2.2 i = quoD xs os lead N (k - 1 - i)
 | 0, i, h => by omega
 | k + 1, 0, _ => rfl
 | k + 1, i + 1, h => by
  show atP (_ :: (divS xs os lead N k).2.2) (i + 1) = _
  rw [atP_succ, quo_at xs os lead N k i (by omega)]
  congr 1
  omega
theorem sumD_rev (xs os ys : List Int) (lead : Int) (N s : Nat) : sumD xs os ys lead N s N = qsum (fun i => atP (divS xs os lead N N).2.2 i * (if i <= s then ((cfI ys (s - i) : Int) : Rat) else 0)) N := by
 unfold sumD
 cases N with
 | zero => rfl
 | succ n =>
  rw [qsum_rev];refine qsum_congr _ (fun i hi => ?_);rw [quo_at _ _ _ _ _ _ hi, show n + 1 - 1 - (n - i) = i by omega, show n + 1 - 1 - i = n - i by omega]
theorem trim_mapN {zs : List Int} {D : Int} (h : trimI zs = zs) (hD : D ≠ 0) : trimP (zs.map (fun z => mkQ z D)) = zs.map (fun z => mkQ z D) := by
 rcases List.eq_nil_or_concat zs with rfl | ⟨l, z, rfl⟩
 ·rfl
 ·rw [List.concat_eq_append] at h ⊢
  have hz : z ≠ 0 := by
   intro e;subst e;rw [trimI_zero] at h;have h1 := congrArg List.length h;have h2 := trimI_len l;rw [List.length_append] at h1;simp at h1;omega
  rw [List.map_append]
  show trimP (_ ++ [mkQ z D]) = _ ++ [mkQ z D]
  refine trimP_snoc _ ?_;rw [mkQ_quot hD];intro h0;have h6 := cast_ne hz;have h7 := cast_ne hD
  grind
theorem map_at {zs : List Int} {D : Int} (hD : D ≠ 0) (s : Nat) : atP (zs.map (fun z => mkQ z D)) s = ((cfI zs s : Int) : Rat) / ((D : Int) : Rat) := by
 by_cases h : s < zs.length
 ·rw [atP_lt (by simpa using h), cfI_lt h]
  simp [mkQ_quot hD]
 ·rw [atP_ge (by simp; omega), cfI_ge (by omega)]
  show (0 : Rat) = 0 / _
  grind
theorem cfI_take (l : List Int) (t s : Nat) : cfI (l.take t) s = if s < t then cfI l s else 0 := by
 unfold cfI;simp only [List.getD_eq_getElem?_getD, List.getElem?_take]
 split <;> simp
theorem scale_at (a : List Rat) (x : Rat) (s : Nat) : atP (scaleP a x) s = atP a s * x := by
 by_cases h : s < a.length
 ·rw [atP_lt (by unfold scaleP; simpa using h), atP_lt h]
  simp [scaleP]
 ·rw [atP_ge (by unfold scaleP; simp; omega), atP_ge (by omega)]
  show (0 : Rat) = 0 * x
  grind
theorem lastD_getI {zs : List Int} {j : Nat} (h : zs.length = j + 1) : zs.getLastD 0 = zs[j] := by
 rw [List.getLastD_eq_getLast?, List.getLast?_eq_getElem?];have e : zs[zs.length - 1]? = some zs[j] := List.getElem?_eq_some_iff.2 ⟨by omega, getElem_congr rfl (by omega) _⟩;rw [e]
 rfl
theorem prog_div {qs ps : List Rat} {xs ys os : List Int} {lead : Int} {o N : Nat} (hxs : trimI (numsP qs) = xs) (hys : trimI (numsP ps) = ys) (hy0 : ys.length = o + 1) (hN : N = xs.length - o) (hos : os = ys.take o) (hlead : lead = ys.getLastD 0) (hl0 : lead ≠ 0) :
  IsDiv qs ps (trimP (scaleP (divS xs os lead N N).2.2 (mkQ ((denP ps : Nat) : Int) ((denP qs : Nat) : Int)))) ((trimI ((divS xs os lead N N).1.take (xs.length - N))).map (fun z => mkQ z ((divS xs os lead N N).2.1 * ((denP qs : Nat) : Int)))) o := by
 have hA : ((denP qs : Nat) : Int) ≠ 0 := by have := denP_pos qs; omega
 have hB : ((denP ps : Nat) : Int) ≠ 0 := by have := denP_pos ps; omega
 have hA' := cast_ne hA;have hB' := cast_ne hB;have hol : os.length = o := by rw [hos, List.length_take]; omega
 have hyo : ys = os ++ [lead] := by
  rw [hos, hlead, lastD_getI hy0, <- List.take_succ_eq_append_getElem (by omega), List.take_of_length_le (by omega)]
 have hsc := divS_nz (xs := xs) (os := os) (N := N) hl0 N;have hD : (divS xs os lead N N).2.1 * ((denP qs : Nat) : Int) ≠ 0 := Int.mul_ne_zero hsc hA;have hsc' := cast_ne hsc;refine ⟨fun s => ?_, ?_, trimP_idem _, trim_mapN (trimI_idem _) hD⟩
 ·have h1 := divS_sum (xs := xs) (N := N) hl0 hyo (by rw [hol]; exact hN) s N (Nat.le_refl _)
  rw [sumD_rev] at h1;have hx : ((cfI xs s : Int) : Rat) = atP qs s * (((denP qs : Nat) : Int) : Rat) := by rw [<- hxs, cfI_trim, nums_cast]
  have hy : ∀ j, ((cfI ys j : Int) : Rat) = atP ps j * (((denP ps : Nat) : Int) : Rat) := fun j => by rw [<- hys, cfI_trim, nums_cast]
  have hq : ∀ i, atP (trimP (scaleP (divS xs os lead N N).2.2 (mkQ ((denP ps : Nat) : Int) ((denP qs : Nat) : Int)))) i = atP (divS xs os lead N N).2.2 i * ((((denP ps : Nat) : Int) : Rat) / (((denP qs : Nat) : Int) : Rat)) := fun i => by rw [atP_trimP, scale_at, mkQ_quot hA]
  have hlen := divS_qlen xs os lead N N
  have hs1 : qsum (fun i => atP (divS xs os lead N N).2.2 i * (if i <= s then ((cfI ys (s - i) : Int) : Rat) else 0)) N = qsum (termQ (trimP (scaleP (divS xs os lead N N).2.2 (mkQ ((denP ps : Nat) : Int) ((denP qs : Nat) : Int)))) ps s) (s + 1) * (((denP qs : Nat) : Int) : Rat) := by
   have e1 : ∀ n, qsum (fun i => atP (divS xs os lead N N).2.2 i * (if i <= s then ((cfI ys (s - i) : Int) : Rat) else 0)) n = qsum (termQ (trimP (scaleP (divS xs os lead N N).2.2 (mkQ ((denP ps : Nat) : Int) ((denP qs : Nat) : Int)))) ps s) n * (((denP qs : Nat) : Int) : Rat) := fun n => by
    rw [<- qsum_mul];refine qsum_congr _ (fun i _ => ?_);unfold termQ
    split
    ·rw [hq, hy]
     grind
    ·show _ * (0 : Rat) = 0 * _
     grind
   rw [<- qsum_more (n := N) (m := N + (s + 1)) (by omega) (fun i h2 _ => by rw [atP_ge (by omega), Rat.zero_mul]), e1, qsum_more (n := s + 1) (m := N + (s + 1)) (by omega) (fun i h2 _ => by unfold termQ; rw [if_neg (by omega)])]
  rw [hs1, hx] at h1
  have hr : atP ((trimI ((divS xs os lead N N).1.take (xs.length - N))).map (fun z => mkQ z ((divS xs os lead N N).2.1 * ((denP qs : Nat) : Int)))) s * (((denP qs : Nat) : Int) : Rat) = rhoD xs os lead N N s := by
   rw [map_at hD, cfI_trim, cfI_take, Rat.intCast_mul];unfold rhoD;have hRl := divS_len xs os lead N N
   by_cases h2 : s < N - N + os.length
   ·rw [if_pos h2]
    by_cases h3 : s < xs.length - N
    ·rw [if_pos h3]
     grind
    ·rw [if_neg h3, cfI_ge (by omega)]
     show (0 : Rat) / _ * _ = 0 / _
     grind
   ·rw [if_neg h2, if_neg (by omega)]
    show (0 : Rat) / _ * _ = 0
    grind
  rw [<- hr] at h1
  grind
 ·rw [List.length_map]
  refine Nat.le_trans (trimI_len _) ?_;rw [List.length_take];omega
end
end Go.Proofs.YtpeddoaknfjbbaaGreatDoor
