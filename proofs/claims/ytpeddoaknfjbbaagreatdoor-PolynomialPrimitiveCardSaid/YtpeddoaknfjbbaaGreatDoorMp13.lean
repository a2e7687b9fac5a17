/- For every list of numbers and every number the law PolynomialPrimitive returns true: Primitive and Bound return the specified results, and a factor that is not 0 does not change the primitive multiple, the arguments keep their values, and the examples of the chapter hold. Condition: the table math/bits.deBruijn64tab holds what its initialiser lays (tied by the given card). -/
import Derived.Test.YtpeddoaknfjbbaaGreatDoorMp12
import Derived.Test.YtpeddoaknfjbbaaGreatDoorMp11
import Derived.Test.YtpeddoaknfjbbaaGreatDoorMp7
import Derived.Test.YtpeddoaknfjbbaaGreatDoorMp5
import Derived.Test.YtpeddoaknfjbbaaGreatDoorMp6
import Derived.Test.YtpeddoaknfjbbaaGreatDoorMp10
import Derived.Test.YtpeddoaknfjbbaaGreatDoorMp3
import Derived.Test.YtpeddoaknfjbbaaGreatDoorMp8
import Derived.Test.YtpeddoaknfjbbaaGreatDoorMp0
import Derived.Test.YtpeddoaknfjbbaaGreatDoorRows
import Derived.ProofKit
import Derived.Lib.SmallJoins
import Derived.Test.YtpeddoaknfjbbaaGreatDoorCards
import Derived.Test.YtpeddoaknfjbbaaGreatDoorTie
import Derived.LaidMore
import Derived.OpenShut
import Derived.LaidLaws
import Derived.Deep.Slices
import Derived.Lib.LaidTab
import Derived.SevenTiedAt
import Derived.Stop.Joined
set_option linter.unusedSimpArgs false
set_option linter.unusedVariables false
set_option maxHeartbeats 64000000
namespace Go.Proofs.YtpeddoaknfjbbaaGreatDoor
section
open Go.RowKit
attribute [local go_sem ↓] Go.wp_at_zero Go.wp_at_succ
section
variable {w w' : World} {z y : Int} {q p x : Rat} {L M : Nat} {s t s' t' : Bool} {A B A' B' : Option Addr} {n c m d n' c' m' d' : Nat} {qs ts : List Rat} {sx tx : Bool} {Ax Bx : Option Addr} {nx cx mx dx : Nat}
theorem q_quoR (h : NR w q L s A n c t B m d) (k : NR w p M s' A' n' c' t' B' m' d') (hL : L <= 1000) (hM : M <= 1000) (hp : p ≠ 0) : Calls Tryz.prog 79 #[.agg #[.bool s, .slice A n c, .bool t, .slice B m d], .agg #[.bool s', .slice A' n' c', .bool t', .slice B' m' d']] w (RetNR (q / p) (L + M) w) := by
 go_enter Tryz.func79, Tryz.ntmps79
 go_upto_region 1 with (fail)
 obtain ⟨W, hW, extW, bx, by_, bz, hz⟩ := box3 w 27 27 27 #[.bool s, .slice A n c, .bool t, .slice B m d] #[.bool s', .slice A' n' c', .bool t', .slice B' m' d'] #[Value.bool false, Value.slice none 0 0, Value.bool false, Value.slice none 0 0];rw [<- hW];clear hW;have x0 := bx.cell 0 (.bool s) rfl;have x1 := bx.cell 1 (.slice A n c) rfl;have x2 := bx.cell 2 (.bool t) rfl;have x3 := bx.cell 3 (.slice B m d) rfl;have y0 := by_.cell 0 (.bool s') rfl;have y1 := by_.cell 1 (.slice A' n' c') rfl;have y2 := by_.cell 2 (.bool t') rfl;have y3 := by_.cell 3 (.slice B' m' d') rfl
 go_wp2_with fail
 refine (q_Div_nz (h.ext extW) (k.ext extW) hL hM hp).mono ?_;rintro e W1 ⟨s9, A9, n9, c9, t9, B9, m9, d9, rfl, h9, hx1⟩;clear x0 x1 x2 x3 y0 y1 y2 y3
 go_upto_region 2 with (fail)
 have ha := (Ext.refl W1).alloc (.cells #[.bool s9, .slice A9 n9 c9, .bool t9, .slice B9 m9 d9] 27);refine at_world (fun V => Ext W V /\ Box V W1.heap.size 27 #[.bool s9, .slice A9 n9 c9, .bool t9, .slice B9 m9 d9] /\ NR V (q / p) (L + M) s9 A9 n9 c9 t9 B9 m9 d9) ⟨hx1.trans ha, Box.new W1 _ _, h9.ext ha⟩ ?_;clear ha hx1 h9;generalize W1.heap.size = g5;rintro V ⟨EV, b5, h9⟩;have x0 := b5.cell 0 (.bool s9) rfl;have x1 := b5.cell 1 (.slice A9 n9 c9) rfl;have x2 := b5.cell 2 (.bool t9) rfl;have x3 := b5.cell 3 (.slice B9 m9 d9) rfl;have hxt := EV;have z0 := (bz.ext hxt).cell 0 _ rfl;have z1 := (bz.ext hxt).cell 1 _ rfl;have z2 := (bz.ext hxt).cell 2 _ rfl;have z3 := (bz.ext hxt).cell 3 _ rfl;have f0 := (bz.ext hxt).frozen 0;have f1 := (bz.ext hxt).frozen 1;have f2 := (bz.ext hxt).frozen 2;have f3 := (bz.ext hxt).frozen 3
 go_wp2_with fail
 obtain ⟨b1, b2, b3, b4⟩ := fin_quad (s := s9) (A := A9) (n := n9) (c := c9) (t := t9) (B := B9) (m := m9) (d := d9) (bz.ext hxt);have r0 := b1.cell 0 (.bool s9) rfl;have r1 := b1.cell 1 (.slice A9 n9 c9) rfl;have r2 := b1.cell 2 (.bool t9) rfl;have r3 := b1.cell 3 (.slice B9 m9 d9) rfl;unfold set4 at r0 r1 r2 r3;refine bodyPost_ret (v := .agg #[.bool s9, .slice A9 n9 c9, .bool t9, .slice B9 m9 d9]) (by simp [results, Tryz.results79, go_sem, r0, r1, r2, r3]) rfl ⟨s9, A9, n9, c9, t9, B9, m9, d9, rfl, ⟨?_, ?_⟩, b3 _ (extW.trans hxt) (by omega)⟩
 ·exact b2 _ _ _ _ _ _ h9.num
 ·exact b2 _ _ _ _ _ _ h9.den
theorem q_absR_neg (h : NR w q L s A n c t B m d) (hL : L <= 1000) (hs : q.num.sign < 0) : Calls Tryz.prog 89 #[.agg #[.bool s, .slice A n c, .bool t, .slice B m d]] w (RetNR (-q) L w) := by
 go_enter Tryz.func89, Tryz.ntmps89
 go_upto_region 1 with (fail)
 obtain ⟨W, hW, extW, bx, bz, hz⟩ := box2 w 27 27 #[.bool s, .slice A n c, .bool t, .slice B m d] #[Value.bool false, Value.slice none 0 0, Value.bool false, Value.slice none 0 0];rw [<- hW];clear hW;have x0 := bx.cell 0 (.bool s) rfl;have x1 := bx.cell 1 (.slice A n c) rfl;have x2 := bx.cell 2 (.bool t) rfl;have x3 := bx.cell 3 (.slice B m d) rfl
 go_wp2_with fail
 refine (q_SignR (h.ext extW) hL).mono ?_;rintro e V ⟨rfl, hx0⟩;replace bx := bx.ext hx0;replace bz := bz.ext hx0;replace h := h.ext (extW.trans hx0);replace extW := extW.trans hx0;clear hx0 x0 x1 x2 x3;have x0 := bx.cell 0 (.bool s) rfl;have x1 := bx.cell 1 (.slice A n c) rfl;have x2 := bx.cell 2 (.bool t) rfl;have x3 := bx.cell 3 (.slice B m d) rfl
 go_wp2_with fail
 refine (q_NegR h (by omega)).mono ?_;rintro e V2 ⟨s7, A7, n7, c7, t7, B7, m7, d7, rfl, h7, hxt⟩;clear x0 x1 x2 x3;have z0 := (bz.ext hxt).cell 0 _ rfl;have z1 := (bz.ext hxt).cell 1 _ rfl;have z2 := (bz.ext hxt).cell 2 _ rfl;have z3 := (bz.ext hxt).cell 3 _ rfl;have f0 := (bz.ext hxt).frozen 0;have f1 := (bz.ext hxt).frozen 1;have f2 := (bz.ext hxt).frozen 2;have f3 := (bz.ext hxt).frozen 3
 go_wp2_with fail
 obtain ⟨b1, b2, b3, b4⟩ := fin_quad (s := s7) (A := A7) (n := n7) (c := c7) (t := t7) (B := B7) (m := m7) (d := d7) (bz.ext hxt);have r0 := b1.cell 0 (.bool s7) rfl;have r1 := b1.cell 1 (.slice A7 n7 c7) rfl;have r2 := b1.cell 2 (.bool t7) rfl;have r3 := b1.cell 3 (.slice B7 m7 d7) rfl;unfold set4 at r0 r1 r2 r3;refine bodyPost_ret (v := .agg #[.bool s7, .slice A7 n7 c7, .bool t7, .slice B7 m7 d7]) (by simp [results, Tryz.results89, go_sem, r0, r1, r2, r3]) rfl ⟨s7, A7, n7, c7, t7, B7, m7, d7, rfl, ⟨?_, ?_⟩, b3 _ (extW.trans hxt) (by omega)⟩
 ·exact b2 _ _ _ _ _ _ h7.num
 ·exact b2 _ _ _ _ _ _ h7.den
theorem q_absR_pos (h : NR w q L s A n c t B m d) (hL : L <= 1000) (hs : 0 <= q.num.sign) : Calls Tryz.prog 89 #[.agg #[.bool s, .slice A n c, .bool t, .slice B m d]] w (RetNR (q) L w) := by
 go_enter Tryz.func89, Tryz.ntmps89
 go_upto_region 1 with (fail)
 obtain ⟨W, hW, extW, bx, bz, hz⟩ := box2 w 27 27 #[.bool s, .slice A n c, .bool t, .slice B m d] #[Value.bool false, Value.slice none 0 0, Value.bool false, Value.slice none 0 0];rw [<- hW];clear hW;have x0 := bx.cell 0 (.bool s) rfl;have x1 := bx.cell 1 (.slice A n c) rfl;have x2 := bx.cell 2 (.bool t) rfl;have x3 := bx.cell 3 (.slice B m d) rfl
 go_wp2_with fail
 refine (q_SignR (h.ext extW) hL).mono ?_;rintro e V ⟨rfl, hx0⟩;replace bx := bx.ext hx0;replace bz := bz.ext hx0;replace h := h.ext (extW.trans hx0);replace extW := extW.trans hx0;clear hx0 x0 x1 x2 x3;have x0 := bx.cell 0 (.bool s) rfl;have x1 := bx.cell 1 (.slice A n c) rfl;have x2 := bx.cell 2 (.bool t) rfl;have x3 := bx.cell 3 (.slice B m d) rfl;have hxt := Ext.refl V;obtain ⟨S, hS, dS⟩ : ∃ S, q.num.sign = S /\ decide (S < 0) = false := ⟨_, rfl, decide_eq_false (by omega)⟩;rw [hS];clear hS hs;have z0 := (bz.ext hxt).cell 0 _ rfl;have z1 := (bz.ext hxt).cell 1 _ rfl;have z2 := (bz.ext hxt).cell 2 _ rfl;have z3 := (bz.ext hxt).cell 3 _ rfl;have f0 := (bz.ext hxt).frozen 0;have f1 := (bz.ext hxt).frozen 1;have f2 := (bz.ext hxt).frozen 2;have f3 := (bz.ext hxt).frozen 3
 go_wp2_with fail
 obtain ⟨b1, b2, b3, b4⟩ := fin_quad (s := s) (A := A) (n := n) (c := c) (t := t) (B := B) (m := m) (d := d) (bz.ext hxt);have r0 := b1.cell 0 (.bool s) rfl;have r1 := b1.cell 1 (.slice A n c) rfl;have r2 := b1.cell 2 (.bool t) rfl;have r3 := b1.cell 3 (.slice B m d) rfl;unfold set4 at r0 r1 r2 r3;refine bodyPost_ret (v := .agg #[.bool s, .slice A n c, .bool t, .slice B m d]) (by simp [results, Tryz.results89, go_sem, r0, r1, r2, r3]) rfl ⟨s, A, n, c, t, B, m, d, rfl, ⟨?_, ?_⟩, b3 _ (extW.trans hxt) (by omega)⟩
 ·exact b2 _ _ _ _ _ _ h.num
 ·exact b2 _ _ _ _ _ _ h.den
theorem q_absR (h : NR w q L s A n c t B m d) (hL : L <= 1000) : Calls Tryz.prog 89 #[.agg #[.bool s, .slice A n c, .bool t, .slice B m d]] w (RetNR (absQ q) L w) := by
 by_cases hs : q.num.sign < 0
 ·rw [show absQ q = -q from if_pos hs]; exact q_absR_neg h hL hs
 ·rw [show absQ q = q from if_neg hs]; exact q_absR_pos h hL (by omega)
def monicP (ts : List Rat) : List Rat := if ts = [] then [] else scaleP ts (((1 : Int) : Rat) / ts.getLastD 0)
set_option maxRecDepth 100000 in
theorem q_MonicR (h : Pol w A n c qs L) (hL : L <= 60) (hn : n <= 1000) : Calls Tryz.prog 88 #[.slice A n c] w (RetPol (monicP (trimP qs)) (L + (2 + L)) w) := by
 have Hl := Lib.hid h.len
 go_enter Tryz.func88, Tryz.ntmps88
 go_wp2_with fail
 refine (q_TrimP h (by omega) (by omega)).mono ?_;rintro e V0 ⟨A1, n1, c1, rfl, h1, hx0⟩;have hn1 : n1 <= 1000 := by have := h1.len; have := trimP_len qs; have := Hl.out; omega
 have HL := Lib.hid (show trimP qs ≠ [] -> (trimP qs).getLastD 0 ≠ 0 from fun e => trimP_last e);have hti := trimP_idem qs;obtain ⟨ts, hts⟩ : ∃ ts, trimP qs = ts := ⟨_, rfl⟩;rw [hts] at h1 HL hti;have HTS := Lib.hid hts;have HTI := Lib.hid hti;clear h hn Hl hts hti;have Hlen := Lib.hid h1.len
 by_cases hz : n1 = 0
 ·subst hz
  have e0 : ts = [] := List.length_eq_zero_iff.1 Hlen.out;have dz : (((0 : Nat) : Int) == 0) = true := rfl
  go_wp2_with fail
  go_ret
  rw [e0] at h1;exact ⟨A1, 0, c1, rfl, by rw [HTS.out, e0]; exact ⟨h1.len, h1.cap, h1.top, fun e => absurd rfl e⟩, hx0⟩
 have dz : ((n1 : Int) == 0) = false := beq_eq_false_iff_ne.2 (by omega);have hne0 : ts ≠ [] := fun e => hz (by rw [<- Hlen.out, e]; rfl)
 obtain ⟨j, hj1⟩ : ∃ j, n1 = j + 1 := ⟨n1 - 1, by omega⟩;have hj : j < ts.length := by rw [Hlen.out]; omega
 have hI : (j : Int) < (n1 : Int) := by omega
 have hJ : (n1 : Int) - 1 = (j : Int) := by omega
 have hW1 : IntKind.i64.wrap (j : Int) = (j : Int) := IntWalk.i64_in _ (by omega)
 have HNZ := Lib.hid (show ts[j] ≠ 0 by
  have := HL.out hne0;rw [List.getLastD_eq_getLast?, List.getLast?_eq_getElem?, Hlen.out, hj1, show j + 1 - 1 = j by omega, List.getElem?_eq_getElem hj] at this;exact this)
 have HV := Lib.hid (show monicP ts = trimP (scaleP ts (((1 : Int) : Rat) / ts[j])) by
  have e1 : ts.getLastD 0 = ts[j] := by
   rw [List.getLastD_eq_getLast?, List.getLast?_eq_getElem?, Hlen.out, hj1, show j + 1 - 1 = j by omega, List.getElem?_eq_getElem hj]; rfl
  have h0 := HNZ.out;unfold monicP;rw [if_neg hne0, e1];generalize ts[j] = x at h0
  rw [scaleP_trim (show ((1 : Int) : Rat) / x ≠ 0 from fun e => by
   have e2 : ((1 : Int) : Rat) / x * x = 1 := by
    show (1 : Rat) / x * x = 1
    grind
   rw [e] at e2
   grind), HTI.out])
 obtain ⟨b, off, rfl, hr⟩ := h1.at_ hne0;obtain ⟨sx, Ax, nx, cx, tx, Bx, mx, dx, e0, e1, e2, e3, hx⟩ := hr.at_ j hj;have e0' : V0.cell? ⟨b, off + j * 4, none⟩ = some (.bool sx) := by rw [Nat.mul_comm]; exact e0
 have e1' : V0.cell? ⟨b, off + j * 4 + 1, none⟩ = some (.slice Ax nx cx) := by rw [Nat.mul_comm]; exact e1
 have e2' : V0.cell? ⟨b, off + j * 4 + 2, none⟩ = some (.bool tx) := by rw [Nat.mul_comm]; exact e2
 have e3' : V0.cell? ⟨b, off + j * 4 + 3, none⟩ = some (.slice Bx mx dx) := by rw [Nat.mul_comm]; exact e3
 clear e0 e1 e2 e3 hz hj1;generalize ts[j] = q at hx HNZ HV
 go_upto_region 4 with (fail)
 have ES0 := Ext.refl V0;refine wp_region_held_drew (S := Ext V0) (by kernel_rfl) ES0.drew (fun ES => ?_);clear ES0;refine Late.s0 ES (fun hAl hQ => ?_);refine Late.t 0 9 ?v_0 hQ ?y_0 ?_
 case y_0 => intro w' hSw;have q0 := hSw.cellv e0';have q1 := hSw.cellv e1';have q2 := hSw.cellv e2';have q3 := hSw.cellv e3';go_simp;try rfl
 try simp only [zP]
 refine Late.t 2 11 ?v_1 hQ ?y_1 ?_
 case y_1 => intro w' hSw;have q0 := hSw.cellv e0';have q1 := hSw.cellv e1';have q2 := hSw.cellv e2';have q3 := hSw.cellv e3';go_simp;try rfl
 try simp only [zP]
 refine Late.t 3 12 ?v_2 hQ ?y_2 ?_
 case y_2 => intro w' hSw;have q0 := hSw.cellv e0';have q1 := hSw.cellv e1';have q2 := hSw.cellv e2';have q3 := hSw.cellv e3';go_simp;try rfl
 try simp only [zP]
 refine Late.t 4 13 ?v_3 hQ ?y_3 ?_
 case y_3 => intro w' hSw;have q0 := hSw.cellv e0';have q1 := hSw.cellv e1';have q2 := hSw.cellv e2';have q3 := hSw.cellv e3';go_simp;try rfl
 try simp only [zP]
 refine Late.t 5 14 ?v_4 hQ ?y_4 ?_
 case y_4 => intro w' hSw;have q0 := hSw.cellv e0';have q1 := hSw.cellv e1';have q2 := hSw.cellv e2';have q3 := hSw.cellv e3';go_simp;try rfl
 try simp only [zP]
 refine Late.t 6 15 ?v_5 hQ ?y_5 ?_
 case y_5 => intro w' hSw;have q0 := hSw.cellv e0';have q1 := hSw.cellv e1';have q2 := hSw.cellv e2';have q3 := hSw.cellv e3';go_simp;try rfl
 try simp only [zP]
 refine Late.t 7 16 ?v_6 hQ ?y_6 ?_
 case y_6 => intro w' hSw;have q0 := hSw.cellv e0';have q1 := hSw.cellv e1';have q2 := hSw.cellv e2';have q3 := hSw.cellv e3';go_simp;try rfl
 try simp only [zP]
 refine Late.cl (i := 1) rfl hAl hQ (fun w1 e1 E1 K hK => ?_);go_simp
 (go_at_call 57; refine (q_FromIntR 1 (by omega) (by omega)).mono ?_; rintro e wa ⟨s5, A5, n5, c5, t5, B5, m5, d5, rfl, h5, hx1⟩)
 refine hK.out _ _ hx1 ?_;clear hK K
 try simp only [zP]
 refine Late.cl (i := 8) rfl hAl hQ (fun w8 e8 E8 K hK => ?_);go_simp
 (go_at_call 79; refine (q_quoR (h5.ext e8) (hx.ext E8) (by omega) (by omega) HNZ.out).mono ?_; rintro e wb ⟨s9, A9, n9, c9, t9, B9, m9, d9, rfl, h9, hx2⟩)
 refine hK.out _ _ hx2 ?_;clear hK K
 try simp only [zP]
 refine Late.cl (i := 9) rfl hAl hQ (fun w9 e9 E9 K hK => ?_);go_simp
 (go_at_call 23; refine (q_ScaleP (h1.ext E9) (h9.ext e9) (by omega) (by omega) (by omega)).mono ?_; rintro e wc ⟨A7, n7, c7, rfl, h7, hx3⟩)
 refine hK.out _ _ hx3 ?_;clear hK K
 try simp only [zP]
 refine Late.t 10 2 ?v_7 hQ ?y_7 ?_
 case y_7 => intro w' hSw;go_simp;try rfl
 try simp only [zP]
 refine Late.d0 (fun wz ez Ez => ?_);clear hAl hQ ES
 go_wp2_with fail
 go_ret
 exact ⟨A7, n7, c7, rfl, by rw [HTS.out, HV.out]; exact h7.ext ez, hx0.trans Ez⟩
set_option maxRecDepth 100000 in
theorem q_BoundM (h : Pol w A n c qs L) (hL : L <= 60) (hn : n <= 1000) : Calls Tryz.prog 42 #[.slice A n c] w (RetNR (if (monicP (trimP qs)).length < 2 then 0 else maxA ((monicP (trimP qs)).take ((monicP (trimP qs)).length - 1)) + ((1 : Int) : Rat)) (L + (2 + L) + 2 + 1) w) := by
 have hml : (monicP (trimP qs)).length <= n := by
  have h1 := trimP_len qs;have h2 := h.len;unfold monicP
  split
  ·exact Nat.zero_le _
  ·unfold scaleP; rw [List.length_map]; omega
 obtain ⟨r, hr⟩ : ∃ r, (if (monicP (trimP qs)).length < 2 then (0 : Rat) else maxA ((monicP (trimP qs)).take ((monicP (trimP qs)).length - 1)) + ((1 : Int) : Rat)) = r := ⟨_, rfl⟩;rw [hr];have HRR := Lib.hid hr;clear hr
 go_enter Tryz.func42, Tryz.ntmps42
 go_upto_region 1 with (fail)
 obtain ⟨W, hW, extW, bz, hz⟩ := box1 w 27 #[Value.bool false, Value.slice none 0 0, Value.bool false, Value.slice none 0 0];rw [<- hW];clear hW hz
 go_wp2_with fail
 refine (q_MonicR (h.ext extW) hL hn).mono ?_;rintro e V ⟨A1, n1, c1, rfl, hp, hx0⟩;obtain ⟨ts, hts⟩ : ∃ ts, monicP (trimP qs) = ts := ⟨_, rfl⟩;rw [hts] at hp hml;have HTS := Lib.hid hts;have HN1 := Lib.hid hp.len;replace bz := bz.ext hx0;replace extW := extW.trans hx0;have hn1 : n1 <= 1000 := by have := HN1.out; omega
 clear hts hx0 h hn hml
 by_cases hl2 : n1 < 2
 ·have HR0 := Lib.hid (show (if ts.length < 2 then (0 : Rat) else maxA (ts.take (ts.length - 1)) + ((1 : Int) : Rat)) = 0 from if_pos (by rw [HN1.out]; exact hl2))
  have hI : (n1 : Int) < 2 := by omega
  go_wp2_with fail
  refine q_zeroR.mono ?_;rintro e V2 ⟨sg, Ag, ng, cg, tg, Bg, mg, dg, rfl, hg, hx1⟩;have z0 := (bz.ext hx1).cell 0 _ rfl;have z1 := (bz.ext hx1).cell 1 _ rfl;have z2 := (bz.ext hx1).cell 2 _ rfl;have z3 := (bz.ext hx1).cell 3 _ rfl;have f0 := (bz.ext hx1).frozen 0;have f1 := (bz.ext hx1).frozen 1;have f2 := (bz.ext hx1).frozen 2;have f3 := (bz.ext hx1).frozen 3
  go_wp2_with fail
  obtain ⟨b1, b2, b3, b4⟩ := fin_quad (s := sg) (A := Ag) (n := ng) (c := cg) (t := tg) (B := Bg) (m := mg) (d := dg) (bz.ext hx1);have r0 := b1.cell 0 (.bool sg) rfl;have r1 := b1.cell 1 (.slice Ag ng cg) rfl;have r2 := b1.cell 2 (.bool tg) rfl;have r3 := b1.cell 3 (.slice Bg mg dg) rfl;unfold set4 at r0 r1 r2 r3;refine bodyPost_ret (v := .agg #[.bool sg, .slice Ag ng cg, .bool tg, .slice Bg mg dg]) (by simp [results, Tryz.results42, go_sem, r0, r1, r2, r3]) rfl ⟨sg, Ag, ng, cg, tg, Bg, mg, dg, rfl, ⟨?_, ?_⟩, b3 _ (extW.trans hx1) (by omega)⟩
  ·rw [<- HRR.out, HTS.out, HR0.out]; exact (b2 _ _ _ _ _ _ hg.num).le (by omega)
  ·rw [<- HRR.out, HTS.out, HR0.out]; exact (b2 _ _ _ _ _ _ hg.den).le (by omega)
 ·have HR1 := Lib.hid (show (if ts.length < 2 then (0 : Rat) else maxA (ts.take (ts.length - 1)) + ((1 : Int) : Rat)) = maxA (ts.take (n1 - 1)) + ((1 : Int) : Rat) by rw [if_neg (by rw [HN1.out]; exact hl2), HN1.out])
  have hI : (2 : Int) <= (n1 : Int) := by omega
  go_wp2_with fail
  refine q_zeroR.mono ?_;rintro e V2 ⟨sg, Ag, ng, cg, tg, Bg, mg, dg, rfl, hg, hx1⟩;replace bz := bz.ext hx1;replace hp := hp.ext hx1;replace extW := extW.trans hx1;clear hx1
  go_upto_region 5 with (fail)
  have ha := (Ext.refl V2).alloc (.cells #[.bool sg, .slice Ag ng cg, .bool tg, .slice Bg mg dg] 27);have hblt := bz.lt;refine at_world (fun V => Ext V2 V /\ Box V V2.heap.size 27 #[.bool sg, .slice Ag ng cg, .bool tg, .slice Bg mg dg] /\ NR V 0 (L + (2 + L)) sg Ag ng cg tg Bg mg dg) ⟨ha, Box.new V2 _ _, (hg.ext ha).le (by omega)⟩ ?_;clear ha hg;obtain ⟨g3, hg3⟩ : ∃ g, V2.heap.size = g := ⟨_, rfl⟩;rw [hg3] at hblt ⊢;have hsz : V2.heap.size <= g3 := Nat.le_of_eq hg3;clear hg3;rintro V ⟨ext2, b3, hg⟩
  go_wp2_with fail
  go_loopw [4] (fun v wr => ∃ (k : Nat) (s' : Bool) (A' : Option Addr) (n' c' : Nat) (t' : Bool) (B' : Option Addr) (m' d' : Nat), k <= n1 - 1 /\ v = .int .i64 (k : Int) /\ Ext V2 wr /\ Box wr g3 27 #[.bool s', .slice A' n' c', .bool t', .slice B' m' d'] /\ NR wr (maxA (ts.take k)) (L + (2 + L)) s' A' n' c' t' B' m' d') (fun v _ => n1 - 1 - (intOf v).toNat)
  case atStart => exact ⟨0, sg, Ag, ng, cg, tg, Bg, mg, dg, Nat.zero_le _, rfl, ext2, b3, hg⟩
  case round =>
   clear ext2 b3 hg;obtain ⟨k, sg, Ag, ng, cg, tg, Bg, mg, dg, hk, rfl, ext, b3, hg⟩ := hrel
   by_cases hlt : k < n1 - 1
   ·have hj : k < ts.length := by rw [HN1.out]; omega
    have hkN : (k : Int) < (n1 : Int) := by omega
    have hkI : (k : Int) + 1 < (n1 : Int) := by omega
    obtain ⟨b, off, rfl, hr⟩ := hp.at_ (fun e => by rw [e] at hj; exact absurd hj (Nat.not_lt_zero _));obtain ⟨sx, Ax, nx, cx, tx, Bx, mx, dx, e0, e1, e2, e3, hx⟩ := (hr.ext ext).at_ k hj;have e0' : wr.cell? ⟨b, off + k * 4, none⟩ = some (.bool sx) := by rw [Nat.mul_comm]; exact e0
    have e1' : wr.cell? ⟨b, off + k * 4 + 1, none⟩ = some (.slice Ax nx cx) := by rw [Nat.mul_comm]; exact e1
    have e2' : wr.cell? ⟨b, off + k * 4 + 2, none⟩ = some (.bool tx) := by rw [Nat.mul_comm]; exact e2
    have e3' : wr.cell? ⟨b, off + k * 4 + 3, none⟩ = some (.slice Bx mx dx) := by rw [Nat.mul_comm]; exact e3
    clear e0 e1 e2 e3;have HT := Lib.hid (show maxA (ts.take (k + 1)) = if 0 < ratCmp (absQ ts[k]) (maxA (ts.take k)) then absQ ts[k] else maxA (ts.take k) by rw [List.take_succ_eq_append_getElem hj, maxA_snoc]);generalize ts[k] = q at hx HT;generalize maxA (ts.take k) = gv at hg HT;obtain ⟨S, hS⟩ : ∃ S, ratCmp (absQ q) gv = S := ⟨_, rfl⟩
    go_upto_region 8 with (fail)
    have ES0 := Ext.refl wr;refine wp_region_held_drew (S := Ext wr) (by kernel_rfl) ES0.drew (fun ES => ?_);clear ES0;refine Late.s0 ES (fun hAl hQ => ?_);refine Late.t 0 19 ?v_0 hQ ?y_0 ?_
    case y_0 => intro w' hSw;have q0 := hSw.cellv e0';have q1 := hSw.cellv e1';have q2 := hSw.cellv e2';have q3 := hSw.cellv e3';go_simp;try rfl
    try simp only [zP]
    refine Late.t 1 20 ?v_1 hQ ?y_1 ?_
    case y_1 => intro w' hSw;have q0 := hSw.cellv e0';have q1 := hSw.cellv e1';have q2 := hSw.cellv e2';have q3 := hSw.cellv e3';go_simp;try rfl
    try simp only [zP]
    refine Late.t 2 21 ?v_2 hQ ?y_2 ?_
    case y_2 => intro w' hSw;have q0 := hSw.cellv e0';have q1 := hSw.cellv e1';have q2 := hSw.cellv e2';have q3 := hSw.cellv e3';go_simp;try rfl
    try simp only [zP]
    refine Late.t 3 22 ?v_3 hQ ?y_3 ?_
    case y_3 => intro w' hSw;have q0 := hSw.cellv e0';have q1 := hSw.cellv e1';have q2 := hSw.cellv e2';have q3 := hSw.cellv e3';have k0 := (b3.ext hSw).c4;go_simp;try rfl
    try simp only [zP]
    refine Late.t 5 24 ?v_4 hQ ?y_4 ?_
    case y_4 => intro w' hSw;have q0 := hSw.cellv e0';have q1 := hSw.cellv e1';have q2 := hSw.cellv e2';have q3 := hSw.cellv e3';have k0 := (b3.ext hSw).c4;go_simp;try rfl
    try simp only [zP]
    refine Late.cl (i := 4) rfl hAl hQ (fun w4 e4 E4 K hK => ?_);go_simp
    (go_at_call 89; refine (q_absR (hx.ext E4) (by omega)).mono ?_; rintro e wa ⟨s5, A5, n5, c5, t5, B5, m5, d5, rfl, h5, hx1⟩)
    refine hK.out _ _ hx1 ?_;clear hK K
    try simp only [zP]
    refine Late.cl (i := 6) rfl hAl hQ (fun w6 e6 E6 K hK => ?_);go_simp
    (go_at_call 31; refine (q_CmpR (h5.ext e6) (hg.ext E6) (by omega) (by omega)).mono ?_; rintro e wb ⟨rfl, hx2⟩; rw [hS])
    refine hK.out _ _ hx2 ?_;clear hK K
    try simp only [zP]
    refine Late.t 7 26 ?v_5 hQ ?y_5 ?_
    case y_5 => intro w' hSw;go_simp;try rfl
    try simp only [zP]
    refine Late.d0 (fun wz ez Ez => ?_);clear hAl hQ ES;rw [hS] at HT;clear hS h5;replace hg := hg.ext Ez;replace b3 := b3.ext Ez;replace ext := ext.trans Ez;replace hx := hx.ext Ez;replace e0' := Ez.cellv e0';replace e1' := Ez.cellv e1';replace e2' := Ez.cellv e2';replace e3' := Ez.cellv e3'
    cases hd : decide (0 < S) with
    | true =>
     have HT2 := Lib.hid (show maxA (ts.take (k + 1)) = absQ q by rw [HT.out, if_pos (of_decide_eq_true hd)])
     go_wp2_with fail
     refine (q_absR hx (by omega)).mono ?_;rintro e W6 ⟨s5, A5, n5, c5, t5, B5, m5, d5, rfl, h5, hx6⟩;replace b3 := b3.ext hx6;replace ext := ext.trans hx6;have z0 := b3.cell 0 _ rfl;have z1 := b3.cell 1 _ rfl;have z2 := b3.cell 2 _ rfl;have z3 := b3.cell 3 _ rfl;have f0 := b3.frozen 0;have f1 := b3.frozen 1;have f2 := b3.frozen 2;have f3 := b3.frozen 3
     go_wp2_with fail
     obtain ⟨q1, q2, q3, q4⟩ := fin_quad (s := s5) (A := A5) (n := n5) (c := c5) (t := t5) (B := B5) (m := m5) (d := d5) b3;unfold set4 at q1 q2 q3 q4
     go_roundw
     case rel => exact ⟨k + 1, s5, A5, n5, c5, t5, B5, m5, d5, by omega, by go_num, q3 _ ext hsz, q1, by rw [HT2.out]; exact ⟨q2 _ _ _ _ _ _ h5.num, q2 _ _ _ _ _ _ h5.den⟩⟩
     case measure => simp [intOf]; omega
    | false =>
     have HT2 := Lib.hid (show maxA (ts.take (k + 1)) = gv by rw [HT.out, if_neg (of_decide_eq_false hd)])
     go_wp2_with fail
     go_roundw
     case rel => exact ⟨k + 1, sg, Ag, ng, cg, tg, Bg, mg, dg, by omega, by go_num, ext, b3, by rw [HT2.out]; exact hg⟩
     case measure => simp [intOf]; omega
   ·have hkn : k = n1 - 1 := by omega
    have HK := Lib.hid hkn;have hkI : (n1 : Int) <= (k : Int) + 1 := by omega
    rw [<- hkn] at HR1;clear hkn;have hgl : g3 < wr.heap.size := b3.lt
    go_upto_region 10 with (fail)
    have bz := bz.ext ext;have extW := extW.trans ext;refine wpL.st 3 (fun hQ ES => ?_);refine wpL.t 0 32 ?v_6 hQ ?y_6 ES ?_
    case y_6 => intro w' hSw;have k00 := (b3.ext hSw).c4;go_simp;try rfl
    try simp only [zP]
    refine wpL.cl (i := 1) rfl (fun K hK => ?_);go_simp
    (go_at_call 57; refine (q_FromIntR 1 (by omega) (by omega)).mono ?_; rintro e wa ⟨s1, A1', n1', c1', t1, B1, m1, d1, rfl, h1, hx0⟩; have E0_10 := Ext.trans ES hx0)
    refine hK.out _ _ E0_10 ?_;clear hK K
    try simp only [zP]
    refine wpL.cl (i := 2) rfl (fun K hK => ?_);go_simp
    (go_at_call 54; refine (q_AddR (hg.ext E0_10) h1 (by omega) (by omega)).mono ?_; rintro e wb ⟨s7, A7, n7, c7, t7, B7, m7, d7, rfl, h7, hx1⟩; have E1_10 := Ext.trans E0_10 hx1)
    refine hK.out _ _ E1_10 ?_;clear hK K
    try simp only [zP]
    have z0 := (bz.ext E1_10).cell 0 _ rfl;have z1 := (bz.ext E1_10).cell 1 _ rfl;have z2 := (bz.ext E1_10).cell 2 _ rfl;have z3 := (bz.ext E1_10).cell 3 _ rfl;have f0 := (bz.ext E1_10).frozen 0;have f1 := (bz.ext E1_10).frozen 1;have f2 := (bz.ext E1_10).frozen 2;have f3 := (bz.ext E1_10).frozen 3;refine wpL.tl (i := 3) rfl (fun K hK => ?_);go_simp;refine hK.out _ _ ?_;clear hK K
    try simp only [zP]
    refine wpL.done (by kernel_rfl) ?_ _;clear hQ
    go_wp2_with fail
    obtain ⟨b1, b2, b3, b4⟩ := fin_quad (s := s7) (A := A7) (n := n7) (c := c7) (t := t7) (B := B7) (m := m7) (d := d7) (bz.ext E1_10);have r0 := b1.cell 0 (.bool s7) rfl;have r1 := b1.cell 1 (.slice A7 n7 c7) rfl;have r2 := b1.cell 2 (.bool t7) rfl;have r3 := b1.cell 3 (.slice B7 m7 d7) rfl;unfold set4 at r0 r1 r2 r3;refine bodyPost_ret (v := .agg #[.bool s7, .slice A7 n7 c7, .bool t7, .slice B7 m7 d7]) (by simp [results, Tryz.results42, go_sem, r0, r1, r2, r3]) rfl ⟨s7, A7, n7, c7, t7, B7, m7, d7, rfl, ⟨?_, ?_⟩, b3 _ (extW.trans E1_10) (by omega)⟩
    ·rw [<- HRR.out, HTS.out, HR1.out]; exact (b2 _ _ _ _ _ _ h7.num).le (by omega)
    ·rw [<- HRR.out, HTS.out, HR1.out]; exact (b2 _ _ _ _ _ _ h7.den).le (by omega)
theorem bound_same (qs : List Rat) : (if (monicP (trimP qs)).length < 2 then (0 : Rat) else maxA ((monicP (trimP qs)).take ((monicP (trimP qs)).length - 1)) + ((1 : Int) : Rat)) = if (trimP qs).length < 2 then 0 else 1 + maxA ((trimP qs).take ((trimP qs).length - 1)) / absQ ((trimP qs).getLastD 0) := by
 have hlast := trimP_last (qs := qs);generalize trimP qs = ts at hlast
 by_cases h0 : ts = []
 ·subst h0; rfl
 have hm : monicP ts = scaleP ts (((1 : Int) : Rat) / ts.getLastD 0) := by unfold monicP; rw [if_neg h0]
 have hl : (scaleP ts (((1 : Int) : Rat) / ts.getLastD 0)).length = ts.length := by unfold scaleP; exact List.length_map _
 rw [hm, hl]
 by_cases h2 : ts.length < 2
 ·rw [if_pos h2, if_pos h2]
 ·rw [if_neg h2, if_neg h2, bound_monic (hlast h0)]
  show maxA ((scaleP ts ((1 : Rat) / ts.getLastD 0)).take (ts.length - 1)) + (1 : Rat) = maxA ((scaleP ts (1 / ts.getLastD 0)).take ((scaleP ts (1 / ts.getLastD 0)).length - 1)) + 1
  have hl' : (scaleP ts ((1 : Rat) / ts.getLastD 0)).length = ts.length := hl;rw [hl']
theorem q_BoundR (h : Pol w A n c qs L) (hL : L <= 60) (hn : n <= 1000) : Calls Tryz.prog 42 #[.slice A n c] w (RetNR (if (trimP qs).length < 2 then 0 else 1 + maxA ((trimP qs).take ((trimP qs).length - 1)) / absQ ((trimP qs).getLastD 0)) (L + (2 + L) + 2 + 1) w) := by
 have := q_BoundM h hL hn
 rwa [bound_same] at this
end
section
variable {w w' : World} {z y : Int} {zs : List Int} {L M : Nat} {s t : Bool} {A B : Option Addr} {n c m d : Nat} {qs ts : List Rat}
set_option maxRecDepth 100000 in
theorem p_primitive0 (h : IPol w A n c [] L) : Calls Tryz.prog 80 #[.slice A n c] w (RetIPol [] L w) := by
 have hn0 := h.len;have hmk := mk_ints n (by simp at hn0; omega);have hN : (n : Int) <= 0 := by simp at hn0; omega
 have HL := Lib.hid hn0;clear hn0
 go_enter Tryz.func80, Tryz.ntmps80
 go_wp2_with fail
 go_loopw [11] (fun i wr => i = .int .i64 0 /\ Ext w wr) (fun _ _ => 0)
 case atStart => exact ⟨rfl, (Ext.refl w).alloc _⟩
 case round =>
  obtain ⟨rfl, ext⟩ := hrel;obtain ⟨W, hW⟩ : ∃ W, wr = W := ⟨_, rfl⟩;rw [hW] at ext ⊢;clear hW
  go_wp2_with fail
  go_loopw [35] (fun i wr => i = .int .i64 0 /\ Ext W wr) (fun _ _ => 0)
  case atStart => exact ⟨rfl, (Ext.refl W).alloc _⟩
  case round =>
   obtain ⟨rfl, ext2⟩ := hrel
   go_wp2_with fail
   go_ret
   exact ⟨_, _, _, rfl, ⟨HL.out, Nat.le_refl _, by have := HL.out; simp at this; unfold maxLen; omega, fun e => absurd rfl e⟩, ext.trans ext2⟩
theorem p_Primitive0 (h : Pol w A n c qs L) (hL : L <= 60) (hn : n <= 40) (h0 : trimI (numsP qs) = []) (hT : Tab w) : Calls Tryz.prog 37 #[.slice A n c] w (RetIPol [] 0 w) := by
 go_enter Tryz.func37, Tryz.ntmps37
 go_wp2_with fail
 refine (p_split h hL hn hT).mono ?_;rintro e V1 ⟨A1, n1, c1, s1, B1, m1, d1, rfl, hx, hdx, ext⟩;rw [h0] at hx
 go_upto_region 2 with (fail)
 refine at_world (fun V => Ext w V /\ IPol V A1 n1 c1 [] 0) ⟨ext.trans ((Ext.refl V1).alloc _), ⟨hx.len, hx.cap, hx.top, fun e => absurd rfl e⟩⟩ ?_;clear ext hx hdx;rintro V ⟨ext, hx⟩
 go_wp2_with fail
 refine (p_primitive0 hx).mono ?_;rintro e V2 ⟨A2, n2, c2, rfl, h2, hx2⟩
 go_wp2_with fail
 go_ret
 exact ⟨A2, n2, c2, rfl, h2, ext.trans hx2⟩
theorem p_PrimAny {X : Nat} (h : Pol w A n c qs L) (hL : L <= 60) (hn : n <= 40) (hX : SizeP qs X) (hX1 : X <= 3000) (hT : Tab w) : Calls Tryz.prog 37 #[.slice A n c] w (RetIPol (primI (numsP (trimP qs))) X w) := by
 rw [<- numsP_trim]
 by_cases h0 : trimI (numsP qs) = []
 ·rw [h0]
  refine (p_Primitive0 h hL hn h0 hT).mono ?_;rintro e V ⟨A1, n1, c1, rfl, h1, hx⟩;exact ⟨A1, n1, c1, rfl, h1.leL (Nat.zero_le _), hx⟩
 ·exact p_PrimitiveP h hL hn hX hX1 h0 hT
theorem q_ValidI (h : NI w z L s A n c) (hL : L <= 100000) : Calls Tryz.prog 70 #[.agg #[.bool s, .slice A n c]] w fun e w' => e = .returned (.bool true) /\ Ext w w' := by
 obtain ⟨xs, hn, hx, hc, hcm, hi, hl⟩ := h.out
 have hv : validB s xs = true := by
  unfold validB;rw [show trimL xs = xs from hi.nrm]
  cases xs with
  | nil => rw [hi.sgn rfl]; rfl
  | cons x l => simp
 refine (ref_Valid hn hx hc hcm (by omega)).mono ?_;rintro e V ⟨rfl, hxt⟩;exact ⟨by rw [hv], hxt⟩
set_option maxRecDepth 100000 in
theorem same_I (h : IPol w A n c zs L) (h' : IPol w B n d zs M) (hL : L <= 40000) (hM : M <= 40000) (hn : n <= 1000) : Calls Tryz.prog 39 #[.slice A n c, .slice B n d] w fun e w' => e = .returned (.bool true) /\ Ext w w' := by
 have HL := Lib.hid h.len;have hnn : ((n : Int) != (n : Int)) = false := by simp
 go_enter Tryz.func39, Tryz.ntmps39
 go_wp2_with fail
 go_loopw [13] (fun i wr => ∃ k : Nat, k <= n /\ i = .int .i64 (k : Int) /\ Ext w wr) (fun i _ => n - (intOf i).toNat)
 case atStart => exact ⟨0, Nat.zero_le _, rfl, Ext.refl w⟩
 case round =>
  obtain ⟨k, hk, rfl, extr⟩ := hrel
  by_cases hlt : k < n
  ·have hkI : (k : Int) < (n : Int) := by omega
   have hkl : k < zs.length := by rw [HL.out]; exact hlt
   obtain ⟨b, off, hA, hr⟩ := (h.ext extr).at_ (fun e => by rw [e] at hkl; exact absurd hkl (Nat.not_lt_zero _));obtain ⟨b', off', hB, hr'⟩ := (h'.ext extr).at_ (fun e => by rw [e] at hkl; exact absurd hkl (Nat.not_lt_zero _));subst hA hB;obtain ⟨s9, A9, n9, c9, z0', z1', hz⟩ := hr.at_ k hkl;obtain ⟨s8, A8, n8, c8, y0', y1', hy⟩ := hr'.at_ k hkl;have z0 : wr.cell? ⟨b, off + k * 2, none⟩ = some (.bool s9) := by rw [Nat.mul_comm]; exact z0'
   have z1 : wr.cell? ⟨b, off + k * 2 + 1, none⟩ = some (.slice A9 n9 c9) := by rw [Nat.mul_comm]; exact z1'
   have y0 : wr.cell? ⟨b', off' + k * 2, none⟩ = some (.bool s8) := by rw [Nat.mul_comm]; exact y0'
   have y1 : wr.cell? ⟨b', off' + k * 2 + 1, none⟩ = some (.slice A8 n8 c8) := by rw [Nat.mul_comm]; exact y1'
   clear z0' z1' y0' y1'
   go_upto_region 6 with (fail)
   have ES0 := Ext.refl wr;refine wp_region_held_drew (S := Ext wr) (by kernel_rfl) ES0.drew (fun ES => ?_);clear ES0;refine Late.s0 ES (fun hAl hQ => ?_);refine Late.t 0 16 ?v_0 hQ ?y_0 ?_
   case y_0 => intro w' hSw;have l0 := hSw.cellv z0;have l1 := hSw.cellv z1;have l3 := hSw.cellv y0;have l4 := hSw.cellv y1;go_simp;try rfl
   try simp only [zP]
   refine Late.t 1 17 ?v_1 hQ ?y_1 ?_
   case y_1 => intro w' hSw;have l0 := hSw.cellv z0;have l1 := hSw.cellv z1;have l3 := hSw.cellv y0;have l4 := hSw.cellv y1;go_simp;try rfl
   try simp only [zP]
   refine Late.t 2 18 ?v_2 hQ ?y_2 ?_
   case y_2 => intro w' hSw;have l0 := hSw.cellv z0;have l1 := hSw.cellv z1;have l3 := hSw.cellv y0;have l4 := hSw.cellv y1;go_simp;try rfl
   try simp only [zP]
   refine Late.t 3 19 ?v_3 hQ ?y_3 ?_
   case y_3 => intro w' hSw;have l0 := hSw.cellv z0;have l1 := hSw.cellv z1;have l3 := hSw.cellv y0;have l4 := hSw.cellv y1;go_simp;try rfl
   try simp only [zP]
   refine Late.cl (i := 4) rfl hAl hQ (fun w4 e4 E4 K hK => ?_);go_simp
   (go_at_call 70; refine (q_ValidI (hz.ext E4) (by omega)).mono ?_; rintro e wa ⟨rfl, hx0⟩)
   refine hK.out _ _ hx0 ?_;clear hK K
   try simp only [zP]
   refine Late.t 5 21 ?v_4 hQ ?y_4 ?_
   case y_4 => intro w' hSw;have l0 := hSw.cellv z0;have l1 := hSw.cellv z1;have l3 := hSw.cellv y0;have l4 := hSw.cellv y1;go_simp;try rfl
   try simp only [zP]
   refine Late.t 6 22 ?v_5 hQ ?y_5 ?_
   case y_5 => intro w' hSw;have l0 := hSw.cellv z0;have l1 := hSw.cellv z1;have l3 := hSw.cellv y0;have l4 := hSw.cellv y1;go_simp;try rfl
   try simp only [zP]
   refine Late.t 7 23 ?v_6 hQ ?y_6 ?_
   case y_6 => intro w' hSw;have l0 := hSw.cellv z0;have l1 := hSw.cellv z1;have l3 := hSw.cellv y0;have l4 := hSw.cellv y1;go_simp;try rfl
   try simp only [zP]
   refine Late.t 8 24 ?v_7 hQ ?y_7 ?_
   case y_7 => intro w' hSw;have l0 := hSw.cellv z0;have l1 := hSw.cellv z1;have l3 := hSw.cellv y0;have l4 := hSw.cellv y1;go_simp;try rfl
   try simp only [zP]
   refine Late.t 9 25 ?v_8 hQ ?y_8 ?_
   case y_8 => intro w' hSw;have l0 := hSw.cellv z0;have l1 := hSw.cellv z1;have l3 := hSw.cellv y0;have l4 := hSw.cellv y1;go_simp;try rfl
   try simp only [zP]
   refine Late.t 10 26 ?v_9 hQ ?y_9 ?_
   case y_9 => intro w' hSw;have l0 := hSw.cellv z0;have l1 := hSw.cellv z1;have l3 := hSw.cellv y0;have l4 := hSw.cellv y1;go_simp;try rfl
   try simp only [zP]
   refine Late.t 11 27 ?v_a hQ ?y_a ?_
   case y_a => intro w' hSw;have l0 := hSw.cellv z0;have l1 := hSw.cellv z1;have l3 := hSw.cellv y0;have l4 := hSw.cellv y1;go_simp;try rfl
   try simp only [zP]
   refine Late.t 12 28 ?v_b hQ ?y_b ?_
   case y_b => intro w' hSw;have l0 := hSw.cellv z0;have l1 := hSw.cellv z1;have l3 := hSw.cellv y0;have l4 := hSw.cellv y1;go_simp;try rfl
   try simp only [zP]
   refine Late.t 13 29 ?v_c hQ ?y_c ?_
   case y_c => intro w' hSw;have l0 := hSw.cellv z0;have l1 := hSw.cellv z1;have l3 := hSw.cellv y0;have l4 := hSw.cellv y1;go_simp;try rfl
   try simp only [zP]
   refine Late.t 14 30 ?v_d hQ ?y_d ?_
   case y_d => intro w' hSw;have l0 := hSw.cellv z0;have l1 := hSw.cellv z1;have l3 := hSw.cellv y0;have l4 := hSw.cellv y1;go_simp;try rfl
   try simp only [zP]
   refine Late.cl (i := 15) rfl hAl hQ (fun w15 e15 E15 K hK => ?_);go_simp
   (go_at_call 74; refine (q_Cmp (hz.ext E15) (hy.ext E15) (by omega) (by omega)).mono ?_; rintro e wb ⟨rfl, hx1⟩; rw [Int.sub_self, Int.sign_zero])
   refine hK.out _ _ hx1 ?_;clear hK K
   try simp only [zP]
   refine Late.t 16 32 ?v_e hQ ?y_e ?_
   case y_e => intro w' hSw;go_simp;try rfl
   try simp only [zP]
   refine Late.t 17 33 ?v_f hQ ?y_f ?_
   case y_f => intro w' hSw;go_simp;try rfl
   try simp only [zP]
   refine Late.d0 (fun wz ez Ez => ?_);clear hAl hQ ES;have hxz := extr.trans Ez
   go_wp2_with fail
   go_roundw
   case rel => exact ⟨k + 1, by omega, by go_num, hxz⟩
   case measure => simp [intOf]; omega
  ·have hkn : k = n := by omega
   subst hkn;have hkI : (k : Int) <= (k : Int) := Int.le_refl _
   go_wp2_with fail
   go_ret
   exact ⟨rfl, extr⟩
theorem same_II {zs' : List Int} {m : Nat} (h : IPol w A n c zs L) (h' : IPol w B m d zs' M) (he : zs = zs') (hL : L <= 40000) (hM : M <= 40000) (hn : n <= 1000) : Calls Tryz.prog 39 #[.slice A n c, .slice B m d] w fun e w' => e = .returned (.bool true) /\ Ext w w' := by
 subst he;have : m = n := by rw [<- h'.len, <- h.len]
 subst this;exact same_I h h' hL hM hn
end
def boundQ (ts : List Rat) : Rat := if ts.length < 2 then 0 else 1 + maxA (ts.take (ts.length - 1)) / absQ (ts.getLastD 0)
section
variable {w : World} {A B : Option Addr} {n m c d L M : Nat} {qs ps : List Rat}
theorem p_BoundQ (h : Pol w A n c qs L) (hL : L <= 30) (hL2 : 2 <= L) (hn : n <= 1000) (hT : Tab w) : Calls Tryz.prog 41 #[.slice A n c] w (RetNR (boundQ (trimP qs)) (2 + (L + L) + 1) w) := p_BoundP h hL hL2 hn hT
theorem q_BoundQ (h : Pol w A n c qs L) (hL : L <= 60) (hn : n <= 1000) : Calls Tryz.prog 42 #[.slice A n c] w (RetNR (boundQ (trimP qs)) (L + (2 + L) + 2 + 1) w) := q_BoundR h hL hn
end
theorem Bnd.scale {qs : List Rat} {x : Rat} {N D M E : Nat} (h : Bnd qs N D) (k : BndR x M E) : Bnd (trimP (scaleP qs x)) (N * M) (D * E) := Bnd.trim fun q hq => by
 unfold scaleP at hq;obtain ⟨p, hp, rfl⟩ := List.mem_map.1 hq;exact (h p hp).mul k
theorem Bnd.few4 {qs : List Rat} (h : Bnd qs (B120 * B120) (B120 * B120)) (hl : qs.length <= 8) : SizeP qs 60 := sizeP_of h (by decide +kernel) hl (by decide +kernel) (by decide +kernel)
set_option maxRecDepth 100000 in
theorem prim4_no0 {w : World} {Aa : Option Addr} {na ca : Nat} {rs : List RawR} {s t : Bool} {A B : Option Addr} {n c m d : Nat} {xs ys : List Nat} (hA : Awake4) (hT : Tab w) (h0 : RawP w Aa na ca rs) (_hr : RI w A n c xs) (_hk : RI w B m d ys) (hf0 : (smallB rs 8) = false) :
  Calls Tryz.prog 8 #[.slice Aa na ca, .agg #[.bool s, .slice A n c, .bool t, .slice B m d]] w fun e w' => e = .returned (.bool true) /\ Ext w w' := by
 have HF0 := Lib.hid hf0;clear hf0;have HA := Lib.hid hA;clear hA
 go_enter Tryz.func8, Tryz.ntmps8
 go_upto_region 1 with (fail)
 obtain ⟨W0, hW, extW, bx, hzz⟩ := box1 w 27 #[.bool s, .slice A n c, .bool t, .slice B m d];rw [<- hW];clear hW hzz
 go_wp2_with fail
 refine (HA.out _ (hT.ext extW)).mono ?_;rintro e W ⟨rfl, hxt⟩;replace bx := bx.ext hxt;replace extW := extW.trans hxt;clear hxt;have e1 := (Ext.refl W).alloc (.cells #[.slice Aa na ca] 22)
 go_wp2_with fail
 refine (few1_P (Box.new _ _ _) (h0.ext (extW.trans e1))).mono ?_;rintro e W1 ⟨rfl, hxt⟩;rw [HF0.out];replace extW := extW.trans (e1.trans hxt);replace bx := bx.ext (e1.trans hxt);clear e1 hxt
 go_wp2_with fail
 go_ret
 exact ⟨rfl, extW⟩
set_option maxRecDepth 100000 in
theorem prim4_no1 {w : World} {Aa : Option Addr} {na ca : Nat} {rs : List RawR} {s t : Bool} {A B : Option Addr} {n c m d : Nat} {xs ys : List Nat} (hA : Awake4) (hT : Tab w) (h0 : RawP w Aa na ca rs) (hr : RI w A n c xs) (hk : RI w B m d ys) (hf0 : (smallB rs 8) = true) (hf1 : shortB s xs t ys = false) :
  Calls Tryz.prog 8 #[.slice Aa na ca, .agg #[.bool s, .slice A n c, .bool t, .slice B m d]] w fun e w' => e = .returned (.bool true) /\ Ext w w' := by
 have HF0 := Lib.hid hf0;have HF1 := Lib.hid hf1;clear hf0 hf1;have HA := Lib.hid hA;clear hA
 go_enter Tryz.func8, Tryz.ntmps8
 go_upto_region 1 with (fail)
 obtain ⟨W0, hW, extW, bx, hzz⟩ := box1 w 27 #[.bool s, .slice A n c, .bool t, .slice B m d];rw [<- hW];clear hW hzz
 go_wp2_with fail
 refine (HA.out _ (hT.ext extW)).mono ?_;rintro e W ⟨rfl, hxt⟩;replace bx := bx.ext hxt;replace extW := extW.trans hxt;clear hxt;have e1 := (Ext.refl W).alloc (.cells #[.slice Aa na ca] 22)
 go_wp2_with fail
 refine (few1_P (Box.new _ _ _) (h0.ext (extW.trans e1))).mono ?_;rintro e W1 ⟨rfl, hxt⟩;rw [HF0.out];replace extW := extW.trans (e1.trans hxt);replace bx := bx.ext (e1.trans hxt);clear e1 hxt;have k0 := bx.cell 0 _ rfl;have k1 := bx.cell 1 _ rfl;have k2 := bx.cell 2 _ rfl;have k3 := bx.cell 3 _ rfl
 go_wp2_with fail
 refine (q_Short (hr.ext extW) (hk.ext extW)).mono ?_;rintro e W2 ⟨rfl, hxt⟩;rw [HF1.out];replace extW := extW.trans hxt;replace bx := bx.ext hxt;clear hxt k0 k1 k2 k3
 go_wp2_with fail
 go_ret
 exact ⟨rfl, extW⟩
set_option maxRecDepth 100000 in
theorem prim4_yes {w : World} {Aa : Option Addr} {na ca : Nat} {rs : List RawR} {s t : Bool} {A B : Option Addr} {n c m d : Nat} {xs ys : List Nat} (hA : Awake4) (hT : Tab w) (h0 : RawP w Aa na ca rs) (hr : RI w A n c xs) (hk : RI w B m d ys) (hf0 : (smallB rs 8) = true) (hf1 : shortB s xs t ys = true) :
  Calls Tryz.prog 8 #[.slice Aa na ca, .agg #[.bool s, .slice A n c, .bool t, .slice B m d]] w fun e w' => e = .returned (.bool true) /\ Ext w w' := by
 have hf' := hf0;simp only [smallB, Bool.and_eq_true, decide_eq_true_eq] at hf';obtain ⟨l0, f0⟩ := hf';have p0 := h0.pol f0;have m0 : (rs.map RawR.q).length <= 8 := by rw [List.length_map]; exact l0
 have b0 := h0.bnd f0;generalize rs.map RawR.q = qa at p0 m0 b0;have n0 : na <= 8 := by rw [<- p0.len]; exact m0
 clear l0 f0;obtain ⟨v1, v2, v3⟩ := shortB_le hf1;have hx := NR.of_raw' (L := 4) hr hk v3 (by rw [<- hr.len]; exact v1) (by rw [<- hk.len]; exact v2);have bxq := short_bnd (s := s) (t := t) hr hk hf1;generalize rawQ s xs t ys = x at hx bxq;clear v1 v2 v3;have HF0 := Lib.hid hf0;have HF1 := Lib.hid hf1;have HA := Lib.hid hA;clear hA
 go_enter Tryz.func8, Tryz.ntmps8
 go_upto_region 1 with (fail)
 obtain ⟨W0, hW, extW, bx, hzz⟩ := box1 w 27 #[.bool s, .slice A n c, .bool t, .slice B m d];rw [<- hW];clear hW hzz
 go_wp2_with fail
 refine (HA.out _ (hT.ext extW)).mono ?_;rintro e W ⟨rfl, hxt⟩;replace bx := bx.ext hxt;replace extW := extW.trans hxt;clear hxt;have e1 := (Ext.refl W).alloc (.cells #[.slice Aa na ca] 22)
 go_wp2_with fail
 refine (few1_P (Box.new _ _ _) (h0.ext (extW.trans e1))).mono ?_;rintro e W1 ⟨rfl, hxt⟩;rw [HF0.out];replace extW := extW.trans (e1.trans hxt);replace bx := bx.ext (e1.trans hxt);clear e1 hxt;have k0 := bx.cell 0 _ rfl;have k1 := bx.cell 1 _ rfl;have k2 := bx.cell 2 _ rfl;have k3 := bx.cell 3 _ rfl
 go_wp2_with fail
 refine (q_Short (hr.ext extW) (hk.ext extW)).mono ?_;rintro e W2 ⟨rfl, hxt⟩;rw [HF1.out];replace extW := extW.trans hxt;replace bx := bx.ext hxt;clear hxt k0 k1 k2 k3;replace p0 := p0.ext extW;replace hx := hx.ext extW;have S0 : SizeP qa 30 := b0.few m0;have ST : SizeP (trimP qa) 30 := b0.trim.few (Nat.le_trans (trimP_len _) m0);have T0 : (primI (numsP (trimP qa))).length <= 8 := by unfold primI; rw [List.length_map, numsP_len]; exact Nat.le_trans (trimP_len _) m0
 have T1 : (trimP (scaleP qa x)).length <= 8 := by have := trimP_len (scaleP qa x); rw [show (scaleP qa x).length = qa.length by unfold scaleP; simp] at this; omega
 have S1 : SizeP (trimP (scaleP qa x)) 60 := (b0.scale bxq).few4 T1;obtain ⟨S, hS⟩ : ∃ S, x.num.sign = S := ⟨_, rfl⟩;have E0 := Ext.refl W2
 go_wp2_with fail
 refine (own_P (p0.ext E0) (by omega)).mono ?_;rintro e wk0 ⟨A46_, n46_, c46_, rfl, o1, hx0⟩;replace bx := bx.ext hx0;have E1 := E0.trans hx0;clear E0 hx0;have u46 : n46_ <= 8 := by rw [<- o1.len]; exact m0
 go_wp2_with fail
 refine (p_PrimAny o1 (by omega) (by omega) S0 (by omega) (hT.ext (extW.trans E1))).mono ?_;rintro e wk1 ⟨A47_, n47_, c47_, rfl, x1, hx1⟩;replace bx := bx.ext hx1;replace o1 := o1.ext hx1;have E2 := E1.trans hx1;clear E1 hx1;have un47_ : n47_ <= 8 := by rw [<- x1.len]; exact T0
 go_wp2_with fail
 refine (q_PrimR (p0.ext E2) (by omega) (by omega) ST (by omega) (by omega)).mono ?_;rintro e wk2 ⟨A48_, n48_, c48_, rfl, y1, hx2⟩;replace bx := bx.ext hx2;replace o1 := o1.ext hx2;replace x1 := x1.ext hx2;have E3 := E2.trans hx2;clear E2 hx2;have un48_ : n48_ <= 8 := by rw [<- y1.len]; exact T0
 go_wp2_with fail
 refine (same_II x1 y1 rfl (by omega) (by omega) (by omega)).mono ?_;rintro e wk3 ⟨rfl, hx3⟩;replace bx := bx.ext hx3;replace o1 := o1.ext hx3;replace x1 := x1.ext hx3;replace y1 := y1.ext hx3;have E4 := E3.trans hx3;clear E3 hx3;have k0 := bx.cell 0 _ rfl;have k1 := bx.cell 1 _ rfl;have k2 := bx.cell 2 _ rfl;have k3 := bx.cell 3 _ rfl
 go_wp2_with fail
 refine (q_SignR (hx.ext E4) (by omega)).mono ?_;rintro e wk4 ⟨rfl, hx4⟩;replace bx := bx.ext hx4;replace o1 := o1.ext hx4;replace x1 := x1.ext hx4;replace y1 := y1.ext hx4;have E5 := E4.trans hx4;clear E4 hx4;rw [hS];clear k0 k1 k2 k3
 cases hb : (S == 0) with
 | false =>
  have hb2 : (S != 0) = true := by unfold bne; rw [hb]; rfl
  have hx0 : x ≠ 0 := by
   intro e;rw [e] at hS;rw [<- hS] at hb;exact absurd hb (by decide)
  clear hS;have k0 := bx.cell 0 _ rfl;have k1 := bx.cell 1 _ rfl;have k2 := bx.cell 2 _ rfl;have k3 := bx.cell 3 _ rfl
  go_wp2_with fail
  refine (q_ScaleP (p0.ext E5) (hx.ext E5) (by omega) (by omega) (by omega)).mono ?_;rintro e wk5 ⟨A49_, n49_, c49_, rfl, s1, hx5⟩;replace bx := bx.ext hx5;replace y1 := y1.ext hx5;have E6 := E5.trans hx5;clear E5 hx5;have u49 : n49_ <= 8 := by rw [<- s1.len]; exact T1
  clear k0 k1 k2 k3
  go_wp2_with fail
  refine (p_PrimAny s1 (by omega) (by omega) S1 (by omega) (hT.ext (extW.trans E6))).mono ?_;rintro e wk6 ⟨A51_, n51_, c51_, rfl, x2, hx6⟩;replace bx := bx.ext hx6;replace y1 := y1.ext hx6;replace s1 := s1.ext hx6;have E7 := E6.trans hx6;clear E6 hx6;have un51_ : n51_ <= 8 := by rw [<- x2.len]; rw [trimP_idem, prim_scale hx0]; exact T0
  go_wp2_with fail
  refine (same_II x2 y1 (by rw [trimP_idem]; exact prim_scale hx0 qa) (by omega) (by omega) (by omega)).mono ?_;rintro e wk7 ⟨rfl, hx7⟩;replace bx := bx.ext hx7;replace y1 := y1.ext hx7;replace s1 := s1.ext hx7;replace x2 := x2.ext hx7;have E8 := E7.trans hx7;clear E7 hx7
  go_wp2_with fail
  refine (own_P (p0.ext E8) (by omega)).mono ?_;rintro e wk8 ⟨A52_, n52_, c52_, rfl, o2, hx8⟩;replace bx := bx.ext hx8;have E9 := E8.trans hx8;clear E8 hx8;have u52 : n52_ <= 8 := by rw [<- o2.len]; exact m0
  go_wp2_with fail
  refine (p_BoundQ o2 (by omega) (by omega) (by omega) (hT.ext (extW.trans E9))).mono ?_;rintro e wk9 ⟨sv, Av, nv, cv, tv, Bv, mv, dv, rfl, hv, hx9⟩;replace bx := bx.ext hx9;replace o2 := o2.ext hx9;have E10 := E9.trans hx9;clear E9 hx9
  go_upto_region 9 with (fail)
  have ha := (Ext.refl wk9).alloc (.cells #[.bool sv, .slice Av nv cv, .bool tv, .slice Bv mv dv] 27);refine at_world (fun V => Ext W2 V /\ Box V wk9.heap.size 27 #[.bool sv, .slice Av nv cv, .bool tv, .slice Bv mv dv] /\ NR V (boundQ (trimP qa)) (2 + (4 + 4) + 1) sv Av nv cv tv Bv mv dv) ⟨E10.trans ha, Box.new wk9 _ _, hv.ext ha⟩ ?_;clear ha hv E10;generalize wk9.heap.size = g7;rintro V ⟨EV, b7, hv⟩;have ES0 := Ext.refl V;refine wp_region_held_drew (S := Ext V) (by kernel_rfl) ES0.drew (fun ES => ?_);clear ES0;refine Late.s0 ES (fun hAl hQ => ?_);refine Late.t 0 45 ?v_0 hQ ?y_0 ?_
  case y_0 => intro w' hSw;have k00 := (b7.ext hSw).c4;go_simp;try rfl
  try simp only [zP]
  refine Late.cl (i := 1) rfl hAl hQ (fun w1 e1 E1 K hK => ?_);go_simp
  (go_at_call 30; refine (q_ValidN (hv.ext E1) (by omega)).mono ?_; rintro e wk1 ⟨rfl, hx1⟩)
  refine hK.out _ _ hx1 ?_;clear hK K
  try simp only [zP]
  refine Late.t 2 47 ?v_1 hQ ?y_1 ?_
  case y_1 => intro w' hSw;go_simp;try rfl
  try simp only [zP]
  refine Late.t 3 48 ?v_2 hQ ?y_2 ?_
  case y_2 => intro w' hSw;have k00 := (b7.ext hSw).c4;go_simp;try rfl
  try simp only [zP]
  refine Late.t 4 49 ?v_3 hQ ?y_3 ?_
  case y_3 => intro w' hSw;go_simp;try rfl
  try simp only [zP]
  refine Late.cl (i := 5) rfl hAl hQ (fun w5 e5 E5 K hK => ?_);go_simp
  (go_at_call 42; refine (q_BoundQ (p0.ext (EV.trans E5)) (by omega) (by omega)).mono ?_; rintro e wk5 ⟨sr, Ar, nr, cr, tr, Br, mr, dr, rfl, hr, hx5⟩)
  refine hK.out _ _ hx5 ?_;clear hK K
  try simp only [zP]
  refine Late.cl (i := 6) rfl hAl hQ (fun w6 e6 E6 K hK => ?_);go_simp
  (replace hr := hr.ext e6; go_at_call 31; refine (q_CmpR (hv.ext E6) hr (by omega) (by omega)).mono ?_; rintro e wk6 ⟨rfl, hx6⟩; replace hr := hr.ext hx6; rw [ratCmp_eq.2 rfl])
  refine hK.out _ _ hx6 ?_;clear hK K
  try simp only [zP]
  refine Late.t 7 52 ?v_4 hQ ?y_4 ?_
  case y_4 => intro w' hSw;go_simp;try rfl
  try simp only [zP]
  refine Late.t 8 53 ?v_5 hQ ?y_5 ?_
  case y_5 => intro w' hSw;go_simp;try rfl
  try simp only [zP]
  refine Late.t 9 4 ?v_6 hQ ?y_6 ?_
  case y_6 => intro w' hSw;go_simp;try rfl
  try simp only [zP]
  refine Late.d0 (fun wz ez Ez => ?_);clear hAl hQ ES
  go_wp2_with fail
  go_ret
  exact ⟨rfl, extW.trans (EV.trans Ez)⟩
 | true =>
  have hb2 : (S != 0) = false := by unfold bne; rw [hb]; rfl
  clear hS
  go_wp2_with fail
  refine (own_P (p0.ext E5) (by omega)).mono ?_;rintro e wk5 ⟨A53_, n53_, c53_, rfl, o2, hx5⟩;replace bx := bx.ext hx5;have E6 := E5.trans hx5;clear E5 hx5;have u53 : n53_ <= 8 := by rw [<- o2.len]; exact m0
  go_wp2_with fail
  refine (p_BoundQ o2 (by omega) (by omega) (by omega) (hT.ext (extW.trans E6))).mono ?_;rintro e wk6 ⟨sv, Av, nv, cv, tv, Bv, mv, dv, rfl, hv, hx6⟩;replace bx := bx.ext hx6;replace o2 := o2.ext hx6;have E7 := E6.trans hx6;clear E6 hx6
  go_upto_region 9 with (fail)
  have ha := (Ext.refl wk6).alloc (.cells #[.bool sv, .slice Av nv cv, .bool tv, .slice Bv mv dv] 27);refine at_world (fun V => Ext W2 V /\ Box V wk6.heap.size 27 #[.bool sv, .slice Av nv cv, .bool tv, .slice Bv mv dv] /\ NR V (boundQ (trimP qa)) (2 + (4 + 4) + 1) sv Av nv cv tv Bv mv dv) ⟨E7.trans ha, Box.new wk6 _ _, hv.ext ha⟩ ?_;clear ha hv E7;generalize wk6.heap.size = g7;rintro V ⟨EV, b7, hv⟩;have ES0 := Ext.refl V;refine wp_region_held_drew (S := Ext V) (by kernel_rfl) ES0.drew (fun ES => ?_);clear ES0;refine Late.s0 ES (fun hAl hQ => ?_);refine Late.t 0 45 ?v_7 hQ ?y_7 ?_
  case y_7 => intro w' hSw;have k00 := (b7.ext hSw).c4;go_simp;try rfl
  try simp only [zP]
  refine Late.cl (i := 1) rfl hAl hQ (fun w1 e1 E1 K hK => ?_);go_simp
  (go_at_call 30; refine (q_ValidN (hv.ext E1) (by omega)).mono ?_; rintro e wk1 ⟨rfl, hx1⟩)
  refine hK.out _ _ hx1 ?_;clear hK K
  try simp only [zP]
  refine Late.t 2 47 ?v_8 hQ ?y_8 ?_
  case y_8 => intro w' hSw;go_simp;try rfl
  try simp only [zP]
  refine Late.t 3 48 ?v_9 hQ ?y_9 ?_
  case y_9 => intro w' hSw;have k00 := (b7.ext hSw).c4;go_simp;try rfl
  try simp only [zP]
  refine Late.t 4 49 ?v_a hQ ?y_a ?_
  case y_a => intro w' hSw;go_simp;try rfl
  try simp only [zP]
  refine Late.cl (i := 5) rfl hAl hQ (fun w5 e5 E5 K hK => ?_);go_simp
  (go_at_call 42; refine (q_BoundQ (p0.ext (EV.trans E5)) (by omega) (by omega)).mono ?_; rintro e wk5 ⟨sr, Ar, nr, cr, tr, Br, mr, dr, rfl, hr, hx5⟩)
  refine hK.out _ _ hx5 ?_;clear hK K
  try simp only [zP]
  refine Late.cl (i := 6) rfl hAl hQ (fun w6 e6 E6 K hK => ?_);go_simp
  (replace hr := hr.ext e6; go_at_call 31; refine (q_CmpR (hv.ext E6) hr (by omega) (by omega)).mono ?_; rintro e wk6 ⟨rfl, hx6⟩; replace hr := hr.ext hx6; rw [ratCmp_eq.2 rfl])
  refine hK.out _ _ hx6 ?_;clear hK K
  try simp only [zP]
  refine Late.t 7 52 ?v_b hQ ?y_b ?_
  case y_b => intro w' hSw;go_simp;try rfl
  try simp only [zP]
  refine Late.t 8 53 ?v_c hQ ?y_c ?_
  case y_c => intro w' hSw;go_simp;try rfl
  try simp only [zP]
  refine Late.t 9 4 ?v_d hQ ?y_d ?_
  case y_d => intro w' hSw;go_simp;try rfl
  try simp only [zP]
  refine Late.d0 (fun wz ez Ez => ?_);clear hAl hQ ES
  go_wp2_with fail
  go_ret
  exact ⟨rfl, extW.trans (EV.trans Ez)⟩
theorem prim4_any {w : World} {Aa : Option Addr} {na ca : Nat} {rs : List RawR} {s t : Bool} {A B : Option Addr} {n c m d : Nat} {xs ys : List Nat} (hA : Awake4) (hT : Tab w) (h0 : RawP w Aa na ca rs) (hr : RI w A n c xs) (hk : RI w B m d ys) :
  Calls Tryz.prog 8 #[.slice Aa na ca, .agg #[.bool s, .slice A n c, .bool t, .slice B m d]] w fun e w' => e = .returned (.bool true) /\ Ext w w' := by
 by_cases hf0 : (smallB rs 8) = true
 ·by_cases hf1 : shortB s xs t ys = true
  ·exact prim4_yes hA hT h0 hr hk hf0 hf1
  ·exact prim4_no1 hA hT h0 hr hk hf0 (Bool.eq_false_iff.2 hf1)
 ·exact prim4_no0 hA hT h0 hr hk (Bool.eq_false_iff.2 hf0)
set_option maxRecDepth 100000 in
theorem awake4 : Awake4 := by
 intro w hT
 go_enter Tryz.func9, Tryz.ntmps9
 have ext := Ext.refl w
 go_wp2_with fail
 refine (rats0 (Box.new _ _ _)).mono ?_;rintro e W1 ⟨Aa0, na0, ca0, rfl, a0, x1⟩;have y1 := ((Ext.refl w).alloc _).trans x1;replace hT := hT.ext y1;replace ext := ext.trans y1;have hna0 : na0 = 3 := a0.len.symm;subst hna0;clear y1;clear x1
 go_wp2_with fail
 refine (rats1 (Box.new _ _ _)).mono ?_;rintro e W2 ⟨Aa1, na1, ca1, rfl, a1, x2⟩;have y2 := ((Ext.refl W1).alloc _).trans x2;replace a0 := a0.ext y2;replace hT := hT.ext y2;replace ext := ext.trans y2;have hna1 : na1 = 2 := a1.len.symm;subst hna1;clear y2;clear x2
 go_wp2_with fail
 refine (dm_call a0 a1 hT).mono ?_;rintro e W3 ⟨Aq, nq, cq, Ar, nr, cr, rfl, hq, hr, x3⟩;replace a0 := a0.ext x3;replace a1 := a1.ext x3;replace hT := hT.ext x3;replace ext := ext.trans x3;have hnq : nq = 2 := hq.len.symm;subst hnq;have hnr : nr = 0 := hr.len.symm;subst hnr;clear hr;clear x3;clear a0;clear a1
 go_wp2_with fail
 refine (rats2 (Box.new _ _ _)).mono ?_;rintro e W4 ⟨Aa2, na2, ca2, rfl, a2, x4⟩;have y4 := ((Ext.refl W3).alloc _).trans x4;replace hq := hq.ext y4;replace hT := hT.ext y4;replace ext := ext.trans y4;have hna2 : na2 = 4 := a2.len.symm;subst hna2;clear y4;clear x4
 go_wp2_with fail
 refine (p_Squarefree_ex a2 (by omega) hT).mono ?_;rintro e W5 ⟨As, ns, cs, rfl, hs, x5⟩;replace hq := hq.ext x5;replace a2 := a2.ext x5;replace hT := hT.ext x5;replace ext := ext.trans x5;have hns : ns = 3 := hs.len.symm;subst hns;clear x5;clear a2
 go_wp2_with fail
 refine (rats3 (Box.new _ _ _)).mono ?_;rintro e W6 ⟨Aa3, na3, ca3, rfl, a3, x6⟩;have y6 := ((Ext.refl W5).alloc _).trans x6;replace hq := hq.ext y6;replace hs := hs.ext y6;replace hT := hT.ext y6;replace ext := ext.trans y6;have hna3 : na3 = 2 := a3.len.symm;subst hna3;clear y6;clear x6
 go_wp2_with fail
 refine (pr_call1 a3 hT).mono ?_;rintro e W7 ⟨Ap, np, cp, rfl, hp, x7⟩;replace hq := hq.ext x7;replace hs := hs.ext x7;replace a3 := a3.ext x7;replace hT := hT.ext x7;replace ext := ext.trans x7;have hnp : np = 2 := hp.len.symm;subst hnp;clear x7;clear a3
 go_wp2_with fail
 refine (rats4 (Box.new _ _ _)).mono ?_;rintro e W8 ⟨Aa4, na4, ca4, rfl, a4, x8⟩;have y8 := ((Ext.refl W7).alloc _).trans x8;replace hq := hq.ext y8;replace hs := hs.ext y8;replace hp := hp.ext y8;replace hT := hT.ext y8;replace ext := ext.trans y8;have hna4 : na4 = 2 := a4.len.symm;subst hna4;clear y8;clear x8
 go_wp2_with fail
 refine (pr_call2 a4 hT).mono ?_;rintro e W9 ⟨Ai, ni, ci, rfl, hi, x9⟩;replace hq := hq.ext x9;replace hs := hs.ext x9;replace hp := hp.ext x9;replace a4 := a4.ext x9;replace hT := hT.ext x9;replace ext := ext.trans x9;have hni : ni = 2 := hi.len.symm;subst hni;clear x9;clear a4
 go_wp2_with fail
 refine (rats5 (Box.new _ _ _)).mono ?_;rintro e W10 ⟨Aa5, na5, ca5, rfl, a5, x10⟩;have y10 := ((Ext.refl W9).alloc _).trans x10;replace hq := hq.ext y10;replace hs := hs.ext y10;replace hp := hp.ext y10;replace hi := hi.ext y10;replace hT := hT.ext y10;replace ext := ext.trans y10;have hna5 : na5 = 3 := a5.len.symm;subst hna5;clear y10;clear x10
 go_wp2_with fail
 refine (bo_call a5 hT).mono ?_;rintro e W11 ⟨sb, Ab, nb, cb, tb, Bb, mb, db, rfl, hb, x11⟩;replace hq := hq.ext x11;replace hs := hs.ext x11;replace hp := hp.ext x11;replace hi := hi.ext x11;replace a5 := a5.ext x11;replace hT := hT.ext x11;replace ext := ext.trans x11;clear x11;clear a5
 go_upto_region 6 with (fail)
 obtain ⟨W12, hW12, xb, b7, hzb⟩ := box1 W11 27 #[.bool sb, .slice Ab nb cb, .bool tb, .slice Bb mb db];rw [<- hW12];clear hW12 hzb;replace hq := hq.ext xb;replace hs := hs.ext xb;replace hp := hp.ext xb;replace hi := hi.ext xb;replace hb := hb.ext xb;replace hT := hT.ext xb;replace ext := ext.trans xb;clear xb;generalize W11.heap.size = g7 at b7 ⊢
 go_wp2_with fail
 refine (rats6 (Box.new _ _ _)).mono ?_;rintro e W13 ⟨Aa6, na6, ca6, rfl, a6, x13⟩;have y13 := ((Ext.refl W12).alloc _).trans x13;replace hq := hq.ext y13;replace hs := hs.ext y13;replace hp := hp.ext y13;replace hi := hi.ext y13;replace hb := hb.ext y13;replace b7 := b7.ext y13;replace hT := hT.ext y13;replace ext := ext.trans y13;have hna6 : na6 = 3 := a6.len.symm;subst hna6;clear y13;clear x13
 go_wp2_with fail
 refine (rats7 (Box.new _ _ _)).mono ?_;rintro e W14 ⟨Aa7, na7, ca7, rfl, a7, x14⟩;have y14 := ((Ext.refl W13).alloc _).trans x14;replace hq := hq.ext y14;replace hs := hs.ext y14;replace hp := hp.ext y14;replace hi := hi.ext y14;replace hb := hb.ext y14;replace b7 := b7.ext y14;replace a6 := a6.ext y14;replace hT := hT.ext y14;replace ext := ext.trans y14;have hna7 : na7 = 2 := a7.len.symm;subst hna7;clear y14;clear x14
 go_wp2_with fail
 refine (co_call a6 a7 hT).mono ?_;rintro e W15 ⟨Ac, nc, cc, rfl, hc, x15⟩;replace hq := hq.ext x15;replace hs := hs.ext x15;replace hp := hp.ext x15;replace hi := hi.ext x15;replace hb := hb.ext x15;replace b7 := b7.ext x15;replace a6 := a6.ext x15;replace a7 := a7.ext x15;replace hT := hT.ext x15;replace ext := ext.trans x15;have hnc : nc = 3 := hc.len.symm;subst hnc;clear x15;clear a6;clear a7
 go_upto_region 7 with (fail)
 have ES0 := Ext.refl W15;refine wp_region_held_drew (S := Ext W15) (by kernel_rfl) ES0.drew (fun ES => ?_);clear ES0;refine Late.s0 ES (fun hAl hQ => ?_);replace hq := hq.ext ES;replace hs := hs.ext ES;replace hp := hp.ext ES;replace hi := hi.ext ES;replace hb := hb.ext ES;replace hc := hc.ext ES;refine Late.t 0 56 ?v_0 hQ ?y_0 ?_
 case y_0 => intro w' hSw;go_simp;try rfl
 try simp only [zP]
 refine Late.t 1 57 ?v_1 hQ ?y_1 ?_
 case y_1 => intro w' hSw;go_simp;try rfl
 try simp only [zP]
 refine Late.t 2 58 ?v_2 hQ ?y_2 ?_
 case y_2 => intro w' hSw;go_simp;try rfl
 try simp only [zP]
 refine Late.t 3 59 ?v_3 hQ ?y_3 ?_
 case y_3 => intro w' hSw;go_simp;try rfl
 try simp only [zP]
 refine Late.t 4 60 ?v_4 hQ ?y_4 ?_
 case y_4 => intro w' hSw;go_simp;try rfl
 try simp only [zP]
 refine Late.t 5 61 ?v_5 hQ ?y_5 ?_
 case y_5 => intro w' hSw;go_simp;try rfl
 try simp only [zP]
 refine Late.cl (i := 6) rfl hAl hQ (fun w6 e6 E6 K hK => ?_);go_simp;replace hq := hq.ext e6;replace hs := hs.ext e6;replace hp := hp.ext e6;replace hi := hi.ext e6;replace hb := hb.ext e6;replace hc := hc.ext e6;have y6 := (Ext.refl w6).alloc (.cells #[.int .i64 (-1), .int .i64 (2), .int .i64 (1), .int .i64 (2)] 53);have bx := Box.new w6 53 #[.int .i64 (-1), .int .i64 (2), .int .i64 (1), .int .i64 (2)];replace hq := hq.ext y6;replace hs := hs.ext y6;replace hp := hp.ext y6;replace hi := hi.ext y6;replace hb := hb.ext y6;replace hc := hc.ext y6;obtain ⟨g6, hg6⟩ : ∃ g, w6.heap.size = g := ⟨_, rfl⟩;rw [hg6] at bx ⊢;clear hg6;refine hK.out _ _ y6 ?_;clear hK K
 try simp only [zP]
 refine Late.cl (i := 7) rfl hAl hQ (fun w7 e7 E7 K hK => ?_);go_simp
 (replace hq := hq.ext e7; replace hs := hs.ext e7; replace hp := hp.ext e7; replace hi := hi.ext e7; replace hb := hb.ext e7; replace hc := hc.ext e7; replace bx := bx.ext e7; go_at_call 43; refine (rats8 bx).mono ?_; rintro e wk7 ⟨Aq8, nq8, cq8, rfl, q8, hx7⟩; replace hq := hq.ext hx7; replace hs := hs.ext hx7; replace hp := hp.ext hx7; replace hi := hi.ext hx7; replace hb := hb.ext hx7; replace hc := hc.ext hx7; have hnq8 : nq8 = 2 := q8.len.symm; subst hnq8)
 refine hK.out _ _ hx7 ?_;clear hK K
 try simp only [zP]
 refine Late.cl (i := 8) rfl hAl hQ (fun w8 e8 E8 K hK => ?_);go_simp
 (replace hq := hq.ext e8; replace hs := hs.ext e8; replace hp := hp.ext e8; replace hi := hi.ext e8; replace hb := hb.ext e8; replace hc := hc.ext e8; replace q8 := q8.ext e8; go_at_call 45; refine (eq_call hq q8 rfl (by omega) (by omega) (by omega) (by omega) (by omega)).mono ?_; rintro e wk8 ⟨rfl, hx8⟩; replace hq := hq.ext hx8; replace hs := hs.ext hx8; replace hp := hp.ext hx8; replace hi := hi.ext hx8; replace hb := hb.ext hx8; replace hc := hc.ext hx8; replace q8 := q8.ext hx8)
 refine hK.out _ _ hx8 ?_;clear hK K
 try simp only [zP]
 refine Late.t 9 65 ?v_6 hQ ?y_6 ?_
 case y_6 => intro w' hSw;go_simp;try rfl
 try simp only [zP]
 refine Late.t 10 66 ?v_7 hQ ?y_7 ?_
 case y_7 => intro w' hSw;go_simp;try rfl
 try simp only [zP]
 refine Late.t 11 67 ?v_8 hQ ?y_8 ?_
 case y_8 => intro w' hSw;go_simp;try rfl
 try simp only [zP]
 refine Late.t 12 68 ?v_9 hQ ?y_9 ?_
 case y_9 => intro w' hSw;go_simp;try rfl
 try simp only [zP]
 refine Late.t 13 69 ?v_a hQ ?y_a ?_
 case y_a => intro w' hSw;go_simp;try rfl
 try simp only [zP]
 refine Late.t 14 70 ?v_b hQ ?y_b ?_
 case y_b => intro w' hSw;go_simp;try rfl
 try simp only [zP]
 refine Late.t 15 71 ?v_c hQ ?y_c ?_
 case y_c => intro w' hSw;go_simp;try rfl
 try simp only [zP]
 refine Late.t 16 72 ?v_d hQ ?y_d ?_
 case y_d => intro w' hSw;go_simp;try rfl
 try simp only [zP]
 refine Late.t 17 73 ?v_e hQ ?y_e ?_
 case y_e => intro w' hSw;go_simp;try rfl
 try simp only [zP]
 refine Late.t 18 74 ?v_f hQ ?y_f ?_
 case y_f => intro w' hSw;go_simp;try rfl
 try simp only [zP]
 refine Late.t 19 75 ?v_g hQ ?y_g ?_
 case y_g => intro w' hSw;go_simp;try rfl
 try simp only [zP]
 refine Late.cl (i := 20) rfl hAl hQ (fun w20 e20 E20 K hK => ?_);go_simp;replace hq := hq.ext e20;replace hs := hs.ext e20;replace hp := hp.ext e20;replace hi := hi.ext e20;replace hb := hb.ext e20;replace hc := hc.ext e20;have y20 := (Ext.refl w20).alloc (.cells #[.int .i64 (0), .int .i64 (1), .int .i64 (-1), .int .i64 (1), .int .i64 (1), .int .i64 (1)] 53);have bx := Box.new w20 53 #[.int .i64 (0), .int .i64 (1), .int .i64 (-1), .int .i64 (1), .int .i64 (1), .int .i64 (1)];replace hq := hq.ext y20;replace hs := hs.ext y20;replace hp := hp.ext y20;replace hi := hi.ext y20;replace hb := hb.ext y20;replace hc := hc.ext y20;obtain ⟨g20, hg20⟩ : ∃ g, w20.heap.size = g := ⟨_, rfl⟩;rw [hg20] at bx ⊢;clear hg20;refine hK.out _ _ y20 ?_;clear hK K
 try simp only [zP]
 refine Late.cl (i := 21) rfl hAl hQ (fun w21 e21 E21 K hK => ?_);go_simp
 (replace hq := hq.ext e21; replace hs := hs.ext e21; replace hp := hp.ext e21; replace hi := hi.ext e21; replace hb := hb.ext e21; replace hc := hc.ext e21; replace bx := bx.ext e21; go_at_call 43; refine (rats9 bx).mono ?_; rintro e wk21 ⟨Aq9, nq9, cq9, rfl, q9, hx21⟩; replace hq := hq.ext hx21; replace hs := hs.ext hx21; replace hp := hp.ext hx21; replace hi := hi.ext hx21; replace hb := hb.ext hx21; replace hc := hc.ext hx21; have hnq9 : nq9 = 3 := q9.len.symm; subst hnq9)
 refine hK.out _ _ hx21 ?_;clear hK K
 try simp only [zP]
 refine Late.cl (i := 22) rfl hAl hQ (fun w22 e22 E22 K hK => ?_);go_simp
 (replace hq := hq.ext e22; replace hs := hs.ext e22; replace hp := hp.ext e22; replace hi := hi.ext e22; replace hb := hb.ext e22; replace hc := hc.ext e22; replace q9 := q9.ext e22; go_at_call 45; refine (eq_call hs q9 rfl (by omega) (by omega) (by omega) (by omega) (by omega)).mono ?_; rintro e wk22 ⟨rfl, hx22⟩; replace hq := hq.ext hx22; replace hs := hs.ext hx22; replace hp := hp.ext hx22; replace hi := hi.ext hx22; replace hb := hb.ext hx22; replace hc := hc.ext hx22; replace q9 := q9.ext hx22)
 refine hK.out _ _ hx22 ?_;clear hK K
 try simp only [zP]
 refine Late.t 23 79 ?v_h hQ ?y_h ?_
 case y_h => intro w' hSw;go_simp;try rfl
 try simp only [zP]
 refine Late.t 24 80 ?v_i hQ ?y_i ?_
 case y_i => intro w' hSw;go_simp;try rfl
 try simp only [zP]
 refine Late.t 25 81 ?v_j hQ ?y_j ?_
 case y_j => intro w' hSw;go_simp;try rfl
 try simp only [zP]
 refine Late.cl (i := 26) rfl hAl hQ (fun w26 e26 E26 K hK => ?_);go_simp;replace hq := hq.ext e26;replace hs := hs.ext e26;replace hp := hp.ext e26;replace hi := hi.ext e26;replace hb := hb.ext e26;replace hc := hc.ext e26;have y26 := (Ext.refl w26).alloc (.cells #[.int .i64 (-2), .int .i64 3] 2);have bx := Box.new w26 2 #[.int .i64 (-2), .int .i64 3];replace hq := hq.ext y26;replace hs := hs.ext y26;replace hp := hp.ext y26;replace hi := hi.ext y26;replace hb := hb.ext y26;replace hc := hc.ext y26;obtain ⟨g26, hg26⟩ : ∃ g, w26.heap.size = g := ⟨_, rfl⟩;rw [hg26] at bx ⊢;clear hg26;refine hK.out _ _ y26 ?_;clear hK K
 try simp only [zP]
 refine Late.cl (i := 27) rfl hAl hQ (fun w27 e27 E27 K hK => ?_);go_simp
 (replace hq := hq.ext e27; replace hs := hs.ext e27; replace hp := hp.ext e27; replace hi := hi.ext e27; replace hb := hb.ext e27; replace hc := hc.ext e27; replace bx := bx.ext e27; go_at_call 46; refine (ints_call1 hp bx).mono ?_; rintro e wk27 ⟨rfl, hx27⟩; replace hq := hq.ext hx27; replace hs := hs.ext hx27; replace hp := hp.ext hx27; replace hi := hi.ext hx27; replace hb := hb.ext hx27; replace hc := hc.ext hx27)
 refine hK.out _ _ hx27 ?_;clear hK K
 try simp only [zP]
 refine Late.t 28 84 ?v_k hQ ?y_k ?_
 case y_k => intro w' hSw;go_simp;try rfl
 try simp only [zP]
 refine Late.t 29 85 ?v_l hQ ?y_l ?_
 case y_l => intro w' hSw;go_simp;try rfl
 try simp only [zP]
 refine Late.t 30 86 ?v_m hQ ?y_m ?_
 case y_m => intro w' hSw;go_simp;try rfl
 try simp only [zP]
 refine Late.cl (i := 31) rfl hAl hQ (fun w31 e31 E31 K hK => ?_);go_simp;replace hq := hq.ext e31;replace hs := hs.ext e31;replace hp := hp.ext e31;replace hi := hi.ext e31;replace hb := hb.ext e31;replace hc := hc.ext e31;have y31 := (Ext.refl w31).alloc (.cells #[.int .i64 0, .int .i64 1] 2);have bx := Box.new w31 2 #[.int .i64 0, .int .i64 1];replace hq := hq.ext y31;replace hs := hs.ext y31;replace hp := hp.ext y31;replace hi := hi.ext y31;replace hb := hb.ext y31;replace hc := hc.ext y31;obtain ⟨g31, hg31⟩ : ∃ g, w31.heap.size = g := ⟨_, rfl⟩;rw [hg31] at bx ⊢;clear hg31;refine hK.out _ _ y31 ?_;clear hK K
 try simp only [zP]
 refine Late.cl (i := 32) rfl hAl hQ (fun w32 e32 E32 K hK => ?_);go_simp
 (replace hq := hq.ext e32; replace hs := hs.ext e32; replace hp := hp.ext e32; replace hi := hi.ext e32; replace hb := hb.ext e32; replace hc := hc.ext e32; replace bx := bx.ext e32; go_at_call 46; refine (ints_call2 hi bx).mono ?_; rintro e wk32 ⟨rfl, hx32⟩; replace hq := hq.ext hx32; replace hs := hs.ext hx32; replace hp := hp.ext hx32; replace hi := hi.ext hx32; replace hb := hb.ext hx32; replace hc := hc.ext hx32)
 refine hK.out _ _ hx32 ?_;clear hK K
 try simp only [zP]
 refine Late.t 33 89 ?v_n hQ ?y_n ?_
 case y_n => intro w' hSw;go_simp;try rfl
 try simp only [zP]
 refine Late.t 34 90 ?v_o hQ ?y_o ?_
 case y_o => intro w' hSw;go_simp;try rfl
 try simp only [zP]
 refine Late.t 35 91 ?v_p hQ ?y_p ?_
 case y_p => intro w' hSw;have k0 := (b7.ext hSw).c4;go_simp;try rfl
 try simp only [zP]
 refine Late.cl (i := 36) rfl hAl hQ (fun w36 e36 E36 K hK => ?_);go_simp
 (replace hq := hq.ext e36; replace hs := hs.ext e36; replace hp := hp.ext e36; replace hi := hi.ext e36; replace hb := hb.ext e36; replace hc := hc.ext e36; go_at_call 30; refine (q_ValidN hb (by omega)).mono ?_; rintro e wk36 ⟨rfl, hx36⟩; replace hq := hq.ext hx36; replace hs := hs.ext hx36; replace hp := hp.ext hx36; replace hi := hi.ext hx36; replace hb := hb.ext hx36; replace hc := hc.ext hx36)
 refine hK.out _ _ hx36 ?_;clear hK K
 try simp only [zP]
 refine Late.t 37 93 ?v_q hQ ?y_q ?_
 case y_q => intro w' hSw;go_simp;try rfl
 try simp only [zP]
 refine Late.t 38 94 ?v_r hQ ?y_r ?_
 case y_r => intro w' hSw;go_simp;try rfl
 try simp only [zP]
 refine Late.t 39 95 ?v_s hQ ?y_s ?_
 case y_s => intro w' hSw;have k0 := (b7.ext hSw).c4;go_simp;try rfl
 try simp only [zP]
 refine Late.cl (i := 40) rfl hAl hQ (fun w40 e40 E40 K hK => ?_);go_simp
 (replace hq := hq.ext e40; replace hs := hs.ext e40; replace hp := hp.ext e40; replace hi := hi.ext e40; replace hb := hb.ext e40; replace hc := hc.ext e40; go_at_call 47; refine (q_Frac 5 2 (by omega) (by omega) (by omega) (by omega)).mono ?_; rintro e wk40 ⟨s5, A5, n5, c5, t5, B5, m5, d5, rfl, h5, hx40⟩; replace hq := hq.ext hx40; replace hs := hs.ext hx40; replace hp := hp.ext hx40; replace hi := hi.ext hx40; replace hb := hb.ext hx40; replace hc := hc.ext hx40)
 refine hK.out _ _ hx40 ?_;clear hK K
 try simp only [zP]
 refine Late.cl (i := 41) rfl hAl hQ (fun w41 e41 E41 K hK => ?_);go_simp
 (replace hq := hq.ext e41; replace hs := hs.ext e41; replace hp := hp.ext e41; replace hi := hi.ext e41; replace hb := hb.ext e41; replace hc := hc.ext e41; replace h5 := h5.ext e41; go_at_call 31; refine (cm_call hb h5).mono ?_; rintro e wk41 ⟨rfl, hx41⟩; replace hq := hq.ext hx41; replace hs := hs.ext hx41; replace hp := hp.ext hx41; replace hi := hi.ext hx41; replace hb := hb.ext hx41; replace hc := hc.ext hx41; replace h5 := h5.ext hx41)
 refine hK.out _ _ hx41 ?_;clear hK K
 try simp only [zP]
 refine Late.t 42 98 ?v_t hQ ?y_t ?_
 case y_t => intro w' hSw;go_simp;try rfl
 try simp only [zP]
 refine Late.t 43 99 ?v_u hQ ?y_u ?_
 case y_u => intro w' hSw;go_simp;try rfl
 try simp only [zP]
 refine Late.t 44 100 ?v_v hQ ?y_v ?_
 case y_v => intro w' hSw;go_simp;try rfl
 try simp only [zP]
 refine Late.t 45 101 ?v_w hQ ?y_w ?_
 case y_w => intro w' hSw;go_simp;try rfl
 try simp only [zP]
 refine Late.t 46 102 ?v_x hQ ?y_x ?_
 case y_x => intro w' hSw;go_simp;try rfl
 try simp only [zP]
 refine Late.t 47 103 ?v_y hQ ?y_y ?_
 case y_y => intro w' hSw;go_simp;try rfl
 try simp only [zP]
 refine Late.t 48 104 ?v_z hQ ?y_z ?_
 case y_z => intro w' hSw;go_simp;try rfl
 try simp only [zP]
 refine Late.cl (i := 49) rfl hAl hQ (fun w49 e49 E49 K hK => ?_);go_simp;replace hq := hq.ext e49;replace hs := hs.ext e49;replace hp := hp.ext e49;replace hi := hi.ext e49;replace hb := hb.ext e49;replace hc := hc.ext e49;have y49 := (Ext.refl w49).alloc (.cells #[.int .i64 (1), .int .i64 (1), .int .i64 (2), .int .i64 (1), .int .i64 (1), .int .i64 (1)] 53);have bx := Box.new w49 53 #[.int .i64 (1), .int .i64 (1), .int .i64 (2), .int .i64 (1), .int .i64 (1), .int .i64 (1)];replace hq := hq.ext y49;replace hs := hs.ext y49;replace hp := hp.ext y49;replace hi := hi.ext y49;replace hb := hb.ext y49;replace hc := hc.ext y49;obtain ⟨g49, hg49⟩ : ∃ g, w49.heap.size = g := ⟨_, rfl⟩;rw [hg49] at bx ⊢;clear hg49;refine hK.out _ _ y49 ?_;clear hK K
 try simp only [zP]
 refine Late.cl (i := 50) rfl hAl hQ (fun w50 e50 E50 K hK => ?_);go_simp
 (replace hq := hq.ext e50; replace hs := hs.ext e50; replace hp := hp.ext e50; replace hi := hi.ext e50; replace hb := hb.ext e50; replace hc := hc.ext e50; replace bx := bx.ext e50; go_at_call 43; refine (rats10 bx).mono ?_; rintro e wk50 ⟨Aq10, nq10, cq10, rfl, q10, hx50⟩; replace hq := hq.ext hx50; replace hs := hs.ext hx50; replace hp := hp.ext hx50; replace hi := hi.ext hx50; replace hb := hb.ext hx50; replace hc := hc.ext hx50; have hnq10 : nq10 = 3 := q10.len.symm; subst hnq10)
 refine hK.out _ _ hx50 ?_;clear hK K
 try simp only [zP]
 refine Late.cl (i := 51) rfl hAl hQ (fun w51 e51 E51 K hK => ?_);go_simp
 (replace hq := hq.ext e51; replace hs := hs.ext e51; replace hp := hp.ext e51; replace hi := hi.ext e51; replace hb := hb.ext e51; replace hc := hc.ext e51; replace q10 := q10.ext e51; go_at_call 45; refine (eq_call hc q10 rfl (by omega) (by omega) (by omega) (by omega) (by omega)).mono ?_; rintro e wk51 ⟨rfl, hx51⟩; replace hq := hq.ext hx51; replace hs := hs.ext hx51; replace hp := hp.ext hx51; replace hi := hi.ext hx51; replace hb := hb.ext hx51; replace hc := hc.ext hx51; replace q10 := q10.ext hx51)
 refine hK.out _ _ hx51 ?_;clear hK K
 try simp only [zP]
 refine Late.t 52 108 ?v_10 hQ ?y_10 ?_
 case y_10 => intro w' hSw;go_simp;try rfl
 try simp only [zP]
 refine Late.t 53 0 ?v_11 hQ ?y_11 ?_
 case y_11 => intro w' hSw;go_simp;try rfl
 try simp only [zP]
 refine Late.d0 (fun wz ez Ez => ?_);clear hAl hQ ES
 go_wp2_with fail
 go_ret
 exact ⟨rfl, ext.trans Ez⟩
end
section
open Go.ChangeShapes Go.WideShapes Go.ChangeAt Go.RowKit Go.Joins
theorem Tryz.own : ownKnob Tryz.prog.godebug = none := by kernel_rfl
theorem Tryz.laidOut : laidOutB Tryz.prog = true := by kernel_rfl
theorem Tryz.cellsI : Tryz.prog.cellsOf 25 = 2 := by kernel_rfl
theorem Tryz.cellsW : Tryz.prog.cellsOf 106 = 1 := by kernel_rfl
section
variable {H : Type} {enc : TypeId × Value -> H} {W : World} {base : Nat} {held : Bool}
theorem open_words {m : Nat} {v : Value} {y : DataW H × List MemPlace} (h : DataW.trod enc Tryz.prog W base (fun _ => true) held m 23 [v] = some y) :
  ∃ A n c xs, v = .slice A n c /\ List.length xs = n /\ Rd W A xs /\ n <= c /\ c <= maxLen := by
 rcases open_ints Tryz.underlying23 Tryz.underlying106 Tryz.cellsW h with ⟨hcs, _⟩ | ⟨a, len, cap, zs, hcs, _, hl, hm, hz, _, hcell, hwf⟩
 ·injection hcs with hcs _
  subst hcs;exact ⟨none, 0, 0, [], rfl, rfl, Rd.nil _ _, Nat.le_refl _, Nat.zero_le _⟩
 ·injection hcs with hcs _
  subst hcs;simp only [if_true] at hz
  have hb : ∀ n ∈ zs, 0 <= n /\ n <= 4294967295 := by
   intro n hn;have := hwf n hn;simp [Lit.wf, IntKind.min, IntKind.max, IntKind.bits, IntKind.signed] at this;omega
  refine ⟨some a, len, cap, (zs.take len).map Int.toNat, rfl, by simp; omega, ⟨?_, ?_⟩, hl, hm⟩
  ·intro x hx
   obtain ⟨n, hn, rfl⟩ := List.mem_map.1 hx;have := hb n (List.mem_of_mem_take hn);omega
  ·intro hne
   have hpos : 0 < zs.length := by
    rcases Nat.eq_zero_or_pos zs.length with h0 | h0
    ·exfalso
     apply hne
     have : zs = [] := List.eq_nil_of_length_eq_zero h0;rw [this]; simp
    ·exact h0
   obtain ⟨b, off, spot⟩ := a;have hc0 := hcell 0 hpos
   have hspot : spot = none := by
    cases spot with
    | none => rfl
    | some q => simp [Addr.add, World.cell?] at hc0; split at hc0 <;> simp at hc0
   subst hspot;refine ⟨b, off, rfl, cell_lt (p := ⟨b, off, none⟩) (by simpa [Addr.add] using hc0), fun i hi => ?_⟩;simp only [List.length_map, List.length_take] at hi;have hc := hcell i (by omega);have e1 : (⟨b, off, none⟩ : Addr).add i = ⟨b, off + i, none⟩ := by unfold Addr.add; split <;> simp_all
   rw [e1] at hc;rw [hc];simp only [List.getElem_map, List.getElem_take];have hi2 : i < zs.length := by omega
   have e2 : zs.getD i 0 = zs[i] := by simp [List.getD, hi2]
   rw [e2];have := hb zs[i] (List.getElem_mem hi2)
   congr 2
   omega
end
theorem cellsR : Tryz.prog.cellsOf 27 = 4 := by kernel_rfl
theorem cellsB : Tryz.prog.cellsOf 4 = 1 := by kernel_rfl
theorem cellsS : Tryz.prog.cellsOf 23 = 1 := by kernel_rfl
section
variable {H : Type} {enc : TypeId × Value -> H} {W : World} {base : Nat} {held : Bool}
theorem open_intc {m : Nat} {c0 c1 : Value} {y : DataW H × List MemPlace} (h : DataW.trod enc Tryz.prog W base (fun _ => true) held m 25 [c0, c1] = some y) :
  ∃ s A n c xs, c0 = .bool s /\ c1 = .slice A n c /\ RI W A n c xs := by
 obtain ⟨y0, y1, k, _, _, h0, h1⟩ := trod_struct2 Tryz.underlying25 h;rw [cellsB] at h0;rw [cellsS] at h1;simp only [List.drop_zero, List.drop_succ_cons, List.take_succ_cons, List.take_zero] at h0 h1;obtain ⟨s, e0, _⟩ := DataW.trod_bool Tryz.underlying4 h0
 injection e0 with e0 _
 obtain ⟨A, n, c, xs, rfl, g1, g2, g3, g4⟩ := open_words h1;exact ⟨s, A, n, c, xs, e0, rfl, g1, g2, g3, g4⟩
set_option maxRecDepth 100000 in
theorem open_ratc {m : Nat} {c0 c1 c2 c3 : Value} {y : DataW H × List MemPlace} (h : DataW.trod enc Tryz.prog W base (fun _ => true) held m 27 [c0, c1, c2, c3] = some y) :
  ∃ s A n c t B m d xs ys, c0 = .bool s /\ c1 = .slice A n c /\ c2 = .bool t /\ c3 = .slice B m d /\ RI W A n c xs /\ RI W B m d ys := by
 obtain ⟨y0, y1, k, _, _, h0, h1⟩ := trod_struct2 Tryz.underlying27 h;rw [Tryz.cellsI] at h0 h1;simp only [List.drop_zero, List.drop_succ_cons, List.take_succ_cons, List.take_zero] at h0 h1;obtain ⟨s, A, n, c, xs, rfl, rfl, r1⟩ := open_intc h0;obtain ⟨t, B, m, d, ys, rfl, rfl, r2⟩ := open_intc h1;exact ⟨s, A, n, c, t, B, m, d, xs, ys, rfl, rfl, rfl, rfl, r1, r2⟩
set_option maxRecDepth 100000 in
theorem open_rat {r : Reach} {b0 : Nat} {v : Value} {d : DataW H} {p : List MemPlace} (hv : Value.okWide Tryz.prog W r b0 27 v) (h : DataW.Trod enc Tryz.prog W base (fun _ => true) held 27 v d p) :
  ∃ s A n c t B m d xs ys, v = .agg #[.bool s, .slice A n c, .bool t, .slice B m d] /\ RI W A n c xs /\ RI W B m d ys := by
 obtain ⟨cs, rfl, hsz⟩ := okWide_struct Tryz.underlying27 hv;obtain ⟨c0, c1, c2, c3, rfl⟩ := array4 (hsz.trans cellsR);obtain ⟨fuel, hf⟩ := h;obtain ⟨s, A, n, c, t, B, m, d, xs, ys, rfl, rfl, rfl, rfl, r1, r2⟩ := open_ratc hf;exact ⟨s, A, n, c, t, B, m, d, xs, ys, rfl, r1, r2⟩
set_option maxRecDepth 100000 in
theorem open_rats {r : Reach} {b0 : Nat} {v : Value} {d : DataW H} {p : List MemPlace} (hv : Value.okWide Tryz.prog W r b0 22 v) (h : DataW.Trod enc Tryz.prog W base (fun _ => true) held 22 v d p) :
  ∃ A n c rs, v = .slice A n c /\ RawP W A n c rs := by
 obtain ⟨A, n, c, rfl⟩ := okWide_slice Tryz.underlying22 hv;obtain ⟨fuel, hf⟩ := h
 rcases Deep.open_slice Tryz.underlying22 hf with ⟨hcs, _⟩ | ⟨a, len, cap, m, k, D, Pl, hcs, _, hl, hm, hmm, _, hx⟩
 ·simp only [Value.cells, List.cons.injEq, Value.slice.injEq, and_true] at hcs
  obtain ⟨rfl, rfl, rfl⟩ := hcs;exact ⟨none, 0, 0, [], rfl, rfl, Nat.le_refl _, Nat.zero_le _, fun h => absurd rfl h⟩
 ·simp only [Value.cells, List.cons.injEq, Value.slice.injEq, and_true] at hcs
  obtain ⟨rfl, rfl, rfl⟩ := hcs;simp only [if_true] at hmm
  have key : ∀ i, i < n -> ∃ r : RawR, RawAt W a.block (a.off + 4 * i) r := by
   intro i hi;obtain ⟨cs', h1, h2⟩ := hx i (by omega);rw [cellsR] at h1;obtain ⟨_, hlen, hc⟩ := World.cells?_some h1
   obtain ⟨c0, c1, c2, c3, rfl⟩ : ∃ c0 c1 c2 c3, cs' = [c0, c1, c2, c3] := by
    rcases cs' with _ | ⟨c0, _ | ⟨c1, _ | ⟨c2, _ | ⟨c3, _ | ⟨c4, l⟩⟩⟩⟩⟩ <;> simp at hlen
    exact ⟨c0, c1, c2, c3, rfl⟩
   obtain ⟨s, A', n', c', t, B', m', d', xs, ys, rfl, rfl, rfl, rfl, r1, r2⟩ := open_ratc h2
   have hs : a.spot = none := by
    cases e : a.spot with
    | none => rfl
    | some q =>
     exfalso
     obtain ⟨cs0, g1, _⟩ := hx 0 (by omega);rw [cellsR] at g1;obtain ⟨_, hlen0, hc0⟩ := World.cells?_some g1;have := hc0 0 (by omega);rw [Nat.zero_mul, Deep.add_add] at this;simp only [Addr.add, Nat.add_zero, if_true] at this;rw [List.getElem?_eq_getElem (by omega)] at this;unfold World.cell? at this;rw [e] at this
     split at this <;> simp at this
   have hadd : ∀ j, j < 4 -> (a.add (i * 4)).add j = ⟨a.block, a.off + 4 * i + j, none⟩ := by
    intro j _;rw [Deep.add_add];unfold Addr.add;obtain ⟨ab, ao, asp⟩ := a;simp only at hs;subst hs
    split
    ·rename_i h0
     have : i * 4 + j = 0 := h0;simp only [Addr.mk.injEq, and_true, true_and];omega
    ·simp only [Addr.mk.injEq, and_true, true_and]
     omega
   have q0 := hc 0 (by omega);have q1 := hc 1 (by omega);have q2 := hc 2 (by omega);have q3 := hc 3 (by omega);rw [hadd _ (by omega)] at q0 q1 q2 q3;exact ⟨⟨s, xs, t, ys⟩, A', n', c', B', m', d', q0, q1, q2, q3, r1, r2⟩
  haveI : Inhabited RawR := ⟨⟨false, [], false, []⟩⟩
  obtain ⟨F, hF⟩ := Deep.choose_lt (n := n) (α := RawR) (p := fun i r => RawAt W a.block (a.off + 4 * i) r) key;refine ⟨some a, n, c, (List.range n).map F, rfl, by simp, hl, hm, fun hne => ?_⟩
  have hpos : 0 < n := by
   rcases Nat.eq_zero_or_pos n with h0 | h0
   ·exact absurd (by rw [h0]; rfl) hne
   ·exact h0
  have hs : a.spot = none := by
   cases e : a.spot with
   | none => rfl
   | some q =>
    exfalso
    obtain ⟨cs0, g1, _⟩ := hx 0 (by omega);rw [cellsR] at g1;obtain ⟨_, hlen0, hc0⟩ := World.cells?_some g1;have := hc0 0 (by omega);rw [Nat.zero_mul, Deep.add_add] at this;simp only [Addr.add, Nat.add_zero, if_true] at this;rw [List.getElem?_eq_getElem (by omega)] at this;unfold World.cell? at this;rw [e] at this
    split at this <;> simp at this
  refine ⟨a.block, a.off, ?_, fun i hi => ?_⟩
  ·obtain ⟨ab, ao, asp⟩ := a
   simp only at hs;subst hs
   rfl
  ·have hi2 : i < n := by simpa using hi
   have := hF i hi2
   simpa using this
end
def laidI : List (String × DataW Unit) := [("math/bits.deBruijn64tab", Rows.laid_math_bits_deBruijn64tab)]
def tabY : List Int := Lib.deBruijn64tab.map fun n : Nat => (n : Int)
theorem tabY_at : ∀ j : Fin 64, tabY.getD j.val 0 = ((Lib.deBruijn64tab.getD j.val 0 : Nat) : Int) := by decide +kernel
theorem laidI_tab : laidI = [("math/bits.deBruijn64tab", Lib.tabData .u8 tabY)] := by kernel_rfl
theorem gTab : Tryz.prog.globalNamed "math/bits.deBruijn64tab" = some 0 := by kernel_rfl
theorem tTab : (Tryz.prog.globals[0]?).map (·.type) = some 177 := by kernel_rfl
theorem tab_of_laid {W : World} (h : laidMet Tryz.prog laidI W) : Tab W := by
 rw [laidI_tab] at h;have hT := Lib.tabIs_of_head gTab tTab Tryz.underlying177 Tryz.underlying5 (by kernel_rfl) (by kernel_rfl) h;intro j hj;have := hT.cell gTab j (by rw [show tabY.length = 64 from by decide +kernel]; exact hj);rw [tabY_at ⟨j, hj⟩] at this;exact this
theorem doorI_met (os : Os) (args : Array Value) : laidMetH Tryz.prog laidI ((World.doorLaid Tryz.prog 400 os).forCall (fun _ _ => 0) ⟨#[], args, []⟩).memory :=
 laidMetH_of_parts3 (fuel := 8) (laidMet_of_run' 8 (by kernel_rfl) (by kernel_rfl)) (by kernel_rfl) (by kernel_rfl)
theorem tab_of_laidH {W : World} (h : laidMetH Tryz.prog laidI W) : Tab W := by
 rw [MakeChecks.laidMetH_plain _ _ _ (by kernel_rfl)] at h;exact tab_of_laid h
set_option maxRecDepth 100000
theorem prim4_lifted (os : Os) (started : os.Started) (H : Type) (enc : TypeId × Value -> H) :
  ReturnsInHanded {} Tryz.checked os 8 .any (fun w args => (Rows.polynomialPrimitiveSpec.pre enc Tryz.prog Tryz.f8 [] false w args /\ laidMetH Tryz.prog laidI w) /\ sizedMet enc Tryz.prog Tryz.f8 (OpenSpec.ofChange Rows.polynomialPrimitiveSpec) false w args)
   (Rows.polynomialPrimitiveSpec.post enc Tryz.prog Tryz.f8 false true false false) := by
 refine returnsInHanded_of_change_and (C := Tryz.checked) (X := fun w _ => laidMetH Tryz.prog laidI w) (fun _ _ _ hh h => h.of_heap hh) Tryz.own started (by kernel_rfl) Tryz.func8
  (ChangeSpec.witness_shaped (enc := enc) (C := Tryz.checked) (os := os) (X := fun w _ => laidMetH Tryz.prog laidI w) false (World.doorLaid Tryz.prog 400 os) #[.slice none 0 0, Value.agg #[.bool false, .slice none 0 0, .bool false, .slice none 0 0]] 8 rfl (World.shaped_of_RefB (by kernel_rfl) (by kernel_rfl)) (by kernel_rfl) (by kernel_rfl) (by kernel_rfl) (doorI_met os _)) ?_
 intro W base args ds gs before hval0 hW _ _ hL _;have hval : ∀ (j : Nat) t v, Tryz.f8.params[j]? = some t -> args[j]? = some v -> Value.okWide Tryz.prog W .any base t v := hval0;have hW' := hW;have hlt : ∀ p ∈ before, p.block < W.heap.size := fun p hp => hW.lt p hp
 obtain ⟨p, q, hA0, hV, rfl, _, _⟩ := hW;have hA : DataW.TrodAll enc Tryz.prog W 0 (fun _ => true) true Tryz.f8.params.toList args.toList ds p := hA0;rw [Tryz.params8] at hA hval;obtain ⟨v0, v1, d0, d1, p0, p1, rfl, rfl, rfl, h0, h1⟩ := trodAll_two hA;obtain ⟨rfl, rfl⟩ := trodVars_none hV;simp only [List.append_nil] at hW' hlt;obtain ⟨A0, n0, c0, rs0, rfl, hr0⟩ := open_rats (hval 0 22 v0 rfl rfl) h0;obtain ⟨s, A, n, c, t, B, m, d, xs, ys, rfl, hr1, hk1⟩ := open_rat (hval 1 27 v1 rfl rfl) h1;clear hA0 hval0;have hT := tab_of_laidH hL;refine (prim4_any awake4 hT hr0 hr1 hk1).mono fun e W' ⟨he, hext⟩ => ?_
 subst he;have hb : Below W.heap.size W W' := hext;have g0 := Below.trod Tryz.laidOut (by kernel_rfl) (of_decide_eq_true (by kernel_rfl)) h0 hb (fun p hp => hlt p (List.mem_append.2 (.inl hp)));have g1 := Below.trod Tryz.laidOut (by kernel_rfl) (of_decide_eq_true (by kernel_rfl)) h1 hb (fun p hp => hlt p (List.mem_append.2 (.inr hp)));exact ⟨_, rfl, _, _, _, [], (p0 ++ p1), [], hW', trodAll_mk1 (shut_bool Tryz.underlying4 true), trodAll_mk2 g0 g1, rfl, Below.frame hb _, fun h => by cases h⟩
theorem prim4_row_holds : Rows.PolynomialPrimitiveSaid :=
 OpenClaim.holds_of_wide 8 Tryz.f8 rfl rfl rfl rfl rfl rfl rfl ⟨rfl, rfl, rfl, rfl, rfl⟩ rfl rfl rfl rfl rfl (by kernel_rfl) Tryz.func8 (by kernel_rfl)
  (of_decide_eq_true (by kernel_rfl)) (by unfold Func.isWrapper; first | (rw [if_neg (of_decide_eq_false (by kernel_rfl))]; exact ⟨rfl, rfl⟩) | (rw [if_pos (by decide +kernel)]; kernel_rfl))
  (fun os started H enc _ => prim4_lifted os started H enc)
theorem prim4_holds : Rows.PolynomialPrimitiveCardSaid :=
 Claim7.holds_tied_plain_at .later [] [.data] true Rows.polynomialPrimitiveCard.stood.harness false
  prim4_row_holds (fun _ h => by cases h) (by kernel_rfl) (fun _ h => by cases h) polynomialPrimitive_row_tie rfl ⟨rfl, rfl⟩ (by kernel_rfl) rfl
  (fun f fn hf hfn => by
   obtain rfl : f = 8 := Option.some.inj ((show Tryz.prog.funcNamed "setsquare/setsquarelaw04.PolynomialPrimitive" = some 8 by kernel_rfl).symm.trans hf) |>.symm;obtain rfl : fn = Tryz.f8 := (Option.some.inj (Tryz.func8.symm.trans hfn)).symm
   exact ⟨by kernel_rfl, fun j t ht => by
    rw [Tryz.params8] at ht;have hm : t ∈ [22, 27] := by simpa using Array.mem_of_getElem? ht
    have hall : ([22, 27].all fun u => !Tryz.prog.wantsStandIn u) = true := by kernel_rfl
    exact (show Tryz.prog.wantsStandIn t = false by simpa using List.all_eq_true.1 hall t hm)⟩)
  (by kernel_rfl)
end
end Go.Proofs.YtpeddoaknfjbbaaGreatDoor
