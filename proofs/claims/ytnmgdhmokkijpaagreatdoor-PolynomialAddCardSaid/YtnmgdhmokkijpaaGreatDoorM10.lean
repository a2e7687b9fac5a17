/- Walks and laws, a part. -/
import Derived.Test.YtnmgdhmokkijpaaGreatDoorM8
import Derived.Test.YtnmgdhmokkijpaaGreatDoorM5
import Derived.Test.YtnmgdhmokkijpaaGreatDoorM9
import Derived.Test.YtnmgdhmokkijpaaGreatDoorM0
import Derived.Test.YtnmgdhmokkijpaaGreatDoorM4
set_option linter.unusedSimpArgs false
set_option linter.unusedVariables false
namespace Go.Proofs.YtnmgdhmokkijpaaGreatDoor
open Go.RowKit
attribute [local go_sem ↓] Go.wp_at_zero Go.wp_at_succ
section
variable {w w' : World} {q x : Rat} {L M : Nat} {s t : Bool} {A B : Option Addr} {n c m d : Nat} {sx tx : Bool} {Ax Bx : Option Addr} {nx cx mx dx : Nat} {qs ps : List Rat}
set_option maxHeartbeats 1000000 in
theorem p_cloneR (h : NR w q L s A n c t B m d) (hL : L ≤ 100000) : Calls Tryz.prog 50 #[.agg #[.bool s, .slice A n c, .bool t, .slice B m d]] w (RetNR q L w) := by
 go_enter Tryz.func50, Tryz.ntmps50
 go_upto_region 1 with (fail)
 obtain ⟨W, hW, extW, bx, bz, hz⟩ := box2 w 27 27 #[.bool s, .slice A n c, .bool t, .slice B m d] #[Value.bool false, Value.slice none 0 0, Value.bool false, Value.slice none 0 0];rw [← hW];clear hW;refine wpL.start 7 (by kernel_rfl) (fun _ _ _ _ _ => ⟨fun h => h, fun h => h⟩) (fun hQ ES => ?_);refine wpL.tk (i := 0) (d := some 3) (v := ?v0_29) rfl rfl hQ (Or.inl ⟨by rfl, ?y0_29⟩) ES ?_
 case y0_29 => intro w' hSw;go_simp;try with_reducible rfl
 try simp only [Act.put,sA1,sS1,sZ1]
 refine wpL.tk (i := 3) (d := some 6) (v := ?v3_30) rfl rfl hQ (Or.inl ⟨by rfl, ?y3_30⟩) ES ?_
 case y3_30 => intro w' hSw;go_simp;try with_reducible rfl
 try simp only [Act.put,sA1,sS1,sZ1]
 refine wpL.tk (i := 1) (d := some 4) (v := ?v1_31) rfl rfl hQ (Or.inl ⟨by rfl, ?y1_31⟩) ES ?_
 case y1_31 => intro w' hSw;have k00 := (bx.ext hSw).c4;go_simp;try with_reducible rfl
 try simp only [Act.put,sA1,sS1,sZ1]
 refine wpL.tk (i := 4) (d := some 7) (v := ?v4_32) rfl rfl hQ (Or.inl ⟨by rfl, ?y4_32⟩) ES ?_
 case y4_32 => intro w' hSw;have k00 := (bx.ext hSw).c4;go_simp;try with_reducible rfl
 try simp only [Act.put,sA1,sS1,sZ1]
 refine wpL.call (i := 2) rfl (by kernel_rfl) (fun K hK => ?_);go_simp
 (go_at_call 95; refine (p_Norm (h.num.ext (extW.trans ES)) hL).mono ?_; rintro e wa ⟨s1, A1, n1, c1, rfl, h1, hx0⟩; have E0_1 := Ext.trans ES hx0)
 refine hK.out _ _ E0_1 ?_;clear hK K
 try simp only [Act.put,sA1,sS1,sZ1]
 refine wpL.call (i := 5) rfl (by kernel_rfl) (fun K hK => ?_);go_simp
 (go_at_call 95; refine (p_Norm (h.den.ext (extW.trans E0_1)) hL).mono ?_; rintro e wb ⟨s2, A2, n2, c2, rfl, h2, hx1⟩; have E1_1 := Ext.trans E0_1 hx1)
 refine hK.out _ _ E1_1 ?_;clear hK K
 try simp only [Act.put,sA1,sS1,sZ1]
 refine wpL.tk (i := 6) (d := some 9) (v := ?v6_33) rfl rfl hQ (Or.inl ⟨by rfl, ?y6_33⟩) E1_1 ?_
 case y6_33 => intro w' hSw;go_simp;try with_reducible rfl
 try simp only [Act.put,sA1,sS1,sZ1]
 have z0 := (bz.ext E1_1).cell 0 _ rfl;have z1 := (bz.ext E1_1).cell 1 _ rfl;have z2 := (bz.ext E1_1).cell 2 _ rfl;have z3 := (bz.ext E1_1).cell 3 _ rfl;have f0 := (bz.ext E1_1).frozen 0;have f1 := (bz.ext E1_1).frozen 1;have f2 := (bz.ext E1_1).frozen 2;have f3 := (bz.ext E1_1).frozen 3;refine wpL.tail (i := 7) rfl (by kernel_rfl) (by kernel_rfl) (fun K hK => ?_);go_simp;refine hK.out _ _ ?_;clear hK K
 try simp only [Act.put,sA1,sS1,sZ1]
 refine wpL.done (by kernel_rfl) ?_ _;clear hQ
 go_wp2_with fail
 obtain ⟨b1, b2, b3, b4⟩ := fin_quad (s := s1) (A := A1) (n := n1) (c := c1) (t := s2) (B := A2) (m := n2) (d := c2) (bz.ext E1_1);have r0 := b1.cell 0 (.bool s1) rfl;have r1 := b1.cell 1 (.slice A1 n1 c1) rfl;have r2 := b1.cell 2 (.bool s2) rfl;have r3 := b1.cell 3 (.slice A2 n2 c2) rfl;unfold set4 at r0 r1 r2 r3;refine bodyPost_ret (v := .agg #[.bool s1, .slice A1 n1 c1, .bool s2, .slice A2 n2 c2]) (by simp [results, Tryz.results50, go_sem, r0, r1, r2, r3]) rfl ⟨s1, A1, n1, c1, s2, A2, n2, c2, rfl, ⟨?_, ?_⟩, b3 _ (extW.trans E1_1) (by omega)⟩
 ·exact b2 _ _ _ _ _ _ (h1.ext hx1)
 ·exact b2 _ _ _ _ _ _ h2
set_option maxHeartbeats 8000000 in
set_option maxRecDepth 100000 in
theorem p_each_clone (h : Pol w A n c qs L) (hL : L ≤ 100) (hn : n ≤ 1000) : Calls Tryz.prog 49 #[.slice A n c, (.func (.func 50) #[] #[])] w (RetPol (trimP (qs.map (fun x => x))) L w) := by
 have hmk := mk_rats n (by omega);have Hlen := Lib.hid h.len
 go_enter Tryz.func49, Tryz.ntmps49
 go_wp2_with fail
 go_loopw [13] (fun i wr => ∃ k : Nat, k ≤ n ∧ i = .int .i64 (k : Int) ∧ Ext w wr ∧ Fill wr w.heap.size n ((qs.take k).map (fun x => x)) L) (fun i _ => n - (intOf i).toNat)
 case atStart => exact ⟨0, Nat.zero_le _, rfl, (Ext.refl w).alloc _, Fill.new w n _⟩
 case round =>
  obtain ⟨k, hk, rfl, ext, hF⟩ := hrel
  by_cases hlt : k < n
  ·have hj : k < qs.length := by rw [Hlen.out]; exact hlt
   obtain ⟨b, off, rfl, hr⟩ := h.at_ (fun e => by rw [e] at hj; exact absurd hj (Nat.not_lt_zero _));obtain ⟨sx, Ax, nx, cx, tx, Bx, mx, dx, e0, e1, e2, e3, hx⟩ := (hr.ext ext).at_ k hj;have e0' : wr.cell? ⟨b, off + k * 4, none⟩ = some (.bool sx) := by rw [Nat.mul_comm]; exact e0
   have e1' : wr.cell? ⟨b, off + k * 4 + 1, none⟩ = some (.slice Ax nx cx) := by rw [Nat.mul_comm]; exact e1
   have e2' : wr.cell? ⟨b, off + k * 4 + 2, none⟩ = some (.bool tx) := by rw [Nat.mul_comm]; exact e2
   have e3' : wr.cell? ⟨b, off + k * 4 + 3, none⟩ = some (.slice Bx mx dx) := by rw [Nat.mul_comm]; exact e3
   have HT := Lib.hid (show (qs.take (k + 1)).map (fun x => x) = (qs.take k).map (fun x => x) ++ [(fun x => x) qs[k]] by rw [List.take_succ_eq_append_getElem hj, List.map_append]; rfl);have hkl : ((qs.take k).map (fun x => x)).length = k := by rw [List.length_map, List.length_take, Hlen.out]; omega
   go_upto_region 5 with (fail)
   obtain ⟨W2, hW2, ext2, b9, hz2⟩ := box1 wr 27 #[.bool sx, .slice Ax nx cx, .bool tx, .slice Bx mx dx];rw [← hW2];clear hW2 hz2 e0 e1 e2 e3 e0' e1' e2' e3';replace hx := hx.ext ext2;replace hF := hF.ext ext2;replace ext := ext.trans ext2;clear ext2;have x0 := b9.cell 0 (.bool sx) rfl;have x1 := b9.cell 1 (.slice Ax nx cx) rfl;have x2 := b9.cell 2 (.bool tx) rfl;have x3 := b9.cell 3 (.slice Bx mx dx) rfl
   go_wp2_with fail
   refine (p_cloneR hx (by omega)).mono ?_;rintro e V ⟨s7, A7, n7, c7, t7, B7, m7, d7, rfl, h7, hxt⟩;clear x0 x1 x2 x3 b9;replace hF := hF.ext hxt;replace ext := ext.trans hxt;have hcs := hF.cells (by rw [hkl]; exact hlt);rw [hkl] at hcs;obtain ⟨p0, p1, p2, p3⟩ := hcs;have f0 := hF.frozen (k * 4);have f1 := hF.frozen (k * 4 + 1);have f2 := hF.frozen (k * 4 + 2);have f3 := hF.frozen (k * 4 + 3)
   go_wp2_with fail
   have P := hF.put hkl hlt h7
   go_roundw
   case rel => exact ⟨k + 1, by omega, by go_num, P.2.2.1 _ ext (Nat.le_refl _), by rw [HT.out]; exact P.1⟩
   case measure => simp [intOf]; omega
  ·have hkn : k = n := by omega
   subst hkn;have hml : ((qs.take k).map (fun x => x)).length = k := by rw [List.length_map, List.length_take, Hlen.out]; omega
   have hp := hF.pol hml (by unfold maxLen; omega);rw [List.take_of_length_le (Nat.le_of_eq Hlen.out)] at hp
   go_wp2_with fail
   refine (p_cutR hp (by omega) hn).mono ?_;rintro e V ⟨A8, n8, c8, rfl, h8, hxt⟩
   go_wp2_with fail
   go_ret
   exact ⟨A8, n8, c8, rfl, h8, ext.trans hxt⟩
set_option maxHeartbeats 8000000 in
set_option maxRecDepth 100000 in
theorem p_each_Neg (h : Pol w A n c qs L) (hL : L ≤ 100) (hn : n ≤ 1000) : Calls Tryz.prog 49 #[.slice A n c, (.func (.func 56) #[] #[])] w (RetPol (trimP (qs.map (fun x => -x))) L w) := by
 have hmk := mk_rats n (by omega);have Hlen := Lib.hid h.len
 go_enter Tryz.func49, Tryz.ntmps49
 go_wp2_with fail
 go_loopw [13] (fun i wr => ∃ k : Nat, k ≤ n ∧ i = .int .i64 (k : Int) ∧ Ext w wr ∧ Fill wr w.heap.size n ((qs.take k).map (fun x => -x)) L) (fun i _ => n - (intOf i).toNat)
 case atStart => exact ⟨0, Nat.zero_le _, rfl, (Ext.refl w).alloc _, Fill.new w n _⟩
 case round =>
  obtain ⟨k, hk, rfl, ext, hF⟩ := hrel
  by_cases hlt : k < n
  ·have hj : k < qs.length := by rw [Hlen.out]; exact hlt
   obtain ⟨b, off, rfl, hr⟩ := h.at_ (fun e => by rw [e] at hj; exact absurd hj (Nat.not_lt_zero _));obtain ⟨sx, Ax, nx, cx, tx, Bx, mx, dx, e0, e1, e2, e3, hx⟩ := (hr.ext ext).at_ k hj;have e0' : wr.cell? ⟨b, off + k * 4, none⟩ = some (.bool sx) := by rw [Nat.mul_comm]; exact e0
   have e1' : wr.cell? ⟨b, off + k * 4 + 1, none⟩ = some (.slice Ax nx cx) := by rw [Nat.mul_comm]; exact e1
   have e2' : wr.cell? ⟨b, off + k * 4 + 2, none⟩ = some (.bool tx) := by rw [Nat.mul_comm]; exact e2
   have e3' : wr.cell? ⟨b, off + k * 4 + 3, none⟩ = some (.slice Bx mx dx) := by rw [Nat.mul_comm]; exact e3
   have HT := Lib.hid (show (qs.take (k + 1)).map (fun x => -x) = (qs.take k).map (fun x => -x) ++ [(fun x => -x) qs[k]] by rw [List.take_succ_eq_append_getElem hj, List.map_append]; rfl);have hkl : ((qs.take k).map (fun x => -x)).length = k := by rw [List.length_map, List.length_take, Hlen.out]; omega
   go_upto_region 5 with (fail)
   obtain ⟨W2, hW2, ext2, b9, hz2⟩ := box1 wr 27 #[.bool sx, .slice Ax nx cx, .bool tx, .slice Bx mx dx];rw [← hW2];clear hW2 hz2 e0 e1 e2 e3 e0' e1' e2' e3';replace hx := hx.ext ext2;replace hF := hF.ext ext2;replace ext := ext.trans ext2;clear ext2;have x0 := b9.cell 0 (.bool sx) rfl;have x1 := b9.cell 1 (.slice Ax nx cx) rfl;have x2 := b9.cell 2 (.bool tx) rfl;have x3 := b9.cell 3 (.slice Bx mx dx) rfl
   go_wp2_with fail
   refine (p_NegR hx (by omega)).mono ?_;rintro e V ⟨s7, A7, n7, c7, t7, B7, m7, d7, rfl, h7, hxt⟩;clear x0 x1 x2 x3 b9;replace hF := hF.ext hxt;replace ext := ext.trans hxt;have hcs := hF.cells (by rw [hkl]; exact hlt);rw [hkl] at hcs;obtain ⟨p0, p1, p2, p3⟩ := hcs;have f0 := hF.frozen (k * 4);have f1 := hF.frozen (k * 4 + 1);have f2 := hF.frozen (k * 4 + 2);have f3 := hF.frozen (k * 4 + 3)
   go_wp2_with fail
   have P := hF.put hkl hlt h7
   go_roundw
   case rel => exact ⟨k + 1, by omega, by go_num, P.2.2.1 _ ext (Nat.le_refl _), by rw [HT.out]; exact P.1⟩
   case measure => simp [intOf]; omega
  ·have hkn : k = n := by omega
   subst hkn;have hml : ((qs.take k).map (fun x => -x)).length = k := by rw [List.length_map, List.length_take, Hlen.out]; omega
   have hp := hF.pol hml (by unfold maxLen; omega);rw [List.take_of_length_le (Nat.le_of_eq Hlen.out)] at hp
   go_wp2_with fail
   refine (p_cutR hp (by omega) hn).mono ?_;rintro e V ⟨A8, n8, c8, rfl, h8, hxt⟩
   go_wp2_with fail
   go_ret
   exact ⟨A8, n8, c8, rfl, h8, ext.trans hxt⟩
end
section
variable {w w' : World} {q x : Rat} {L M : Nat} {s t : Bool} {A B : Option Addr} {n c m d : Nat} {sx tx : Bool} {Ax Bx : Option Addr} {nx cx mx dx : Nat} {qs ps : List Rat}
set_option maxHeartbeats 2000000 in
theorem p_TrimP (h : Pol w A n c qs L) (hL : L ≤ 100) (hn : n ≤ 1000) : Calls Tryz.prog 13 #[.slice A n c] w (RetPol (trimP qs) L w) := by
 go_enter Tryz.func13, Tryz.ntmps13
 go_wp2_with fail
 refine (p_each_clone h hL hn).mono ?_;rintro e V ⟨A8, n8, c8, rfl, h8, hxt⟩;rw [List.map_id'] at h8
 go_wp2_with fail
 go_ret
 exact ⟨A8, n8, c8, rfl, h8, hxt⟩
set_option maxHeartbeats 2000000 in
theorem p_DegreeP (h : Pol w A n c qs L) (hL : L ≤ 100) (hn : n ≤ 1000) : Calls Tryz.prog 16 #[.slice A n c] w fun e w' => e = .returned (.int .i64 (((trimP qs).length : Int) - 1)) ∧ Ext w w' := by
 have hlen := trimP_len qs;have hl := h.len
 go_enter Tryz.func16, Tryz.ntmps16
 go_wp2_with fail
 refine (p_cutR h (by omega) hn).mono ?_;rintro e V ⟨A8, n8, c8, rfl, h8, hxt⟩;have h9 := h8.len
 go_wp2_with fail
 go_ret
 exact ⟨by rw [h9]; rfl, hxt⟩
set_option maxHeartbeats 2000000 in
theorem p_Scale1 {g : Nat} (h : NR w q L sx Ax nx cx tx Bx mx dx) (k : NR w x M s A n c t B m d) (hb : Box w g 27 #[.bool s, .slice A n c, .bool t, .slice B m d]) (hL : L ≤ 60) (hM : M ≤ 60) (hT : Tab w) : Calls Tryz.prog 58 #[.agg #[.bool sx, .slice Ax nx cx, .bool tx, .slice Bx mx dx], .pointer (some ⟨g, 0, none⟩)] w (RetNR (q * x) (L + M) w) := by
 go_enter Tryz.func58, Tryz.ntmps58
 go_upto_region 1 with (fail)
 obtain ⟨W, hW, extW, bx, bz, hz⟩ := box2 w 27 27 #[.bool sx, .slice Ax nx cx, .bool tx, .slice Bx mx dx] #[Value.bool false, Value.slice none 0 0, Value.bool false, Value.slice none 0 0];rw [← hW];clear hW;have hb1 := hb.ext extW;have x0 := bx.cell 0 (.bool sx) rfl;have x1 := bx.cell 1 (.slice Ax nx cx) rfl;have x2 := bx.cell 2 (.bool tx) rfl;have x3 := bx.cell 3 (.slice Bx mx dx) rfl;have y0 := hb1.cell 0 (.bool s) rfl;have y1 := hb1.cell 1 (.slice A n c) rfl;have y2 := hb1.cell 2 (.bool t) rfl;have y3 := hb1.cell 3 (.slice B m d) rfl
 go_wp2_with fail
 refine (p_MulR (h.ext extW) (k.ext extW) (by omega) (by omega) (by omega) (hT.ext extW)).mono ?_;rintro e V ⟨s7, A7, n7, c7, t7, B7, m7, d7, rfl, h7, hxt⟩;clear x0 x1 x2 x3 y0 y1 y2 y3;have z0 := (bz.ext hxt).cell 0 _ rfl;have z1 := (bz.ext hxt).cell 1 _ rfl;have z2 := (bz.ext hxt).cell 2 _ rfl;have z3 := (bz.ext hxt).cell 3 _ rfl;have f0 := (bz.ext hxt).frozen 0;have f1 := (bz.ext hxt).frozen 1;have f2 := (bz.ext hxt).frozen 2;have f3 := (bz.ext hxt).frozen 3
 go_wp2_with fail
 obtain ⟨b1, b2, b3, b4⟩ := fin_quad (s := s7) (A := A7) (n := n7) (c := c7) (t := t7) (B := B7) (m := m7) (d := d7) (bz.ext hxt);have r0 := b1.cell 0 (.bool s7) rfl;have r1 := b1.cell 1 (.slice A7 n7 c7) rfl;have r2 := b1.cell 2 (.bool t7) rfl;have r3 := b1.cell 3 (.slice B7 m7 d7) rfl;unfold set4 at r0 r1 r2 r3;refine bodyPost_ret (v := .agg #[.bool s7, .slice A7 n7 c7, .bool t7, .slice B7 m7 d7]) (by simp [results, Tryz.results58, go_sem, r0, r1, r2, r3]) rfl ⟨s7, A7, n7, c7, t7, B7, m7, d7, rfl, ⟨?_, ?_⟩, b3 _ (extW.trans hxt) (by omega)⟩
 ·exact b2 _ _ _ _ _ _ h7.num
 ·exact b2 _ _ _ _ _ _ h7.den
variable {sy ty : Bool} {Ay By : Option Addr} {ny cy my dy : Nat}
set_option maxHeartbeats 8000000 in
set_option maxRecDepth 100000 in
theorem p_each_Scale (h : Pol w A n c qs L) (hL : L ≤ 60) (hn : n ≤ 1000) {gy : Nat} {p : Rat} (hnum : NR w p M sy Ay ny cy ty By my dy) (hb : Box w gy 27 #[.bool sy, .slice Ay ny cy, .bool ty, .slice By my dy]) (hM : M ≤ 60) (hT : Tab w) : Calls Tryz.prog 49 #[.slice A n c, (.func (.func 58) #[] #[.pointer (some ⟨gy, 0, none⟩)])] w (RetPol (trimP (qs.map (fun x => x * p))) (L + M) w) := by
 have hmk := mk_rats n (by omega);have Hlen := Lib.hid h.len
 go_enter Tryz.func49, Tryz.ntmps49
 go_wp2_with fail
 go_loopw [13] (fun i wr => ∃ k : Nat, k ≤ n ∧ i = .int .i64 (k : Int) ∧ Ext w wr ∧ Fill wr w.heap.size n ((qs.take k).map (fun x => x * p)) (L + M)) (fun i _ => n - (intOf i).toNat)
 case atStart => exact ⟨0, Nat.zero_le _, rfl, (Ext.refl w).alloc _, Fill.new w n _⟩
 case round =>
  obtain ⟨k, hk, rfl, ext, hF⟩ := hrel
  by_cases hlt : k < n
  ·have hj : k < qs.length := by rw [Hlen.out]; exact hlt
   obtain ⟨b, off, rfl, hr⟩ := h.at_ (fun e => by rw [e] at hj; exact absurd hj (Nat.not_lt_zero _));obtain ⟨sx, Ax, nx, cx, tx, Bx, mx, dx, e0, e1, e2, e3, hx⟩ := (hr.ext ext).at_ k hj;have e0' : wr.cell? ⟨b, off + k * 4, none⟩ = some (.bool sx) := by rw [Nat.mul_comm]; exact e0
   have e1' : wr.cell? ⟨b, off + k * 4 + 1, none⟩ = some (.slice Ax nx cx) := by rw [Nat.mul_comm]; exact e1
   have e2' : wr.cell? ⟨b, off + k * 4 + 2, none⟩ = some (.bool tx) := by rw [Nat.mul_comm]; exact e2
   have e3' : wr.cell? ⟨b, off + k * 4 + 3, none⟩ = some (.slice Bx mx dx) := by rw [Nat.mul_comm]; exact e3
   have HT := Lib.hid (show (qs.take (k + 1)).map (fun x => x * p) = (qs.take k).map (fun x => x * p) ++ [(fun x => x * p) qs[k]] by rw [List.take_succ_eq_append_getElem hj, List.map_append]; rfl);have hkl : ((qs.take k).map (fun x => x * p)).length = k := by rw [List.length_map, List.length_take, Hlen.out]; omega
   go_upto_region 5 with (fail)
   obtain ⟨W2, hW2, ext2, b9, hz2⟩ := box1 wr 27 #[.bool sx, .slice Ax nx cx, .bool tx, .slice Bx mx dx];rw [← hW2];clear hW2 hz2 e0 e1 e2 e3 e0' e1' e2' e3';replace hx := hx.ext ext2;replace hF := hF.ext ext2;replace ext := ext.trans ext2;clear ext2;have x0 := b9.cell 0 (.bool sx) rfl;have x1 := b9.cell 1 (.slice Ax nx cx) rfl;have x2 := b9.cell 2 (.bool tx) rfl;have x3 := b9.cell 3 (.slice Bx mx dx) rfl
   go_wp2_with fail
   refine (p_Scale1 hx (hnum.ext ext) (hb.ext ext) (by omega) (by omega) (hT.ext ext)).mono ?_;rintro e V ⟨s7, A7, n7, c7, t7, B7, m7, d7, rfl, h7, hxt⟩;clear x0 x1 x2 x3 b9;replace hF := hF.ext hxt;replace ext := ext.trans hxt;have hcs := hF.cells (by rw [hkl]; exact hlt);rw [hkl] at hcs;obtain ⟨p0, p1, p2, p3⟩ := hcs;have f0 := hF.frozen (k * 4);have f1 := hF.frozen (k * 4 + 1);have f2 := hF.frozen (k * 4 + 2);have f3 := hF.frozen (k * 4 + 3)
   go_wp2_with fail
   have P := hF.put hkl hlt h7
   go_roundw
   case rel => exact ⟨k + 1, by omega, by go_num, P.2.2.1 _ ext (Nat.le_refl _), by rw [HT.out]; exact P.1⟩
   case measure => simp [intOf]; omega
  ·have hkn : k = n := by omega
   subst hkn;have hml : ((qs.take k).map (fun x => x * p)).length = k := by rw [List.length_map, List.length_take, Hlen.out]; omega
   have hp := hF.pol hml (by unfold maxLen; omega);rw [List.take_of_length_le (Nat.le_of_eq Hlen.out)] at hp
   go_wp2_with fail
   refine (p_cutR hp (by omega) hn).mono ?_;rintro e V ⟨A8, n8, c8, rfl, h8, hxt⟩
   go_wp2_with fail
   go_ret
   exact ⟨A8, n8, c8, rfl, h8, ext.trans hxt⟩
set_option maxHeartbeats 4000000 in
theorem p_ScaleP {p : Rat} (h : Pol w A n c qs L) (hk : NR w p M sy Ay ny cy ty By my dy) (hL : L ≤ 60) (hM : M ≤ 60) (hn : n ≤ 1000) (hT : Tab w) : Calls Tryz.prog 22 #[.slice A n c, .agg #[.bool sy, .slice Ay ny cy, .bool ty, .slice By my dy]] w (RetPol (trimP (scaleP qs p)) (L + M) w) := by
 have hmf : ∀ (fn : Fn) (first cap : Array Value) (w : World), (Instr.makeFunc fn first cap).run Tryz.prog w = .ok (.func fn first cap) w := fun _ _ _ _ => rfl
 go_enter Tryz.func22, Tryz.ntmps22
 go_upto_region 1 with (fail)
 obtain ⟨W, hW, ext, bx, hz⟩ := box1 w 27 #[.bool sy, .slice Ay ny cy, .bool ty, .slice By my dy];rw [← hW];clear hW hz
 go_wp2_with fail
 refine (p_each_Scale (h.ext ext) hL hn (hk.ext ext) bx hM (hT.ext ext)).mono ?_;rintro e V ⟨A8, n8, c8, rfl, h8, hxt⟩
 go_wp2_with fail
 go_ret
 exact ⟨A8, n8, c8, rfl, h8, ext.trans hxt⟩
end
def RetDM2 (q r : List Rat) (L M : Nat) (err : Int) (w : World) (e : Ending) (w' : World) : Prop :=
 ∃ A n c B m d, e = .returned (.tuple #[.slice A n c, .slice B m d, .int .i64 err]) ∧ Pol w' A n c q L ∧ Pol w' B m d r M ∧ Ext w w'
section
variable {w w' : World} {q x : Rat} {L M : Nat} {s t : Bool} {A B : Option Addr} {n c m d : Nat} {sx tx : Bool} {Ax Bx : Option Addr} {nx cx mx dx : Nat} {qs ps : List Rat}
set_option maxHeartbeats 8000000 in
set_option maxRecDepth 100000 in
theorem p_DivModP {X Y S C o N : Nat} {xs ys os : List Int} {lead : Int} (h : Pol w A n c qs L) (h' : Pol w B m d ps M) (hL : L ≤ 60) (hM : M ≤ 60) (hn : n ≤ 40) (hm : m ≤ 40) (hX : SizeP qs X) (hY : SizeP ps Y) (hX1 : X < 60) (hY1 : Y < 60)
  (hxs : trimI (numsP qs) = xs) (hys : trimI (numsP ps) = ys) (hx0 : 0 < xs.length) (hy0 : ys.length = o + 1) (hN : N = xs.length - o) (hos : os = ys.take o) (hlead : lead = ys.getLastD 0) (hl0 : lead ≠ 0) (hD : DivB xs os lead N S C) (hXS : X ≤ S) (hC1 : 1 ≤ C) (hQ : S + C + Y ≤ 60) (hT : Tab w) :
  Calls Tryz.prog 33 #[.slice A n c, .slice B m d] w (RetDM2 (trimP (scaleP (divS xs os lead N N).2.2 (mkQ ((denP ps : Nat) : Int) ((denP qs : Nat) : Int)))) ((trimI ((divS xs os lead N N).1.take (xs.length - N))).map (fun z => mkQ z ((divS xs os lead N N).2.1 * ((denP qs : Nat) : Int)))) (S + C + Y + max Y X) (S + C + X) 0 w) := by
 have HX1 := Lib.hid (fun z hz => hX.num z (trimI_mem hz));have HY1 := Lib.hid (fun z hz => hY.num z (trimI_mem hz));have HX2 := Lib.hid (show (((denP qs : Nat) : Int)).natAbs < 4294967296 ^ X by rw [Int.natAbs_natCast]; exact hX.den);have HY2 := Lib.hid (show (((denP ps : Nat) : Int)).natAbs < 4294967296 ^ Y by rw [Int.natAbs_natCast]; exact hY.den);clear hX hY;have Hlx := Lib.hid (show (trimI (numsP qs)).length ≤ n by have := trimI_len (numsP qs); rw [numsP_len, h.len] at this; exact this);have Hly := Lib.hid (show (trimI (numsP ps)).length ≤ m by have := trimI_len (numsP ps); rw [numsP_len, h'.len] at this; exact this);have HNA := Lib.hid (show ((denP qs : Nat) : Int) ≠ 0 by have := denP_pos qs; omega);have HXS := Lib.hid hxs;have HYS := Lib.hid hys;rw [hxs] at HX1 Hlx;rw [hys] at HY1 Hly;have HD := Lib.hid (show (divS xs os lead N N).2.1 * ((denP qs : Nat) : Int) ≠ 0 from Int.mul_ne_zero (divS_nz hl0 N) HNA.out);have hly := Hly.out;have hlx := Hlx.out;have HN := Lib.hid hN;have HLD := Lib.hid hlead;have HOS := Lib.hid hos;have HL0 := Lib.hid hl0;have hN1 : N ≤ xs.length - o := by omega
 clear hxs hys hN hlead hos hl0
 go_enter Tryz.func33, Tryz.ntmps33
 go_wp2_with fail
 refine (p_split h hL hn hT).mono ?_;rintro e V1 ⟨A1, n1, c1, s1, B1, m1, d1, rfl, hx, hdx, ext⟩;rw [HXS.out] at hx;replace hx := hx.tight HX1.out;replace hdx := hdx.tight' HX2.out
 go_upto_region 2 with (fail)
 obtain ⟨V2, hV2, ext2, b8, hz2⟩ := box1 V1 25 #[.bool s1, .slice B1 m1 d1];rw [← hV2];clear hV2 hz2;replace hx := hx.ext ext2;replace hdx := hdx.ext ext2;replace ext := ext.trans ext2;clear ext2;generalize V1.heap.size = g8 at b8 ⊢
 go_wp2_with fail
 refine (p_split (h'.ext ext) hM hm (hT.ext ext)).mono ?_;rintro e V1 ⟨A2, n2, c2, s2, B2, m2, d2, rfl, hy, hdy, ext3⟩;rw [HYS.out] at hy;replace hy := hy.tight HY1.out;replace hdy := hdy.tight' HY2.out;replace hx := hx.ext ext3;replace hdx := hdx.ext ext3;replace b8 := b8.ext ext3;replace ext := ext.trans ext3;clear ext3
 go_upto_region 3 with (fail)
 obtain ⟨V3, hV3, ext2, b10, hz2⟩ := box1 V1 25 #[.bool s2, .slice B2 m2 d2];rw [← hV3];clear hV3 hz2;replace hx := hx.ext ext2;replace hdx := hdx.ext ext2;replace b8 := b8.ext ext2;replace hy := hy.ext ext2;replace hdy := hdy.ext ext2;replace ext := ext.trans ext2;clear ext2;generalize V1.heap.size = g10 at b10 ⊢;have hn1 : xs.length = n1 := hx.len;have hn2 : ys.length = n2 := hy.len;have zb2 : ((n2 : Int) == 0) = false := beq_eq_false_iff_ne.2 (by omega)
 go_wp2_with fail
 refine (p_divideP hx hy (by omega) (by omega) (by omega) (by omega) hXS (by omega) (by omega) (by rw [← hn1]; exact HN.out) HOS.out HLD.out HL0.out hD (by omega) (by omega) hC1 (hT.ext ext)).mono ?_;rintro e V4 ⟨A3, n3, c3, B3, m3, d3, s4, D4, k4, l4, rfl, hq, hr, hsc, ext4⟩;rw [← hn1] at hr;replace hdx := hdx.ext ext4;replace b8 := b8.ext ext4;replace hdy := hdy.ext ext4;replace b10 := b10.ext ext4;replace ext := ext.trans ext4;clear ext4;have hlq : n3 = N := by rw [← hq.len, divS_qlen]
 rw [hlq] at hq ⊢;clear hlq;have hlr : m3 ≤ 400 := by have := hr.len; have := trimI_len ((divS xs os lead N N).1.take (xs.length - N)); rw [List.length_take, divS_len] at this; omega
 go_upto_region 6 with (fail)
 obtain ⟨V5, hV5, ext2, b13, hz2⟩ := box1 V4 25 #[.bool s4, .slice D4 k4 l4];rw [← hV5];clear hV5 hz2;replace hdx := hdx.ext ext2;replace b8 := b8.ext ext2;replace hdy := hdy.ext ext2;replace b10 := b10.ext ext2;replace hq := hq.ext ext2;replace hr := hr.ext ext2;replace hsc := hsc.ext ext2;replace ext := ext.trans ext2;clear ext2;generalize V4.heap.size = g13 at b13 ⊢;have x0 := b10.cell 0 _ rfl;have x1 := b10.cell 1 _ rfl;have y0 := b8.cell 0 _ rfl;have y1 := b8.cell 1 _ rfl
 go_wp2_with fail
 refine (p_Make_nz hdy hdx (by omega) (by omega) HNA.out (hT.ext ext)).mono ?_;rintro e V6 ⟨sx, Ax, nx, cx, tx, Bx, mx, dx, rfl, hfac, ext6⟩;clear x0 x1 y0 y1;replace hdx := hdx.ext ext6;replace b8 := b8.ext ext6;replace hq := hq.ext ext6;replace hr := hr.ext ext6;replace hsc := hsc.ext ext6;replace b13 := b13.ext ext6;replace ext := ext.trans ext6;clear ext6
 go_upto_region 7 with (fail)
 obtain ⟨V7, hV7, ext2, b14, hz2⟩ := box1 V6 27 #[.bool sx, .slice Ax nx cx, .bool tx, .slice Bx mx dx];rw [← hV7];clear hV7 hz2;replace hdx := hdx.ext ext2;replace b8 := b8.ext ext2;replace hq := hq.ext ext2;replace hr := hr.ext ext2;replace hsc := hsc.ext ext2;replace b13 := b13.ext ext2;replace hfac := hfac.ext ext2;replace ext := ext.trans ext2;clear ext2;generalize V6.heap.size = g14 at b14 ⊢;have hN40 : N ≤ 1000 := by omega
 have ES0 := Ext.refl V7;refine wp_region_held_drew (S := Ext V7) (by kernel_rfl) ES0.drew (fun ES => ?_);clear ES0;refine Late.start0 (fun _ _ _ _ _ => ⟨fun h => h, fun h => h⟩) ES (fun hAl hQ => ?_);refine Late.tk (i := 0) (d := some 42) (v := ?v0_29) rfl rfl hQ (Or.inl ⟨by rfl, ?y0_29⟩) ?_
 case y0_29 => intro w' hSw;go_simp;try with_reducible rfl
 try simp only [Act.put,sA1,sS1,sZ1]
 refine Late.tk (i := 1) (d := some 43) (v := ?v1_30) rfl rfl hQ (Or.inl ⟨by rfl, ?y1_30⟩) ?_
 case y1_30 => intro w' hSw;have k00 := (b14.ext hSw).c4;have k10 := (b13.ext hSw).c2;have k20 := (b8.ext hSw).c2;go_simp;try with_reducible rfl
 try simp only [Act.put,sA1,sS1,sZ1]
 refine Late.tk (i := 3) (d := some 45) (v := ?v3_31) rfl rfl hQ (Or.inl ⟨by rfl, ?y3_31⟩) ?_
 case y3_31 => intro w' hSw;go_simp;try with_reducible rfl
 try simp only [Act.put,sA1,sS1,sZ1]
 refine Late.tk (i := 4) (d := some 46) (v := ?v4_32) rfl rfl hQ (Or.inl ⟨by rfl, ?y4_32⟩) ?_
 case y4_32 => intro w' hSw;have k00 := (b14.ext hSw).c4;have k10 := (b13.ext hSw).c2;have k20 := (b8.ext hSw).c2;go_simp;try with_reducible rfl
 try simp only [Act.put,sA1,sS1,sZ1]
 refine Late.tk (i := 5) (d := some 47) (v := ?v5_33) rfl rfl hQ (Or.inl ⟨by rfl, ?y5_33⟩) ?_
 case y5_33 => intro w' hSw;have k00 := (b14.ext hSw).c4;have k10 := (b13.ext hSw).c2;have k20 := (b8.ext hSw).c2;go_simp;try with_reducible rfl
 try simp only [Act.put,sA1,sS1,sZ1]
 refine Late.call (i := 2) rfl (by kernel_rfl) hAl (by kernel_rfl) (by kernel_rfl) (by kernel_rfl) hQ (fun w2 e2 E2 K hK => ?_);go_simp
 (go_at_call 22; refine (p_ScaleP (hq.ext E2) (hfac.ext E2) (by omega) (by omega) (by omega) (hT.ext (ext.trans E2))).mono ?_; rintro e wk1 ⟨A7, n7, c7, rfl, h7, hx2⟩)
 refine hK.out _ _ hx2 ?_;clear hK K
 try simp only [Act.put,sA1,sS1,sZ1]
 refine Late.call (i := 6) rfl (by kernel_rfl) hAl (by kernel_rfl) (by kernel_rfl) (by kernel_rfl) hQ (fun w6 e6 E6 K hK => ?_);go_simp
 (go_at_call 64; refine (p_Mul (hsc.ext E6) (hdx.ext E6) (by omega) (by omega) (by omega)).mono ?_; rintro e wk2 ⟨s8, A8, n8, c8, rfl, h8, hx6⟩)
 refine hK.out _ _ hx6 ?_;clear hK K
 try simp only [Act.put,sA1,sS1,sZ1]
 refine Late.call (i := 7) rfl (by kernel_rfl) hAl (by kernel_rfl) (by kernel_rfl) (by kernel_rfl) hQ (fun w7 e7 E7 K hK => ?_);go_simp
 (go_at_call 62; refine (p_join (hr.ext E7) (h8.ext e7) HD.out (by omega) (by omega) (by omega) (hT.ext (ext.trans E7))).mono ?_; rintro e wk3 ⟨A9, n9, c9, rfl, h9, hx7⟩)
 refine hK.out _ _ hx7 ?_;clear hK K
 try simp only [Act.put,sA1,sS1,sZ1]
 refine Late.tk (i := 8) (d := some 4) (v := ?v8_34) rfl rfl hQ (Or.inl ⟨by rfl, ?y8_34⟩) ?_
 case y8_34 => intro w' hSw;go_simp;try with_reducible rfl
 try simp only [Act.put,sA1,sS1,sZ1]
 refine Late.tk (i := 9) (d := some 5) (v := ?v9_35) rfl rfl hQ (Or.inl ⟨by rfl, ?y9_35⟩) ?_
 case y9_35 => intro w' hSw;go_simp;try with_reducible rfl
 try simp only [Act.put,sA1,sS1,sZ1]
 refine Late.tk (i := 10) (d := some 6) (v := ?v10_36) rfl rfl hQ (Or.inl ⟨by rfl, ?y10_36⟩) ?_
 case y10_36 => intro w' hSw;go_simp;try with_reducible rfl
 try simp only [Act.put,sA1,sS1,sZ1]
 refine Late.done0 (by kernel_rfl) (fun wz ez Ez => ?_);clear hAl hQ ES
 go_wp2_with fail
 refine bodyPost_ret (v := .tuple #[.slice A7 n7 c7, .slice A9 n9 c9, .int .i64 0]) (by simp [results, Tryz.results33, go_sem]) rfl ⟨A7, n7, c7, A9, n9, c9, rfl, h7.ext (e6.trans (hx6.trans (e7.trans (hx7.trans ez)))), ?_, ext.trans Ez⟩;exact (h9.ext ez).leL (by omega)
end
def absQ (q : Rat) : Rat := if q.num.sign < 0 then -q else q
def maxA (qs : List Rat) : Rat := qs.foldl (fun g q => if 0 < ratCmp (absQ q) g then absQ q else g) 0
theorem maxA_snoc (qs : List Rat) (q : Rat) : maxA (qs ++ [q]) = if 0 < ratCmp (absQ q) (maxA qs) then absQ q else maxA qs := by unfold maxA; rw [List.foldl_append]; rfl
theorem absQ_ne {q : Rat} (h : q ≠ 0) : absQ q ≠ 0 := by
 unfold absQ
 split
 ·intro e
  apply h
  have := congrArg (fun x : Rat => -x) e
  simpa using this
 ·exact h
theorem trimP_last {qs : List Rat} (h : trimP qs ≠ []) : (trimP qs).getLastD 0 ≠ 0 := by
 rcases List.eq_nil_or_concat (trimP qs) with e | ⟨l, x, e⟩
 ·exact absurd e h
 ·rw [e]
  intro hx;have hx0 : x = 0 := by simpa using hx
  have h1 : trimP (trimP qs) = trimP qs := trimP_idem qs;rw [e, hx0, List.concat_eq_append, trimP_zero] at h1;have := congrArg List.length h1;have h2 := trimP_len l;simp at this;omega
theorem intSnoc_ind {P : List Int → Prop} (h0 : P []) (h1 : ∀ l x, P l → P (l ++ [x])) (l : List Int) : P l := by
 have : ∀ m : List Int, P m.reverse := by
  intro m
  induction m with
  | nil => exact h0
  | cons x m ih => rw [List.reverse_cons]; exact h1 _ _ ih
 have h := this l.reverse
 rwa [List.reverse_reverse] at h
theorem trimI_idem (l : List Int) : trimI (trimI l) = trimI l := by
 induction l using intSnoc_ind with
 | h0 => rfl
 | h1 l x ih =>
  by_cases h : x = 0
  ·subst h; rw [trimI_zero]; exact ih
  ·rw [trimI_snoc l h, trimI_snoc l h]
theorem trimI_last {zs : List Int} (h : trimI zs ≠ []) : (trimI zs).getLastD 0 ≠ 0 := by
 rcases List.eq_nil_or_concat (trimI zs) with e | ⟨l, x, e⟩
 ·exact absurd e h
 ·rw [e]
  intro hx;have hx0 : x = 0 := by simpa using hx
  have h1 : trimI (trimI zs) = trimI zs := trimI_idem zs;rw [e, hx0, List.concat_eq_append, trimI_zero] at h1;have := congrArg List.length h1;have h2 := trimI_len l;simp at this;omega
section
variable {w w' : World} {q x : Rat} {L M : Nat} {s t : Bool} {A B : Option Addr} {n c m d : Nat} {sx tx : Bool} {Ax Bx : Option Addr} {nx cx mx dx : Nat} {qs ps : List Rat}
set_option maxHeartbeats 2000000 in
theorem p_absR_neg (h : NR w q L s A n c t B m d) (hL : L ≤ 50000) (hs : q.num.sign < 0) : Calls Tryz.prog 84 #[.agg #[.bool s, .slice A n c, .bool t, .slice B m d]] w (RetNR (-q) L w) := by
 go_enter Tryz.func84, Tryz.ntmps84
 go_upto_region 1 with (fail)
 obtain ⟨W, hW, extW, bx, bz, hz⟩ := box2 w 27 27 #[.bool s, .slice A n c, .bool t, .slice B m d] #[Value.bool false, Value.slice none 0 0, Value.bool false, Value.slice none 0 0];rw [← hW];clear hW;have x0 := bx.cell 0 (.bool s) rfl;have x1 := bx.cell 1 (.slice A n c) rfl;have x2 := bx.cell 2 (.bool t) rfl;have x3 := bx.cell 3 (.slice B m d) rfl
 go_wp2_with fail
 refine (p_SignR (h.ext extW) hL).mono ?_;rintro e V ⟨rfl, hx0⟩;replace bx := bx.ext hx0;replace bz := bz.ext hx0;replace h := h.ext (extW.trans hx0);replace extW := extW.trans hx0;clear hx0 x0 x1 x2 x3;have x0 := bx.cell 0 (.bool s) rfl;have x1 := bx.cell 1 (.slice A n c) rfl;have x2 := bx.cell 2 (.bool t) rfl;have x3 := bx.cell 3 (.slice B m d) rfl
 go_wp2_with fail
 refine (p_NegR h (by omega)).mono ?_;rintro e V2 ⟨s7, A7, n7, c7, t7, B7, m7, d7, rfl, h7, hxt⟩;clear x0 x1 x2 x3;have z0 := (bz.ext hxt).cell 0 _ rfl;have z1 := (bz.ext hxt).cell 1 _ rfl;have z2 := (bz.ext hxt).cell 2 _ rfl;have z3 := (bz.ext hxt).cell 3 _ rfl;have f0 := (bz.ext hxt).frozen 0;have f1 := (bz.ext hxt).frozen 1;have f2 := (bz.ext hxt).frozen 2;have f3 := (bz.ext hxt).frozen 3
 go_wp2_with fail
 obtain ⟨b1, b2, b3, b4⟩ := fin_quad (s := s7) (A := A7) (n := n7) (c := c7) (t := t7) (B := B7) (m := m7) (d := d7) (bz.ext hxt);have r0 := b1.cell 0 (.bool s7) rfl;have r1 := b1.cell 1 (.slice A7 n7 c7) rfl;have r2 := b1.cell 2 (.bool t7) rfl;have r3 := b1.cell 3 (.slice B7 m7 d7) rfl;unfold set4 at r0 r1 r2 r3;refine bodyPost_ret (v := .agg #[.bool s7, .slice A7 n7 c7, .bool t7, .slice B7 m7 d7]) (by simp [results, Tryz.results84, go_sem, r0, r1, r2, r3]) rfl ⟨s7, A7, n7, c7, t7, B7, m7, d7, rfl, ⟨?_, ?_⟩, b3 _ (extW.trans hxt) (by omega)⟩
 ·exact b2 _ _ _ _ _ _ h7.num
 ·exact b2 _ _ _ _ _ _ h7.den
set_option maxHeartbeats 2000000 in
theorem p_absR_pos (h : NR w q L s A n c t B m d) (hL : L ≤ 50000) (hs : 0 ≤ q.num.sign) : Calls Tryz.prog 84 #[.agg #[.bool s, .slice A n c, .bool t, .slice B m d]] w (RetNR (q) L w) := by
 go_enter Tryz.func84, Tryz.ntmps84
 go_upto_region 1 with (fail)
 obtain ⟨W, hW, extW, bx, bz, hz⟩ := box2 w 27 27 #[.bool s, .slice A n c, .bool t, .slice B m d] #[Value.bool false, Value.slice none 0 0, Value.bool false, Value.slice none 0 0];rw [← hW];clear hW;have x0 := bx.cell 0 (.bool s) rfl;have x1 := bx.cell 1 (.slice A n c) rfl;have x2 := bx.cell 2 (.bool t) rfl;have x3 := bx.cell 3 (.slice B m d) rfl
 go_wp2_with fail
 refine (p_SignR (h.ext extW) hL).mono ?_;rintro e V ⟨rfl, hx0⟩;replace bx := bx.ext hx0;replace bz := bz.ext hx0;replace h := h.ext (extW.trans hx0);replace extW := extW.trans hx0;clear hx0 x0 x1 x2 x3;have x0 := bx.cell 0 (.bool s) rfl;have x1 := bx.cell 1 (.slice A n c) rfl;have x2 := bx.cell 2 (.bool t) rfl;have x3 := bx.cell 3 (.slice B m d) rfl;have hxt := Ext.refl V;obtain ⟨S, hS, dS⟩ : ∃ S, q.num.sign = S ∧ decide (S < 0) = false := ⟨_, rfl, decide_eq_false (by omega)⟩;rw [hS];clear hS hs;have z0 := (bz.ext hxt).cell 0 _ rfl;have z1 := (bz.ext hxt).cell 1 _ rfl;have z2 := (bz.ext hxt).cell 2 _ rfl;have z3 := (bz.ext hxt).cell 3 _ rfl;have f0 := (bz.ext hxt).frozen 0;have f1 := (bz.ext hxt).frozen 1;have f2 := (bz.ext hxt).frozen 2;have f3 := (bz.ext hxt).frozen 3
 go_wp2_with fail
 obtain ⟨b1, b2, b3, b4⟩ := fin_quad (s := s) (A := A) (n := n) (c := c) (t := t) (B := B) (m := m) (d := d) (bz.ext hxt);have r0 := b1.cell 0 (.bool s) rfl;have r1 := b1.cell 1 (.slice A n c) rfl;have r2 := b1.cell 2 (.bool t) rfl;have r3 := b1.cell 3 (.slice B m d) rfl;unfold set4 at r0 r1 r2 r3;refine bodyPost_ret (v := .agg #[.bool s, .slice A n c, .bool t, .slice B m d]) (by simp [results, Tryz.results84, go_sem, r0, r1, r2, r3]) rfl ⟨s, A, n, c, t, B, m, d, rfl, ⟨?_, ?_⟩, b3 _ (extW.trans hxt) (by omega)⟩
 ·exact b2 _ _ _ _ _ _ h.num
 ·exact b2 _ _ _ _ _ _ h.den
theorem p_absR (h : NR w q L s A n c t B m d) (hL : L ≤ 50000) : Calls Tryz.prog 84 #[.agg #[.bool s, .slice A n c, .bool t, .slice B m d]] w (RetNR (absQ q) L w) := by
 by_cases hs : q.num.sign < 0
 ·rw [show absQ q = -q from if_pos hs]; exact p_absR_neg h hL hs
 ·rw [show absQ q = q from if_neg hs]; exact p_absR_pos h hL (by omega)
set_option maxHeartbeats 2000000 in
theorem p_lastR (h : Pol w A n c qs L) (hn : n ≤ 10000) (h0 : 0 < n) : Calls Tryz.prog 87 #[.slice A n c] w (RetNR (qs.getLastD 0) L w) := by
 obtain ⟨j, rfl⟩ : ∃ j, n = j + 1 := ⟨n - 1, by omega⟩;have hj : j < qs.length := by rw [h.len]; omega
 have e : qs.getLastD 0 = qs[j] := by
  rw [List.getLastD_eq_getLast?, List.getLast?_eq_getElem?, h.len, show j + 1 - 1 = j by omega, List.getElem?_eq_getElem hj]; rfl
 rw [e];clear e
 go_enter Tryz.func87, Tryz.ntmps87
 go_upto_region 1 with (fail)
 obtain ⟨W, hW, extW, bz, hz⟩ := box1 w 27 #[Value.bool false, Value.slice none 0 0, Value.bool false, Value.slice none 0 0];rw [← hW];clear hW;obtain ⟨b, off, rfl, hr⟩ := h.at_ (fun e => by rw [e] at hj; exact absurd hj (Nat.not_lt_zero _));obtain ⟨sx, Ax, nx, cx, tx, Bx, mx, dx, e0, e1, e2, e3, hx⟩ := (hr.ext extW).at_ j hj;have e0' : W.cell? ⟨b, off + j * 4, none⟩ = some (.bool sx) := by rw [Nat.mul_comm]; exact e0
 have e1' : W.cell? ⟨b, off + j * 4 + 1, none⟩ = some (.slice Ax nx cx) := by rw [Nat.mul_comm]; exact e1
 have e2' : W.cell? ⟨b, off + j * 4 + 2, none⟩ = some (.bool tx) := by rw [Nat.mul_comm]; exact e2
 have e3' : W.cell? ⟨b, off + j * 4 + 3, none⟩ = some (.slice Bx mx dx) := by rw [Nat.mul_comm]; exact e3
 clear e0 e1 e2 e3;have hxt := Ext.refl W;have z0 := (bz.ext hxt).cell 0 _ rfl;have z1 := (bz.ext hxt).cell 1 _ rfl;have z2 := (bz.ext hxt).cell 2 _ rfl;have z3 := (bz.ext hxt).cell 3 _ rfl;have f0 := (bz.ext hxt).frozen 0;have f1 := (bz.ext hxt).frozen 1;have f2 := (bz.ext hxt).frozen 2;have f3 := (bz.ext hxt).frozen 3
 go_wp2_with fail
 obtain ⟨b1, b2, b3, b4⟩ := fin_quad (s := sx) (A := Ax) (n := nx) (c := cx) (t := tx) (B := Bx) (m := mx) (d := dx) (bz.ext hxt);have r0 := b1.cell 0 (.bool sx) rfl;have r1 := b1.cell 1 (.slice Ax nx cx) rfl;have r2 := b1.cell 2 (.bool tx) rfl;have r3 := b1.cell 3 (.slice Bx mx dx) rfl;unfold set4 at r0 r1 r2 r3;refine bodyPost_ret (v := .agg #[.bool sx, .slice Ax nx cx, .bool tx, .slice Bx mx dx]) (by simp [results, Tryz.results87, go_sem, r0, r1, r2, r3]) rfl ⟨sx, Ax, nx, cx, tx, Bx, mx, dx, rfl, ⟨?_, ?_⟩, b3 _ (extW.trans hxt) (by omega)⟩
 ·exact b2 _ _ _ _ _ _ hx.num
 ·exact b2 _ _ _ _ _ _ hx.den
set_option maxHeartbeats 4000000 in
theorem p_PrimitiveP {X : Nat} (h : Pol w A n c qs L) (hL : L ≤ 60) (hn : n ≤ 40) (hX : SizeP qs X) (hX1 : X ≤ 3000) (h0 : trimI (numsP qs) ≠ []) (hT : Tab w) : Calls Tryz.prog 37 #[.slice A n c] w (RetIPol (primI (trimI (numsP qs))) X w) := by
 have HX := Lib.hid (fun z hz => hX.num z (trimI_mem hz));have HL := Lib.hid (trimI_last h0);have hlen := trimI_len (numsP qs);have h1 := numsP_len qs;have h2 := h.len;have hpos : 0 < (trimI (numsP qs)).length := List.length_pos_iff.2 h0;clear hX h0
 go_enter Tryz.func37, Tryz.ntmps37
 go_wp2_with fail
 refine (p_split h hL hn hT).mono ?_;rintro e V1 ⟨A1, n1, c1, s1, B1, m1, d1, rfl, hx, hdx, ext⟩;replace hx := hx.tight HX.out;have hl1 := hx.len
 go_upto_region 2 with (fail)
 refine at_world (fun V => Ext w V ∧ IPol V A1 n1 c1 (trimI (numsP qs)) X) ⟨ext.trans ((Ext.refl V1).alloc _), hx.ext ((Ext.refl V1).alloc _)⟩ ?_;clear ext hx hdx;rintro V ⟨ext, hx⟩
 go_wp2_with fail
 refine (p_primitive hx hX1 (by omega) (by omega) HL.out (hT.ext ext)).mono ?_;rintro e V2 ⟨A2, n2, c2, rfl, h2, hx2⟩
 go_wp2_with fail
 go_ret
 exact ⟨A2, n2, c2, rfl, h2, ext.trans hx2⟩
set_option maxHeartbeats 16000000 in
set_option maxRecDepth 100000 in
theorem p_BoundP (h : Pol w A n c qs L) (hL : L ≤ 30) (hL2 : 2 ≤ L) (hn : n ≤ 1000) (hT : Tab w) : Calls Tryz.prog 41 #[.slice A n c] w (RetNR (if (trimP qs).length < 2 then 0 else 1 + maxA ((trimP qs).take ((trimP qs).length - 1)) / absQ ((trimP qs).getLastD 0)) (2 + (L + L) + 1) w) := by
 obtain ⟨ts, hts⟩ : ∃ ts, trimP qs = ts := ⟨_, rfl⟩;have htl : ts.length ≤ n := by rw [← hts, ← h.len]; exact trimP_len qs
 have HNZ' := Lib.hid (show ts ≠ [] → absQ (ts.getLastD 0) ≠ 0 from fun e => absQ_ne (by rw [← hts] at e ⊢; exact trimP_last e));rw [hts];obtain ⟨r, hr⟩ : ∃ r, (if ts.length < 2 then (0 : Rat) else 1 + maxA (ts.take (ts.length - 1)) / absQ (ts.getLastD 0)) = r := ⟨_, rfl⟩;rw [hr];have HR := Lib.hid hr;clear hr
 go_enter Tryz.func41, Tryz.ntmps41
 go_upto_region 1 with (fail)
 obtain ⟨W, hW, extW, bz, hz⟩ := box1 w 27 #[Value.bool false, Value.slice none 0 0, Value.bool false, Value.slice none 0 0];rw [← hW];clear hW
 go_wp2_with fail
 refine (p_cutR (h.ext extW) (by omega) hn).mono ?_;rintro e V ⟨A1, n1, c1, rfl, hp, hx0⟩;rw [hts] at hp;have hn1 : ts.length = n1 := hp.len;have HN1 := Lib.hid hn1;clear hts
 go_wp2_with fail
 refine (p_FromIntR 0 (by omega) (by omega)).mono ?_;rintro e V2 ⟨sg, Ag, ng, cg, tg, Bg, mg, dg, rfl, hg, hx1⟩;replace bz := bz.ext (hx0.trans hx1);replace hp := hp.ext hx1;replace extW := extW.trans (hx0.trans hx1);clear hx0 hx1
 go_upto_region 3 with (fail)
 have ha := (Ext.refl V2).alloc (.cells #[.bool sg, .slice Ag ng cg, .bool tg, .slice Bg mg dg] 27);have hblt := bz.lt;refine at_world (fun V => Ext V2 V ∧ Box V V2.heap.size 27 #[.bool sg, .slice Ag ng cg, .bool tg, .slice Bg mg dg] ∧ NR V ((0 : Int) : Rat) L sg Ag ng cg tg Bg mg dg) ⟨ha, Box.new V2 _ _, (hg.ext ha).le hL2⟩ ?_;clear ha hg hz;obtain ⟨g3, hg3⟩ : ∃ g, V2.heap.size = g := ⟨_, rfl⟩;rw [hg3] at hblt ⊢;have hsz : V2.heap.size ≤ g3 := Nat.le_of_eq hg3;clear hg3;rintro V ⟨ext2, b3, hg⟩;have e0 : ((0 : Int) : Rat) = maxA (ts.take 0) := rfl;rw [e0] at hg;clear e0
 by_cases hl2 : n1 < 2
 ·have hr := HR.out
  rw [if_pos (by rw [HN1.out]; exact hl2)] at hr;have HR0 := Lib.hid hr;clear hr;have hI : (n1 : Int) < 2 := by omega
  have x0 := b3.cell 0 (.bool sg) rfl;have x1 := b3.cell 1 (.slice Ag ng cg) rfl;have x2 := b3.cell 2 (.bool tg) rfl;have x3 := b3.cell 3 (.slice Bg mg dg) rfl;have z0 := (bz.ext ext2).cell 0 _ rfl;have z1 := (bz.ext ext2).cell 1 _ rfl;have z2 := (bz.ext ext2).cell 2 _ rfl;have z3 := (bz.ext ext2).cell 3 _ rfl;have f0 := (bz.ext ext2).frozen 0;have f1 := (bz.ext ext2).frozen 1;have f2 := (bz.ext ext2).frozen 2;have f3 := (bz.ext ext2).frozen 3
  go_wp2_with fail
  obtain ⟨b1, b2, b3, b4⟩ := fin_quad (s := sg) (A := Ag) (n := ng) (c := cg) (t := tg) (B := Bg) (m := mg) (d := dg) (bz.ext ext2);have r0 := b1.cell 0 (.bool sg) rfl;have r1 := b1.cell 1 (.slice Ag ng cg) rfl;have r2 := b1.cell 2 (.bool tg) rfl;have r3 := b1.cell 3 (.slice Bg mg dg) rfl;unfold set4 at r0 r1 r2 r3;refine bodyPost_ret (v := .agg #[.bool sg, .slice Ag ng cg, .bool tg, .slice Bg mg dg]) (by simp [results, Tryz.results41, go_sem, r0, r1, r2, r3]) rfl ⟨sg, Ag, ng, cg, tg, Bg, mg, dg, rfl, ⟨?_, ?_⟩, b3 _ (extW.trans ext2) (by omega)⟩
  ·rw [← HR0.out]; exact (b2 _ _ _ _ _ _ hg.num).le (by omega)
  ·rw [← HR0.out]; exact (b2 _ _ _ _ _ _ hg.den).le (by omega)
 ·have hr := HR.out
  rw [if_neg (by rw [HN1.out]; exact hl2), HN1.out] at hr;have HR1 := Lib.hid hr;clear hr;have hI : (2 : Int) ≤ (n1 : Int) := by omega
  have hJ : (n1 : Int) - 1 = ((n1 - 1 : Nat) : Int) := by omega
  have hW1 : IntKind.i64.wrap (((n1 - 1 : Nat) : Int)) = ((n1 - 1 : Nat) : Int) := IntWalk.i64_in _ (by omega);have hJc : ((n1 - 1 : Nat) : Int) ≤ (c1 : Int) := by have := hp.cap; omega
  have hJn : ((n1 - 1 : Nat) : Int) ≤ (n1 : Int) := by omega
  have HNZ := Lib.hid (HNZ'.out (fun e => by rw [e] at hn1; simp at hn1; omega));clear HNZ'
  go_wp2_with fail
  go_loopw [22] (fun v wr => ∃ (k : Nat) (s' : Bool) (A' : Option Addr) (n' c' : Nat) (t' : Bool) (B' : Option Addr) (m' d' : Nat), k ≤ n1 - 1 ∧ v = .int .i64 (k : Int) ∧ Ext V2 wr ∧ Box wr g3 27 #[.bool s', .slice A' n' c', .bool t', .slice B' m' d'] ∧ NR wr (maxA (ts.take k)) L s' A' n' c' t' B' m' d') (fun v _ => n1 - 1 - (intOf v).toNat)
  case atStart => exact ⟨0, sg, Ag, ng, cg, tg, Bg, mg, dg, Nat.zero_le _, rfl, ext2, b3, hg⟩
  case round =>
   clear ext2 b3 hg;obtain ⟨k, sg, Ag, ng, cg, tg, Bg, mg, dg, hk, rfl, ext, b3, hg⟩ := hrel
   by_cases hlt : k < n1 - 1
   ·have hj : k < ts.length := by rw [HN1.out]; omega
    have hkI : (k : Int) < ((n1 - 1 : Nat) : Int) := by omega
    obtain ⟨b, off, rfl, hr⟩ := hp.at_ (fun e => by rw [e] at hj; exact absurd hj (Nat.not_lt_zero _));obtain ⟨sx, Ax, nx, cx, tx, Bx, mx, dx, e0, e1, e2, e3, hx⟩ := (hr.ext ext).at_ k hj;have e0' : wr.cell? ⟨b, off + k * 4, none⟩ = some (.bool sx) := by rw [Nat.mul_comm]; exact e0
    have e1' : wr.cell? ⟨b, off + k * 4 + 1, none⟩ = some (.slice Ax nx cx) := by rw [Nat.mul_comm]; exact e1
    have e2' : wr.cell? ⟨b, off + k * 4 + 2, none⟩ = some (.bool tx) := by rw [Nat.mul_comm]; exact e2
    have e3' : wr.cell? ⟨b, off + k * 4 + 3, none⟩ = some (.slice Bx mx dx) := by rw [Nat.mul_comm]; exact e3
    clear e0 e1 e2 e3;have HT := Lib.hid (show maxA (ts.take (k + 1)) = if 0 < ratCmp (absQ ts[k]) (maxA (ts.take k)) then absQ ts[k] else maxA (ts.take k) by rw [List.take_succ_eq_append_getElem hj, maxA_snoc]);generalize ts[k] = q at hx HT;generalize maxA (ts.take k) = gv at hg HT
    go_upto_region 8 with (fail)
    obtain ⟨W5, hW5, ext5, b5, hz5⟩ := box1 wr 27 #[.bool sx, .slice Ax nx cx, .bool tx, .slice Bx mx dx];rw [← hW5];clear hW5 hz5 e0' e1' e2' e3' hr;replace hx := hx.ext ext5;replace hg := hg.ext ext5;replace b3 := b3.ext ext5;replace ext := ext.trans ext5;clear ext5;have x0 := b5.cell 0 (.bool sx) rfl;have x1 := b5.cell 1 (.slice Ax nx cx) rfl;have x2 := b5.cell 2 (.bool tx) rfl;have x3 := b5.cell 3 (.slice Bx mx dx) rfl
    go_wp2_with fail
    refine (p_absR hx (by omega)).mono ?_;rintro e W6 ⟨s5, A5, n5, c5, t5, B5, m5, d5, rfl, h5, hx6⟩;clear x0 x1 x2 x3 b5 hx
    go_upto_region 9 with (fail)
    obtain ⟨W7, hW7, ext7, b6, hz7⟩ := box1 W6 27 #[.bool s5, .slice A5 n5 c5, .bool t5, .slice B5 m5 d5];rw [← hW7];clear hW7 hz7;have hx7 := hx6.trans ext7;replace hg := hg.ext hx7;replace b3 := b3.ext hx7;replace ext := ext.trans hx7;replace h5 := h5.ext ext7;clear hx6 ext7 hx7;generalize W6.heap.size = g6 at b6 ⊢;have x0 := b6.cell 0 (.bool s5) rfl;have x1 := b6.cell 1 (.slice A5 n5 c5) rfl;have x2 := b6.cell 2 (.bool t5) rfl;have x3 := b6.cell 3 (.slice B5 m5 d5) rfl;have y0 := b3.cell 0 (.bool sg) rfl;have y1 := b3.cell 1 (.slice Ag ng cg) rfl;have y2 := b3.cell 2 (.bool tg) rfl;have y3 := b3.cell 3 (.slice Bg mg dg) rfl
    go_wp2_with fail
    refine (p_CmpR h5 hg (by omega) (by omega) (by omega)).mono ?_;rintro e W8 ⟨rfl, hx8⟩;replace hg := hg.ext hx8;replace b3 := b3.ext hx8;replace b6 := b6.ext hx8;replace ext := ext.trans hx8;replace h5 := h5.ext hx8;clear hx8 x0 x1 x2 x3 y0 y1 y2 y3
    by_cases hc : 0 < ratCmp (absQ q) gv
    ·have HT2 := Lib.hid (show maxA (ts.take (k + 1)) = absQ q by rw [HT.out, if_pos hc])
     have x0 := b6.cell 0 (.bool s5) rfl;have x1 := b6.cell 1 (.slice A5 n5 c5) rfl;have x2 := b6.cell 2 (.bool t5) rfl;have x3 := b6.cell 3 (.slice B5 m5 d5) rfl;have z0 := b3.cell 0 _ rfl;have z1 := b3.cell 1 _ rfl;have z2 := b3.cell 2 _ rfl;have z3 := b3.cell 3 _ rfl;have f0 := b3.frozen 0;have f1 := b3.frozen 1;have f2 := b3.frozen 2;have f3 := b3.frozen 3;obtain ⟨S, hS, dS⟩ : ∃ S, ratCmp (absQ q) gv = S ∧ decide (0 < S) = true := ⟨_, rfl, decide_eq_true hc⟩;rw [hS];clear hS hc HT
     go_wp2_with fail
     obtain ⟨q1, q2, q3, q4⟩ := fin_quad (s := s5) (A := A5) (n := n5) (c := c5) (t := t5) (B := B5) (m := m5) (d := d5) b3;unfold set4 at q1 q2 q3 q4
     go_roundw
     case rel => exact ⟨k + 1, s5, A5, n5, c5, t5, B5, m5, d5, by omega, by go_num, q3 _ ext hsz, q1, by rw [HT2.out]; exact ⟨q2 _ _ _ _ _ _ h5.num, q2 _ _ _ _ _ _ h5.den⟩⟩
     case measure => simp [intOf]; omega
    ·have HT2 := Lib.hid (show maxA (ts.take (k + 1)) = gv by rw [HT.out, if_neg hc])
     obtain ⟨S, hS, dS⟩ : ∃ S, ratCmp (absQ q) gv = S ∧ decide (0 < S) = false := ⟨_, rfl, decide_eq_false hc⟩;rw [hS];clear hS hc HT
     go_wp2_with fail
     go_roundw
     case rel => exact ⟨k + 1, sg, Ag, ng, cg, tg, Bg, mg, dg, by omega, by go_num, ext, b3, by rw [HT2.out]; exact hg⟩
     case measure => simp [intOf]; omega
   ·have hkn : k = n1 - 1 := by omega
    have HK := Lib.hid hkn;rw [hkn] at hg ⊢;have hkI : ((n1 - 1 : Nat) : Int) ≤ ((n1 - 1 : Nat) : Int) := Int.le_refl _;clear hkn
    go_wp2_with fail
    have hp := hp.ext ext;have hT := hT.ext (extW.trans ext);have ES0 := Ext.refl wr;refine wp_region_held_drew (S := Ext wr) (by kernel_rfl) ES0.drew (fun ES => ?_);clear ES0;refine Late.start1 (x := ⟨8, 7, 27, #[Value.bool false, Value.slice none 0 0, Value.bool false, Value.slice none 0 0]⟩) (n := 10) ⟨_, rfl, rfl, rfl, fun a w => by go_simp⟩ (fun _ _ _ _ _ => ⟨fun h => h, fun h => h⟩) ES rfl (fun hAl hQ => ?_);refine Late.tk (i := 0) (d := some 35) (v := ?v0_30) rfl rfl hQ (Or.inl ⟨by rfl, ?y0_30⟩) ?_
    case y0_30 => intro w' hSw;have k00 := (b3.ext hSw).c4;go_simp;try with_reducible rfl
    try simp only [Act.put,sA1,sS1,sZ1]
    refine Late.tk (i := 1) (d := some 36) (v := ?v1_31) rfl rfl hQ (Or.inl ⟨by rfl, ?y1_31⟩) ?_
    case y1_31 => intro w' hSw;go_simp;try with_reducible rfl
    try simp only [Act.put,sA1,sS1,sZ1]
    refine Late.call (i := 2) rfl (by kernel_rfl) hAl (by kernel_rfl) (by kernel_rfl) (by kernel_rfl) hQ (fun w2 e2 E2 K hK => ?_);go_simp
    (go_at_call 87; refine (p_lastR (hp.ext E2) (by omega) (by omega)).mono ?_; rintro e wk1 ⟨s5, A5, n5, c5, t5, B5, m5, d5, rfl, h5, hx2⟩)
    refine hK.out _ _ hx2 ?_;clear hK K
    try simp only [Act.put,sA1,sS1,sZ1]
    refine Late.call (i := 3) rfl (by kernel_rfl) hAl (by kernel_rfl) (by kernel_rfl) (by kernel_rfl) hQ (fun w3 e3 E3 K hK => ?_);go_simp
    (go_at_call 84; refine (p_absR (h5.ext e3) (by omega)).mono ?_; rintro e wk2 ⟨s6, A6, n6, c6, t6, B6, m6, d6, rfl, h6, hx3⟩)
    refine hK.out _ _ hx3 ?_;clear hK K
    try simp only [Act.put,sA1,sS1,sZ1]
    refine Late.call (i := 4) rfl (by kernel_rfl) hAl (by kernel_rfl) (by kernel_rfl) (by kernel_rfl) hQ (fun w4 e4 E4 K hK => ?_);go_simp
    (go_at_call 86; refine (p_Div_nz (hg.ext E4) (h6.ext e4) (by omega) (by omega) (by omega) (hT.ext E4) HNZ.out).mono ?_; rintro e wk3 ⟨s8, A8, n8, c8, t8, B8, m8, d8, rfl, h8, hx4⟩)
    refine hK.out _ _ hx4 ?_;clear hK K
    try simp only [Act.put,sA1,sS1,sZ1]
    refine Late.tk (i := 5) (d := some 34) (v := ?v5_32) rfl rfl hQ (Or.inl ⟨by rfl, ?y5_32⟩) ?_
    case y5_32 => intro w' hSw;go_simp;try with_reducible rfl
    try simp only [Act.put,sA1,sS1,sZ1]
    refine Late.tk (i := 6) (d := some 40) (v := ?v6_33) rfl rfl hQ (Or.inl ⟨by rfl, ?y6_33⟩) ?_
    case y6_33 => intro w' hSw;go_simp;try with_reducible rfl
    try simp only [Act.put,sA1,sS1,sZ1]
    refine Late.tk (i := 7) (d := some 41) (v := ?v7_34) rfl rfl hQ (Or.inl ⟨by rfl, ?y7_34⟩) ?_
    case y7_34 => intro w' hSw;go_simp;try with_reducible rfl
    try simp only [Act.put,sA1,sS1,sZ1]
    refine Late.finish1 (hAl _ (by simp)) (by kernel_rfl) (fun wz g5 ez Ez lg5 xb1 => ?_);clear hAl hQ ES;have p10 := xb1.cell 0 (Value.bool false) rfl;have f10 := xb1.frozen 0;have p11 := xb1.cell 1 (Value.slice none 0 0) rfl;have f11 := xb1.frozen 1;have p12 := xb1.cell 2 (Value.bool false) rfl;have f12 := xb1.frozen 2;have p13 := xb1.cell 3 (Value.slice none 0 0) rfl;have f13 := xb1.frozen 3;have e4 := fin_quad (s := s8) (A := A8) (n := n8) (c := c8) (t := t8) (B := B8) (m := m8) (d := d8) xb1
    try simp only [Act.put,sA1,sS1,sZ1]
    refine wpAnyH_ready (rs := [9]) (by kernel_rfl) (by simp) (AllReadyH.cons rfl (fun K hK => ?_) AllReadyH.nil);go_simp;refine hK.out _ _ (e4.2.2.1 _ Ez lg5) (fun _ => ?_);clear hK K
    try simp only [Act.put,sA1,sS1,sZ1]
    refine any_world (fun U => Ext wr U ∧ Box U g5 27 #[.bool s8, .slice A8 n8 c8, .bool t8, .slice B8 m8 d8] ∧ NR U (maxA (ts.take (n1 - 1)) / absQ (ts.getLastD 0)) (L + L) s8 A8 n8 c8 t8 B8 m8 d8) ⟨e4.2.2.1 _ Ez lg5, e4.1, ⟨e4.2.1 _ _ _ _ _ _ (h8.ext ez).num, e4.2.1 _ _ _ _ _ _ (h8.ext ez).den⟩⟩ ?_;clear e4 p10 f10 p11 f11 p12 f12 p13 f13 xb1 h8;rintro U ⟨EU, b7, h8⟩;refine wpAnyH_ready (rs := [10]) (by kernel_rfl) (by simp) (AllReadyH.cons rfl (fun K hK => ?_) AllReadyH.nil);go_simp;refine hK.out _ _ EU (fun _ => ?_);clear hK K
    try simp only [Act.put,sA1,sS1,sZ1]
    refine wpAnyH_done (by kernel_rfl) ?_ _
    go_wp2_with fail
    have bz := bz.ext (ext.trans EU);have extW := extW.trans (ext.trans EU);have hT := hT.ext EU;refine wpL.start 3 (by kernel_rfl) (fun _ _ _ _ _ => ⟨fun h => h, fun h => h⟩) (fun hQ ES => ?_);refine wpL.tk (i := 1) (d := some 43) (v := ?v1_29) rfl rfl hQ (Or.inl ⟨by rfl, ?y1_29⟩) ES ?_
    case y1_29 => intro w' hSw;have k00 := (b7.ext hSw).c4;go_simp;try with_reducible rfl
    try simp only [Act.put,sA1,sS1,sZ1]
    refine wpL.call (i := 0) rfl (by kernel_rfl) (fun K hK => ?_);go_simp
    (go_at_call 69; refine (p_FromIntR 1 (by omega) (by omega)).mono ?_; rintro e wa ⟨s1, A1', n1', c1', t1, B1, m1, d1, rfl, h1, hx0⟩; have E0_13 := Ext.trans ES hx0)
    refine hK.out _ _ E0_13 ?_;clear hK K
    try simp only [Act.put,sA1,sS1,sZ1]
    refine wpL.call (i := 2) rfl (by kernel_rfl) (fun K hK => ?_);go_simp
    (go_at_call 53; refine (p_AddR h1 (h8.ext E0_13) (by omega) (by omega) (by omega) (hT.ext E0_13)).mono ?_; rintro e wb ⟨s7, A7, n7, c7, t7, B7, m7, d7, rfl, h7, hx1⟩; have E1_13 := Ext.trans E0_13 hx1)
    refine hK.out _ _ E1_13 ?_;clear hK K
    try simp only [Act.put,sA1,sS1,sZ1]
    have z0 := (bz.ext E1_13).cell 0 _ rfl;have z1 := (bz.ext E1_13).cell 1 _ rfl;have z2 := (bz.ext E1_13).cell 2 _ rfl;have z3 := (bz.ext E1_13).cell 3 _ rfl;have f0 := (bz.ext E1_13).frozen 0;have f1 := (bz.ext E1_13).frozen 1;have f2 := (bz.ext E1_13).frozen 2;have f3 := (bz.ext E1_13).frozen 3;refine wpL.tail (i := 3) rfl (by kernel_rfl) (by kernel_rfl) (fun K hK => ?_);go_simp;refine hK.out _ _ ?_;clear hK K
    try simp only [Act.put,sA1,sS1,sZ1]
    refine wpL.done (by kernel_rfl) ?_ _;clear hQ
    go_wp2_with fail
    obtain ⟨b1, b2, b3, b4⟩ := fin_quad (s := s7) (A := A7) (n := n7) (c := c7) (t := t7) (B := B7) (m := m7) (d := d7) (bz.ext E1_13);have r0 := b1.cell 0 (.bool s7) rfl;have r1 := b1.cell 1 (.slice A7 n7 c7) rfl;have r2 := b1.cell 2 (.bool t7) rfl;have r3 := b1.cell 3 (.slice B7 m7 d7) rfl;unfold set4 at r0 r1 r2 r3;refine bodyPost_ret (v := .agg #[.bool s7, .slice A7 n7 c7, .bool t7, .slice B7 m7 d7]) (by simp [results, Tryz.results41, go_sem, r0, r1, r2, r3]) rfl ⟨s7, A7, n7, c7, t7, B7, m7, d7, rfl, ⟨?_, ?_⟩, b3 _ (extW.trans E1_13) (by omega)⟩
    ·rw [← HR1.out]; exact (b2 _ _ _ _ _ _ h7.num).le (by omega)
    ·rw [← HR1.out]; exact (b2 _ _ _ _ _ _ h7.den).le (by omega)
end
end Go.Proofs.YtnmgdhmokkijpaaGreatDoor
