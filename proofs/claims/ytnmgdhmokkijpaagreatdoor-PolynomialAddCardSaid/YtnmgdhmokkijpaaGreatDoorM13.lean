/- For every two lists of numbers and every number the law PolynomialAdd returns true: Trim, Degree, Add, Sub and Scale return the specified results, the arguments keep their values, and the examples of the chapter hold. Condition: the table math/bits.deBruijn64tab holds what its initialiser lays (tied by the given card). -/
import Derived.Test.YtnmgdhmokkijpaaGreatDoorM12
import Derived.Test.YtnmgdhmokkijpaaGreatDoorM10
import Derived.Test.YtnmgdhmokkijpaaGreatDoorM8
import Derived.Test.YtnmgdhmokkijpaaGreatDoorM5
import Derived.Test.YtnmgdhmokkijpaaGreatDoorM0
import Derived.Test.YtnmgdhmokkijpaaGreatDoorM3
import Derived.Test.YtnmgdhmokkijpaaGreatDoorRows
import Derived.ProofKit
import Derived.Lib.SmallJoins
import Derived.Test.YtnmgdhmokkijpaaGreatDoorCards
import Derived.Test.YtnmgdhmokkijpaaGreatDoorTie
import Derived.LaidMore
import Derived.OpenShut
import Derived.LaidLaws
import Derived.Deep.Slices
import Derived.Lib.LaidTab
import Derived.SevenTiedAt
import Derived.Stop.Joined
set_option linter.unusedSimpArgs false
set_option linter.unusedVariables false
namespace Go.Proofs.YtnmgdhmokkijpaaGreatDoor
open Go.RowKit
attribute [local go_sem ↓] Go.wp_at_zero Go.wp_at_succ
section
variable {w w' : World} {A B D : Option Addr} {n c m d l e : Nat} {rs ss ts : List RawR}
set_option maxHeartbeats 4000000 in
theorem few2_P {g : Nat} {T : TypeId} (hb : Box w g T #[.slice A n c, .slice B m d]) (h0 : RawP w A n c rs) (h1 : RawP w B m d ss) : Calls Tryz.prog 10 #[.slice (some ⟨g, 0, none⟩) 2 2] w fun e w' => e = .returned (.bool (smallB rs 8 && smallB ss 8)) ∧ Ext w w' := by
 go_enter Tryz.func10, Tryz.ntmps10
 go_wp2_with fail
 go_loopw [7] (fun i wr => ∃ k : Nat, k ≤ 2 ∧ i = .int .i64 (k : Int) ∧ Ext w wr ∧ (0 < k → smallB rs 8 = true) ∧ (1 < k → smallB ss 8 = true)) (fun i _ => 2 - (intOf i).toNat)
 case atStart => exact ⟨0, by omega, rfl, Ext.refl _, by simp⟩
 case round =>
  obtain ⟨k, hk, rfl, ext, hall⟩ := hrel;have HA := Lib.hid hall;clear hall;have c0 := (hb.ext ext).cell 0 (.slice A n c) rfl;have c1 := (hb.ext ext).cell 1 (.slice B m d) rfl;have hk2 : k = 0 ∨ k = 1 ∨ k = 2 := by omega
  rcases hk2 with rfl | rfl | rfl
  ·go_wp2_with fail
   refine (q_Small (h0.ext ext) 8 (by omega)).mono ?_;rintro e V ⟨rfl, hxv⟩;replace ext := ext.trans hxv
   cases hf : smallB rs 8 with
   | true =>
    have HF := Lib.hid hf;clear hf
    go_wp2_with fail
    go_roundw
    case rel => exact ⟨1, by omega, rfl, ext, by have := HA.out; simp [HF.out] at this ⊢ <;> first | done | exact this | assumption⟩
    case measure => simp [intOf]
   | false =>
    have HF := Lib.hid hf;clear hf
    go_wp2_with fail
    go_ret
    exact ⟨by have := HA.out; simp [HF.out] at this ⊢, ext⟩
  ·go_wp2_with fail
   refine (q_Small (h1.ext ext) 8 (by omega)).mono ?_;rintro e V ⟨rfl, hxv⟩;replace ext := ext.trans hxv
   cases hf : smallB ss 8 with
   | true =>
    have HF := Lib.hid hf;clear hf
    go_wp2_with fail
    go_roundw
    case rel => exact ⟨2, by omega, rfl, ext, by have := HA.out; simp [HF.out] at this ⊢ <;> first | done | exact this | assumption⟩
    case measure => simp [intOf]
   | false =>
    have HF := Lib.hid hf;clear hf
    go_wp2_with fail
    go_ret
    exact ⟨by have := HA.out; simp [HF.out] at this ⊢, ext⟩
  ·go_wp2_with fail
   go_ret
   exact ⟨by have := HA.out; simp at this; simp [this], ext⟩
end
section
variable {w w' : World} {q x : Rat} {L M : Nat} {s t : Bool} {A B : Option Addr} {n c m d : Nat} {sx tx : Bool} {Ax Bx : Option Addr} {nx cx mx dx : Nat} {qs ps : List Rat}
set_option maxHeartbeats 16000000 in
set_option maxRecDepth 100000 in
theorem p_Add_ge (h : Pol w A n c qs L) (h' : Pol w B m d ps M) (hL : L ≤ 60) (hM : M ≤ 60) (hn : n ≤ 1000) (_hm : m ≤ 1000) (hle : m ≤ n) (hT : Tab w) : Calls Tryz.prog 18 #[.slice A n c, .slice B m d] w (RetPol (trimP (sumP qs ps)) (L + M + 1) w) := by
 have hmk := mk_rats n (by omega);have HlP := Lib.hid h.len;have HlQ := Lib.hid h'.len;have HSl := Lib.hid (show (sumP qs ps).length = n by rw [sumP_len, h.len, h'.len]; omega);obtain ⟨w1, hcp, hH, hext⟩ := run_copy_rats (M := (L + M + 1)) 3 ((Ext.refl w).alloc (.cells (zeroC n).toArray 27)) (Nat.le_refl _) (Box.new w _ _) h
 go_enter Tryz.func18, Tryz.ntmps18
 go_wp2_with fail
 clear hcp
 try rw [show decide (n < m) = false from decide_eq_false (by omega)]
 go_loopw [23] (fun i wr => ∃ k : Nat, k ≤ n ∧ i = .int .i64 (k : Int) ∧ Ext w wr ∧ Half wr w.heap.size ((sumP qs ps).take k) (qs.drop k) (L + M + 1) L) (fun i _ => n - (intOf i).toNat)
 case atStart => exact ⟨0, Nat.zero_le _, rfl, hext, hH⟩
 case round =>
  clear hH hext;obtain ⟨k, hk, rfl, ext, hH⟩ := hrel
  by_cases hlt : k < n
  ·have hj : k < qs.length := by rw [HlP.out]; exact hlt
   have hs : k < (sumP qs ps).length := by rw [HSl.out]; exact hlt
   have HT := Lib.hid (show (sumP qs ps).take (k + 1) = (sumP qs ps).take k ++ [(sumP qs ps)[k]] from List.take_succ_eq_append_getElem hs);have HV := Lib.hid (show (sumP qs ps)[k] = qs[k] + atP ps k by rw [sumP_at, atP_lt hj]);rw [List.drop_eq_getElem_cons hj] at hH;have hkl : ((sumP qs ps).take k).length = k := by rw [List.length_take, HSl.out]; omega
   have hI1 : (k : Int) < (n : Int) := by omega
   obtain ⟨sx, Ax, nx, cx, tx, Bx, mx, dx, e0, e1, e2, e3, hx⟩ := hH.get hkl
   go_upto_region 8 with (fail)
   obtain ⟨W3, hW3, ext3, b9, hz3⟩ := box1 wr 27 #[.bool sx, .slice Ax nx cx, .bool tx, .slice Bx mx dx];rw [← hW3];clear hW3 hz3 e0 e1 e2 e3;replace hx := hx.ext ext3;replace hH := hH.ext ext3;replace ext := ext.trans ext3;clear ext3
   by_cases hlq : k < m
   ·have hjq : k < ps.length := by rw [HlQ.out]; exact hlq
    obtain ⟨b, off, rfl, hr⟩ := h'.at_ (fun e => by rw [e] at hjq; exact absurd hjq (Nat.not_lt_zero _));obtain ⟨sy, Ay, ny, cy, ty, By, my, dy, e0, e1, e2, e3, hy⟩ := (hr.ext ext).at_ k hjq;have e0' : W3.cell? ⟨b, off + k * 4, none⟩ = some (.bool sy) := by rw [Nat.mul_comm]; exact e0
    have e1' : W3.cell? ⟨b, off + k * 4 + 1, none⟩ = some (.slice Ay ny cy) := by rw [Nat.mul_comm]; exact e1
    have e2' : W3.cell? ⟨b, off + k * 4 + 2, none⟩ = some (.bool ty) := by rw [Nat.mul_comm]; exact e2
    have e3' : W3.cell? ⟨b, off + k * 4 + 3, none⟩ = some (.slice By my dy) := by rw [Nat.mul_comm]; exact e3
    clear e0 e1 e2 e3
    go_upto_region 9 with (fail)
    refine wpL.start 9 (by kernel_rfl) (fun _ _ _ _ _ => ⟨fun h => h, fun h => h⟩) (fun hQ ES => ?_);refine wpL.tkB [8, 9] (i := 0) (d := some 32) (v := ?v0_29) rfl rfl hQ (Or.inl ⟨by rfl, ?y0_29⟩) ES ?_
    case y0_29 => intro w' hSw;have j0 := (hSw.cellv e0');have j1 := (hSw.cellv e1');have j2 := (hSw.cellv e2');have j3 := (hSw.cellv e3');go_simp;try with_reducible rfl
    try simp only [Act.put,sA1,sS1,sZ1]
    refine wpL.tkB [8, 9] (i := 1) (d := some 33) (v := ?v1_30) rfl rfl hQ (Or.inl ⟨by rfl, ?y1_30⟩) ES ?_
    case y1_30 => intro w' hSw;have j0 := (hSw.cellv e0');have j1 := (hSw.cellv e1');have j2 := (hSw.cellv e2');have j3 := (hSw.cellv e3');go_simp;try with_reducible rfl
    try simp only [Act.put,sA1,sS1,sZ1]
    refine wpL.tkB [7, 9] (i := 2) (d := some 34) (v := ?v2_31) rfl rfl hQ (Or.inl ⟨by rfl, ?y2_31⟩) ES ?_
    case y2_31 => intro w' hSw;have k0 := (b9.ext hSw).c4;have j0 := (hSw.cellv e0');have j1 := (hSw.cellv e1');have j2 := (hSw.cellv e2');have j3 := (hSw.cellv e3');go_simp;try with_reducible rfl
    try simp only [Act.put,sA1,sS1,sZ1]
    refine wpL.tkB [5, 6, 7, 9] (i := 3) (d := some 35) (v := ?v3_32) rfl rfl hQ (Or.inl ⟨by rfl, ?y3_32⟩) ES ?_
    case y3_32 => intro w' hSw;have j0 := (hSw.cellv e0');have j1 := (hSw.cellv e1');have j2 := (hSw.cellv e2');have j3 := (hSw.cellv e3');go_simp;try with_reducible rfl
    try simp only [Act.put,sA1,sS1,sZ1]
    refine wpL.tkB [5, 6, 7, 9] (i := 4) (d := some 36) (v := ?v4_33) rfl rfl hQ (Or.inl ⟨by rfl, ?y4_33⟩) ES ?_
    case y4_33 => intro w' hSw;have j0 := (hSw.cellv e0');have j1 := (hSw.cellv e1');have j2 := (hSw.cellv e2');have j3 := (hSw.cellv e3');go_simp;try with_reducible rfl
    try simp only [Act.put,sA1,sS1,sZ1]
    refine wpL.tkB [6, 7, 9] (i := 5) (d := some 37) (v := ?v5_34) rfl rfl hQ (Or.inl ⟨by rfl, ?y5_34⟩) ES ?_
    case y5_34 => intro w' hSw;have j0 := (hSw.cellv e0');have j1 := (hSw.cellv e1');have j2 := (hSw.cellv e2');have j3 := (hSw.cellv e3');go_simp;try with_reducible rfl
    try simp only [Act.put,sA1,sS1,sZ1]
    refine wpL.tkB [7, 9] (i := 6) (d := some 38) (v := ?v6_35) rfl rfl hQ (Or.inl ⟨by rfl, ?y6_35⟩) ES ?_
    case y6_35 => intro w' hSw;have k0 := (b9.ext hSw).c4;have j0 := (hSw.cellv e0');have j1 := (hSw.cellv e1');have j2 := (hSw.cellv e2');have j3 := (hSw.cellv e3');go_simp;try with_reducible rfl
    try simp only [Act.put,sA1,sS1,sZ1]
    refine wpL.call (i := 7) rfl (by kernel_rfl) (fun K hK => ?_);go_simp
    (go_at_call 53; refine (p_AddR (hx.ext ES) (hy.ext ES) (by omega) (by omega) (by omega) (hT.ext (ext.trans ES))).mono ?_; rintro e wk ⟨s7, A7, n7, c7, t7, B7, m7, d7, rfl, h7, hx7⟩; have E9 := Ext.trans ES hx7)
    refine hK.out _ _ E9 ?_;clear hK K
    try simp only [Act.put,sA1,sS1,sZ1]
    refine wpL.tkB [9] (i := 8) (d := some 40) (v := ?v8_36) rfl rfl hQ (Or.inl ⟨by rfl, ?y8_36⟩) E9 ?_
    case y8_36 => intro w' hSw;have k0 := hI1;go_simp;try with_reducible rfl
    try simp only [Act.put,sA1,sS1,sZ1]
    have hHk := hH.ext E9;obtain ⟨sz, Az, nz, cz, tz, Bz, mz, dz, p0, p1, p2, p3, _⟩ := hHk.get hkl;have f0 := hHk.frozen (k * 4);have f1 := hHk.frozen (k * 4 + 1);have f2 := hHk.frozen (k * 4 + 2);have f3 := hHk.frozen (k * 4 + 3);refine wpL.tail (i := 9) rfl (by kernel_rfl) (by kernel_rfl) (fun K hK => ?_);go_simp;refine hK.out _ _ ?_;clear hK K
    try simp only [Act.put,sA1,sS1,sZ1]
    refine wpL.done (by kernel_rfl) ?_ _;clear hQ
    go_wp2_with fail
    have extk := ext.trans E9;have hv : qs[k] + ps[k] = (sumP qs ps)[k] := by rw [HV.out, atP_lt hjq]
    rw [hv] at h7;have PP := hHk.put hkl (⟨h7.num.le (by omega), h7.den.le (by omega)⟩)
    go_roundw
    case rel => exact ⟨k + 1, by omega, by go_num, PP.2.2 _ extk (Nat.le_refl _), by rw [HT.out]; exact PP.1⟩
    case measure => simp [intOf]; omega
   ·have hge : ps.length ≤ k := by rw [HlQ.out]; omega
    have x0 := b9.cell 0 (.bool sx) rfl;have x1 := b9.cell 1 (.slice Ax nx cx) rfl;have x2 := b9.cell 2 (.bool tx) rfl;have x3 := b9.cell 3 (.slice Bx mx dx) rfl
    go_wp2_with fail
    refine (p_cloneR hx (by omega)).mono ?_;rintro e V ⟨s7, A7, n7, c7, t7, B7, m7, d7, rfl, h7, hxt⟩;clear x0 x1 x2 x3;have hHk := hH.ext hxt;have extk := ext.trans hxt;obtain ⟨sz, Az, nz, cz, tz, Bz, mz, dz, p0, p1, p2, p3, _⟩ := hHk.get hkl;have f0 := hHk.frozen (k * 4);have f1 := hHk.frozen (k * 4 + 1);have f2 := hHk.frozen (k * 4 + 2);have f3 := hHk.frozen (k * 4 + 3)
    go_wp2_with fail
    have hv : qs[k] = (sumP qs ps)[k] := by rw [HV.out, atP_ge hge, Rat.add_zero]
    rw [hv] at h7;have PP := hHk.put hkl (⟨h7.num.le (by omega), h7.den.le (by omega)⟩)
    go_roundw
    case rel => exact ⟨k + 1, by omega, by go_num, PP.2.2 _ extk (Nat.le_refl _), by rw [HT.out]; exact PP.1⟩
    case measure => simp [intOf]; omega
  ·have hkn : k = n := by omega
   rw [hkn, List.take_of_length_le (Nat.le_of_eq HSl.out), List.drop_of_length_le (Nat.le_of_eq HlP.out)] at hH;have hp : Pol wr (some ⟨w.heap.size, 0, none⟩) n n (sumP qs ps) (L + M + 1) := ⟨HSl.out, Nat.le_refl _, by unfold maxLen; omega, fun _ => ⟨_, 0, rfl, hH.rats⟩⟩
   go_wp2_with fail
   refine (p_cutR hp (by omega) (by omega)).mono ?_;rintro e V ⟨A8, n8, c8, rfl, h8, hxt⟩
   go_wp2_with fail
   go_ret
   exact ⟨A8, n8, c8, rfl, h8, ext.trans hxt⟩
set_option maxHeartbeats 16000000 in
set_option maxRecDepth 100000 in
theorem p_Add_lt (h : Pol w A n c qs L) (h' : Pol w B m d ps M) (hL : L ≤ 60) (hM : M ≤ 60) (_hn : n ≤ 1000) (hm : m ≤ 1000) (hle : n < m) (hT : Tab w) : Calls Tryz.prog 18 #[.slice A n c, .slice B m d] w (RetPol (trimP (sumP ps qs)) (L + M + 1) w) := by
 have hmk := mk_rats m (by omega);have HlP := Lib.hid h'.len;have HlQ := Lib.hid h.len;have HSl := Lib.hid (show (sumP ps qs).length = m by rw [sumP_len, h'.len, h.len]; omega);obtain ⟨w1, hcp, hH, hext⟩ := run_copy_rats (M := (L + M + 1)) 3 ((Ext.refl w).alloc (.cells (zeroC m).toArray 27)) (Nat.le_refl _) (Box.new w _ _) h'
 go_enter Tryz.func18, Tryz.ntmps18
 go_wp2_with fail
 clear hcp
 skip
 go_loopw [23] (fun i wr => ∃ k : Nat, k ≤ m ∧ i = .int .i64 (k : Int) ∧ Ext w wr ∧ Half wr w.heap.size ((sumP ps qs).take k) (ps.drop k) (L + M + 1) M) (fun i _ => m - (intOf i).toNat)
 case atStart => exact ⟨0, Nat.zero_le _, rfl, hext, hH⟩
 case round =>
  clear hH hext;obtain ⟨k, hk, rfl, ext, hH⟩ := hrel
  by_cases hlt : k < m
  ·have hj : k < ps.length := by rw [HlP.out]; exact hlt
   have hs : k < (sumP ps qs).length := by rw [HSl.out]; exact hlt
   have HT := Lib.hid (show (sumP ps qs).take (k + 1) = (sumP ps qs).take k ++ [(sumP ps qs)[k]] from List.take_succ_eq_append_getElem hs);have HV := Lib.hid (show (sumP ps qs)[k] = ps[k] + atP qs k by rw [sumP_at, atP_lt hj]);rw [List.drop_eq_getElem_cons hj] at hH;have hkl : ((sumP ps qs).take k).length = k := by rw [List.length_take, HSl.out]; omega
   have hI1 : (k : Int) < (m : Int) := by omega
   obtain ⟨sx, Ax, nx, cx, tx, Bx, mx, dx, e0, e1, e2, e3, hx⟩ := hH.get hkl
   go_upto_region 8 with (fail)
   obtain ⟨W3, hW3, ext3, b9, hz3⟩ := box1 wr 27 #[.bool sx, .slice Ax nx cx, .bool tx, .slice Bx mx dx];rw [← hW3];clear hW3 hz3 e0 e1 e2 e3;replace hx := hx.ext ext3;replace hH := hH.ext ext3;replace ext := ext.trans ext3;clear ext3
   by_cases hlq : k < n
   ·have hjq : k < qs.length := by rw [HlQ.out]; exact hlq
    obtain ⟨b, off, rfl, hr⟩ := h.at_ (fun e => by rw [e] at hjq; exact absurd hjq (Nat.not_lt_zero _));obtain ⟨sy, Ay, ny, cy, ty, By, my, dy, e0, e1, e2, e3, hy⟩ := (hr.ext ext).at_ k hjq;have e0' : W3.cell? ⟨b, off + k * 4, none⟩ = some (.bool sy) := by rw [Nat.mul_comm]; exact e0
    have e1' : W3.cell? ⟨b, off + k * 4 + 1, none⟩ = some (.slice Ay ny cy) := by rw [Nat.mul_comm]; exact e1
    have e2' : W3.cell? ⟨b, off + k * 4 + 2, none⟩ = some (.bool ty) := by rw [Nat.mul_comm]; exact e2
    have e3' : W3.cell? ⟨b, off + k * 4 + 3, none⟩ = some (.slice By my dy) := by rw [Nat.mul_comm]; exact e3
    clear e0 e1 e2 e3
    go_upto_region 9 with (fail)
    refine wpL.start 9 (by kernel_rfl) (fun _ _ _ _ _ => ⟨fun h => h, fun h => h⟩) (fun hQ ES => ?_);refine wpL.tkB [8, 9] (i := 0) (d := some 32) (v := ?v0_37) rfl rfl hQ (Or.inl ⟨by rfl, ?y0_37⟩) ES ?_
    case y0_37 => intro w' hSw;have j0 := (hSw.cellv e0');have j1 := (hSw.cellv e1');have j2 := (hSw.cellv e2');have j3 := (hSw.cellv e3');go_simp;try with_reducible rfl
    try simp only [Act.put,sA1,sS1,sZ1]
    refine wpL.tkB [8, 9] (i := 1) (d := some 33) (v := ?v1_38) rfl rfl hQ (Or.inl ⟨by rfl, ?y1_38⟩) ES ?_
    case y1_38 => intro w' hSw;have j0 := (hSw.cellv e0');have j1 := (hSw.cellv e1');have j2 := (hSw.cellv e2');have j3 := (hSw.cellv e3');go_simp;try with_reducible rfl
    try simp only [Act.put,sA1,sS1,sZ1]
    refine wpL.tkB [7, 9] (i := 2) (d := some 34) (v := ?v2_39) rfl rfl hQ (Or.inl ⟨by rfl, ?y2_39⟩) ES ?_
    case y2_39 => intro w' hSw;have k0 := (b9.ext hSw).c4;have j0 := (hSw.cellv e0');have j1 := (hSw.cellv e1');have j2 := (hSw.cellv e2');have j3 := (hSw.cellv e3');go_simp;try with_reducible rfl
    try simp only [Act.put,sA1,sS1,sZ1]
    refine wpL.tkB [5, 6, 7, 9] (i := 3) (d := some 35) (v := ?v3_40) rfl rfl hQ (Or.inl ⟨by rfl, ?y3_40⟩) ES ?_
    case y3_40 => intro w' hSw;have j0 := (hSw.cellv e0');have j1 := (hSw.cellv e1');have j2 := (hSw.cellv e2');have j3 := (hSw.cellv e3');go_simp;try with_reducible rfl
    try simp only [Act.put,sA1,sS1,sZ1]
    refine wpL.tkB [5, 6, 7, 9] (i := 4) (d := some 36) (v := ?v4_41) rfl rfl hQ (Or.inl ⟨by rfl, ?y4_41⟩) ES ?_
    case y4_41 => intro w' hSw;have j0 := (hSw.cellv e0');have j1 := (hSw.cellv e1');have j2 := (hSw.cellv e2');have j3 := (hSw.cellv e3');go_simp;try with_reducible rfl
    try simp only [Act.put,sA1,sS1,sZ1]
    refine wpL.tkB [6, 7, 9] (i := 5) (d := some 37) (v := ?v5_42) rfl rfl hQ (Or.inl ⟨by rfl, ?y5_42⟩) ES ?_
    case y5_42 => intro w' hSw;have j0 := (hSw.cellv e0');have j1 := (hSw.cellv e1');have j2 := (hSw.cellv e2');have j3 := (hSw.cellv e3');go_simp;try with_reducible rfl
    try simp only [Act.put,sA1,sS1,sZ1]
    refine wpL.tkB [7, 9] (i := 6) (d := some 38) (v := ?v6_43) rfl rfl hQ (Or.inl ⟨by rfl, ?y6_43⟩) ES ?_
    case y6_43 => intro w' hSw;have k0 := (b9.ext hSw).c4;have j0 := (hSw.cellv e0');have j1 := (hSw.cellv e1');have j2 := (hSw.cellv e2');have j3 := (hSw.cellv e3');go_simp;try with_reducible rfl
    try simp only [Act.put,sA1,sS1,sZ1]
    refine wpL.call (i := 7) rfl (by kernel_rfl) (fun K hK => ?_);go_simp
    (go_at_call 53; refine (p_AddR (hx.ext ES) (hy.ext ES) (by omega) (by omega) (by omega) (hT.ext (ext.trans ES))).mono ?_; rintro e wk ⟨s7, A7, n7, c7, t7, B7, m7, d7, rfl, h7, hx7⟩; have E9 := Ext.trans ES hx7)
    refine hK.out _ _ E9 ?_;clear hK K
    try simp only [Act.put,sA1,sS1,sZ1]
    refine wpL.tkB [9] (i := 8) (d := some 40) (v := ?v8_44) rfl rfl hQ (Or.inl ⟨by rfl, ?y8_44⟩) E9 ?_
    case y8_44 => intro w' hSw;have k0 := hI1;go_simp;try with_reducible rfl
    try simp only [Act.put,sA1,sS1,sZ1]
    have hHk := hH.ext E9;obtain ⟨sz, Az, nz, cz, tz, Bz, mz, dz, p0, p1, p2, p3, _⟩ := hHk.get hkl;have f0 := hHk.frozen (k * 4);have f1 := hHk.frozen (k * 4 + 1);have f2 := hHk.frozen (k * 4 + 2);have f3 := hHk.frozen (k * 4 + 3);refine wpL.tail (i := 9) rfl (by kernel_rfl) (by kernel_rfl) (fun K hK => ?_);go_simp;refine hK.out _ _ ?_;clear hK K
    try simp only [Act.put,sA1,sS1,sZ1]
    refine wpL.done (by kernel_rfl) ?_ _;clear hQ
    go_wp2_with fail
    have extk := ext.trans E9;have hv : ps[k] + qs[k] = (sumP ps qs)[k] := by rw [HV.out, atP_lt hjq]
    rw [hv] at h7;have PP := hHk.put hkl (⟨h7.num.le (by omega), h7.den.le (by omega)⟩)
    go_roundw
    case rel => exact ⟨k + 1, by omega, by go_num, PP.2.2 _ extk (Nat.le_refl _), by rw [HT.out]; exact PP.1⟩
    case measure => simp [intOf]; omega
   ·have hge : qs.length ≤ k := by rw [HlQ.out]; omega
    have x0 := b9.cell 0 (.bool sx) rfl;have x1 := b9.cell 1 (.slice Ax nx cx) rfl;have x2 := b9.cell 2 (.bool tx) rfl;have x3 := b9.cell 3 (.slice Bx mx dx) rfl
    go_wp2_with fail
    refine (p_cloneR hx (by omega)).mono ?_;rintro e V ⟨s7, A7, n7, c7, t7, B7, m7, d7, rfl, h7, hxt⟩;clear x0 x1 x2 x3;have hHk := hH.ext hxt;have extk := ext.trans hxt;obtain ⟨sz, Az, nz, cz, tz, Bz, mz, dz, p0, p1, p2, p3, _⟩ := hHk.get hkl;have f0 := hHk.frozen (k * 4);have f1 := hHk.frozen (k * 4 + 1);have f2 := hHk.frozen (k * 4 + 2);have f3 := hHk.frozen (k * 4 + 3)
    go_wp2_with fail
    have hv : ps[k] = (sumP ps qs)[k] := by rw [HV.out, atP_ge hge, Rat.add_zero]
    rw [hv] at h7;have PP := hHk.put hkl (⟨h7.num.le (by omega), h7.den.le (by omega)⟩)
    go_roundw
    case rel => exact ⟨k + 1, by omega, by go_num, PP.2.2 _ extk (Nat.le_refl _), by rw [HT.out]; exact PP.1⟩
    case measure => simp [intOf]; omega
  ·have hkn : k = m := by omega
   rw [hkn, List.take_of_length_le (Nat.le_of_eq HSl.out), List.drop_of_length_le (Nat.le_of_eq HlP.out)] at hH;have hp : Pol wr (some ⟨w.heap.size, 0, none⟩) m m (sumP ps qs) (L + M + 1) := ⟨HSl.out, Nat.le_refl _, by unfold maxLen; omega, fun _ => ⟨_, 0, rfl, hH.rats⟩⟩
   go_wp2_with fail
   refine (p_cutR hp (by omega) (by omega)).mono ?_;rintro e V ⟨A8, n8, c8, rfl, h8, hxt⟩
   go_wp2_with fail
   go_ret
   exact ⟨A8, n8, c8, rfl, h8, ext.trans hxt⟩
theorem p_AddP (h : Pol w A n c qs L) (h' : Pol w B m d ps M) (hL : L ≤ 60) (hM : M ≤ 60) (hn : n ≤ 1000) (hm : m ≤ 1000) (hT : Tab w) : Calls Tryz.prog 18 #[.slice A n c, .slice B m d] w (RetPol (trimP (sumP qs ps)) (L + M + 1) w) := by
 by_cases hlt : n < m
 ·rw [sumP_comm]
  exact p_Add_lt h h' hL hM hn hm hlt hT
 ·exact p_Add_ge h h' hL hM hn hm (by omega) hT
set_option maxHeartbeats 2000000 in
theorem p_SubP (h : Pol w A n c qs L) (h' : Pol w B m d ps M) (hL : L ≤ 60) (hM : M ≤ 60) (hn : n ≤ 1000) (hm : m ≤ 1000) (hT : Tab w) : Calls Tryz.prog 20 #[.slice A n c, .slice B m d] w (RetPol (trimP (sumP qs (negP ps))) (L + M + 1) w) := by
 have hlm := trimP_len (negP ps);have hl := h'.len;have hln : (negP ps).length = ps.length := List.length_map _
 go_enter Tryz.func20, Tryz.ntmps20
 go_wp2_with fail
 refine (p_each_Neg h' (by omega) hm).mono ?_;rintro e V ⟨A7, n7, c7, rfl, h7, hxt⟩;have hl7 := h7.len;rw [show List.map (fun x => -x) ps = negP ps from rfl] at h7 hl7
 go_wp2_with fail
 refine (p_AddP (h.ext hxt) h7 hL hM hn (by omega) (hT.ext hxt)).mono ?_;rintro e V2 ⟨A8, n8, c8, rfl, h8, hxt2⟩;rw [trimP_sum_r] at h8
 go_wp2_with fail
 go_ret
 exact ⟨A8, n8, c8, rfl, h8, hxt.trans hxt2⟩
end
section
variable {w : World} {A B : Option Addr} {n m c d L M : Nat} {qs ps : List Rat}
theorem good_same (h : Pol w A n c qs L) (h' : Pol w B m d ps M) (he : qs = ps) (hL2 : 2 ≤ L) (hL : L ≤ 100) (hM : M ≤ 100) (hn : n ≤ 1000) (hm : m ≤ 1000) : Calls Tryz.prog 12 #[.slice A n c, .slice B m d] w fun e w' => e = .returned (.bool true) ∧ Ext w w' := by
 have := good_P h h' hL2 hL hM hn hm
 rwa [show decide (qs = ps) = true from decide_eq_true he] at this
end
set_option maxHeartbeats 4000000 in
set_option maxRecDepth 100000 in
theorem add4_no0 {w : World} {Aa : Option Addr} {na ca : Nat} {rs : List RawR} {Ab : Option Addr} {nb cb : Nat} {ss : List RawR} {s t : Bool} {A B : Option Addr} {n c m d : Nat} {xs ys : List Nat} (hA : Awake4) (hT : Tab w) (h0 : RawP w Aa na ca rs) (h1 : RawP w Ab nb cb ss) (_hr : RI w A n c xs) (_hk : RI w B m d ys) (hf0 : (smallB rs 8 && smallB ss 8) = false) :
  Calls Tryz.prog 3 #[.slice Aa na ca, .slice Ab nb cb, .agg #[.bool s, .slice A n c, .bool t, .slice B m d]] w fun e w' => e = .returned (.bool true) ∧ Ext w w' := by
 have HF0 := Lib.hid hf0;clear hf0;have HA := Lib.hid hA;clear hA
 go_enter Tryz.func3, Tryz.ntmps3
 go_upto_region 1 with (fail)
 obtain ⟨W0, hW, extW, bx, hzz⟩ := box1 w 27 #[.bool s, .slice A n c, .bool t, .slice B m d];rw [← hW];clear hW hzz
 go_wp2_with fail
 refine (HA.out _ (hT.ext extW)).mono ?_;rintro e W ⟨rfl, hxt⟩;replace bx := bx.ext hxt;replace extW := extW.trans hxt;clear hxt;have e1 := (Ext.refl W).alloc (.cells #[.slice Aa na ca, .slice Ab nb cb] 22)
 go_wp2_with fail
 refine (few2_P (Box.new _ _ _) (h0.ext (extW.trans e1)) (h1.ext (extW.trans e1))).mono ?_;rintro e W1 ⟨rfl, hxt⟩;rw [HF0.out];replace extW := extW.trans (e1.trans hxt);replace bx := bx.ext (e1.trans hxt);clear e1 hxt
 go_wp2_with fail
 go_ret
 exact ⟨rfl, extW⟩
set_option maxHeartbeats 4000000 in
set_option maxRecDepth 100000 in
theorem add4_no1 {w : World} {Aa : Option Addr} {na ca : Nat} {rs : List RawR} {Ab : Option Addr} {nb cb : Nat} {ss : List RawR} {s t : Bool} {A B : Option Addr} {n c m d : Nat} {xs ys : List Nat} (hA : Awake4) (hT : Tab w) (h0 : RawP w Aa na ca rs) (h1 : RawP w Ab nb cb ss) (hr : RI w A n c xs) (hk : RI w B m d ys) (hf0 : (smallB rs 8 && smallB ss 8) = true) (hf1 : shortB s xs t ys = false) :
  Calls Tryz.prog 3 #[.slice Aa na ca, .slice Ab nb cb, .agg #[.bool s, .slice A n c, .bool t, .slice B m d]] w fun e w' => e = .returned (.bool true) ∧ Ext w w' := by
 have HF0 := Lib.hid hf0;have HF1 := Lib.hid hf1;clear hf0 hf1;have HA := Lib.hid hA;clear hA
 go_enter Tryz.func3, Tryz.ntmps3
 go_upto_region 1 with (fail)
 obtain ⟨W0, hW, extW, bx, hzz⟩ := box1 w 27 #[.bool s, .slice A n c, .bool t, .slice B m d];rw [← hW];clear hW hzz
 go_wp2_with fail
 refine (HA.out _ (hT.ext extW)).mono ?_;rintro e W ⟨rfl, hxt⟩;replace bx := bx.ext hxt;replace extW := extW.trans hxt;clear hxt;have e1 := (Ext.refl W).alloc (.cells #[.slice Aa na ca, .slice Ab nb cb] 22)
 go_wp2_with fail
 refine (few2_P (Box.new _ _ _) (h0.ext (extW.trans e1)) (h1.ext (extW.trans e1))).mono ?_;rintro e W1 ⟨rfl, hxt⟩;rw [HF0.out];replace extW := extW.trans (e1.trans hxt);replace bx := bx.ext (e1.trans hxt);clear e1 hxt;have k0 := bx.cell 0 _ rfl;have k1 := bx.cell 1 _ rfl;have k2 := bx.cell 2 _ rfl;have k3 := bx.cell 3 _ rfl
 go_wp2_with fail
 refine (q_Short (hr.ext extW) (hk.ext extW)).mono ?_;rintro e W2 ⟨rfl, hxt⟩;rw [HF1.out];replace extW := extW.trans hxt;replace bx := bx.ext hxt;clear hxt k0 k1 k2 k3
 go_wp2_with fail
 go_ret
 exact ⟨rfl, extW⟩
set_option maxHeartbeats 32000000 in
set_option maxRecDepth 100000 in
theorem add4_yes {w : World} {Aa : Option Addr} {na ca : Nat} {rs : List RawR} {Ab : Option Addr} {nb cb : Nat} {ss : List RawR} {s t : Bool} {A B : Option Addr} {n c m d : Nat} {xs ys : List Nat} (hA : Awake4) (hT : Tab w) (h0 : RawP w Aa na ca rs) (h1 : RawP w Ab nb cb ss) (hr : RI w A n c xs) (hk : RI w B m d ys) (hf0 : (smallB rs 8 && smallB ss 8) = true) (hf1 : shortB s xs t ys = true) :
  Calls Tryz.prog 3 #[.slice Aa na ca, .slice Ab nb cb, .agg #[.bool s, .slice A n c, .bool t, .slice B m d]] w fun e w' => e = .returned (.bool true) ∧ Ext w w' := by
 have hf' := hf0;simp only [smallB, Bool.and_eq_true, decide_eq_true_eq] at hf';obtain ⟨⟨l0, f0⟩, l1, f1⟩ := hf';have p0 := h0.pol f0;have m0 : (rs.map RawR.q).length ≤ 8 := by rw [List.length_map]; exact l0
 generalize rs.map RawR.q = qa at p0 m0;have n0 : na ≤ 8 := by rw [← p0.len]; exact m0
 clear l0 f0;have p1 := h1.pol f1;have m1 : (ss.map RawR.q).length ≤ 8 := by rw [List.length_map]; exact l1
 generalize ss.map RawR.q = qb at p1 m1;have n1 : nb ≤ 8 := by rw [← p1.len]; exact m1
 clear l1 f1;obtain ⟨v1, v2, v3⟩ := shortB_le hf1;have hx := NR.of_raw' (L := 4) hr hk v3 (by rw [← hr.len]; exact v1) (by rw [← hk.len]; exact v2);generalize rawQ s xs t ys = x at hx;clear v1 v2 v3;have HF0 := Lib.hid hf0;have HF1 := Lib.hid hf1;have HA := Lib.hid hA;clear hA
 go_enter Tryz.func3, Tryz.ntmps3
 go_upto_region 1 with (fail)
 obtain ⟨W0, hW, extW, bx, hzz⟩ := box1 w 27 #[.bool s, .slice A n c, .bool t, .slice B m d];rw [← hW];clear hW hzz
 go_wp2_with fail
 refine (HA.out _ (hT.ext extW)).mono ?_;rintro e W ⟨rfl, hxt⟩;replace bx := bx.ext hxt;replace extW := extW.trans hxt;clear hxt;have e1 := (Ext.refl W).alloc (.cells #[.slice Aa na ca, .slice Ab nb cb] 22)
 go_wp2_with fail
 refine (few2_P (Box.new _ _ _) (h0.ext (extW.trans e1)) (h1.ext (extW.trans e1))).mono ?_;rintro e W1 ⟨rfl, hxt⟩;rw [HF0.out];replace extW := extW.trans (e1.trans hxt);replace bx := bx.ext (e1.trans hxt);clear e1 hxt;have k0 := bx.cell 0 _ rfl;have k1 := bx.cell 1 _ rfl;have k2 := bx.cell 2 _ rfl;have k3 := bx.cell 3 _ rfl
 go_wp2_with fail
 refine (q_Short (hr.ext extW) (hk.ext extW)).mono ?_;rintro e W2 ⟨rfl, hxt⟩;rw [HF1.out];replace extW := extW.trans hxt;replace bx := bx.ext hxt;clear hxt k0 k1 k2 k3;replace p0 := p0.ext extW;replace p1 := p1.ext extW;replace hx := hx.ext extW;have T0 : (trimP qa).length ≤ 8 := Nat.le_trans (trimP_len _) m0;have T1 : (trimP (sumP qa qb)).length ≤ 8 := by have := trimP_len (sumP qa qb); rw [sumP_len] at this; omega
 have T2 : (trimP (sumP qa (negP qb))).length ≤ 8 := by have := trimP_len (sumP qa (negP qb)); rw [sumP_len, show (negP qb).length = qb.length by unfold negP; simp] at this; omega
 have T3 : (trimP (scaleP qa x)).length ≤ 8 := by have := trimP_len (scaleP qa x); rw [show (scaleP qa x).length = qa.length by unfold scaleP; simp] at this; omega
 go_upto_region 5 with (fail)
 have ES0 := Ext.refl W2;refine wp_region_held_drew (S := Ext W2) (by kernel_rfl) ES0.drew (fun ES => ?_);clear ES0;refine Late.start0 (fun _ _ _ _ _ => ⟨fun h => h, fun h => h⟩) ES (fun hAl hQ => ?_);refine Late.tk (i := 0) (d := some 19) (v := ?v0_29) rfl rfl hQ (Or.inl ⟨by rfl, ?y0_29⟩) ?_
 case y0_29 => intro w' hSw;go_simp;try with_reducible rfl
 try simp only [Act.put,sA1,sS1,sZ1]
 refine Late.tk (i := 3) (d := some 22) (v := ?v3_30) rfl rfl hQ (Or.inl ⟨by rfl, ?y3_30⟩) ?_
 case y3_30 => intro w' hSw;go_simp;try with_reducible rfl
 try simp only [Act.put,sA1,sS1,sZ1]
 refine Late.call (i := 1) rfl (by kernel_rfl) hAl (by kernel_rfl) (by kernel_rfl) (by kernel_rfl) hQ (fun w1 e1 E1 K hK => ?_);go_simp
 (go_at_call 14; refine (own_P (p0.ext E1) (by omega)).mono ?_; rintro e wk1 ⟨A1_, n1_, c1_, rfl, o1, hx1⟩; have u1 : n1_ ≤ 8 := by rw [← o1.len]; exact m0)
 refine hK.out _ _ hx1 ?_;clear hK K
 try simp only [Act.put,sA1,sS1,sZ1]
 refine Late.call (i := 2) rfl (by kernel_rfl) hAl (by kernel_rfl) (by kernel_rfl) (by kernel_rfl) hQ (fun w2 e2 E2 K hK => ?_);go_simp
 (replace o1 := o1.ext e2; go_at_call 13; refine (p_TrimP o1 (by omega) (by omega)).mono ?_; rintro e wk2 ⟨A2_, n2_, c2_, rfl, t1, hx2⟩; replace o1 := o1.ext hx2; have u2 : n2_ ≤ 8 := by rw [← t1.len]; exact T0)
 refine hK.out _ _ hx2 ?_;clear hK K
 try simp only [Act.put,sA1,sS1,sZ1]
 refine Late.call (i := 4) rfl (by kernel_rfl) hAl (by kernel_rfl) (by kernel_rfl) (by kernel_rfl) hQ (fun w4 e4 E4 K hK => ?_);go_simp
 (replace o1 := o1.ext e4; replace t1 := t1.ext e4; go_at_call 15; refine (q_TrimP (p0.ext E4) (by omega) (by omega)).mono ?_; rintro e wk4 ⟨A3_, n3_, c3_, rfl, t2, hx4⟩; replace o1 := o1.ext hx4; replace t1 := t1.ext hx4; have u3 : n3_ ≤ 8 := by rw [← t2.len]; exact T0)
 refine hK.out _ _ hx4 ?_;clear hK K
 try simp only [Act.put,sA1,sS1,sZ1]
 refine Late.call (i := 5) rfl (by kernel_rfl) hAl (by kernel_rfl) (by kernel_rfl) (by kernel_rfl) hQ (fun w5 e5 E5 K hK => ?_);go_simp
 (replace o1 := o1.ext e5; replace t1 := t1.ext e5; replace t2 := t2.ext e5; go_at_call 12; refine (good_same t1 t2 rfl (by omega) (by omega) (by omega) (by omega) (by omega)).mono ?_; rintro e wk5 ⟨rfl, hx5⟩; replace o1 := o1.ext hx5; replace t1 := t1.ext hx5; replace t2 := t2.ext hx5)
 refine hK.out _ _ hx5 ?_;clear hK K
 try simp only [Act.put,sA1,sS1,sZ1]
 refine Late.tk (i := 6) (d := some 25) (v := ?v6_31) rfl rfl hQ (Or.inl ⟨by rfl, ?y6_31⟩) ?_
 case y6_31 => intro w' hSw;go_simp;try with_reducible rfl
 try simp only [Act.put,sA1,sS1,sZ1]
 refine Late.tk (i := 7) (d := some 26) (v := ?v7_32) rfl rfl hQ (Or.inl ⟨by rfl, ?y7_32⟩) ?_
 case y7_32 => intro w' hSw;go_simp;try with_reducible rfl
 try simp only [Act.put,sA1,sS1,sZ1]
 refine Late.tk (i := 10) (d := some 29) (v := ?v10_33) rfl rfl hQ (Or.inl ⟨by rfl, ?y10_33⟩) ?_
 case y10_33 => intro w' hSw;go_simp;try with_reducible rfl
 try simp only [Act.put,sA1,sS1,sZ1]
 refine Late.call (i := 8) rfl (by kernel_rfl) hAl (by kernel_rfl) (by kernel_rfl) (by kernel_rfl) hQ (fun w8 e8 E8 K hK => ?_);go_simp
 (replace o1 := o1.ext e8; replace t1 := t1.ext e8; replace t2 := t2.ext e8; go_at_call 14; refine (own_P (p0.ext E8) (by omega)).mono ?_; rintro e wk8 ⟨A4_, n4_, c4_, rfl, o2, hx8⟩; replace o1 := o1.ext hx8; replace t1 := t1.ext hx8; replace t2 := t2.ext hx8; have u4 : n4_ ≤ 8 := by rw [← o2.len]; exact m0)
 refine hK.out _ _ hx8 ?_;clear hK K
 try simp only [Act.put,sA1,sS1,sZ1]
 refine Late.call (i := 9) rfl (by kernel_rfl) hAl (by kernel_rfl) (by kernel_rfl) (by kernel_rfl) hQ (fun w9 e9 E9 K hK => ?_);go_simp
 (replace o1 := o1.ext e9; replace t1 := t1.ext e9; replace t2 := t2.ext e9; replace o2 := o2.ext e9; go_at_call 16; refine (p_DegreeP o2 (by omega) (by omega)).mono ?_; rintro e wk9 ⟨rfl, hx9⟩; replace o1 := o1.ext hx9; replace t1 := t1.ext hx9; replace t2 := t2.ext hx9; replace o2 := o2.ext hx9)
 refine hK.out _ _ hx9 ?_;clear hK K
 try simp only [Act.put,sA1,sS1,sZ1]
 refine Late.call (i := 11) rfl (by kernel_rfl) hAl (by kernel_rfl) (by kernel_rfl) (by kernel_rfl) hQ (fun w11 e11 E11 K hK => ?_);go_simp
 (replace o1 := o1.ext e11; replace t1 := t1.ext e11; replace t2 := t2.ext e11; replace o2 := o2.ext e11; go_at_call 17; refine (q_DegreeP (p0.ext E11) (by omega) (by omega)).mono ?_; rintro e wk11 ⟨rfl, hx11⟩; replace o1 := o1.ext hx11; replace t1 := t1.ext hx11; replace t2 := t2.ext hx11; replace o2 := o2.ext hx11)
 refine hK.out _ _ hx11 ?_;clear hK K
 try simp only [Act.put,sA1,sS1,sZ1]
 refine Late.tk (i := 12) (d := some 31) (v := ?v12_34) rfl rfl hQ (Or.inl ⟨by rfl, ?y12_34⟩) ?_
 case y12_34 => intro w' hSw;go_simp;try with_reducible rfl
 try simp only [Act.put,sA1,sS1,sZ1]
 refine Late.tk (i := 13) (d := some 32) (v := ?v13_35) rfl rfl hQ (Or.inl ⟨by rfl, ?y13_35⟩) ?_
 case y13_35 => intro w' hSw;go_simp;try with_reducible rfl
 try simp only [Act.put,sA1,sS1,sZ1]
 refine Late.tk (i := 14) (d := some 33) (v := ?v14_36) rfl rfl hQ (Or.inl ⟨by rfl, ?y14_36⟩) ?_
 case y14_36 => intro w' hSw;go_simp;try with_reducible rfl
 try simp only [Act.put,sA1,sS1,sZ1]
 refine Late.tk (i := 15) (d := some 34) (v := ?v15_37) rfl rfl hQ (Or.inl ⟨by rfl, ?y15_37⟩) ?_
 case y15_37 => intro w' hSw;go_simp;try with_reducible rfl
 try simp only [Act.put,sA1,sS1,sZ1]
 refine Late.tk (i := 17) (d := some 36) (v := ?v17_38) rfl rfl hQ (Or.inl ⟨by rfl, ?y17_38⟩) ?_
 case y17_38 => intro w' hSw;go_simp;try with_reducible rfl
 try simp only [Act.put,sA1,sS1,sZ1]
 refine Late.tk (i := 20) (d := some 39) (v := ?v20_39) rfl rfl hQ (Or.inl ⟨by rfl, ?y20_39⟩) ?_
 case y20_39 => intro w' hSw;go_simp;try with_reducible rfl
 try simp only [Act.put,sA1,sS1,sZ1]
 refine Late.tk (i := 21) (d := some 40) (v := ?v21_40) rfl rfl hQ (Or.inl ⟨by rfl, ?y21_40⟩) ?_
 case y21_40 => intro w' hSw;go_simp;try with_reducible rfl
 try simp only [Act.put,sA1,sS1,sZ1]
 refine Late.call (i := 16) rfl (by kernel_rfl) hAl (by kernel_rfl) (by kernel_rfl) (by kernel_rfl) hQ (fun w16 e16 E16 K hK => ?_);go_simp
 (replace o1 := o1.ext e16; replace t1 := t1.ext e16; replace t2 := t2.ext e16; replace o2 := o2.ext e16; go_at_call 14; refine (own_P (p0.ext E16) (by omega)).mono ?_; rintro e wk16 ⟨A5_, n5_, c5_, rfl, o3, hx16⟩; replace o1 := o1.ext hx16; replace t1 := t1.ext hx16; replace t2 := t2.ext hx16; replace o2 := o2.ext hx16; have u5 : n5_ ≤ 8 := by rw [← o3.len]; exact m0)
 refine hK.out _ _ hx16 ?_;clear hK K
 try simp only [Act.put,sA1,sS1,sZ1]
 refine Late.call (i := 18) rfl (by kernel_rfl) hAl (by kernel_rfl) (by kernel_rfl) (by kernel_rfl) hQ (fun w18 e18 E18 K hK => ?_);go_simp
 (replace o1 := o1.ext e18; replace t1 := t1.ext e18; replace t2 := t2.ext e18; replace o2 := o2.ext e18; replace o3 := o3.ext e18; go_at_call 14; refine (own_P (p1.ext E18) (by omega)).mono ?_; rintro e wk18 ⟨A6_, n6_, c6_, rfl, o4, hx18⟩; replace o1 := o1.ext hx18; replace t1 := t1.ext hx18; replace t2 := t2.ext hx18; replace o2 := o2.ext hx18; replace o3 := o3.ext hx18; have u6 : n6_ ≤ 8 := by rw [← o4.len]; exact m1)
 refine hK.out _ _ hx18 ?_;clear hK K
 try simp only [Act.put,sA1,sS1,sZ1]
 refine Late.call (i := 19) rfl (by kernel_rfl) hAl (by kernel_rfl) (by kernel_rfl) (by kernel_rfl) hQ (fun w19 e19 E19 K hK => ?_);go_simp
 (replace o1 := o1.ext e19; replace t1 := t1.ext e19; replace t2 := t2.ext e19; replace o2 := o2.ext e19; replace o3 := o3.ext e19; replace o4 := o4.ext e19; go_at_call 18; refine (p_AddP o3 o4 (by omega) (by omega) (by omega) (by omega) (hT.ext (extW.trans E19))).mono ?_; rintro e wk19 ⟨A7_, n7_, c7_, rfl, t3, hx19⟩; replace o1 := o1.ext hx19; replace t1 := t1.ext hx19; replace t2 := t2.ext hx19; replace o2 := o2.ext hx19; replace o3 := o3.ext hx19; replace o4 := o4.ext hx19; have u7 : n7_ ≤ 8 := by rw [← t3.len]; exact T1)
 refine hK.out _ _ hx19 ?_;clear hK K
 try simp only [Act.put,sA1,sS1,sZ1]
 refine Late.call (i := 22) rfl (by kernel_rfl) hAl (by kernel_rfl) (by kernel_rfl) (by kernel_rfl) hQ (fun w22 e22 E22 K hK => ?_);go_simp
 (replace o1 := o1.ext e22; replace t1 := t1.ext e22; replace t2 := t2.ext e22; replace o2 := o2.ext e22; replace o3 := o3.ext e22; replace o4 := o4.ext e22; replace t3 := t3.ext e22; go_at_call 19; refine (q_AddP (p0.ext E22) (p1.ext E22) (by omega) (by omega) (by omega) (by omega) (by omega) (by omega)).mono ?_; rintro e wk22 ⟨A8_, n8_, c8_, rfl, t4, hx22⟩; replace o1 := o1.ext hx22; replace t1 := t1.ext hx22; replace t2 := t2.ext hx22; replace o2 := o2.ext hx22; replace o3 := o3.ext hx22; replace o4 := o4.ext hx22; replace t3 := t3.ext hx22; have u8 : n8_ ≤ 8 := by rw [← t4.len]; exact T1)
 refine hK.out _ _ hx22 ?_;clear hK K
 try simp only [Act.put,sA1,sS1,sZ1]
 refine Late.call (i := 23) rfl (by kernel_rfl) hAl (by kernel_rfl) (by kernel_rfl) (by kernel_rfl) hQ (fun w23 e23 E23 K hK => ?_);go_simp
 (replace o1 := o1.ext e23; replace t1 := t1.ext e23; replace t2 := t2.ext e23; replace o2 := o2.ext e23; replace o3 := o3.ext e23; replace o4 := o4.ext e23; replace t3 := t3.ext e23; replace t4 := t4.ext e23; go_at_call 12; refine (good_same t3 t4 rfl (by omega) (by omega) (by omega) (by omega) (by omega)).mono ?_; rintro e wk23 ⟨rfl, hx23⟩; replace o1 := o1.ext hx23; replace t1 := t1.ext hx23; replace t2 := t2.ext hx23; replace o2 := o2.ext hx23; replace o3 := o3.ext hx23; replace o4 := o4.ext hx23; replace t3 := t3.ext hx23; replace t4 := t4.ext hx23)
 refine hK.out _ _ hx23 ?_;clear hK K
 try simp only [Act.put,sA1,sS1,sZ1]
 refine Late.tk (i := 24) (d := some 43) (v := ?v24_41) rfl rfl hQ (Or.inl ⟨by rfl, ?y24_41⟩) ?_
 case y24_41 => intro w' hSw;go_simp;try with_reducible rfl
 try simp only [Act.put,sA1,sS1,sZ1]
 refine Late.tk (i := 25) (d := some 44) (v := ?v25_42) rfl rfl hQ (Or.inl ⟨by rfl, ?y25_42⟩) ?_
 case y25_42 => intro w' hSw;go_simp;try with_reducible rfl
 try simp only [Act.put,sA1,sS1,sZ1]
 refine Late.tk (i := 26) (d := some 45) (v := ?v26_43) rfl rfl hQ (Or.inl ⟨by rfl, ?y26_43⟩) ?_
 case y26_43 => intro w' hSw;go_simp;try with_reducible rfl
 try simp only [Act.put,sA1,sS1,sZ1]
 refine Late.tk (i := 28) (d := some 47) (v := ?v28_44) rfl rfl hQ (Or.inl ⟨by rfl, ?y28_44⟩) ?_
 case y28_44 => intro w' hSw;go_simp;try with_reducible rfl
 try simp only [Act.put,sA1,sS1,sZ1]
 refine Late.tk (i := 31) (d := some 50) (v := ?v31_45) rfl rfl hQ (Or.inl ⟨by rfl, ?y31_45⟩) ?_
 case y31_45 => intro w' hSw;go_simp;try with_reducible rfl
 try simp only [Act.put,sA1,sS1,sZ1]
 refine Late.tk (i := 32) (d := some 51) (v := ?v32_46) rfl rfl hQ (Or.inl ⟨by rfl, ?y32_46⟩) ?_
 case y32_46 => intro w' hSw;go_simp;try with_reducible rfl
 try simp only [Act.put,sA1,sS1,sZ1]
 refine Late.call (i := 27) rfl (by kernel_rfl) hAl (by kernel_rfl) (by kernel_rfl) (by kernel_rfl) hQ (fun w27 e27 E27 K hK => ?_);go_simp
 (replace o1 := o1.ext e27; replace t1 := t1.ext e27; replace t2 := t2.ext e27; replace o2 := o2.ext e27; replace o3 := o3.ext e27; replace o4 := o4.ext e27; replace t3 := t3.ext e27; replace t4 := t4.ext e27; go_at_call 14; refine (own_P (p0.ext E27) (by omega)).mono ?_; rintro e wk27 ⟨A9_, n9_, c9_, rfl, o5, hx27⟩; replace o1 := o1.ext hx27; replace t1 := t1.ext hx27; replace t2 := t2.ext hx27; replace o2 := o2.ext hx27; replace o3 := o3.ext hx27; replace o4 := o4.ext hx27; replace t3 := t3.ext hx27; replace t4 := t4.ext hx27; have u9 : n9_ ≤ 8 := by rw [← o5.len]; exact m0)
 refine hK.out _ _ hx27 ?_;clear hK K
 try simp only [Act.put,sA1,sS1,sZ1]
 refine Late.call (i := 29) rfl (by kernel_rfl) hAl (by kernel_rfl) (by kernel_rfl) (by kernel_rfl) hQ (fun w29 e29 E29 K hK => ?_);go_simp
 (replace o1 := o1.ext e29; replace t1 := t1.ext e29; replace t2 := t2.ext e29; replace o2 := o2.ext e29; replace o3 := o3.ext e29; replace o4 := o4.ext e29; replace t3 := t3.ext e29; replace t4 := t4.ext e29; replace o5 := o5.ext e29; go_at_call 14; refine (own_P (p1.ext E29) (by omega)).mono ?_; rintro e wk29 ⟨A10_, n10_, c10_, rfl, o6, hx29⟩; replace o1 := o1.ext hx29; replace t1 := t1.ext hx29; replace t2 := t2.ext hx29; replace o2 := o2.ext hx29; replace o3 := o3.ext hx29; replace o4 := o4.ext hx29; replace t3 := t3.ext hx29; replace t4 := t4.ext hx29; replace o5 := o5.ext hx29; have u10 : n10_ ≤ 8 := by rw [← o6.len]; exact m1)
 refine hK.out _ _ hx29 ?_;clear hK K
 try simp only [Act.put,sA1,sS1,sZ1]
 refine Late.call (i := 30) rfl (by kernel_rfl) hAl (by kernel_rfl) (by kernel_rfl) (by kernel_rfl) hQ (fun w30 e30 E30 K hK => ?_);go_simp
 (replace o1 := o1.ext e30; replace t1 := t1.ext e30; replace t2 := t2.ext e30; replace o2 := o2.ext e30; replace o3 := o3.ext e30; replace o4 := o4.ext e30; replace t3 := t3.ext e30; replace t4 := t4.ext e30; replace o5 := o5.ext e30; replace o6 := o6.ext e30; go_at_call 20; refine (p_SubP o5 o6 (by omega) (by omega) (by omega) (by omega) (hT.ext (extW.trans E30))).mono ?_; rintro e wk30 ⟨A11_, n11_, c11_, rfl, t5, hx30⟩; replace o1 := o1.ext hx30; replace t1 := t1.ext hx30; replace t2 := t2.ext hx30; replace o2 := o2.ext hx30; replace o3 := o3.ext hx30; replace o4 := o4.ext hx30; replace t3 := t3.ext hx30; replace t4 := t4.ext hx30; replace o5 := o5.ext hx30; replace o6 := o6.ext hx30; have u11 : n11_ ≤ 8 := by rw [← t5.len]; exact T2)
 refine hK.out _ _ hx30 ?_;clear hK K
 try simp only [Act.put,sA1,sS1,sZ1]
 refine Late.call (i := 33) rfl (by kernel_rfl) hAl (by kernel_rfl) (by kernel_rfl) (by kernel_rfl) hQ (fun w33 e33 E33 K hK => ?_);go_simp
 (replace o1 := o1.ext e33; replace t1 := t1.ext e33; replace t2 := t2.ext e33; replace o2 := o2.ext e33; replace o3 := o3.ext e33; replace o4 := o4.ext e33; replace t3 := t3.ext e33; replace t4 := t4.ext e33; replace o5 := o5.ext e33; replace o6 := o6.ext e33; replace t5 := t5.ext e33; go_at_call 21; refine (q_SubP (p0.ext E33) (p1.ext E33) (by omega) (by omega) (by omega) (by omega) (by omega)).mono ?_; rintro e wk33 ⟨A12_, n12_, c12_, rfl, t6, hx33⟩; replace o1 := o1.ext hx33; replace t1 := t1.ext hx33; replace t2 := t2.ext hx33; replace o2 := o2.ext hx33; replace o3 := o3.ext hx33; replace o4 := o4.ext hx33; replace t3 := t3.ext hx33; replace t4 := t4.ext hx33; replace o5 := o5.ext hx33; replace o6 := o6.ext hx33; replace t5 := t5.ext hx33; have u12 : n12_ ≤ 8 := by rw [← t6.len]; exact T2)
 refine hK.out _ _ hx33 ?_;clear hK K
 try simp only [Act.put,sA1,sS1,sZ1]
 refine Late.call (i := 34) rfl (by kernel_rfl) hAl (by kernel_rfl) (by kernel_rfl) (by kernel_rfl) hQ (fun w34 e34 E34 K hK => ?_);go_simp
 (replace o1 := o1.ext e34; replace t1 := t1.ext e34; replace t2 := t2.ext e34; replace o2 := o2.ext e34; replace o3 := o3.ext e34; replace o4 := o4.ext e34; replace t3 := t3.ext e34; replace t4 := t4.ext e34; replace o5 := o5.ext e34; replace o6 := o6.ext e34; replace t5 := t5.ext e34; replace t6 := t6.ext e34; go_at_call 12; refine (good_same t5 t6 rfl (by omega) (by omega) (by omega) (by omega) (by omega)).mono ?_; rintro e wk34 ⟨rfl, hx34⟩; replace o1 := o1.ext hx34; replace t1 := t1.ext hx34; replace t2 := t2.ext hx34; replace o2 := o2.ext hx34; replace o3 := o3.ext hx34; replace o4 := o4.ext hx34; replace t3 := t3.ext hx34; replace t4 := t4.ext hx34; replace o5 := o5.ext hx34; replace o6 := o6.ext hx34; replace t5 := t5.ext hx34; replace t6 := t6.ext hx34)
 refine hK.out _ _ hx34 ?_;clear hK K
 try simp only [Act.put,sA1,sS1,sZ1]
 refine Late.tk (i := 35) (d := some 54) (v := ?v35_47) rfl rfl hQ (Or.inl ⟨by rfl, ?y35_47⟩) ?_
 case y35_47 => intro w' hSw;go_simp;try with_reducible rfl
 try simp only [Act.put,sA1,sS1,sZ1]
 refine Late.tk (i := 36) (d := some 55) (v := ?v36_48) rfl rfl hQ (Or.inl ⟨by rfl, ?y36_48⟩) ?_
 case y36_48 => intro w' hSw;go_simp;try with_reducible rfl
 try simp only [Act.put,sA1,sS1,sZ1]
 refine Late.tk (i := 37) (d := some 56) (v := ?v37_49) rfl rfl hQ (Or.inl ⟨by rfl, ?y37_49⟩) ?_
 case y37_49 => intro w' hSw;go_simp;try with_reducible rfl
 try simp only [Act.put,sA1,sS1,sZ1]
 refine Late.tk (i := 39) (d := some 58) (v := ?v39_50) rfl rfl hQ (Or.inl ⟨by rfl, ?y39_50⟩) ?_
 case y39_50 => intro w' hSw;have k00 := (bx.ext hSw).c4;go_simp;try with_reducible rfl
 try simp only [Act.put,sA1,sS1,sZ1]
 refine Late.tk (i := 41) (d := some 60) (v := ?v41_51) rfl rfl hQ (Or.inl ⟨by rfl, ?y41_51⟩) ?_
 case y41_51 => intro w' hSw;go_simp;try with_reducible rfl
 try simp only [Act.put,sA1,sS1,sZ1]
 refine Late.tk (i := 42) (d := some 61) (v := ?v42_52) rfl rfl hQ (Or.inl ⟨by rfl, ?y42_52⟩) ?_
 case y42_52 => intro w' hSw;have k00 := (bx.ext hSw).c4;go_simp;try with_reducible rfl
 try simp only [Act.put,sA1,sS1,sZ1]
 refine Late.call (i := 38) rfl (by kernel_rfl) hAl (by kernel_rfl) (by kernel_rfl) (by kernel_rfl) hQ (fun w38 e38 E38 K hK => ?_);go_simp
 (replace o1 := o1.ext e38; replace t1 := t1.ext e38; replace t2 := t2.ext e38; replace o2 := o2.ext e38; replace o3 := o3.ext e38; replace o4 := o4.ext e38; replace t3 := t3.ext e38; replace t4 := t4.ext e38; replace o5 := o5.ext e38; replace o6 := o6.ext e38; replace t5 := t5.ext e38; replace t6 := t6.ext e38; go_at_call 14; refine (own_P (p0.ext E38) (by omega)).mono ?_; rintro e wk38 ⟨A13_, n13_, c13_, rfl, o7, hx38⟩; replace o1 := o1.ext hx38; replace t1 := t1.ext hx38; replace t2 := t2.ext hx38; replace o2 := o2.ext hx38; replace o3 := o3.ext hx38; replace o4 := o4.ext hx38; replace t3 := t3.ext hx38; replace t4 := t4.ext hx38; replace o5 := o5.ext hx38; replace o6 := o6.ext hx38; replace t5 := t5.ext hx38; replace t6 := t6.ext hx38; have u13 : n13_ ≤ 8 := by rw [← o7.len]; exact m0)
 refine hK.out _ _ hx38 ?_;clear hK K
 try simp only [Act.put,sA1,sS1,sZ1]
 refine Late.call (i := 40) rfl (by kernel_rfl) hAl (by kernel_rfl) (by kernel_rfl) (by kernel_rfl) hQ (fun w40 e40 E40 K hK => ?_);go_simp
 (replace o1 := o1.ext e40; replace t1 := t1.ext e40; replace t2 := t2.ext e40; replace o2 := o2.ext e40; replace o3 := o3.ext e40; replace o4 := o4.ext e40; replace t3 := t3.ext e40; replace t4 := t4.ext e40; replace o5 := o5.ext e40; replace o6 := o6.ext e40; replace t5 := t5.ext e40; replace t6 := t6.ext e40; replace o7 := o7.ext e40; go_at_call 22; refine (p_ScaleP o7 (hx.ext E40) (by omega) (by omega) (by omega) (hT.ext (extW.trans E40))).mono ?_; rintro e wk40 ⟨A14_, n14_, c14_, rfl, t7, hx40⟩; replace o1 := o1.ext hx40; replace t1 := t1.ext hx40; replace t2 := t2.ext hx40; replace o2 := o2.ext hx40; replace o3 := o3.ext hx40; replace o4 := o4.ext hx40; replace t3 := t3.ext hx40; replace t4 := t4.ext hx40; replace o5 := o5.ext hx40; replace o6 := o6.ext hx40; replace t5 := t5.ext hx40; replace t6 := t6.ext hx40; replace o7 := o7.ext hx40; have u14 : n14_ ≤ 8 := by rw [← t7.len]; exact T3)
 refine hK.out _ _ hx40 ?_;clear hK K
 try simp only [Act.put,sA1,sS1,sZ1]
 refine Late.call (i := 43) rfl (by kernel_rfl) hAl (by kernel_rfl) (by kernel_rfl) (by kernel_rfl) hQ (fun w43 e43 E43 K hK => ?_);go_simp
 (replace o1 := o1.ext e43; replace t1 := t1.ext e43; replace t2 := t2.ext e43; replace o2 := o2.ext e43; replace o3 := o3.ext e43; replace o4 := o4.ext e43; replace t3 := t3.ext e43; replace t4 := t4.ext e43; replace o5 := o5.ext e43; replace o6 := o6.ext e43; replace t5 := t5.ext e43; replace t6 := t6.ext e43; replace o7 := o7.ext e43; replace t7 := t7.ext e43; go_at_call 23; refine (q_ScaleP (p0.ext E43) (hx.ext E43) (by omega) (by omega) (by omega)).mono ?_; rintro e wk43 ⟨A15_, n15_, c15_, rfl, t8, hx43⟩; replace o1 := o1.ext hx43; replace t1 := t1.ext hx43; replace t2 := t2.ext hx43; replace o2 := o2.ext hx43; replace o3 := o3.ext hx43; replace o4 := o4.ext hx43; replace t3 := t3.ext hx43; replace t4 := t4.ext hx43; replace o5 := o5.ext hx43; replace o6 := o6.ext hx43; replace t5 := t5.ext hx43; replace t6 := t6.ext hx43; replace o7 := o7.ext hx43; replace t7 := t7.ext hx43; have u15 : n15_ ≤ 8 := by rw [← t8.len]; exact T3)
 refine hK.out _ _ hx43 ?_;clear hK K
 try simp only [Act.put,sA1,sS1,sZ1]
 refine Late.call (i := 44) rfl (by kernel_rfl) hAl (by kernel_rfl) (by kernel_rfl) (by kernel_rfl) hQ (fun w44 e44 E44 K hK => ?_);go_simp
 (replace o1 := o1.ext e44; replace t1 := t1.ext e44; replace t2 := t2.ext e44; replace o2 := o2.ext e44; replace o3 := o3.ext e44; replace o4 := o4.ext e44; replace t3 := t3.ext e44; replace t4 := t4.ext e44; replace o5 := o5.ext e44; replace o6 := o6.ext e44; replace t5 := t5.ext e44; replace t6 := t6.ext e44; replace o7 := o7.ext e44; replace t7 := t7.ext e44; replace t8 := t8.ext e44; go_at_call 12; refine (good_same t7 t8 rfl (by omega) (by omega) (by omega) (by omega) (by omega)).mono ?_; rintro e wk44 ⟨rfl, hx44⟩; replace o1 := o1.ext hx44; replace t1 := t1.ext hx44; replace t2 := t2.ext hx44; replace o2 := o2.ext hx44; replace o3 := o3.ext hx44; replace o4 := o4.ext hx44; replace t3 := t3.ext hx44; replace t4 := t4.ext hx44; replace o5 := o5.ext hx44; replace o6 := o6.ext hx44; replace t5 := t5.ext hx44; replace t6 := t6.ext hx44; replace o7 := o7.ext hx44; replace t7 := t7.ext hx44; replace t8 := t8.ext hx44)
 refine hK.out _ _ hx44 ?_;clear hK K
 try simp only [Act.put,sA1,sS1,sZ1]
 refine Late.tk (i := 45) (d := some 64) (v := ?v45_53) rfl rfl hQ (Or.inl ⟨by rfl, ?y45_53⟩) ?_
 case y45_53 => intro w' hSw;go_simp;try with_reducible rfl
 try simp only [Act.put,sA1,sS1,sZ1]
 refine Late.tk (i := 46) (d := some 6) (v := ?v46_54) rfl rfl hQ (Or.inl ⟨by rfl, ?y46_54⟩) ?_
 case y46_54 => intro w' hSw;go_simp;try with_reducible rfl
 try simp only [Act.put,sA1,sS1,sZ1]
 refine Late.done0 (by kernel_rfl) (fun wz ez Ez => ?_);clear hAl hQ ES
 go_wp2_with fail
 go_ret
 exact ⟨rfl, extW.trans Ez⟩
theorem add4_any {w : World} {Aa : Option Addr} {na ca : Nat} {rs : List RawR} {Ab : Option Addr} {nb cb : Nat} {ss : List RawR} {s t : Bool} {A B : Option Addr} {n c m d : Nat} {xs ys : List Nat} (hA : Awake4) (hT : Tab w) (h0 : RawP w Aa na ca rs) (h1 : RawP w Ab nb cb ss) (hr : RI w A n c xs) (hk : RI w B m d ys) :
  Calls Tryz.prog 3 #[.slice Aa na ca, .slice Ab nb cb, .agg #[.bool s, .slice A n c, .bool t, .slice B m d]] w fun e w' => e = .returned (.bool true) ∧ Ext w w' := by
 by_cases hf0 : (smallB rs 8 && smallB ss 8) = true
 ·by_cases hf1 : shortB s xs t ys = true
  ·exact add4_yes hA hT h0 h1 hr hk hf0 hf1
  ·exact add4_no1 hA hT h0 h1 hr hk hf0 (Bool.eq_false_iff.2 hf1)
 ·exact add4_no0 hA hT h0 h1 hr hk (Bool.eq_false_iff.2 hf0)
set_option maxHeartbeats 32000000 in
set_option maxRecDepth 100000 in
theorem awake4 : Awake4 := by
 intro w hT
 go_enter Tryz.func9, Tryz.ntmps9
 have ext := Ext.refl w
 go_wp2_with fail
 refine (rats0 (Box.new _ _ _)).mono ?_;rintro e W1 ⟨Aa0, na0, ca0, rfl, a0, x1⟩;have y1 := ((Ext.refl w).alloc _).trans x1;replace hT := hT.ext y1;replace ext := ext.trans y1;have hna0 : na0 = 3 := a0.len.symm;subst hna0;clear y1;clear x1
 go_wp2_with fail
 refine (rats1 (Box.new _ _ _)).mono ?_;rintro e W2 ⟨Aa1, na1, ca1, rfl, a1, x2⟩;have y2 := ((Ext.refl W1).alloc _).trans x2;replace a0 := a0.ext y2;replace hT := hT.ext y2;replace ext := ext.trans y2;have hna1 : na1 = 2 := a1.len.symm;subst hna1;clear y2;clear x2
 go_wp2_with fail
 refine (dm_call a0 a1 hT).mono ?_;rintro e W3 ⟨Aq, nq, cq, Ar, nr, cr, rfl, hq, hr, x3⟩;replace a0 := a0.ext x3;replace a1 := a1.ext x3;replace hT := hT.ext x3;replace ext := ext.trans x3;have hnq : nq = 2 := hq.len.symm;subst hnq;have hnr : nr = 0 := hr.len.symm;subst hnr;clear hr;clear x3;clear a0;clear a1
 go_wp2_with fail
 refine (rats2 (Box.new _ _ _)).mono ?_;rintro e W4 ⟨Aa2, na2, ca2, rfl, a2, x4⟩;have y4 := ((Ext.refl W3).alloc _).trans x4;replace hq := hq.ext y4;replace hT := hT.ext y4;replace ext := ext.trans y4;have hna2 : na2 = 4 := a2.len.symm;subst hna2;clear y4;clear x4
 go_wp2_with fail
 refine (p_Squarefree_ex a2 (by omega) hT).mono ?_;rintro e W5 ⟨As, ns, cs, rfl, hs, x5⟩;replace hq := hq.ext x5;replace a2 := a2.ext x5;replace hT := hT.ext x5;replace ext := ext.trans x5;have hns : ns = 3 := hs.len.symm;subst hns;clear x5;clear a2
 go_wp2_with fail
 refine (rats3 (Box.new _ _ _)).mono ?_;rintro e W6 ⟨Aa3, na3, ca3, rfl, a3, x6⟩;have y6 := ((Ext.refl W5).alloc _).trans x6;replace hq := hq.ext y6;replace hs := hs.ext y6;replace hT := hT.ext y6;replace ext := ext.trans y6;have hna3 : na3 = 2 := a3.len.symm;subst hna3;clear y6;clear x6
 go_wp2_with fail
 refine (pr_call1 a3 hT).mono ?_;rintro e W7 ⟨Ap, np, cp, rfl, hp, x7⟩;replace hq := hq.ext x7;replace hs := hs.ext x7;replace a3 := a3.ext x7;replace hT := hT.ext x7;replace ext := ext.trans x7;have hnp : np = 2 := hp.len.symm;subst hnp;clear x7;clear a3
 go_wp2_with fail
 refine (rats4 (Box.new _ _ _)).mono ?_;rintro e W8 ⟨Aa4, na4, ca4, rfl, a4, x8⟩;have y8 := ((Ext.refl W7).alloc _).trans x8;replace hq := hq.ext y8;replace hs := hs.ext y8;replace hp := hp.ext y8;replace hT := hT.ext y8;replace ext := ext.trans y8;have hna4 : na4 = 2 := a4.len.symm;subst hna4;clear y8;clear x8
 go_wp2_with fail
 refine (pr_call2 a4 hT).mono ?_;rintro e W9 ⟨Ai, ni, ci, rfl, hi, x9⟩;replace hq := hq.ext x9;replace hs := hs.ext x9;replace hp := hp.ext x9;replace a4 := a4.ext x9;replace hT := hT.ext x9;replace ext := ext.trans x9;have hni : ni = 2 := hi.len.symm;subst hni;clear x9;clear a4
 go_wp2_with fail
 refine (rats5 (Box.new _ _ _)).mono ?_;rintro e W10 ⟨Aa5, na5, ca5, rfl, a5, x10⟩;have y10 := ((Ext.refl W9).alloc _).trans x10;replace hq := hq.ext y10;replace hs := hs.ext y10;replace hp := hp.ext y10;replace hi := hi.ext y10;replace hT := hT.ext y10;replace ext := ext.trans y10;have hna5 : na5 = 3 := a5.len.symm;subst hna5;clear y10;clear x10
 go_wp2_with fail
 refine (bo_call a5 hT).mono ?_;rintro e W11 ⟨sb, Ab, nb, cb, tb, Bb, mb, db, rfl, hb, x11⟩;replace hq := hq.ext x11;replace hs := hs.ext x11;replace hp := hp.ext x11;replace hi := hi.ext x11;replace a5 := a5.ext x11;replace hT := hT.ext x11;replace ext := ext.trans x11;clear x11;clear a5
 go_upto_region 6 with (fail)
 obtain ⟨W12, hW12, xb, b7, hzb⟩ := box1 W11 27 #[.bool sb, .slice Ab nb cb, .bool tb, .slice Bb mb db];rw [← hW12];clear hW12 hzb;replace hq := hq.ext xb;replace hs := hs.ext xb;replace hp := hp.ext xb;replace hi := hi.ext xb;replace hb := hb.ext xb;replace hT := hT.ext xb;replace ext := ext.trans xb;clear xb;generalize W11.heap.size = g7 at b7 ⊢
 go_wp2_with fail
 refine (rats6 (Box.new _ _ _)).mono ?_;rintro e W13 ⟨Aa6, na6, ca6, rfl, a6, x13⟩;have y13 := ((Ext.refl W12).alloc _).trans x13;replace hq := hq.ext y13;replace hs := hs.ext y13;replace hp := hp.ext y13;replace hi := hi.ext y13;replace hb := hb.ext y13;replace b7 := b7.ext y13;replace hT := hT.ext y13;replace ext := ext.trans y13;have hna6 : na6 = 3 := a6.len.symm;subst hna6;clear y13;clear x13
 go_wp2_with fail
 refine (rats7 (Box.new _ _ _)).mono ?_;rintro e W14 ⟨Aa7, na7, ca7, rfl, a7, x14⟩;have y14 := ((Ext.refl W13).alloc _).trans x14;replace hq := hq.ext y14;replace hs := hs.ext y14;replace hp := hp.ext y14;replace hi := hi.ext y14;replace hb := hb.ext y14;replace b7 := b7.ext y14;replace a6 := a6.ext y14;replace hT := hT.ext y14;replace ext := ext.trans y14;have hna7 : na7 = 2 := a7.len.symm;subst hna7;clear y14;clear x14
 go_wp2_with fail
 refine (co_call a6 a7 hT).mono ?_;rintro e W15 ⟨Ac, nc, cc, rfl, hc, x15⟩;replace hq := hq.ext x15;replace hs := hs.ext x15;replace hp := hp.ext x15;replace hi := hi.ext x15;replace hb := hb.ext x15;replace b7 := b7.ext x15;replace a6 := a6.ext x15;replace a7 := a7.ext x15;replace hT := hT.ext x15;replace ext := ext.trans x15;have hnc : nc = 3 := hc.len.symm;subst hnc;clear x15;clear a6;clear a7
 go_upto_region 7 with (fail)
 have ES0 := Ext.refl W15;refine wp_region_held_drew (S := Ext W15) (by kernel_rfl) ES0.drew (fun ES => ?_);clear ES0;refine Late.start0 (fun _ _ _ _ _ => ⟨fun h => h, fun h => h⟩) ES (fun hAl hQ => ?_);replace hq := hq.ext ES;replace hs := hs.ext ES;replace hp := hp.ext ES;replace hi := hi.ext ES;replace hb := hb.ext ES;replace hc := hc.ext ES;refine Late.tk (i := 0) (d := some 56) (v := ?v0_29) rfl rfl hQ (Or.inl ⟨by rfl, ?y0_29⟩) ?_
 case y0_29 => intro w' hSw;go_simp;try with_reducible rfl
 try simp only [Act.put,sA1,sS1,sZ1]
 refine Late.tk (i := 1) (d := some 57) (v := ?v1_30) rfl rfl hQ (Or.inl ⟨by rfl, ?y1_30⟩) ?_
 case y1_30 => intro w' hSw;go_simp;try with_reducible rfl
 try simp only [Act.put,sA1,sS1,sZ1]
 refine Late.tk (i := 2) (d := some 58) (v := ?v2_31) rfl rfl hQ (Or.inl ⟨by rfl, ?y2_31⟩) ?_
 case y2_31 => intro w' hSw;go_simp;try with_reducible rfl
 try simp only [Act.put,sA1,sS1,sZ1]
 refine Late.tk (i := 3) (d := some 59) (v := ?v3_32) rfl rfl hQ (Or.inl ⟨by rfl, ?y3_32⟩) ?_
 case y3_32 => intro w' hSw;go_simp;try with_reducible rfl
 try simp only [Act.put,sA1,sS1,sZ1]
 refine Late.tk (i := 4) (d := some 60) (v := ?v4_33) rfl rfl hQ (Or.inl ⟨by rfl, ?y4_33⟩) ?_
 case y4_33 => intro w' hSw;go_simp;try with_reducible rfl
 try simp only [Act.put,sA1,sS1,sZ1]
 refine Late.tk (i := 5) (d := some 61) (v := ?v5_34) rfl rfl hQ (Or.inl ⟨by rfl, ?y5_34⟩) ?_
 case y5_34 => intro w' hSw;go_simp;try with_reducible rfl
 try simp only [Act.put,sA1,sS1,sZ1]
 refine Late.call (i := 6) rfl (by kernel_rfl) hAl (by kernel_rfl) (by kernel_rfl) (by kernel_rfl) hQ (fun w6 e6 E6 K hK => ?_);go_simp;replace hq := hq.ext e6;replace hs := hs.ext e6;replace hp := hp.ext e6;replace hi := hi.ext e6;replace hb := hb.ext e6;replace hc := hc.ext e6;have y6 := (Ext.refl w6).alloc (.cells #[.int .i64 (-1), .int .i64 (2), .int .i64 (1), .int .i64 (2)] 53);have bx := Box.new w6 53 #[.int .i64 (-1), .int .i64 (2), .int .i64 (1), .int .i64 (2)];replace hq := hq.ext y6;replace hs := hs.ext y6;replace hp := hp.ext y6;replace hi := hi.ext y6;replace hb := hb.ext y6;replace hc := hc.ext y6;obtain ⟨g6, hg6⟩ : ∃ g, w6.heap.size = g := ⟨_, rfl⟩;rw [hg6] at bx ⊢;clear hg6;refine hK.out _ _ y6 ?_;clear hK K
 try simp only [Act.put,sA1,sS1,sZ1]
 refine Late.call (i := 7) rfl (by kernel_rfl) hAl (by kernel_rfl) (by kernel_rfl) (by kernel_rfl) hQ (fun w7 e7 E7 K hK => ?_);go_simp
 (replace hq := hq.ext e7; replace hs := hs.ext e7; replace hp := hp.ext e7; replace hi := hi.ext e7; replace hb := hb.ext e7; replace hc := hc.ext e7; replace bx := bx.ext e7; go_at_call 43; refine (rats8 bx).mono ?_; rintro e wk7 ⟨Aq8, nq8, cq8, rfl, q8, hx7⟩; replace hq := hq.ext hx7; replace hs := hs.ext hx7; replace hp := hp.ext hx7; replace hi := hi.ext hx7; replace hb := hb.ext hx7; replace hc := hc.ext hx7; have hnq8 : nq8 = 2 := q8.len.symm; subst hnq8)
 refine hK.out _ _ hx7 ?_;clear hK K
 try simp only [Act.put,sA1,sS1,sZ1]
 refine Late.call (i := 8) rfl (by kernel_rfl) hAl (by kernel_rfl) (by kernel_rfl) (by kernel_rfl) hQ (fun w8 e8 E8 K hK => ?_);go_simp
 (replace hq := hq.ext e8; replace hs := hs.ext e8; replace hp := hp.ext e8; replace hi := hi.ext e8; replace hb := hb.ext e8; replace hc := hc.ext e8; replace q8 := q8.ext e8; go_at_call 45; refine (eq_call hq q8 rfl (by omega) (by omega) (by omega) (by omega) (by omega)).mono ?_; rintro e wk8 ⟨rfl, hx8⟩; replace hq := hq.ext hx8; replace hs := hs.ext hx8; replace hp := hp.ext hx8; replace hi := hi.ext hx8; replace hb := hb.ext hx8; replace hc := hc.ext hx8; replace q8 := q8.ext hx8)
 refine hK.out _ _ hx8 ?_;clear hK K
 try simp only [Act.put,sA1,sS1,sZ1]
 refine Late.tk (i := 9) (d := some 65) (v := ?v9_35) rfl rfl hQ (Or.inl ⟨by rfl, ?y9_35⟩) ?_
 case y9_35 => intro w' hSw;go_simp;try with_reducible rfl
 try simp only [Act.put,sA1,sS1,sZ1]
 refine Late.tk (i := 10) (d := some 66) (v := ?v10_36) rfl rfl hQ (Or.inl ⟨by rfl, ?y10_36⟩) ?_
 case y10_36 => intro w' hSw;go_simp;try with_reducible rfl
 try simp only [Act.put,sA1,sS1,sZ1]
 refine Late.tk (i := 11) (d := some 67) (v := ?v11_37) rfl rfl hQ (Or.inl ⟨by rfl, ?y11_37⟩) ?_
 case y11_37 => intro w' hSw;go_simp;try with_reducible rfl
 try simp only [Act.put,sA1,sS1,sZ1]
 refine Late.tk (i := 12) (d := some 68) (v := ?v12_38) rfl rfl hQ (Or.inl ⟨by rfl, ?y12_38⟩) ?_
 case y12_38 => intro w' hSw;go_simp;try with_reducible rfl
 try simp only [Act.put,sA1,sS1,sZ1]
 refine Late.tk (i := 13) (d := some 69) (v := ?v13_39) rfl rfl hQ (Or.inl ⟨by rfl, ?y13_39⟩) ?_
 case y13_39 => intro w' hSw;go_simp;try with_reducible rfl
 try simp only [Act.put,sA1,sS1,sZ1]
 refine Late.tk (i := 14) (d := some 70) (v := ?v14_40) rfl rfl hQ (Or.inl ⟨by rfl, ?y14_40⟩) ?_
 case y14_40 => intro w' hSw;go_simp;try with_reducible rfl
 try simp only [Act.put,sA1,sS1,sZ1]
 refine Late.tk (i := 15) (d := some 71) (v := ?v15_41) rfl rfl hQ (Or.inl ⟨by rfl, ?y15_41⟩) ?_
 case y15_41 => intro w' hSw;go_simp;try with_reducible rfl
 try simp only [Act.put,sA1,sS1,sZ1]
 refine Late.tk (i := 16) (d := some 72) (v := ?v16_42) rfl rfl hQ (Or.inl ⟨by rfl, ?y16_42⟩) ?_
 case y16_42 => intro w' hSw;go_simp;try with_reducible rfl
 try simp only [Act.put,sA1,sS1,sZ1]
 refine Late.tk (i := 17) (d := some 73) (v := ?v17_43) rfl rfl hQ (Or.inl ⟨by rfl, ?y17_43⟩) ?_
 case y17_43 => intro w' hSw;go_simp;try with_reducible rfl
 try simp only [Act.put,sA1,sS1,sZ1]
 refine Late.tk (i := 18) (d := some 74) (v := ?v18_44) rfl rfl hQ (Or.inl ⟨by rfl, ?y18_44⟩) ?_
 case y18_44 => intro w' hSw;go_simp;try with_reducible rfl
 try simp only [Act.put,sA1,sS1,sZ1]
 refine Late.tk (i := 19) (d := some 75) (v := ?v19_45) rfl rfl hQ (Or.inl ⟨by rfl, ?y19_45⟩) ?_
 case y19_45 => intro w' hSw;go_simp;try with_reducible rfl
 try simp only [Act.put,sA1,sS1,sZ1]
 refine Late.call (i := 20) rfl (by kernel_rfl) hAl (by kernel_rfl) (by kernel_rfl) (by kernel_rfl) hQ (fun w20 e20 E20 K hK => ?_);go_simp;replace hq := hq.ext e20;replace hs := hs.ext e20;replace hp := hp.ext e20;replace hi := hi.ext e20;replace hb := hb.ext e20;replace hc := hc.ext e20;have y20 := (Ext.refl w20).alloc (.cells #[.int .i64 (0), .int .i64 (1), .int .i64 (-1), .int .i64 (1), .int .i64 (1), .int .i64 (1)] 53);have bx := Box.new w20 53 #[.int .i64 (0), .int .i64 (1), .int .i64 (-1), .int .i64 (1), .int .i64 (1), .int .i64 (1)];replace hq := hq.ext y20;replace hs := hs.ext y20;replace hp := hp.ext y20;replace hi := hi.ext y20;replace hb := hb.ext y20;replace hc := hc.ext y20;obtain ⟨g20, hg20⟩ : ∃ g, w20.heap.size = g := ⟨_, rfl⟩;rw [hg20] at bx ⊢;clear hg20;refine hK.out _ _ y20 ?_;clear hK K
 try simp only [Act.put,sA1,sS1,sZ1]
 refine Late.call (i := 21) rfl (by kernel_rfl) hAl (by kernel_rfl) (by kernel_rfl) (by kernel_rfl) hQ (fun w21 e21 E21 K hK => ?_);go_simp
 (replace hq := hq.ext e21; replace hs := hs.ext e21; replace hp := hp.ext e21; replace hi := hi.ext e21; replace hb := hb.ext e21; replace hc := hc.ext e21; replace bx := bx.ext e21; go_at_call 43; refine (rats9 bx).mono ?_; rintro e wk21 ⟨Aq9, nq9, cq9, rfl, q9, hx21⟩; replace hq := hq.ext hx21; replace hs := hs.ext hx21; replace hp := hp.ext hx21; replace hi := hi.ext hx21; replace hb := hb.ext hx21; replace hc := hc.ext hx21; have hnq9 : nq9 = 3 := q9.len.symm; subst hnq9)
 refine hK.out _ _ hx21 ?_;clear hK K
 try simp only [Act.put,sA1,sS1,sZ1]
 refine Late.call (i := 22) rfl (by kernel_rfl) hAl (by kernel_rfl) (by kernel_rfl) (by kernel_rfl) hQ (fun w22 e22 E22 K hK => ?_);go_simp
 (replace hq := hq.ext e22; replace hs := hs.ext e22; replace hp := hp.ext e22; replace hi := hi.ext e22; replace hb := hb.ext e22; replace hc := hc.ext e22; replace q9 := q9.ext e22; go_at_call 45; refine (eq_call hs q9 rfl (by omega) (by omega) (by omega) (by omega) (by omega)).mono ?_; rintro e wk22 ⟨rfl, hx22⟩; replace hq := hq.ext hx22; replace hs := hs.ext hx22; replace hp := hp.ext hx22; replace hi := hi.ext hx22; replace hb := hb.ext hx22; replace hc := hc.ext hx22; replace q9 := q9.ext hx22)
 refine hK.out _ _ hx22 ?_;clear hK K
 try simp only [Act.put,sA1,sS1,sZ1]
 refine Late.tk (i := 23) (d := some 79) (v := ?v23_46) rfl rfl hQ (Or.inl ⟨by rfl, ?y23_46⟩) ?_
 case y23_46 => intro w' hSw;go_simp;try with_reducible rfl
 try simp only [Act.put,sA1,sS1,sZ1]
 refine Late.tk (i := 24) (d := some 80) (v := ?v24_47) rfl rfl hQ (Or.inl ⟨by rfl, ?y24_47⟩) ?_
 case y24_47 => intro w' hSw;go_simp;try with_reducible rfl
 try simp only [Act.put,sA1,sS1,sZ1]
 refine Late.tk (i := 25) (d := some 81) (v := ?v25_48) rfl rfl hQ (Or.inl ⟨by rfl, ?y25_48⟩) ?_
 case y25_48 => intro w' hSw;go_simp;try with_reducible rfl
 try simp only [Act.put,sA1,sS1,sZ1]
 refine Late.call (i := 26) rfl (by kernel_rfl) hAl (by kernel_rfl) (by kernel_rfl) (by kernel_rfl) hQ (fun w26 e26 E26 K hK => ?_);go_simp;replace hq := hq.ext e26;replace hs := hs.ext e26;replace hp := hp.ext e26;replace hi := hi.ext e26;replace hb := hb.ext e26;replace hc := hc.ext e26;have y26 := (Ext.refl w26).alloc (.cells #[.int .i64 (-2), .int .i64 3] 2);have bx := Box.new w26 2 #[.int .i64 (-2), .int .i64 3];replace hq := hq.ext y26;replace hs := hs.ext y26;replace hp := hp.ext y26;replace hi := hi.ext y26;replace hb := hb.ext y26;replace hc := hc.ext y26;obtain ⟨g26, hg26⟩ : ∃ g, w26.heap.size = g := ⟨_, rfl⟩;rw [hg26] at bx ⊢;clear hg26;refine hK.out _ _ y26 ?_;clear hK K
 try simp only [Act.put,sA1,sS1,sZ1]
 refine Late.call (i := 27) rfl (by kernel_rfl) hAl (by kernel_rfl) (by kernel_rfl) (by kernel_rfl) hQ (fun w27 e27 E27 K hK => ?_);go_simp
 (replace hq := hq.ext e27; replace hs := hs.ext e27; replace hp := hp.ext e27; replace hi := hi.ext e27; replace hb := hb.ext e27; replace hc := hc.ext e27; replace bx := bx.ext e27; go_at_call 46; refine (ints_call1 hp bx).mono ?_; rintro e wk27 ⟨rfl, hx27⟩; replace hq := hq.ext hx27; replace hs := hs.ext hx27; replace hp := hp.ext hx27; replace hi := hi.ext hx27; replace hb := hb.ext hx27; replace hc := hc.ext hx27)
 refine hK.out _ _ hx27 ?_;clear hK K
 try simp only [Act.put,sA1,sS1,sZ1]
 refine Late.tk (i := 28) (d := some 84) (v := ?v28_49) rfl rfl hQ (Or.inl ⟨by rfl, ?y28_49⟩) ?_
 case y28_49 => intro w' hSw;go_simp;try with_reducible rfl
 try simp only [Act.put,sA1,sS1,sZ1]
 refine Late.tk (i := 29) (d := some 85) (v := ?v29_50) rfl rfl hQ (Or.inl ⟨by rfl, ?y29_50⟩) ?_
 case y29_50 => intro w' hSw;go_simp;try with_reducible rfl
 try simp only [Act.put,sA1,sS1,sZ1]
 refine Late.tk (i := 30) (d := some 86) (v := ?v30_51) rfl rfl hQ (Or.inl ⟨by rfl, ?y30_51⟩) ?_
 case y30_51 => intro w' hSw;go_simp;try with_reducible rfl
 try simp only [Act.put,sA1,sS1,sZ1]
 refine Late.call (i := 31) rfl (by kernel_rfl) hAl (by kernel_rfl) (by kernel_rfl) (by kernel_rfl) hQ (fun w31 e31 E31 K hK => ?_);go_simp;replace hq := hq.ext e31;replace hs := hs.ext e31;replace hp := hp.ext e31;replace hi := hi.ext e31;replace hb := hb.ext e31;replace hc := hc.ext e31;have y31 := (Ext.refl w31).alloc (.cells #[.int .i64 0, .int .i64 1] 2);have bx := Box.new w31 2 #[.int .i64 0, .int .i64 1];replace hq := hq.ext y31;replace hs := hs.ext y31;replace hp := hp.ext y31;replace hi := hi.ext y31;replace hb := hb.ext y31;replace hc := hc.ext y31;obtain ⟨g31, hg31⟩ : ∃ g, w31.heap.size = g := ⟨_, rfl⟩;rw [hg31] at bx ⊢;clear hg31;refine hK.out _ _ y31 ?_;clear hK K
 try simp only [Act.put,sA1,sS1,sZ1]
 refine Late.call (i := 32) rfl (by kernel_rfl) hAl (by kernel_rfl) (by kernel_rfl) (by kernel_rfl) hQ (fun w32 e32 E32 K hK => ?_);go_simp
 (replace hq := hq.ext e32; replace hs := hs.ext e32; replace hp := hp.ext e32; replace hi := hi.ext e32; replace hb := hb.ext e32; replace hc := hc.ext e32; replace bx := bx.ext e32; go_at_call 46; refine (ints_call2 hi bx).mono ?_; rintro e wk32 ⟨rfl, hx32⟩; replace hq := hq.ext hx32; replace hs := hs.ext hx32; replace hp := hp.ext hx32; replace hi := hi.ext hx32; replace hb := hb.ext hx32; replace hc := hc.ext hx32)
 refine hK.out _ _ hx32 ?_;clear hK K
 try simp only [Act.put,sA1,sS1,sZ1]
 refine Late.tk (i := 33) (d := some 89) (v := ?v33_52) rfl rfl hQ (Or.inl ⟨by rfl, ?y33_52⟩) ?_
 case y33_52 => intro w' hSw;go_simp;try with_reducible rfl
 try simp only [Act.put,sA1,sS1,sZ1]
 refine Late.tk (i := 34) (d := some 90) (v := ?v34_53) rfl rfl hQ (Or.inl ⟨by rfl, ?y34_53⟩) ?_
 case y34_53 => intro w' hSw;go_simp;try with_reducible rfl
 try simp only [Act.put,sA1,sS1,sZ1]
 refine Late.tk (i := 35) (d := some 91) (v := ?v35_54) rfl rfl hQ (Or.inl ⟨by rfl, ?y35_54⟩) ?_
 case y35_54 => intro w' hSw;have k0 := (b7.ext hSw).c4;go_simp;try with_reducible rfl
 try simp only [Act.put,sA1,sS1,sZ1]
 refine Late.call (i := 36) rfl (by kernel_rfl) hAl (by kernel_rfl) (by kernel_rfl) (by kernel_rfl) hQ (fun w36 e36 E36 K hK => ?_);go_simp
 (replace hq := hq.ext e36; replace hs := hs.ext e36; replace hp := hp.ext e36; replace hi := hi.ext e36; replace hb := hb.ext e36; replace hc := hc.ext e36; go_at_call 30; refine (q_ValidN hb (by omega)).mono ?_; rintro e wk36 ⟨rfl, hx36⟩; replace hq := hq.ext hx36; replace hs := hs.ext hx36; replace hp := hp.ext hx36; replace hi := hi.ext hx36; replace hb := hb.ext hx36; replace hc := hc.ext hx36)
 refine hK.out _ _ hx36 ?_;clear hK K
 try simp only [Act.put,sA1,sS1,sZ1]
 refine Late.tk (i := 37) (d := some 93) (v := ?v37_55) rfl rfl hQ (Or.inl ⟨by rfl, ?y37_55⟩) ?_
 case y37_55 => intro w' hSw;go_simp;try with_reducible rfl
 try simp only [Act.put,sA1,sS1,sZ1]
 refine Late.tk (i := 38) (d := some 94) (v := ?v38_56) rfl rfl hQ (Or.inl ⟨by rfl, ?y38_56⟩) ?_
 case y38_56 => intro w' hSw;go_simp;try with_reducible rfl
 try simp only [Act.put,sA1,sS1,sZ1]
 refine Late.tk (i := 39) (d := some 95) (v := ?v39_57) rfl rfl hQ (Or.inl ⟨by rfl, ?y39_57⟩) ?_
 case y39_57 => intro w' hSw;have k0 := (b7.ext hSw).c4;go_simp;try with_reducible rfl
 try simp only [Act.put,sA1,sS1,sZ1]
 refine Late.call (i := 40) rfl (by kernel_rfl) hAl (by kernel_rfl) (by kernel_rfl) (by kernel_rfl) hQ (fun w40 e40 E40 K hK => ?_);go_simp
 (replace hq := hq.ext e40; replace hs := hs.ext e40; replace hp := hp.ext e40; replace hi := hi.ext e40; replace hb := hb.ext e40; replace hc := hc.ext e40; go_at_call 47; refine (q_Frac 5 2 (by omega) (by omega) (by omega) (by omega)).mono ?_; rintro e wk40 ⟨s5, A5, n5, c5, t5, B5, m5, d5, rfl, h5, hx40⟩; replace hq := hq.ext hx40; replace hs := hs.ext hx40; replace hp := hp.ext hx40; replace hi := hi.ext hx40; replace hb := hb.ext hx40; replace hc := hc.ext hx40)
 refine hK.out _ _ hx40 ?_;clear hK K
 try simp only [Act.put,sA1,sS1,sZ1]
 refine Late.call (i := 41) rfl (by kernel_rfl) hAl (by kernel_rfl) (by kernel_rfl) (by kernel_rfl) hQ (fun w41 e41 E41 K hK => ?_);go_simp
 (replace hq := hq.ext e41; replace hs := hs.ext e41; replace hp := hp.ext e41; replace hi := hi.ext e41; replace hb := hb.ext e41; replace hc := hc.ext e41; replace h5 := h5.ext e41; go_at_call 31; refine (cm_call hb h5).mono ?_; rintro e wk41 ⟨rfl, hx41⟩; replace hq := hq.ext hx41; replace hs := hs.ext hx41; replace hp := hp.ext hx41; replace hi := hi.ext hx41; replace hb := hb.ext hx41; replace hc := hc.ext hx41; replace h5 := h5.ext hx41)
 refine hK.out _ _ hx41 ?_;clear hK K
 try simp only [Act.put,sA1,sS1,sZ1]
 refine Late.tk (i := 42) (d := some 98) (v := ?v42_58) rfl rfl hQ (Or.inl ⟨by rfl, ?y42_58⟩) ?_
 case y42_58 => intro w' hSw;go_simp;try with_reducible rfl
 try simp only [Act.put,sA1,sS1,sZ1]
 refine Late.tk (i := 43) (d := some 99) (v := ?v43_59) rfl rfl hQ (Or.inl ⟨by rfl, ?y43_59⟩) ?_
 case y43_59 => intro w' hSw;go_simp;try with_reducible rfl
 try simp only [Act.put,sA1,sS1,sZ1]
 refine Late.tk (i := 44) (d := some 100) (v := ?v44_60) rfl rfl hQ (Or.inl ⟨by rfl, ?y44_60⟩) ?_
 case y44_60 => intro w' hSw;go_simp;try with_reducible rfl
 try simp only [Act.put,sA1,sS1,sZ1]
 refine Late.tk (i := 45) (d := some 101) (v := ?v45_61) rfl rfl hQ (Or.inl ⟨by rfl, ?y45_61⟩) ?_
 case y45_61 => intro w' hSw;go_simp;try with_reducible rfl
 try simp only [Act.put,sA1,sS1,sZ1]
 refine Late.tk (i := 46) (d := some 102) (v := ?v46_62) rfl rfl hQ (Or.inl ⟨by rfl, ?y46_62⟩) ?_
 case y46_62 => intro w' hSw;go_simp;try with_reducible rfl
 try simp only [Act.put,sA1,sS1,sZ1]
 refine Late.tk (i := 47) (d := some 103) (v := ?v47_63) rfl rfl hQ (Or.inl ⟨by rfl, ?y47_63⟩) ?_
 case y47_63 => intro w' hSw;go_simp;try with_reducible rfl
 try simp only [Act.put,sA1,sS1,sZ1]
 refine Late.tk (i := 48) (d := some 104) (v := ?v48_64) rfl rfl hQ (Or.inl ⟨by rfl, ?y48_64⟩) ?_
 case y48_64 => intro w' hSw;go_simp;try with_reducible rfl
 try simp only [Act.put,sA1,sS1,sZ1]
 refine Late.call (i := 49) rfl (by kernel_rfl) hAl (by kernel_rfl) (by kernel_rfl) (by kernel_rfl) hQ (fun w49 e49 E49 K hK => ?_);go_simp;replace hq := hq.ext e49;replace hs := hs.ext e49;replace hp := hp.ext e49;replace hi := hi.ext e49;replace hb := hb.ext e49;replace hc := hc.ext e49;have y49 := (Ext.refl w49).alloc (.cells #[.int .i64 (1), .int .i64 (1), .int .i64 (2), .int .i64 (1), .int .i64 (1), .int .i64 (1)] 53);have bx := Box.new w49 53 #[.int .i64 (1), .int .i64 (1), .int .i64 (2), .int .i64 (1), .int .i64 (1), .int .i64 (1)];replace hq := hq.ext y49;replace hs := hs.ext y49;replace hp := hp.ext y49;replace hi := hi.ext y49;replace hb := hb.ext y49;replace hc := hc.ext y49;obtain ⟨g49, hg49⟩ : ∃ g, w49.heap.size = g := ⟨_, rfl⟩;rw [hg49] at bx ⊢;clear hg49;refine hK.out _ _ y49 ?_;clear hK K
 try simp only [Act.put,sA1,sS1,sZ1]
 refine Late.call (i := 50) rfl (by kernel_rfl) hAl (by kernel_rfl) (by kernel_rfl) (by kernel_rfl) hQ (fun w50 e50 E50 K hK => ?_);go_simp
 (replace hq := hq.ext e50; replace hs := hs.ext e50; replace hp := hp.ext e50; replace hi := hi.ext e50; replace hb := hb.ext e50; replace hc := hc.ext e50; replace bx := bx.ext e50; go_at_call 43; refine (rats10 bx).mono ?_; rintro e wk50 ⟨Aq10, nq10, cq10, rfl, q10, hx50⟩; replace hq := hq.ext hx50; replace hs := hs.ext hx50; replace hp := hp.ext hx50; replace hi := hi.ext hx50; replace hb := hb.ext hx50; replace hc := hc.ext hx50; have hnq10 : nq10 = 3 := q10.len.symm; subst hnq10)
 refine hK.out _ _ hx50 ?_;clear hK K
 try simp only [Act.put,sA1,sS1,sZ1]
 refine Late.call (i := 51) rfl (by kernel_rfl) hAl (by kernel_rfl) (by kernel_rfl) (by kernel_rfl) hQ (fun w51 e51 E51 K hK => ?_);go_simp
 (replace hq := hq.ext e51; replace hs := hs.ext e51; replace hp := hp.ext e51; replace hi := hi.ext e51; replace hb := hb.ext e51; replace hc := hc.ext e51; replace q10 := q10.ext e51; go_at_call 45; refine (eq_call hc q10 rfl (by omega) (by omega) (by omega) (by omega) (by omega)).mono ?_; rintro e wk51 ⟨rfl, hx51⟩; replace hq := hq.ext hx51; replace hs := hs.ext hx51; replace hp := hp.ext hx51; replace hi := hi.ext hx51; replace hb := hb.ext hx51; replace hc := hc.ext hx51; replace q10 := q10.ext hx51)
 refine hK.out _ _ hx51 ?_;clear hK K
 try simp only [Act.put,sA1,sS1,sZ1]
 refine Late.tk (i := 52) (d := some 108) (v := ?v52_65) rfl rfl hQ (Or.inl ⟨by rfl, ?y52_65⟩) ?_
 case y52_65 => intro w' hSw;go_simp;try with_reducible rfl
 try simp only [Act.put,sA1,sS1,sZ1]
 refine Late.tk (i := 53) (d := some 0) (v := ?v53_66) rfl rfl hQ (Or.inl ⟨by rfl, ?y53_66⟩) ?_
 case y53_66 => intro w' hSw;go_simp;try with_reducible rfl
 try simp only [Act.put,sA1,sS1,sZ1]
 refine Late.done0 (by kernel_rfl) (fun wz ez Ez => ?_);clear hAl hQ ES
 go_wp2_with fail
 go_ret
 exact ⟨rfl, ext.trans Ez⟩
end Go.Proofs.YtnmgdhmokkijpaaGreatDoor
namespace Go.Proofs.YtnmgdhmokkijpaaGreatDoor
open Go.ChangeShapes Go.WideShapes Go.ChangeAt Go.RowKit Go.Joins
theorem Tryz.own : ownKnob Tryz.prog.godebug = none := by kernel_rfl
theorem Tryz.laidOut : laidOutB Tryz.prog = true := by kernel_rfl
theorem Tryz.cellsI : Tryz.prog.cellsOf 25 = 2 := by kernel_rfl
theorem Tryz.cellsW : Tryz.prog.cellsOf 106 = 1 := by kernel_rfl
section
variable {H : Type} {enc : TypeId × Value → H} {W : World} {base : Nat} {held : Bool}
theorem open_words {m : Nat} {v : Value} {y : DataW H × List MemPlace} (h : DataW.trod enc Tryz.prog W base (fun _ => true) held m 23 [v] = some y) :
  ∃ A n c xs, v = .slice A n c ∧ List.length xs = n ∧ Rd W A xs ∧ n ≤ c ∧ c ≤ maxLen := by
 rcases open_ints Tryz.underlying23 Tryz.underlying106 Tryz.cellsW h with ⟨hcs, _⟩ | ⟨a, len, cap, zs, hcs, _, hl, hm, hz, _, hcell, hwf⟩
 ·injection hcs with hcs _
  subst hcs;exact ⟨none, 0, 0, [], rfl, rfl, Rd.nil _ _, Nat.le_refl _, Nat.zero_le _⟩
 ·injection hcs with hcs _
  subst hcs;simp only [if_true] at hz
  have hb : ∀ n ∈ zs, 0 ≤ n ∧ n ≤ 4294967295 := by
   intro n hn;have := hwf n hn;simp [Lit.wf, IntKind.min, IntKind.max, IntKind.bits, IntKind.signed] at this;omega
  refine ⟨some a, len, cap, (zs.take len).map Int.toNat, rfl, by simp; omega, ⟨?_, ?_⟩, hl, hm⟩
  ·intro x hx
   obtain ⟨n, hn, rfl⟩ := List.mem_map.1 hx;have := hb n (List.mem_of_mem_take hn);omega
  ·intro hne
   have hpos : 0 < zs.length := by
    rcases Nat.eq_zero_or_pos zs.length with h0 | h0
    ·exfalso
     apply hne
     have : zs = [] := List.eq_nil_of_length_eq_zero h0;rw [this]; simp
    ·exact h0
   obtain ⟨b, off, spot⟩ := a;have hc0 := hcell 0 hpos
   have hspot : spot = none := by
    cases spot with
    | none => rfl
    | some q => simp [Addr.add, World.cell?] at hc0; split at hc0 <;> simp at hc0
   subst hspot;refine ⟨b, off, rfl, cell_lt (p := ⟨b, off, none⟩) (by simpa [Addr.add] using hc0), fun i hi => ?_⟩;simp only [List.length_map, List.length_take] at hi;have hc := hcell i (by omega);have e1 : (⟨b, off, none⟩ : Addr).add i = ⟨b, off + i, none⟩ := by unfold Addr.add; split <;> simp_all
   rw [e1] at hc;rw [hc];simp only [List.getElem_map, List.getElem_take];have hi2 : i < zs.length := by omega
   have e2 : zs.getD i 0 = zs[i] := by simp [List.getD, hi2]
   rw [e2];have := hb zs[i] (List.getElem_mem hi2)
   congr 2
   omega
end
theorem cellsR : Tryz.prog.cellsOf 27 = 4 := by kernel_rfl
theorem cellsB : Tryz.prog.cellsOf 4 = 1 := by kernel_rfl
theorem cellsS : Tryz.prog.cellsOf 23 = 1 := by kernel_rfl
section
variable {H : Type} {enc : TypeId × Value → H} {W : World} {base : Nat} {held : Bool}
theorem open_intc {m : Nat} {c0 c1 : Value} {y : DataW H × List MemPlace} (h : DataW.trod enc Tryz.prog W base (fun _ => true) held m 25 [c0, c1] = some y) :
  ∃ s A n c xs, c0 = .bool s ∧ c1 = .slice A n c ∧ RI W A n c xs := by
 obtain ⟨y0, y1, k, _, _, h0, h1⟩ := trod_struct2 Tryz.underlying25 h;rw [cellsB] at h0;rw [cellsS] at h1;simp only [List.drop_zero, List.drop_succ_cons, List.take_succ_cons, List.take_zero] at h0 h1;obtain ⟨s, e0, _⟩ := DataW.trod_bool Tryz.underlying4 h0
 injection e0 with e0 _
 obtain ⟨A, n, c, xs, rfl, g1, g2, g3, g4⟩ := open_words h1;exact ⟨s, A, n, c, xs, e0, rfl, g1, g2, g3, g4⟩
set_option maxRecDepth 100000 in
theorem open_ratc {m : Nat} {c0 c1 c2 c3 : Value} {y : DataW H × List MemPlace} (h : DataW.trod enc Tryz.prog W base (fun _ => true) held m 27 [c0, c1, c2, c3] = some y) :
  ∃ s A n c t B m d xs ys, c0 = .bool s ∧ c1 = .slice A n c ∧ c2 = .bool t ∧ c3 = .slice B m d ∧ RI W A n c xs ∧ RI W B m d ys := by
 obtain ⟨y0, y1, k, _, _, h0, h1⟩ := trod_struct2 Tryz.underlying27 h;rw [Tryz.cellsI] at h0 h1;simp only [List.drop_zero, List.drop_succ_cons, List.take_succ_cons, List.take_zero] at h0 h1;obtain ⟨s, A, n, c, xs, rfl, rfl, r1⟩ := open_intc h0;obtain ⟨t, B, m, d, ys, rfl, rfl, r2⟩ := open_intc h1;exact ⟨s, A, n, c, t, B, m, d, xs, ys, rfl, rfl, rfl, rfl, r1, r2⟩
set_option maxRecDepth 100000 in
theorem open_rat {r : Reach} {b0 : Nat} {v : Value} {d : DataW H} {p : List MemPlace} (hv : Value.okWide Tryz.prog W r b0 27 v) (h : DataW.Trod enc Tryz.prog W base (fun _ => true) held 27 v d p) :
  ∃ s A n c t B m d xs ys, v = .agg #[.bool s, .slice A n c, .bool t, .slice B m d] ∧ RI W A n c xs ∧ RI W B m d ys := by
 obtain ⟨cs, rfl, hsz⟩ := okWide_struct Tryz.underlying27 hv;obtain ⟨c0, c1, c2, c3, rfl⟩ := array4 (hsz.trans cellsR);obtain ⟨fuel, hf⟩ := h;obtain ⟨s, A, n, c, t, B, m, d, xs, ys, rfl, rfl, rfl, rfl, r1, r2⟩ := open_ratc hf;exact ⟨s, A, n, c, t, B, m, d, xs, ys, rfl, r1, r2⟩
set_option maxRecDepth 100000 in
theorem open_rats {r : Reach} {b0 : Nat} {v : Value} {d : DataW H} {p : List MemPlace} (hv : Value.okWide Tryz.prog W r b0 22 v) (h : DataW.Trod enc Tryz.prog W base (fun _ => true) held 22 v d p) :
  ∃ A n c rs, v = .slice A n c ∧ RawP W A n c rs := by
 obtain ⟨A, n, c, rfl⟩ := okWide_slice Tryz.underlying22 hv;obtain ⟨fuel, hf⟩ := h
 rcases Deep.open_slice Tryz.underlying22 hf with ⟨hcs, _⟩ | ⟨a, len, cap, m, k, D, Pl, hcs, _, hl, hm, hmm, _, hx⟩
 ·simp only [Value.cells, List.cons.injEq, Value.slice.injEq, and_true] at hcs
  obtain ⟨rfl, rfl, rfl⟩ := hcs;exact ⟨none, 0, 0, [], rfl, rfl, Nat.le_refl _, Nat.zero_le _, fun h => absurd rfl h⟩
 ·simp only [Value.cells, List.cons.injEq, Value.slice.injEq, and_true] at hcs
  obtain ⟨rfl, rfl, rfl⟩ := hcs;simp only [if_true] at hmm
  have key : ∀ i, i < n → ∃ r : RawR, RawAt W a.block (a.off + 4 * i) r := by
   intro i hi;obtain ⟨cs', h1, h2⟩ := hx i (by omega);rw [cellsR] at h1;obtain ⟨_, hlen, hc⟩ := World.cells?_some h1
   obtain ⟨c0, c1, c2, c3, rfl⟩ : ∃ c0 c1 c2 c3, cs' = [c0, c1, c2, c3] := by
    rcases cs' with _ | ⟨c0, _ | ⟨c1, _ | ⟨c2, _ | ⟨c3, _ | ⟨c4, l⟩⟩⟩⟩⟩ <;> simp at hlen
    exact ⟨c0, c1, c2, c3, rfl⟩
   obtain ⟨s, A', n', c', t, B', m', d', xs, ys, rfl, rfl, rfl, rfl, r1, r2⟩ := open_ratc h2
   have hs : a.spot = none := by
    cases e : a.spot with
    | none => rfl
    | some q =>
     exfalso
     obtain ⟨cs0, g1, _⟩ := hx 0 (by omega);rw [cellsR] at g1;obtain ⟨_, hlen0, hc0⟩ := World.cells?_some g1;have := hc0 0 (by omega);rw [Nat.zero_mul, Deep.add_add] at this;simp only [Addr.add, Nat.add_zero, if_true] at this;rw [List.getElem?_eq_getElem (by omega)] at this;unfold World.cell? at this;rw [e] at this
     split at this <;> simp at this
   have hadd : ∀ j, j < 4 → (a.add (i * 4)).add j = ⟨a.block, a.off + 4 * i + j, none⟩ := by
    intro j _;rw [Deep.add_add];unfold Addr.add;obtain ⟨ab, ao, asp⟩ := a;simp only at hs;subst hs
    split
    ·rename_i h0
     have : i * 4 + j = 0 := h0;simp only [Addr.mk.injEq, and_true, true_and];omega
    ·simp only [Addr.mk.injEq, and_true, true_and]
     omega
   have q0 := hc 0 (by omega);have q1 := hc 1 (by omega);have q2 := hc 2 (by omega);have q3 := hc 3 (by omega);rw [hadd _ (by omega)] at q0 q1 q2 q3;exact ⟨⟨s, xs, t, ys⟩, A', n', c', B', m', d', q0, q1, q2, q3, r1, r2⟩
  haveI : Inhabited RawR := ⟨⟨false, [], false, []⟩⟩
  obtain ⟨F, hF⟩ := Deep.choose_lt (n := n) (α := RawR) (p := fun i r => RawAt W a.block (a.off + 4 * i) r) key;refine ⟨some a, n, c, (List.range n).map F, rfl, by simp, hl, hm, fun hne => ?_⟩
  have hpos : 0 < n := by
   rcases Nat.eq_zero_or_pos n with h0 | h0
   ·exact absurd (by rw [h0]; rfl) hne
   ·exact h0
  have hs : a.spot = none := by
   cases e : a.spot with
   | none => rfl
   | some q =>
    exfalso
    obtain ⟨cs0, g1, _⟩ := hx 0 (by omega);rw [cellsR] at g1;obtain ⟨_, hlen0, hc0⟩ := World.cells?_some g1;have := hc0 0 (by omega);rw [Nat.zero_mul, Deep.add_add] at this;simp only [Addr.add, Nat.add_zero, if_true] at this;rw [List.getElem?_eq_getElem (by omega)] at this;unfold World.cell? at this;rw [e] at this
    split at this <;> simp at this
  refine ⟨a.block, a.off, ?_, fun i hi => ?_⟩
  ·obtain ⟨ab, ao, asp⟩ := a
   simp only at hs;subst hs
   rfl
  ·have hi2 : i < n := by simpa using hi
   have := hF i hi2
   simpa using this
end
def laidI : List (String × DataW Unit) := [("math/bits.deBruijn64tab", Rows.laid_math_bits_deBruijn64tab)]
def tabY : List Int := Lib.deBruijn64tab.map fun n : Nat => (n : Int)
theorem tabY_at : ∀ j : Fin 64, tabY.getD j.val 0 = ((Lib.deBruijn64tab.getD j.val 0 : Nat) : Int) := by decide +kernel
theorem laidI_tab : laidI = [("math/bits.deBruijn64tab", Lib.tabData .u8 tabY)] := by kernel_rfl
theorem gTab : Tryz.prog.globalNamed "math/bits.deBruijn64tab" = some 0 := by kernel_rfl
theorem tTab : (Tryz.prog.globals[0]?).map (·.type) = some 177 := by kernel_rfl
theorem tab_of_laid {W : World} (h : laidMet Tryz.prog laidI W) : Tab W := by
 rw [laidI_tab] at h;have hT := Lib.tabIs_of_head gTab tTab Tryz.underlying177 Tryz.underlying5 (by kernel_rfl) (by kernel_rfl) h;intro j hj;have := hT.cell gTab j (by rw [show tabY.length = 64 from by decide +kernel]; exact hj);rw [tabY_at ⟨j, hj⟩] at this;exact this
theorem doorI_met (os : Os) (args : Array Value) : laidMetH Tryz.prog laidI ((World.doorLaid Tryz.prog 400 os).forCall (fun _ _ => 0) ⟨#[], args, []⟩).memory :=
 laidMetH_of_parts3 (fuel := 8) (laidMet_of_run' 8 (by kernel_rfl) (by kernel_rfl)) (by kernel_rfl) (by kernel_rfl)
theorem tab_of_laidH {W : World} (h : laidMetH Tryz.prog laidI W) : Tab W := by
 rw [MakeChecks.laidMetH_plain _ _ _ (by kernel_rfl)] at h;exact tab_of_laid h
set_option maxRecDepth 100000
theorem add4_lifted (os : Os) (started : os.Started) (H : Type) (enc : TypeId × Value → H) :
  ReturnsInHanded {} Tryz.checked os 3 .any (fun w args => (Rows.polynomialAddSpec.pre enc Tryz.prog Tryz.f3 [] false w args ∧ laidMetH Tryz.prog laidI w) ∧ sizedMet enc Tryz.prog Tryz.f3 (OpenSpec.ofChange Rows.polynomialAddSpec) false w args)
   (Rows.polynomialAddSpec.post enc Tryz.prog Tryz.f3 false true false false) := by
 refine returnsInHanded_of_change_and (C := Tryz.checked) (X := fun w _ => laidMetH Tryz.prog laidI w) (fun _ _ _ hh h => h.of_heap hh) Tryz.own started (by kernel_rfl) Tryz.func3
  (ChangeSpec.witness_shaped (enc := enc) (C := Tryz.checked) (os := os) (X := fun w _ => laidMetH Tryz.prog laidI w) false (World.doorLaid Tryz.prog 400 os) #[.slice none 0 0, .slice none 0 0, Value.agg #[.bool false, .slice none 0 0, .bool false, .slice none 0 0]] 8 rfl (World.shaped_of_RefB (by kernel_rfl) (by kernel_rfl)) (by kernel_rfl) (by kernel_rfl) (by kernel_rfl) (doorI_met os _)) ?_
 intro W base args ds gs before hval0 hW _ _ hL _;have hval : ∀ (j : Nat) t v, Tryz.f3.params[j]? = some t → args[j]? = some v → Value.okWide Tryz.prog W .any base t v := hval0;have hW' := hW;have hlt : ∀ p ∈ before, p.block < W.heap.size := fun p hp => hW.lt p hp
 obtain ⟨p, q, hA0, hV, rfl, _, _⟩ := hW;have hA : DataW.TrodAll enc Tryz.prog W 0 (fun _ => true) true Tryz.f3.params.toList args.toList ds p := hA0;rw [Tryz.params3] at hA hval;obtain ⟨v0, v1, v2, d0, d1, d2, p0, p1, p2, rfl, rfl, rfl, h0, h1, h2⟩ := trodAll_three hA;obtain ⟨rfl, rfl⟩ := trodVars_none hV;simp only [List.append_nil] at hW' hlt;obtain ⟨A0, n0, c0, rs0, rfl, hr0⟩ := open_rats (hval 0 22 v0 rfl rfl) h0;obtain ⟨A1, n1, c1, rs1, rfl, hr1⟩ := open_rats (hval 1 22 v1 rfl rfl) h1;obtain ⟨s, A, n, c, t, B, m, d, xs, ys, rfl, hr2, hk2⟩ := open_rat (hval 2 27 v2 rfl rfl) h2;clear hA0 hval0;have hT := tab_of_laidH hL;refine (add4_any awake4 hT hr0 hr1 hr2 hk2).mono fun e W' ⟨he, hext⟩ => ?_
 subst he;have hb : Below W.heap.size W W' := hext;have g0 := Below.trod Tryz.laidOut (by kernel_rfl) (of_decide_eq_true (by kernel_rfl)) h0 hb (fun p hp => hlt p (List.mem_append.2 (.inl (List.mem_append.2 (.inl hp)))));have g1 := Below.trod Tryz.laidOut (by kernel_rfl) (of_decide_eq_true (by kernel_rfl)) h1 hb (fun p hp => hlt p (List.mem_append.2 (.inl (List.mem_append.2 (.inr hp)))));have g2 := Below.trod Tryz.laidOut (by kernel_rfl) (of_decide_eq_true (by kernel_rfl)) h2 hb (fun p hp => hlt p (List.mem_append.2 (.inr hp)));exact ⟨_, rfl, _, _, _, [], (p0 ++ (p1 ++ p2)), [], hW', trodAll_mk1 (shut_bool Tryz.underlying4 true), trodAll_mk3 g0 g1 g2, rfl, Below.frame hb _, fun h => by cases h⟩
theorem add4_row_holds : Rows.PolynomialAddSaid :=
 OpenClaim.holds_of_wide 3 Tryz.f3 rfl rfl rfl rfl rfl rfl rfl ⟨rfl, rfl, rfl, rfl, rfl⟩ rfl rfl rfl rfl rfl (by kernel_rfl) Tryz.func3 (by kernel_rfl)
  (of_decide_eq_true (by kernel_rfl)) (by unfold Func.isWrapper; first | (rw [if_neg (of_decide_eq_false (by kernel_rfl))]; exact ⟨rfl, rfl⟩) | (rw [if_pos (by decide +kernel)]; kernel_rfl))
  (fun os started H enc _ => add4_lifted os started H enc)
theorem add4_holds : Rows.PolynomialAddCardSaid :=
 Claim7.holds_tied_plain_at .later [] [.data] true Rows.polynomialAddCard.stood.harness false
  add4_row_holds (fun _ h => by cases h) (by kernel_rfl) (fun _ h => by cases h) polynomialAdd_row_tie rfl ⟨rfl, rfl⟩ (by kernel_rfl) rfl
  (fun f fn hf hfn => by
   obtain rfl : f = 3 := Option.some.inj ((show Tryz.prog.funcNamed "setsquare/setsquarelaw04.PolynomialAdd" = some 3 by kernel_rfl).symm.trans hf) |>.symm;obtain rfl : fn = Tryz.f3 := (Option.some.inj (Tryz.func3.symm.trans hfn)).symm
   exact ⟨by kernel_rfl, fun j t ht => by
    rw [Tryz.params3] at ht;have hm : t ∈ [22, 22, 27] := by simpa using Array.mem_of_getElem? ht
    have hall : ([22, 22, 27].all fun u => !Tryz.prog.wantsStandIn u) = true := by kernel_rfl
    exact (show Tryz.prog.wantsStandIn t = false by simpa using List.all_eq_true.1 hall t hm)⟩)
  (by kernel_rfl)
end Go.Proofs.YtnmgdhmokkijpaaGreatDoor
