/- Walks and laws, a part. -/
import Derived.Test.YtnmgdhmokkijpaaGreatDoorM11
import Derived.Test.YtnmgdhmokkijpaaGreatDoorM10
import Derived.Test.YtnmgdhmokkijpaaGreatDoorM9
import Derived.Test.YtnmgdhmokkijpaaGreatDoorM6
import Derived.Test.YtnmgdhmokkijpaaGreatDoorM4
import Derived.Test.YtnmgdhmokkijpaaGreatDoorM8
import Derived.Test.YtnmgdhmokkijpaaGreatDoorM5
import Derived.Test.YtnmgdhmokkijpaaGreatDoorM7
import Derived.Test.YtnmgdhmokkijpaaGreatDoorM3
set_option linter.unusedSimpArgs false
set_option linter.unusedVariables false
namespace Go.Proofs.YtnmgdhmokkijpaaGreatDoor
open Go.RowKit
attribute [local go_sem ↓] Go.wp_at_zero Go.wp_at_succ
section
variable {w w' : World} {A B : Option Addr} {n c m d L M : Nat} {xs ys : List Int}
set_option maxHeartbeats 8000000 in
set_option maxRecDepth 100000 in
theorem p_divides {S C o N : Nat} {lead : Int} {os : List Int} (h' : IPol w B m d ys M) (h : IPol w A n c xs L) (hn0 : 0 < n) (hm0 : 0 < m) (hn : n ≤ 400) (hm : m ≤ 400) (hL : L ≤ S) (hM : M < 64) (ho : o + 1 = m) (hN : N = n - o) (hos : os = ys.take o) (hlead : lead = ys.getLastD 0) (hl0 : lead ≠ 0) (hD : DivB xs os lead N S C) (hS : S ≤ 1000) (hC : C ≤ 1000) (hC1 : 1 ≤ C) (hT : Tab w) (hZ : trimI ((divS xs os lead N N).1.take (n - N)) = []) :
  Calls Tryz.prog 154 #[.slice B m d, .slice A n c] w fun e w' => e = .returned (.bool true) ∧ Ext w w' := by
 have HZ := Lib.hid hZ;have HC := p_divideP h h' hn0 hm0 hn hm hL hM ho hN hos hlead hl0 hD hS hC hC1 hT;rw [hZ] at HC;have HC := Lib.hid HC;clear hZ hL hM ho hN hos hlead hl0 hD hS hC hC1 hn hm hn0 hm0 HZ
 go_enter Tryz.func154, Tryz.ntmps154
 go_wp2_with fail
 refine HC.out.mono ?_;rintro e V4 ⟨A3, n3, c3, B3, m3, d3, s4, D4, k4, l4, rfl, hq, hr, hsc, ext4⟩;have hm3 : m3 = 0 := by have := hr.len; simp at this; omega
 subst hm3;clear hr hq hsc HC
 go_upto_region 2 with (fail)
 obtain ⟨V5, hV5, ext2, b13, hz2⟩ := box1 V4 25 #[.bool s4, .slice D4 k4 l4];rw [← hV5];clear hV5 hz2 b13;have ext := ext4.trans ext2;clear ext4 ext2
 go_wp2_with fail
 go_ret
 exact ⟨rfl, ext⟩
end
def divC (xs os : List Int) (lead : Int) (N S C : Nat) : Bool :=
 ((List.range N).all fun k => (List.range (N - 1 - k + os.length + 1)).all fun a => (List.range (os.length + 1)).all fun b => (midD (divS xs os lead N k).1 (lead / comD (divS xs os lead N k).1 lead (N - 1 - k) os.length) (topD (divS xs os lead N k).1 (N - 1 - k) os.length / comD (divS xs os lead N k).1 lead (N - 1 - k) os.length) os (N - 1 - k) a b).all fun z => decide (z.natAbs < 4294967296 ^ S)) && ((List.range (N + 1)).all fun k => decide ((divS xs os lead N k).2.1.natAbs < 4294967296 ^ C))
theorem divC_ok {xs os : List Int} {lead : Int} {N S C : Nat} (h : divC xs os lead N S C = true) : DivB xs os lead N S C := by
 unfold divC at h;rw [Bool.and_eq_true, List.all_eq_true, List.all_eq_true] at h;refine ⟨fun k hk a b ha hb z hz => ?_, fun k hk => ?_⟩
 ·have h1 := h.1 k (List.mem_range.2 hk)
  rw [List.all_eq_true] at h1;have h2 := h1 a (List.mem_range.2 (by omega));rw [List.all_eq_true] at h2;have h3 := h2 b (List.mem_range.2 (by omega));rw [List.all_eq_true] at h3;exact of_decide_eq_true (h3 z hz)
 ·exact of_decide_eq_true (h.2 k (List.mem_range.2 (by omega)))
def exA : List Int := [0, 1, -2, 1]
def exB : List Int := [1, -4, 3]
def exD : List Int := [-1, 1]
def exP : Nat := 2147483647
def exR : Nat := 2147483629
def exCom (p : Nat) : List Nat := comF 8 (cutN (resL exA p)) (cutN (resL exB p)) p
theorem exCom_ok1 : comOK 8 (cutN (resL exA exP)) (cutN (resL exB exP)) exP = true := by decide +kernel
theorem exCom_ok2 : comOK 8 (cutN (resL exA exR)) (cutN (resL exB exR)) exR = true := by decide +kernel
theorem exCom_1 : (exCom exP).length = 2 ∧ mulN (exCom exP) (facN (exCom exP) exP) exP = [exP - 1, 1] := by decide +kernel
theorem exCom_2 : (exCom exR).length = 2 ∧ mulN (exCom exR) (facN (exCom exR) exR) exR = [exR - 1, 1] := by decide +kernel
theorem exInc_1 : incZ (mulN [exP - 1, 1] 1 exP) exP [0, 0] 1 (facM 1 exP) 2 = exD ∧ incS (mulN [exP - 1, 1] 1 exP) exP [0, 0] (facM 1 exP) 2 = false := by decide +kernel
theorem exInc_2 : incZ (mulN [exR - 1, 1] 1 exR) exR exD (exP : Int) (facM (exP : Int) exR) 2 = exD ∧ incS (mulN [exR - 1, 1] 1 exR) exR exD (facM (exP : Int) exR) 2 = true := by decide +kernel
theorem exDiv_1 : divC exA [-1] 1 3 1 1 = true ∧ trimI ((divS exA [-1] 1 3 3).1.take 1) = [] := by decide +kernel
theorem exDiv_2 : divC exB [-1] 1 2 1 1 = true ∧ trimI ((divS exB [-1] 1 2 2).1.take 1) = [] := by decide +kernel
theorem exD_prim : primI exD = exD := by decide +kernel
theorem ex_below1 : belowF 1 (2147483648 - 1) = exP ∧ primeB exP = true := by decide +kernel
theorem ex_below2 : belowF 20 (exP - 1) = exR ∧ primeB exR = true := by decide +kernel
theorem ex_down1 : ∀ m, m ≤ 2147483648 - 1 → 2147483648 - 1 < m + 1 → DownOK m := by
 intro m h1 h2;have : m = 2147483647 := by omega
 subst this;exact ⟨by decide, by decide, by decide +kernel⟩
def downC (a f : Nat) : Bool := (List.range f).all fun j => decide (0 < oddF 64 (a - j - 1))
theorem ex_odd2 : downC (exP - 1) 20 = true := by decide +kernel
theorem ex_down2 : ∀ m, m ≤ exP - 1 → exP - 1 < m + 20 → DownOK m := by
 intro m h1 h2;have h := ex_odd2;unfold downC at h;rw [List.all_eq_true] at h;have h3 := of_decide_eq_true (h (exP - 1 - m) (List.mem_range.2 (by omega)));rw [show exP - 1 - (exP - 1 - m) - 1 = m - 1 by omega] at h3;unfold exP at h1 h2;exact ⟨by omega, by omega, h3⟩
theorem ex_downP : DownOK exP := ⟨by decide, by decide, by decide +kernel⟩
theorem ex_downR : DownOK exR := ⟨by decide, by decide, by decide +kernel⟩
set_option maxHeartbeats 32000000 in
set_option maxRecDepth 100000 in
theorem p_commonD_ex {w : World} {A B : Option Addr} {c d : Nat} (hA0 : IPol w A 4 c exA 1) (hB0 : IPol w B 3 d exB 1) (hT : Tab w) : Calls Tryz.prog 128 #[.slice A 4 c, .slice B 3 d] w (RetIPol exD 1 w) := by
 go_enter Tryz.func128, Tryz.ntmps128
 go_wp2_with fail
 refine (p_lastN hA0 (by omega) (by omega)).mono ?_;rintro e V1 ⟨s1, A1, n1, c1, rfl, h1, x1⟩
 go_wp2_with fail
 refine (p_lastN (hB0.ext x1) (by omega) (by omega)).mono ?_;rintro e V2 ⟨s2, A2, n2, c2, rfl, h2, x2⟩
 go_wp2_with fail
 refine (p_GCD (h1.ext x2) h2 (by omega) (by omega) (hT.ext (x1.trans x2))).mono ?_;rintro e V3 ⟨s3, A3, n3, c3, rfl, h5, x3⟩;rw [show ((Nat.gcd (exA.getLastD 0).natAbs (exB.getLastD 0).natAbs : Nat) : Int) = 1 by decide +kernel] at h5;have extE := (x1.trans x2).trans x3;clear x1 x2 x3 h1 h2
 go_upto_region 6 with (fail)
 obtain ⟨W5, hW5, ext2, b5, hz2⟩ := box1 V3 25 #[.bool s3, .slice A3 n3 c3];rw [← hW5];clear hW5 hz2;replace h5 := h5.ext ext2;replace extE := extE.trans ext2;clear ext2;generalize V3.heap.size = g5 at b5 ⊢
 go_upto_region 7 with (fail)
 obtain ⟨W6, hW6, ext6, b6, hz6⟩ := box1 W5 131 #[.slice none 0 0, .bool false, .slice none 0 0];rw [← hW6];clear hW6 hz6;obtain ⟨g6, hg60⟩ : ∃ g, W5.heap.size = g := ⟨_, rfl⟩;have hg6 : W5.heap.size ≤ g6 := by omega
 rw [hg60] at b6 ⊢;clear hg60;have HPB : Calls Tryz.prog 148 #[.int .u64 2147483648] W6 fun v w' => v = .returned (.int .u64 ((exP : Nat) : Int)) ∧ w' = W6 := p_primeBelow (n := 2147483648) (f := 1) (P := exP) (by omega) (by omega) ex_below1.1 ex_below1.2 ex_down1 ex_downP
 go_wp2_with fail
 refine HPB.mono ?_;clear HPB;rintro e V ⟨rfl, rfl⟩
 go_wp2_with fail
 go_loopw [7] (fun pv wr => Ext W5 wr ∧ ((pv = .int .u64 (exP : Int) ∧ Box wr g6 131 #[.slice none 0 0, .bool false, .slice none 0 0]) ∨ (pv = .int .u64 (exR : Int) ∧ ∃ g, Img W5 wr g6 g 2 exD 1 (exP : Int) 4))) (fun pv _ => (intOf pv).toNat)
 case atStart => exact ⟨ext6, .inl ⟨rfl, b6⟩⟩
 case round =>
  clear b6 ext6;obtain ⟨ext, hcase⟩ := hrel;have hA := hA0.ext extE;have hB := hB0.ext extE;have hT5 := hT.ext extE;clear hA0 hB0 hT
  rcases hcase with ⟨rfl, b6⟩ | ⟨rfl, g, hI⟩
  ·skip
   have q0 := (b5.ext ext).cell 0 _ rfl;have q1 := (b5.ext ext).cell 1 _ rfl;have HRM := p_residue (h5.ext ext) (p := exP) (by decide) (by decide) (by omega);obtain ⟨f1, hf1⟩ : ∃ f, ((1 : Int) % ((exP : Nat) : Int)).toNat = f := ⟨_, rfl⟩;have HF1 := Lib.hid (show f1 = 1 by rw [← hf1]; decide +kernel);rw [hf1] at HRM;have hf0 : ¬ (f1 : Int) = 0 := by have := HF1.out; omega
   clear hf1;have HRM := Lib.hid HRM
   go_wp2_with fail
   refine HRM.out.mono ?_;clear HRM q0 q1;rintro e V0 ⟨rfl, hx0⟩;replace ext := ext.trans hx0;replace b6 := b6.ext hx0;clear hx0
   go_wp2_with fail
   refine (p_residues (p := exP) (hA.ext ext) (by omega) (by decide) (by decide) (by omega)).mono ?_;rintro e V1 ⟨ga, hga, rfl, ua, x1⟩
   go_wp2_with fail
   refine (p_residues (p := exP) (hB.ext (ext.trans x1)) (by omega) (by decide) (by decide) (by omega)).mono ?_;rintro e V2 ⟨gb, hgb, rfl, ub, x2⟩;have hal := ua.lt;have hsz := x1.size
   have h0 : ComJ V0 V2 exP 8 ga gb (cutN (resL exA exP)).length (cutN (resL exB exP)).length (resL exA exP).length (resL exB exP).length (resL exA exP) (resL exB exP) (exCom exP) :=
    ⟨ua.ext x2, ub, by omega, cutN_len _, cutN_len _, Nat.le_refl _, Nat.le_refl _, by unfold resL; rw [List.length_map]; decide, by unfold resL; rw [List.length_map]; decide, resL_lt (by decide), resL_lt (by decide), by rw [cutN_take, cutN_take]; exact exCom_ok1, by rw [cutN_take, cutN_take]; rfl, x1.trans x2, hga, by omega⟩
   have HCR := p_commonRes h0 (by decide) (by decide) (by intro e; have := exCom_1.1; rw [e] at this; cases this);rw [exCom_1.1, exCom_1.2] at HCR;have HCR := Lib.hid HCR;clear h0 ua ub x1 x2 hal hsz hga hgb
   go_wp2_with fail
   refine HCR.out.mono ?_;clear HCR;rintro e V3 ⟨gc, hgc, rfl, uc, hx2⟩
   go_wp2_with fail
   refine (p_multiply (p := exP) (f := f1) uc (Nat.le_refl 2) (by omega) (by decide) (by decide) (by have := HF1.out; omega) (by decide)).mono ?_;rintro e V4 ⟨gq, hgq, rfl, hr, hx3⟩;rw [HF1.out] at hr ⊢;clear uc;obtain ⟨lc, hlc⟩ : ∃ l, mulN [exP - 1, 1] 1 exP = l := ⟨_, rfl⟩
   have HLC := Lib.hid (show lc.length = 2 ∧ (∀ x ∈ lc, x < exP) ∧ incZ lc exP [0, 0] 1 (facM 1 exP) 2 = exD ∧ incS lc exP [0, 0] (facM 1 exP) 2 = false by
    rw [← hlc];exact ⟨rfl, mulN_lt (by decide), exInc_1.1, exInc_1.2⟩)
   replace hr : URow V4 gq lc := by rw [← hlc]; exact hr
   have hll : (mulN (List.take 2 [exP - 1, 1]) 1 exP).length = 2 := rfl;rw [hll];clear hll hlc;have hgz := hx2.size;have hbl := b6.lt;have hml := b6.lt;have hqn : gq ≠ g6 := by omega
   have HIN := p_includeA (w0 := W5) (gm := g6) (n := 2) (L := 1) (K := 2) (p := exP) (zs := [0, 0]) (M := 1) (lc := lc) (ext.trans (hx2.trans hx3)) hg6 (b6.ext (hx2.trans hx3)) rfl rfl rfl hr hqn (N := 2) (by omega) (by omega) (by rw [HLC.out.1]; exact Nat.le_refl 2) (by decide) (by decide) HLC.out.2.1 (by omega) (by rw [HLC.out.2.2.1]; decide);rw [HLC.out.2.2.1, HLC.out.2.2.2] at HIN;have HIN := Lib.hid HIN;replace ext := ext.trans (hx2.trans hx3);clear hr hgc hgq hgz hbl hml
   go_wp2_with fail
   refine HIN.out.mono ?_;clear HIN HLC;rintro e V6 ⟨g, rfl, hI⟩;rw [Int.one_mul] at hI;have HPB := p_primeBelow (n := exP) (f := 20) (P := exR) (w := V6) (by decide) (by decide) ex_below2.1 ex_below2.2 ex_down2 ex_downR;have HPB := Lib.hid HPB
   go_wp2_with fail
   refine HPB.out.mono ?_;rintro e V ⟨rfl, rfl⟩
   go_wp2_with fail
   go_roundw
   case rel => exact ⟨hI.ext, .inr ⟨rfl, g, hI⟩⟩
   case measure => decide
  ·skip
   have q0 := (b5.ext ext).cell 0 _ rfl;have q1 := (b5.ext ext).cell 1 _ rfl;have HRM := p_residue (h5.ext ext) (p := exR) (by decide) (by decide) (by omega);obtain ⟨f1, hf1⟩ : ∃ f, ((1 : Int) % ((exR : Nat) : Int)).toNat = f := ⟨_, rfl⟩;have HF1 := Lib.hid (show f1 = 1 by rw [← hf1]; decide +kernel);rw [hf1] at HRM;have hf0 : ¬ (f1 : Int) = 0 := by have := HF1.out; omega
   clear hf1;have HRM := Lib.hid HRM
   go_wp2_with fail
   refine HRM.out.mono ?_;clear HRM q0 q1;rintro e V0 ⟨rfl, hx0⟩;replace ext := ext.trans hx0;replace hI := hI.next hx0;clear hx0
   go_wp2_with fail
   refine (p_residues (p := exR) (hA.ext ext) (by omega) (by decide) (by decide) (by omega)).mono ?_;rintro e V1 ⟨ga, hga, rfl, ua, x1⟩
   go_wp2_with fail
   refine (p_residues (p := exR) (hB.ext (ext.trans x1)) (by omega) (by decide) (by decide) (by omega)).mono ?_;rintro e V2 ⟨gb, hgb, rfl, ub, x2⟩;have hal := ua.lt;have hsz := x1.size
   have h0 : ComJ V0 V2 exR 8 ga gb (cutN (resL exA exR)).length (cutN (resL exB exR)).length (resL exA exR).length (resL exB exR).length (resL exA exR) (resL exB exR) (exCom exR) :=
    ⟨ua.ext x2, ub, by omega, cutN_len _, cutN_len _, Nat.le_refl _, Nat.le_refl _, by unfold resL; rw [List.length_map]; decide, by unfold resL; rw [List.length_map]; decide, resL_lt (by decide), resL_lt (by decide), by rw [cutN_take, cutN_take]; exact exCom_ok2, by rw [cutN_take, cutN_take]; rfl, x1.trans x2, hga, by omega⟩
   have HCR := p_commonRes h0 (by decide) (by decide) (by intro e; have := exCom_2.1; rw [e] at this; cases this);rw [exCom_2.1, exCom_2.2] at HCR;have HCR := Lib.hid HCR;clear h0 ua ub x1 x2 hal hsz hga hgb
   go_wp2_with fail
   refine HCR.out.mono ?_;clear HCR;rintro e V3 ⟨gc, hgc, rfl, uc, hx2⟩
   go_wp2_with fail
   refine (p_multiply (p := exR) (f := f1) uc (Nat.le_refl 2) (by omega) (by decide) (by decide) (by have := HF1.out; omega) (by decide)).mono ?_;rintro e V4 ⟨gq, hgq, rfl, hr, hx3⟩;rw [HF1.out] at hr ⊢;clear uc;obtain ⟨lc, hlc⟩ : ∃ l, mulN [exR - 1, 1] 1 exR = l := ⟨_, rfl⟩
   have HLC := Lib.hid (show lc.length = 2 ∧ (∀ x ∈ lc, x < exR) ∧ incZ lc exR exD (exP : Int) (facM (exP : Int) exR) 2 = exD ∧ incS lc exR exD (facM (exP : Int) exR) 2 = true by
    rw [← hlc];exact ⟨rfl, mulN_lt (by decide), exInc_2.1, exInc_2.2⟩)
   replace hr : URow V4 gq lc := by rw [← hlc]; exact hr
   have hll : (mulN (List.take 2 [exR - 1, 1]) 1 exR).length = 2 := rfl;rw [hll];clear hll hlc;have hgz := hx2.size;have hbl := hI.row.lt;obtain ⟨_, _, _, _, b6, _⟩ := hI.box; have hml := b6.lt;have hqn : gq ≠ g6 := by omega
   have hqg : gq ≠ g := by omega
   have HIN := p_includeB (w0 := W5) (gm := g6) (g := g) (n := 2) (L := 1) (K := 4) (p := exR) (zs := exD) (M := (exP : Int)) (lc := lc) (hI.next (hx2.trans hx3)) hr hqn hqg (N := 2) (by omega) (by omega) (by rw [HLC.out.1]; exact Nat.le_refl 2) (by decide) (by decide) HLC.out.2.1 (by omega) (by omega) (by rw [HLC.out.2.2.1]; decide);rw [HLC.out.2.2.1, HLC.out.2.2.2] at HIN;have HIN := Lib.hid HIN;replace ext := ext.trans (hx2.trans hx3);clear hr hgc hgq hgz hbl hml
   go_wp2_with fail
   refine HIN.out.mono ?_;clear HIN HLC;rintro e V6 ⟨rfl, hI⟩;obtain ⟨s7, A7, n7, c7, b7, _⟩ := hI.box;have y0 := b7.cell 0 _ rfl;have extV := hI.ext;have hpl := hI.row.pol (n := 2) rfl (by decide)
   go_wp2_with fail
   have HPR := p_primitive hpl (by omega) (by omega) (by omega) (by decide) (hT5.ext extV);rw [exD_prim] at HPR;refine HPR.mono ?_;clear HPR y0 hpl;rintro e V7 ⟨A8, n8, c8, rfl, h8, x8⟩;have hn8 : n8 = 2 := h8.len.symm;subst hn8
   go_wp2_with fail
   refine (p_divides (S := 1) (C := 1) (o := 1) (N := 3) (lead := 1) (os := [-1]) h8 (hA.ext (extV.trans x8)) (by omega) (by omega) (by omega) (by omega) (Nat.le_refl 1) (by omega) rfl rfl rfl rfl (by omega) (divC_ok exDiv_1.1) (by omega) (by omega) (by omega) (hT5.ext (extV.trans x8)) exDiv_1.2).mono ?_;rintro e V8 ⟨rfl, x9⟩
   go_wp2_with fail
   refine (p_divides (S := 1) (C := 1) (o := 1) (N := 2) (lead := 1) (os := [-1]) (h8.ext x9) (hB.ext ((extV.trans x8).trans x9)) (by omega) (by omega) (by omega) (by omega) (Nat.le_refl 1) (by omega) rfl rfl rfl rfl (by omega) (divC_ok exDiv_2.1) (by omega) (by omega) (by omega) (hT5.ext ((extV.trans x8).trans x9)) exDiv_2.2).mono ?_;rintro e V9 ⟨rfl, x10⟩
   go_wp2_with fail
   go_ret
   exact ⟨A8, 2, c8, rfl, h8.ext (x9.trans x10), extE.trans (((extV.trans x8).trans x9).trans x10)⟩
section
variable {w w' : World} {q x : Rat} {L M : Nat} {s t : Bool} {A B : Option Addr} {n c m d : Nat} {sx tx : Bool} {Ax Bx : Option Addr} {nx cx mx dx : Nat} {qs ps : List Rat}
set_option maxHeartbeats 2000000 in
set_option maxRecDepth 100000 in
theorem own_P (h : Pol w A n c qs L) (hn : n ≤ 10000) : Calls Tryz.prog 14 #[.slice A n c] w (RetPol qs L w) := by
 go_enter Tryz.func14, Tryz.ntmps14
 go_wp2_with (at_builtin; refine wpList_append_rats rfl _ _ rfl rfl rfl ((Ext.refl w).alloc _) (Nat.le_refl _) (Box.new w _ _) h hn ?_; intro A' c' w' h1 h2)
 go_ret
 exact ⟨A', n, c', rfl, h1, h2⟩
set_option maxHeartbeats 2000000 in
theorem q_zeroR : Calls Tryz.prog 76 #[] w (RetNR 0 2 w) := by
 go_enter Tryz.func76, Tryz.ntmps76
 go_upto_region 1 with (fail)
 obtain ⟨W, hW, extW, bz, hz⟩ := box1 w 27 #[Value.bool false, Value.slice none 0 0, Value.bool false, Value.slice none 0 0];rw [← hW];clear hW
 go_wp2_with fail
 refine (q_FromIntR 0 (by omega) (by omega)).mono ?_;rintro e V ⟨s7, A7, n7, c7, t7, B7, m7, d7, rfl, h7, hxt⟩;have e0 : (((0 : Int) : Rat)) = 0 := rfl;rw [e0] at h7;have z0 := (bz.ext hxt).cell 0 _ rfl;have z1 := (bz.ext hxt).cell 1 _ rfl;have z2 := (bz.ext hxt).cell 2 _ rfl;have z3 := (bz.ext hxt).cell 3 _ rfl;have f0 := (bz.ext hxt).frozen 0;have f1 := (bz.ext hxt).frozen 1;have f2 := (bz.ext hxt).frozen 2;have f3 := (bz.ext hxt).frozen 3
 go_wp2_with fail
 obtain ⟨b1, b2, b3, b4⟩ := fin_quad (s := s7) (A := A7) (n := n7) (c := c7) (t := t7) (B := B7) (m := m7) (d := d7) (bz.ext hxt);have r0 := b1.cell 0 (.bool s7) rfl;have r1 := b1.cell 1 (.slice A7 n7 c7) rfl;have r2 := b1.cell 2 (.bool t7) rfl;have r3 := b1.cell 3 (.slice B7 m7 d7) rfl;unfold set4 at r0 r1 r2 r3;refine bodyPost_ret (v := .agg #[.bool s7, .slice A7 n7 c7, .bool t7, .slice B7 m7 d7]) (by simp [results, Tryz.results76, go_sem, r0, r1, r2, r3]) rfl ⟨s7, A7, n7, c7, t7, B7, m7, d7, rfl, ⟨?_, ?_⟩, b3 _ (extW.trans hxt) (by omega)⟩
 ·exact b2 _ _ _ _ _ _ h7.num
 ·exact b2 _ _ _ _ _ _ h7.den
set_option maxHeartbeats 2000000 in
theorem q_atP (h : Pol w A n c qs L) (k : Nat) (hk : k ≤ 100000) : Calls Tryz.prog 55 #[.slice A n c, .int .i64 (k : Int)] w (RetNR (atP qs k) (max L 2) w) := by
 have hl := h.len
 go_enter Tryz.func55, Tryz.ntmps55
 go_upto_region 1 with (fail)
 obtain ⟨W, hW, extW, bz, hz⟩ := box1 w 27 #[Value.bool false, Value.slice none 0 0, Value.bool false, Value.slice none 0 0];rw [← hW];clear hW
 by_cases hlt : k < n
 ·have hj : k < qs.length := by rw [hl]; exact hlt
  have HV := Lib.hid (atP_lt hj);have hI : (k : Int) < (n : Int) := by omega
  obtain ⟨b, off, rfl, hr⟩ := h.at_ (fun e => by rw [e] at hj; exact absurd hj (Nat.not_lt_zero _));obtain ⟨sx, Ax, nx, cx, tx, Bx, mx, dx, e0, e1, e2, e3, hx⟩ := (hr.ext extW).at_ k hj;have e0' : W.cell? ⟨b, off + k * 4, none⟩ = some (.bool sx) := by rw [Nat.mul_comm]; exact e0
  have e1' : W.cell? ⟨b, off + k * 4 + 1, none⟩ = some (.slice Ax nx cx) := by rw [Nat.mul_comm]; exact e1
  have e2' : W.cell? ⟨b, off + k * 4 + 2, none⟩ = some (.bool tx) := by rw [Nat.mul_comm]; exact e2
  have e3' : W.cell? ⟨b, off + k * 4 + 3, none⟩ = some (.slice Bx mx dx) := by rw [Nat.mul_comm]; exact e3
  clear e0 e1 e2 e3;have hxt := Ext.refl W;have z0 := (bz.ext hxt).cell 0 _ rfl;have z1 := (bz.ext hxt).cell 1 _ rfl;have z2 := (bz.ext hxt).cell 2 _ rfl;have z3 := (bz.ext hxt).cell 3 _ rfl;have f0 := (bz.ext hxt).frozen 0;have f1 := (bz.ext hxt).frozen 1;have f2 := (bz.ext hxt).frozen 2;have f3 := (bz.ext hxt).frozen 3
  go_wp2_with fail
  rw [HV.out];obtain ⟨b1, b2, b3, b4⟩ := fin_quad (s := sx) (A := Ax) (n := nx) (c := cx) (t := tx) (B := Bx) (m := mx) (d := dx) (bz.ext hxt);have r0 := b1.cell 0 (.bool sx) rfl;have r1 := b1.cell 1 (.slice Ax nx cx) rfl;have r2 := b1.cell 2 (.bool tx) rfl;have r3 := b1.cell 3 (.slice Bx mx dx) rfl;unfold set4 at r0 r1 r2 r3;refine bodyPost_ret (v := .agg #[.bool sx, .slice Ax nx cx, .bool tx, .slice Bx mx dx]) (by simp [results, Tryz.results55, go_sem, r0, r1, r2, r3]) rfl ⟨sx, Ax, nx, cx, tx, Bx, mx, dx, rfl, ⟨?_, ?_⟩, b3 _ (extW.trans hxt) (by omega)⟩
  ·exact (b2 _ _ _ _ _ _ hx.num).le (by omega)
  ·exact (b2 _ _ _ _ _ _ hx.den).le (by omega)
 ·have hge : qs.length ≤ k := by rw [hl]; omega
  have HV := Lib.hid (atP_ge hge);have hI : (n : Int) ≤ (k : Int) := by omega
  go_wp2_with fail
  refine (q_zeroR).mono ?_;rintro e V ⟨s7, A7, n7, c7, t7, B7, m7, d7, rfl, h7, hxt⟩;have z0 := (bz.ext hxt).cell 0 _ rfl;have z1 := (bz.ext hxt).cell 1 _ rfl;have z2 := (bz.ext hxt).cell 2 _ rfl;have z3 := (bz.ext hxt).cell 3 _ rfl;have f0 := (bz.ext hxt).frozen 0;have f1 := (bz.ext hxt).frozen 1;have f2 := (bz.ext hxt).frozen 2;have f3 := (bz.ext hxt).frozen 3
  go_wp2_with fail
  rw [HV.out];obtain ⟨b1, b2, b3, b4⟩ := fin_quad (s := s7) (A := A7) (n := n7) (c := c7) (t := t7) (B := B7) (m := m7) (d := d7) (bz.ext hxt);have r0 := b1.cell 0 (.bool s7) rfl;have r1 := b1.cell 1 (.slice A7 n7 c7) rfl;have r2 := b1.cell 2 (.bool t7) rfl;have r3 := b1.cell 3 (.slice B7 m7 d7) rfl;unfold set4 at r0 r1 r2 r3;refine bodyPost_ret (v := .agg #[.bool s7, .slice A7 n7 c7, .bool t7, .slice B7 m7 d7]) (by simp [results, Tryz.results55, go_sem, r0, r1, r2, r3]) rfl ⟨s7, A7, n7, c7, t7, B7, m7, d7, rfl, ⟨?_, ?_⟩, b3 _ (extW.trans hxt) (by omega)⟩
  ·exact (b2 _ _ _ _ _ _ h7.num).le (by omega)
  ·exact (b2 _ _ _ _ _ _ h7.den).le (by omega)
set_option maxHeartbeats 4000000 in
theorem q_TrimP (h : Pol w A n c qs L) (hL : L ≤ 1000) (hn : n ≤ 10000) : Calls Tryz.prog 15 #[.slice A n c] w (RetPol (trimP qs) L w) := by
 go_enter Tryz.func15, Tryz.ntmps15
 go_wp2_with fail
 go_loopw [3] (fun i wr => ∃ k : Nat, k ≤ n ∧ i = .int .i64 (k : Int) ∧ Ext w wr ∧ trimP (qs.take k) = trimP qs) (fun i _ => (intOf i).toNat)
 case atStart => exact ⟨n, Nat.le_refl _, rfl, Ext.refl _, by rw [List.take_of_length_le (Nat.le_of_eq h.len)]⟩
 case round =>
  obtain ⟨k, hk, rfl, ext, ht⟩ := hrel;have HT := Lib.hid ht;clear ht;have hkc : (k : Int) ≤ (c : Int) := by have := h.cap; omega
  rcases Nat.eq_zero_or_pos k with h0 | h0
  ·subst h0
   have ht := HT.out;rw [List.take_zero, trimP_nil] at ht
   cases A with
   | none =>
    go_wp2_with fail
    go_ret
    exact ⟨_, 0, 0, rfl, by rw [← ht]; exact ⟨rfl, Nat.le_refl _, Nat.zero_le _, fun e => absurd rfl e⟩, ext.alloc _⟩
   | some ad =>
    go_wp2_with fail
    go_ret
    exact ⟨_, 0, 0, rfl, by rw [← ht]; exact ⟨rfl, Nat.le_refl _, Nat.zero_le _, fun e => absurd rfl e⟩, ext.alloc _⟩
  ·obtain ⟨j, rfl⟩ : ∃ j, k = j + 1 := ⟨k - 1, by omega⟩
   have hj : j < qs.length := by rw [h.len]; omega
   have hjn : (j : Int) < (n : Int) := by omega
   obtain ⟨b, off, rfl, hr⟩ := h.at_ (fun e => by rw [e] at hj; exact absurd hj (Nat.not_lt_zero _));obtain ⟨sx, Ax, nx, cx, tx, Bx, mx, dx, e0, e1, e2, e3, hx⟩ := (hr.ext ext).at_ j hj;have e0' : wr.cell? ⟨b, off + j * 4, none⟩ = some (.bool sx) := by rw [Nat.mul_comm]; exact e0
   have e1' : wr.cell? ⟨b, off + j * 4 + 1, none⟩ = some (.slice Ax nx cx) := by rw [Nat.mul_comm]; exact e1
   have e2' : wr.cell? ⟨b, off + j * 4 + 2, none⟩ = some (.bool tx) := by rw [Nat.mul_comm]; exact e2
   have e3' : wr.cell? ⟨b, off + j * 4 + 3, none⟩ = some (.slice Bx mx dx) := by rw [Nat.mul_comm]; exact e3
   by_cases hq : qs[j] = 0
   ·have HS := Lib.hid (num_zero hq)
    have HQ := Lib.hid hq;clear hq
    go_wp2_with fail
    refine (q_SignR hx (by omega)).mono ?_;rintro e V ⟨rfl, hxt⟩;rw [HS.out]
    go_wp2_with fail
    go_roundw
    case rel => exact ⟨j, by omega, by go_num, ext.trans hxt, trimP_step hj HQ.out HT.out⟩
    case measure => simp [intOf]
   ·obtain ⟨S, hS, dS⟩ : ∃ S, (qs[j]).num.sign = S ∧ (S == 0) = false := ⟨_, rfl, beq_eq_false_iff_ne.2 (num_nz hq)⟩
    have HS := Lib.hid hS;have HQ := Lib.hid hq;clear hS hq
    go_wp2_with fail
    refine (q_SignR hx (by omega)).mono ?_;rintro e V ⟨rfl, hxt⟩;rw [HS.out];have hp := (h.ext (ext.trans hxt)).take hk;have hx0 := ext.trans hxt;rw [← trimP_stop hj HQ.out HT.out] at hp
    go_wp2_with (at_builtin; refine wpList_append_rats rfl _ _ rfl rfl rfl ((Ext.refl V).alloc _) (Nat.le_refl _) (Box.new V _ _) hp (by omega) ?_; intro A' c' w' h1 h2)
    go_ret
    exact ⟨A', j + 1, c', rfl, h1, hx0.trans h2⟩
set_option maxHeartbeats 2000000 in
theorem q_DegreeP (h : Pol w A n c qs L) (hL : L ≤ 1000) (hn : n ≤ 10000) : Calls Tryz.prog 17 #[.slice A n c] w fun e w' => e = .returned (.int .i64 (((trimP qs).length : Int) - 1)) ∧ Ext w w' := by
 have hlen := trimP_len qs;have hl := h.len
 go_enter Tryz.func17, Tryz.ntmps17
 go_wp2_with fail
 refine (q_TrimP h hL hn).mono ?_;rintro e V ⟨A8, n8, c8, rfl, h8, hxt⟩;have h9 := h8.len
 go_wp2_with fail
 go_ret
 exact ⟨by rw [h9]; rfl, hxt⟩
end
section
variable {sy ty : Bool} {Ay By : Option Addr} {ny cy my dy : Nat} {w w' : World} {q x : Rat} {L M : Nat} {s t : Bool} {A B : Option Addr} {n c m d : Nat} {sx tx : Bool} {Ax Bx : Option Addr} {nx cx mx dx : Nat} {qs ps : List Rat}
theorem Row4.pol {base : Nat} {v : Value} (h : Row4 w base v qs L) : ∃ A n c, v = .slice A n c ∧ Pol w A n c qs L := by
 by_cases hq : qs = []
 ·obtain ⟨cs, h1, h2⟩ := h.own
  rcases h1.2 with ⟨rfl, h0⟩ | ⟨g, cap, cur, rfl, _, _, h3, h4, _⟩
  ·exact ⟨_, _, _, rfl, by rw [hq]; exact Pol.none w L⟩
  ·exact ⟨_, _, _, rfl, rfl, h3, h4, fun e => absurd hq e⟩
 ·obtain ⟨cs, h1, h2⟩ := h.own
  rcases h1.2 with ⟨rfl, h0⟩ | ⟨g, cap, cur, rfl, _, _, h3, h4, _⟩
  ·exact absurd (List.length_eq_zero_iff.1 h0) hq
  ·exact ⟨_, _, _, rfl, rfl, h3, h4, fun _ => ⟨g, 0, rfl, RatsOwn.rd ⟨cs, h1, h2⟩⟩⟩
theorem at_wpLP {P : Program} {md : Region.Mode} {ops : Array Oper} {Q : Exit → Act → World → Prop} {W0 : World} {z f : Nat} {L : Array Bool} {a : Act} {w : World} (C : World → Prop) (h : C w) (k : ∀ V, C V → wpL P md ops Q W0 z f L a V) : wpL P md ops Q W0 z f L a w := k w h
set_option maxHeartbeats 8000000 in
set_option maxRecDepth 100000 in
theorem q_AddP (h : Pol w A n c qs L) (h' : Pol w B m d ps M) (hL2 : 2 ≤ L) (hM2 : 2 ≤ M) (hL : L ≤ 400) (hM : M ≤ 400) (hn : n ≤ 1000) (hm : m ≤ 1000) : Calls Tryz.prog 19 #[.slice A n c, .slice B m d] w (RetPol (trimP (sumP qs ps)) (L + M + 1) w) := by
 have HlP := Lib.hid h.len;have HlQ := Lib.hid h'.len;have hSl : (sumP qs ps).length = max n m := by rw [sumP_len, h.len, h'.len]
 go_enter Tryz.func19, Tryz.ntmps19
 go_wp2_with fail
 go_loopw [5, 6] (fun v i wr => ∃ k : Nat, k ≤ max n m ∧ i = .int .i64 (k : Int) ∧ Ext w wr ∧ Row4 wr w.heap.size v ((sumP qs ps).take k) (L + M + 1)) (fun _ i _ => max n m - (intOf i).toNat)
 case atStart => exact ⟨0, Nat.zero_le _, rfl, Ext.refl _, Row4.nil _ _ _⟩
 case round =>
  obtain ⟨k, hk, rfl, ext, hrow⟩ := hrel
  by_cases hlt : k < n
  ·have hs : k < (sumP qs ps).length := by omega
   have hI : (k : Int) < (n : Int) := by omega
   have HT := Lib.hid (show (sumP qs ps).take (k + 1) = (sumP qs ps).take k ++ [(sumP qs ps)[k]] from List.take_succ_eq_append_getElem hs);have HV := Lib.hid (sumP_at qs ps k hs);have hlen : ((sumP qs ps).take k).length ≤ 1000 := by rw [List.length_take]; omega
   go_wp2_with fail
   refine (q_atP (h.ext ext) k (by omega)).mono ?_;rintro e V1 ⟨sx, Ax, nx, cx, tx, Bx, mx, dx, rfl, h1, hx1⟩
   go_wp2_with fail
   refine (q_atP (h'.ext (ext.trans hx1)) k (by omega)).mono ?_;rintro e V2 ⟨sy, Ay, ny, cy, ty, By, my, dy, rfl, h2, hx2⟩
   go_wp2_with fail
   refine (q_AddR (h1.ext hx2) h2 (by omega) (by omega)).mono ?_;rintro e W5 ⟨s7, A7, n7, c7, t7, B7, m7, d7, rfl, h7, hx3⟩;have ha5 := ((hx1.trans hx2).trans hx3).alloc (.cells #[.bool s7, .slice A7 n7 c7, .bool t7, .slice B7 m7 d7] 27);replace ext := ext.trans ha5;replace hrow := hrow.ext ha5;rw [← HV.out] at h7;replace h7 : NR _ _ (L + M + 1) s7 A7 n7 c7 t7 B7 m7 d7 := (h7.ext ((Ext.refl W5).alloc (.cells #[.bool s7, .slice A7 n7 c7, .bool t7, .slice B7 m7 d7] 27))).le (by omega)
   go_wp2_with (at_builtin; refine wpList_append_rat rfl _ _ rfl rfl rfl hrow h7 (Box.new W5 _ _) hlen ext.size ?_; intro v6 W6 hrow6 hgr hob)
   go_roundw
   case rel => exact ⟨k + 1, by omega, by go_num, Below.grown ext hgr ext.size (fun k hk => (hrow.block k hk).1), by rw [HT.out]; exact hrow6⟩
   case measure => simp [intOf]; omega
  by_cases hlm : k < m
  ·have hs : k < (sumP qs ps).length := by omega
   have hI : (n : Int) ≤ (k : Int) := by omega
   have hI2 : (k : Int) < (m : Int) := by omega
   have HT := Lib.hid (show (sumP qs ps).take (k + 1) = (sumP qs ps).take k ++ [(sumP qs ps)[k]] from List.take_succ_eq_append_getElem hs);have HV := Lib.hid (sumP_at qs ps k hs);have hlen : ((sumP qs ps).take k).length ≤ 1000 := by rw [List.length_take]; omega
   go_wp2_with fail
   refine (q_atP (h.ext ext) k (by omega)).mono ?_;rintro e V1 ⟨sx, Ax, nx, cx, tx, Bx, mx, dx, rfl, h1, hx1⟩
   go_wp2_with fail
   refine (q_atP (h'.ext (ext.trans hx1)) k (by omega)).mono ?_;rintro e V2 ⟨sy, Ay, ny, cy, ty, By, my, dy, rfl, h2, hx2⟩
   go_wp2_with fail
   refine (q_AddR (h1.ext hx2) h2 (by omega) (by omega)).mono ?_;rintro e W5 ⟨s7, A7, n7, c7, t7, B7, m7, d7, rfl, h7, hx3⟩;have ha5 := ((hx1.trans hx2).trans hx3).alloc (.cells #[.bool s7, .slice A7 n7 c7, .bool t7, .slice B7 m7 d7] 27);replace ext := ext.trans ha5;replace hrow := hrow.ext ha5;rw [← HV.out] at h7;replace h7 : NR _ _ (L + M + 1) s7 A7 n7 c7 t7 B7 m7 d7 := (h7.ext ((Ext.refl W5).alloc (.cells #[.bool s7, .slice A7 n7 c7, .bool t7, .slice B7 m7 d7] 27))).le (by omega)
   go_wp2_with (at_builtin; refine wpList_append_rat rfl _ _ rfl rfl rfl hrow h7 (Box.new W5 _ _) hlen ext.size ?_; intro v6 W6 hrow6 hgr hob)
   go_roundw
   case rel => exact ⟨k + 1, by omega, by go_num, Below.grown ext hgr ext.size (fun k hk => (hrow.block k hk).1), by rw [HT.out]; exact hrow6⟩
   case measure => simp [intOf]; omega
  ·have hkn : k = (sumP qs ps).length := by omega
   rw [hkn, List.take_of_length_le (Nat.le_refl _)] at hrow;have hI : (n : Int) ≤ (k : Int) := by omega
   have hI2 : (m : Int) ≤ (k : Int) := by omega
   obtain ⟨A7, n7, c7, rfl, hp⟩ := hrow.pol;have hl7 := hp.len;clear hrow
   go_wp2_with fail
   refine (q_TrimP hp (by omega) (by omega)).mono ?_;rintro e V ⟨A8, n8, c8, rfl, h8, hxt⟩
   go_wp2_with fail
   go_ret
   exact ⟨A8, n8, c8, rfl, h8, ext.trans hxt⟩
set_option maxHeartbeats 8000000 in
set_option maxRecDepth 100000 in
theorem q_ScaleP (h : Pol w A n c qs L) (h' : NR w x M sx Ax nx cx tx Bx mx dx) (hL : L ≤ 400) (hM : M ≤ 400) (hn : n ≤ 1000) : Calls Tryz.prog 23 #[.slice A n c, .agg #[.bool sx, .slice Ax nx cx, .bool tx, .slice Bx mx dx]] w (RetPol (trimP (scaleP qs x)) (L + M) w) := by
 have Hlen := Lib.hid h.len;have hSl : (scaleP qs x).length = n := (List.length_map _).trans h.len
 go_enter Tryz.func23, Tryz.ntmps23
 go_upto_region 1 with (fail)
 obtain ⟨W, hW, extW, bn, hz⟩ := box1 w 27 #[.bool sx, .slice Ax nx cx, .bool tx, .slice Bx mx dx];rw [← hW];clear hW hz
 go_wp2_with fail
 go_loopw [5, 6] (fun v i wr => ∃ k : Nat, k ≤ n ∧ i = .int .i64 (k : Int) ∧ Ext W wr ∧ Row4 wr W.heap.size v ((scaleP qs x).take k) (L + M)) (fun _ i _ => n - (intOf i).toNat)
 case atStart => exact ⟨0, Nat.zero_le _, rfl, Ext.refl _, Row4.nil _ _ _⟩
 case round =>
  obtain ⟨k, hk, rfl, extr, hrow⟩ := hrel
  by_cases hlt : k < n
  ·have hj : k < qs.length := by rw [Hlen.out]; exact hlt
   have hs : k < (scaleP qs x).length := by omega
   have hI : (k : Int) < (n : Int) := by omega
   have HT := Lib.hid (show (scaleP qs x).take (k + 1) = (scaleP qs x).take k ++ [qs[k] * x] by rw [List.take_succ_eq_append_getElem hs]; simp [scaleP]);have hlen : ((scaleP qs x).take k).length ≤ 1000 := by rw [List.length_take]; omega
   obtain ⟨b, off, rfl, hr⟩ := h.at_ (fun e => by rw [e] at hj; exact absurd hj (Nat.not_lt_zero _));have ext := extW.trans extr;obtain ⟨sy, Ay, ny, cy, ty, By, my, dy, e0, e1, e2, e3, hy⟩ := (hr.ext ext).at_ k hj;have e0' : wr.cell? ⟨b, off + k * 4, none⟩ = some (.bool sy) := by rw [Nat.mul_comm]; exact e0
   have e1' : wr.cell? ⟨b, off + k * 4 + 1, none⟩ = some (.slice Ay ny cy) := by rw [Nat.mul_comm]; exact e1
   have e2' : wr.cell? ⟨b, off + k * 4 + 2, none⟩ = some (.bool ty) := by rw [Nat.mul_comm]; exact e2
   have e3' : wr.cell? ⟨b, off + k * 4 + 3, none⟩ = some (.slice By my dy) := by rw [Nat.mul_comm]; exact e3
   clear e0 e1 e2 e3;replace bn := bn.ext extr;have hx := h'.ext ext
   go_upto_region 5 with (fail)
   refine wpL.start 8 (by kernel_rfl) (fun _ _ _ _ _ => ⟨fun h => h, fun h => h⟩) (fun hQ ES => ?_);refine wpL.tkB [8] (i := 0) (d := some 13) (v := ?v0_29) rfl rfl hQ (Or.inl ⟨by rfl, ?y0_29⟩) ES ?_
   case y0_29 => intro w' hSw;have j0 := (hSw.cellv e0');have j1 := (hSw.cellv e1');have j2 := (hSw.cellv e2');have j3 := (hSw.cellv e3');go_simp;try with_reducible rfl
   try simp only [Act.put,sA1,sS1,sZ1]
   refine wpL.tkB [3, 4, 6, 7, 8] (i := 1) (d := some 14) (v := ?v1_30) rfl rfl hQ (Or.inl ⟨by rfl, ?y1_30⟩) ES ?_
   case y1_30 => intro w' hSw;have j0 := (hSw.cellv e0');have j1 := (hSw.cellv e1');have j2 := (hSw.cellv e2');have j3 := (hSw.cellv e3');go_simp;try with_reducible rfl
   try simp only [Act.put,sA1,sS1,sZ1]
   refine wpL.tkB [3, 4, 6, 7, 8] (i := 2) (d := some 15) (v := ?v2_31) rfl rfl hQ (Or.inl ⟨by rfl, ?y2_31⟩) ES ?_
   case y2_31 => intro w' hSw;have j0 := (hSw.cellv e0');have j1 := (hSw.cellv e1');have j2 := (hSw.cellv e2');have j3 := (hSw.cellv e3');go_simp;try with_reducible rfl
   try simp only [Act.put,sA1,sS1,sZ1]
   refine wpL.tkB [4, 6, 7, 8] (i := 3) (d := some 16) (v := ?v3_32) rfl rfl hQ (Or.inl ⟨by rfl, ?y3_32⟩) ES ?_
   case y3_32 => intro w' hSw;have j0 := (hSw.cellv e0');have j1 := (hSw.cellv e1');have j2 := (hSw.cellv e2');have j3 := (hSw.cellv e3');go_simp;try with_reducible rfl
   try simp only [Act.put,sA1,sS1,sZ1]
   refine wpL.tkB [6, 7, 8] (i := 4) (d := some 17) (v := ?v4_33) rfl rfl hQ (Or.inl ⟨by rfl, ?y4_33⟩) ES ?_
   case y4_33 => intro w' hSw;have j0 := (hSw.cellv e0');have j1 := (hSw.cellv e1');have j2 := (hSw.cellv e2');have j3 := (hSw.cellv e3');have k0 := (bn.ext hSw).c4;go_simp;try with_reducible rfl
   try simp only [Act.put,sA1,sS1,sZ1]
   refine wpL.tkB [6, 7, 8] (i := 5) (d := some 18) (v := ?v5_34) rfl rfl hQ (Or.inl ⟨by rfl, ?y5_34⟩) ES ?_
   case y5_34 => intro w' hSw;have j0 := (hSw.cellv e0');have j1 := (hSw.cellv e1');have j2 := (hSw.cellv e2');have j3 := (hSw.cellv e3');have k0 := (bn.ext hSw).c4;go_simp;try with_reducible rfl
   try simp only [Act.put,sA1,sS1,sZ1]
   refine wpL.call (i := 6) rfl (by kernel_rfl) (fun K hK => ?_);go_simp
   (go_at_call 60; refine (q_MulR (hy.ext ES) (hx.ext ES) (by omega) (by omega)).mono ?_; rintro e wk ⟨s7, A7, n7, c7, t7, B7, m7, d7, rfl, h7, hx7⟩; have E9 := Ext.trans ES hx7)
   refine hK.out _ _ E9 ?_;clear hK K
   try simp only [Act.put,sA1,sS1,sZ1]
   refine wpL.call (i := 7) rfl (by kernel_rfl) (fun K hK => ?_);have ha7 := (Ext.refl wk).alloc (.cells #[.bool s7, .slice A7 n7 c7, .bool t7, .slice B7 m7 d7] 27);have b7 := Box.new wk 27 #[.bool s7, .slice A7 n7 c7, .bool t7, .slice B7 m7 d7];go_simp;refine hK.out _ _ (E9.trans ha7) ?_;clear hK K
   try simp only [Act.put,sA1,sS1,sZ1]
   replace h7 := h7.ext ha7;have E10 := E9.trans ha7;clear ha7 E9;have hrow' := hrow.ext E10;refine at_wpLP (fun V => Ext wr V ∧ Row4 V W.heap.size u5 ((scaleP qs x).take k) (L + M) ∧ NR V (qs[k] * x) (L + M) s7 A7 n7 c7 t7 B7 m7 d7 ∧ Box V wk.heap.size 27 #[.bool s7, .slice A7 n7 c7, .bool t7, .slice B7 m7 d7]) ⟨E10, hrow', h7, b7⟩ ?_;clear E10 hrow' h7 b7;generalize wk.heap.size = g7;rintro V ⟨E10, hrow', h7, b7⟩;refine wpL.tail (i := 8) rfl (by kernel_rfl) (by kernel_rfl) (fun K hK => ?_);refine step_append_rat (by rfl) _ _ (by rfl) (by rfl) (by rfl) hrow' h7 b7 hlen (extr.trans E10).size ?_;intro v6 W6 hrow6 hgr hob;refine hK.out _ _ ?_;clear hK K
   try simp only [Act.put,sA1,sS1,sZ1]
   refine wpL.tail (i := 9) rfl (by kernel_rfl) (by kernel_rfl) (fun K hK => ?_);go_simp;refine hK.out _ _ ?_;clear hK K
   try simp only [Act.put,sA1,sS1,sZ1]
   refine wpL.done (by kernel_rfl) ?_ _;clear hQ
   go_wp2_with fail
   go_roundw
   case rel => exact ⟨k + 1, by omega, by go_num, Below.grown (extr.trans E10) hgr (extr.trans E10).size (fun k hk => (hrow'.block k hk).1), by rw [HT.out]; exact hrow6⟩
   case measure => simp [intOf]; omega
  ·have hkn : k = (scaleP qs x).length := by omega
   rw [hkn, List.take_of_length_le (Nat.le_refl _)] at hrow;have hI : (n : Int) ≤ (k : Int) := by omega
   obtain ⟨A7, n7, c7, rfl, hp⟩ := hrow.pol;have hl7 := hp.len;clear hrow
   go_wp2_with fail
   refine (q_TrimP hp (by omega) (by omega)).mono ?_;rintro e V ⟨A8, n8, c8, rfl, h8, hxt⟩
   go_wp2_with fail
   go_ret
   exact ⟨A8, n8, c8, rfl, h8, (extW.trans extr).trans hxt⟩
set_option maxHeartbeats 2000000 in
theorem q_SubP (h : Pol w A n c qs L) (h' : Pol w B m d ps M) (hL2 : 2 ≤ L) (hL : L ≤ 100) (hM : M ≤ 100) (hn : n ≤ 1000) (hm : m ≤ 1000) : Calls Tryz.prog 21 #[.slice A n c, .slice B m d] w (RetPol (trimP (sumP qs (negP ps))) (L + M + 3) w) := by
 have hlm := trimP_len (negP ps);have hl := h'.len;have hln : (negP ps).length = ps.length := List.length_map _
 go_enter Tryz.func21, Tryz.ntmps21
 go_wp2_with fail
 refine (q_FromIntR (-1) (by omega) (by omega)).mono ?_;rintro e V ⟨s7, A7, n7, c7, t7, B7, m7, d7, rfl, h7, hx7⟩;have e0 : (((-1 : Int) : Rat)) = -1 := rfl;rw [e0] at h7
 go_wp2_with fail
 refine (q_ScaleP (h'.ext hx7) h7 (by omega) (by omega) hm).mono ?_;rintro e V1 ⟨A7, n7, c7, rfl, h8, hxt⟩;rw [scaleP_neg] at h8;have hl7 := h8.len;have hx1 := hx7.trans hxt
 go_wp2_with fail
 refine (q_AddP (h.ext hx1) h8 hL2 (by omega) (by omega) (by omega) hn (by omega)).mono ?_;rintro e V2 ⟨A8, n8, c8, rfl, h9, hxt2⟩;rw [trimP_sum_r] at h9
 go_wp2_with fail
 go_ret
 exact ⟨A8, n8, c8, rfl, h9, hx1.trans hxt2⟩
set_option maxHeartbeats 2000000 in
theorem q_SameP (h : Pol w A n c qs L) (h' : Pol w B m d ps M) (hL2 : 2 ≤ L) (hL : L ≤ 100) (hM : M ≤ 100) (hn : n ≤ 1000) (hm : m ≤ 1000) : Calls Tryz.prog 91 #[.slice A n c, .slice B m d] w fun e w' => e = .returned (.bool (decide (trimP (sumP qs (negP ps)) = []))) ∧ Ext w w' := by
 obtain ⟨b, hb⟩ : ∃ b, decide (trimP (sumP qs (negP ps)) = []) = b := ⟨_, rfl⟩;have HB := Lib.hid hb;rw [hb];clear hb
 go_enter Tryz.func91, Tryz.ntmps91
 go_wp2_with fail
 refine (q_SubP h h' hL2 hL hM hn hm).mono ?_;rintro e V ⟨A8, n8, c8, rfl, h9, hxt⟩;have hl := h9.len
 have hn8 : ((n8 : Int) == 0) = b := by
  rw [← HB.out, ← hl]
  by_cases e : trimP (sumP qs (negP ps)) = []
  ·rw [e]; rfl
  ·rw [decide_eq_false e]
   exact beq_eq_false_iff_ne.2 (fun e2 => e (List.length_eq_zero_iff.1 (by omega)))
 go_wp2_with fail
 go_ret
 exact ⟨by rw [← hn8]; rfl, hxt⟩
end
def derP (qs : List Rat) : List Rat := (List.range (qs.length - 1)).map fun i => atP qs (i + 1) * (((i : Int) + 1 : Int) : Rat)
theorem derP_len (qs : List Rat) : (derP qs).length = qs.length - 1 := by unfold derP; simp
theorem derP_at (qs : List Rat) (p : Nat) (h0 : 1 ≤ p) (h' : p < qs.length) : (derP qs).take (p + 1 - 1) = (derP qs).take (p - 1) ++ [qs[p] * ((p : Int) : Rat)] := by
 obtain ⟨k, rfl⟩ : ∃ k, p = k + 1 := ⟨p - 1, by omega⟩;have hs : k < (derP qs).length := by rw [derP_len]; omega
 rw [show k + 1 + 1 - 1 = k + 1 by omega, show k + 1 - 1 = k by omega, List.take_succ_eq_append_getElem hs]
 congr 2
 simp [derP, atP_lt h']
section
variable {w w' : World} {q x : Rat} {L M : Nat} {s t : Bool} {A B : Option Addr} {n c m d : Nat} {sx tx : Bool} {Ax Bx : Option Addr} {nx cx mx dx : Nat} {qs ps : List Rat}
set_option maxHeartbeats 8000000 in
set_option maxRecDepth 100000 in
theorem p_DerP (h : Pol w A n c qs L) (hL : L ≤ 60) (hn : n ≤ 1000) (hT : Tab w) : Calls Tryz.prog 35 #[.slice A n c] w (RetPol (trimP (derP qs)) (L + 2) w) := by
 have Hlen := Lib.hid h.len;have Hd := Lib.hid (show (derP qs).length = n - 1 by rw [derP_len, h.len])
 go_enter Tryz.func35, Tryz.ntmps35
 go_wp2_with fail
 go_loopw [3, 8] (fun v i wr => ∃ k : Nat, k ≤ n ∧ i = .int .i64 (k : Int) ∧ Ext w wr ∧ Row4 wr w.heap.size v ((derP qs).take (k - 1)) (L + 2)) (fun _ i _ => n - (intOf i).toNat)
 case atStart => exact ⟨0, Nat.zero_le _, rfl, Ext.refl _, Row4.nil _ _ _⟩
 case round =>
  obtain ⟨k, hk, rfl, ext, hrow⟩ := hrel
  by_cases hlt : k < n
  ·have hj : k < qs.length := by rw [Hlen.out]; exact hlt
   have hI : (k : Int) < (n : Int) := by omega
   obtain ⟨b, off, rfl, hr⟩ := h.at_ (fun e => by rw [e] at hj; exact absurd hj (Nat.not_lt_zero _));obtain ⟨sx, Ax, nx, cx, tx, Bx, mx, dx, e0, e1, e2, e3, hx⟩ := (hr.ext ext).at_ k hj;have e0' : wr.cell? ⟨b, off + k * 4, none⟩ = some (.bool sx) := by rw [Nat.mul_comm]; exact e0
   have e1' : wr.cell? ⟨b, off + k * 4 + 1, none⟩ = some (.slice Ax nx cx) := by rw [Nat.mul_comm]; exact e1
   have e2' : wr.cell? ⟨b, off + k * 4 + 2, none⟩ = some (.bool tx) := by rw [Nat.mul_comm]; exact e2
   have e3' : wr.cell? ⟨b, off + k * 4 + 3, none⟩ = some (.slice Bx mx dx) := by rw [Nat.mul_comm]; exact e3
   clear e0 e1 e2 e3
   go_upto_region 5 with (fail)
   obtain ⟨W9, hW9, ext9, b9, hz9⟩ := box1 wr 27 #[.bool sx, .slice Ax nx cx, .bool tx, .slice Bx mx dx];rw [← hW9];clear hW9 hz9 e0' e1' e2' e3';replace hx := hx.ext ext9;replace hrow := hrow.ext ext9;replace ext := ext.trans ext9;clear ext9;generalize wr.heap.size = g9 at b9 ⊢
   rcases Nat.eq_zero_or_pos k with hk0 | hk1
   ·subst hk0
    go_wp2_with fail
    go_roundw
    case rel => exact ⟨1, by omega, by go_num, ext, hrow⟩
    case measure => simp [intOf]; omega
   ·have hlen : ((derP qs).take (k - 1)).length ≤ 1000 := by rw [List.length_take]; omega
    have hI2 : (0 : Int) < (k : Int) := by omega
    have HT := Lib.hid (derP_at qs k hk1 hj)
    go_upto_region 6 with (fail)
    refine wpL.start 6 (by kernel_rfl) (fun _ _ _ _ _ => ⟨fun h => h, fun h => h⟩) (fun hQ ES => ?_);refine wpL.tkB [6] (i := 0) (d := some 15) (v := ?v0_35) rfl rfl hQ (Or.inl ⟨by rfl, ?y0_35⟩) ES ?_
    case y0_35 => intro w' hSw;go_simp;try with_reducible rfl
    try simp only [Act.put,sA1,sS1,sZ1]
    refine wpL.tkB [4, 5, 6] (i := 1) (d := some 16) (v := ?v1_36) rfl rfl hQ (Or.inl ⟨by rfl, ?y1_36⟩) ES ?_
    case y1_36 => intro w' hSw;have j0 := (b9.ext hSw).c4;go_simp;try with_reducible rfl
    try simp only [Act.put,sA1,sS1,sZ1]
    refine wpL.tkB [3, 4, 5, 6] (i := 2) (d := some 17) (v := ?v2_37) rfl rfl hQ (Or.inl ⟨by rfl, ?y2_37⟩) ES ?_
    case y2_37 => intro w' hSw;go_simp;try with_reducible rfl
    try simp only [Act.put,sA1,sS1,sZ1]
    refine wpL.call (i := 3) rfl (by kernel_rfl) (fun K hK => ?_);go_simp
    (go_at_call 69; refine (p_FromIntR (k : Int) (by omega) (by omega)).mono ?_; rintro e wj ⟨s6, A6, n6, c6, t6, B6, m6, d6, rfl, h6, hx6⟩; have E6 := Ext.trans ES hx6)
    refine hK.out _ _ E6 ?_;clear hK K
    try simp only [Act.put,sA1,sS1,sZ1]
    refine wpL.call (i := 4) rfl (by kernel_rfl) (fun K hK => ?_);go_simp
    (go_at_call 59; refine (p_MulR (hx.ext E6) h6 (by omega) (by omega) (by omega) (hT.ext (ext.trans E6))).mono ?_; rintro e wk ⟨s7, A7, n7, c7, t7, B7, m7, d7, rfl, h7, hx7⟩; have E9 := Ext.trans E6 hx7)
    refine hK.out _ _ E9 ?_;clear hK K
    try simp only [Act.put,sA1,sS1,sZ1]
    refine wpL.call (i := 5) rfl (by kernel_rfl) (fun K hK => ?_);have ha7 := (Ext.refl wk).alloc (.cells #[.bool s7, .slice A7 n7 c7, .bool t7, .slice B7 m7 d7] 27);have b7 := Box.new wk 27 #[.bool s7, .slice A7 n7 c7, .bool t7, .slice B7 m7 d7];go_simp;refine hK.out _ _ (E9.trans ha7) ?_;clear hK K
    try simp only [Act.put,sA1,sS1,sZ1]
    replace h7 := h7.ext ha7;have E10 := E9.trans ha7;clear ha7 E9 E6 hx6 hx7 h6;have hrow' := hrow.ext E10;refine at_wpLP (fun V => Ext W9 V ∧ Row4 V w.heap.size u3 ((derP qs).take (k - 1)) (L + 2) ∧ NR V (qs[k] * ((k : Int) : Rat)) (L + 2) s7 A7 n7 c7 t7 B7 m7 d7 ∧ Box V wk.heap.size 27 #[.bool s7, .slice A7 n7 c7, .bool t7, .slice B7 m7 d7]) ⟨E10, hrow', h7, b7⟩ ?_;clear E10 hrow' h7 b7;generalize wk.heap.size = g7;rintro V ⟨E10, hrow', h7, b7⟩;refine wpL.tail (i := 6) rfl (by kernel_rfl) (by kernel_rfl) (fun K hK => ?_);refine step_append_rat (by rfl) _ _ (by rfl) (by rfl) (by rfl) hrow' h7 b7 hlen (ext.trans E10).size ?_;intro v6 W6 hrow6 hgr hob;refine hK.out _ _ ?_;clear hK K
    try simp only [Act.put,sA1,sS1,sZ1]
    refine wpL.tail (i := 7) rfl (by kernel_rfl) (by kernel_rfl) (fun K hK => ?_);go_simp;refine hK.out _ _ ?_;clear hK K
    try simp only [Act.put,sA1,sS1,sZ1]
    refine wpL.done (by kernel_rfl) ?_ _;clear hQ
    go_wp2_with fail
    go_roundw
    case rel => exact ⟨k + 1, by omega, by go_num, Below.grown (ext.trans E10) hgr (ext.trans E10).size (fun k hk => (hrow'.block k hk).1), by rw [HT.out]; exact hrow6⟩
    case measure => simp [intOf]; omega
  ·rw [List.take_of_length_le (by rw [Hd.out]; omega)] at hrow
   have hI : (n : Int) ≤ (k : Int) := by omega
   have hld := Hd.out;obtain ⟨A7, n7, c7, rfl, hp⟩ := hrow.pol;have hl7 := hp.len;clear hrow
   go_wp2_with fail
   refine (p_cutR hp (by omega) (by omega)).mono ?_;rintro e V ⟨A8, n8, c8, rfl, h8, hxt⟩
   go_wp2_with fail
   go_ret
   exact ⟨A8, n8, c8, rfl, h8, ext.trans hxt⟩
end
def exQ : List Rat := [0, 2, -4, 2]
def exQd : List Rat := [2, -8, 6]
def exG : List Rat := [-1, 1]
def exH : List Rat := [0, -2, 2]
def exS : List Rat := [0, -1, 1]
theorem exQ_prim : primI (trimI (numsP exQ)) = exA ∧ trimI (numsP exQ) ≠ [] := by decide +kernel
theorem exQd_prim : primI (trimI (numsP exQd)) = exB ∧ trimI (numsP exQd) ≠ [] := by decide +kernel
theorem exQ_size : SizeP exQ 1 := ⟨by decide +kernel, by decide +kernel⟩
theorem exQd_size : SizeP exQd 1 := ⟨by decide +kernel, by decide +kernel⟩
theorem exG_size : SizeP exG 1 := ⟨by decide +kernel, by decide +kernel⟩
theorem exG_eq : exD.map (fun z => mkQ z (exD.getLastD 0)) = exG := by decide +kernel
theorem exQ_der : trimP (derP exQ) = exQd := by decide +kernel
theorem exQ_nums : trimI (numsP exQ) = [0, 2, -4, 2] ∧ trimI (numsP exG) = [-1, 1] := by decide +kernel
theorem exH_div : divC [0, 2, -4, 2] [-1] 1 3 1 1 = true := by decide +kernel
theorem exH_eq : trimP (scaleP (divS [0, 2, -4, 2] [-1] 1 3 3).2.2 (mkQ ((denP exG : Nat) : Int) ((denP exQ : Nat) : Int))) = exH := by decide +kernel
theorem exS_eq : trimP (scaleP exH (((1 : Int) : Rat) / exH.getLastD 0)) = exS ∧ exH.getLastD 0 ≠ 0 := by decide +kernel
set_option maxHeartbeats 8000000 in
set_option maxRecDepth 100000 in
theorem p_GCD_ex {w : World} {A B : Option Addr} {c d L M : Nat} (h : Pol w A 4 c exQ L) (h' : Pol w B 3 d exQd M) (hL : L ≤ 60) (hM : M ≤ 60) (hT : Tab w) : Calls Tryz.prog 90 #[.slice A 4 c, .slice B 3 d] w (RetPol exG 1 w) := by
 go_enter Tryz.func90, Tryz.ntmps90
 go_wp2_with fail
 refine (p_PrimitiveP h hL (by omega) exQ_size (by omega) exQ_prim.2 hT).mono ?_;rw [exQ_prim.1];rintro e V1 ⟨A1, n1, c1, rfl, h1, x1⟩;have hn1 : n1 = 4 := h1.len.symm;subst hn1
 go_wp2_with fail
 refine (p_PrimitiveP (h'.ext x1) hM (by omega) exQd_size (by omega) exQd_prim.2 (hT.ext x1)).mono ?_;rw [exQd_prim.1];rintro e V2 ⟨A2, n2, c2, rfl, h2, x2⟩;have hn2 : n2 = 3 := h2.len.symm;subst hn2
 go_wp2_with fail
 refine (p_commonD_ex (h1.ext x2) h2 (hT.ext (x1.trans x2))).mono ?_;rintro e V3 ⟨A3, n3, c3, rfl, h3, x3⟩;have hn3 : n3 = 2 := h3.len.symm;subst hn3
 go_wp2_with fail
 refine (p_lastN h3 (by omega) (by omega)).mono ?_;rintro e V4 ⟨s4, A4, n4, c4, rfl, h4, x4⟩;have hT4 := hT.ext (((x1.trans x2).trans x3).trans x4)
 go_wp2_with fail
 refine (p_join (h3.ext x4) h4 (by decide) (by omega) (by omega) (by omega) hT4).mono ?_;rw [exG_eq];rintro e V5 ⟨A5, n5, c5, rfl, h5, x5⟩
 go_wp2_with fail
 go_ret
 exact ⟨A5, n5, c5, rfl, h5, (((x1.trans x2).trans x3).trans x4).trans x5⟩
set_option maxHeartbeats 8000000 in
set_option maxRecDepth 100000 in
theorem p_Squarefree_ex {w : World} {A : Option Addr} {c L : Nat} (h : Pol w A 4 c exQ L) (hL : L ≤ 50) (hT : Tab w) : Calls Tryz.prog 44 #[.slice A 4 c] w (RetPol exS 10 w) := by
 go_enter Tryz.func44, Tryz.ntmps44
 go_wp2_with fail
 refine (p_DerP h (by omega) (by omega) hT).mono ?_;rw [exQ_der];rintro e V1 ⟨A1, n1, c1, rfl, h1, x1⟩;have hn1 : n1 = 3 := h1.len.symm;subst hn1
 go_wp2_with fail
 refine (p_GCD_ex (h.ext x1) h1 (by omega) (by omega) (hT.ext x1)).mono ?_;rintro e V2 ⟨A2, n2, c2, rfl, h2, x2⟩;have hn2 : n2 = 2 := h2.len.symm;subst hn2;replace h := h.ext (x1.trans x2);replace hT := hT.ext (x1.trans x2);have HC := p_DivModP (X := 1) (Y := 1) (S := 1) (C := 1) (o := 1) (N := 3) (xs := [0, 2, -4, 2]) (ys := [-1, 1]) (os := [-1]) (lead := 1) h h2 (by omega) (by omega) (by omega) (by omega) exQ_size exG_size (by omega) (by omega) exQ_nums.1 exQ_nums.2 (by decide) rfl rfl rfl rfl (by decide) (divC_ok exH_div) (by omega) (by omega) (by omega) hT;rw [exH_eq] at HC;have HC := Lib.hid HC
 go_wp2_with fail
 refine HC.out.mono ?_;clear HC;rintro e V3 ⟨A3, n3, c3, B3, m3, d3, rfl, h3, _, x3⟩;have hn3 : n3 = 3 := h3.len.symm;subst hn3
 go_wp2_with fail
 refine (p_FromIntR 1 (by omega) (by omega)).mono ?_;rintro e V4 ⟨s4, A4, n4, c4, t4, B4, m4, d4, rfl, h4, x4⟩
 go_wp2_with fail
 refine (p_lastR (h3.ext x4) (by omega) (by omega)).mono ?_;rintro e V5 ⟨s5, A5, n5, c5, t5, B5, m5, d5, rfl, h5, x5⟩;have hT5 := hT.ext ((x3.trans x4).trans x5)
 go_wp2_with fail
 refine (p_Div_nz (h4.ext x5) h5 (by omega) (by omega) (by omega) hT5 exS_eq.2).mono ?_;rintro e V6 ⟨s6, A6, n6, c6, t6, B6, m6, d6, rfl, h6, x6⟩
 go_upto_region 5 with (fail)
 obtain ⟨W7, hW7, ext7, b7, hz7⟩ := box1 V6 27 #[.bool s6, .slice A6 n6 c6, .bool t6, .slice B6 m6 d6];rw [← hW7];clear hW7 hz7;generalize V6.heap.size = g7 at b7 ⊢;have q0 := b7.cell 0 _ rfl;have q1 := b7.cell 1 _ rfl;have q2 := b7.cell 2 _ rfl;have q3 := b7.cell 3 _ rfl
 go_wp2_with fail
 refine (p_ScaleP (h3.ext (((x4.trans x5).trans x6).trans ext7)) (h6.ext ext7) (by omega) (by omega) (by omega) (hT5.ext (x6.trans ext7))).mono ?_;rw [exS_eq.1];rintro e V8 ⟨A8, n8, c8, rfl, h8, x8⟩
 go_wp2_with fail
 go_ret
 exact ⟨A8, n8, c8, rfl, h8, (x1.trans x2).trans ((((((x3.trans x4).trans x5).trans x6).trans ext7)).trans x8)⟩
def pv : List (Int × Int) → List Value
 | [] => []
 | x :: l => .int .i64 x.1 :: .int .i64 x.2 :: pv l
theorem pv_at : ∀ (ps : List (Int × Int)) (k : Nat) (h : k < ps.length), (pv ps)[2 * k]? = some (.int .i64 ps[k].1) ∧ (pv ps)[2 * k + 1]? = some (.int .i64 ps[k].2)
 | x :: l, 0, _ => ⟨rfl, rfl⟩
 | x :: l, k + 1, h => by
  have hl : k < l.length := by simpa using h
  have := pv_at l k hl;refine ⟨?_, ?_⟩
  ·rw [show 2 * (k + 1) = 2 * k + 1 + 1 by omega]; exact this.1
  ·rw [show 2 * (k + 1) + 1 = 2 * k + 1 + 1 + 1 by omega]; exact this.2
theorem pv_cell {w : World} {g : Nat} {ps : List (Int × Int)} (hb : Box w g 53 (pv ps).toArray) {k : Nat} (h : k < ps.length) : w.cell? ⟨g, k * 2, none⟩ = some (.int .i64 ps[k].1) ∧ w.cell? ⟨g, k * 2 + 1, none⟩ = some (.int .i64 ps[k].2) := by
 have := pv_at ps k h;rw [Nat.mul_comm];exact ⟨hb.cell _ _ (by simpa using this.1), hb.cell _ _ (by simpa using this.2)⟩
def fracs (ps : List (Int × Int)) : List Rat := ps.map fun x => mkQ x.1 x.2
set_option maxHeartbeats 8000000 in
set_option maxRecDepth 100000 in
theorem p_rats {w : World} {g n : Nat} {ps : List (Int × Int)} (hb : Box w g 53 (pv ps).toArray) (hl : ps.length = n) (hn : n ≤ 100) (hx : ∀ x ∈ ps, (-9223372036854775808 ≤ x.1 ∧ x.1 < 9223372036854775808) ∧ -9223372036854775808 ≤ x.2 ∧ x.2 < 9223372036854775808) : Calls Tryz.prog 43 #[.slice (some ⟨g, 0, none⟩) n n] w (RetPol (fracs ps) 2 w) := by
 have HX := Lib.hid hx;have HL := Lib.hid hl;clear hx hl
 go_enter Tryz.func43, Tryz.ntmps43
 go_wp2_with fail
 go_loopw [3, 8] (fun v i wr => ∃ k : Nat, k ≤ n ∧ i = .int .i64 (k : Int) ∧ Ext w wr ∧ Row4 wr w.heap.size v (fracs (ps.take k)) 2) (fun _ i _ => n - (intOf i).toNat)
 case atStart => exact ⟨0, Nat.zero_le _, rfl, Ext.refl w, by rw [List.take_zero]; exact Row4.nil _ _ _⟩
 case round =>
  obtain ⟨k, hk, rfl, extr, hrow⟩ := hrel
  rename_i v _
  by_cases hlt : k < n
  ·have hkI : (k : Int) < (n : Int) := by omega
   have hkl : k < ps.length := by rw [HL.out]; exact hlt
   obtain ⟨e0, e1⟩ := pv_cell (hb.ext extr) hkl;have HT := Lib.hid (show fracs (ps.take (k + 1)) = fracs (ps.take k) ++ [mkQ ps[k].1 ps[k].2] by rw [List.take_succ_eq_append_getElem hkl]; unfold fracs; rw [List.map_append]; rfl);have HB := Lib.hid (HX.out _ (List.getElem_mem hkl));have hlen : (fracs (ps.take k)).length ≤ 1000 := by unfold fracs; rw [List.length_map, List.length_take]; omega
   generalize ps[k] = x at e0 e1 HT HB;obtain ⟨a, b⟩ := x;replace e0 : wr.cell? ⟨g, k * 2, none⟩ = some (.int .i64 a) := e0;replace e1 : wr.cell? ⟨g, k * 2 + 1, none⟩ = some (.int .i64 b) := e1
   go_upto_region 5 with (fail)
   obtain ⟨W4, hW4, ext4, b8, hz4⟩ := box1 wr 53 #[.int .i64 a, .int .i64 b];rw [← hW4];clear hW4 hz4 e0 e1;replace extr := extr.trans ext4;replace hrow := hrow.ext ext4;clear ext4;have y0 := b8.cell 0 (.int .i64 a) rfl;have y1 := b8.cell 1 (.int .i64 b) rfl
   go_wp2_with fail
   refine (q_Frac a b HB.out.1.1 HB.out.1.2 HB.out.2.1 HB.out.2.2).mono ?_;rintro e W5 ⟨s7, A7, n7, c7, t7, B7, m7, d7, rfl, h7, ext5⟩;clear y0 y1;have ha5 := (ext5).alloc (.cells #[.bool s7, .slice A7 n7 c7, .bool t7, .slice B7 m7 d7] 27);replace extr := extr.trans ha5;replace hrow := hrow.ext ha5;replace h7 := h7.ext ((Ext.refl W5).alloc (.cells #[.bool s7, .slice A7 n7 c7, .bool t7, .slice B7 m7 d7] 27));clear ext5 ha5 b8
   go_wp2_with (at_builtin; refine wpList_append_rat rfl _ _ rfl rfl rfl hrow h7 (Box.new W5 _ _) hlen extr.size ?_; intro v6 W6 hrow6 hgr hob)
   go_roundw
   case rel =>
    refine ⟨k + 1, by omega, by go_num, Below.grown extr hgr extr.size (fun k hk => (hrow.block k hk).1), ?_⟩;rw [HT.out];exact hrow6
   case measure => simp [intOf]; omega
  ·have hkn : k = n := by omega
   subst hkn;rw [List.take_of_length_le (Nat.le_of_eq HL.out)] at hrow;have hkI : (k : Int) ≤ (k : Int) := Int.le_refl _;obtain ⟨A, m, c, rfl, hp⟩ := hrow.pol
   go_wp2_with fail
   go_ret
   exact ⟨A, m, c, rfl, hp, extr⟩
def iv8 (ws : List Int) : List Value := ws.map fun x => .int .i64 x
theorem iv8_cell {w : World} {g : Nat} {ws : List Int} (hb : Box w g 2 (iv8 ws).toArray) {k : Nat} (h : k < ws.length) : w.cell? ⟨g, k, none⟩ = some (.int .i64 ws[k]) := hb.cell _ _ (by simp [iv8, h])
set_option maxHeartbeats 8000000 in
set_option maxRecDepth 100000 in
theorem p_ints {w : World} {A : Option Addr} {g n c L : Nat} {ws : List Int} (h : IPol w A n c ws L) (hL : L ≤ 1000) (hb : Box w g 2 (iv8 ws).toArray) (hn : n ≤ 100) (hx : ∀ x ∈ ws, -9223372036854775808 ≤ x ∧ x < 9223372036854775808) : Calls Tryz.prog 46 #[.slice A n c, .slice (some ⟨g, 0, none⟩) n n] w fun e w' => e = .returned (.bool true) ∧ Ext w w' := by
 have HX := Lib.hid hx;have HL := Lib.hid h.len;have hm : ∀ a : Int, (a - a).sign = 0 := fun a => by rw [Int.sub_self]; rfl
 clear hx
 go_enter Tryz.func46, Tryz.ntmps46
 go_wp2_with fail
 go_loopw [14] (fun i wr => ∃ k : Nat, k ≤ n ∧ i = .int .i64 (k : Int) ∧ Ext w wr) (fun i _ => n - (intOf i).toNat)
 case atStart => exact ⟨0, Nat.zero_le _, rfl, Ext.refl w⟩
 case round =>
  obtain ⟨k, hk, rfl, extr⟩ := hrel
  by_cases hlt : k < n
  ·have hkI : (k : Int) < (n : Int) := by omega
   have hkl : k < ws.length := by rw [HL.out]; exact hlt
   obtain ⟨b, off, hA, hr⟩ := (h.ext extr).at_ (fun e => by rw [e] at hkl; exact absurd hkl (Nat.not_lt_zero _));subst hA;obtain ⟨s9, A9, n9, c9, z0', z1', hz⟩ := hr.at_ k hkl;have z0 : wr.cell? ⟨b, off + k * 2, none⟩ = some (.bool s9) := by rw [Nat.mul_comm]; exact z0'
   have z1 : wr.cell? ⟨b, off + k * 2 + 1, none⟩ = some (.slice A9 n9 c9) := by rw [Nat.mul_comm]; exact z1'
   clear z0' z1';have e0 := iv8_cell (hb.ext extr) hkl;have HB := Lib.hid (HX.out _ (List.getElem_mem hkl))
   have HCM : ∀ (W : World) s1 A1 n1 c1, NI W ws[k] 2 s1 A1 n1 c1 → NI W ws[k] L s9 A9 n9 c9 → Calls Tryz.prog 74 #[.agg #[.bool s9, .slice A9 n9 c9], .agg #[.bool s1, .slice A1 n1 c1]] W fun e w' => e = .returned (.int .i64 0) ∧ Ext W w' := by
    intro W s1 A1 n1 c1 h1 h2;have := q_Cmp h2 h1 (by omega) (by omega);rw [hm] at this;exact this
   go_upto_region 6 with (fail)
   have ES0 := Ext.refl wr;refine wp_region_held_drew (S := Ext wr) (by kernel_rfl) ES0.drew (fun ES => ?_);clear ES0;refine Late.start0 (fun _ _ _ _ _ => ⟨fun h => h, fun h => h⟩) ES (fun hAl hQ => ?_);refine Late.tk (i := 0) (d := some 19) (v := ?v0_29) rfl rfl hQ (Or.inl ⟨by rfl, ?y0_29⟩) ?_
   case y0_29 => intro w' hSw;have l0 := hSw.cellv z0;have l1 := hSw.cellv z1;have l2 := hkI;go_simp;try with_reducible rfl
   try simp only [Act.put,sA1,sS1,sZ1]
   refine Late.tk (i := 1) (d := some 20) (v := ?v1_30) rfl rfl hQ (Or.inl ⟨by rfl, ?y1_30⟩) ?_
   case y1_30 => intro w' hSw;have l0 := hSw.cellv z0;have l1 := hSw.cellv z1;have l2 := hkI;go_simp;try with_reducible rfl
   try simp only [Act.put,sA1,sS1,sZ1]
   refine Late.tk (i := 2) (d := some 21) (v := ?v2_31) rfl rfl hQ (Or.inl ⟨by rfl, ?y2_31⟩) ?_
   case y2_31 => intro w' hSw;have l0 := hSw.cellv z0;have l1 := hSw.cellv z1;have l2 := hkI;go_simp;try with_reducible rfl
   try simp only [Act.put,sA1,sS1,sZ1]
   refine Late.tk (i := 3) (d := some 22) (v := ?v3_32) rfl rfl hQ (Or.inl ⟨by rfl, ?y3_32⟩) ?_
   case y3_32 => intro w' hSw;have l0 := hSw.cellv z0;have l1 := hSw.cellv z1;have l2 := hkI;go_simp;try with_reducible rfl
   try simp only [Act.put,sA1,sS1,sZ1]
   refine Late.tk (i := 4) (d := some 23) (v := ?v4_33) rfl rfl hQ (Or.inl ⟨by rfl, ?y4_33⟩) ?_
   case y4_33 => intro w' hSw;have l0 := hSw.cellv z0;have l1 := hSw.cellv z1;have l2 := hkI;go_simp;try with_reducible rfl
   try simp only [Act.put,sA1,sS1,sZ1]
   refine Late.call (i := 5) rfl (by kernel_rfl) hAl (by kernel_rfl) (by kernel_rfl) (by kernel_rfl) hQ (fun w5 e5 E5 K hK => ?_);go_simp
   (go_at_call 81; refine (q_FromInt ws[k] HB.out.1 HB.out.2).mono ?_; rintro e wa ⟨s1, A1, n1, c1, rfl, h1, hx0⟩)
   refine hK.out _ _ hx0 ?_;clear hK K
   try simp only [Act.put,sA1,sS1,sZ1]
   refine Late.call (i := 6) rfl (by kernel_rfl) hAl (by kernel_rfl) (by kernel_rfl) (by kernel_rfl) hQ (fun w6 e6 E6 K hK => ?_);go_simp
   (go_at_call 74; refine (HCM _ _ _ _ _ (h1.ext e6) (hz.ext E6)).mono ?_; rintro e wb ⟨rfl, hx1⟩)
   refine hK.out _ _ hx1 ?_;clear hK K
   try simp only [Act.put,sA1,sS1,sZ1]
   refine Late.tk (i := 7) (d := some 26) (v := ?v7_34) rfl rfl hQ (Or.inl ⟨by rfl, ?y7_34⟩) ?_
   case y7_34 => intro w' hSw;go_simp;try with_reducible rfl
   try simp only [Act.put,sA1,sS1,sZ1]
   refine Late.done0 (by kernel_rfl) (fun wz ez Ez => ?_);clear hAl hQ ES;have hxz := extr.trans Ez
   go_wp2_with fail
   go_roundw
   case rel => exact ⟨k + 1, by omega, by go_num, hxz⟩
   case measure => simp [intOf]; omega
  ·have hkn : k = n := by omega
   subst hkn;have hkI : (k : Int) ≤ (k : Int) := Int.le_refl _
   go_wp2_with fail
   go_ret
   exact ⟨rfl, extr⟩
section
variable {w w' : World} {q x : Rat} {L M : Nat} {s t : Bool} {A B : Option Addr} {n c m d : Nat} {sx tx : Bool} {Ax Bx : Option Addr} {nx cx mx dx : Nat} {qs ps : List Rat}
theorem sub_nil {qs ps : List Rat} (hl : qs.length = ps.length) : trimP (sumP qs (negP ps)) = [] ↔ qs = ps := by
 constructor
 ·intro h
  refine List.ext_getElem hl (fun i h1 h2 => ?_);have e : atP (sumP qs (negP ps)) i = 0 := by rw [← atP_trimP, h]; rfl
  rw [atP_sumP, atP_lt h1, atP_lt (l := negP ps) (by unfold negP; rw [List.length_map]; exact h2)] at e;simp only [negP, List.getElem_map] at e;have e2 : qs[i] + -ps[i] + ps[i] = ps[i] := by rw [e, Rat.zero_add]
  rwa [Rat.add_assoc, Rat.neg_add_cancel, Rat.add_zero] at e2
 ·intro h
  rw [← h, sumP_negP, trimP_zeros]
theorem q_ValidN (h : NR w q L s A n c t B m d) (hL : L ≤ 3000) : Calls Tryz.prog 30 #[.agg #[.bool s, .slice A n c, .bool t, .slice B m d]] w fun e w' => e = .returned (.bool true) ∧ Ext w w' := by
 obtain ⟨xs, ys, r1, r2, hv, hn, hm, _⟩ := h.raw;refine (q_ValidRaw r1 r2 (by omega) (by omega)).mono ?_;rintro e V ⟨rfl, hx⟩;exact ⟨by rw [hv], hx⟩
set_option maxHeartbeats 2000000 in
theorem q_EqualP (h : Pol w A n c qs L) (h' : Pol w B m d ps M) (hL2 : 2 ≤ L) (hL : L ≤ 100) (hM : M ≤ 100) (hn : n ≤ 1000) (hm : m ≤ 1000) : Calls Tryz.prog 45 #[.slice A n c, .slice B m d] w fun e w' => e = .returned (.bool (decide (qs = ps))) ∧ Ext w w' := by
 by_cases hlt : n = m
 ·have hd : decide (trimP (sumP qs (negP ps)) = []) = decide (qs = ps) := decide_eq_decide.2 (sub_nil (by rw [h.len, h'.len]; exact hlt))
  subst hlt;obtain ⟨b, hb⟩ : ∃ b, decide (qs = ps) = b := ⟨_, rfl⟩;rw [hb] at hd;rw [hb];have HD := Lib.hid hd;clear hd hb
  go_enter Tryz.func45, Tryz.ntmps45
  go_wp2_with fail
  refine (q_SameP h h' hL2 hL hM hn hm).mono ?_;rintro e V ⟨rfl, hxt⟩;rw [HD.out]
  go_wp2_with fail
  go_ret
  exact ⟨rfl, hxt⟩
 ·have hd : decide (qs = ps) = false := decide_eq_false (fun e => hlt (by rw [← h.len, ← h'.len, e]))
  rw [hd];clear hd;have hb : ((n : Int) == (m : Int)) = false := beq_eq_false_iff_ne.2 (by omega)
  go_enter Tryz.func45, Tryz.ntmps45
  go_wp2_with fail
  go_ret
  exact ⟨rfl, Ext.refl _⟩
set_option maxHeartbeats 4000000 in
theorem good_P (h : Pol w A n c qs L) (h' : Pol w B m d ps M) (hL2 : 2 ≤ L) (hL : L ≤ 100) (hM : M ≤ 100) (hn : n ≤ 1000) (hm : m ≤ 1000) : Calls Tryz.prog 12 #[.slice A n c, .slice B m d] w fun e w' => e = .returned (.bool (decide (qs = ps))) ∧ Ext w w' := by
 obtain ⟨b, hb⟩ : ∃ b, decide (qs = ps) = b := ⟨_, rfl⟩;have HB := Lib.hid hb;rw [hb];clear hb;have Hlen := Lib.hid h.len
 go_enter Tryz.func12, Tryz.ntmps12
 go_wp2_with fail
 go_loopw [9] (fun i wr => ∃ k : Nat, k ≤ n ∧ i = .int .i64 (k : Int) ∧ Ext w wr) (fun i _ => n - (intOf i).toNat)
 case atStart => exact ⟨0, by omega, rfl, Ext.refl _⟩
 case round =>
  obtain ⟨k, hk, rfl, ext⟩ := hrel
  by_cases hlt : k < n
  ·have hj : k < qs.length := by rw [Hlen.out]; exact hlt
   have hI : (k : Int) < (n : Int) := by omega
   obtain ⟨p, off, rfl, hr⟩ := h.at_ (fun e => by rw [e] at hj; exact absurd hj (Nat.not_lt_zero _));obtain ⟨sx, Ax, nx, cx, tx, Bx, mx, dx, e0, e1, e2, e3, hx⟩ := (hr.ext ext).at_ k hj;have e0' : wr.cell? ⟨p, off + k * 4, none⟩ = some (.bool sx) := by rw [Nat.mul_comm]; exact e0
   have e1' : wr.cell? ⟨p, off + k * 4 + 1, none⟩ = some (.slice Ax nx cx) := by rw [Nat.mul_comm]; exact e1
   have e2' : wr.cell? ⟨p, off + k * 4 + 2, none⟩ = some (.bool tx) := by rw [Nat.mul_comm]; exact e2
   have e3' : wr.cell? ⟨p, off + k * 4 + 3, none⟩ = some (.slice Bx mx dx) := by rw [Nat.mul_comm]; exact e3
   clear e0 e1 e2 e3
   go_wp2_with fail
   refine (q_ValidN (hx.ext ((Ext.refl wr).alloc _)) (by omega)).mono ?_;rintro e V ⟨rfl, hxv⟩
   go_wp2_with fail
   go_roundw
   case rel => exact ⟨k + 1, by omega, by go_num, (ext.alloc _).trans hxv⟩
   case measure => simp [intOf]; omega
  ·have hI : (n : Int) ≤ (k : Int) := by omega
   go_wp2_with fail
   refine (q_EqualP (h.ext ext) (h'.ext ext) hL2 hL hM hn hm).mono ?_;rintro e V ⟨rfl, hxv⟩;rw [HB.out]
   go_wp2_with fail
   go_ret
   exact ⟨rfl, ext.trans hxv⟩
end
def ex0 : List Rat := [(-1), (0), (1)]
theorem ex0_fr : fracs [(-1, 1), (0, 1), (1, 1)] = ex0 := by decide +kernel
theorem rats0 {w : World} {g : Nat} (hb : Box w g 53 #[.int .i64 (-1), .int .i64 (1), .int .i64 (0), .int .i64 (1), .int .i64 (1), .int .i64 (1)]) : Calls Tryz.prog 43 #[.slice (some ⟨g, 0, none⟩) 3 3] w (RetPol ex0 2 w) := by
 have := p_rats (n := 3) (ps := [(-1, 1), (0, 1), (1, 1)]) hb rfl (by omega) (by decide)
 rwa [ex0_fr] at this
def ex1 : List Rat := [(2), (2)]
theorem ex1_fr : fracs [(2, 1), (2, 1)] = ex1 := by decide +kernel
theorem rats1 {w : World} {g : Nat} (hb : Box w g 53 #[.int .i64 (2), .int .i64 (1), .int .i64 (2), .int .i64 (1)]) : Calls Tryz.prog 43 #[.slice (some ⟨g, 0, none⟩) 2 2] w (RetPol ex1 2 w) := by
 have := p_rats (n := 2) (ps := [(2, 1), (2, 1)]) hb rfl (by omega) (by decide)
 rwa [ex1_fr] at this
def ex2 : List Rat := [(0), (2), (-4), (2)]
theorem ex2_fr : fracs [(0, 1), (2, 1), (-4, 1), (2, 1)] = ex2 := by decide +kernel
theorem rats2 {w : World} {g : Nat} (hb : Box w g 53 #[.int .i64 (0), .int .i64 (1), .int .i64 (2), .int .i64 (1), .int .i64 (-4), .int .i64 (1), .int .i64 (2), .int .i64 (1)]) : Calls Tryz.prog 43 #[.slice (some ⟨g, 0, none⟩) 4 4] w (RetPol ex2 2 w) := by
 have := p_rats (n := 4) (ps := [(0, 1), (2, 1), (-4, 1), (2, 1)]) hb rfl (by omega) (by decide)
 rwa [ex2_fr] at this
def ex3 : List Rat := [(-1 / 3), (1 / 2)]
theorem ex3_fr : fracs [(-1, 3), (1, 2)] = ex3 := by decide +kernel
theorem rats3 {w : World} {g : Nat} (hb : Box w g 53 #[.int .i64 (-1), .int .i64 (3), .int .i64 (1), .int .i64 (2)]) : Calls Tryz.prog 43 #[.slice (some ⟨g, 0, none⟩) 2 2] w (RetPol ex3 2 w) := by
 have := p_rats (n := 2) (ps := [(-1, 3), (1, 2)]) hb rfl (by omega) (by decide)
 rwa [ex3_fr] at this
def ex4 : List Rat := [(0), (-1)]
theorem ex4_fr : fracs [(0, 1), (-1, 1)] = ex4 := by decide +kernel
theorem rats4 {w : World} {g : Nat} (hb : Box w g 53 #[.int .i64 (0), .int .i64 (1), .int .i64 (-1), .int .i64 (1)]) : Calls Tryz.prog 43 #[.slice (some ⟨g, 0, none⟩) 2 2] w (RetPol ex4 2 w) := by
 have := p_rats (n := 2) (ps := [(0, 1), (-1, 1)]) hb rfl (by omega) (by decide)
 rwa [ex4_fr] at this
def ex5 : List Rat := [(1), (-3), (2)]
theorem ex5_fr : fracs [(1, 1), (-3, 1), (2, 1)] = ex5 := by decide +kernel
theorem rats5 {w : World} {g : Nat} (hb : Box w g 53 #[.int .i64 (1), .int .i64 (1), .int .i64 (-3), .int .i64 (1), .int .i64 (2), .int .i64 (1)]) : Calls Tryz.prog 43 #[.slice (some ⟨g, 0, none⟩) 3 3] w (RetPol ex5 2 w) := by
 have := p_rats (n := 3) (ps := [(1, 1), (-3, 1), (2, 1)]) hb rfl (by omega) (by decide)
 rwa [ex5_fr] at this
def ex6 : List Rat := [(0), (0), (1)]
theorem ex6_fr : fracs [(0, 1), (0, 1), (1, 1)] = ex6 := by decide +kernel
theorem rats6 {w : World} {g : Nat} (hb : Box w g 53 #[.int .i64 (0), .int .i64 (1), .int .i64 (0), .int .i64 (1), .int .i64 (1), .int .i64 (1)]) : Calls Tryz.prog 43 #[.slice (some ⟨g, 0, none⟩) 3 3] w (RetPol ex6 2 w) := by
 have := p_rats (n := 3) (ps := [(0, 1), (0, 1), (1, 1)]) hb rfl (by omega) (by decide)
 rwa [ex6_fr] at this
def ex7 : List Rat := [(1), (1)]
theorem ex7_fr : fracs [(1, 1), (1, 1)] = ex7 := by decide +kernel
theorem rats7 {w : World} {g : Nat} (hb : Box w g 53 #[.int .i64 (1), .int .i64 (1), .int .i64 (1), .int .i64 (1)]) : Calls Tryz.prog 43 #[.slice (some ⟨g, 0, none⟩) 2 2] w (RetPol ex7 2 w) := by
 have := p_rats (n := 2) (ps := [(1, 1), (1, 1)]) hb rfl (by omega) (by decide)
 rwa [ex7_fr] at this
def ex8 : List Rat := [(-1 / 2), (1 / 2)]
theorem ex8_fr : fracs [(-1, 2), (1, 2)] = ex8 := by decide +kernel
theorem rats8 {w : World} {g : Nat} (hb : Box w g 53 #[.int .i64 (-1), .int .i64 (2), .int .i64 (1), .int .i64 (2)]) : Calls Tryz.prog 43 #[.slice (some ⟨g, 0, none⟩) 2 2] w (RetPol ex8 2 w) := by
 have := p_rats (n := 2) (ps := [(-1, 2), (1, 2)]) hb rfl (by omega) (by decide)
 rwa [ex8_fr] at this
def ex9 : List Rat := [(0), (-1), (1)]
theorem ex9_fr : fracs [(0, 1), (-1, 1), (1, 1)] = ex9 := by decide +kernel
theorem rats9 {w : World} {g : Nat} (hb : Box w g 53 #[.int .i64 (0), .int .i64 (1), .int .i64 (-1), .int .i64 (1), .int .i64 (1), .int .i64 (1)]) : Calls Tryz.prog 43 #[.slice (some ⟨g, 0, none⟩) 3 3] w (RetPol ex9 2 w) := by
 have := p_rats (n := 3) (ps := [(0, 1), (-1, 1), (1, 1)]) hb rfl (by omega) (by decide)
 rwa [ex9_fr] at this
def ex10 : List Rat := [(1), (2), (1)]
theorem ex10_fr : fracs [(1, 1), (2, 1), (1, 1)] = ex10 := by decide +kernel
theorem rats10 {w : World} {g : Nat} (hb : Box w g 53 #[.int .i64 (1), .int .i64 (1), .int .i64 (2), .int .i64 (1), .int .i64 (1), .int .i64 (1)]) : Calls Tryz.prog 43 #[.slice (some ⟨g, 0, none⟩) 3 3] w (RetPol ex10 2 w) := by
 have := p_rats (n := 3) (ps := [(1, 1), (2, 1), (1, 1)]) hb rfl (by omega) (by decide)
 rwa [ex10_fr] at this
theorem ex0_size : SizeP ex0 1 := ⟨by decide +kernel, by decide +kernel⟩
theorem ex1_size : SizeP ex1 1 := ⟨by decide +kernel, by decide +kernel⟩
theorem ex3_size : SizeP ex3 1 := ⟨by decide +kernel, by decide +kernel⟩
theorem ex4_size : SizeP ex4 1 := ⟨by decide +kernel, by decide +kernel⟩
theorem ex6_size : SizeP ex6 1 := ⟨by decide +kernel, by decide +kernel⟩
theorem ex7_size : SizeP ex7 1 := ⟨by decide +kernel, by decide +kernel⟩
theorem ex01_nums : trimI (numsP ex0) = [-1, 0, 1] ∧ trimI (numsP ex1) = [2, 2] := by decide +kernel
theorem ex01_div : divC [-1, 0, 1] [2] 2 2 1 1 = true := by decide +kernel
theorem ex01_q : trimP (scaleP (divS [-1, 0, 1] [2] 2 2 2).2.2 (mkQ ((denP ex1 : Nat) : Int) ((denP ex0 : Nat) : Int))) = ex8 := by decide +kernel
theorem ex01_r : (trimI ((divS [-1, 0, 1] [2] 2 2 2).1.take 1)).map (fun z => mkQ z ((divS [-1, 0, 1] [2] 2 2 2).2.1 * ((denP ex0 : Nat) : Int))) = [] := by decide +kernel
section
variable {w : World} {A B : Option Addr} {c d L M : Nat}
theorem dm_call (h : Pol w A 3 c ex0 2) (h' : Pol w B 2 d ex1 2) (hT : Tab w) : Calls Tryz.prog 33 #[.slice A 3 c, .slice B 2 d] w (RetDM2 ex8 [] 4 3 0 w) := by
 have HC := p_DivModP (X := 1) (Y := 1) (S := 1) (C := 1) (o := 1) (N := 2) (xs := [-1, 0, 1]) (ys := [2, 2]) (os := [2]) (lead := 2) h h' (by omega) (by omega) (by omega) (by omega) ex0_size ex1_size (by omega) (by omega) ex01_nums.1 ex01_nums.2 (by decide) rfl rfl rfl rfl (by decide) (divC_ok ex01_div) (by omega) (by omega) (by omega) hT;rw [ex01_q] at HC;rw [show ([-1, 0, 1] : List Int).length - 2 = 1 from rfl, ex01_r] at HC;exact HC
theorem pr_call1 (h : Pol w A 2 c ex3 2) (hT : Tab w) : Calls Tryz.prog 37 #[.slice A 2 c] w (RetIPol [-2, 3] 1 w) := by
 have HC := p_PrimitiveP h (by omega) (by omega) ex3_size (by omega) (by decide +kernel) hT
 rwa [show primI (trimI (numsP ex3)) = [-2, 3] by decide +kernel] at HC
theorem pr_call2 (h : Pol w A 2 c ex4 2) (hT : Tab w) : Calls Tryz.prog 37 #[.slice A 2 c] w (RetIPol [0, 1] 1 w) := by
 have HC := p_PrimitiveP h (by omega) (by omega) ex4_size (by omega) (by decide +kernel) hT
 rwa [show primI (trimI (numsP ex4)) = [0, 1] by decide +kernel] at HC
theorem bo_call (h : Pol w A 3 c ex5 2) (hT : Tab w) : Calls Tryz.prog 41 #[.slice A 3 c] w (RetNR (5 / 2) 7 w) := by
 have HC := p_BoundP h (by omega) (by omega) (by omega) hT
 rwa [show (if (trimP ex5).length < 2 then 0 else 1 + maxA ((trimP ex5).take ((trimP ex5).length - 1)) / absQ ((trimP ex5).getLastD 0)) = (5 / 2 : Rat) by decide +kernel] at HC
theorem ex67_hb : HornB (trimI (numsP ex6)) (trimI (numsP ex7)) ((denP ex7 : Nat) : Int) 1 1 := by
 have e1 : trimI (numsP ex6) = [0, 0, 1] := by decide +kernel
 have e2 : trimI (numsP ex7) = [1, 1] := by decide +kernel
 have e3 : ((denP ex7 : Nat) : Int) = 1 := by decide +kernel
 rw [e1, e2, e3];exact ⟨by decide +kernel, by decide +kernel, by decide +kernel, by decide +kernel⟩
theorem co_call (h : Pol w A 3 c ex6 2) (h' : Pol w B 2 d ex7 2) (hT : Tab w) : Calls Tryz.prog 27 #[.slice A 3 c, .slice B 2 d] w (RetPol ex10 4 w) := by
 have HC := p_ComposeP h h' (by omega) (by omega) (by omega) (by omega) ex6_size ex7_size (by omega) (by omega) ex67_hb (by omega) (by omega) hT
 rwa [show (hornS (trimI (numsP ex6)) (trimI (numsP ex7)) ((denP ex7 : Nat) : Int) (trimI (numsP ex6)).length).1.map (fun z => mkQ z (((denP ex6 : Nat) : Int) * (hornS (trimI (numsP ex6)) (trimI (numsP ex7)) ((denP ex7 : Nat) : Int) (trimI (numsP ex6)).length).2)) = ex10 by decide +kernel] at HC
end
section
variable {w : World} {A B : Option Addr} {n m c d L M : Nat} {qs ps : List Rat}
theorem eq_call (h : Pol w A n c qs L) (h' : Pol w B m d ps M) (he : qs = ps) (hL2 : 2 ≤ L) (hL : L ≤ 100) (hM : M ≤ 100) (hn : n ≤ 1000) (hm : m ≤ 1000) : Calls Tryz.prog 45 #[.slice A n c, .slice B m d] w fun e w' => e = .returned (.bool true) ∧ Ext w w' := by
 have := q_EqualP h h' hL2 hL hM hn hm
 rwa [show decide (qs = ps) = true from decide_eq_true he] at this
theorem cm_call {s t s' t' : Bool} {A B A' B' : Option Addr} {n c m d n' c' m' d' : Nat} (h : NR w (5 / 2) 7 s A n c t B m d) (k : NR w (mkQ 5 2) 2 s' A' n' c' t' B' m' d') : Calls Tryz.prog 31 #[.agg #[.bool s, .slice A n c, .bool t, .slice B m d], .agg #[.bool s', .slice A' n' c', .bool t', .slice B' m' d']] w fun e w' => e = .returned (.int .i64 0) ∧ Ext w w' := by
 have := q_CmpR h k (by omega) (by omega)
 rwa [show ratCmp (5 / 2) (mkQ 5 2) = 0 by decide +kernel] at this
theorem ints_call1 {g : Nat} (h : IPol w A 2 c [-2, 3] 1) (hb : Box w g 2 #[.int .i64 (-2), .int .i64 3]) : Calls Tryz.prog 46 #[.slice A 2 c, .slice (some ⟨g, 0, none⟩) 2 2] w fun e w' => e = .returned (.bool true) ∧ Ext w w' := p_ints h (by omega) hb (by omega) (by decide)
theorem ints_call2 {g : Nat} (h : IPol w A 2 c [0, 1] 1) (hb : Box w g 2 #[.int .i64 0, .int .i64 1]) : Calls Tryz.prog 46 #[.slice A 2 c, .slice (some ⟨g, 0, none⟩) 2 2] w fun e w' => e = .returned (.bool true) ∧ Ext w w' := p_ints h (by omega) hb (by omega) (by decide)
end
def Awake4 : Prop := ∀ w : World, Tab w → Calls Tryz.prog 9 #[] w fun e w' => e = .returned (.bool true) ∧ Ext w w'
def rawQ (s : Bool) (xs : List Nat) (t : Bool) (ys : List Nat) : Rat := mkRat (ival s xs) (ival t ys).toNat
theorem Rd.uniq {w : World} {A : Option Addr} {xs ys : List Nat} (h : Rd w A xs) (k : Rd w A ys) (hl : xs.length = ys.length) : xs = ys := by
 by_cases h0 : xs = []
 ·subst h0; exact (List.length_eq_zero_iff.1 hl.symm).symm
 have k0 : ys ≠ [] := fun e => h0 (List.length_eq_zero_iff.1 (by rw [hl, e]; rfl))
 obtain ⟨b, off, hA, _, hc⟩ := h.2 h0;obtain ⟨b', off', hA', _, hc'⟩ := k.2 k0;rw [hA] at hA'
 injection hA' with hA'
 injection hA' with q1 q2
 subst q1 q2;refine List.ext_getElem hl (fun i h1 h2 => ?_);have e := (hc i h1).symm.trans (hc' i h2)
 injection e with e
 injection e with e1 e2
 omega
theorem NR.of_raw' {w : World} {s : Bool} {A : Option Addr} {n c : Nat} {xs : List Nat} {t : Bool} {B : Option Addr} {m d : Nat} {ys : List Nat} {L : Nat} (h : RI w A n c xs) (k : RI w B m d ys) (hv : validQ s xs t ys = true) (hn : n ≤ L) (hm : m ≤ L) :
  NR w (rawQ s xs t ys) L s A n c t B m d := by
 obtain ⟨q, hq⟩ := NR.of_raw h k hv hn hm;obtain ⟨xs0, a1, a2, _, _, a3, _⟩ := hq.num.out;obtain ⟨ys0, b1, b2, _, _, b3, _⟩ := hq.den.out;have e1 : xs0 = xs := a2.uniq h.rd (by rw [a1, h.len]);have e2 : ys0 = ys := b2.uniq k.rd (by rw [b1, k.len]);subst e1 e2
 have e3 : rawQ s xs0 t ys0 = q := by
  unfold rawQ;rw [a3.eq, b3.eq, Int.toNat_natCast];exact Rat.mkRat_self q
 rw [e3];exact hq
structure RawR where
 s : Bool
 xs : List Nat
 t : Bool
 ys : List Nat
def shortB (s : Bool) (xs : List Nat) (t : Bool) (ys : List Nat) : Bool :=
 decide (xs.length ≤ 4) && (decide (ys.length ≤ 4) && (validQ s xs t ys && (decide (bitsN (trimL xs) ≤ 120) && decide (bitsN (trimL ys) ≤ 120))))
def RawR.short (r : RawR) : Bool := shortB r.s r.xs r.t r.ys
def RawR.q (r : RawR) : Rat := rawQ r.s r.xs r.t r.ys
def smallB (rs : List RawR) (k : Nat) : Bool := decide (rs.length ≤ k) && rs.all RawR.short
theorem shortB_le {s : Bool} {xs : List Nat} {t : Bool} {ys : List Nat} (h : shortB s xs t ys = true) : xs.length ≤ 4 ∧ ys.length ≤ 4 ∧ validQ s xs t ys = true := by
 unfold shortB at h;simp only [Bool.and_eq_true, decide_eq_true_eq] at h;exact ⟨h.1, h.2.1, h.2.2.1⟩
def RawAt (w : World) (b o : Nat) (r : RawR) : Prop :=
 ∃ A n c B m d, w.cell? ⟨b, o, none⟩ = some (.bool r.s) ∧ w.cell? ⟨b, o + 1, none⟩ = some (.slice A n c) ∧ w.cell? ⟨b, o + 2, none⟩ = some (.bool r.t) ∧ w.cell? ⟨b, o + 3, none⟩ = some (.slice B m d) ∧ RI w A n c r.xs ∧ RI w B m d r.ys
structure RawP (w : World) (A : Option Addr) (n c : Nat) (rs : List RawR) : Prop where
 len : rs.length = n
 cap : n ≤ c
 top : c ≤ maxLen
 at_ : rs ≠ [] → ∃ b off, A = some ⟨b, off, none⟩ ∧ ∀ i (h : i < rs.length), RawAt w b (off + 4 * i) rs[i]
section
variable {w w' : World} {r : RawR} {rs : List RawR} {A B : Option Addr} {n c m d b o : Nat}
theorem RawAt.ext (h : RawAt w b o r) (e : Ext w w') : RawAt w' b o r := by
 obtain ⟨A, n, c, B, m, d, h0, h1, h2, h3, h4, h5⟩ := h;exact ⟨A, n, c, B, m, d, e.cellv h0, e.cellv h1, e.cellv h2, e.cellv h3, h4.ext e, h5.ext e⟩
theorem RawP.ext (h : RawP w A n c rs) (e : Ext w w') : RawP w' A n c rs :=
 ⟨h.len, h.cap, h.top, fun hq => by obtain ⟨b, off, h1, h2⟩ := h.at_ hq; exact ⟨b, off, h1, fun i hi => (h2 i hi).ext e⟩⟩
theorem RawP.pol (h : RawP w A n c rs) (hs : rs.all RawR.short = true) : Pol w A n c (rs.map RawR.q) 4 := by
 refine ⟨by rw [List.length_map]; exact h.len, h.cap, h.top, fun hq => ?_⟩;obtain ⟨b, off, h1, h2⟩ := h.at_ (fun e => hq (by rw [e]; rfl));refine ⟨b, off, h1, ⟨fun i hi => ?_⟩⟩;have hi' : i < rs.length := by rw [List.length_map] at hi; exact hi
 obtain ⟨A, n, c, B, m, d, h0, h1, h2, h3, h4, h5⟩ := h2 i hi';have hsi := List.all_eq_true.1 hs rs[i] (List.getElem_mem hi');obtain ⟨f1, f2, f3⟩ := shortB_le hsi;rw [List.getElem_map];exact ⟨_, A, n, c, _, B, m, d, h0, h1, h2, h3, NR.of_raw' h4 h5 f3 (by rw [← h4.len]; exact f1) (by rw [← h5.len]; exact f2)⟩
end
section
variable {w w' : World} {s t : Bool} {A B : Option Addr} {n c m d : Nat} {xs ys : List Nat}
set_option maxHeartbeats 4000000 in
theorem q_Short (h : RI w A n c xs) (k : RI w B m d ys) : Calls Tryz.prog 11 #[.agg #[.bool s, .slice A n c, .bool t, .slice B m d]] w fun e w' => e = .returned (.bool (shortB s xs t ys)) ∧ Ext w w' := by
 have hb : shortB s xs t ys = (decide (n ≤ 4) && (decide (m ≤ 4) && (validQ s xs t ys && (decide (bitsN (trimL xs) ≤ 120) && decide (bitsN (trimL ys) ≤ 120))))) := by unfold shortB; rw [h.len, k.len]
 rw [hb];clear hb
 by_cases h1 : n ≤ 4
 ·have d1 : decide ((n : Int) ≤ (4 : Int)) = true := decide_eq_true (by omega)
  by_cases h2 : m ≤ 4
  ·have d2 : decide ((m : Int) ≤ (4 : Int)) = true := decide_eq_true (by omega)
   rw [decide_eq_true h1, decide_eq_true h2, Bool.true_and, Bool.true_and]
   cases hv : validQ s xs t ys with
   | false =>
    have HV := Lib.hid hv;clear hv;rw [Bool.false_and]
    go_enter Tryz.func11, Tryz.ntmps11
    go_upto_region 1 with (fail)
    obtain ⟨W, hW, extW, bx, hz⟩ := box1 w 27 #[.bool s, .slice A n c, .bool t, .slice B m d];rw [← hW];clear hW hz;replace h := h.ext extW;replace k := k.ext extW;have x0 := bx.cell 0 (.bool s) rfl;have x1 := bx.cell 1 (.slice A n c) rfl;have x2 := bx.cell 2 (.bool t) rfl;have x3 := bx.cell 3 (.slice B m d) rfl
    go_wp2_with fail
    refine (q_ValidRaw h k (by omega) (by omega)).mono ?_;rintro e wd ⟨rfl, hxd⟩;rw [HV.out]
    go_wp2_with fail
    go_ret
    exact ⟨rfl, extW.trans hxd⟩
   | true =>
    have HV := Lib.hid hv;clear hv;rw [Bool.true_and];obtain ⟨u1, hu1⟩ : ∃ u, bitsN (trimL xs) = u := ⟨_, rfl⟩;obtain ⟨u2, hu2⟩ : ∃ u, bitsN (trimL ys) = u := ⟨_, rfl⟩;have HB1 := Lib.hid hu1;have HB2 := Lib.hid hu2;rw [hu1, hu2];clear hu1 hu2
    by_cases h3 : u1 ≤ 120
    ·have d3 : decide ((u1 : Int) ≤ (120 : Int)) = true := decide_eq_true (by omega)
     rw [decide_eq_true h3, Bool.true_and];obtain ⟨f, hf⟩ : ∃ f, decide (u2 ≤ 120) = f := ⟨_, rfl⟩;rw [hf];have d4 : decide ((u2 : Int) ≤ (120 : Int)) = f := by rw [← hf]; exact decide_eq_decide.2 (by omega)
     clear hf
     go_enter Tryz.func11, Tryz.ntmps11
     go_upto_region 1 with (fail)
     obtain ⟨W, hW, extW, bx, hz⟩ := box1 w 27 #[.bool s, .slice A n c, .bool t, .slice B m d];rw [← hW];clear hW hz;replace h := h.ext extW;replace k := k.ext extW;have x0 := bx.cell 0 (.bool s) rfl;have x1 := bx.cell 1 (.slice A n c) rfl;have x2 := bx.cell 2 (.bool t) rfl;have x3 := bx.cell 3 (.slice B m d) rfl
     go_wp2_with fail
     refine (q_ValidRaw h k (by omega) (by omega)).mono ?_;rintro e wd ⟨rfl, hxd⟩;rw [HV.out];replace bx := bx.ext hxd;replace h := h.ext hxd;replace k := k.ext hxd;replace extW := extW.trans hxd;clear hxd x0 x1 x2 x3;have x0 := bx.cell 0 (.bool s) rfl;have x1 := bx.cell 1 (.slice A n c) rfl;have x2 := bx.cell 2 (.bool t) rfl;have x3 := bx.cell 3 (.slice B m d) rfl
     go_wp2_with fail
     refine (ref_Bits h.len h.rd h.cap h.top (by omega)).mono ?_;rintro e we ⟨rfl, hxe⟩;rw [HB1.out];replace bx := bx.ext hxe;replace h := h.ext hxe;replace k := k.ext hxe;replace extW := extW.trans hxe;clear hxe x0 x1 x2 x3;have x0 := bx.cell 0 (.bool s) rfl;have x1 := bx.cell 1 (.slice A n c) rfl;have x2 := bx.cell 2 (.bool t) rfl;have x3 := bx.cell 3 (.slice B m d) rfl
     go_wp2_with fail
     refine (ref_Bits k.len k.rd k.cap k.top (by omega)).mono ?_;rintro e wf ⟨rfl, hxf⟩;rw [HB2.out]
     go_wp2_with fail
     go_ret
     exact ⟨rfl, extW.trans hxf⟩
    ·have d3 : decide ((u1 : Int) ≤ (120 : Int)) = false := decide_eq_false (by omega)
     rw [decide_eq_false h3, Bool.false_and]
     go_enter Tryz.func11, Tryz.ntmps11
     go_upto_region 1 with (fail)
     obtain ⟨W, hW, extW, bx, hz⟩ := box1 w 27 #[.bool s, .slice A n c, .bool t, .slice B m d];rw [← hW];clear hW hz;replace h := h.ext extW;replace k := k.ext extW;have x0 := bx.cell 0 (.bool s) rfl;have x1 := bx.cell 1 (.slice A n c) rfl;have x2 := bx.cell 2 (.bool t) rfl;have x3 := bx.cell 3 (.slice B m d) rfl
     go_wp2_with fail
     refine (q_ValidRaw h k (by omega) (by omega)).mono ?_;rintro e wd ⟨rfl, hxd⟩;rw [HV.out];replace bx := bx.ext hxd;replace h := h.ext hxd;replace k := k.ext hxd;replace extW := extW.trans hxd;clear hxd x0 x1 x2 x3;have x0 := bx.cell 0 (.bool s) rfl;have x1 := bx.cell 1 (.slice A n c) rfl;have x2 := bx.cell 2 (.bool t) rfl;have x3 := bx.cell 3 (.slice B m d) rfl
     go_wp2_with fail
     refine (ref_Bits h.len h.rd h.cap h.top (by omega)).mono ?_;rintro e we ⟨rfl, hxe⟩;rw [HB1.out]
     go_wp2_with fail
     go_ret
     exact ⟨rfl, extW.trans hxe⟩
  ·have d2 : decide ((m : Int) ≤ (4 : Int)) = false := decide_eq_false (by omega)
   rw [decide_eq_true h1, decide_eq_false h2, Bool.true_and, Bool.false_and]
   go_enter Tryz.func11, Tryz.ntmps11
   go_upto_region 1 with (fail)
   obtain ⟨W, hW, extW, bx, hz⟩ := box1 w 27 #[.bool s, .slice A n c, .bool t, .slice B m d];rw [← hW];clear hW hz;replace h := h.ext extW;replace k := k.ext extW;have x0 := bx.cell 0 (.bool s) rfl;have x1 := bx.cell 1 (.slice A n c) rfl;have x2 := bx.cell 2 (.bool t) rfl;have x3 := bx.cell 3 (.slice B m d) rfl
   go_wp2_with fail
   go_ret
   exact ⟨rfl, extW⟩
 ·have d1 : decide ((n : Int) ≤ (4 : Int)) = false := decide_eq_false (by omega)
  rw [decide_eq_false h1, Bool.false_and]
  go_enter Tryz.func11, Tryz.ntmps11
  go_upto_region 1 with (fail)
  obtain ⟨W, hW, extW, bx, hz⟩ := box1 w 27 #[.bool s, .slice A n c, .bool t, .slice B m d];rw [← hW];clear hW hz;replace h := h.ext extW;replace k := k.ext extW;have x0 := bx.cell 0 (.bool s) rfl;have x1 := bx.cell 1 (.slice A n c) rfl;have x2 := bx.cell 2 (.bool t) rfl;have x3 := bx.cell 3 (.slice B m d) rfl
  go_wp2_with fail
  go_ret
  exact ⟨rfl, extW⟩
set_option maxHeartbeats 4000000 in
theorem q_Small {rs : List RawR} (h : RawP w A n c rs) (N : Nat) (hN : N ≤ 1000) : Calls Tryz.prog 26 #[.slice A n c, .int .i64 (N : Int)] w fun e w' => e = .returned (.bool (smallB rs N)) ∧ Ext w w' := by
 have Hlen := Lib.hid h.len
 by_cases hb : n ≤ N
 ·have hg : (n : Int) ≤ (N : Int) := by omega
  go_enter Tryz.func26, Tryz.ntmps26
  go_wp2_with fail
  try rw [show decide (N < n) = false from decide_eq_false (by omega)]
  go_loopw [5] (fun i wr => ∃ k : Nat, k ≤ n ∧ i = .int .i64 (k : Int) ∧ Ext w wr ∧ (rs.take k).all RawR.short = true) (fun i _ => n - (intOf i).toNat)
  case atStart => exact ⟨0, by omega, rfl, Ext.refl _, by simp⟩
  case round =>
   obtain ⟨k, hk, rfl, ext, hall⟩ := hrel;have HA := Lib.hid hall;clear hall
   by_cases hlt : k < n
   ·have hj : k < rs.length := by rw [Hlen.out]; exact hlt
    have hI : (k : Int) < (n : Int) := by omega
    obtain ⟨p, off, rfl, hr⟩ := h.at_ (fun e => by rw [e] at hj; exact absurd hj (Nat.not_lt_zero _));obtain ⟨Ax, nx, cx, Bx, mx, dx, e0, e1, e2, e3, hx, hy⟩ := (hr k hj).ext ext;have HT := Lib.hid (show (rs.take (k + 1)).all RawR.short = ((rs.take k).all RawR.short && RawR.short rs[k]) by rw [List.take_succ_eq_append_getElem hj, List.all_append]; simp)
    have HM := Lib.hid (fun hf : RawR.short rs[k] = false => show smallB rs N = false by
     unfold smallB;rw [Bool.and_eq_false_iff]
     right
     rw [List.all_eq_false];exact ⟨rs[k], List.getElem_mem hj, by rw [hf]; simp⟩)
    generalize rs[k] = r at e0 e1 e2 e3 hx hy HT HM;rw [Nat.mul_comm] at e0 e1 e2 e3
    cases hs : shortB r.s r.xs r.t r.ys with
    | false =>
     have HS := Lib.hid hs;clear hs
     go_wp2_with fail
     refine (q_Short hx hy).mono ?_;rintro e V ⟨rfl, hxv⟩;rw [HS.out]
     go_wp2_with fail
     go_ret
     exact ⟨by rw [HM.out HS.out]; rfl, ext.trans hxv⟩
    | true =>
     have HS := Lib.hid hs;clear hs
     go_wp2_with fail
     refine (q_Short hx hy).mono ?_;rintro e V ⟨rfl, hxv⟩;rw [HS.out]
     go_wp2_with fail
     go_roundw
     case rel => exact ⟨k + 1, by omega, by go_num, ext.trans hxv, by rw [HT.out, HA.out]; exact HS.out⟩
     case measure => simp [intOf]; omega
   ·have hI : (n : Int) ≤ (k : Int) := by omega
    go_wp2_with fail
    go_ret
    refine ⟨?_, ext⟩;have ha := HA.out;rw [List.take_of_length_le (by rw [Hlen.out]; omega)] at ha;have : smallB rs N = true := by unfold smallB; rw [ha, Hlen.out, decide_eq_true hb]; rfl
    rw [this]; rfl
 ·have hg : (N : Int) < (n : Int) := by omega
  have hs : smallB rs N = false := by unfold smallB; rw [Hlen.out, decide_eq_false hb]; rfl
  rw [hs];clear hs
  go_enter Tryz.func26, Tryz.ntmps26
  go_wp2_with fail
  go_ret
  exact ⟨rfl, Ext.refl _⟩
end
end Go.Proofs.YtnmgdhmokkijpaaGreatDoor
