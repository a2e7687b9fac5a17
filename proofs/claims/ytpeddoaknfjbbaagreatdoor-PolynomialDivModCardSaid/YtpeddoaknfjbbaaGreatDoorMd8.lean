/- Walks and laws, a part. -/
import Derived.Test.YtpeddoaknfjbbaaGreatDoorMd7
import Derived.Test.YtpeddoaknfjbbaaGreatDoorMd4
import Derived.Test.YtpeddoaknfjbbaaGreatDoorMd0
import Derived.RangeFuncLeaves
import Derived.RangeFuncBox
import Derived.RangeFuncCalls
import Derived.RangeFuncNested
import Derived.OrdersIn
import Derived.Maps.AppendAt
import Derived.Shelf.Abstract
import Derived.OwnWalkIn
import Derived.TacticsInMore
import Derived.LoopNIn
import Derived.LoopIn
set_option linter.unusedSimpArgs false
set_option linter.unusedVariables false
set_option maxHeartbeats 64000000
namespace Go.Proofs.YtpeddoaknfjbbaaGreatDoor
section
open Go.RowKit
attribute [local go_sem ↓] Go.wp_at_zero Go.wp_at_succ
theorem NI.le_pow {w : World} {z : Int} {L : Nat} {s : Bool} {A : Option Addr} {n c : Nat} (h : NI w z L s A n c) : z.natAbs <= 4294967296 ^ L := by
 obtain ⟨xs, h1, h2, h3, h4, h5, h6⟩ := h.out;rw [<- h5.abs];exact Nat.le_trans (Nat.le_of_lt (val_lt h5.w32)) (Nat.pow_le_pow_right (by omega) (by omega))
theorem IPol.abs {w : World} {A : Option Addr} {n c L : Nat} {zs : List Int} (h : IPol w A n c zs L) : ∀ z ∈ zs, z.natAbs <= 4294967296 ^ L := by
 intro z hz;obtain ⟨i, hi, rfl⟩ := List.mem_iff_getElem.1 hz;obtain ⟨b, off, _, h2⟩ := h.at_ (fun e => by rw [e] at hi; exact absurd hi (Nat.not_lt_zero _));obtain ⟨s, A, n, c, _, _, h3⟩ := h2.at_ i hi;exact h3.le_pow
theorem mid_tight {xs ys : List Int} {L M i j k N : Nat} (hx : ∀ x ∈ xs, x.natAbs <= 4294967296 ^ L) (hy : ∀ y ∈ ys, y.natAbs <= 4294967296 ^ M) (hi : i < 1000) (hk : k < (midI xs ys i j).length) {w : World} {s : Bool} {A : Option Addr} {n c : Nat} (h : NI w (midI xs ys i j)[k] N s A n c) : NI w (midI xs ys i j)[k] (L + M + 1) s A n c := by
 refine h.tight' ?_;have h1 := midI_abs xs ys hx hy i j _ (List.getElem_mem hk);have h2 : 0 < 4294967296 ^ L * 4294967296 ^ M := Nat.mul_pos (Nat.pow_pos (by omega)) (Nat.pow_pos (by omega));rw [Nat.pow_succ, Nat.pow_add];generalize 4294967296 ^ L * 4294967296 ^ M = P at h1 h2 ⊢;refine Nat.lt_of_le_of_lt h1 ?_;rw [Nat.mul_comm];exact Nat.mul_lt_mul_of_pos_left (by omega) h2
section
variable {w w' : World} {z y : Int} {xs ys : List Int} {L M : Nat} {s t : Bool} {A B : Option Addr} {n c m d : Nat}
set_option maxRecDepth 100000 in
theorem p_product (h : IPol w A n c xs L) (h' : IPol w B m d ys M) (hn0 : 0 < n) (hm0 : 0 < m) (hL : L <= 20000) (hM : M <= 20000) (h64 : min L M < 64) (hn : n <= 500) (hm : m <= 500) : Calls Tryz.prog 63 #[.slice A n c, .slice B m d] w (RetIPol (mulI xs ys) (L + M + 1) w) := by
 obtain ⟨N, hN⟩ : ∃ N, n + m - 1 = N := ⟨_, rfl⟩;have hNi : (n : Int) + (m : Int) - 1 = (N : Int) := by omega
 have hmk := mk_ints N (by omega);have Hlx := Lib.hid h.len;have Hly := Lib.hid h'.len;have Hml := Lib.hid (fun i j => show (midI xs ys i j).length = N by rw [midI_len, h.len, h'.len]; exact hN);have HX := Lib.hid h.abs;have HY := Lib.hid h'.abs;have zb1 : ((n : Int) == 0) = false := beq_eq_false_iff_ne.2 (by omega);have zb2 : ((m : Int) == 0) = false := beq_eq_false_iff_ne.2 (by omega)
 go_enter Tryz.func63, Tryz.ntmps63
 go_wp2_with fail
 go_loopw [27] (fun v wr => ∃ i : Nat, i <= n /\ v = .int .i64 (i : Int) /\ Ext w wr /\ IRow wr w.heap.size (midI xs ys i 0) (L + M + 1)) (fun v _ => n - (intOf v).toNat)
 case atStart => exact ⟨0, Nat.zero_le _, rfl, (Ext.refl w).alloc _, by rw [midI_zero, Hlx.out, Hly.out, hN]; exact IRow.new w N _⟩
 case round =>
  obtain ⟨i, hi, rfl, ext, hR⟩ := hrel
  by_cases hlt : i < n
  ·have hj : i < xs.length := by rw [Hlx.out]; exact hlt
   have hI : (i : Int) < (n : Int) := by omega
   obtain ⟨b, off, rfl, hr⟩ := h.at_ (fun e => by rw [e] at hj; exact absurd hj (Nat.not_lt_zero _));obtain ⟨sx, Ax, nx, cx, e0, e1, hx⟩ := hr.at_ i hj;replace e0 := ext.cellv e0;replace e1 := ext.cellv e1;have e0' : wr.cell? ⟨b, off + i * 2, none⟩ = some (.bool sx) := by rw [Nat.mul_comm]; exact e0
   have e1' : wr.cell? ⟨b, off + i * 2 + 1, none⟩ = some (.slice Ax nx cx) := by rw [Nat.mul_comm]; exact e1
   clear e0 e1;have hg7 := hR.lt
   go_upto_region 7 with (fail)
   obtain ⟨W7, hW7, ext7, b7, hz7⟩ := box1 wr 25 #[.bool sx, .slice Ax nx cx];rw [<- hW7];clear hW7 hz7 e0' e1';replace hR := hR.ext ext7;replace ext := ext.trans ext7;clear ext7;generalize wr.heap.size = g7 at b7 hg7 ⊢
   go_wp2_with fail
   go_loopw [34] (fun v wq => ∃ j : Nat, j <= m /\ v = .int .i64 (j : Int) /\ Ext w wq /\ Box wq g7 25 #[.bool sx, .slice Ax nx cx] /\ IRow wq w.heap.size (midI xs ys i j) (L + M + 1)) (fun v _ => m - (intOf v).toNat)
   case atStart => exact ⟨0, Nat.zero_le _, rfl, ext, b7, hR⟩
   case round =>
    clear b7 hR ext;obtain ⟨j, hj2, rfl, ext, b7, hR⟩ := hrel
    by_cases hlt2 : j < m
    ·have hjy : j < ys.length := by rw [Hly.out]; exact hlt2
     have hI2 : (j : Int) < (m : Int) := by omega
     obtain ⟨b2, off2, rfl, hr2⟩ := h'.at_ (fun e => by rw [e] at hjy; exact absurd hjy (Nat.not_lt_zero _));obtain ⟨sy, Ay, ny, cy, e0, e1, hy⟩ := hr2.at_ j hjy;replace e0 := ext.cellv e0;replace e1 := ext.cellv e1;have e0' : wr.cell? ⟨b2, off2 + j * 2, none⟩ = some (.bool sy) := by rw [Nat.mul_comm]; exact e0
     have e1' : wr.cell? ⟨b2, off2 + j * 2 + 1, none⟩ = some (.slice Ay ny cy) := by rw [Nat.mul_comm]; exact e1
     clear e0 e1;obtain ⟨k, hk⟩ : ∃ k, k = i + j := ⟨_, rfl⟩;have hkl : k < (midI xs ys i j).length := by rw [Hml.out]; omega
     have hkl2 : k < (midI xs ys i (j + 1)).length := by rw [Hml.out]; omega
     have HS := Lib.hid (show (midI xs ys i j).set k ((midI xs ys i j)[k] + xs[i] * ys[j]) = midI xs ys i (j + 1) by subst hk; exact midI_step xs ys hj hjy hkl)
     have HV := Lib.hid (show (midI xs ys i j)[k] + xs[i] * ys[j] = (midI xs ys i (j + 1))[k] by
      have := congrArg (fun l => l.getD k 0) HS.out
      simpa [hkl, hkl2] using this)
     have hIk : (i : Int) + (j : Int) = (k : Int) := by omega
     have hI3 : (k : Int) < (N : Int) := by have := Hml.out i j; omega
     have hWk : IntKind.i64.wrap (k : Int) = (k : Int) := IntWalk.i64_in _ (by have := Hml.out i j; omega);have HK := Lib.hid hk;clear hk
     go_upto_region 10 with (fail)
     obtain ⟨W9, hW9, ext9, b9, hz9⟩ := box1 wr 25 #[.bool sy, .slice Ay ny cy];rw [<- hW9];clear hW9 hz9 e0' e1';replace hR := hR.ext ext9;replace b7 := b7.ext ext9;replace ext := ext.trans ext9;clear ext9;obtain ⟨sz, Az, nz, cz, z0, z1, hz⟩ := hR.get hkl;refine wpL.st 15 (fun hQ ES => ?_);refine wpL.tB [14,15] 0 39 ?v_0 hQ ?y_0 ES ?_
     case y_0 => intro w' hSw;have l0 := hSw.cellv z0;have l1 := hSw.cellv z1;go_simp;try rfl
     try simp only [zP]
     refine wpL.tB [3,14,15] 1 40 ?v_1 hQ ?y_1 ES ?_
     case y_1 => intro w' hSw;have l0 := hSw.cellv z0;have l1 := hSw.cellv z1;go_simp;try rfl
     try simp only [zP]
     refine wpL.tB [3,14,15] 2 41 ?v_2 hQ ?y_2 ES ?_
     case y_2 => intro w' hSw;have l0 := hSw.cellv z0;have l1 := hSw.cellv z1;go_simp;try rfl
     try simp only [zP]
     refine wpL.tB [14,15] 3 42 ?v_3 hQ ?y_3 ES ?_
     case y_3 => intro w' hSw;have l0 := hSw.cellv z0;have l1 := hSw.cellv z1;go_simp;try rfl
     try simp only [zP]
     refine wpL.tB [8,9,13,15] 4 43 ?v_4 hQ ?y_4 ES ?_
     case y_4 => intro w' hSw;have l0 := hSw.cellv z0;have l1 := hSw.cellv z1;go_simp;try rfl
     try simp only [zP]
     refine wpL.tB [7,8,9,13,15] 5 44 ?v_5 hQ ?y_5 ES ?_
     case y_5 => intro w' hSw;have l0 := hSw.cellv z0;have l1 := hSw.cellv z1;go_simp;try rfl
     try simp only [zP]
     refine wpL.tB [7,8,9,13,15] 6 45 ?v_6 hQ ?y_6 ES ?_
     case y_6 => intro w' hSw;have l0 := hSw.cellv z0;have l1 := hSw.cellv z1;go_simp;try rfl
     try simp only [zP]
     refine wpL.tB [8,9,13,15] 7 46 ?v_7 hQ ?y_7 ES ?_
     case y_7 => intro w' hSw;have l0 := hSw.cellv z0;have l1 := hSw.cellv z1;go_simp;try rfl
     try simp only [zP]
     refine wpL.tB [9,13,15] 8 47 ?v_8 hQ ?y_8 ES ?_
     case y_8 => intro w' hSw;have l0 := hSw.cellv z0;have l1 := hSw.cellv z1;go_simp;try rfl
     try simp only [zP]
     refine wpL.tB [13,15] 9 48 ?v_9 hQ ?y_9 ES ?_
     case y_9 => intro w' hSw;have j0 := (b7.ext hSw).c2;have k0 := (b9.ext hSw).c2;have l0 := hSw.cellv z0;have l1 := hSw.cellv z1;go_simp;try rfl
     try simp only [zP]
     refine wpL.tB [12,13,15] 10 49 ?v_a hQ ?y_a ES ?_
     case y_a => intro w' hSw;have j0 := (b7.ext hSw).c2;have k0 := (b9.ext hSw).c2;have l0 := hSw.cellv z0;have l1 := hSw.cellv z1;go_simp;try rfl
     try simp only [zP]
     refine wpL.tB [12,13,15] 11 50 ?v_b hQ ?y_b ES ?_
     case y_b => intro w' hSw;have j0 := (b7.ext hSw).c2;have k0 := (b9.ext hSw).c2;have l0 := hSw.cellv z0;have l1 := hSw.cellv z1;go_simp;try rfl
     try simp only [zP]
     refine wpL.cl (i := 12) rfl (fun K hK => ?_);go_simp
     (go_at_call 64; refine (p_Mul (hx.ext (ext.trans ES)) (hy.ext (ext.trans ES)) (by omega) (by omega) (by omega)).mono ?_; rintro e wa ⟨s1, A1, n1, c1, rfl, h1, hx0⟩; have E7 := Ext.trans ES hx0)
     refine hK.out _ _ E7 ?_;clear hK K
     try simp only [zP]
     refine wpL.cl (i := 13) rfl (fun K hK => ?_);go_simp
     (go_at_call 101; refine (p_Add (hz.ext E7) h1 (by omega) (by omega)).mono ?_; rintro e wb ⟨s2, A2, n2, c2, rfl, h2, hx1⟩; have E8 := Ext.trans E7 hx1)
     refine hK.out _ _ E8 ?_;clear hK K
     try simp only [zP]
     refine wpL.tB [15] 14 53 ?v_c hQ ?y_c E8 ?_
     case y_c => intro w' hSw;go_simp;try rfl
     try simp only [zP]
     have hRk := hR.ext E8;obtain ⟨sw, Aw, nw, cw, q0, q1, _⟩ := hRk.get hkl;have f0 := hRk.frozen (k * 2);have f1 := hRk.frozen (k * 2 + 1);refine wpL.tl (i := 15) rfl (fun K hK => ?_);go_simp;refine hK.out _ _ ?_;clear hK K
     try simp only [zP]
     refine wpL.done (by kernel_rfl) ?_ _;clear hQ
     go_wp2_with fail
     rw [HV.out] at h2;have h3 := mid_tight HX.out HY.out (by omega) hkl2 h2;have PP := hRk.put hkl h3
     go_roundw
     case rel => exact ⟨j + 1, by omega, by go_num, PP.2.2.1 _ (ext.trans E8) (Nat.le_refl _), PP.2.2.2 _ _ _ (by omega) (b7.ext E8), by have := PP.1; rw [<- HV.out, HS.out] at this; exact this⟩
     case measure => simp [intOf]; omega
    ·have hjm : j = m := by omega
     subst hjm;have hI2 : (j : Int) <= (j : Int) := Int.le_refl _;have hrw := midI_row xs ys i;rw [Hly.out] at hrw;rw [hrw] at hR
     go_wp2_with fail
     go_roundw
     case rel => exact ⟨i + 1, by omega, by go_num, ext, hR⟩
     case measure => simp [intOf]; omega
  ·have hin : i = n := by omega
   subst hin;have hme := midI_end xs ys;rw [Hlx.out] at hme;rw [hme] at hR;have hlm : (mulI xs ys).length = N := by rw [<- hme]; exact Hml.out _ _
   have hp := hR.pol hlm (by unfold maxLen; omega);have hI : (i : Int) <= (i : Int) := Int.le_refl _
   go_wp2_with fail
   go_ret
   exact ⟨_, _, _, rfl, hp, ext⟩
end
def denP (qs : List Rat) : Nat := qs.foldl (fun d q => Nat.lcm d q.den) 1
theorem denP_snoc (qs : List Rat) (q : Rat) : denP (qs ++ [q]) = Nat.lcm (denP qs) q.den := by unfold denP; rw [List.foldl_append]; rfl
theorem foldl_lcm (qs : List Rat) : ∀ d, 0 < d -> 0 < qs.foldl (fun d q => Nat.lcm d q.den) d /\ d ∣ qs.foldl (fun d q => Nat.lcm d q.den) d /\ ∀ q ∈ qs, q.den ∣ qs.foldl (fun d q => Nat.lcm d q.den) d := by
 induction qs with
 | nil => intro d hd; exact ⟨hd, Nat.dvd_refl _, fun q h => by cases h⟩
 | cons p qs ih =>
  intro d hd;obtain ⟨h1, h2, h3⟩ := ih (Nat.lcm d p.den) (Nat.lcm_pos hd p.den_pos);refine ⟨h1, Nat.dvd_trans (Nat.dvd_lcm_left _ _) h2, fun q hq => ?_⟩
  rcases List.mem_cons.1 hq with rfl | hq
  ·exact Nat.dvd_trans (Nat.dvd_lcm_right _ _) h2
  ·exact h3 q hq
theorem denP_pos (qs : List Rat) : 0 < denP qs := (foldl_lcm qs 1 Nat.one_pos).1
theorem denP_dvd {qs : List Rat} {q : Rat} (h : q ∈ qs) : q.den ∣ denP qs := (foldl_lcm qs 1 Nat.one_pos).2.2 q h
def numsP (qs : List Rat) : List Int := qs.map fun q => q.num * (((denP qs : Nat) : Int) / ((q.den : Nat) : Int))
theorem numsP_len (qs : List Rat) : (numsP qs).length = qs.length := List.length_map _
theorem numsP_at (qs : List Rat) (j : Nat) (h : j < (numsP qs).length) (h' : j < qs.length) : (numsP qs)[j] = qs[j].num * (((denP qs : Nat) : Int) / ((qs[j].den : Nat) : Int)) := by simp [numsP]
theorem lcm_step (d e : Nat) : (d : Int) * ((e : Int) / ((Nat.gcd d e : Nat) : Int)) = ((Nat.lcm d e : Nat) : Int) := by
 unfold Nat.lcm;rw [Nat.mul_div_assoc _ (Nat.gcd_dvd_right d e)]
 push_cast
 rfl
theorem set_fill {l : List Int} {k n : Nat} (hk : k < l.length) (hn : l.length = n) : (l.take k ++ List.replicate (n - k) 0).set k l[k] = l.take (k + 1) ++ List.replicate (n - (k + 1)) 0 := by
 have e : n - k = (n - (k + 1)) + 1 := by omega
 rw [e, List.replicate_succ, List.set_append_right _ _ (by rw [List.length_take]; omega), List.length_take, Nat.min_eq_left (by omega), Nat.sub_self, List.set_cons_zero, List.take_succ_eq_append_getElem hk, List.append_assoc]
 rfl
def RetSplit (zs : List Int) (d : Nat) (L M : Nat) (w : World) (e : Ending) (w' : World) : Prop :=
 ∃ A n c s B m k, e = .returned (.tuple #[.slice A n c, .agg #[.bool s, .slice B m k]]) /\ IPol w' A n c zs L /\ NI w' (d : Int) M s B m k /\ Ext w w'
section
variable {w w' : World} {q x : Rat} {L M : Nat} {s t : Bool} {A B : Option Addr} {n c m d : Nat} {sx tx : Bool} {Ax Bx : Option Addr} {nx cx mx dx : Nat} {qs ps : List Rat}
theorem denP_take (qs : List Rat) (j : Nat) : denP (qs.take j) ∣ denP qs := by
 have e : denP qs = (qs.drop j).foldl (fun d q => Nat.lcm d q.den) (denP (qs.take j)) := by
  unfold denP;rw [<- List.foldl_append, List.take_append_drop]
 rw [e];exact (foldl_lcm _ _ (denP_pos _)).2.1
set_option maxRecDepth 100000 in
theorem p_splitV (h : Pol w A n c qs L) (hL : L <= 500) (hn : n <= 40) (hNL : n * L <= 2900) (hC : L < 64 \/ (denP qs < 4294967296 ^ 126 /\ ∀ z ∈ numsP qs, z.natAbs < 4294967296 ^ 126)) (hT : Tab w) : Calls Tryz.prog 61 #[.slice A n c] w (RetSplit (trimI (numsP qs)) (denP qs) (n * L + L + 2) (n * L + 2) w) := by
 have HC := Lib.hid hC;clear hC;have hmk := mk_ints n (by omega);have Hlen := Lib.hid h.len;have Hnl := Lib.hid ((numsP_len qs).trans h.len)
 go_enter Tryz.func61, Tryz.ntmps61
 go_upto_region 1 with (fail)
 obtain ⟨W, hW, extW, b3, hz⟩ := box1 w 25 #[Value.bool false, Value.slice none 0 0];rw [<- hW];clear hW
 go_wp2_with fail
 refine (p_FromInt 1 (by omega) (by omega)).mono ?_;rintro e W1 ⟨s1, A1, n1, c1, rfl, h1, hx1⟩
 go_upto_region 2 with (fail)
 have ha := (Ext.refl W1).alloc (.cells #[.bool s1, .slice A1 n1 c1] 25);refine at_world (fun V => Ext w V /\ Box V w.heap.size 25 #[Value.bool false, Value.slice none 0 0] /\ Box V W1.heap.size 25 #[.bool s1, .slice A1 n1 c1] /\ NI V 1 2 s1 A1 n1 c1) ⟨(extW.trans hx1).trans ha, (b3.ext hx1).ext ha, Box.new W1 _ _, h1.ext ha⟩ ?_;have hg4 : w.heap.size < W1.heap.size := by have := hx1.size; omega
 clear ha b3 hz hx1 extW h1;generalize W1.heap.size = g4 at hg4 ⊢;rintro V ⟨ext0, b3, b4, h1⟩
 go_wp2_with fail
 go_loopw [13] (fun i wr => ∃ (k : Nat) (s : Bool) (A' : Option Addr) (n' c' : Nat), k <= n /\ i = .int .i64 (k : Int) /\ Ext w wr /\ Box wr w.heap.size 25 #[Value.bool false, Value.slice none 0 0] /\ Box wr g4 25 #[.bool s, .slice A' n' c'] /\ NI wr ((denP (qs.take k) : Nat) : Int) (k * L + 2) s A' n' c') (fun i _ => n - (intOf i).toNat)
 case atStart => exact ⟨0, s1, A1, n1, c1, Nat.zero_le _, rfl, ext0, b3, b4, by rw [List.take_zero, Nat.zero_mul]; exact h1⟩
 case round =>
  clear b3 b4 h1 ext0;obtain ⟨k, sd, Ad, nd, cd, hk, rfl, ext, b3, b4, hd⟩ := hrel;have hkL : k * L <= n * L := Nat.mul_le_mul_right _ hk
  by_cases hlt : k < n
  ·have hj : k < qs.length := by rw [Hlen.out]; exact hlt
   have hI : (k : Int) < (n : Int) := by omega
   obtain ⟨p, off, rfl, hr⟩ := h.at_ (fun e => by rw [e] at hj; exact absurd hj (Nat.not_lt_zero _));obtain ⟨sx, Ax, nx, cx, tx, Bx, mx, dx, e0, e1, e2, e3, hx⟩ := (hr.ext ext).at_ k hj;have e0' : wr.cell? ⟨p, off + k * 4, none⟩ = some (.bool sx) := by rw [Nat.mul_comm]; exact e0
   have e1' : wr.cell? ⟨p, off + k * 4 + 1, none⟩ = some (.slice Ax nx cx) := by rw [Nat.mul_comm]; exact e1
   have e2' : wr.cell? ⟨p, off + k * 4 + 2, none⟩ = some (.bool tx) := by rw [Nat.mul_comm]; exact e2
   have e3' : wr.cell? ⟨p, off + k * 4 + 3, none⟩ = some (.slice Bx mx dx) := by rw [Nat.mul_comm]; exact e3
   clear e0 e1 e2 e3;have HT := Lib.hid (show qs.take (k + 1) = qs.take k ++ [qs[k]] from List.take_succ_eq_append_getElem hj);generalize qs[k] = q at hx HT;have hgp : 0 < Nat.gcd (denP (qs.take k)) q.den := Nat.gcd_pos_of_pos_right _ q.den_pos;have HG := Lib.hid (show ((Nat.gcd (denP (qs.take k)) q.den : Nat) : Int) ≠ 0 /\ ((Nat.gcd (denP (qs.take k)) q.den : Nat) : Int) ∣ ((q.den : Nat) : Int) from ⟨by omega, Int.natCast_dvd_natCast.2 (Nat.gcd_dvd_right _ _)⟩);clear hgp
   have HM : Hid (k * L + 2 < 64 \/ L < 64 \/ (((denP (qs.take k) : Nat) : Int) * (((q.den : Nat) : Int) / ((Nat.gcd (denP (qs.take k)) q.den : Nat) : Int))).natAbs < 4294967296 ^ 126) := Lib.hid (by
    rcases HC.out with e | ⟨e, _⟩
    ·exact .inr (.inl e)
    ·refine .inr (.inr ?_)
     rw [lcm_step, <- denP_snoc, <- HT.out, Int.natAbs_natCast];exact Nat.lt_of_le_of_lt (Nat.le_of_dvd (denP_pos qs) (denP_take qs (k + 1))) e)
   go_upto_region 5 with (fail)
   obtain ⟨W6, hW6, ext6, b6, hz6⟩ := box1 wr 27 #[.bool sx, .slice Ax nx cx, .bool tx, .slice Bx mx dx];rw [<- hW6];clear hW6 hz6 e0' e1' e2' e3';replace hx := hx.ext ext6;replace hd := hd.ext ext6;replace b3 := b3.ext ext6;replace b4 := b4.ext ext6;replace ext := ext.trans ext6;clear ext6;refine wpL.st 9 (fun hQ ES => ?_);refine wpL.tB [8,9] 0 17 ?v_0 hQ ?y_0 ES ?_
   case y_0 => intro w' hSw;have k00 := (b4.ext hSw).c2;have k10 := (b6.ext hSw).c4;go_simp;try rfl
   try simp only [zP]
   refine wpL.tB [2,7,8,9] 1 18 ?v_1 hQ ?y_1 ES ?_
   case y_1 => intro w' hSw;go_simp;try rfl
   try simp only [zP]
   refine wpL.tB [6,7,8,9] 3 20 ?v_2 hQ ?y_2 ES ?_
   case y_2 => intro w' hSw;have k00 := (b4.ext hSw).c2;have k10 := (b6.ext hSw).c4;go_simp;try rfl
   try simp only [zP]
   refine wpL.tB [5,6,7,8,9] 4 21 ?v_3 hQ ?y_3 ES ?_
   case y_3 => intro w' hSw;go_simp;try rfl
   try simp only [zP]
   refine wpL.tB [7,8,9] 2 19 ?v_4 hQ ?y_4 ES ?_
   case y_4 => intro w' hSw;have k00 := (b4.ext hSw).c2;have k10 := (b6.ext hSw).c4;go_simp;try rfl
   try simp only [zP]
   refine wpL.tB [6,7,8,9] 5 22 ?v_5 hQ ?y_5 ES ?_
   case y_5 => intro w' hSw;have k00 := (b4.ext hSw).c2;have k10 := (b6.ext hSw).c4;go_simp;try rfl
   try simp only [zP]
   refine wpL.cl (i := 6) rfl (fun K hK => ?_);go_simp
   (go_at_call 102; refine (p_GCD (hd.ext ES) (hx.den.ext ES) (by omega) (by omega) (hT.ext (ext.trans ES))).mono ?_; rintro e wa ⟨s1, A1, n1, c1, rfl, h1, hx0⟩; rw [Int.natAbs_natCast, Int.natAbs_natCast] at h1; have E0_5 := Ext.trans ES hx0)
   refine hK.out _ _ E0_5 ?_;clear hK K
   try simp only [zP]
   refine wpL.cl (i := 7) rfl (fun K hK => ?_);go_simp
   (go_at_call 108; refine (p_exact (hx.den.ext E0_5) h1 (by omega) (by omega) HG.out.1 HG.out.2).mono ?_; rintro e wb ⟨s2, A2, n2, c2, rfl, h2, hx1⟩; have E1_5 := Ext.trans E0_5 hx1)
   refine hK.out _ _ E1_5 ?_;clear hK K
   try simp only [zP]
   refine wpL.cl (i := 8) rfl (fun K hK => ?_);go_simp
   (go_at_call 64; refine (p_MulW (hd.ext E1_5) h2 (by omega) (by omega) HM).mono ?_; rintro e wc ⟨s3, A3, n3, c3, rfl, h3, hx2⟩; have E2_5 := Ext.trans E1_5 hx2)
   refine hK.out _ _ E2_5 ?_;clear hK K
   try simp only [zP]
   have z0 := (b4.ext E2_5).cell 0 _ rfl;have z1 := (b4.ext E2_5).cell 1 _ rfl;have f0 := (b4.ext E2_5).frozen 0;have f1 := (b4.ext E2_5).frozen 1;refine wpL.tl (i := 9) rfl (fun K hK => ?_);go_simp;refine hK.out _ _ ?_;clear hK K
   try simp only [zP]
   refine wpL.done (by kernel_rfl) ?_ _;clear hQ
   go_wp2_with fail
   obtain ⟨q1, q2, q3, q4⟩ := fin_dual (s := s3) (A := A3) (n := n3) (c := c3) (b4.ext E2_5);unfold set2 at q1 q2 q3 q4;have extk := q3 _ (ext.trans E2_5) (by omega);have b3k := q4 _ _ _ (by omega) (b3.ext E2_5);have hdk := q2 _ _ _ _ _ _ h3;rw [lcm_step, <- denP_snoc, <- HT.out] at hdk
   go_roundw
   case rel => exact ⟨k + 1, s3, A3, n3, c3, by omega, by go_num, extk, b3k, q1, hdk.le (by rw [Nat.succ_mul]; omega)⟩
   case measure => simp [intOf]; omega
  ·have hkn : k = n := by omega
   subst hkn;rw [List.take_of_length_le (Nat.le_of_eq Hlen.out)] at hd;have HN := Lib.hid (denP_pos qs);have hI : (k : Int) <= (k : Int) := Int.le_refl _
   go_wp2_with fail
   obtain ⟨g7, hg7⟩ : ∃ g, wr.heap.size = g := ⟨_, rfl⟩;have hgr := ext.size;have hb4 := b4.lt;rw [hg7] at hgr hb4
   try rw [hg7]
   go_loopw [32] (fun i wq => ∃ (j : Nat), j <= k /\ i = .int .i64 (j : Int) /\ Ext w wq /\ Box wq w.heap.size 25 #[Value.bool false, Value.slice none 0 0] /\ Box wq g4 25 #[.bool sd, .slice Ad nd cd] /\ NI wq ((denP qs : Nat) : Int) (k * L + 2) sd Ad nd cd /\ IRow wq g7 ((numsP qs).take j ++ List.replicate (k - j) 0) (k * L + L + 2)) (fun i _ => k - (intOf i).toNat)
   case atStart =>
    have ha := (Ext.refl wr).alloc (.cells (zeroI k).toArray 25);exact ⟨0, Nat.zero_le _, rfl, ext.trans ha, b3.ext ha, b4.ext ha, hd.ext ha, by rw [List.take_zero, List.nil_append, Nat.sub_zero]; rw [<- hg7]; exact IRow.new wr k _⟩
   case round =>
    clear b3 b4 hd ext;obtain ⟨j, hj, rfl, ext, b3, b4, hd, hR⟩ := hrel
    by_cases hlt : j < k
    ·have hjq : j < qs.length := by rw [Hlen.out]; exact hlt
     have hI : (j : Int) < (k : Int) := by omega
     obtain ⟨p, off, rfl, hr⟩ := h.at_ (fun e => by rw [e] at hjq; exact absurd hjq (Nat.not_lt_zero _));obtain ⟨sx, Ax, nx, cx, tx, Bx, mx, dx, e0, e1, e2, e3, hx⟩ := (hr.ext ext).at_ j hjq;have e0' : wr.cell? ⟨p, off + j * 4, none⟩ = some (.bool sx) := by rw [Nat.mul_comm]; exact e0
     have e1' : wr.cell? ⟨p, off + j * 4 + 1, none⟩ = some (.slice Ax nx cx) := by rw [Nat.mul_comm]; exact e1
     have e2' : wr.cell? ⟨p, off + j * 4 + 2, none⟩ = some (.bool tx) := by rw [Nat.mul_comm]; exact e2
     have e3' : wr.cell? ⟨p, off + j * 4 + 3, none⟩ = some (.slice Bx mx dx) := by rw [Nat.mul_comm]; exact e3
     clear e0 e1 e2 e3;have hjn : j < (numsP qs).length := by rw [Hnl.out]; exact hlt
     have hkl : j < ((numsP qs).take j ++ List.replicate (k - j) 0).length := by rw [List.length_append, List.length_take, List.length_replicate, Hnl.out]; omega
     have HS := Lib.hid (set_fill hjn Hnl.out);have HV := Lib.hid (numsP_at qs j hjn hjq);have HD := Lib.hid (show ((qs[j].den : Nat) : Int) ≠ 0 /\ ((qs[j].den : Nat) : Int) ∣ ((denP qs : Nat) : Int) from ⟨by have := qs[j].den_pos; omega, Int.natCast_dvd_natCast.2 (denP_dvd (List.getElem_mem hjq))⟩);generalize qs[j] = q at hx HV HD
     have HM : Hid (L < 64 \/ k * L + 2 < 64 \/ (q.num * (((denP qs : Nat) : Int) / ((q.den : Nat) : Int))).natAbs < 4294967296 ^ 126) := Lib.hid (by
      rcases HC.out with e | ⟨_, e⟩
      ·exact .inl e
      ·exact .inr (.inr (by rw [<- HV.out]; exact e _ (List.getElem_mem hjn))))
     go_upto_region 11 with (fail)
     obtain ⟨W9, hW9, ext9, b9, hz9⟩ := box1 wr 27 #[.bool sx, .slice Ax nx cx, .bool tx, .slice Bx mx dx];rw [<- hW9];clear hW9 hz9 e0' e1' e2' e3';replace hx := hx.ext ext9;replace hd := hd.ext ext9;replace hR := hR.ext ext9;replace b3 := b3.ext ext9;replace b4 := b4.ext ext9;replace ext := ext.trans ext9;clear ext9;refine wpL.st 10 (fun hQ ES => ?_);refine wpL.tB [9,10] 0 37 ?v_6 hQ ?y_6 ES ?_
     case y_6 => intro w' hSw;go_simp;try rfl
     try simp only [zP]
     refine wpL.tB [9,10] 1 38 ?v_7 hQ ?y_7 ES ?_
     case y_7 => intro w' hSw;go_simp;try rfl
     try simp only [zP]
     refine wpL.tB [3,8,10] 2 39 ?v_8 hQ ?y_8 ES ?_
     case y_8 => intro w' hSw;go_simp;try rfl
     try simp only [zP]
     refine wpL.tB [8,10] 3 40 ?v_9 hQ ?y_9 ES ?_
     case y_9 => intro w' hSw;have k00 := (b4.ext hSw).c2;have k10 := (b9.ext hSw).c4;go_simp;try rfl
     try simp only [zP]
     refine wpL.tB [7,8,10] 4 41 ?v_a hQ ?y_a ES ?_
     case y_a => intro w' hSw;have k00 := (b4.ext hSw).c2;have k10 := (b9.ext hSw).c4;go_simp;try rfl
     try simp only [zP]
     refine wpL.tB [6,7,8,10] 5 42 ?v_b hQ ?y_b ES ?_
     case y_b => intro w' hSw;go_simp;try rfl
     try simp only [zP]
     refine wpL.tB [7,8,10] 6 43 ?v_c hQ ?y_c ES ?_
     case y_c => intro w' hSw;have k00 := (b4.ext hSw).c2;have k10 := (b9.ext hSw).c4;go_simp;try rfl
     try simp only [zP]
     refine wpL.cl (i := 7) rfl (fun K hK => ?_);go_simp
     (go_at_call 108; refine (p_exact (hd.ext ES) (hx.den.ext ES) (by omega) (by omega) HD.out.1 HD.out.2).mono ?_; rintro e wa ⟨s1, A1, n1, c1, rfl, h1, hx0⟩; have E7 := Ext.trans ES hx0)
     refine hK.out _ _ E7 ?_;clear hK K
     try simp only [zP]
     refine wpL.cl (i := 8) rfl (fun K hK => ?_);go_simp
     (go_at_call 64; refine (p_MulW (hx.num.ext E7) h1 (by omega) (by omega) HM).mono ?_; rintro e wb ⟨s2, A2, n2, c2, rfl, h2, hx1⟩; have E8 := Ext.trans E7 hx1)
     refine hK.out _ _ E8 ?_;clear hK K
     try simp only [zP]
     refine wpL.tB [10] 9 46 ?v_d hQ ?y_d E8 ?_
     case y_d => intro w' hSw;go_simp;try rfl
     try simp only [zP]
     have hRk := hR.ext E8;obtain ⟨sz, Az, nz, cz, z0, z1, _⟩ := hRk.get hkl;have f0 := hRk.frozen (j * 2);have f1 := hRk.frozen (j * 2 + 1);refine wpL.tl (i := 10) rfl (fun K hK => ?_);go_simp;refine hK.out _ _ ?_;clear hK K
     try simp only [zP]
     refine wpL.done (by kernel_rfl) ?_ _;clear hQ
     go_wp2_with fail
     rw [<- HV.out] at h2;have PP := hRk.put hkl (h2.le (by omega))
     go_roundw
     case rel => exact ⟨j + 1, by omega, by go_num, PP.2.2.1 _ (ext.trans E8) hgr, PP.2.2.2 _ _ _ (by omega) (b3.ext E8), PP.2.2.2 _ _ _ (by omega) (b4.ext E8), PP.2.1 _ _ _ _ _ _ (hd.ext E8), by rw [<- HS.out]; exact PP.1⟩
     case measure => simp [intOf]; omega
    ·have hjk : j = k := by omega
     subst hjk;rw [List.take_of_length_le (Nat.le_of_eq Hnl.out), Nat.sub_self, List.replicate_zero, List.append_nil] at hR;have hp := hR.pol Hnl.out (by unfold maxLen; omega);have hI : (j : Int) <= (j : Int) := Int.le_refl _;have htl := trimI_len (numsP qs)
     go_upto_region 13 with (fail)
     refine wpL.st 4 (fun hQ ES => ?_);refine wpL.tB [1,3,4] 0 48 ?v_e hQ ?y_e ES ?_
     case y_e => intro w' hSw;go_simp;try rfl
     try simp only [zP]
     refine wpL.tB [4] 2 50 ?v_f hQ ?y_f ES ?_
     case y_f => intro w' hSw;have j0 := (b4.ext hSw).c2;go_simp;try rfl
     try simp only [zP]
     refine wpL.cl (i := 1) rfl (fun K hK => ?_);go_simp
     (go_at_call 109; refine (p_cutI_same (hp.ext ES) (by omega) (by omega)).mono ?_; rintro e wa ⟨rfl, hx0⟩; have E1 := Ext.trans ES hx0)
     refine hK.out _ _ E1 ?_;clear hK K
     try simp only [zP]
     refine wpL.tB [4] 3 2 ?v_g hQ ?y_g E1 ?_
     case y_g => intro w' hSw;go_simp;try rfl
     try simp only [zP]
     have z0 := (b3.ext E1).cell 0 _ rfl;have z1 := (b3.ext E1).cell 1 _ rfl;have f0 := (b3.ext E1).frozen 0;have f1 := (b3.ext E1).frozen 1;refine wpL.tl (i := 4) rfl (fun K hK => ?_);go_simp;refine hK.out _ _ ?_;clear hK K
     try simp only [zP]
     refine wpL.done (by kernel_rfl) ?_ _;clear hQ
     go_wp2_with fail
     obtain ⟨q1, q2, q3, q4⟩ := fin_dual (s := sd) (A := Ad) (n := nd) (c := cd) (b3.ext E1);have r0 := q1.cell 0 (.bool sd) rfl;have r1 := q1.cell 1 (.slice Ad nd cd) rfl;obtain ⟨cs, c1, c2⟩ := hR.ext E1;have hR2 : IRow _ g7 (numsP qs) (j * L + L + 2) := ⟨cs, q4 _ _ _ (by omega) c1, c2.ni q2⟩;have hp2 := (hR2.pol Hnl.out (by unfold maxLen; omega)).take (k := (trimI (numsP qs)).length) (by rw [<- Hnl.out]; exact htl);rw [trimI_take] at hp2;unfold set2 at r0 r1 q2 q3 hp2;refine bodyPost_ret (v := .tuple #[.slice (some ⟨g7, 0, none⟩) (trimI (numsP qs)).length j, .agg #[.bool sd, .slice Ad nd cd]]) (by simp [results, Tryz.results61, go_sem, r0, r1]) rfl ⟨_, _, _, sd, Ad, nd, cd, rfl, hp2, q2 _ _ _ _ _ _ (hd.ext E1), q3 _ (ext.trans E1) (by omega)⟩
theorem p_split (h : Pol w A n c qs L) (hL : L <= 60) (hn : n <= 40) (hT : Tab w) : Calls Tryz.prog 61 #[.slice A n c] w (RetSplit (trimI (numsP qs)) (denP qs) (n * L + L + 2) (n * L + 2) w) :=
 p_splitV h (by omega) hn (Nat.le_trans (Nat.mul_le_mul hn hL) (by decide)) (.inl (by omega)) hT
end
section
variable {w w' : World} {z y : Int} {zs ys : List Int} {L M : Nat} {s t : Bool} {A B : Option Addr} {n c m d : Nat}
set_option maxRecDepth 100000 in
theorem p_join (h : IPol w A n c zs L) (hy : NI w y M t B m d) (h0 : y ≠ 0) (hL : L <= 3000) (hM : M <= 3000) (hn : n <= 1000) (hT : Tab w) : Calls Tryz.prog 62 #[.slice A n c, .agg #[.bool t, .slice B m d]] w (RetPol (zs.map (fun z => mkQ z y)) (max L M) w) := by
 have hmk := mk_rats n (by omega);have Hlen := Lib.hid h.len
 go_enter Tryz.func62, Tryz.ntmps62
 go_upto_region 1 with (fail)
 obtain ⟨W, hW, extW, b3, hz⟩ := box1 w 25 #[.bool t, .slice B m d];rw [<- hW];clear hW hz
 go_wp2_with fail
 go_loopw [13] (fun i wr => ∃ k : Nat, k <= n /\ i = .int .i64 (k : Int) /\ Ext W wr /\ Fill wr W.heap.size n ((zs.take k).map (fun z => mkQ z y)) (max L M)) (fun i _ => n - (intOf i).toNat)
 case atStart => exact ⟨0, Nat.zero_le _, rfl, (Ext.refl W).alloc _, Fill.new W n _⟩
 case round =>
  obtain ⟨k, hk, rfl, ext, hF⟩ := hrel
  by_cases hlt : k < n
  ·have hj : k < zs.length := by rw [Hlen.out]; exact hlt
   have hI : (k : Int) < (n : Int) := by omega
   obtain ⟨b, off, rfl, hr⟩ := h.at_ (fun e => by rw [e] at hj; exact absurd hj (Nat.not_lt_zero _));obtain ⟨sx, Ax, nx, cx, e0, e1, hx⟩ := (hr.ext (extW.trans ext)).at_ k hj;have e0' : wr.cell? ⟨b, off + k * 2, none⟩ = some (.bool sx) := by rw [Nat.mul_comm]; exact e0
   have e1' : wr.cell? ⟨b, off + k * 2 + 1, none⟩ = some (.slice Ax nx cx) := by rw [Nat.mul_comm]; exact e1
   have HT := Lib.hid (show (zs.take (k + 1)).map (fun z => mkQ z y) = (zs.take k).map (fun z => mkQ z y) ++ [(fun z => mkQ z y) zs[k]] by rw [List.take_succ_eq_append_getElem hj, List.map_append]; rfl);have hkl : ((zs.take k).map (fun z => mkQ z y)).length = k := by rw [List.length_map, List.length_take, Hlen.out]; omega
   go_upto_region 5 with (fail)
   obtain ⟨W2, hW2, ext2, b9, hz2⟩ := box1 wr 25 #[.bool sx, .slice Ax nx cx];rw [<- hW2];clear hW2 hz2 e0 e1 e0' e1';replace hx := hx.ext ext2;replace hF := hF.ext ext2;replace ext := ext.trans ext2;clear ext2;have x0 := b9.cell 0 (.bool sx) rfl;have x1 := b9.cell 1 (.slice Ax nx cx) rfl;have y0 := (b3.ext ext).cell 0 (.bool t) rfl;have y1 := (b3.ext ext).cell 1 (.slice B m d) rfl
   go_wp2_with fail
   refine (p_Make_nz hx (hy.ext (extW.trans ext)) (by omega) (by omega) h0 (hT.ext (extW.trans ext))).mono ?_;rintro e V ⟨s7, A7, n7, c7, t7, B7, m7, d7, rfl, h7, hxt⟩;clear x0 x1 y0 y1 b9;replace hF := hF.ext hxt;replace ext := ext.trans hxt;have hcs := hF.cells (by rw [hkl]; exact hlt);rw [hkl] at hcs;obtain ⟨p0, p1, p2, p3⟩ := hcs;have f0 := hF.frozen (k * 4);have f1 := hF.frozen (k * 4 + 1);have f2 := hF.frozen (k * 4 + 2);have f3 := hF.frozen (k * 4 + 3)
   go_wp2_with fail
   have P := hF.put hkl hlt h7
   go_roundw
   case rel => exact ⟨k + 1, by omega, by go_num, P.2.2.1 _ ext (Nat.le_refl _), by rw [HT.out]; exact P.1⟩
   case measure => simp [intOf]; omega
  ·have hkn : k = n := by omega
   subst hkn;have hml : ((zs.take k).map (fun z => mkQ z y)).length = k := by rw [List.length_map, List.length_take, Hlen.out]; omega
   have hp := hF.pol hml (by unfold maxLen; omega);rw [List.take_of_length_le (Nat.le_of_eq Hlen.out)] at hp;have hI : (k : Int) <= (k : Int) := Int.le_refl _
   go_wp2_with fail
   go_ret
   exact ⟨_, _, _, rfl, hp, extW.trans ext⟩
end
def prodI (xs ys : List Int) : List Int := if xs.length = 0 \/ ys.length = 0 then [] else mulI xs ys
theorem prodI_len (xs ys : List Int) : (prodI xs ys).length <= xs.length + ys.length := by
 unfold prodI
 split
 ·exact Nat.zero_le _
 ·simp only [mulI, List.length_map, List.length_range]; omega
theorem IPol.tight {w : World} {A : Option Addr} {n c L M : Nat} {zs : List Int} (h : IPol w A n c zs L) (hb : ∀ z ∈ zs, z.natAbs < 4294967296 ^ M) : IPol w A n c zs M := by
 refine ⟨h.len, h.cap, h.top, fun hq => ?_⟩;obtain ⟨b, off, h1, h2⟩ := h.at_ hq;refine ⟨b, off, h1, ⟨fun i hi => ?_⟩⟩;obtain ⟨s, A, n, c, k1, k2, k3⟩ := h2.at_ i hi;exact ⟨s, A, n, c, k1, k2, k3.tight' (hb _ (List.getElem_mem hi))⟩
theorem trimI_mem {l : List Int} {z : Int} (h : z ∈ trimI l) : z ∈ l := by
 rw [<- trimI_take] at h;exact List.mem_of_mem_take h
structure SizeP (qs : List Rat) (X : Nat) : Prop where
 den : denP qs < 4294967296 ^ X
 num : ∀ z ∈ numsP qs, z.natAbs < 4294967296 ^ X
section
variable {w w' : World} {z y : Int} {xs ys : List Int} {qs ps : List Rat} {L M : Nat} {s t : Bool} {A B : Option Addr} {n c m d : Nat}
theorem p_product_0 (h : IPol w A n c xs L) (h' : IPol w B m d ys M) (h0 : n = 0 \/ m = 0) (hn : n <= 500) (hm : m <= 500) : Calls Tryz.prog 63 #[.slice A n c, .slice B m d] w (RetIPol [] 0 w) := by
 by_cases hn0 : n = 0
 ·subst hn0
  go_enter Tryz.func63, Tryz.ntmps63
  go_wp2_with fail
  go_ret
  exact ⟨_, _, _, rfl, IPol.none _ _, Ext.refl _⟩
 ·have hm0 : m = 0 := by omega
  subst hm0;have zb1 : ((n : Int) == 0) = false := beq_eq_false_iff_ne.2 (by omega)
  go_enter Tryz.func63, Tryz.ntmps63
  go_wp2_with fail
  go_ret
  exact ⟨_, _, _, rfl, IPol.none _ _, Ext.refl _⟩
theorem IPol.leL (h : IPol w A n c xs L) (hl : L <= M) : IPol w A n c xs M := by
 refine ⟨h.len, h.cap, h.top, fun hq => ?_⟩;obtain ⟨b, off, h1, h2⟩ := h.at_ hq;refine ⟨b, off, h1, ⟨fun i hi => ?_⟩⟩;obtain ⟨s, A, n, c, k1, k2, k3⟩ := h2.at_ i hi;exact ⟨s, A, n, c, k1, k2, k3.le hl⟩
theorem p_productAll (h : IPol w A n c xs L) (h' : IPol w B m d ys M) (hL : L <= 20000) (hM : M <= 20000) (h64 : min L M < 64) (hn : n <= 500) (hm : m <= 500) : Calls Tryz.prog 63 #[.slice A n c, .slice B m d] w (RetIPol (prodI xs ys) (L + M + 1) w) := by
 by_cases h0 : n = 0 \/ m = 0
 ·have e : prodI xs ys = [] := by unfold prodI; rw [if_pos (by rw [h.len, h'.len]; exact h0)]
  rw [e];refine (p_product_0 h h' h0 hn hm).mono ?_;rintro e V ⟨A1, n1, c1, rfl, h1, h2⟩;exact ⟨A1, n1, c1, rfl, h1.leL (Nat.zero_le _), h2⟩
 ·have e : prodI xs ys = mulI xs ys := by unfold prodI; rw [if_neg (by rw [h.len, h'.len]; exact h0)]
  rw [e];exact p_product h h' (by omega) (by omega) hL hM h64 hn hm
set_option maxRecDepth 100000 in
theorem p_MulV {X Y : Nat} (h : Pol w A n c qs L) (h' : Pol w B m d ps M) (hL : L <= 500) (hM : M <= 60) (hn : n <= 40) (hm : m <= 40) (hNL : n * L <= 2900) (hCx : Hid (L < 64 \/ (denP qs < 4294967296 ^ 126 /\ ∀ z ∈ numsP qs, z.natAbs < 4294967296 ^ 126))) (hX : SizeP qs X) (hY : SizeP ps Y) (hX1 : X <= 1000) (hY1 : Y <= 1000) (h64 : min X Y < 64) (hT : Tab w) :
  Calls Tryz.prog 24 #[.slice A n c, .slice B m d] w (RetPol ((prodI (trimI (numsP qs)) (trimI (numsP ps))).map (fun z => mkQ z (((denP qs : Nat) : Int) * ((denP ps : Nat) : Int)))) (X + Y + 1) w) := by
 have HD := Lib.hid (show ((denP qs : Nat) : Int) * ((denP ps : Nat) : Int) ≠ 0 from Int.ne_of_gt (Int.mul_pos (by have := denP_pos qs; omega) (by have := denP_pos ps; omega)));have HX1 := Lib.hid (fun z hz => hX.num z (trimI_mem hz));have HY1 := Lib.hid (fun z hz => hY.num z (trimI_mem hz));have HX2 := Lib.hid (show (((denP qs : Nat) : Int)).natAbs < 4294967296 ^ X by rw [Int.natAbs_natCast]; exact hX.den);have HY2 := Lib.hid (show (((denP ps : Nat) : Int)).natAbs < 4294967296 ^ Y by rw [Int.natAbs_natCast]; exact hY.den);clear hX hY;have Hlx := Lib.hid (show (trimI (numsP qs)).length <= n by have := trimI_len (numsP qs); rw [numsP_len, h.len] at this; exact this);have Hly := Lib.hid (show (trimI (numsP ps)).length <= m by have := trimI_len (numsP ps); rw [numsP_len, h'.len] at this; exact this)
 go_enter Tryz.func24, Tryz.ntmps24
 go_wp2_with fail
 refine (p_splitV h hL hn hNL hCx.out hT).mono ?_;rintro e V1 ⟨A1, n1, c1, s1, B1, m1, d1, rfl, hx, hdx, ext⟩;replace hx := hx.tight HX1.out;replace hdx := hdx.tight' HX2.out
 go_upto_region 2 with (fail)
 obtain ⟨V2, hV2, ext2, b5, hz2⟩ := box1 V1 25 #[.bool s1, .slice B1 m1 d1];rw [<- hV2];clear hV2 hz2;replace hx := hx.ext ext2;replace hdx := hdx.ext ext2;replace ext := ext.trans ext2;clear ext2;generalize V1.heap.size = g5 at b5 ⊢
 go_wp2_with fail
 refine (p_split (h'.ext ext) hM hm (hT.ext ext)).mono ?_;rintro e V1 ⟨A2, n2, c2, s2, B2, m2, d2, rfl, hy, hdy, ext3⟩;replace hy := hy.tight HY1.out;replace hdy := hdy.tight' HY2.out;replace hx := hx.ext ext3;replace hdx := hdx.ext ext3;replace b5 := b5.ext ext3;replace ext := ext.trans ext3;clear ext3
 go_upto_region 3 with (fail)
 obtain ⟨V3, hV3, ext2, b6, hz2⟩ := box1 V1 25 #[.bool s2, .slice B2 m2 d2];rw [<- hV3];clear hV3 hz2;replace hx := hx.ext ext2;replace hdx := hdx.ext ext2;replace hy := hy.ext ext2;replace hdy := hdy.ext ext2;replace b5 := b5.ext ext2;replace ext := ext.trans ext2;clear ext2;generalize V1.heap.size = g6 at b6 ⊢;have hn1 : n1 <= 40 := by have := hx.len; have := Hlx.out; omega
 have hn2 : n2 <= 40 := by have := hy.len; have := Hly.out; omega
 have ES0 := Ext.refl V3;refine wp_region_held_drew (S := Ext V3) (by kernel_rfl) ES0.drew (fun ES => ?_);clear ES0;refine Late.s0 ES (fun hAl hQ => ?_);refine Late.t 0 19 ?v_0 hQ ?y_0 ?_
 case y_0 => intro w' hSw;go_simp;try rfl
 try simp only [zP]
 refine Late.t 1 20 ?v_1 hQ ?y_1 ?_
 case y_1 => intro w' hSw;go_simp;try rfl
 try simp only [zP]
 refine Late.t 3 22 ?v_2 hQ ?y_2 ?_
 case y_2 => intro w' hSw;have k00 := (b5.ext hSw).c2;have k10 := (b6.ext hSw).c2;go_simp;try rfl
 try simp only [zP]
 refine Late.t 4 23 ?v_3 hQ ?y_3 ?_
 case y_3 => intro w' hSw;have k00 := (b5.ext hSw).c2;have k10 := (b6.ext hSw).c2;go_simp;try rfl
 try simp only [zP]
 refine Late.cl (i := 2) rfl hAl hQ (fun w2 e2 E2 K hK => ?_);go_simp
 (go_at_call 63; refine (p_productAll (hx.ext E2) (hy.ext E2) (by omega) (by omega) (by omega) (by omega) (by omega)).mono ?_; rintro e wk1 ⟨A7, n7, c7, rfl, h7, hx2⟩)
 refine hK.out _ _ hx2 ?_;clear hK K
 try simp only [zP]
 refine Late.cl (i := 5) rfl hAl hQ (fun w5 e5 E5 K hK => ?_);go_simp
 (go_at_call 64; refine (p_Mul (hdx.ext E5) (hdy.ext E5) (by omega) (by omega) (by omega)).mono ?_; rintro e wk2 ⟨s8, A8, n8, c8, rfl, h8, hx5⟩)
 refine hK.out _ _ hx5 ?_;clear hK K
 try simp only [zP]
 refine Late.cl (i := 6) rfl hAl hQ (fun w6 e6 E6 K hK => ?_);go_simp
 (go_at_call 62; refine (p_join (h7.ext (e5.trans (hx5.trans e6))) (h8.ext e6) HD.out (by omega) (by omega) (by have := Hlx.out; have := Hly.out; have := h7.len; have := prodI_len (trimI (numsP qs)) (trimI (numsP ps)); omega) (hT.ext (ext.trans E6))).mono ?_; rintro e wk3 ⟨A9, n9, c9, rfl, h9, hx6⟩)
 refine hK.out _ _ hx6 ?_;clear hK K
 try simp only [zP]
 refine Late.t 7 4 ?v_4 hQ ?y_4 ?_
 case y_4 => intro w' hSw;go_simp;try rfl
 try simp only [zP]
 refine Late.d0 (fun wz ez Ez => ?_);clear hAl hQ ES
 go_wp2_with fail
 go_ret
 exact ⟨A9, n9, c9, rfl, by have e : max (X + Y + 1) (X + Y) = X + Y + 1 := Nat.max_eq_left (by omega); rw [<- e]; exact h9.ext ez, ext.trans Ez⟩
end
def RetIRow (zs : List Int) (L : Nat) (w : World) (e : Ending) (w' : World) : Prop := ∃ g, w.heap.size <= g /\ e = .returned (.slice (some ⟨g, 0, none⟩) zs.length zs.length) /\ IRow w' g zs L /\ Ext w w'
def addI : List Int -> Int -> List Int
 | [], z => [z]
 | a :: l, z => (a + z) :: l
theorem addI_len (l : List Int) (z : Int) : (addI l z).length = max 1 l.length := by
 cases l with
 | nil => rfl
 | cons a l => simp [addI]
theorem addI_set {l : List Int} (h : 0 < l.length) (z : Int) : l.set 0 (l[0] + z) = addI l z := by
 cases l with
 | nil => exact absurd h (Nat.lt_irrefl _)
 | cons a l => rfl
theorem IRow.get0 {w : World} {g L : Nat} {zs : List Int} (h : IRow w g zs L) (hk : 0 < zs.length) : ∃ s A n c, w.cell? ⟨g, 0, none⟩ = some (.bool s) /\ w.cell? ⟨g, 1, none⟩ = some (.slice A n c) /\ NI w zs[0] L s A n c := by
 obtain ⟨s, A, n, c, h1, h2, h3⟩ := h.get hk;rw [Nat.zero_mul] at h1 h2;exact ⟨s, A, n, c, h1, h2, h3⟩
theorem IRow.put0 {w : World} {g L : Nat} {zs : List Int} {z : Int} {s : Bool} {A : Option Addr} {n c : Nat} (h : IRow w g zs L) (hk : 0 < zs.length) (hz : NI w z L s A n c) :
  IRow ((w.setCell ⟨g, 0, none⟩ (.bool s)).setCell ⟨g, 1, none⟩ (.slice A n c)) g (zs.set 0 z) L /\
  (∀ W, Ext W w -> W.heap.size <= g -> Ext W ((w.setCell ⟨g, 0, none⟩ (.bool s)).setCell ⟨g, 1, none⟩ (.slice A n c))) := by
 have := h.put hk hz;simp only [Nat.zero_mul, Nat.zero_add] at this;exact ⟨this.1, this.2.2.1⟩
def RetPlus (zs : List Int) (L : Nat) (w0 : World) (e : Ending) (w' : World) : Prop :=
 ∃ g, w0.heap.size <= g /\ e = .returned (.slice (some ⟨g, 0, none⟩) (trimI zs).length zs.length) /\ IRow w' g zs L /\ Ext w0 w'
theorem IRow.trim {w : World} {g L : Nat} {zs : List Int} (h : IRow w g zs L) (hm : zs.length <= maxLen) : IPol w (some ⟨g, 0, none⟩) (trimI zs).length zs.length (trimI zs) L := by
 have := (h.pol rfl hm).take (k := (trimI zs).length) (trimI_len zs);rw [trimI_take] at this;exact this
section
variable {w w' : World} {z y : Int} {zs xs ys : List Int} {L M : Nat} {s t : Bool} {A B : Option Addr} {n c m d : Nat}
set_option maxRecDepth 100000 in
theorem p_productR (h : IPol w A n c xs L) (h' : IPol w B m d ys M) (hn0 : 0 < n) (hm0 : 0 < m) (hL : L <= 20000) (hM : M <= 20000) (h64 : min L M < 64) (hn : n <= 500) (hm : m <= 500) : Calls Tryz.prog 63 #[.slice A n c, .slice B m d] w (RetIRow (mulI xs ys) (L + M + 1) w) := by
 obtain ⟨N, hN⟩ : ∃ N, n + m - 1 = N := ⟨_, rfl⟩;have hNi : (n : Int) + (m : Int) - 1 = (N : Int) := by omega
 have hmk := mk_ints N (by omega);have Hlx := Lib.hid h.len;have Hly := Lib.hid h'.len;have Hml := Lib.hid (fun i j => show (midI xs ys i j).length = N by rw [midI_len, h.len, h'.len]; exact hN);have HX := Lib.hid h.abs;have HY := Lib.hid h'.abs;have zb1 : ((n : Int) == 0) = false := beq_eq_false_iff_ne.2 (by omega);have zb2 : ((m : Int) == 0) = false := beq_eq_false_iff_ne.2 (by omega)
 go_enter Tryz.func63, Tryz.ntmps63
 go_wp2_with fail
 go_loopw [27] (fun v wr => ∃ i : Nat, i <= n /\ v = .int .i64 (i : Int) /\ Ext w wr /\ IRow wr w.heap.size (midI xs ys i 0) (L + M + 1)) (fun v _ => n - (intOf v).toNat)
 case atStart => exact ⟨0, Nat.zero_le _, rfl, (Ext.refl w).alloc _, by rw [midI_zero, Hlx.out, Hly.out, hN]; exact IRow.new w N _⟩
 case round =>
  obtain ⟨i, hi, rfl, ext, hR⟩ := hrel
  by_cases hlt : i < n
  ·have hj : i < xs.length := by rw [Hlx.out]; exact hlt
   have hI : (i : Int) < (n : Int) := by omega
   obtain ⟨b, off, rfl, hr⟩ := h.at_ (fun e => by rw [e] at hj; exact absurd hj (Nat.not_lt_zero _));obtain ⟨sx, Ax, nx, cx, e0, e1, hx⟩ := hr.at_ i hj;replace e0 := ext.cellv e0;replace e1 := ext.cellv e1;have e0' : wr.cell? ⟨b, off + i * 2, none⟩ = some (.bool sx) := by rw [Nat.mul_comm]; exact e0
   have e1' : wr.cell? ⟨b, off + i * 2 + 1, none⟩ = some (.slice Ax nx cx) := by rw [Nat.mul_comm]; exact e1
   clear e0 e1;have hg7 := hR.lt
   go_upto_region 7 with (fail)
   obtain ⟨W7, hW7, ext7, b7, hz7⟩ := box1 wr 25 #[.bool sx, .slice Ax nx cx];rw [<- hW7];clear hW7 hz7 e0' e1';replace hR := hR.ext ext7;replace ext := ext.trans ext7;clear ext7;generalize wr.heap.size = g7 at b7 hg7 ⊢
   go_wp2_with fail
   go_loopw [34] (fun v wq => ∃ j : Nat, j <= m /\ v = .int .i64 (j : Int) /\ Ext w wq /\ Box wq g7 25 #[.bool sx, .slice Ax nx cx] /\ IRow wq w.heap.size (midI xs ys i j) (L + M + 1)) (fun v _ => m - (intOf v).toNat)
   case atStart => exact ⟨0, Nat.zero_le _, rfl, ext, b7, hR⟩
   case round =>
    clear b7 hR ext;obtain ⟨j, hj2, rfl, ext, b7, hR⟩ := hrel
    by_cases hlt2 : j < m
    ·have hjy : j < ys.length := by rw [Hly.out]; exact hlt2
     have hI2 : (j : Int) < (m : Int) := by omega
     obtain ⟨b2, off2, rfl, hr2⟩ := h'.at_ (fun e => by rw [e] at hjy; exact absurd hjy (Nat.not_lt_zero _));obtain ⟨sy, Ay, ny, cy, e0, e1, hy⟩ := hr2.at_ j hjy;replace e0 := ext.cellv e0;replace e1 := ext.cellv e1;have e0' : wr.cell? ⟨b2, off2 + j * 2, none⟩ = some (.bool sy) := by rw [Nat.mul_comm]; exact e0
     have e1' : wr.cell? ⟨b2, off2 + j * 2 + 1, none⟩ = some (.slice Ay ny cy) := by rw [Nat.mul_comm]; exact e1
     clear e0 e1;obtain ⟨k, hk⟩ : ∃ k, k = i + j := ⟨_, rfl⟩;have hkl : k < (midI xs ys i j).length := by rw [Hml.out]; omega
     have hkl2 : k < (midI xs ys i (j + 1)).length := by rw [Hml.out]; omega
     have HS := Lib.hid (show (midI xs ys i j).set k ((midI xs ys i j)[k] + xs[i] * ys[j]) = midI xs ys i (j + 1) by subst hk; exact midI_step xs ys hj hjy hkl)
     have HV := Lib.hid (show (midI xs ys i j)[k] + xs[i] * ys[j] = (midI xs ys i (j + 1))[k] by
      have := congrArg (fun l => l.getD k 0) HS.out
      simpa [hkl, hkl2] using this)
     have hIk : (i : Int) + (j : Int) = (k : Int) := by omega
     have hI3 : (k : Int) < (N : Int) := by have := Hml.out i j; omega
     have hWk : IntKind.i64.wrap (k : Int) = (k : Int) := IntWalk.i64_in _ (by have := Hml.out i j; omega);have HK := Lib.hid hk;clear hk
     go_upto_region 10 with (fail)
     obtain ⟨W9, hW9, ext9, b9, hz9⟩ := box1 wr 25 #[.bool sy, .slice Ay ny cy];rw [<- hW9];clear hW9 hz9 e0' e1';replace hR := hR.ext ext9;replace b7 := b7.ext ext9;replace ext := ext.trans ext9;clear ext9;obtain ⟨sz, Az, nz, cz, z0, z1, hz⟩ := hR.get hkl;refine wpL.st 15 (fun hQ ES => ?_);refine wpL.tB [14,15] 0 39 ?v_0 hQ ?y_0 ES ?_
     case y_0 => intro w' hSw;have l0 := hSw.cellv z0;have l1 := hSw.cellv z1;go_simp;try rfl
     try simp only [zP]
     refine wpL.tB [3,14,15] 1 40 ?v_1 hQ ?y_1 ES ?_
     case y_1 => intro w' hSw;have l0 := hSw.cellv z0;have l1 := hSw.cellv z1;go_simp;try rfl
     try simp only [zP]
     refine wpL.tB [3,14,15] 2 41 ?v_2 hQ ?y_2 ES ?_
     case y_2 => intro w' hSw;have l0 := hSw.cellv z0;have l1 := hSw.cellv z1;go_simp;try rfl
     try simp only [zP]
     refine wpL.tB [14,15] 3 42 ?v_3 hQ ?y_3 ES ?_
     case y_3 => intro w' hSw;have l0 := hSw.cellv z0;have l1 := hSw.cellv z1;go_simp;try rfl
     try simp only [zP]
     refine wpL.tB [8,9,13,15] 4 43 ?v_4 hQ ?y_4 ES ?_
     case y_4 => intro w' hSw;have l0 := hSw.cellv z0;have l1 := hSw.cellv z1;go_simp;try rfl
     try simp only [zP]
     refine wpL.tB [7,8,9,13,15] 5 44 ?v_5 hQ ?y_5 ES ?_
     case y_5 => intro w' hSw;have l0 := hSw.cellv z0;have l1 := hSw.cellv z1;go_simp;try rfl
     try simp only [zP]
     refine wpL.tB [7,8,9,13,15] 6 45 ?v_6 hQ ?y_6 ES ?_
     case y_6 => intro w' hSw;have l0 := hSw.cellv z0;have l1 := hSw.cellv z1;go_simp;try rfl
     try simp only [zP]
     refine wpL.tB [8,9,13,15] 7 46 ?v_7 hQ ?y_7 ES ?_
     case y_7 => intro w' hSw;have l0 := hSw.cellv z0;have l1 := hSw.cellv z1;go_simp;try rfl
     try simp only [zP]
     refine wpL.tB [9,13,15] 8 47 ?v_8 hQ ?y_8 ES ?_
     case y_8 => intro w' hSw;have l0 := hSw.cellv z0;have l1 := hSw.cellv z1;go_simp;try rfl
     try simp only [zP]
     refine wpL.tB [13,15] 9 48 ?v_9 hQ ?y_9 ES ?_
     case y_9 => intro w' hSw;have j0 := (b7.ext hSw).c2;have k0 := (b9.ext hSw).c2;have l0 := hSw.cellv z0;have l1 := hSw.cellv z1;go_simp;try rfl
     try simp only [zP]
     refine wpL.tB [12,13,15] 10 49 ?v_a hQ ?y_a ES ?_
     case y_a => intro w' hSw;have j0 := (b7.ext hSw).c2;have k0 := (b9.ext hSw).c2;have l0 := hSw.cellv z0;have l1 := hSw.cellv z1;go_simp;try rfl
     try simp only [zP]
     refine wpL.tB [12,13,15] 11 50 ?v_b hQ ?y_b ES ?_
     case y_b => intro w' hSw;have j0 := (b7.ext hSw).c2;have k0 := (b9.ext hSw).c2;have l0 := hSw.cellv z0;have l1 := hSw.cellv z1;go_simp;try rfl
     try simp only [zP]
     refine wpL.cl (i := 12) rfl (fun K hK => ?_);go_simp
     (go_at_call 64; refine (p_Mul (hx.ext (ext.trans ES)) (hy.ext (ext.trans ES)) (by omega) (by omega) (by omega)).mono ?_; rintro e wa ⟨s1, A1, n1, c1, rfl, h1, hx0⟩; have E7 := Ext.trans ES hx0)
     refine hK.out _ _ E7 ?_;clear hK K
     try simp only [zP]
     refine wpL.cl (i := 13) rfl (fun K hK => ?_);go_simp
     (go_at_call 101; refine (p_Add (hz.ext E7) h1 (by omega) (by omega)).mono ?_; rintro e wb ⟨s2, A2, n2, c2, rfl, h2, hx1⟩; have E8 := Ext.trans E7 hx1)
     refine hK.out _ _ E8 ?_;clear hK K
     try simp only [zP]
     refine wpL.tB [15] 14 53 ?v_c hQ ?y_c E8 ?_
     case y_c => intro w' hSw;go_simp;try rfl
     try simp only [zP]
     have hRk := hR.ext E8;obtain ⟨sw, Aw, nw, cw, q0, q1, _⟩ := hRk.get hkl;have f0 := hRk.frozen (k * 2);have f1 := hRk.frozen (k * 2 + 1);refine wpL.tl (i := 15) rfl (fun K hK => ?_);go_simp;refine hK.out _ _ ?_;clear hK K
     try simp only [zP]
     refine wpL.done (by kernel_rfl) ?_ _;clear hQ
     go_wp2_with fail
     rw [HV.out] at h2;have h3 := mid_tight HX.out HY.out (by omega) hkl2 h2;have PP := hRk.put hkl h3
     go_roundw
     case rel => exact ⟨j + 1, by omega, by go_num, PP.2.2.1 _ (ext.trans E8) (Nat.le_refl _), PP.2.2.2 _ _ _ (by omega) (b7.ext E8), by have := PP.1; rw [<- HV.out, HS.out] at this; exact this⟩
     case measure => simp [intOf]; omega
    ·have hjm : j = m := by omega
     subst hjm;have hI2 : (j : Int) <= (j : Int) := Int.le_refl _;have hrw := midI_row xs ys i;rw [Hly.out] at hrw;rw [hrw] at hR
     go_wp2_with fail
     go_roundw
     case rel => exact ⟨i + 1, by omega, by go_num, ext, hR⟩
     case measure => simp [intOf]; omega
  ·have hin : i = n := by omega
   subst hin;have hme := midI_end xs ys;rw [Hlx.out] at hme;rw [hme] at hR;have hlm : (mulI xs ys).length = N := by rw [<- hme]; exact Hml.out _ _
   have hI : (i : Int) <= (i : Int) := Int.le_refl _
   go_wp2_with fail
   go_ret
   exact ⟨w.heap.size, Nat.le_refl _, by rw [hlm]; rfl, hR, ext⟩
set_option maxRecDepth 100000 in
theorem p_plusR {g : Nat} {w0 : World} (hR : IRow w g zs L) (hz : NI w z M t B m d) (hlen : zs.length = n) (hn0 : 0 < n) (hn : n <= 500) (hL : L <= 3000) (hM : M <= 3000) (h0 : Ext w0 w) (hg : w0.heap.size <= g) : Calls Tryz.prog 68 #[.slice (some ⟨g, 0, none⟩) n n, .agg #[.bool t, .slice B m d]] w (RetPlus (addI zs z) (max L M + 1) w0) := by
 have hk : 0 < zs.length := by omega
 have zb : ((n : Int) == 0) = false := beq_eq_false_iff_ne.2 (by omega)
 go_enter Tryz.func68, Tryz.ntmps68
 go_upto_region 1 with (fail)
 obtain ⟨W, hW, extW, b3, hzz⟩ := box1 w 25 #[.bool t, .slice B m d];rw [<- hW];clear hW hzz;replace hR := hR.ext extW;replace hz := hz.ext extW;have ext := h0.trans extW;clear h0 extW
 go_upto_region 3 with (fail)
 obtain ⟨s0, A0, n0, c0, z0, z1, hz0⟩ := hR.get0 hk;have hI : (0 : Int) < (n : Int) := by omega
 refine wpL.st 7 (fun hQ ES => ?_);refine wpL.tB [6,7] 0 9 ?v_0 hQ ?y_0 ES ?_
 case y_0 => intro w' hSw;have l0 := hSw.cellv z0;have l1 := hSw.cellv z1;go_simp;try rfl
 try simp only [zP]
 refine wpL.tB [2,3,5,7] 1 10 ?v_1 hQ ?y_1 ES ?_
 case y_1 => intro w' hSw;have l0 := hSw.cellv z0;have l1 := hSw.cellv z1;go_simp;try rfl
 try simp only [zP]
 refine wpL.tB [3,5,7] 2 11 ?v_2 hQ ?y_2 ES ?_
 case y_2 => intro w' hSw;have l0 := hSw.cellv z0;have l1 := hSw.cellv z1;go_simp;try rfl
 try simp only [zP]
 refine wpL.tB [5,7] 3 12 ?v_3 hQ ?y_3 ES ?_
 case y_3 => intro w' hSw;have j0 := (b3.ext hSw).c2;have l0 := hSw.cellv z0;have l1 := hSw.cellv z1;go_simp;try rfl
 try simp only [zP]
 refine wpL.tB [5,7] 4 13 ?v_4 hQ ?y_4 ES ?_
 case y_4 => intro w' hSw;have j0 := (b3.ext hSw).c2;have l0 := hSw.cellv z0;have l1 := hSw.cellv z1;go_simp;try rfl
 try simp only [zP]
 refine wpL.cl (i := 5) rfl (fun K hK => ?_);go_simp
 (go_at_call 101; refine (p_Add (hz0.ext ES) (hz.ext ES) (by omega) (by omega)).mono ?_; rintro e wa ⟨s1, A1, n1, c1, rfl, h1, hx0⟩; have E7 := Ext.trans ES hx0)
 refine hK.out _ _ E7 ?_;clear hK K
 try simp only [zP]
 refine wpL.tB [7] 6 15 ?v_5 hQ ?y_5 E7 ?_
 case y_5 => intro w' hSw;go_simp;try rfl
 try simp only [zP]
 have hRk := hR.ext E7;obtain ⟨sw, Aw, nw, cw, q0, q1, _⟩ := hRk.get0 hk;have f0 := hRk.frozen 0;have f1 := hRk.frozen 1;refine wpL.tl (i := 7) rfl (fun K hK => ?_);go_simp;refine hK.out _ _ ?_;clear hK K
 try simp only [zP]
 refine wpL.done (by kernel_rfl) ?_ _;clear hQ;have PP := (hRk.le (show L <= (max L M + 1) by omega)).put0 hk (h1.le (by omega));rw [addI_set hk] at PP;have hR2 := PP.1;have EP := PP.2 _ (ext.trans E7) hg;have hl2 : (addI zs z).length = n := by rw [addI_len, hlen]; omega
 refine at_exit (fun V => IRow V g (addI zs z) (max L M + 1) /\ Ext w0 V) ⟨hR2, EP⟩ ?_;clear q0 q1 f0 f1 PP hR2 EP;rintro V ⟨hR2, EP⟩;have hp := hR2.pol hl2 (by unfold maxLen; omega)
 go_wp2_with fail
 refine (p_cutI_same hp (by omega) (by omega)).mono ?_;rintro e wb ⟨rfl, hx1⟩
 go_wp2_with fail
 go_ret
 exact ⟨g, hg, by rw [hl2]; rfl, hR2.ext hx1, EP.trans hx1⟩
set_option maxRecDepth 100000 in
theorem p_plus0g {w0 : World} (hz : NI w z M t B m d) (hM : M <= 3000) (h0 : Ext w0 w) {zs : List Int} (HZ : Hid (zs = [0])) : Calls Tryz.prog 68 #[.slice none 0 0, .agg #[.bool t, .slice B m d]] w (RetPlus (addI zs z) (M + 1) w0) := by
 have hmk : ∀ W : World, (Instr.makeSlice 46 (.int .i64 1) (.int .i64 1)).run Tryz.prog W = .ok (.slice (some ⟨W.heap.size, 0, none⟩) 1 1) (W.alloc (.cells (zeroI 1).toArray 25)) := fun W => mk_ints 1 (by omega) W
 have hk : 0 < zs.length := by rw [HZ.out]; decide
 have hlen : zs.length = 1 := by rw [HZ.out]; rfl
 go_enter Tryz.func68, Tryz.ntmps68
 go_upto_region 1 with (fail)
 obtain ⟨W, hW, extW, b3, hzz⟩ := box1 w 25 #[.bool t, .slice B m d];rw [<- hW];clear hW hzz;replace hz := hz.ext extW;have ext := h0.trans extW
 go_upto_region 3 with (fail)
 obtain ⟨g, hgg⟩ : ∃ g, W.heap.size = g := ⟨_, rfl⟩;have hRn := IRow.new W 1 0;have ha := (Ext.refl W).alloc (.cells (zeroI 1).toArray 25);rw [hgg] at hRn
 try rw [hgg]
 have hg : w0.heap.size <= g := by rw [<- hgg]; exact ext.size
 refine at_world (fun V => Ext W V /\ IRow V g zs 0) ⟨ha, by rw [HZ.out]; exact hRn⟩ ?_;rintro V0 ⟨EV, hR⟩;replace b3 := b3.ext EV;replace hz := hz.ext EV;replace ext := ext.trans EV;clear EV ha hRn;have hL0 : (0 : Nat) <= M := Nat.zero_le _;obtain ⟨s0, A0, n0, c0, z0, z1, hz0⟩ := hR.get0 hk;have hI : (0 : Int) < (1 : Int) := by omega
 refine wpL.st 7 (fun hQ ES => ?_);refine wpL.tB [6,7] 0 9 ?v_0 hQ ?y_0 ES ?_
 case y_0 => intro w' hSw;have l0 := hSw.cellv z0;have l1 := hSw.cellv z1;go_simp;try rfl
 try simp only [zP]
 refine wpL.tB [2,3,5,7] 1 10 ?v_1 hQ ?y_1 ES ?_
 case y_1 => intro w' hSw;have l0 := hSw.cellv z0;have l1 := hSw.cellv z1;go_simp;try rfl
 try simp only [zP]
 refine wpL.tB [3,5,7] 2 11 ?v_2 hQ ?y_2 ES ?_
 case y_2 => intro w' hSw;have l0 := hSw.cellv z0;have l1 := hSw.cellv z1;go_simp;try rfl
 try simp only [zP]
 refine wpL.tB [5,7] 3 12 ?v_3 hQ ?y_3 ES ?_
 case y_3 => intro w' hSw;have j0 := (b3.ext hSw).c2;have l0 := hSw.cellv z0;have l1 := hSw.cellv z1;go_simp;try rfl
 try simp only [zP]
 refine wpL.tB [5,7] 4 13 ?v_4 hQ ?y_4 ES ?_
 case y_4 => intro w' hSw;have j0 := (b3.ext hSw).c2;have l0 := hSw.cellv z0;have l1 := hSw.cellv z1;go_simp;try rfl
 try simp only [zP]
 refine wpL.cl (i := 5) rfl (fun K hK => ?_);go_simp
 (go_at_call 101; refine (p_Add (hz0.ext ES) (hz.ext ES) (by omega) (by omega)).mono ?_; rintro e wa ⟨s1, A1, n1, c1, rfl, h1, hx0⟩; have E7 := Ext.trans ES hx0)
 refine hK.out _ _ E7 ?_;clear hK K
 try simp only [zP]
 refine wpL.tB [7] 6 15 ?v_5 hQ ?y_5 E7 ?_
 case y_5 => intro w' hSw;go_simp;try rfl
 try simp only [zP]
 have hRk := hR.ext E7;obtain ⟨sw, Aw, nw, cw, q0, q1, _⟩ := hRk.get0 hk;have f0 := hRk.frozen 0;have f1 := hRk.frozen 1;refine wpL.tl (i := 7) rfl (fun K hK => ?_);go_simp;refine hK.out _ _ ?_;clear hK K
 try simp only [zP]
 refine wpL.done (by kernel_rfl) ?_ _;clear hQ;have PP := (hRk.le (show 0 <= (M + 1) by omega)).put0 hk (h1.le (by omega));rw [addI_set hk] at PP;have hR2 := PP.1;have EP := PP.2 _ (ext.trans E7) hg;have hl2 : (addI zs z).length = 1 := by rw [addI_len, hlen]; omega
 refine at_exit (fun V => IRow V g (addI zs z) (M + 1) /\ Ext w0 V) ⟨hR2, EP⟩ ?_;clear q0 q1 f0 f1 PP hR2 EP;rintro V ⟨hR2, EP⟩;have hp := hR2.pol hl2 (by unfold maxLen; omega)
 go_wp2_with fail
 refine (p_cutI_same hp (by omega) (by omega)).mono ?_;rintro e wb ⟨rfl, hx1⟩
 go_wp2_with fail
 go_ret
 exact ⟨g, hg, by rw [hl2]; rfl, hR2.ext hx1, EP.trans hx1⟩
theorem p_plus0 (hz : NI w z M t B m d) (hM : M <= 3000) : Calls Tryz.prog 68 #[.slice none 0 0, .agg #[.bool t, .slice B m d]] w (RetPlus (addI [] z) (M + 1) w) := by
 have := p_plus0g hz hM (Ext.refl w) (zs := [0]) (Lib.hid rfl);simp only [addI, Int.zero_add] at this ⊢;exact this
end
end
section
open Go.RowKit
section bridge
variable {P : Program} {ops : Array Oper} {Q : Exit -> Act -> World -> Prop} {md : Region.Mode} {l n : Nat}
def noDefer (ops : Array Oper) : Bool := ops.toList.all fun o => match o.op with | .defer _ => false | _ => true
theorem noDefer_spec (h : noDefer ops = true) {i : Nat} {o : Oper} (ho : ops[i]? = some o) : ∀ c, o.op ≠ .defer c := by
 intro c hc
 have hm : o ∈ ops.toList := by
  rw [Array.mem_toList_iff];exact Array.mem_of_getElem? ho
 have := List.all_eq_true.1 h o hm;simp [hc] at this
theorem oper_round {o : Oper} {a : Act} {w : World} {K : Act -> World -> Prop} (hd : ∀ c, o.op ≠ .defer c) (h : o.wp P a w K Q) : o.wpIn (Fence.wide.inRound l) n P a w K Q := by
 refine ⟨fun _ _ => trivial, ?_⟩;unfold Oper.wp at h;rw [Oper.semAt_eq _ _ _ hd];generalize (execOp a.eval o).run P w = r at h ⊢
 cases r with
 | ok x w' =>
  cases x with
  | value v => exact h
  | skip => exact h
  | defer d => exact h
  | enter f args =>
   rw [Oper.upon_enter] at h;rw [Oper.uponIn_enter];exact ⟨fun e => (by cases e), CallsIn.inRound l (callsIn_wide.2 (Calls.mono h (fun e w he => by cases e <;> exact he)))⟩
  | row r args =>
   rw [Oper.upon_row] at h;rw [Oper.uponIn_row]
   exact ⟨fun e => (by cases e), fun c cs _ => by
    obtain ⟨v, w', r, s⟩ := h c cs;exact ⟨v, w', r, stepsIn_wide.2 s⟩⟩
  | _ => exact h.elim
 | halt x w' =>
  cases x <;> exact h
theorem wpAny_round (hd : noDefer ops = true) (hQ : ¬ LetsOut Q) : ∀ (f : Nat) (L : Array Bool) (a : Act) (w : World), wpAny P md ops Q f L a w -> wpAnyIn (Fence.wide.inRound l) n P md ops Q f L a w
 | 0, _, _, _, h => h
 | f + 1, L, a, w, h => ⟨h.1, fun i hi => by
   have h2 := h.2 i hi;unfold wpOp at h2;unfold wpOpIn
   cases ho : ops[i]? with
   | none => simp only [ho] at h2; exact wpAny_round hd hQ f _ a w h2
   | some o =>
    simp only [ho] at h2;simp only
    split
    ·rename_i hw
     simp only [hw, if_true] at h2;exact oper_round (noDefer_spec hd ho) (Oper.wp_mono (fun a w => wpAny_round hd hQ f _ a w) (h2.resolve_right (fun h => hQ h.2)))
    ·rename_i hw
     simp only [hw] at h2;exact ⟨fun _ _ => trivial, wpAny_round hd hQ f _ _ w h2⟩⟩
theorem wpL.startIn {id : Nat} {a : Act} {w : World} (z : Nat) (hm : P.follows .mixedOrders = true) (hd : noDefer ops = true) (ho : ¬ LetsOut Q) (hQ : QStill Q) (h : QStill Q -> Ext w w.drew -> wpL P .any ops Q w z ops.size (Array.replicate ops.size false) a w.drew) : (Code.region id ops true).wpIn (Fence.wide.inRound l) n P Q a w :=
 wpIn_region_any hm (wpAny_round hd ho _ _ _ _ (wpL.any _ _ _ _ (h hQ (Ext.refl w).drew)))
end bridge
def Kc (w w' : World) : Prop := ∃ row, w.grownBy w' row /\ ∀ r, row = some r -> ∃ o : Obj, w.heap[r]? = some o /\ o.isCells = false
section kept
variable {w w' a : World} {z : Int} {zs : List Int} {L b o g n c : Nat} {s : Bool} {A : Option Addr} {cs : List Value} {xs : List Nat}
theorem Kc.size (k : Kc w w') : w.heap.size <= w'.heap.size := by
 obtain ⟨row, hg, _⟩ := k;exact hg.size
theorem Kc.cellv (k : Kc w w') {p : Addr} {v : Value} (h : w.cell? p = some v) : w'.cell? p = some v := by
 obtain ⟨row, hg, hr⟩ := k;exact cell_kept h hg hr
theorem Box.kc {t : TypeId} {cs : Array Value} (h : Box w g t cs) (k : Kc w w') : Box w' g t cs := by
 obtain ⟨row, hg, hr⟩ := k;exact (hg.block g h.lt (fun e => by obtain ⟨o, ho, hc⟩ := hr g e.symm; rw [show w.heap[g]? = _ from h] at ho; cases ho; cases hc)).trans h
theorem Rd.kc (h : Rd w A xs) (k : Kc w w') : Rd w' A xs := by
 refine ⟨h.1, fun hn => ?_⟩;obtain ⟨b, off, hA, hb, hc⟩ := h.2 hn;exact ⟨b, off, hA, Nat.lt_of_lt_of_le hb k.size, fun i hi => k.cellv (hc i hi)⟩
theorem NI.kc (h : NI w z L s A n c) (k : Kc w w') : NI w' z L s A n c := by
 obtain ⟨xs, h1, h2, h3, h4, h5, h6⟩ := h.out;exact ⟨xs, h1, h2.kc k, h3, h4, h5, h6⟩
theorem IntsAt.kc (h : IntsAt w b o zs L) (k : Kc w w') : IntsAt w' b o zs L := ⟨fun i hi => by
 obtain ⟨s, A, n, c, h1, h2, h3⟩ := h.at_ i hi;exact ⟨s, A, n, c, k.cellv h1, k.cellv h2, h3.kc k⟩⟩
theorem IPol.kc (h : IPol w A n c zs L) (k : Kc w w') : IPol w' A n c zs L :=
 ⟨h.len, h.cap, h.top, fun hq => by obtain ⟨b, off, h1, h2⟩ := h.at_ hq; exact ⟨b, off, h1, h2.kc k⟩⟩
theorem Ext.own {B : Nat} {row : Option Nat} (h : Ext a w) (hg : w.grownBy w' row) (hr : ∀ r, row = some r -> B <= r /\ ∃ o : Obj, w.heap[r]? = some o /\ o.isCells = false) (hB : a.heap.size <= B) : Ext a w' :=
 Below.grown h hg h.size (fun k hk => by have := (hr k hk).1; omega)
theorem kc_of {B : Nat} {row : Option Nat} (hg : w.grownBy w' row) (hr : ∀ r, row = some r -> B <= r /\ ∃ o : Obj, w.heap[r]? = some o /\ o.isCells = false) : Kc w w' := ⟨row, hg, fun r e => (hr r e).2⟩
theorem Kc.putObj {l : Nat} {o : Obj} (o' : Obj) (hl : w.heap[l]? = some o) (ho : o.isCells = false) : Kc w (w.putObj l o') :=
 ⟨some l, grownBy_putObj' w l o', fun r e => by cases e; exact ⟨o, hl, ho⟩⟩
theorem Ext.keeps (h : Ext w w') : KeepsOthers w w' :=
 ⟨h.size, fun k o hk _ => by
  have hb : Below w.heap.size w w' := h;exact (hb.block k (Array.getElem?_eq_some_iff.1 hk).1).trans hk⟩
end kept
def calm (Q : Exit -> Act -> World -> Prop) : Exit -> Act -> World -> Prop
 | .panic _, _, _ => False
 | e, a, w => Q e a w
theorem calm_le {Q : Exit -> Act -> World -> Prop} : ∀ e a w, calm Q e a w -> Q e a w := by
 intro e a w h
 cases e <;> first | exact h | exact False.elim h
theorem calm_normal {Q : Exit -> Act -> World -> Prop} {a : Act} {w : World} (h : Q .normal a w) : calm Q .normal a w := h
def backPost (B : Nat) (W : World) (J : World -> Prop) : Exit -> Act -> World -> Prop
 | .normal, _, W' => KeepsFrom B W W' /\ J W'
 | _, _, _ => False
theorem wp_back {P : Program} {g : Operand} {ps : Array Tmp} {assign body : Code} {Q : Exit -> Act -> World -> Prop} {a : Act} {w : World} {N gf : Nat} {lb : Array Value}
  (hg : a.eval g = .func (.func gf) #[] lb) (eg : ∀ args w, (callFunc gf args).run P w = .ok (.enter gf args) w)
  {Rdy : World -> Prop} {El : Nat -> Array Value -> World -> Prop}
  (hseq : ∀ (l : Nat) (J : Nat -> World -> Prop) (W : World), (∀ k W, J k W -> Rdy W) ->
   (∀ k args W, J k W -> k < N -> El k args W -> YieldAt Fence.wide 0 P l args W fun e W' => e = .returned (.bool true) /\ J (k + 1) W') -> J 0 W ->
   CallsIn Fence.wide 0 P gf (#[.func (.yield l) #[] #[]] ++ lb) W fun e W' => (∃ v, e = .returned v) /\ J N W')
  (I : Nat -> World -> Prop) (Ax : Array Value -> Nat -> Array Value -> Act -> World -> Prop)
  (hI : OwnFrom w.heap.size I) (hAx : ∀ k args a', OwnFrom w.heap.size (fun (_ : Unit) W => Ax a.tmps k args a' W)) (hR : ∀ k W, I k W -> Rdy W) (hps : ∀ k args W, El k args W -> args.size = ps.size) (h0 : I 0 w)
  (hassign : ∀ (l k : Nat) (args : Array Value) (W : World), I k W -> k < N -> El k args W ->
   assign.wpIn (Fence.wide.inRound l) 0 P (Exit.then (fun a' W' => KeepsFrom w.heap.size W W' /\ I k W' /\ Ax a.tmps k args a' W') (fun _ _ _ => False)) { tmps := (ps.zip args).foldl (fun t (p, v) => t.setIfInBounds p v) a.tmps, defers := [] } W)
  (hbody : ∀ (l k : Nat) (args : Array Value) (a' : Act) (W : World), k < N -> I k W -> Ax a.tmps k args a' W -> body.wpIn (Fence.wide.inRound l) 0 P (backPost w.heap.size W (I (k + 1))) a' W)
  (hdone : ∀ (D : Nat) (W : World), w.heap.size <= D -> I N W -> W.heap[D]? = some (.deferred (some [])) -> Q .normal { a with defers := { target := .collected D, args := #[] } :: a.defers } W) :
  (Code.rangeFunc g ps assign body).wp P Q a w := by
 refine wpIn_wide.1 (wpIn_rangeFunc (n := 1) ?_);intro fn hfn;obtain ⟨rec, hrec⟩ : ∃ rec : LoopState -> Loop, rec = fun st => { state := st, pending := none, fn, tmps := a.tmps, params := ps, assign, body, defers := w.heap.size } := ⟨_, rfl⟩
 obtain ⟨W1, hW1⟩ : ∃ W1, (w.alloc (.deferred (some []))).alloc (.loop (rec .ready)) = W1 := ⟨_, rfl⟩
 have hL1 : W1.heap[w.heap.size + 1]? = some (.loop (rec .ready)) := by
  have := World.alloc_heap_new (w.alloc (.deferred (some []))) (.loop (rec .ready));rw [World.size_alloc] at this;rw [<- hW1]; exact this
 have hD1 : W1.heap[w.heap.size]? = some (.deferred (some [])) := by
  rw [<- hW1]; exact (Below.heap_alloc _ _ _ (by simp)).trans (World.alloc_heap_new w _)
 have hI1 : I 0 W1 := by rw [<- hW1]; exact hI.alloc _ (hI.alloc _ h0)
 refine ⟨w.heap.size + 1, [{ target := .collected w.heap.size, args := #[] }], W1, { target := .fn (.func gf) lb, args := #[.func (.yield (w.heap.size + 1)) #[] #[]] }, W1, gf, #[.func (.yield (w.heap.size + 1)) #[] #[]] ++ lb, W1, ?_, ?_, fun _ _ => trivial, ?_, fun e => (by cases e), ?_⟩
 ·rw [<- hW1, hrec]; exact run_enterLoop_outer _ _ _ _ _
 ·simp only [resolve, hg]
  simp [go_sem]
 ·simp [invoke, go_sem, eg]
 ·refine (hseq (w.heap.size + 1) (fun k W => I k W /\ W.heap[w.heap.size + 1]? = some (.loop (rec .ready)) /\ W.heap[w.heap.size]? = some (.deferred (some []))) W1 (fun k W h => hR k W h.1) ?_ ⟨hI1, hL1, hD1⟩).mono ?_
  ·rintro k args W ⟨hi, hl, hd⟩ hk hel
   have hy := run_yield (P := P) (args := args) hl (by rw [hrec]; exact hps k args W hel);rw [hrec] at hy;refine ⟨fn, _, assign, body, hy, roundIn_of_wpIn hfn (wpIn_mono (hassign _ k args W hi hk hel) ?_)⟩;rintro e a' Wa hq
   cases e with
   | normal =>
    obtain ⟨hkf, hia, hax⟩ := hq;have hla := hkf.same _ _ (by omega) hl rfl;have hda := hkf.same _ _ (Nat.le_refl _) hd rfl;refine ⟨_, run_beginRound hla (by rw [hrec]), ?_⟩;have hlt := (Array.getElem?_eq_some_iff.1 hla).1;have hl2 : (Wa.putObj (w.heap.size + 1) (.loop { rec .ready with state := .busy })).heap[w.heap.size + 1]? = some (.loop { rec .ready with state := .busy }) := World.putObj_heap_same hlt;have hd2 : (Wa.putObj (w.heap.size + 1) (.loop { rec .ready with state := .busy })).heap[w.heap.size]? = some (.deferred (some [])) := (World.putObj_heap_other (by omega)).trans hda;refine wpIn_mono (hbody _ k args a' _ hk (hI.putObj _ hia (by omega) hla rfl) ((hAx k args a').putObj (s := ()) _ hax (by omega) hla rfl)) ?_;rintro e a3 W3 hp
    cases e with
    | normal =>
     obtain ⟨hk3, hi3⟩ := hp;have hl3 := hk3.same _ _ (by omega) hl2 rfl;have hd3 := hk3.same _ _ (Nat.le_refl _) hd2 rfl;have he := run_endRound (P := P) none hl3;have hlt3 := (Array.getElem?_eq_some_iff.1 hl3).1;refine ⟨_, _, he, rfl, hI.putObj _ hi3 (by omega) hl3 rfl, ?_, (World.putObj_heap_other (by omega)).trans hd3⟩;rw [World.putObj_heap_same hlt3, hrec]
     rfl
    | _ => exact hp.elim
   | _ => exact hq.elim
  ·rintro e W2 ⟨⟨v, rfl⟩, hi, hl, hd⟩
   refine ⟨none, _, by have := run_endLoop (P := P) hl (by rw [hrec]; simp); rw [hrec] at this; exact this, ?_⟩;exact hdone _ _ (Nat.le_refl _) (hI.putObj _ hi (by omega) hl rfl) ((World.putObj_heap_other (by omega)).trans hd)
theorem Tryz.infoRat : (Tryz.prog.info? 27).map (fun i => (i.zero, i.size, i.bytes)) = some (some (.agg #[.bool false, .slice none 0 0, .bool false, .slice none 0 0]), 4, 64) := by kernel_rfl
section
variable {w w' : World} {A : Option Addr} {g n c o L : Nat} {qs : List Rat} {cs : List Value}
theorem RatsAt.of_row {T : TypeId} {cur : Array Value} (hg : w.heap[g]? = some (.cells cur T (0, 0))) (ht : cur.toList.take cs.length = cs) (h : CellsOf w L qs cs) : RatsAt w g 0 qs L := by
 have hcell : ∀ j u, cs[j]? = some u -> w.cell? ⟨g, j, none⟩ = some u := by
  intro j u hu;have hj : j < cs.length := (List.getElem?_eq_some_iff.1 hu).1;rw [<- ht, List.getElem?_take, if_pos hj] at hu;rw [cell_of_row w g j _ _ (0, 0) hg]
  simpa using hu
 refine ⟨fun i hi => ?_⟩;obtain ⟨s, A, n, c, t, B, m, d, k0, k1, k2, k3, k4⟩ := h.get i hi;rw [Nat.zero_add];exact ⟨s, A, n, c, t, B, m, d, hcell _ _ k0, hcell _ _ k1, hcell _ _ k2, hcell _ _ k3, k4⟩
theorem run_append_rats {w0 w : World} (ty : TypeId) (he : Ext w0 w) (hg : w0.heap.size <= g) (hb : Box w g 27 #[]) (hp : Pol w0 A n c qs L) (hn : n <= 10000) :
  ∃ A' c' w', (Builtin.append_ #[22, 22] ty #[.slice (some ⟨g, 0, none⟩) 0 0, .slice A n c]).run Tryz.prog w = .ok (.slice A' n c') w' /\ Pol w' A' n c' qs L /\ Ext w0 w' := by
 have hq := Tryz.infoRat
 cases hi : Tryz.prog.info? 27 with
 | none => rw [hi] at hq; cases hq
 | some i =>
 rw [hi] at hq;simp only [Option.map_some, Option.some.injEq, Prod.mk.injEq] at hq;obtain ⟨q1, q2, q3⟩ := hq;have hown : w.ownsRow w0.heap.size 27 4 (.slice (some ⟨g, 0, none⟩) 0 0) 0 [] := ⟨by simp, .inr ⟨g, 0, #[], rfl, hg, hb, Nat.le_refl _, by unfold maxLen; omega, by simp, by simp⟩⟩
 by_cases h0 : qs = []
 ·subst h0
  have hn0 : n = 0 := by rw [<- hp.len]; rfl
  subst hn0;refine ⟨some ⟨g, 0, none⟩, 0, w, ?_, ⟨rfl, Nat.le_refl _, by unfold maxLen; omega, fun h => absurd rfl h⟩, he⟩
  cases A with
  | none => simp [Builtin.append_, run_underlying Tryz.underlying22, sizeOf, typeInfo, hi, Builtin.lenOf, Builtin.firstCells, storeCells]
  | some ad => simp [Builtin.append_, run_underlying Tryz.underlying22, sizeOf, typeInfo, hi, Builtin.lenOf, Builtin.firstCells, loadCells, loadCellsFrom, storeCells]
 ·obtain ⟨b, off, rfl, hrat⟩ := hp.at_ h0
  obtain ⟨cs, k1, k2⟩ := hrat.list;have hl : cs.length = n * 4 := by rw [k1.len, hp.len]
  obtain ⟨v', w', hrun, hown', hgr, _, _⟩ := run_append_own_at (P := Tryz.prog) w w0.heap.size 22 ty 27 i _ 4 64 Tryz.underlying22 hi q1 q2 q3 rfl (by omega) _ 0 [] hown ⟨b, off, none⟩ n c cs
   hl (fun j u h => he.cellv (k2 j u h)) k1.one (by unfold maxLen; omega) (by omega) he.size
  simp only [Nat.zero_add, List.nil_append] at hown';have hx : Ext w0 w' := Below.grown he hgr he.size (fun k hk => by simp [Value.ownBlock] at hk; omega);have hpos : 0 < n := by rw [<- hp.len]; exact List.length_pos_iff.2 h0
  rcases hown'.2 with ⟨_, h⟩ | ⟨g', cap, cur, rfl, _, hg', hnc, hcm, _, htk⟩
  ·omega
  ·refine ⟨_, cap, w', hrun, ⟨hp.len, hnc, hcm, fun _ => ⟨g', 0, rfl, RatsAt.of_row hg' ?_ (k1.ext hx)⟩⟩, hx⟩
   rw [hl];exact htk
theorem wpList_append_rats {w0 w : World} {ops : Array Oper} {rest : List Oper} {o : Oper} {a : Act} {Q : Exit -> Act -> World -> Prop} (hgd : o.guard = none) (x y : Operand)
  (ho : o.op = .call { callee := .builtin .append, args := #[x, y], argTypes := #[22, 22] })
  (hx : a.eval x = .slice (some ⟨g, 0, none⟩) 0 0) (hy : a.eval y = .slice A n c)
  (he : Ext w0 w) (hg : w0.heap.size <= g) (hb : Box w g 27 #[]) (hp : Pol w0 A n c qs L) (hn : n <= 10000)
  (hK : ∀ A' c' w', Pol w' A' n c' qs L -> Ext w0 w' -> wpList Tryz.prog ops Q rest (a.put o.dst (.slice A' n c')) w') :
  wpList Tryz.prog ops Q (o :: rest) a w := by
 refine wpList_plain hgd fun K hKK => ?_
 obtain ⟨A', c', w', hr, h2, h3⟩ := run_append_rats o.type he hg hb hp hn;unfold Oper.wp execOp;simp only [ho, resolve, invoke, builtin, Sem.run_bind, Sem.run_pure, Result.andThen_ok, List.map_toArray, List.map_cons, List.map_nil, hx, hy, hr];exact hKK _ _ (hK A' c' w' h2 h3)
end
end
section
open Go.RowKit
attribute [local go_sem ↓] Go.wp_at_zero Go.wp_at_succ
def JRow (w : World) (g : Nat) (zs : List Int) (L : Nat) : Prop := ∃ cs tl : List Value, Box w g 25 (cs ++ tl).toArray /\ ICells w L zs cs /\ NWL tl
section
variable {w w' : World} {z : Int} {zs : List Int} {L M b o g n c k : Nat} {s : Bool} {A : Option Addr}
theorem JRow.ext (h : JRow w g zs L) (e : Ext w w') : JRow w' g zs L := by
 obtain ⟨cs, tl, h1, h2, h3⟩ := h;exact ⟨cs, tl, h1.ext e, h2.ext e, h3⟩
theorem JRow.kc (h : JRow w g zs L) (k : Kc w w') : JRow w' g zs L := by
 obtain ⟨cs, tl, h1, h2, h3⟩ := h;exact ⟨cs, tl, h1.kc k, h2.ni (fun _ _ _ _ _ _ h => h.kc k), h3⟩
theorem JRow.frozen (h : JRow w g zs L) (i : Nat) : w.frozen? ⟨g, i, none⟩ = false := by
 obtain ⟨cs, tl, h1, _⟩ := h;exact h1.frozen i
theorem JRow.lt (h : JRow w g zs L) : g < w.heap.size := by
 obtain ⟨cs, tl, h1, _⟩ := h;exact h1.lt
theorem JRow.le (h : JRow w g zs L) (hl : L <= M) : JRow w g zs M := by
 obtain ⟨cs, tl, h1, h2, h3⟩ := h;exact ⟨cs, tl, h1, h2.le hl, h3⟩
theorem JRow.ints (h : JRow w g zs L) : IntsAt w g 0 zs L := by
 obtain ⟨cs, tl, h1, h2, h3⟩ := h;refine ⟨fun i hi => ?_⟩;obtain ⟨s, A, n, c, k0, k1, k2⟩ := h2.get i hi;have hl := h2.len;rw [Nat.zero_add];refine ⟨s, A, n, c, h1.cell (2 * i) _ ?_, h1.cell (2 * i + 1) _ ?_, k2⟩
 ·simp only [List.getElem?_toArray]; rw [List.getElem?_append_left (by omega)]; exact k0
 ·simp only [List.getElem?_toArray]; rw [List.getElem?_append_left (by omega)]; exact k1
theorem JRow.get (h : JRow w g zs L) (hk : k < zs.length) : ∃ s A n c, w.cell? ⟨g, k * 2, none⟩ = some (.bool s) /\ w.cell? ⟨g, k * 2 + 1, none⟩ = some (.slice A n c) /\ NI w zs[k] L s A n c := by
 obtain ⟨s, A, n, c, h1, h2, h3⟩ := h.ints.at_ k hk;rw [Nat.zero_add, Nat.mul_comm] at h1 h2;exact ⟨s, A, n, c, h1, h2, h3⟩
theorem JRow.far (h : JRow w g zs L) (hb : ∀ T cs, Box w g T cs -> Box w' g T cs) (hn : ∀ z L s A n c, NI w z L s A n c -> NI w' z L s A n c) : JRow w' g zs L := by
 obtain ⟨cs, tl, h1, h2, h3⟩ := h;exact ⟨cs, tl, hb _ _ h1, h2.ni hn, h3⟩
theorem JRow.put (h : JRow w g zs L) (hk : k < zs.length) (hz : NI w z L s A n c) :
  JRow ((w.setCell ⟨g, k * 2, none⟩ (.bool s)).setCell ⟨g, k * 2 + 1, none⟩ (.slice A n c)) g (zs.set k z) L /\
  (∀ z L s' A' n' c', NI w z L s' A' n' c' -> NI ((w.setCell ⟨g, k * 2, none⟩ (.bool s)).setCell ⟨g, k * 2 + 1, none⟩ (.slice A n c)) z L s' A' n' c') /\
  (∀ W, Ext W w -> W.heap.size <= g -> Ext W ((w.setCell ⟨g, k * 2, none⟩ (.bool s)).setCell ⟨g, k * 2 + 1, none⟩ (.slice A n c))) /\
  (∀ g' T' cs', g' ≠ g -> Box w g' T' cs' -> Box ((w.setCell ⟨g, k * 2, none⟩ (.bool s)).setCell ⟨g, k * 2 + 1, none⟩ (.slice A n c)) g' T' cs') := by
 obtain ⟨cs, tl, h1, h2, h3⟩ := h;have hl := h2.len;have F := ((FinRow.refl h1 (h2.nwl.append h3)).step (k * 2) (v := .bool s) (by intro k h; cases h)).step (k * 2 + 1) (v := .slice A n c) (by intro k h; cases h);refine ⟨⟨(cs.set (k * 2) (.bool s)).set (k * 2 + 1) (.slice A n c), tl, ?_, (h2.set hz k hk).ni F.ni, h3⟩, F.ni, F.ext, F.far⟩;have := F.box;rw [List.set_append_left _ _ (by omega), List.set_append_left _ _ (by rw [List.length_set]; omega)] at this;exact this
theorem JRow.pol (h : JRow w g zs L) (hk : k <= zs.length) (hc : k <= c) (hm : c <= maxLen) : IPol w (some ⟨g, 0, none⟩) k c (zs.take k) L :=
 ⟨by rw [List.length_take]; omega, hc, hm, fun _ => ⟨g, 0, rfl, h.ints.take k⟩⟩
theorem IntsAt.list (w : World) (b L : Nat) : ∀ (zs : List Int) (o : Nat), IntsAt w b o zs L -> ∃ cs, ICells w L zs cs /\ ∀ j u, cs[j]? = some u -> w.cell? ⟨b, o + j, none⟩ = some u
 | [], o, _ => ⟨[], .nil, fun j u h => by simp at h⟩
 | z :: zs, o, h => by
  obtain ⟨s, A, n, c, h1, h2, h3⟩ := h.at_ 0 (by simp)
  obtain ⟨cs, k1, k2⟩ := IntsAt.list w b L zs (o + 2) ⟨fun i hi => by
   obtain ⟨s, A, n, c, h1, h2, h3⟩ := h.at_ (i + 1) (by simpa using hi);rw [show o + 2 * (i + 1) = o + 2 + 2 * i by omega] at h1 h2;exact ⟨s, A, n, c, h1, h2, h3⟩⟩
  refine ⟨.bool s :: .slice A n c :: cs, .cons h3 k1, fun j u hj => ?_⟩
  match j, hj with
  | 0, hj => simp at hj; subst hj; exact h1
  | 1, hj => simp at hj; subst hj; exact h2
  | j + 2, hj =>
   rw [show o + (j + 2) = o + 2 + j by omega];exact k2 j u hj
structure IsCopy (w0 w : World) (A : Option Addr) (n c : Nat) (zs : List Int) (L : Nat) : Prop where
 len : zs.length = n
 cap : n <= c
 top : c <= maxLen
 row : zs ≠ [] -> ∃ g, A = some ⟨g, 0, none⟩ /\ w0.heap.size <= g /\ JRow w g zs L
theorem run_append_ints {w0 w : World} (ty : TypeId) (he : Ext w0 w) (hg : w0.heap.size <= g) (hb : Box w g 25 #[]) (hp : IPol w0 A n c zs L) (hn : n <= 10000) :
  ∃ A' c' w', (Builtin.append_ #[46, 46] ty #[.slice (some ⟨g, 0, none⟩) 0 0, .slice A n c]).run Tryz.prog w = .ok (.slice A' n c') w' /\ IsCopy w0 w' A' n c' zs L /\ Ext w0 w' := by
 obtain ⟨i, hi, q1, q2, q3⟩ := info_parts Tryz.infoInt;have hown : w.ownsRow w0.heap.size 25 i.size (.slice (some ⟨g, 0, none⟩) 0 0) 0 [] := ⟨by simp, .inr ⟨g, 0, #[], rfl, hg, hb, Nat.le_refl _, by unfold maxLen; omega, by simp, by simp⟩⟩
 by_cases h0 : zs = []
 ·subst h0
  have hn0 : n = 0 := by rw [<- hp.len]; rfl
  subst hn0;refine ⟨some ⟨g, 0, none⟩, 0, w, ?_, ⟨rfl, Nat.le_refl _, by unfold maxLen; omega, fun h => absurd rfl h⟩, he⟩
  cases A with
  | none => simp [Builtin.append_, run_underlying Tryz.underlying46, sizeOf, typeInfo, hi, Builtin.lenOf, Builtin.firstCells, storeCells]
  | some ad => simp [Builtin.append_, run_underlying Tryz.underlying46, sizeOf, typeInfo, hi, Builtin.lenOf, Builtin.firstCells, loadCells, loadCellsFrom, storeCells]
 ·obtain ⟨b, off, rfl, hint⟩ := hp.at_ h0
  obtain ⟨cs, k1, k2⟩ := IntsAt.list _ _ _ _ _ hint;have hl : cs.length = n * 2 := by rw [k1.len, hp.len]
  have hpos : 0 < n := by rw [<- hp.len]; exact List.length_pos_iff.2 h0
  have hnwb : NWB w (.slice (some ⟨g, 0, none⟩) 0 0) := by
   intro g' hg';simp [Value.ownBlock] at hg';subst hg';exact ⟨#[], _, _, hb, by intro i k h; simp at h⟩
  obtain ⟨v', w', hr, hown', hgr, _, hnw⟩ := run_append_nw (P := Tryz.prog) (ty := ty) (c := c) Tryz.underlying46 hi q1 q3 (by rw [q2]; rfl) (by omega) (by
   intro u hu k e;simp [Value.cells] at hu
   rcases hu with rfl | rfl <;> cases e) hown hnwb (a := ⟨b, off, none⟩) (m := n) (news := cs) (by rw [q2, hl]) (fun j u h => by
    have := he.cellv (k2 j u h)
    by_cases hj : j = 0
    ·subst hj; simpa [Addr.add] using this
    ·simpa [Addr.add, hj] using this) k1.one k1.nwl hpos (by unfold maxLen; omega) (by omega) he.size
  rw [q2] at hown';simp only [Nat.zero_add, List.nil_append] at hown';have hx : Ext w0 w' := Below.grown he hgr he.size (fun k hk => by simp [Value.ownBlock] at hk; omega)
  rcases hown'.2 with ⟨_, h⟩ | ⟨g', cap, cur, rfl, hbg, hg', hnc, hcm, _, htk⟩
  ·omega
  ·refine ⟨_, cap, w', hr, ⟨hp.len, hnc, hcm, fun _ => ⟨g', rfl, hbg, cs, cur.toList.drop (n * 2), ?_, k1.ext hx, ?_⟩⟩, hx⟩
   ·have e : (cs ++ cur.toList.drop (n * 2)).toArray = cur := by
     rw [<- htk, List.take_append_drop]
    rw [e];exact hg'
   ·obtain ⟨cur2, e2, fz2, h4, h5⟩ := hnw g' (by simp [Value.ownBlock])
    rw [hg'] at h4
    injection h4 with h4
    injection h4 with h4
    subst h4;exact (NWL.of h5).drop _
theorem wpList_append_ints {w0 w : World} {ops : Array Oper} {rest : List Oper} {o : Oper} {a : Act} {Q : Exit -> Act -> World -> Prop} (hgd : o.guard = none) (x y : Operand)
  (ho : o.op = .call { callee := .builtin .append, args := #[x, y], argTypes := #[46, 46] })
  (hx : a.eval x = .slice (some ⟨g, 0, none⟩) 0 0) (hy : a.eval y = .slice A n c)
  (he : Ext w0 w) (hg : w0.heap.size <= g) (hb : Box w g 25 #[]) (hp : IPol w0 A n c zs L) (hn : n <= 10000)
  (hK : ∀ A' c' w', IsCopy w0 w' A' n c' zs L -> Ext w0 w' -> wpList Tryz.prog ops Q rest (a.put o.dst (.slice A' n c')) w') :
  wpList Tryz.prog ops Q (o :: rest) a w := by
 refine wpList_plain hgd fun K hKK => ?_
 obtain ⟨A', c', w', hr, h2, h3⟩ := run_append_ints o.type he hg hb hp hn;unfold Oper.wp execOp;simp only [ho, resolve, invoke, builtin, Sem.run_bind, Sem.run_pure, Result.andThen_ok, List.map_toArray, List.map_cons, List.map_nil, hx, hy, hr];exact hKK _ _ (hK A' c' w' h2 h3)
theorem eql_nilI_some (ad : Addr) (n c : Nat) (W : World) : (binOp .eql 46 (.slice (some ad) n c) (.slice none 0 0)).run Tryz.prog W = .ok (.bool false) W := by
 simp only [binOp];simp [run_equal_slice_nil W 46 _ (some ad) n c Tryz.underlying46]
theorem eql_nilI_none (n c : Nat) (W : World) : (binOp .eql 46 (.slice none n c) (.slice none 0 0)).run Tryz.prog W = .ok (.bool true) W := by
 simp only [binOp];simp [run_equal_slice_nil W 46 _ none n c Tryz.underlying46]
set_option maxRecDepth 100000 in
theorem p_cloneI (h : IPol w A n c zs L) (hn : n <= 10000) : Calls Tryz.prog 120 #[.slice A n c] w fun e w' => ∃ A' c', e = .returned (.slice A' n c') /\ IsCopy w w' A' n c' zs L /\ Ext w w' := by
 cases A with
 | none =>
  have h0 : zs = [] := by
   rcases Classical.em (zs = []) with e | e
   ·exact e
   ·obtain ⟨b, off, he, _⟩ := h.at_ e; cases he
  subst h0;have hn0 : n = 0 := by rw [<- h.len]; rfl
  subst hn0;have heq := eql_nilI_none 0 c
  go_enter Tryz.func120, Tryz.ntmps120
  go_wp2
  go_ret
  exact ⟨none, 0, rfl, ⟨rfl, Nat.le_refl _, by unfold maxLen; omega, fun h => absurd rfl h⟩, Ext.refl _⟩
 | some ad =>
  have heq := eql_nilI_some ad n c
  go_enter Tryz.func120, Tryz.ntmps120
  go_wp2_with (at_builtin; refine wpList_append_ints rfl _ _ rfl rfl rfl ((Ext.refl w).alloc _) (Nat.le_refl _) (Box.new w _ _) h hn ?_; intro A' c' w' h1 h2)
  go_ret
  exact ⟨A', c', rfl, h1, h2⟩
end
end
section
open Go.RowKit
attribute [local go_sem] Oper.semAt_some
def RdyI (Bs : Nat) (A : Option Addr) (n c : Nat) (W : World) : Prop := W.cell? ⟨Bs, 0, none⟩ = some (.slice A n c) /\ ∀ i < n, ∃ b off s A' m d, A = some ⟨b, off, none⟩ /\ W.cell? ⟨b, off + i * 2, none⟩ = some (.bool s) /\ W.cell? ⟨b, off + i * 2 + 1, none⟩ = some (.slice A' m d)
def ElI (A : Option Addr) (n : Nat) (k : Nat) (args : Array Value) (W : World) : Prop := ∃ i, i + k + 1 = n /\ ∃ b off s A' m d, A = some ⟨b, off, none⟩ /\ args = #[.int .i64 (i : Int), .agg #[.bool s, .slice A' m d]] /\ W.cell? ⟨b, off + i * 2, none⟩ = some (.bool s) /\ W.cell? ⟨b, off + i * 2 + 1, none⟩ = some (.slice A' m d)
set_option maxRecDepth 100000 in
theorem back_I {l Bs n c : Nat} {A : Option Addr} {J : Nat -> World -> Prop} {W : World} (hn : n <= 1000000) (hJ : ∀ k W, J k W -> RdyI Bs A n c W)
  (hY : ∀ k args W, J k W -> k < n -> ElI A n k args W -> YieldAt Fence.wide 0 Tryz.prog l args W fun e W' => e = .returned (.bool true) /\ J (k + 1) W') (h0 : J 0 W) :
  CallsIn Fence.wide 0 Tryz.prog 114 (#[.func (.yield l) #[] #[]] ++ #[.pointer (some ⟨Bs, 0, none⟩)]) W fun e W' => (∃ v, e = .returned v) /\ J n W' := by
 refine callsIn_of_wp Tryz.func114 rfl trivial ?_ rfl;simp only [Tryz.ntmps114, List.size_toArray, List.length_cons, List.length_nil, Nat.reduceAdd, Nat.reduceSub, Array.replicate_succ, Array.replicate_zero, List.push_toArray, List.append_toArray, List.nil_append, List.cons_append];obtain ⟨hB, _⟩ := hJ 0 W h0
 gi_wp2
 gi_loopw [3] (fun v wr => ∃ k r : Nat, k + r = n /\ v = .int .i64 ((r : Int) - 1) /\ J k wr) (fun v _ => (intOf v + 1).toNat)
 case atStart => exact ⟨0, n, by omega, rfl, h0⟩
 case round =>
  obtain ⟨k, r, hkr, rfl, hJs⟩ := hrel
  rcases Nat.eq_zero_or_pos r with h0 | h0
  ·subst h0
   obtain rfl : k = n := by omega
   gi_wp2
   go_end0
   exact ⟨⟨_, rfl⟩, hJs⟩
  ·obtain ⟨j, rfl⟩ : ∃ j, r = j + 1 := ⟨r - 1, by omega⟩
   have ej : ((j + 1 : Nat) : Int) - 1 = (j : Int) := by omega
   rw [ej];clear ej hB;obtain ⟨hB, hr⟩ := hJ k wr hJs;obtain ⟨b, off, s, A', m, d, rfl, e0, e1⟩ := hr j (by omega);obtain ⟨fn, tmps, assign, body, hy, hR⟩ := hY k #[.int .i64 (j : Int), .agg #[.bool s, .slice A' m d]] wr hJs (by omega) ⟨j, by omega, b, off, s, A', m, d, rfl, rfl, e0, e1⟩;have hI : (j : Int) < (n : Int) := by omega
   gi_wp2
   refine ⟨rfl, hR.mono ?_⟩;rintro e W3 ⟨rfl, hJ3⟩
   gi_wp2
   go_roundw
   case rel => exact ⟨k + 1, j, by omega, by go_num, hJ3⟩
   case measure => first | (simp [intOf]; done) | (simp [intOf]; omega)
def RdyR (Bs : Nat) (A : Option Addr) (n c : Nat) (W : World) : Prop := W.cell? ⟨Bs, 0, none⟩ = some (.slice A n c) /\ ∀ i < n, ∃ b off s A' m d t B' m' d', A = some ⟨b, off, none⟩ /\ W.cell? ⟨b, off + i * 4, none⟩ = some (.bool s) /\ W.cell? ⟨b, off + i * 4 + 1, none⟩ = some (.slice A' m d) /\ W.cell? ⟨b, off + i * 4 + 2, none⟩ = some (.bool t) /\ W.cell? ⟨b, off + i * 4 + 3, none⟩ = some (.slice B' m' d')
def ElR (A : Option Addr) (n : Nat) (k : Nat) (args : Array Value) (W : World) : Prop := ∃ i, i + k + 1 = n /\ ∃ b off s A' m d t B' m' d', A = some ⟨b, off, none⟩ /\ args = #[.int .i64 (i : Int), .agg #[.bool s, .slice A' m d, .bool t, .slice B' m' d']] /\ W.cell? ⟨b, off + i * 4, none⟩ = some (.bool s) /\ W.cell? ⟨b, off + i * 4 + 1, none⟩ = some (.slice A' m d) /\ W.cell? ⟨b, off + i * 4 + 2, none⟩ = some (.bool t) /\ W.cell? ⟨b, off + i * 4 + 3, none⟩ = some (.slice B' m' d')
set_option maxRecDepth 100000 in
theorem back_R {l Bs n c : Nat} {A : Option Addr} {J : Nat -> World -> Prop} {W : World} (hn : n <= 1000000) (hJ : ∀ k W, J k W -> RdyR Bs A n c W)
  (hY : ∀ k args W, J k W -> k < n -> ElR A n k args W -> YieldAt Fence.wide 0 Tryz.prog l args W fun e W' => e = .returned (.bool true) /\ J (k + 1) W') (h0 : J 0 W) :
  CallsIn Fence.wide 0 Tryz.prog 146 (#[.func (.yield l) #[] #[]] ++ #[.pointer (some ⟨Bs, 0, none⟩)]) W fun e W' => (∃ v, e = .returned v) /\ J n W' := by
 refine callsIn_of_wp Tryz.func146 rfl trivial ?_ rfl;simp only [Tryz.ntmps146, List.size_toArray, List.length_cons, List.length_nil, Nat.reduceAdd, Nat.reduceSub, Array.replicate_succ, Array.replicate_zero, List.push_toArray, List.append_toArray, List.nil_append, List.cons_append];obtain ⟨hB, _⟩ := hJ 0 W h0
 gi_wp2
 gi_loopw [3] (fun v wr => ∃ k r : Nat, k + r = n /\ v = .int .i64 ((r : Int) - 1) /\ J k wr) (fun v _ => (intOf v + 1).toNat)
 case atStart => exact ⟨0, n, by omega, rfl, h0⟩
 case round =>
  obtain ⟨k, r, hkr, rfl, hJs⟩ := hrel
  rcases Nat.eq_zero_or_pos r with h0 | h0
  ·subst h0
   obtain rfl : k = n := by omega
   gi_wp2
   go_end0
   exact ⟨⟨_, rfl⟩, hJs⟩
  ·obtain ⟨j, rfl⟩ : ∃ j, r = j + 1 := ⟨r - 1, by omega⟩
   have ej : ((j + 1 : Nat) : Int) - 1 = (j : Int) := by omega
   rw [ej];clear ej hB;obtain ⟨hB, hr⟩ := hJ k wr hJs;obtain ⟨b, off, s, A', m, d, t, B', m', d', rfl, e0, e1, e2, e3⟩ := hr j (by omega);obtain ⟨fn, tmps, assign, body, hy, hR⟩ := hY k #[.int .i64 (j : Int), .agg #[.bool s, .slice A' m d, .bool t, .slice B' m' d']] wr hJs (by omega) ⟨j, by omega, b, off, s, A', m, d, t, B', m', d', rfl, rfl, e0, e1, e2, e3⟩;have hI : (j : Int) < (n : Int) := by omega
   gi_wp2
   refine ⟨rfl, hR.mono ?_⟩;rintro e W3 ⟨rfl, hJ3⟩
   gi_wp2
   go_roundw
   case rel => exact ⟨k + 1, j, by omega, by go_num, hJ3⟩
   case measure => first | (simp [intOf]; done) | (simp [intOf]; omega)
def RdyW (Bs : Nat) (A : Option Addr) (n c : Nat) (W : World) : Prop := W.cell? ⟨Bs, 0, none⟩ = some (.slice A n c) /\ ∀ i < n, ∃ b off, ∃ x : Nat, A = some ⟨b, off, none⟩ /\ W.cell? ⟨b, off + i, none⟩ = some (.int .u32 (x : Int))
def ElW (A : Option Addr) (n : Nat) (k : Nat) (args : Array Value) (W : World) : Prop := ∃ i, i + k + 1 = n /\ ∃ b off, ∃ x : Nat, A = some ⟨b, off, none⟩ /\ args = #[.int .i64 (i : Int), .int .u32 (x : Int)] /\ W.cell? ⟨b, off + i, none⟩ = some (.int .u32 (x : Int))
set_option maxRecDepth 100000 in
theorem back_W {l Bs n c : Nat} {A : Option Addr} {J : Nat -> World -> Prop} {W : World} (hn : n <= 1000000) (hJ : ∀ k W, J k W -> RdyW Bs A n c W)
  (hY : ∀ k args W, J k W -> k < n -> ElW A n k args W -> YieldAt Fence.wide 0 Tryz.prog l args W fun e W' => e = .returned (.bool true) /\ J (k + 1) W') (h0 : J 0 W) :
  CallsIn Fence.wide 0 Tryz.prog 185 (#[.func (.yield l) #[] #[]] ++ #[.pointer (some ⟨Bs, 0, none⟩)]) W fun e W' => (∃ v, e = .returned v) /\ J n W' := by
 refine callsIn_of_wp Tryz.func185 rfl trivial ?_ rfl;simp only [Tryz.ntmps185, List.size_toArray, List.length_cons, List.length_nil, Nat.reduceAdd, Nat.reduceSub, Array.replicate_succ, Array.replicate_zero, List.push_toArray, List.append_toArray, List.nil_append, List.cons_append];obtain ⟨hB, _⟩ := hJ 0 W h0
 gi_wp2
 gi_loopw [3] (fun v wr => ∃ k r : Nat, k + r = n /\ v = .int .i64 ((r : Int) - 1) /\ J k wr) (fun v _ => (intOf v + 1).toNat)
 case atStart => exact ⟨0, n, by omega, rfl, h0⟩
 case round =>
  obtain ⟨k, r, hkr, rfl, hJs⟩ := hrel
  rcases Nat.eq_zero_or_pos r with h0 | h0
  ·subst h0
   obtain rfl : k = n := by omega
   gi_wp2
   go_end0
   exact ⟨⟨_, rfl⟩, hJs⟩
  ·obtain ⟨j, rfl⟩ : ∃ j, r = j + 1 := ⟨r - 1, by omega⟩
   have ej : ((j + 1 : Nat) : Int) - 1 = (j : Int) := by omega
   rw [ej];clear ej hB;obtain ⟨hB, hr⟩ := hJ k wr hJs;obtain ⟨b, off, x, rfl, e0⟩ := hr j (by omega);obtain ⟨fn, tmps, assign, body, hy, hR⟩ := hY k #[.int .i64 (j : Int), .int .u32 (x : Int)] wr hJs (by omega) ⟨j, by omega, b, off, x, rfl, rfl, e0⟩;have hI : (j : Int) < (n : Int) := by omega
   gi_wp2
   refine ⟨rfl, hR.mono ?_⟩;rintro e W3 ⟨rfl, hJ3⟩
   gi_wp2
   go_roundw
   case rel => exact ⟨k + 1, j, by omega, by go_num, hJ3⟩
   case measure => first | (simp [intOf]; done) | (simp [intOf]; omega)
theorem p_backI (A : Option Addr) (n c : Nat) (w : World) : Calls Tryz.prog 67 #[.slice A n c] w fun e w' => e = .returned (.func (.func 114) #[] #[.pointer (some ⟨w.heap.size, 0, none⟩)]) /\ w' = w.alloc (.cells #[.slice A n c] 46) := by
 have hmf : ∀ (fn : Fn) (first cap : Array Value) (w : World), (Instr.makeFunc fn first cap).run Tryz.prog w = .ok (.func fn first cap) w := fun _ _ _ _ => rfl
 go_enter Tryz.func67, Tryz.ntmps67
 go_wp2
 go_ret
 exact ⟨rfl, rfl⟩
theorem p_backR (A : Option Addr) (n c : Nat) (w : World) : Calls Tryz.prog 122 #[.slice A n c] w fun e w' => e = .returned (.func (.func 146) #[] #[.pointer (some ⟨w.heap.size, 0, none⟩)]) /\ w' = w.alloc (.cells #[.slice A n c] 22) := by
 have hmf : ∀ (fn : Fn) (first cap : Array Value) (w : World), (Instr.makeFunc fn first cap).run Tryz.prog w = .ok (.func fn first cap) w := fun _ _ _ _ => rfl
 go_enter Tryz.func122, Tryz.ntmps122
 go_wp2
 go_ret
 exact ⟨rfl, rfl⟩
theorem p_backW (A : Option Addr) (n c : Nat) (w : World) : Calls Tryz.prog 168 #[.slice A n c] w fun e w' => e = .returned (.func (.func 185) #[] #[.pointer (some ⟨w.heap.size, 0, none⟩)]) /\ w' = w.alloc (.cells #[.slice A n c] 23) := by
 have hmf : ∀ (fn : Fn) (first cap : Array Value) (w : World), (Instr.makeFunc fn first cap).run Tryz.prog w = .ok (.func fn first cap) w := fun _ _ _ _ => rfl
 go_enter Tryz.func168, Tryz.ntmps168
 go_wp2
 go_ret
 exact ⟨rfl, rfl⟩
end
section
open Go.RowKit
attribute [local go_sem] Oper.semAt_some
attribute [local go_sem ↓] Go.wp_at_zero Go.wp_at_succ
def OwnArg (w0 w : World) (v : Value) (zs : List Int) (L : Nat) : Prop :=
 (zs = [] /\ v = .slice none 0 0) \/ ∃ g, w0.heap.size <= g /\ v = .slice (some ⟨g, 0, none⟩) zs.length zs.length /\ 0 < zs.length /\ IRow w g zs L
theorem OwnArg.ext {w0 w w' : World} {v : Value} {zs : List Int} {L : Nat} (h : OwnArg w0 w v zs L) (e : Ext w w') : OwnArg w0 w' v zs L := by
 rcases h with h | ⟨g, h1, h2, h3, h4⟩
 ·exact .inl h
 ·exact .inr ⟨g, h1, h2, h3, h4.ext e⟩
theorem OwnArg.base {w0 w1 w : World} {v : Value} {zs : List Int} {L : Nat} (h : OwnArg w1 w v zs L) (e : Ext w0 w1) : OwnArg w0 w v zs L := by
 rcases h with h | ⟨g, h1, h2, h3, h4⟩
 ·exact .inl h
 ·exact .inr ⟨g, Nat.le_trans e.size h1, h2, h3, h4⟩
section
variable {w w' : World} {z y : Int} {zs xs ys : List Int} {L M : Nat} {s t : Bool} {A B : Option Addr} {n c m d : Nat}
theorem p_product_nil (h : IPol w A n c xs L) (h' : IPol w B m d ys M) (h0 : n = 0 \/ m = 0) (hn : n <= 500) (hm : m <= 500) : Calls Tryz.prog 63 #[.slice A n c, .slice B m d] w fun e w' => e = .returned (.slice none 0 0) /\ Ext w w' := by
 by_cases hn0 : n = 0
 ·subst hn0
  go_enter Tryz.func63, Tryz.ntmps63
  go_wp2_with fail
  go_ret
  exact ⟨rfl, Ext.refl _⟩
 ·have hm0 : m = 0 := by omega
  subst hm0;have zb1 : ((n : Int) == 0) = false := beq_eq_false_iff_ne.2 (by omega)
  go_enter Tryz.func63, Tryz.ntmps63
  go_wp2_with fail
  go_ret
  exact ⟨rfl, Ext.refl _⟩
theorem p_productX (h : IPol w A n c xs L) (h' : IPol w B m d ys M) (hL : L <= 20000) (hM : M <= 20000) (h64 : min L M < 64) (hn : n <= 500) (hm : m <= 500) : Calls Tryz.prog 63 #[.slice A n c, .slice B m d] w fun e w' => ∃ v, e = .returned v /\ OwnArg w w' v (prodI xs ys) (L + M + 1) /\ Ext w w' := by
 by_cases h0 : n = 0 \/ m = 0
 ·have e : prodI xs ys = [] := by unfold prodI; rw [if_pos (by rw [h.len, h'.len]; exact h0)]
  rw [e];refine (p_product_nil h h' h0 hn hm).mono ?_;rintro e V ⟨rfl, h2⟩;exact ⟨_, rfl, .inl ⟨rfl, rfl⟩, h2⟩
 ·have e : prodI xs ys = mulI xs ys := by unfold prodI; rw [if_neg (by rw [h.len, h'.len]; exact h0)]
  rw [e];refine (p_productR h h' (by omega) (by omega) hL hM h64 hn hm).mono ?_;rintro e V ⟨g, hg, rfl, hR, hx⟩;exact ⟨_, rfl, .inr ⟨g, hg, rfl, by simp only [mulI, List.length_map, List.length_range]; rw [h.len, h'.len]; omega, hR⟩, hx⟩
theorem p_plusX {w0 : World} {v : Value} (ha : OwnArg w0 w v zs L) (hz : NI w z M t B m d) (hn : zs.length <= 500) (hL : L <= 3000) (hM : M <= 3000) (h0 : Ext w0 w) : Calls Tryz.prog 68 #[v, .agg #[.bool t, .slice B m d]] w (RetPlus (addI zs z) (max L M + 1) w0) := by
 rcases ha with ⟨rfl, rfl⟩ | ⟨g, hg, rfl, hl, hR⟩
 ·refine (p_plus0 hz hM).mono ?_
  rintro e V ⟨g, hg, rfl, hR, hx⟩;exact ⟨g, Nat.le_trans h0.size hg, rfl, hR.le (by omega), h0.trans hx⟩
 ·exact p_plusR hR hz rfl hl hn hL hM h0 hg
end
def hornS (xs ys : List Int) (d : Int) : Nat -> List Int × Int
 | 0 => ([], 1)
 | k + 1 => (trimI (addI (prodI (hornS xs ys d k).1 ys) (xs.getD (xs.length - 1 - k) 0 * (hornS xs ys d k).2)), if 0 < xs.length - 1 - k then (hornS xs ys d k).2 * d else (hornS xs ys d k).2)
structure HornB (xs ys : List Int) (d : Int) (S C : Nat) : Prop where
 sum : ∀ k, k <= xs.length -> ∀ z ∈ (hornS xs ys d k).1, z.natAbs < 4294967296 ^ S
 scale : ∀ k, k <= xs.length -> (hornS xs ys d k).2.natAbs < 4294967296 ^ C
 len : ∀ k, k <= xs.length -> (hornS xs ys d k).1.length <= 400
 nz : ∀ k, k <= xs.length -> (hornS xs ys d k).2 ≠ 0
theorem kc_own {β : Type} {B : Nat} {I : β -> World -> Prop} (h : ∀ s W W', Kc W W' -> (∀ a, a.heap.size <= B -> Ext a W -> Ext a W') -> I s W -> I s W') : OwnFrom B I :=
 fun s W W' row hs hg hr => h s W W' (kc_of hg hr) (fun _ ha he => he.own hg hr ha) hs
structure ComI (w1 : World) (g9 g10 gB : Nat) (A1 : Option Addr) (n1 c1 : Nat) (xs ys : List Int) (dB : Int) (S C : Nat) (k : Nat) (W : World) : Prop where
 ext : Ext w1 W
 bB : Box W gB 46 #[.slice A1 n1 c1]
 sum : ∃ A n c, Box W g9 46 #[.slice A n c] /\ IPol W A n c (hornS xs ys dB k).1 S
 scale : ∃ s A n c, Box W g10 25 #[.bool s, .slice A n c] /\ NI W (hornS xs ys dB k).2 C s A n c
theorem ComI.own {w1 : World} {g9 g10 gB : Nat} {A1 : Option Addr} {n1 c1 : Nat} {xs ys : List Int} {dB : Int} {S C B : Nat} (hB : w1.heap.size <= B) : OwnFrom B (ComI w1 g9 g10 gB A1 n1 c1 xs ys dB S C) :=
 kc_own fun k W W' kc he h => by
  obtain ⟨h1, h2, ⟨A, n, c, h3, h4⟩, ⟨s, A', n', c', h5, h6⟩⟩ := h;exact ⟨he _ hB h1, h2.kc kc, ⟨A, n, c, h3.kc kc, h4.kc kc⟩, ⟨s, A', n', c', h5.kc kc, h6.kc kc⟩⟩
def ComA (xs : List Int) (X : Nat) (T : Array Value) (k : Nat) (a' : Act) (W : World) : Prop :=
 ∃ (i : Nat) (s : Bool) (A : Option Addr) (m d g : Nat) (hi : i < xs.length), i + k + 1 = xs.length /\ a' = { tmps := (((T.setIfInBounds 26 (.int .i64 (i : Int))).setIfInBounds 27 (.agg #[.bool s, .slice A m d])).setIfInBounds 11 (.int .i64 (i : Int))).setIfInBounds 12 (.pointer (some ⟨g, 0, none⟩)), defers := [] } /\ NI W xs[i] X s A m d /\ Box W g 25 #[.bool s, .slice A m d]
theorem ComA.own {xs : List Int} {X B : Nat} {T : Array Value} {k : Nat} {a' : Act} : OwnFrom B (fun (_ : Unit) W => ComA xs X T k a' W) :=
 kc_own fun _ W W' kc _ h => by
  obtain ⟨i, s, A, m, d, g, hi, h1, h2, h3, h4⟩ := h;exact ⟨i, s, A, m, d, g, hi, h1, h2, h3.kc kc, h4.kc kc⟩
theorem NR.kc {w w' : World} {q : Rat} {L : Nat} {s : Bool} {A : Option Addr} {n c : Nat} {t : Bool} {B : Option Addr} {m d : Nat} (h : NR w q L s A n c t B m d) (k : Kc w w') : NR w' q L s A n c t B m d := ⟨h.num.kc k, h.den.kc k⟩
theorem RatsAt.kc {w w' : World} {b o L : Nat} {qs : List Rat} (h : RatsAt w b o qs L) (k : Kc w w') : RatsAt w' b o qs L := ⟨fun i hi => by
 obtain ⟨s, A, n, c, t, B, m, d, h1, h2, h3, h4, h5⟩ := h.at_ i hi;exact ⟨s, A, n, c, t, B, m, d, k.cellv h1, k.cellv h2, k.cellv h3, k.cellv h4, h5.kc k⟩⟩
theorem Pol.kc {w w' : World} {A : Option Addr} {n c L : Nat} {qs : List Rat} (h : Pol w A n c qs L) (k : Kc w w') : Pol w' A n c qs L :=
 ⟨h.len, h.cap, h.top, fun hq => by obtain ⟨b, off, h1, h2⟩ := h.at_ hq; exact ⟨b, off, h1, h2.kc k⟩⟩
theorem Pol.leL {w : World} {A : Option Addr} {n c L M : Nat} {qs : List Rat} (h : Pol w A n c qs L) (hl : L <= M) : Pol w A n c qs M :=
 ⟨h.len, h.cap, h.top, fun hq => by
  obtain ⟨b, off, h1, h2⟩ := h.at_ hq;refine ⟨b, off, h1, ⟨fun i hi => ?_⟩⟩;obtain ⟨s, A, n, c, t, B, m, d, k1, k2, k3, k4, k5⟩ := h2.at_ i hi;exact ⟨s, A, n, c, t, B, m, d, k1, k2, k3, k4, k5.le hl⟩⟩
theorem IPol.rdy {W : World} {g : Nat} {A : Option Addr} {n c L : Nat} {zs : List Int} (h : IPol W A n c zs L) (hB : Box W g 46 #[.slice A n c]) : RdyI g A n c W := by
 refine ⟨hB.cell 0 _ rfl, fun i hi => ?_⟩;have hz : i < zs.length := by rw [h.len]; exact hi
 obtain ⟨b, off, hA, hr⟩ := h.at_ (fun e => by rw [e] at hz; exact absurd hz (Nat.not_lt_zero _));obtain ⟨s, A', m, d, e0, e1, _⟩ := hr.at_ i hz;exact ⟨b, off, s, A', m, d, hA, by rw [Nat.mul_comm]; exact e0, by rw [Nat.mul_comm]; exact e1⟩
theorem ElI.ni {W : World} {A : Option Addr} {n c L k : Nat} {zs : List Int} {args : Array Value} (he : ElI A n k args W) (h : IPol W A n c zs L) :
  ∃ i s A' m d, ∃ hi : i < zs.length, i + k + 1 = n /\ args = #[.int .i64 (i : Int), .agg #[.bool s, .slice A' m d]] /\ NI W zs[i] L s A' m d := by
 obtain ⟨i, hik, b, off, s, A', m, d, hA, rfl, e0, e1⟩ := he;have hz : i < zs.length := by rw [h.len]; omega
 obtain ⟨b2, off2, hA2, hr⟩ := h.at_ (fun e => by rw [e] at hz; exact absurd hz (Nat.not_lt_zero _));obtain ⟨s2, A2, m2, d2, k0, k1, hn⟩ := hr.at_ i hz;rw [hA] at hA2
 injection hA2 with hA2
 injection hA2 with h1 h2
 subst h1;subst h2;rw [Nat.mul_comm] at k0 k1;rw [e0] at k0;rw [e1] at k1
 injection k0 with k0
 injection k0 with k0
 injection k1 with k1
 injection k1 with k2 k3 k4
 subst k0;subst k2;subst k3;subst k4;exact ⟨i, s, A', m, d, hz, hik, rfl, hn⟩
theorem ElI.size {W : World} {A : Option Addr} {n k : Nat} {args : Array Value} (he : ElI A n k args W) : args.size = 2 := by
 obtain ⟨i, hik, b, off, s, A', m, d, hA, rfl, e0, e1⟩ := he
 rfl
section
variable {w w' : World} {z y : Int} {xs ys : List Int} {qs ps : List Rat} {L M : Nat} {s t : Bool} {A B : Option Addr} {n c m d : Nat}
set_option maxRecDepth 100000 in
theorem p_ComposeV {X Y S C : Nat} (h : Pol w A n c qs L) (h' : Pol w B m d ps M) (hL : L <= 500) (hM : M <= 60) (hn : n <= 40) (hm : m <= 40) (hNL : n * L <= 2900) (hCx : Hid (L < 64 \/ (denP qs < 4294967296 ^ 126 /\ ∀ z ∈ numsP qs, z.natAbs < 4294967296 ^ 126))) (hX : SizeP qs X) (hY : SizeP ps Y) (hX1 : X <= 126) (hXC : min X C < 64) (hY1 : Y < 64) (hH : HornB (trimI (numsP qs)) (trimI (numsP ps)) ((denP ps : Nat) : Int) S C) (hS : S <= 1000) (hC : C <= 1000) (hT : Tab w) :
  Calls Tryz.prog 27 #[.slice A n c, .slice B m d] w (RetPol ((hornS (trimI (numsP qs)) (trimI (numsP ps)) ((denP ps : Nat) : Int) (trimI (numsP qs)).length).1.map (fun z => mkQ z (((denP qs : Nat) : Int) * (hornS (trimI (numsP qs)) (trimI (numsP ps)) ((denP ps : Nat) : Int) (trimI (numsP qs)).length).2))) (S + X + C + 1) w) := by
 have HX1 := Lib.hid (fun z hz => hX.num z (trimI_mem hz));have HY1 := Lib.hid (fun z hz => hY.num z (trimI_mem hz));have HX2 := Lib.hid (show (((denP qs : Nat) : Int)).natAbs < 4294967296 ^ X by rw [Int.natAbs_natCast]; exact hX.den);have HY2 := Lib.hid (show (((denP ps : Nat) : Int)).natAbs < 4294967296 ^ Y by rw [Int.natAbs_natCast]; exact hY.den);clear hX hY;have HA := Lib.hid (show ((denP qs : Nat) : Int) ≠ 0 by have := denP_pos qs; omega);have Hlx := Lib.hid (show (trimI (numsP qs)).length <= n by have := trimI_len (numsP qs); rw [numsP_len, h.len] at this; exact this);have Hly := Lib.hid (show (trimI (numsP ps)).length <= m by have := trimI_len (numsP ps); rw [numsP_len, h'.len] at this; exact this);refine callsIn_wide.1 (callsIn_of_wp_marks (n := 0) Tryz.func27 rfl trivial (wpIn_wide.2 ?_) rfl);simp only [Tryz.ntmps27, List.size_toArray, List.length_cons, List.length_nil, Nat.reduceAdd, Nat.reduceSub, Array.replicate_succ, Array.replicate_zero, List.push_toArray, List.append_toArray, List.nil_append, List.cons_append]
 go_wp2_with fail
 refine (p_splitV h hL hn hNL hCx.out hT).mono ?_;rintro e V1 ⟨A1, n1, c1, s1, B1, m1, d1, rfl, hx, hdx, ext⟩;replace hx := hx.tight HX1.out;replace hdx := hdx.tight' HX2.out
 go_upto_region 2 with (fail)
 obtain ⟨V2, hV2, ext2, b6, hz2⟩ := box1 V1 25 #[.bool s1, .slice B1 m1 d1];rw [<- hV2];clear hV2 hz2;replace hx := hx.ext ext2;replace hdx := hdx.ext ext2;replace ext := ext.trans ext2;clear ext2;generalize V1.heap.size = g6 at b6 ⊢
 go_wp2_with fail
 refine (p_split (h'.ext ext) hM hm (hT.ext ext)).mono ?_;rintro e V1 ⟨A2, n2, c2, s2, B2, m2, d2, rfl, hy, hdy, ext3⟩;replace hy := hy.tight HY1.out;replace hdy := hdy.tight' HY2.out;replace hx := hx.ext ext3;replace hdx := hdx.ext ext3;replace b6 := b6.ext ext3;replace ext := ext.trans ext3;clear ext3
 go_upto_region 3 with (fail)
 obtain ⟨V3, hV3, ext2, b7, b8, hz2⟩ := box2 V1 46 25 #[.slice A2 n2 c2] #[.bool s2, .slice B2 m2 d2];rw [<- hV3];clear hV3 hz2;replace hx := hx.ext ext2;replace hdx := hdx.ext ext2;replace hy := hy.ext ext2;replace hdy := hdy.ext ext2;replace b6 := b6.ext ext2;replace ext := ext.trans ext2;clear ext2;generalize V1.heap.size = g7 at b7 b8 ⊢;generalize hxs : trimI (numsP qs) = xs at *;generalize hys : trimI (numsP ps) = ys at *;generalize hdB : ((denP ps : Nat) : Int) = dB at *;generalize hdA : ((denP qs : Nat) : Int) = dA at *;have HXS := Lib.hid hxs;have HYS := Lib.hid hys;have HDB := Lib.hid hdB;have HDA := Lib.hid hdA;clear hxs hys hdB hdA;have hn1 : n1 <= 40 := by have := hx.len; have := Hlx.out; omega
 have hn2 : n2 <= 40 := by have := hy.len; have := Hly.out; omega
 go_upto_region 4 with (fail)
 obtain ⟨V4, hV4, ext4, b9, hz4⟩ := box1 V3 46 #[.slice none 0 0];rw [<- hV4];clear hV4 hz4;obtain ⟨g9, hg9⟩ : ∃ g, V3.heap.size = g := ⟨_, rfl⟩;rw [hg9] at b9
 try rw [hg9]
 go_wp2_with fail
 refine (p_FromInt 1 (by omega) (by omega)).mono ?_;rintro e V5 ⟨s3, A3, n3, c3, rfl, hsc, ext5⟩;replace b9 := b9.ext ext5;have hb9lt := b9.lt;have extL := ext4.trans ext5;clear ext4 ext5
 go_upto_region 5 with (fail)
 obtain ⟨V6, hV6, ext6, b10, hz6⟩ := box1 V5 25 #[.bool s3, .slice A3 n3 c3];rw [<- hV6];clear hV6 hz6;replace b9 := b9.ext ext6;replace hsc := hsc.ext ext6;obtain ⟨g10, hg10⟩ : ∃ g, V5.heap.size = g := ⟨_, rfl⟩;have hg10' : V3.heap.size <= g10 := by rw [<- hg10]; exact extL.size
 have hne : g9 < g10 := by
  have h9 := b9.lt;rw [<- hg10];have h5 := hb9lt;exact h5
 rw [hg10] at b10
 try rw [hg10]
 replace extL := extL.trans ext6;clear ext6;have hb10lt := b10.lt
 go_wp2_with fail
 refine (p_backI A1 n1 c1 _).mono ?_;rintro e V ⟨rfl, rfl⟩;obtain ⟨V7, hV7, ext7, bB, hz7⟩ := box1 V6 46 #[.slice A1 n1 c1];rw [<- hV7];obtain ⟨gB, hgB⟩ : ∃ g, V6.heap.size = g := ⟨_, rfl⟩;rw [hgB] at bB hb10lt
 try rw [hgB]
 replace b9 := b9.ext ext7;replace b10 := b10.ext ext7;replace hsc := hsc.ext ext7;replace extL := extL.trans ext7;clear hV7 hz7
 go_wp2_with fail
 have hBz := extL.size;refine wp_back (N := n1) (gf := 114) (lb := #[.pointer (some ⟨gB, 0, none⟩)]) rfl (enters_of Tryz.func114 (by kernel_rfl) rfl) (Rdy := RdyI gB A1 n1 c1) (El := ElI A1 n1) (fun l J W hJ hY h0 => back_I (by omega) hJ hY h0) (ComI V3 g9 g10 gB A1 n1 c1 xs ys dB S C) (fun T k _ => ComA xs X T k) (ComI.own hBz) (fun _ _ _ => ComA.own) (fun k W hI => (hx.ext hI.ext).rdy hI.bB) (fun k args W he => he.size) ⟨extL, bB, ⟨none, 0, 0, b9, IPol.none _ _⟩, ⟨s3, A3, n3, c3, b10, hsc.tight' (hH.scale 0 (Nat.zero_le _))⟩⟩ ?assign ?body ?done
 case assign =>
  intro l k args W hI hk he;obtain ⟨i, s, A, m, d, hi, hik, rfl, hc⟩ := he.ni (hx.ext hI.ext)
  gi_wp2
  have ha := (Ext.refl W).alloc (.cells #[.bool s, .slice A m d] 25);exact ⟨ha.keeps.from _, OwnFrom.alloc (ComI.own hBz) _ hI, ⟨i, s, A, m, d, W.heap.size, hi, by rw [hx.len]; omega, rfl, hc.ext ha, Box.new W _ _⟩⟩
 case body =>
  rintro l k args a' W hk hI ⟨i, s, A, m, d, g12, hi, hik, rfl, hc, b12⟩;simp only [List.setIfInBounds_toArray, List.set_cons_succ, List.set_cons_zero];have hext := hI.ext;have hbB := hI.bB;obtain ⟨As, ns, cs, b9, hsum⟩ := hI.sum;obtain ⟨ss, Ac, nc, cc, b10, hsc⟩ := hI.scale;have b7 := b7.ext hext;have b8 := b8.ext hext;have hy := hy.ext hext;have hdy := hdy.ext hext;have hns : ns <= 400 := by have h1 := hH.len k (by omega); have h2 := hsum.len; omega
  have HPL := Lib.hid (show (prodI (hornS xs ys dB k).1 ys).length <= 500 by have h1 := hH.len k (by omega); have h2 := prodI_len (hornS xs ys dB k).1 ys; have h3 := hy.len; omega);have hki : xs.length - 1 - k = i := by omega
  have HV := Lib.hid (show trimI (addI (prodI (hornS xs ys dB k).1 ys) (xs[i] * (hornS xs ys dB k).2)) = (hornS xs ys dB (k + 1)).1 by simp [hornS, hki, hi]);have HB := Lib.hid (hH.sum (k + 1) (by omega));have HC := Lib.hid (hH.scale (k + 1) (by omega));have HZ := Lib.hid (show (hornS xs ys dB (k + 1)).2 = if 0 < i then (hornS xs ys dB k).2 * dB else (hornS xs ys dB k).2 by simp [hornS, hki]);generalize (hornS xs ys dB k).1 = zs at *;generalize (hornS xs ys dB k).2 = sc at *;generalize xs[i] = ci at *;clear hI
  gi_wp2_with fail
  refine wpL.startIn 7 (by kernel_rfl) (by kernel_rfl) (fun ⟨_, _, h⟩ => h) (fun _ _ _ _ _ => ⟨fun h => h, fun h => h⟩) (fun hQ ES => ?_);refine wpL.tB [2,6,7] 0 28 ?v_0 hQ ?y_0 ES ?_
  case y_0 => intro w' hSw;have j0 := (b12.ext hSw).c2;have k0 := (b10.ext hSw).c2;have l0 := (b9.ext hSw).cell 0 _ rfl;have m0 := (b7.ext hSw).cell 0 _ rfl;go_simp;try rfl
  try simp only [zP]
  refine wpL.tB [2,6,7] 1 29 ?v_1 hQ ?y_1 ES ?_
  case y_1 => intro w' hSw;have j0 := (b12.ext hSw).c2;have k0 := (b10.ext hSw).c2;have l0 := (b9.ext hSw).cell 0 _ rfl;have m0 := (b7.ext hSw).cell 0 _ rfl;go_simp;try rfl
  try simp only [zP]
  refine wpL.tB [5,6,7] 3 31 ?v_2 hQ ?y_2 ES ?_
  case y_2 => intro w' hSw;have j0 := (b12.ext hSw).c2;have k0 := (b10.ext hSw).c2;have l0 := (b9.ext hSw).cell 0 _ rfl;have m0 := (b7.ext hSw).cell 0 _ rfl;go_simp;try rfl
  try simp only [zP]
  refine wpL.tB [5,6,7] 4 32 ?v_3 hQ ?y_3 ES ?_
  case y_3 => intro w' hSw;have j0 := (b12.ext hSw).c2;have k0 := (b10.ext hSw).c2;have l0 := (b9.ext hSw).cell 0 _ rfl;have m0 := (b7.ext hSw).cell 0 _ rfl;go_simp;try rfl
  try simp only [zP]
  refine wpL.cl (i := 2) rfl (fun K hK => ?_);go_simp
  (go_at_call 63; refine (p_productX (hsum.ext ES) (hy.ext ES) (by omega) (by omega) (by omega) (by omega) (by omega)).mono ?_; rintro e wa ⟨v2, rfl, h2, hx0⟩; have E2 := Ext.trans ES hx0)
  refine hK.out _ _ E2 ?_;clear hK K
  try simp only [zP]
  refine wpL.cl (i := 5) rfl (fun K hK => ?_);go_simp
  (go_at_call 64; refine (p_Mul (hc.ext E2) (hsc.ext E2) (by omega) (by omega) (by omega)).mono ?_; rintro e wb ⟨s5, A5, n5, c5, rfl, h5, hx1⟩; have E5 := Ext.trans E2 hx1)
  refine hK.out _ _ E5 ?_;clear hK K
  try simp only [zP]
  refine wpL.cl (i := 6) rfl (fun K hK => ?_);go_simp
  (go_at_call 68; refine (p_plusX ((h2.ext hx1).base ES) h5 HPL.out (by omega) (by omega) E5).mono ?_; rintro e wc ⟨g6, hg6, rfl, hR6, E6⟩)
  refine hK.out _ _ E6 ?_;clear hK K
  try simp only [zP]
  have z0 := (b9.ext E6).cell 0 _ rfl;have f0 := (b9.ext E6).frozen 0;refine wpL.tl (i := 7) rfl (fun K hK => ?_);go_simp;refine hK.out _ _ ?_;clear hK K
  try simp only [zP]
  refine wpL.done (by kernel_rfl) ?_ _;clear hQ;have F := (FinRow.refl (l := [.slice As ns cs]) (b9.ext E6) (by intro u hu k e; simp at hu; subst hu; cases e)).step 0 (v := .slice (some ⟨g6, 0, none⟩) (trimI (addI (prodI zs ys) (ci * sc))).length (addI (prodI zs ys) (ci * sc)).length) (by intro k h; cases h);have hg69 : g6 ≠ g9 := by have := b9.lt; omega
  have hg610 : g6 ≠ g10 := by have := b10.lt; omega
  have HT := Lib.hid (show (addI (prodI zs ys) (ci * sc)).length <= maxLen by rw [addI_len]; have := HPL.out; unfold maxLen; omega);obtain ⟨cs6, hc1, hc2⟩ := hR6;refine at_exit (fun V => KeepsOthers W V /\ Ext V3 V /\ Box V gB 46 #[.slice A1 n1 c1] /\ Box V g9 46 #[.slice (some ⟨g6, 0, none⟩) (trimI (addI (prodI zs ys) (ci * sc))).length (addI (prodI zs ys) (ci * sc)).length] /\ IRow V g6 (addI (prodI zs ys) (ci * sc)) (max (S + Y + 1) (X + C) + 1) /\ Box V g10 25 #[.bool ss, .slice Ac nc cc] /\ NI V sc C ss Ac nc cc) ⟨E6.keeps.trans (KeepsOthers.setCell _ _ _), F.ext _ (hext.trans E6) (by omega), F.far _ _ _ (by omega) (hbB.ext E6), F.box, ⟨cs6, F.far _ _ _ hg69 hc1, hc2.ni F.ni⟩, F.far _ _ _ (by omega) (b10.ext E6), F.ni _ _ _ _ _ _ (hsc.ext E6)⟩ ?_;clear F hc1 hc2 z0 f0 b9 b10 hsc hbB hext b7 b8 hdy;rintro V ⟨hko, hext, hbB, b9, hR6, b10, hsc⟩;have b8 := b8.ext hext;have hdy := hdy.ext hext
  by_cases hi0 : 0 < i
  ·have hi1 : (0 : Int) < (i : Int) := by omega
   have HZ2 := Lib.hid (show sc * dB = (hornS xs ys dB (k + 1)).2 by rw [HZ.out, if_pos hi0]);have x0 := b10.cell 0 _ rfl;have x1 := b10.cell 1 _ rfl;have y0 := b8.cell 0 _ rfl;have y1 := b8.cell 1 _ rfl
   gi_wp2_with fail
   refine ⟨trivial, rfl, (CallsIn.inRound _ (callsIn_wide.2 (p_Mul hsc hdy (by omega) (by omega) (by omega)))).mono ?_⟩;rintro e V9 ⟨s7, A7, n7, c7, rfl, h7, hx7⟩;clear x0 x1 y0 y1;have z0 := (b10.ext hx7).cell 0 _ rfl;have z1 := (b10.ext hx7).cell 1 _ rfl;have f0 := (b10.ext hx7).frozen 0;have f1 := (b10.ext hx7).frozen 1
   gi_wp2_with fail
   obtain ⟨q1, q2, q3, q4⟩ := fin_dual (s := s7) (A := A7) (n := n7) (c := c7) (b10.ext hx7);unfold set2 at q1 q2 q3 q4;obtain ⟨cs6, hc1, hc2⟩ := hR6;have hR7 := IRow.trim ⟨cs6, q4 _ _ _ hg610 (hc1.ext hx7), (hc2.ext hx7).ni q2⟩ HT.out;rw [HV.out] at hR7 b9;rw [HZ2.out] at h7;exact ⟨((hko.trans hx7.keeps).trans ((KeepsOthers.setCell _ _ _).trans (KeepsOthers.setCell _ _ _))).from _, q3 _ (hext.trans hx7) hg10', q4 _ _ _ (by omega) (hbB.ext hx7), ⟨_, _, _, q4 _ _ _ (by omega) (b9.ext hx7), hR7.tight HB.out⟩, ⟨s7, A7, n7, c7, q1, (q2 _ _ _ _ _ _ h7).tight' HC.out⟩⟩
  ·have hi1 : (i : Int) <= 0 := by omega
   have HZ2 := Lib.hid (show sc = (hornS xs ys dB (k + 1)).2 by rw [HZ.out, if_neg hi0])
   gi_wp2_with fail
   rw [HZ2.out] at hsc;have hR7 := hR6.trim HT.out;rw [HV.out] at hR7 b9;exact ⟨hko.from _, hext, hbB, ⟨_, _, _, b9, hR7.tight HB.out⟩, ⟨ss, Ac, nc, cc, b10, hsc⟩⟩
 case done =>
  rintro D W hD hI hd;have hext := hI.ext;obtain ⟨As, ns, cs, b9, hsum⟩ := hI.sum;obtain ⟨ss, Ac, nc, cc, b10, hsc⟩ := hI.scale;have b6 := b6.ext hext;have hdx := hdx.ext hext;have hlx : xs.length = n1 := hx.len;have hns : ns <= 400 := by have h1 := hH.len n1 (by omega); have h2 := hsum.len; omega
  have HD := Lib.hid (show dA * (hornS xs ys dB n1).2 ≠ 0 from Int.mul_ne_zero HA.out (hH.nz n1 (by omega)));have HE := Lib.hid (show (hornS (trimI (numsP qs)) (trimI (numsP ps)) ((denP ps : Nat) : Int) (trimI (numsP qs)).length).1.map (fun z => mkQ z (((denP qs : Nat) : Int) * (hornS (trimI (numsP qs)) (trimI (numsP ps)) ((denP ps : Nat) : Int) (trimI (numsP qs)).length).2)) = (hornS xs ys dB n1).1.map (fun z => mkQ z (dA * (hornS xs ys dB n1).2)) by rw [HXS.out, HYS.out, HDB.out, HDA.out, hlx]);generalize (hornS xs ys dB n1).1 = zs at *;generalize (hornS xs ys dB n1).2 = sc at *;clear hI
  go_wp2_with fail
  refine wp_mono ?_ calm_le;have ES0 := Ext.refl W;refine wp_region_held_drew (S := Ext W) (by kernel_rfl) ES0.drew (fun ES => ?_);clear ES0;refine Late.s0 ES (fun hAl hQ => ?_);refine Late.t 0 40 ?v_4 hQ ?y_4 ?_
  case y_4 => intro w' hSw;have k00 := (b9.ext hSw).cell 0 _ rfl;have k10 := (b10.ext hSw).c2;have k20 := (b6.ext hSw).c2;go_simp;try rfl
  try simp only [zP]
  refine Late.t 1 41 ?v_5 hQ ?y_5 ?_
  case y_5 => intro w' hSw;have k00 := (b9.ext hSw).cell 0 _ rfl;have k10 := (b10.ext hSw).c2;have k20 := (b6.ext hSw).c2;go_simp;try rfl
  try simp only [zP]
  refine Late.t 2 42 ?v_6 hQ ?y_6 ?_
  case y_6 => intro w' hSw;have k00 := (b9.ext hSw).cell 0 _ rfl;have k10 := (b10.ext hSw).c2;have k20 := (b6.ext hSw).c2;go_simp;try rfl
  try simp only [zP]
  refine Late.cl (i := 3) rfl hAl hQ (fun w3 e3 E3 K hK => ?_);go_simp
  (go_at_call 64; refine (p_Mul (hdx.ext E3) (hsc.ext E3) (by omega) (by omega) (by omega)).mono ?_; rintro e wk2 ⟨s8, A8, n8, c8, rfl, h8, hx3⟩)
  refine hK.out _ _ hx3 ?_;clear hK K
  try simp only [zP]
  refine Late.cl (i := 4) rfl hAl hQ (fun w4 e4 E4 K hK => ?_);go_simp
  (go_at_call 62; refine (p_join (hsum.ext E4) (h8.ext e4) HD.out (by omega) (by omega) (by omega) (hT.ext (ext.trans (hext.trans E4)))).mono ?_; rintro e wk3 ⟨A9, n9, c9, rfl, h9, hx4⟩)
  refine hK.out _ _ hx4 ?_;clear hK K
  try simp only [zP]
  refine Late.t 5 4 ?v_7 hQ ?y_7 ?_
  case y_7 => intro w' hSw;go_simp;try rfl
  try simp only [zP]
  refine Late.d0 (fun wz ez Ez => ?_);clear hAl hQ ES;refine calm_normal ?_
  go_wp2_with fail
  have EW := hext.trans (Ez);have hd2 := Ez.keeps.same D _ hd rfl;refine ⟨by simp, .inl ⟨_, _, rfl, run_takeDeferred hd2, ?_⟩⟩;have hkc := Kc.putObj (w := wz) (.deferred none) hd2 rfl;refine ⟨_, results_tmp rfl _ _ _, A9, n9, c9, rfl, ?_, ?_⟩
  ·rw [HE.out]
   exact ((h9.ext ez).kc hkc).leL (by omega)
  ·exact (ext.trans EW).own (B := w.heap.size) (grownBy_putObj' _ _ _) (fun r e => by cases e; exact ⟨Nat.le_trans (ext.trans extL).size hD, _, hd2, rfl⟩) (Nat.le_refl _)
theorem p_ComposeP {X Y S C : Nat} (h : Pol w A n c qs L) (h' : Pol w B m d ps M) (hL : L <= 60) (hM : M <= 60) (hn : n <= 40) (hm : m <= 40) (hX : SizeP qs X) (hY : SizeP ps Y) (hX1 : X < 64) (hY1 : Y < 64) (hH : HornB (trimI (numsP qs)) (trimI (numsP ps)) ((denP ps : Nat) : Int) S C) (hS : S <= 1000) (hC : C <= 1000) (hT : Tab w) :
  Calls Tryz.prog 27 #[.slice A n c, .slice B m d] w (RetPol ((hornS (trimI (numsP qs)) (trimI (numsP ps)) ((denP ps : Nat) : Int) (trimI (numsP qs)).length).1.map (fun z => mkQ z (((denP qs : Nat) : Int) * (hornS (trimI (numsP qs)) (trimI (numsP ps)) ((denP ps : Nat) : Int) (trimI (numsP qs)).length).2))) (S + X + C + 1) w) :=
 p_ComposeV h h' (by omega) hM hn hm (Nat.le_trans (Nat.mul_le_mul hn hL) (by decide)) (Lib.hid (.inl (by omega))) hX hY (by omega) (by omega) hY1 hH hS hC hT
end
end
end Go.Proofs.YtpeddoaknfjbbaaGreatDoor
