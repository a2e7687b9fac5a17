/- For every two lists of numbers the law PolynomialDerivative returns true: Derivative returns the specified derivative and follows the product rule, the arguments keep their values, and the examples of the chapter hold. Condition: the table math/bits.deBruijn64tab holds what its initialiser lays (tied by the given card). -/
import Derived.Test.YtpeddoaknfjbbaaGreatDoorM0
import Derived.Test.YtpeddoaknfjbbaaGreatDoorM1
import Derived.Test.YtpeddoaknfjbbaaGreatDoorM2
import Derived.Test.YtpeddoaknfjbbaaGreatDoorM3
import Derived.Test.YtpeddoaknfjbbaaGreatDoorM4
import Derived.Test.YtpeddoaknfjbbaaGreatDoorM5
import Derived.Test.YtpeddoaknfjbbaaGreatDoorM6
import Derived.Test.YtpeddoaknfjbbaaGreatDoorM7
import Derived.Test.YtpeddoaknfjbbaaGreatDoorM8
import Derived.Test.YtpeddoaknfjbbaaGreatDoorM9
import Derived.Test.YtpeddoaknfjbbaaGreatDoorM10
import Derived.Test.YtpeddoaknfjbbaaGreatDoorM11
import Derived.Test.YtpeddoaknfjbbaaGreatDoorM12
import Derived.Test.YtpeddoaknfjbbaaGreatDoorM13
set_option linter.unusedSimpArgs false
set_option linter.unusedVariables false
set_option maxHeartbeats 64000000
namespace Go.Proofs.YtpeddoaknfjbbaaGreatDoor
section
open Go.RowKit
attribute [local go_sem ↓] Go.wp_at_zero Go.wp_at_succ
section
variable {w w' : World} {q x : Rat} {L M : Nat} {s t : Bool} {A B : Option Addr} {n c m d : Nat} {sx tx : Bool} {Ax Bx : Option Addr} {nx cx mx dx : Nat} {qs ps : List Rat}
set_option maxRecDepth 100000 in
theorem q_DerP (h : Pol w A n c qs L) (hL : L <= 400) (hn : n <= 1000) : Calls Tryz.prog 36 #[.slice A n c] w (RetPol (trimP (derP qs)) (L + 2) w) := by
 have Hlen := Lib.hid h.len;have Hd := Lib.hid (show (derP qs).length = n - 1 by rw [derP_len, h.len])
 go_enter Tryz.func36, Tryz.ntmps36
 go_wp2_with fail
 go_loopw [3, 4] (fun v i wr => ∃ k : Nat, 1 <= k /\ (k = 1 \/ k <= n) /\ i = .int .i64 (k : Int) /\ Ext w wr /\ Row4 wr w.heap.size v ((derP qs).take (k - 1)) (L + 2)) (fun _ i _ => n - (intOf i).toNat)
 case atStart => exact ⟨1, Nat.le_refl _, .inl rfl, rfl, Ext.refl _, Row4.nil _ _ _⟩
 case round =>
  obtain ⟨k, hk1, hk, rfl, ext, hrow⟩ := hrel
  by_cases hlt : k < n
  ·have hj : k < qs.length := by rw [Hlen.out]; exact hlt
   have hI : (k : Int) < (n : Int) := by omega
   have HT := Lib.hid (derP_at qs k hk1 hj);have hlen : ((derP qs).take (k - 1)).length <= 1000 := by rw [List.length_take]; omega
   obtain ⟨b, off, rfl, hr⟩ := h.at_ (fun e => by rw [e] at hj; exact absurd hj (Nat.not_lt_zero _));obtain ⟨sx, Ax, nx, cx, tx, Bx, mx, dx, e0, e1, e2, e3, hx⟩ := hr.at_ k hj;replace e0 := ext.cellv e0;replace e1 := ext.cellv e1;replace e2 := ext.cellv e2;replace e3 := ext.cellv e3;have e0' : wr.cell? ⟨b, off + k * 4, none⟩ = some (.bool sx) := by rw [Nat.mul_comm]; exact e0
   have e1' : wr.cell? ⟨b, off + k * 4 + 1, none⟩ = some (.slice Ax nx cx) := by rw [Nat.mul_comm]; exact e1
   have e2' : wr.cell? ⟨b, off + k * 4 + 2, none⟩ = some (.bool tx) := by rw [Nat.mul_comm]; exact e2
   have e3' : wr.cell? ⟨b, off + k * 4 + 3, none⟩ = some (.slice Bx mx dx) := by rw [Nat.mul_comm]; exact e3
   clear e0 e1 e2 e3
   go_upto_region 5 with (fail)
   refine wpL.st 9 (fun hQ ES => ?_);refine wpL.tkB [9] (i := 0) (d := some 11) (v := ?v_0) rfl rfl hQ (Or.inl ⟨by rfl, ?y_0⟩) ES ?_
   case y_0 => intro w' hSw;have j0 := (hSw.cellv e0');have j1 := (hSw.cellv e1');have j2 := (hSw.cellv e2');have j3 := (hSw.cellv e3');go_simp;try with_reducible rfl
   try simp only [zP]
   refine wpL.tkB [3, 4, 7, 8, 9] (i := 1) (d := some 12) (v := ?v_1) rfl rfl hQ (Or.inl ⟨by rfl, ?y_1⟩) ES ?_
   case y_1 => intro w' hSw;have j0 := (hSw.cellv e0');have j1 := (hSw.cellv e1');have j2 := (hSw.cellv e2');have j3 := (hSw.cellv e3');go_simp;try with_reducible rfl
   try simp only [zP]
   refine wpL.tkB [3, 4, 7, 8, 9] (i := 2) (d := some 13) (v := ?v_2) rfl rfl hQ (Or.inl ⟨by rfl, ?y_2⟩) ES ?_
   case y_2 => intro w' hSw;have j0 := (hSw.cellv e0');have j1 := (hSw.cellv e1');have j2 := (hSw.cellv e2');have j3 := (hSw.cellv e3');go_simp;try with_reducible rfl
   try simp only [zP]
   refine wpL.tkB [4, 7, 8, 9] (i := 3) (d := some 14) (v := ?v_3) rfl rfl hQ (Or.inl ⟨by rfl, ?y_3⟩) ES ?_
   case y_3 => intro w' hSw;have j0 := (hSw.cellv e0');have j1 := (hSw.cellv e1');have j2 := (hSw.cellv e2');have j3 := (hSw.cellv e3');go_simp;try with_reducible rfl
   try simp only [zP]
   refine wpL.tkB [7, 8, 9] (i := 4) (d := some 15) (v := ?v_4) rfl rfl hQ (Or.inl ⟨by rfl, ?y_4⟩) ES ?_
   case y_4 => intro w' hSw;have j0 := (hSw.cellv e0');have j1 := (hSw.cellv e1');have j2 := (hSw.cellv e2');have j3 := (hSw.cellv e3');go_simp;try with_reducible rfl
   try simp only [zP]
   refine wpL.tkB [6, 7, 8, 9] (i := 5) (d := some 16) (v := ?v_5) rfl rfl hQ (Or.inl ⟨by rfl, ?y_5⟩) ES ?_
   case y_5 => intro w' hSw;have j0 := (hSw.cellv e0');have j1 := (hSw.cellv e1');have j2 := (hSw.cellv e2');have j3 := (hSw.cellv e3');go_simp;try with_reducible rfl
   try simp only [zP]
   refine wpL.cl (i := 6) rfl (fun K hK => ?_);go_simp
   (go_at_call 57; refine (q_FromIntR (k : Int) (by omega) (by omega)).mono ?_; rintro e wj ⟨s6, A6, n6, c6, t6, B6, m6, d6, rfl, h6, hx6⟩; have E6 := Ext.trans ES hx6)
   refine hK.out _ _ E6 ?_;clear hK K
   try simp only [zP]
   refine wpL.cl (i := 7) rfl (fun K hK => ?_);go_simp
   (go_at_call 60; refine (q_MulR (hx.ext (ext.trans E6)) h6 (by omega) (by omega)).mono ?_; rintro e wk ⟨s7, A7, n7, c7, t7, B7, m7, d7, rfl, h7, hx7⟩; have E9 := Ext.trans E6 hx7)
   refine hK.out _ _ E9 ?_;clear hK K
   try simp only [zP]
   refine wpL.cl (i := 8) rfl (fun K hK => ?_);have ha7 := (Ext.refl wk).alloc (.cells #[.bool s7, .slice A7 n7 c7, .bool t7, .slice B7 m7 d7] 27);have b7 := Box.new wk 27 #[.bool s7, .slice A7 n7 c7, .bool t7, .slice B7 m7 d7];go_simp;refine hK.out _ _ (E9.trans ha7) ?_;clear hK K
   try simp only [zP]
   replace h7 := h7.ext ha7;have E10 := E9.trans ha7;clear ha7 E9 E6 hx6 hx7 h6;have hrow' := hrow.ext E10;refine at_wpLP (fun V => Ext wr V /\ Row4 V w.heap.size u3 ((derP qs).take (k - 1)) (L + 2) /\ NR V (qs[k] * ((k : Int) : Rat)) (L + 2) s7 A7 n7 c7 t7 B7 m7 d7 /\ Box V wk.heap.size 27 #[.bool s7, .slice A7 n7 c7, .bool t7, .slice B7 m7 d7]) ⟨E10, hrow', h7, b7⟩ ?_;clear E10 hrow' h7 b7;generalize wk.heap.size = g7;rintro V ⟨E10, hrow', h7, b7⟩;refine wpL.tl (i := 9) rfl (fun K hK => ?_);refine step_append_rat (by rfl) _ _ (by rfl) (by rfl) (by rfl) hrow' h7 b7 hlen (ext.trans E10).size ?_;intro v6 W6 hrow6 hgr hob;refine hK.out _ _ ?_;clear hK K
   try simp only [zP]
   refine wpL.tl (i := 10) rfl (fun K hK => ?_);go_simp;refine hK.out _ _ ?_;clear hK K
   try simp only [zP]
   refine wpL.done (by kernel_rfl) ?_ _;clear hQ
   go_wp2_with fail
   go_roundw
   case rel => exact ⟨k + 1, by omega, .inr (by omega), by go_num, Below.grown (ext.trans E10) hgr (ext.trans E10).size (fun k hk => (hrow'.block k hk).1), by rw [HT.out]; exact hrow6⟩
   case measure => simp [intOf]; omega
  ·rw [List.take_of_length_le (by rw [Hd.out]; omega)] at hrow
   have hI : (n : Int) <= (k : Int) := by omega
   have hld := Hd.out;obtain ⟨A7, n7, c7, rfl, hp⟩ := hrow.pol;have hl7 := hp.len;clear hrow
   go_wp2_with fail
   refine (q_TrimP hp (by omega) (by omega)).mono ?_;rintro e V ⟨A8, n8, c8, rfl, h8, hxt⟩
   go_wp2_with fail
   go_ret
   exact ⟨A8, n8, c8, rfl, h8, ext.trans hxt⟩
end
section
variable {w w' : World} {A B D : Option Addr} {n c m d l e : Nat} {rs ss ts : List RawR}
theorem few2_P {g : Nat} {T : TypeId} (hb : Box w g T #[.slice A n c, .slice B m d]) (h0 : RawP w A n c rs) (h1 : RawP w B m d ss) : Calls Tryz.prog 10 #[.slice (some ⟨g, 0, none⟩) 2 2] w fun e w' => e = .returned (.bool (smallB rs 8 && smallB ss 8)) /\ Ext w w' := by
 go_enter Tryz.func10, Tryz.ntmps10
 go_wp2_with fail
 go_loopw [7] (fun i wr => ∃ k : Nat, k <= 2 /\ i = .int .i64 (k : Int) /\ Ext w wr /\ (0 < k -> smallB rs 8 = true) /\ (1 < k -> smallB ss 8 = true)) (fun i _ => 2 - (intOf i).toNat)
 case atStart => exact ⟨0, by omega, rfl, Ext.refl _, by simp⟩
 case round =>
  obtain ⟨k, hk, rfl, ext, hall⟩ := hrel;have HA := Lib.hid hall;clear hall;have c0 := (hb.ext ext).cell 0 (.slice A n c) rfl;have c1 := (hb.ext ext).cell 1 (.slice B m d) rfl;have hk2 : k = 0 \/ k = 1 \/ k = 2 := by omega
  rcases hk2 with rfl | rfl | rfl
  ·go_wp2_with fail
   refine (q_Small (h0.ext ext) 8 (by omega)).mono ?_;rintro e V ⟨rfl, hxv⟩;replace ext := ext.trans hxv
   cases hf : smallB rs 8 with
   | true =>
    have HF := Lib.hid hf;clear hf
    go_wp2_with fail
    go_roundw
    case rel => exact ⟨1, by omega, rfl, ext, by have := HA.out; simp [HF.out] at this ⊢ <;> first | done | exact this | assumption⟩
    case measure => simp [intOf]
   | false =>
    have HF := Lib.hid hf;clear hf
    go_wp2_with fail
    go_ret
    exact ⟨by have := HA.out; simp [HF.out] at this ⊢, ext⟩
  ·go_wp2_with fail
   refine (q_Small (h1.ext ext) 8 (by omega)).mono ?_;rintro e V ⟨rfl, hxv⟩;replace ext := ext.trans hxv
   cases hf : smallB ss 8 with
   | true =>
    have HF := Lib.hid hf;clear hf
    go_wp2_with fail
    go_roundw
    case rel => exact ⟨2, by omega, rfl, ext, by have := HA.out; simp [HF.out] at this ⊢ <;> first | done | exact this | assumption⟩
    case measure => simp [intOf]
   | false =>
    have HF := Lib.hid hf;clear hf
    go_wp2_with fail
    go_ret
    exact ⟨by have := HA.out; simp [HF.out] at this ⊢, ext⟩
  ·go_wp2_with fail
   go_ret
   exact ⟨by have := HA.out; simp at this; simp [this], ext⟩
end
end
section
open Go.RowKit
theorem BndR.mul {a b : Rat} {N D M E : Nat} (h : BndR a N D) (k : BndR b M E) : BndR (a * b) (N * M) (D * E) := by
 have e : a * b = mkRat (a.num * b.num) (a.den * b.den) := by rw [Rat.mul_def, Rat.normalize_eq_mkRat]
 rw [e];refine (bndR_mk _ (Nat.mul_ne_zero a.den_nz b.den_nz)).le ?_ (Nat.mul_le_mul h.den k.den);rw [Int.natAbs_mul];exact Nat.mul_le_mul h.num k.num
theorem Bnd.der {qs : List Rat} {N D k : Nat} (h : Bnd qs N D) (hD : 1 <= D) (hl : qs.length <= k + 1) : Bnd (trimP (derP qs)) (N * k) D := Bnd.trim fun q hq => by
 unfold derP at hq;obtain ⟨i, hi, rfl⟩ := List.mem_map.1 hq;have hi' := List.mem_range.1 hi;have := (h.at_ hD (i + 1)).mul (BndR.int ((i : Int) + 1));exact this.le (Nat.mul_le_mul_left _ (by omega)) (by omega)
theorem Bnd.few1 {qs : List Rat} (h : Bnd qs B120 B120) (hl : qs.length <= 8) : SizeP (trimP (derP qs)) 31 := by
 have h1 := h.der (k := 7) (by decide +kernel) (by omega);have h2 := trimP_len (derP qs);rw [derP_len] at h2;exact sizeP_of h1 (by decide +kernel) (k := 8) (by omega) (by decide +kernel) (by decide +kernel)
theorem atP_derP (l : List Rat) (s : Nat) : atP (derP l) s = atP l (s + 1) * ((((s + 1 : Nat) : Int)) : Rat) := by
 by_cases h : s < (derP l).length
 ·rw [atP_lt h]
  simp [derP]
 ·rw [atP_ge (by omega)]
  rw [derP_len] at h;rw [atP_ge (by omega)]
  show (0 : Rat) = 0 * _
  grind
theorem prodQ_der (qs ps : List Rat) : trimP (derP (prodQ qs ps)) = trimP (sumP (prodQ (trimP (derP qs)) ps) (prodQ qs (trimP (derP ps)))) := by
 refine trimP_ext (fun s => ?_);rw [atP_derP, atP_sumP, prodQ_at, prodQ_at, prodQ_at, <- qsum_mul]
 have e1 : ∀ i, i < s + 1 + 1 -> termQ qs ps (s + 1) i * ((((s + 1 : Nat) : Int)) : Rat) = (fun i => termQ qs ps (s + 1) i * ((((i : Nat) : Int)) : Rat)) i + (fun i => termQ qs ps (s + 1) i * ((((s + 1 - i : Nat) : Int)) : Rat)) i := by
  intro i hi
  show _ = termQ qs ps (s + 1) i * ((((i : Nat) : Int)) : Rat) + termQ qs ps (s + 1) i * ((((s + 1 - i : Nat) : Int)) : Rat)
  have : ((((s + 1 : Nat) : Int)) : Rat) = ((((i : Nat) : Int)) : Rat) + ((((s + 1 - i : Nat) : Int)) : Rat) := by
   rw [<- Rat.intCast_add]
   congr 1
   omega
  rw [this]
  grind
 rw [qsum_congr _ e1, qsum_add, qsum_head]
 show (_ + _) + (qsum (fun i => termQ qs ps (s + 1) i * ((((s + 1 - i : Nat) : Int)) : Rat)) (s + 1) + termQ qs ps (s + 1) (s + 1) * ((((s + 1 - (s + 1) : Nat) : Int)) : Rat)) = _
 have e2 : termQ qs ps (s + 1) 0 * ((((0 : Nat) : Int)) : Rat) = 0 := by
  show _ * (0 : Rat) = 0
  grind
 have e3 : termQ qs ps (s + 1) (s + 1) * ((((s + 1 - (s + 1) : Nat) : Int)) : Rat) = 0 := by
  rw [Nat.sub_self]
  show _ * (0 : Rat) = 0
  grind
 rw [e2, e3, qsum_congr (g := termQ (trimP (derP qs)) ps s) (s + 1) (fun i hi => by
  unfold termQ;rw [if_pos (by omega), if_pos (by omega), atP_trimP, atP_derP, Nat.add_sub_add_right]
  grind), qsum_congr (f := fun i => termQ qs ps (s + 1) i * ((((s + 1 - i : Nat) : Int)) : Rat)) (g := termQ qs (trimP (derP ps)) s) (s + 1) (fun i hi => by
  unfold termQ;rw [if_pos (by omega), if_pos (by omega), atP_trimP, atP_derP, show s - i + 1 = s + 1 - i by omega]
  grind)]
 grind
section
variable {w w' : World} {A B : Option Addr} {n c m d L M : Nat} {qs ps : List Rat}
end
end
section
open Go.RowKit
attribute [local go_sem ↓] Go.wp_at_zero Go.wp_at_succ
set_option maxRecDepth 100000 in
theorem der4_no0 {w : World} {Aa : Option Addr} {na ca : Nat} {rs : List RawR} {Ab : Option Addr} {nb cb : Nat} {ss : List RawR} (hA : Awake4) (hT : Tab w) (h0 : RawP w Aa na ca rs) (h1 : RawP w Ab nb cb ss) (hf0 : (smallB rs 8 && smallB ss 8) = false) :
  Calls Tryz.prog 7 #[.slice Aa na ca, .slice Ab nb cb] w fun e w' => e = .returned (.bool true) /\ Ext w w' := by
 have HF0 := Lib.hid hf0;clear hf0;have HA := Lib.hid hA;clear hA
 go_enter Tryz.func7, Tryz.ntmps7
 have extW := Ext.refl w
 go_wp2_with fail
 refine (HA.out _ (hT.ext extW)).mono ?_;rintro e W ⟨rfl, hxt⟩;replace extW := extW.trans hxt;clear hxt;have e1 := (Ext.refl W).alloc (.cells #[.slice Aa na ca, .slice Ab nb cb] 22)
 go_wp2_with fail
 refine (few2_P (Box.new _ _ _) (h0.ext (extW.trans e1)) (h1.ext (extW.trans e1))).mono ?_;rintro e W1 ⟨rfl, hxt⟩;rw [HF0.out];replace extW := extW.trans (e1.trans hxt);clear e1 hxt
 go_wp2_with fail
 go_ret
 exact ⟨rfl, extW⟩
set_option maxRecDepth 100000 in
theorem der4_yes {w : World} {Aa : Option Addr} {na ca : Nat} {rs : List RawR} {Ab : Option Addr} {nb cb : Nat} {ss : List RawR} (hA : Awake4) (hT : Tab w) (h0 : RawP w Aa na ca rs) (h1 : RawP w Ab nb cb ss) (hf0 : (smallB rs 8 && smallB ss 8) = true) :
  Calls Tryz.prog 7 #[.slice Aa na ca, .slice Ab nb cb] w fun e w' => e = .returned (.bool true) /\ Ext w w' := by
 have hf' := hf0;simp only [smallB, Bool.and_eq_true, decide_eq_true_eq] at hf';obtain ⟨⟨l0, f0⟩, l1, f1⟩ := hf';have p0 := h0.pol f0;have m0 : (rs.map RawR.q).length <= 8 := by rw [List.length_map]; exact l0
 have b0 := h0.bnd f0;generalize rs.map RawR.q = qa at p0 m0 b0;have n0 : na <= 8 := by rw [<- p0.len]; exact m0
 clear l0 f0;have p1 := h1.pol f1;have m1 : (ss.map RawR.q).length <= 8 := by rw [List.length_map]; exact l1
 have b1 := h1.bnd f1;generalize ss.map RawR.q = qb at p1 m1 b1;have n1 : nb <= 8 := by rw [<- p1.len]; exact m1
 clear l1 f1;have HF0 := Lib.hid hf0;have HA := Lib.hid hA;clear hA
 go_enter Tryz.func7, Tryz.ntmps7
 have extW := Ext.refl w
 go_wp2_with fail
 refine (HA.out _ (hT.ext extW)).mono ?_;rintro e W ⟨rfl, hxt⟩;replace extW := extW.trans hxt;clear hxt;have e1 := (Ext.refl W).alloc (.cells #[.slice Aa na ca, .slice Ab nb cb] 22)
 go_wp2_with fail
 refine (few2_P (Box.new _ _ _) (h0.ext (extW.trans e1)) (h1.ext (extW.trans e1))).mono ?_;rintro e W1 ⟨rfl, hxt⟩;rw [HF0.out];replace extW := extW.trans (e1.trans hxt);clear e1 hxt;replace p0 := p0.ext extW;replace p1 := p1.ext extW;have S0 : SizeP qa 30 := b0.few m0;have S1 : SizeP qb 30 := b1.few m1;have S2 : SizeP (trimP (derP qa)) 31 := b0.few1 m0;have S3 : SizeP (trimP (derP qb)) 31 := b1.few1 m1;have T0 : (trimP (derP qa)).length <= 8 := by have := trimP_len (derP qa); rw [derP_len] at this; omega
 have T1 : (trimP (derP qb)).length <= 8 := by have := trimP_len (derP qb); rw [derP_len] at this; omega
 have T2 : (prodQ qa qb).length <= 16 := by have := prodQ_len qa qb; omega
 have T3 : (trimP (derP (prodQ qa qb))).length <= 16 := by have := trimP_len (derP (prodQ qa qb)); rw [derP_len] at this; omega
 have T4 : (prodQ (trimP (derP qa)) qb).length <= 16 := by have := prodQ_len (trimP (derP qa)) qb; omega
 have T5 : (prodQ qa (trimP (derP qb))).length <= 16 := by have := prodQ_len qa (trimP (derP qb)); omega
 have T6 : (trimP (sumP (prodQ (trimP (derP qa)) qb) (prodQ qa (trimP (derP qb))))).length <= 16 := by have := trimP_len (sumP (prodQ (trimP (derP qa)) qb) (prodQ qa (trimP (derP qb)))); rw [sumP_len] at this; omega
 have E0 := Ext.refl W1
 go_wp2_with fail
 refine (own_P (p0.ext E0) (by omega)).mono ?_;rintro e wk0 ⟨A32_, n32_, c32_, rfl, o1, hx0⟩;have E1 := E0.trans hx0;clear E0 hx0;have u32 : n32_ <= 8 := by rw [<- o1.len]; exact m0
 go_wp2_with fail
 refine (p_DerP o1 (by omega) (by omega) (hT.ext (extW.trans E1))).mono ?_;rintro e wk1 ⟨A33_, n33_, c33_, rfl, d1, hx1⟩;clear o1;have E2 := E1.trans hx1;clear E1 hx1;have u33 : n33_ <= 8 := by rw [<- d1.len]; exact T0
 go_wp2_with fail
 refine (own_P (p1.ext E2) (by omega)).mono ?_;rintro e wk2 ⟨A34_, n34_, c34_, rfl, o2, hx2⟩;replace d1 := d1.ext hx2;have E3 := E2.trans hx2;clear E2 hx2;have u34 : n34_ <= 8 := by rw [<- o2.len]; exact m1
 go_wp2_with fail
 refine (p_DerP o2 (by omega) (by omega) (hT.ext (extW.trans E3))).mono ?_;rintro e wk3 ⟨A35_, n35_, c35_, rfl, e1, hx3⟩;clear o2;replace d1 := d1.ext hx3;have E4 := E3.trans hx3;clear E3 hx3;have u35 : n35_ <= 8 := by rw [<- e1.len]; exact T1
 go_wp2_with fail
 refine (own_P (p0.ext E4) (by omega)).mono ?_;rintro e wk4 ⟨A36_, n36_, c36_, rfl, o3, hx4⟩;replace d1 := d1.ext hx4;replace e1 := e1.ext hx4;have E5 := E4.trans hx4;clear E4 hx4;have u36 : n36_ <= 8 := by rw [<- o3.len]; exact m0
 go_wp2_with fail
 refine (own_P (p1.ext E5) (by omega)).mono ?_;rintro e wk5 ⟨A37_, n37_, c37_, rfl, o4, hx5⟩;replace d1 := d1.ext hx5;replace e1 := e1.ext hx5;replace o3 := o3.ext hx5;have E6 := E5.trans hx5;clear E5 hx5;have u37 : n37_ <= 8 := by rw [<- o4.len]; exact m1
 go_wp2_with fail
 refine (p_MulQ o3 o4 (by omega) (by omega) (by omega) (by omega) S0 S1 (by omega) (by omega) (by omega) (hT.ext (extW.trans E6))).mono ?_;rintro e wk6 ⟨A38_, n38_, c38_, rfl, x1, hx6⟩;clear o3 o4;replace d1 := d1.ext hx6;replace e1 := e1.ext hx6;have E7 := E6.trans hx6;clear E6 hx6;have u38 : n38_ <= 16 := by rw [<- x1.len]; exact T2
 go_wp2_with fail
 refine (p_DerP x1 (by omega) (by omega) (hT.ext (extW.trans E7))).mono ?_;rintro e wk7 ⟨A39_, n39_, c39_, rfl, y1, hx7⟩;clear x1;replace d1 := d1.ext hx7;replace e1 := e1.ext hx7;have E8 := E7.trans hx7;clear E7 hx7;have u39 : n39_ <= 16 := by rw [<- y1.len]; exact T3
 go_wp2_with fail
 refine (q_DerP (p0.ext E8) (by omega) (by omega)).mono ?_;rintro e wk8 ⟨A40_, n40_, c40_, rfl, r1, hx8⟩;replace d1 := d1.ext hx8;replace e1 := e1.ext hx8;replace y1 := y1.ext hx8;have E9 := E8.trans hx8;clear E8 hx8;have u40 : n40_ <= 8 := by rw [<- r1.len]; exact T0
 go_wp2_with fail
 refine (good_same d1 r1 rfl (by omega) (by omega) (by omega) (by omega) (by omega)).mono ?_;rintro e wk9 ⟨rfl, hx9⟩;clear r1;replace d1 := d1.ext hx9;replace e1 := e1.ext hx9;replace y1 := y1.ext hx9;have E10 := E9.trans hx9;clear E9 hx9
 go_wp2_with fail
 refine (own_P (p1.ext E10) (by omega)).mono ?_;rintro e wk10 ⟨A41_, n41_, c41_, rfl, o5, hx10⟩;replace d1 := d1.ext hx10;replace e1 := e1.ext hx10;replace y1 := y1.ext hx10;have E11 := E10.trans hx10;clear E10 hx10;have u41 : n41_ <= 8 := by rw [<- o5.len]; exact m1
 go_wp2_with fail
 refine (p_MulQ d1 o5 (by omega) (by omega) (by omega) (by omega) S2 S1 (by omega) (by omega) (by omega) (hT.ext (extW.trans E11))).mono ?_;rintro e wk11 ⟨A42_, n42_, c42_, rfl, z1, hx11⟩;clear d1 o5;replace e1 := e1.ext hx11;replace y1 := y1.ext hx11;have E12 := E11.trans hx11;clear E11 hx11;have u42 : n42_ <= 16 := by rw [<- z1.len]; exact T4
 go_wp2_with fail
 refine (own_P (p0.ext E12) (by omega)).mono ?_;rintro e wk12 ⟨A43_, n43_, c43_, rfl, o6, hx12⟩;replace e1 := e1.ext hx12;replace y1 := y1.ext hx12;replace z1 := z1.ext hx12;have E13 := E12.trans hx12;clear E12 hx12;have u43 : n43_ <= 8 := by rw [<- o6.len]; exact m0
 go_wp2_with fail
 refine (p_MulQ o6 e1 (by omega) (by omega) (by omega) (by omega) S0 S3 (by omega) (by omega) (by omega) (hT.ext (extW.trans E13))).mono ?_;rintro e wk13 ⟨A44_, n44_, c44_, rfl, z2, hx13⟩;clear e1 o6;replace y1 := y1.ext hx13;replace z1 := z1.ext hx13;have E14 := E13.trans hx13;clear E13 hx13;have u44 : n44_ <= 16 := by rw [<- z2.len]; exact T5
 go_wp2_with fail
 refine (p_AddP z1 z2 (by omega) (by omega) (by omega) (by omega) (hT.ext (extW.trans E14))).mono ?_;rintro e wk14 ⟨A45_, n45_, c45_, rfl, u1, hx14⟩;clear z1 z2;replace y1 := y1.ext hx14;have E15 := E14.trans hx14;clear E14 hx14;have u45 : n45_ <= 16 := by rw [<- u1.len]; exact T6
 go_wp2_with fail
 refine (good_same y1 u1 (prodQ_der qa qb) (by omega) (by omega) (by omega) (by omega) (by omega)).mono ?_;rintro e wk15 ⟨rfl, hx15⟩;clear y1 u1;have E16 := E15.trans hx15;clear E15 hx15
 go_wp2_with fail
 go_ret
 exact ⟨rfl, extW.trans E16⟩
theorem der4_any {w : World} {Aa : Option Addr} {na ca : Nat} {rs : List RawR} {Ab : Option Addr} {nb cb : Nat} {ss : List RawR} (hA : Awake4) (hT : Tab w) (h0 : RawP w Aa na ca rs) (h1 : RawP w Ab nb cb ss) :
  Calls Tryz.prog 7 #[.slice Aa na ca, .slice Ab nb cb] w fun e w' => e = .returned (.bool true) /\ Ext w w' := by
 by_cases hf0 : (smallB rs 8 && smallB ss 8) = true
 ·exact der4_yes hA hT h0 h1 hf0
 ·exact der4_no0 hA hT h0 h1 (Bool.eq_false_iff.2 hf0)
end
section
open Go.ChangeShapes Go.WideShapes Go.ChangeAt Go.RowKit Go.Joins
set_option maxRecDepth 100000
theorem der4_lifted (os : Os) (started : os.Started) (H : Type) (enc : TypeId × Value -> H) :
  ReturnsInHanded {} Tryz.checked os 7 .any (fun w args => (Rows.polynomialDerivativeSpec.pre enc Tryz.prog Tryz.f7 [] false w args /\ laidMetH Tryz.prog laidI w) /\ sizedMet enc Tryz.prog Tryz.f7 (OpenSpec.ofChange Rows.polynomialDerivativeSpec) false w args)
   (Rows.polynomialDerivativeSpec.post enc Tryz.prog Tryz.f7 false true false false) := by
 refine returnsInHanded_of_change_and (C := Tryz.checked) (X := fun w _ => laidMetH Tryz.prog laidI w) (fun _ _ _ hh h => h.of_heap hh) Tryz.own started (by kernel_rfl) Tryz.func7
  (ChangeSpec.witness_shaped (enc := enc) (C := Tryz.checked) (os := os) (X := fun w _ => laidMetH Tryz.prog laidI w) false (World.doorLaid Tryz.prog 400 os) #[.slice none 0 0, .slice none 0 0] 8 rfl (World.shaped_of_RefB (by kernel_rfl) (by kernel_rfl)) (by kernel_rfl) (by kernel_rfl) (by kernel_rfl) (doorI_met os _)) ?_
 intro W base args ds gs before hval0 hW _ _ hL _;have hval : ∀ (j : Nat) t v, Tryz.f7.params[j]? = some t -> args[j]? = some v -> Value.okWide Tryz.prog W .any base t v := hval0;have hW' := hW;have hlt : ∀ p ∈ before, p.block < W.heap.size := fun p hp => hW.lt p hp
 obtain ⟨p, q, hA0, hV, rfl, _, _⟩ := hW;have hA : DataW.TrodAll enc Tryz.prog W 0 (fun _ => true) true Tryz.f7.params.toList args.toList ds p := hA0;rw [Tryz.params7] at hA hval;obtain ⟨v0, v1, d0, d1, p0, p1, rfl, rfl, rfl, h0, h1⟩ := trodAll_two hA;obtain ⟨rfl, rfl⟩ := trodVars_none hV;simp only [List.append_nil] at hW' hlt;obtain ⟨A0, n0, c0, rs0, rfl, hr0⟩ := open_rats (hval 0 22 v0 rfl rfl) h0;obtain ⟨A1, n1, c1, rs1, rfl, hr1⟩ := open_rats (hval 1 22 v1 rfl rfl) h1;clear hA0 hval0;have hT := tab_of_laidH hL;refine (der4_any awake4 hT hr0 hr1).mono fun e W' ⟨he, hext⟩ => ?_
 subst he;have hb : Below W.heap.size W W' := hext;have g0 := Below.trod Tryz.laidOut (by kernel_rfl) (of_decide_eq_true (by kernel_rfl)) h0 hb (fun p hp => hlt p (List.mem_append.2 (.inl hp)));have g1 := Below.trod Tryz.laidOut (by kernel_rfl) (of_decide_eq_true (by kernel_rfl)) h1 hb (fun p hp => hlt p (List.mem_append.2 (.inr hp)));exact ⟨_, rfl, _, _, _, [], (p0 ++ p1), [], hW', trodAll_mk1 (shut_bool Tryz.underlying4 true), trodAll_mk2 g0 g1, rfl, Below.frame hb _, fun h => by cases h⟩
theorem der4_row_holds : Rows.PolynomialDerivativeSaid :=
 OpenClaim.holds_of_wide 7 Tryz.f7 rfl rfl rfl rfl rfl rfl rfl ⟨rfl, rfl, rfl, rfl, rfl⟩ rfl rfl rfl rfl rfl (by kernel_rfl) Tryz.func7 (by kernel_rfl)
  (of_decide_eq_true (by kernel_rfl)) (by unfold Func.isWrapper; first | (rw [if_neg (of_decide_eq_false (by kernel_rfl))]; exact ⟨rfl, rfl⟩) | (rw [if_pos (by decide +kernel)]; kernel_rfl))
  (fun os started H enc _ => der4_lifted os started H enc)
theorem der4_holds : Rows.PolynomialDerivativeCardSaid :=
 Claim7.holds_tied_plain_at .later [] [.data] true Rows.polynomialDerivativeCard.stood.harness false
  der4_row_holds (fun _ h => by cases h) (by kernel_rfl) (fun _ h => by cases h) polynomialDerivative_row_tie rfl ⟨rfl, rfl⟩ (by kernel_rfl) rfl
  (fun f fn hf hfn => by
   obtain rfl : f = 7 := Option.some.inj ((show Tryz.prog.funcNamed "setsquare/setsquarelaw04.PolynomialDerivative" = some 7 by kernel_rfl).symm.trans hf) |>.symm;obtain rfl : fn = Tryz.f7 := (Option.some.inj (Tryz.func7.symm.trans hfn)).symm
   exact ⟨by kernel_rfl, fun j t ht => by
    rw [Tryz.params7] at ht;have hm : t ∈ [22, 22] := by simpa using Array.mem_of_getElem? ht
    have hall : ([22, 22].all fun u => !Tryz.prog.wantsStandIn u) = true := by kernel_rfl
    exact (show Tryz.prog.wantsStandIn t = false by simpa using List.all_eq_true.1 hall t hm)⟩)
  (by kernel_rfl)
end
end Go.Proofs.YtpeddoaknfjbbaaGreatDoor
