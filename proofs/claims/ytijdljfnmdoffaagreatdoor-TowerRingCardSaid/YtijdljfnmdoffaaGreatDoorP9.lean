/- Walks and laws, a part. -/
import Derived.Test.YtijdljfnmdoffaaGreatDoorP8
import Derived.Test.YtijdljfnmdoffaaGreatDoorP6
import Derived.Test.YtijdljfnmdoffaaGreatDoorP7
set_option linter.unusedSimpArgs false
set_option linter.unusedVariables false
set_option maxHeartbeats 64000000
namespace Go.Proofs.YtijdljfnmdoffaaGreatDoor
open Go.RowKit
attribute [local go_sem ↓] Go.wp_at_zero Go.wp_at_succ
section
variable {Ar Af : Option Addr} {nr cr nf cf : Nat} {Rs : List (List Int)} {KK : Nat}
def normLI (R : Nat -> List Int) (h : Nat) (a : List Int) : List Int := subI (mulL R h (a.take (2 ^ h)) (a.take (2 ^ h))) (mulL R h (mulL R h (a.drop (2 ^ h)) (a.drop (2 ^ h))) (R h))
theorem normLI_len {R : Nat -> List Int} {h : Nat} {a : List Int} : (normLI R h a).length = 2 ^ h := subI_len mulL_len mulL_len
set_option maxRecDepth 100000 in
theorem p_normT {w : World} {A : Option Addr} {n c h X : Nat} {xs : List Int} (hRt : TowI Rs) (hnr : nr <= 8) (hR : ISl w Ar nr cr Rs KK) (ha : IPol w A n c xs X) (hn : n = 2 ^ (h + 1)) (hh : h + 1 <= nr) (hsz : X + X + szP KK (h + 1) <= 40000) :
  Calls Tryz.prog 77 #[.agg #[.slice Ar nr cr, .slice Af nf cf], .slice A n c] w (fun e w' => ∃ A' c', e = .returned (.slice A' (2 ^ h) c') /\ IPol w' A' (2 ^ h) c' (normLI (radI Rs) h xs) (X + X + szP KK (h + 1)) /\ Ext w w') := by
 obtain ⟨k, hk⟩ : ∃ k, k = 2 ^ h := ⟨_, rfl⟩;have hnk : n = k + k := by rw [hn, hk, two_pow_s]
 have hk0 : 0 < k := by rw [hk]; exact Nat.pow_pos (by omega)
 have hk1 : k <= 128 := by rw [hk]; exact Nat.le_trans (Nat.pow_le_pow_right (by omega) (show h <= 7 by omega)) (by decide)
 have hst := szP_step KK h;have HK := Lib.hid hk;have Hst := Lib.hid hst;have Hnk := Lib.hid hnk;have hz0 : X + X + szP KK h + szP KK h + KK + 4 <= 40000 := by omega
 have hn2 : n <= 256 := by omega
 rw [<- hk];clear hn hk hst hnk
 go_enter Tryz.func77, Tryz.ntmps77
 go_upto_region 1 with (fail)
 obtain ⟨W, hW, EW, bx, hz⟩ := box1 w 72 #[.slice Ar nr cr, .slice Af nf cf];rw [<- hW];clear hW hz
 go_wp2_with fail
 refine (p_halvesT (k := k) (ha.ext EW) Hnk.out hk0 (by omega)).mono ?_;rintro e V3 ⟨Aa, rfl, ha0, ha1, hx3⟩;replace bx := bx.ext hx3;replace EW := EW.trans hx3;replace hR := hR.ext EW
 go_upto_region 2 with (fail)
 have hdr := (Ext.refl V3).drew;replace ha0 := ha0.ext hdr;replace ha1 := ha1.ext hdr;replace hR := hR.ext hdr;clear hdr;have ES0 := Ext.refl V3;refine wp_region_held_drew (S := Ext V3) (by kernel_rfl) ES0.drew (fun ES => ?_);clear ES0;refine Late.s0 ES (fun hAl hQ => ?_);refine Late.t 0 12 ?v_0 hQ ?y_0 ?_
 case y_0 => intro w' hSw;have k00 := (bx.ext hSw).c2;go_simp;try rfl
 try simp only [zP]
 refine Late.u 1 13 hQ ?_
 try simp only [zP]
 refine Late.u 2 14 hQ ?_
 try simp only [zP]
 refine Late.t 4 16 ?v_3 hQ ?y_3 ?_
 case y_3 => intro w' hSw;have k00 := (bx.ext hSw).c2;go_simp;try rfl
 try simp only [zP]
 refine Late.t 5 17 ?v_4 hQ ?y_4 ?_
 case y_4 => intro w' hSw;have k00 := (bx.ext hSw).c2;go_simp;try rfl
 try simp only [zP]
 refine Late.u 6 18 hQ ?_
 try simp only [zP]
 refine Late.u 7 19 hQ ?_
 try simp only [zP]
 refine Late.t 9 21 ?v_7 hQ ?y_7 ?_
 case y_7 => intro w' hSw;have k00 := (bx.ext hSw).c2;go_simp;try rfl
 try simp only [zP]
 refine Late.u 10 22 hQ ?_
 try simp only [zP]
 refine Late.cl (i := 3) rfl hAl hQ (fun w3 e3 E3 K hK => ?_);go_simp
 (replace ha0 := ha0.ext e3; replace ha1 := ha1.ext e3; replace hR := hR.ext e3; go_at_call 69; refine (p_timesT hRt hnr h hR ha0 ha0 HK.out (by omega) (by omega)).mono ?_; rintro e wk3 ⟨A5, c5, rfl, h1, _, hx3⟩; replace ha0 := ha0.ext hx3; replace ha1 := ha1.ext hx3; replace hR := hR.ext hx3)
 refine hK.out _ _ hx3 ?_;clear hK K
 try simp only [zP]
 refine Late.cl (i := 8) rfl hAl hQ (fun w8 e8 E8 K hK => ?_);go_simp
 (replace ha0 := ha0.ext e8; replace ha1 := ha1.ext e8; replace hR := hR.ext e8; replace h1 := h1.ext e8; go_at_call 69; refine (p_timesT hRt hnr h hR ha1 ha1 HK.out (by omega) (by omega)).mono ?_; rintro e wk8 ⟨A6, c6, rfl, h2, _, hx8⟩; replace ha0 := ha0.ext hx8; replace ha1 := ha1.ext hx8; replace hR := hR.ext hx8; replace h1 := h1.ext hx8)
 refine hK.out _ _ hx8 ?_;clear hK K
 try simp only [zP]
 refine Late.cl (i := 11) rfl hAl hQ (fun w11 e11 E11 K hK => ?_);go_simp
 (replace ha0 := ha0.ext e11; replace ha1 := ha1.ext e11; replace hR := hR.ext e11; replace h1 := h1.ext e11; replace h2 := h2.ext e11; go_at_call 111; refine (p_lastT hRt hR (by omega) (by omega) (by omega) HK.out).mono ?_; rintro e wk11 ⟨A9, c9, rfl, hla, hx11⟩; replace ha0 := ha0.ext hx11; replace ha1 := ha1.ext hx11; replace hR := hR.ext hx11; replace h1 := h1.ext hx11; replace h2 := h2.ext hx11)
 refine hK.out _ _ hx11 ?_;clear hK K
 try simp only [zP]
 refine Late.cl (i := 12) rfl hAl hQ (fun w12 e12 E12 K hK => ?_);go_simp
 (replace ha0 := ha0.ext e12; replace ha1 := ha1.ext e12; replace hR := hR.ext e12; replace h1 := h1.ext e12; replace h2 := h2.ext e12; replace hla := hla.ext e12; go_at_call 69; refine (p_timesT hRt hnr h hR h2 hla HK.out (by omega) (by omega)).mono ?_; rintro e wk12 ⟨A7, c7, rfl, h3, _, hx12⟩; replace ha0 := ha0.ext hx12; replace ha1 := ha1.ext hx12; replace hR := hR.ext hx12; replace h1 := h1.ext hx12; replace h2 := h2.ext hx12; replace hla := hla.ext hx12)
 refine hK.out _ _ hx12 ?_;clear hK K
 try simp only [zP]
 refine Late.cl (i := 13) rfl hAl hQ (fun w13 e13 E13 K hK => ?_);go_simp
 (replace ha0 := ha0.ext e13; replace ha1 := ha1.ext e13; replace hR := hR.ext e13; replace h1 := h1.ext e13; replace h2 := h2.ext e13; replace hla := hla.ext e13; replace h3 := h3.ext e13; go_at_call 109; refine (p_minusT h1 h3 (by omega) (by omega) (by omega)).mono ?_; rintro e wk13 ⟨rfl, hmi, hx13⟩; replace ha0 := ha0.ext hx13; replace ha1 := ha1.ext hx13; replace hR := hR.ext hx13; replace h1 := h1.ext hx13; replace h2 := h2.ext hx13; replace hla := hla.ext hx13; replace h3 := h3.ext hx13)
 refine hK.out _ _ hx13 ?_;clear hK K
 try simp only [zP]
 refine Late.u 14 4 hQ ?_
 try simp only [zP]
 refine Late.d0 (fun wz ez Ez => ?_);clear hAl hQ ES;have hl : (subI (mulL (radI Rs) h (xs.take k) (xs.take k)) (mulL (radI Rs) h (mulL (radI Rs) h (xs.drop k) (xs.drop k)) (radI Rs h))).length = k := subI_len h1.len h3.len;have hp := ((hmi.pol hl (by unfold maxLen; omega)).leT (M := X + X + szP KK (h + 1)) (by have := Hst.out; omega)).ext ez
 go_wp2_with fail
 go_ret
 unfold normLI;rw [<- HK.out];exact ⟨_, _, rfl, hp, EW.trans Ez⟩
end
section
variable {w w' : World} {z y : Int} {L M : Nat} {s t : Bool} {A B : Option Addr} {n c m d : Nat} {zs ys : List Int}
def gcdL (g : Nat) (zs : List Int) : Nat := zs.foldl (fun g c => Nat.gcd g c.natAbs) g
theorem gcdL_one : ∀ zs : List Int, gcdL 1 zs = 1
 | [] => rfl
 | z :: zs => by
  show gcdL (Nat.gcd 1 z.natAbs) zs = 1
  rw [Nat.gcd_one_left];exact gcdL_one zs
theorem gcdL_app (g : Nat) (zs ys : List Int) : gcdL g (zs ++ ys) = gcdL (gcdL g zs) ys := by unfold gcdL; rw [List.foldl_append]
theorem gcdL_dvd : ∀ (zs : List Int) (g : Nat), gcdL g zs ∣ g /\ ∀ z ∈ zs, (gcdL g zs : Int) ∣ z
 | [], g => ⟨Nat.dvd_refl _, fun z hz => by cases hz⟩
 | y :: zs, g => by
  have ih := gcdL_dvd zs (Nat.gcd g y.natAbs);refine ⟨Nat.dvd_trans ih.1 (Nat.gcd_dvd_left _ _), fun z hz => ?_⟩
  rcases List.mem_cons.1 hz with rfl | hz
  ·exact Int.ofNat_dvd_left.2 (Nat.dvd_trans ih.1 (Nat.gcd_dvd_right _ _))
  ·exact ih.2 z hz
theorem p_comDiv (h : NI w z L s A n c) (ha : IPol w B m d zs L) (hm : 0 < m) (hm1 : m <= 1000) (hL : L <= 3000) (hT : Tab w) : Calls Tryz.prog 115 #[.agg #[.bool s, .slice A n c], .slice B m d] w (RetNI ((gcdL z.natAbs zs : Nat) : Int) L w) := by
 have Hlen := Lib.hid ha.len
 go_enter Tryz.func115, Tryz.ntmps115
 go_upto_region 1 with (fail)
 obtain ⟨W, hW, EW, bx, bz, hz⟩ := box2 w 28 28 #[.bool s, .slice A n c] #[Value.bool false, Value.slice Option.none 0 0];rw [<- hW];clear hW hz
 go_wp2_with fail
 go_loopw [9] (fun i wr => ∃ (k : Nat) (y : Int) (s' : Bool) (A' : Option Addr) (n' c' : Nat), k <= m /\ i = .int .i64 (k : Int) /\ Ext w wr /\ Box wr w.heap.size 28 #[.bool s', .slice A' n' c'] /\ Box wr (w.heap.size + 1) 28 #[Value.bool false, Value.slice Option.none 0 0] /\ NI wr y L s' A' n' c' /\ y.natAbs = gcdL z.natAbs (zs.take k) /\ (0 < k -> 0 <= y)) (fun i _ => m - (intOf i).toNat)
 case atStart => exact ⟨0, z, s, A, n, c, by omega, rfl, EW, bx, bz, h.ext EW, rfl, fun h => absurd h (by omega)⟩
 case round =>
  obtain ⟨k, y, s', A', n', c', hk, rfl, ext, by_, bw, hy, hg, hpos⟩ := hrel;have Hg := Lib.hid hg;have Hpos := Lib.hid hpos;clear hg hpos bx bz EW h
  by_cases hlt : k < m
  ·have hj : k < zs.length := by rw [Hlen.out]; exact hlt
   have hI : (k : Int) < (m : Int) := by omega
   obtain ⟨p, off, rfl, hr⟩ := ha.at_ (fun e => by rw [e] at hj; exact absurd hj (Nat.not_lt_zero _));obtain ⟨sx, Ax, nx, cx, e0, e1, hx⟩ := (hr.ext ext).at_ k hj;have e0' : wr.cell? ⟨p, off + k * 2, none⟩ = some (.bool sx) := by rw [Nat.mul_comm]; exact e0
   have e1' : wr.cell? ⟨p, off + k * 2 + 1, none⟩ = some (.slice Ax nx cx) := by rw [Nat.mul_comm]; exact e1
   have HT := Lib.hid (show gcdL z.natAbs (zs.take (k + 1)) = Nat.gcd (gcdL z.natAbs (zs.take k)) (zs[k]).natAbs by rw [List.take_succ_eq_append_getElem hj, gcdL_app]; rfl);have HD := Lib.hid (show gcdL z.natAbs zs = gcdL (gcdL z.natAbs (zs.take k)) (zs.drop k) by rw [<- gcdL_app, List.take_append_drop]);generalize zs[k] = r at hx HT
   go_upto_region 4 with (fail)
   obtain ⟨W2, hW, extW, bv, hz⟩ := box1 wr 28 #[.bool sx, .slice Ax nx cx];rw [<- hW];clear hW hz e0 e1 e0' e1';replace hx := hx.ext extW;replace ext := ext.trans extW;replace by_ := by_.ext extW;replace bw := bw.ext extW;replace hy := hy.ext extW;have y0 := by_.cell 0 (.bool s') rfl;have y1 := by_.cell 1 (.slice A' n' c') rfl
   by_cases hone : y = 1
   ·have H1 := Lib.hid hone
    go_wp2_with fail
    refine (p_isOneT hy).mono ?_;rintro e V ⟨rfl, hxt⟩;rw [decide_eq_true H1.out];clear y0 y1;replace by_ := by_.ext hxt;replace bw := bw.ext hxt;replace hy := hy.ext hxt;have y0 := by_.cell 0 (.bool s') rfl;have y1 := by_.cell 1 (.slice A' n' c') rfl;have z0 := bw.cell 0 _ rfl;have z1 := bw.cell 1 _ rfl;have f0 := bw.frozen 0;have f1 := bw.frozen 1
    go_wp2_with fail
    obtain ⟨b1, b2, b3, b4⟩ := fin_dual (s := s') (A := A') (n := n') (c := c') bw;have r0 := b1.cell 0 (.bool s') rfl;have r1 := b1.cell 1 (.slice A' n' c') rfl;unfold set2 at r0 r1;refine bodyPost_ret (v := .agg #[.bool s', .slice A' n' c']) (by simp [results, Tryz.results115, go_sem, r0, r1]) rfl ⟨s', A', n', c', rfl, ?_, b3 _ (ext.trans hxt) (by omega)⟩;have hg1 : gcdL z.natAbs zs = 1 := by rw [HD.out, <- Hg.out, H1.out]; exact gcdL_one _
    rw [hg1];have := b2 _ _ _ _ _ _ hy;rw [H1.out] at this;exact this
   ·have H1 := Lib.hid hone
    clear hone
    go_wp2_with fail
    refine (p_isOneT hy).mono ?_;rintro e V ⟨rfl, hxt⟩;rw [decide_eq_false H1.out];clear y0 y1;replace by_ := by_.ext hxt;replace bw := bw.ext hxt;replace bv := bv.ext hxt;replace hy := hy.ext hxt;replace hx := hx.ext hxt;replace ext := ext.trans hxt;have y0 := by_.cell 0 (.bool s') rfl;have y1 := by_.cell 1 (.slice A' n' c') rfl;have v0 := bv.cell 0 (.bool sx) rfl;have v1 := bv.cell 1 (.slice Ax nx cx) rfl
    go_wp2_with fail
    refine (p_GCD hy hx hL hL (hT.ext ext)).mono ?_;rintro e V2 ⟨s7, A7, n7, c7, rfl, h7, hxu⟩;clear y0 y1 v0 v1;replace by_ := by_.ext hxu;replace bw := bw.ext hxu;replace ext := ext.trans hxu;rw [Nat.max_self] at h7;have y0 := by_.cell 0 (.bool s') rfl;have y1 := by_.cell 1 (.slice A' n' c') rfl;have f0 := by_.frozen 0;have f1 := by_.frozen 1
    go_wp2_with fail
    obtain ⟨b1, b2, b3, b4⟩ := fin_dual (s := s7) (A := A7) (n := n7) (c := c7) by_;unfold set2 at b1 b2 b3 b4
    go_roundw
    case rel => exact ⟨k + 1, _, s7, A7, n7, c7, by omega, by go_num, b3 _ ext (by omega), b1, b4 _ _ _ (by omega) bw, b2 _ _ _ _ _ _ h7, by rw [HT.out, <- Hg.out]; simp, fun _ => by omega⟩
    case measure => simp [intOf]; omega
  ·have hI : (m : Int) <= (k : Int) := by omega
   have hkm : k = m := by omega
   have y0 := by_.cell 0 (.bool s') rfl;have y1 := by_.cell 1 (.slice A' n' c') rfl;have z0 := bw.cell 0 _ rfl;have z1 := bw.cell 1 _ rfl;have f0 := bw.frozen 0;have f1 := bw.frozen 1
   have hyv : y = ((gcdL z.natAbs zs : Nat) : Int) := by
    have h1 := Hg.out;rw [List.take_of_length_le (by rw [Hlen.out]; omega)] at h1;have h2 := Hpos.out (by omega);omega
   have Hyv := Lib.hid hyv;clear hyv hkm
   go_wp2_with fail
   obtain ⟨b1, b2, b3, b4⟩ := fin_dual (s := s') (A := A') (n := n') (c := c') bw;have r0 := b1.cell 0 (.bool s') rfl;have r1 := b1.cell 1 (.slice A' n' c') rfl;unfold set2 at r0 r1;refine bodyPost_ret (v := .agg #[.bool s', .slice A' n' c']) (by simp [results, Tryz.results115, go_sem, r0, r1]) rfl ⟨s', A', n', c', rfl, ?_, b3 _ ext (by omega)⟩;rw [<- Hyv.out];exact b2 _ _ _ _ _ _ hy
end
theorem zipWith_takeR {α β γ : Type} (f : α -> β -> γ) : ∀ (a : List α) (b : List β), List.zipWith f a (b.take a.length) = List.zipWith f a b
 | [], _ => rfl
 | _ :: _, [] => rfl
 | x :: a, y :: b => by
  show f x y :: List.zipWith f a (b.take a.length) = f x y :: List.zipWith f a b
  rw [zipWith_takeR f a b]
def RetRow (qs : List Rat) (n L : Nat) (w : World) (e : Ending) (w' : World) : Prop := ∃ g, e = .returned (.slice (some ⟨g, 0, Option.none⟩) n n) /\ w.heap.size <= g /\ RRow w' g qs L /\ qs.length = n /\ Ext w w'
theorem Fill.far {w w' : World} {g n L : Nat} {qs : List Rat} (h : Fill w g n qs L) (hb : ∀ T cs, Box w g T cs -> Box w' g T cs) (hn : ∀ z L s A n c, NI w z L s A n c -> NI w' z L s A n c) : Fill w' g n qs L := by
 obtain ⟨⟨ds, h1, h2⟩, h3⟩ := h;exact ⟨⟨ds, hb _ _ h1, h2.ni hn⟩, h3⟩
section
variable {w w' : World} {z y : Int} {L M : Nat} {s t : Bool} {A B : Option Addr} {n c m d : Nat} {zs ys : List Int}
set_option maxRecDepth 100000 in
theorem p_joinT {Ar Af : Option Addr} {nr cr nf cf F : Nat} {fs : List Int} (h : IPol w A n c zs L) (hf : IPol w Af nf cf fs F) (hnf : n <= nf) (hnf1 : nf <= 1000) (hy : NI w y M t B m d) (h0 : y ≠ 0) (hL : L + F <= 3000) (hM : M <= 3000) (hn : n <= 1000) (hT : Tab w) : Calls Tryz.prog 68 #[.agg #[.slice Ar nr cr, .slice Af nf cf], .slice A n c, .agg #[.bool t, .slice B m d]] w (RetRow (List.zipWith (fun z f : Int => mkQ (z * f) y) zs fs) n (max (L + F) M) w) := by
 have hmk := mk_rats n (by omega);have Hlen := Lib.hid h.len;have Hlen' := Lib.hid hf.len;have Hnf := Lib.hid hnf;clear hnf
 go_enter Tryz.func68, Tryz.ntmps68
 go_upto_region 1 with (fail)
 obtain ⟨W, hW, extW, b3, b5, hzW⟩ := box2 w 72 28 #[.slice Ar nr cr, .slice Af nf cf] #[.bool t, .slice B m d];rw [<- hW];clear hW
 go_wp2_with fail
 go_loopw [15] (fun i wr => ∃ k : Nat, k <= n /\ i = .int .i64 (k : Int) /\ Ext W wr /\ Fill wr W.heap.size n (List.zipWith (fun z f : Int => mkQ (z * f) y) (zs.take k) (fs.take k)) (max (L + F) M)) (fun i _ => n - (intOf i).toNat)
 case atStart => exact ⟨0, Nat.zero_le _, rfl, (Ext.refl W).alloc _, Fill.new W n _⟩
 case round =>
  obtain ⟨k, hk, rfl, ext, hF⟩ := hrel;have hs0 := ext.size;have hs1 := hF.lt
  by_cases hlt : k < n
  ·have hj : k < zs.length := by rw [Hlen.out]; exact hlt
   have hj' : k < fs.length := by rw [Hlen'.out]; have := Hnf.out; omega
   have hI : (k : Int) < (n : Int) := by omega
   have hI2 : (k : Int) < (nf : Int) := by have := Hnf.out; omega
   obtain ⟨b, off, rfl, hr⟩ := h.at_ (fun e => by rw [e] at hj; exact absurd hj (Nat.not_lt_zero _));obtain ⟨b', off', rfl, hr'⟩ := hf.at_ (fun e => by rw [e] at hj'; exact absurd hj' (Nat.not_lt_zero _));obtain ⟨sx, Ax, nx, cx, e0, e1, hx⟩ := (hr.ext (extW.trans ext)).at_ k hj;have e0' : wr.cell? ⟨b, off + k * 2, none⟩ = some (.bool sx) := by rw [Nat.mul_comm]; exact e0
   have e1' : wr.cell? ⟨b, off + k * 2 + 1, none⟩ = some (.slice Ax nx cx) := by rw [Nat.mul_comm]; exact e1
   obtain ⟨sf, Ag, ng, cg, i0, i1, hfk⟩ := (hr'.ext (extW.trans ext)).at_ k hj';have i0' : wr.cell? ⟨b', off' + k * 2, none⟩ = some (.bool sf) := by rw [Nat.mul_comm]; exact i0
   have i1' : wr.cell? ⟨b', off' + k * 2 + 1, none⟩ = some (.slice Ag ng cg) := by rw [Nat.mul_comm]; exact i1
   have HT := Lib.hid (show List.zipWith (fun z f : Int => mkQ (z * f) y) (zs.take (k + 1)) (fs.take (k + 1)) = (List.zipWith (fun z f : Int => mkQ (z * f) y) (zs.take k) (fs.take k)) ++ [mkQ (zs[k] * fs[k]) y] by
    rw [List.take_succ_eq_append_getElem hj, List.take_succ_eq_append_getElem hj', List.zipWith_append (by rw [List.length_take, List.length_take]; omega)]; rfl)
   have hkl : (List.zipWith (fun z f : Int => mkQ (z * f) y) (zs.take k) (fs.take k)).length = k := by rw [List.length_zipWith, List.length_take, List.length_take, Hlen.out, Hlen'.out]; have := Hnf.out; omega
   generalize zs[k] = zv at hx HT;generalize fs[k] = fv at hfk HT
   go_upto_region 5 with (fail)
   obtain ⟨V1, hV, ext2, b9, hz2⟩ := box1 wr 28 #[.bool sx, .slice Ax nx cx];rw [<- hV];clear hV hz2 e0 e1 e0' e1' i0 i1;replace hx := hx.ext ext2;replace hfk := hfk.ext ext2;replace i0' := ext2.cellv i0';replace i1' := ext2.cellv i1';replace hF := hF.ext ext2;replace ext := ext.trans ext2;clear ext2;have w0 := (b3.ext ext).cell 0 (.slice Ar nr cr) rfl;have w1 := (b3.ext ext).cell 1 (.slice (some ⟨b', off', Option.none⟩) nf cf) rfl
   by_cases hone : fv = 1
   ·have H1 := Lib.hid hone
    go_wp2_with fail
    refine (p_isOneT hfk).mono ?_;rintro e V2 ⟨rfl, hx1⟩;rw [decide_eq_true H1.out];clear w0 w1;replace hx := hx.ext hx1;replace hF := hF.ext hx1;replace ext := ext.trans hx1;replace b9 := b9.ext hx1;replace b5 := b5.ext ext;have x0 := b9.cell 0 (.bool sx) rfl;have x1 := b9.cell 1 (.slice Ax nx cx) rfl;have y0 := b5.cell 0 (.bool t) rfl;have y1 := b5.cell 1 (.slice B m d) rfl
    go_wp2_with fail
    refine (p_Make_nz hx (hy.ext (extW.trans ext)) (by omega) (by omega) h0 (hT.ext (extW.trans ext))).mono ?_;rintro e V ⟨s7, A7, n7, c7, t7, B7, m7, d7, rfl, h7, hxt⟩;clear x0 x1 y0 y1 b9;replace hF := hF.ext hxt;replace ext := ext.trans hxt;have hcs := hF.cells (by rw [hkl]; exact hlt);rw [hkl] at hcs;obtain ⟨p0, p1, p2, p3⟩ := hcs;have f0 := hF.frozen (k * 4);have f1 := hF.frozen (k * 4 + 1);have f2 := hF.frozen (k * 4 + 2);have f3 := hF.frozen (k * 4 + 3)
    go_wp2_with fail
    have P := hF.put hkl hlt (h7.leT (M := (max (L + F) M)) (by omega))
    go_roundw
    case rel => exact ⟨k + 1, by omega, by go_num, P.2.2.1 _ ext (Nat.le_refl _), by rw [HT.out, H1.out, Int.mul_one]; exact P.1⟩
    case measure => simp [intOf]; omega
   ·have H1 := Lib.hid hone
    clear hone
    go_wp2_with fail
    refine (p_isOneT hfk).mono ?_;rintro e V2 ⟨rfl, hx1⟩;rw [decide_eq_false H1.out];clear w0 w1;replace hx := hx.ext hx1;replace hfk := hfk.ext hx1;replace i0' := hx1.cellv i0';replace i1' := hx1.cellv i1';replace hF := hF.ext hx1;replace ext := ext.trans hx1;replace b9 := b9.ext hx1;replace b3 := b3.ext ext;replace b5 := b5.ext ext
    rename World => V1'
    go_upto_region 6 with (fail)
    refine wpL.st 7 (fun hQ ES => ?_);refine wpL.t 0 27 ?v_0 hQ ?y_0 ES ?_
    case y_0 => intro w' hSw;have q0_ := hSw.cellv i0';have q1_ := hSw.cellv i1';have k00 := (b9.ext hSw).c2;have k10 := (b3.ext hSw).c2;go_simp;try rfl
    try simp only [zP]
    refine wpL.u 1 28 hQ ES ?_
    try simp only [zP]
    refine wpL.u 3 30 hQ ES ?_
    try simp only [zP]
    refine wpL.t 2 29 ?v_3 hQ ?y_3 ES ?_
    case y_3 => intro w' hSw;have q0_ := hSw.cellv i0';have q1_ := hSw.cellv i1';have k00 := (b9.ext hSw).c2;have k10 := (b3.ext hSw).c2;go_simp;try rfl
    try simp only [zP]
    refine wpL.u 4 31 hQ ES ?_
    try simp only [zP]
    refine wpL.t 5 32 ?v_5 hQ ?y_5 ES ?_
    case y_5 => intro w' hSw;have q0_ := hSw.cellv i0';have q1_ := hSw.cellv i1';have k00 := (b9.ext hSw).c2;have k10 := (b3.ext hSw).c2;go_simp;try rfl
    try simp only [zP]
    refine wpL.cl (i := 6) rfl (fun K hK => ?_);go_simp
    (go_at_call 70; refine (p_MulG (hx.ext ES) (hfk.ext ES) (by omega) (by omega)).mono ?_; rintro e wa ⟨s5, A5, n5, c5, rfl, h5, hx0⟩; have E0_6 := Ext.trans ES hx0)
    refine hK.out _ _ E0_6 ?_;clear hK K
    try simp only [zP]
    have z0 := (b9.ext E0_6).cell 0 _ rfl;have z1 := (b9.ext E0_6).cell 1 _ rfl;have f0 := (b9.ext E0_6).frozen 0;have f1 := (b9.ext E0_6).frozen 1;refine wpL.tl (i := 7) rfl (fun K hK => ?_);go_simp;refine hK.out _ _ ?_;clear hK K
    try simp only [zP]
    refine wpL.done (by kernel_rfl) ?_ _;clear hQ;refine at_exit (fun U => Ext W U /\ Box U wr.heap.size 28 #[.bool s5, .slice A5 n5 c5] /\ Box U (w.heap.size + 1) 28 #[.bool t, .slice B m d] /\ NI U (zv * fv) (L + F) s5 A5 n5 c5 /\ Fill U W.heap.size n (List.zipWith (fun z f : Int => mkQ (z * f) y) (zs.take k) (fs.take k)) (max (L + F) M)) ?_ ?_
    ·obtain ⟨q1, q2, q3, q4⟩ := fin_dual (s := s5) (A := A5) (n := n5) (c := c5) (b9.ext E0_6)
     unfold set2 at q1 q2 q3 q4;exact ⟨q3 _ (ext.trans E0_6) (by omega), q1, q4 _ _ _ (by omega) (b5.ext E0_6), q2 _ _ _ _ _ _ h5, (hF.ext E0_6).far (fun T cs hb => q4 _ _ _ (by omega) hb) q2⟩
    clear ext b9 b5 hx hF hfk i0' i1' b3;rintro U ⟨ext, b9, b5, hx, hF⟩;have x0 := b9.cell 0 (.bool s5) rfl;have x1 := b9.cell 1 (.slice A5 n5 c5) rfl;have y0 := b5.cell 0 (.bool t) rfl;have y1 := b5.cell 1 (.slice B m d) rfl
    go_wp2_with fail
    refine (p_Make_nz hx (hy.ext (extW.trans ext)) (by omega) (by omega) h0 (hT.ext (extW.trans ext))).mono ?_;rintro e V ⟨s7, A7, n7, c7, t7, B7, m7, d7, rfl, h7, hxt⟩;clear x0 x1 y0 y1 b9;replace hF := hF.ext hxt;replace ext := ext.trans hxt;have hcs := hF.cells (by rw [hkl]; exact hlt);rw [hkl] at hcs;obtain ⟨p0, p1, p2, p3⟩ := hcs;have f0 := hF.frozen (k * 4);have f1 := hF.frozen (k * 4 + 1);have f2 := hF.frozen (k * 4 + 2);have f3 := hF.frozen (k * 4 + 3)
    go_wp2_with fail
    have P := hF.put hkl hlt h7
    go_roundw
    case rel => exact ⟨k + 1, by omega, by go_num, P.2.2.1 _ ext (Nat.le_refl _), by rw [HT.out]; exact P.1⟩
    case measure => simp [intOf]; omega
  ·have hkn : k = n := by omega
   subst hkn;have hml : (List.zipWith (fun z f : Int => mkQ (z * f) y) (zs.take k) (fs.take k)).length = k := by rw [List.length_zipWith, List.length_take, List.length_take, Hlen.out, Hlen'.out]; have := Hnf.out; omega
   have hp := hF.rrow hml;rw [List.take_of_length_le (Nat.le_of_eq Hlen.out)] at hp hml;rw [<- Hlen.out, zipWith_takeR] at hp hml;rw [Hlen.out] at hml;have hI : (k : Int) <= (k : Int) := Int.le_refl _
   go_wp2_with fail
   go_ret
   exact ⟨_, rfl, extW.size, hp, hml, extW.trans ext⟩
end
def partQ (q : Rat) (f : Int) : Rat := mkQ q.num (((q.den : Nat) : Int) * f)
def RetSplitN (zs : List Int) (d n : Nat) (L M : Nat) (w : World) (e : Ending) (w' : World) : Prop :=
 ∃ g s B m k, e = .returned (.tuple #[.slice (some ⟨g, 0, Option.none⟩) n n, .agg #[.bool s, .slice B m k]]) /\ w.heap.size <= g /\ IPol w' (some ⟨g, 0, Option.none⟩) n n zs L /\ NI w' (d : Int) M s B m k /\ Ext w w'
def partL (qs : List Rat) (fs : List Int) : List Rat := List.zipWith partQ qs fs
theorem partQ_one (q : Rat) : partQ q 1 = q := by
 unfold partQ mkQ;rw [Int.mul_one, if_neg (by omega), Int.natAbs_natCast];exact Rat.mkRat_self q
theorem Fill.last {w : World} {g n L k : Nat} {ps : List Rat} {q : Rat} (h : Fill w g n (ps ++ [q]) L) (hk : ps.length = k) : ∃ s A a c t B b d, w.cell? ⟨g, k * 4, none⟩ = some (.bool s) /\ w.cell? ⟨g, k * 4 + 1, none⟩ = some (.slice A a c) /\ w.cell? ⟨g, k * 4 + 2, none⟩ = some (.bool t) /\ w.cell? ⟨g, k * 4 + 3, none⟩ = some (.slice B b d) /\ NR w q L s A a c t B b d := by
 obtain ⟨⟨ds, h1, h2⟩, _⟩ := h;obtain ⟨d1, d2, rfl, h3, h4⟩ := CellsOf.split _ h2;have hl := h3.len;rw [hk] at hl
 cases h4 with
 | cons hq hr =>
  cases hr
  refine ⟨_, _, _, _, _, _, _, _, h1.cell _ _ ?_, h1.cell _ _ ?_, h1.cell _ _ ?_, h1.cell _ _ ?_, hq⟩
  all_goals
   rw [<- hl];simp
theorem Fill.rep {w : World} {g n L k : Nat} {ps : List Rat} {q0 q : Rat} {s t : Bool} {A B : Option Addr} {a c b d : Nat} (h : Fill w g n (ps ++ [q0]) L) (hk : ps.length = k) (hq : NR w q L s A a c t B b d) :
  Fill ((((w.setCell ⟨g, k * 4, none⟩ (.bool s)).setCell ⟨g, k * 4 + 1, none⟩ (.slice A a c)).setCell ⟨g, k * 4 + 2, none⟩ (.bool t)).setCell ⟨g, k * 4 + 3, none⟩ (.slice B b d)) g n (ps ++ [q]) L /\
  (∀ z L s' A' n' c', NI w z L s' A' n' c' -> NI ((((w.setCell ⟨g, k * 4, none⟩ (.bool s)).setCell ⟨g, k * 4 + 1, none⟩ (.slice A a c)).setCell ⟨g, k * 4 + 2, none⟩ (.bool t)).setCell ⟨g, k * 4 + 3, none⟩ (.slice B b d)) z L s' A' n' c') /\
  (∀ W, Ext W w -> W.heap.size <= g -> Ext W ((((w.setCell ⟨g, k * 4, none⟩ (.bool s)).setCell ⟨g, k * 4 + 1, none⟩ (.slice A a c)).setCell ⟨g, k * 4 + 2, none⟩ (.bool t)).setCell ⟨g, k * 4 + 3, none⟩ (.slice B b d))) /\
  (∀ g' T' cs', g' ≠ g -> Box w g' T' cs' -> Box ((((w.setCell ⟨g, k * 4, none⟩ (.bool s)).setCell ⟨g, k * 4 + 1, none⟩ (.slice A a c)).setCell ⟨g, k * 4 + 2, none⟩ (.bool t)).setCell ⟨g, k * 4 + 3, none⟩ (.slice B b d)) g' T' cs') := by
 obtain ⟨⟨ds, h1, h2⟩, hle⟩ := h;have hnw := h2.nwl;obtain ⟨d1, d2, rfl, h3, h4⟩ := CellsOf.split _ h2;have hl := h3.len;rw [hk] at hl;rw [show n - (ps ++ [q0]).length = n - (ps ++ [q]).length by rw [List.length_append, List.length_append]; rfl] at h1
 cases h4 with
 | @cons _ _ s0 A0 a0 c0 t0 B0 b0 d0 cs0 hq0 hr =>
  cases hr
  generalize hm : n - (ps ++ [q]).length = m at h1;have F := ((((FinRow.refl h1 (hnw.append (zeroC_nwl m))).step (k * 4) (v := .bool s) (by intro k h; cases h)).step (k * 4 + 1) (v := .slice A a c) (by intro k h; cases h)).step (k * 4 + 2) (v := .bool t) (by intro k h; cases h)).step (k * 4 + 3) (v := .slice B b d) (by intro k h; cases h)
  have e : (((((d1 ++ [Value.bool s0, Value.slice A0 a0 c0, Value.bool t0, Value.slice B0 b0 d0]) ++ zeroC m).set (k * 4) (Value.bool s)).set (k * 4 + 1) (Value.slice A a c)).set (k * 4 + 2) (Value.bool t)).set (k * 4 + 3) (Value.slice B b d) = (d1 ++ [Value.bool s, Value.slice A a c, Value.bool t, Value.slice B b d]) ++ zeroC m := by
   rw [show (d1 ++ [Value.bool s0, Value.slice A0 a0 c0, Value.bool t0, Value.slice B0 b0 d0]) ++ zeroC m = d1 ++ Value.bool s0 :: Value.slice A0 a0 c0 :: Value.bool t0 :: Value.slice B0 b0 d0 :: zeroC m by simp];rw [set_at _ hl];rw [show d1 ++ Value.bool s :: Value.slice A0 a0 c0 :: Value.bool t0 :: Value.slice B0 b0 d0 :: zeroC m = (d1 ++ [Value.bool s]) ++ Value.slice A0 a0 c0 :: Value.bool t0 :: Value.slice B0 b0 d0 :: zeroC m by simp];rw [set_at (k * 4 + 1) (by simp [hl])];rw [show (d1 ++ [Value.bool s]) ++ Value.slice A a c :: Value.bool t0 :: Value.slice B0 b0 d0 :: zeroC m = (d1 ++ [Value.bool s, Value.slice A a c]) ++ Value.bool t0 :: Value.slice B0 b0 d0 :: zeroC m by simp];rw [set_at (k * 4 + 2) (by simp [hl])];rw [show (d1 ++ [Value.bool s, Value.slice A a c]) ++ Value.bool t :: Value.slice B0 b0 d0 :: zeroC m = (d1 ++ [Value.bool s, Value.slice A a c, Value.bool t]) ++ Value.slice B0 b0 d0 :: zeroC m by simp];rw [set_at (k * 4 + 3) (by simp [hl])];simp
  rw [e] at F;refine ⟨⟨⟨_, ?_, (h3.ni F.ni).append (.cons ⟨F.ni _ _ _ _ _ _ hq.num, F.ni _ _ _ _ _ _ hq.den⟩ .nil)⟩, by rw [List.length_append] at hle ⊢; exact hle⟩, F.ni, F.ext, F.far⟩;rw [hm];exact F.box
section
variable {w w' : World} {q x : Rat} {L M : Nat} {s t : Bool} {A B : Option Addr} {n c m d : Nat} {sx tx : Bool} {Ax Bx : Option Addr} {nx cx mx dx : Nat} {qs ps : List Rat} {rs : List RawR} {ts us : List (List RawR)}
set_option maxRecDepth 100000 in
theorem p_splitT {Ar Af : Option Addr} {nr cr nf cf F P : Nat} {fs : List Int} (h : Pol w A n c qs L) (hf : IPol w Af nf cf fs F) (hnf : n = nf) (hfp : ∀ f ∈ fs, 0 < f) (hP : P = L + F) (hP1 : P <= 1400) (hP2 : 2 <= P) (h0 : 0 < n) (hn : n <= 16) {G : Nat} (hG : denP (partL qs fs) < 4294967296 ^ G) (hG1 : G <= 2900) (hG2 : 2 <= G) (hT : Tab w) : Calls Tryz.prog 66 #[.agg #[.slice Ar nr cr, .slice Af nf cf], .slice A n c] w (RetSplitN (numsP (partL qs fs)) (denP (partL qs fs)) n (G + P + 2) G w) := by
 have hmk := mk_rats n (by omega);have hmk2 := mk_ints n (by omega);have Hlen := Lib.hid h.len;have Hlen' := Lib.hid (hf.len.trans hnf.symm);have hpl : (partL qs fs).length = n := by unfold partL; rw [List.length_zipWith, Hlen.out, Hlen'.out, Nat.min_self]
 have Hpl := Lib.hid hpl;have Hnf := Lib.hid hnf;have hnf1 : nf <= 16 := by omega
 have hLP : L + F <= P := by omega
 obtain ⟨b', off', rfl, hr'⟩ := hf.at_ (fun e => by have := hf.len; rw [e] at this; simp at this; omega);have HGT := Lib.hid (fun j : Nat => show denP ((partL qs fs).take j) < 4294967296 ^ G from Nat.lt_of_le_of_lt (Nat.le_of_dvd (denP_pos _) (denP_take _ j)) hG);clear hpl hnf hP hG
 go_enter Tryz.func66, Tryz.ntmps66
 go_upto_region 1 with (fail)
 obtain ⟨W, hW, extW, b2, b5, hzW⟩ := box2 w 72 28 #[.slice Ar nr cr, .slice (some ⟨b', off', Option.none⟩) nf cf] #[Value.bool false, Value.slice Option.none 0 0];rw [<- hW];have hgp : W.heap.size = w.heap.size + 2 := by rw [hW]; simp
 clear hW;have ha0 := (Ext.refl W).alloc (.cells (zeroC n).toArray 30);have hF0 := Fill.new W n P
 go_wp2_with fail
 refine (p_FromInt 1 (by omega) (by omega)).mono ?_;rintro e W1 ⟨s1, A1, n1, c1, rfl, h1, hx1⟩
 go_upto_region 3 with (fail)
 have ha := (Ext.refl W1).alloc (.cells #[.bool s1, .slice A1 n1 c1] 28);refine at_world (fun V => Ext w V /\ Box V w.heap.size 72 #[.slice Ar nr cr, .slice (some ⟨b', off', Option.none⟩) nf cf] /\ Box V (w.heap.size + 1) 28 #[Value.bool false, Value.slice Option.none 0 0] /\ Box V W1.heap.size 28 #[.bool s1, .slice A1 n1 c1] /\ NI V 1 2 s1 A1 n1 c1 /\ Fill V W.heap.size n [] P) ⟨((extW.trans ha0).trans hx1).trans ha, ((b2.ext ha0).ext hx1).ext ha, ((b5.ext ha0).ext hx1).ext ha, Box.new W1 _ _, h1.ext ha, (hF0.ext hx1).ext ha⟩ ?_
 have hg7 : w.heap.size + 2 < W1.heap.size := by
  have h8 := hx1.size;have h9 := World.size_alloc W (.cells (zeroC n).toArray 30);omega
 clear ha b2 b5 hzW hx1 extW h1 ha0 hF0;rw [hgp];clear hgp;generalize W1.heap.size = g7 at hg7 ⊢;rintro V ⟨ext0, b2, b5, b7, h1, hF⟩
 go_wp2_with fail
 go_loopw [20] (fun i wr => ∃ (k : Nat) (sd : Bool) (Ad : Option Addr) (nd cd : Nat), k <= n /\ i = .int .i64 (k : Int) /\ Ext w wr /\ Box wr w.heap.size 72 #[.slice Ar nr cr, .slice (some ⟨b', off', Option.none⟩) nf cf] /\ Box wr (w.heap.size + 1) 28 #[Value.bool false, Value.slice Option.none 0 0] /\ Box wr g7 28 #[.bool sd, .slice Ad nd cd] /\ NI wr ((denP ((partL qs fs).take k) : Nat) : Int) G sd Ad nd cd /\ Fill wr (w.heap.size + 2) n ((partL qs fs).take k) P) (fun i _ => n - (intOf i).toNat)
 case atStart => exact ⟨0, s1, A1, n1, c1, Nat.zero_le _, rfl, ext0, b2, b5, b7, by rw [List.take_zero]; exact h1.le hG2, by rw [List.take_zero]; exact hF⟩
 case round =>
  clear b2 b5 b7 h1 ext0 hF;obtain ⟨k, sd, Ad, nd, cd, hk, rfl, EW, b2, b5, b7, hd, hF⟩ := hrel;have hs7 := b7.lt;have hsp := hF.lt
  by_cases hlt : k < n
  ·have hj : k < qs.length := by rw [Hlen.out]; exact hlt
   have hj' : k < fs.length := by rw [Hlen'.out]; exact hlt
   have hjp : k < (partL qs fs).length := by rw [Hpl.out]; exact hlt
   have hI : (k : Int) < (n : Int) := by omega
   have hI2 : (k : Int) < (nf : Int) := by have := Hnf.out; omega
   obtain ⟨b, off, rfl, hr⟩ := h.at_ (fun e => by rw [e] at hj; exact absurd hj (Nat.not_lt_zero _));obtain ⟨sx, Ax, nx, cx, tx, Bx, mx, dx, e0, e1, e2, e3, hx⟩ := hr.at_ k hj;replace e0 := EW.cellv e0;replace e1 := EW.cellv e1;replace e2 := EW.cellv e2;replace e3 := EW.cellv e3;have e0' : wr.cell? ⟨b, off + k * 4, none⟩ = some (.bool sx) := by rw [Nat.mul_comm]; exact e0
   have e1' : wr.cell? ⟨b, off + k * 4 + 1, none⟩ = some (.slice Ax nx cx) := by rw [Nat.mul_comm]; exact e1
   have e2' : wr.cell? ⟨b, off + k * 4 + 2, none⟩ = some (.bool tx) := by rw [Nat.mul_comm]; exact e2
   have e3' : wr.cell? ⟨b, off + k * 4 + 3, none⟩ = some (.slice Bx mx dx) := by rw [Nat.mul_comm]; exact e3
   clear e0 e1 e2 e3;obtain ⟨sf, Ag, ng, cg, i0, i1, hfk⟩ := hr'.at_ k hj';rw [Nat.mul_comm] at i0 i1
   have HT := Lib.hid (show (partL qs fs).take (k + 1) = (partL qs fs).take k ++ [partQ qs[k] fs[k]] by
    rw [List.take_succ_eq_append_getElem hjp]
    have h9 : (partL qs fs)[k]? = some (partQ qs[k] fs[k]) := by
     unfold partL;rw [List.getElem?_zipWith, List.getElem?_eq_getElem hj, List.getElem?_eq_getElem hj']
    rw [List.getElem?_eq_getElem hjp] at h9;rw [Option.some.inj h9])
   have hkl : ((partL qs fs).take k).length = k := by rw [List.length_take, Hpl.out]; omega
   have hfv := hfp fs[k] (List.getElem_mem hj');generalize qs[k] = q at hx HT;generalize fs[k] = fv at hfk HT hfv;obtain ⟨pk, hpk⟩ : ∃ pk, pk = partQ q fv := ⟨_, rfl⟩;rw [<- hpk] at HT;have HPK := Lib.hid hpk;clear hpk;have HG := Lib.hid (show ((Nat.gcd (denP ((partL qs fs).take k)) pk.den : Nat) : Int) ≠ 0 /\ ((Nat.gcd (denP ((partL qs fs).take k)) pk.den : Nat) : Int) ∣ ((pk.den : Nat) : Int) from ⟨by have := Nat.gcd_pos_of_pos_right (denP ((partL qs fs).take k)) pk.den_pos; omega, Int.natCast_dvd_natCast.2 (Nat.gcd_dvd_right _ _)⟩);have HYN := Lib.hid (show ((q.den : Nat) : Int) * fv ≠ 0 from Int.mul_ne_zero (by have := q.den_pos; omega) (by omega))
   go_upto_region 6 with (fail)
   obtain ⟨V1, hV, ext1, b9, hz9⟩ := box1 wr 30 #[.bool sx, .slice Ax nx cx, .bool tx, .slice Bx mx dx];rw [<- hV];clear hV hz9 e0' e1' e2' e3';have hg9 : wr.heap.size = wr.heap.size := rfl;replace EW := EW.trans ext1;replace b2 := b2.ext ext1;replace b5 := b5.ext ext1;replace b7 := b7.ext ext1;replace hd := hd.ext ext1;replace hF := hF.ext ext1;clear ext1 hg9;generalize wr.heap.size = g9 at *;have x0 := b9.cell 0 (.bool sx) rfl;have x1 := b9.cell 1 (.slice Ax nx cx) rfl;have x2 := b9.cell 2 (.bool tx) rfl;have x3 := b9.cell 3 (.slice Bx mx dx) rfl;have hcs := hF.cells (by rw [hkl]; exact hlt);rw [hkl] at hcs;obtain ⟨p0, p1, p2, p3⟩ := hcs;have f0 := hF.frozen (k * 4);have f1 := hF.frozen (k * 4 + 1);have f2 := hF.frozen (k * 4 + 2);have f3 := hF.frozen (k * 4 + 3)
   go_upto_region 7 with (fail)
   have PU := hF.put hkl hlt ((hx.ext EW).le (show L <= P by omega));refine at_world (fun U => Ext w U /\ Box U w.heap.size 72 #[.slice Ar nr cr, .slice (some ⟨b', off', Option.none⟩) nf cf] /\ Box U (w.heap.size + 1) 28 #[Value.bool false, Value.slice Option.none 0 0] /\ Box U g7 28 #[.bool sd, .slice Ad nd cd] /\ NI U ((denP ((partL qs fs).take k) : Nat) : Int) G sd Ad nd cd /\ Box U g9 30 #[.bool sx, .slice Ax nx cx, .bool tx, .slice Bx mx dx] /\ Fill U (w.heap.size + 2) n ((partL qs fs).take k ++ [q]) P) ⟨PU.2.2.1 _ EW (by omega), PU.2.2.2 _ _ _ (by omega) b2, PU.2.2.2 _ _ _ (by omega) b5, PU.2.2.2 _ _ _ (by omega) b7, PU.2.1 _ _ _ _ _ _ hd, PU.2.2.2 _ _ _ (by omega) b9, PU.1⟩ ?_;clear PU p0 p1 p2 p3 f0 f1 f2 f3 x0 x1 x2 x3 EW b2 b5 b7 hd b9 hF;rintro U0 ⟨EW, b2, b5, b7, hd, b9, hF⟩;have i0' := EW.cellv i0;have i1' := EW.cellv i1;have w0 := b2.cell 0 (.slice Ar nr cr) rfl;have w1 := b2.cell 1 (.slice (some ⟨b', off', Option.none⟩) nf cf) rfl
   by_cases hone : fv = 1
   ·have H1 := Lib.hid hone
    go_wp2_with fail
    refine (p_isOneT (hfk.ext EW)).mono ?_;rintro e U2 ⟨rfl, hx1⟩;rw [decide_eq_true H1.out];clear w0 w1 i0' i1' b9;replace EW := EW.trans hx1;replace b2 := b2.ext hx1;replace b5 := b5.ext hx1;replace b7 := b7.ext hx1;replace hd := hd.ext hx1;replace hF := hF.ext hx1;rw [show q = pk by rw [HPK.out, H1.out, partQ_one]] at hF;clear hx1 hone;obtain ⟨s8, A8, n8, c8, t8, B8, m8, d8, _, _, p2, p3, he⟩ := hF.last hkl;have x2 := b7.cell 0 (.bool sd) rfl
    go_upto_region 9 with (fail)
    have ES0 := Ext.refl U2;refine wp_region_held_drew (S := Ext U2) (by kernel_rfl) ES0.drew (fun ES => ?_);clear ES0;refine Late.s0 ES (fun hAl hQ => ?_);refine Late.u 0 53 hQ ?_
    try simp only [zP]
    refine Late.u 1 54 hQ ?_
    try simp only [zP]
    refine Late.t 5 58 ?v_2 hQ ?y_2 ?_
    case y_2 => intro w' hSw;have q0_ := hSw.cellv p2;have q1_ := hSw.cellv p3;have k00 := (b7.ext hSw).c2;go_simp;try rfl
    try simp only [zP]
    refine Late.u 2 55 hQ ?_
    try simp only [zP]
    refine Late.u 3 56 hQ ?_
    try simp only [zP]
    refine Late.t 4 57 ?v_5 hQ ?y_5 ?_
    case y_5 => intro w' hSw;have q0_ := hSw.cellv p2;have q1_ := hSw.cellv p3;have k00 := (b7.ext hSw).c2;go_simp;try rfl
    try simp only [zP]
    refine Late.cl (i := 6) rfl hAl hQ (fun w6 e6 E6 K hK => ?_);go_simp
    (go_at_call 104; refine (p_Cmp ((he.den.ext E6)) (hd.ext E6) (by omega) (by omega)).mono ?_; rintro e wk6 ⟨rfl, hx6⟩)
    refine hK.out _ _ hx6 ?_;clear hK K
    try simp only [zP]
    refine Late.u 7 60 hQ ?_
    try simp only [zP]
    refine Late.d0 (fun wz ez Ez => ?_);clear hAl hQ ES;replace EW := EW.trans Ez;replace b2 := b2.ext Ez;replace b5 := b5.ext Ez;replace b7 := b7.ext Ez;replace hd := hd.ext Ez;replace hF := hF.ext Ez;replace he := he.ext Ez;replace p2 := Ez.cellv p2;replace p3 := Ez.cellv p3;clear Ez ez x2
    by_cases heq : (((pk.den : Nat) : Int) - ((denP ((partL qs fs).take k) : Nat) : Int)).sign = 0
    ·have HEQ := Lib.hid heq
     rw [heq]
     go_wp2_with fail
     go_roundw
     case rel =>
      have hdd : denP ((partL qs fs).take (k + 1)) = denP ((partL qs fs).take k) := by
       rw [HT.out, denP_snoc];have h9 := Int.sign_eq_zero_iff_zero.1 HEQ.out;rw [show pk.den = denP ((partL qs fs).take k) by omega, Nat.lcm_self]
      exact ⟨k + 1, sd, Ad, nd, cd, by omega, by go_num, EW, b2, b5, b7, by rw [hdd]; exact hd, by rw [HT.out]; exact hF⟩
     case measure => simp [intOf]; omega
    ·obtain ⟨S, hS, dS⟩ : ∃ S, (((pk.den : Nat) : Int) - ((denP ((partL qs fs).take k) : Nat) : Int)).sign = S /\ (S == 0) = false := ⟨_, rfl, beq_eq_false_iff_ne.2 heq⟩
     have HS := Lib.hid hS;rw [hS];clear hS heq
     go_upto_region 10 with (fail)
     refine wpL.st 15 (fun hQ ES => ?_);refine wpL.t 0 61 ?v_7 hQ ?y_7 ES ?_
     case y_7 => intro w' hSw;have q0_ := hSw.cellv p2;have q1_ := hSw.cellv p3;have k00 := (b7.ext hSw).c2;go_simp;try rfl
     try simp only [zP]
     refine wpL.u 1 62 hQ ES ?_
     try simp only [zP]
     refine wpL.u 2 63 hQ ES ?_
     try simp only [zP]
     refine wpL.t 6 67 ?v_a hQ ?y_a ES ?_
     case y_a => intro w' hSw;have q0_ := hSw.cellv p2;have q1_ := hSw.cellv p3;have k00 := (b7.ext hSw).c2;go_simp;try rfl
     try simp only [zP]
     refine wpL.u 7 68 hQ ES ?_
     try simp only [zP]
     refine wpL.u 8 69 hQ ES ?_
     try simp only [zP]
     refine wpL.u 3 64 hQ ES ?_
     try simp only [zP]
     refine wpL.u 9 70 hQ ES ?_
     try simp only [zP]
     refine wpL.u 4 65 hQ ES ?_
     try simp only [zP]
     refine wpL.u 10 71 hQ ES ?_
     try simp only [zP]
     refine wpL.t 5 66 ?v_h hQ ?y_h ES ?_
     case y_h => intro w' hSw;have q0_ := hSw.cellv p2;have q1_ := hSw.cellv p3;have k00 := (b7.ext hSw).c2;go_simp;try rfl
     try simp only [zP]
     refine wpL.t 11 72 ?v_i hQ ?y_i ES ?_
     case y_i => intro w' hSw;have q0_ := hSw.cellv p2;have q1_ := hSw.cellv p3;have k00 := (b7.ext hSw).c2;go_simp;try rfl
     try simp only [zP]
     refine wpL.cl (i := 12) rfl (fun K hK => ?_);go_simp
     (go_at_call 88; refine (p_GCD (hd.ext ES) (he.den.ext ES) (by omega) (by omega) (hT.ext (EW.trans ES))).mono ?_; rintro e wa ⟨s1, A1, n1, c1, rfl, h1, hx0⟩; rw [Int.natAbs_natCast, Int.natAbs_natCast] at h1; have E0_10 := Ext.trans ES hx0)
     refine hK.out _ _ E0_10 ?_;clear hK K
     try simp only [zP]
     refine wpL.cl (i := 13) rfl (fun K hK => ?_);go_simp
     (go_at_call 105; refine (p_exactT (he.den.ext E0_10) h1 (by omega) (by omega) HG.out.1 HG.out.2).mono ?_; rintro e wb ⟨s2, A2, n2, c2, rfl, h2, hx1⟩; have E1_10 := Ext.trans E0_10 hx1)
     refine hK.out _ _ E1_10 ?_;clear hK K
     try simp only [zP]
     refine wpL.cl (i := 14) rfl (fun K hK => ?_);go_simp
     (go_at_call 70; refine (p_MulG (hd.ext E1_10) h2 (by omega) (by omega)).mono ?_; rintro e wc ⟨s3, A3, n3, c3, rfl, h3, hx2⟩; have E2_10 := Ext.trans E1_10 hx2)
     refine hK.out _ _ E2_10 ?_;clear hK K
     try simp only [zP]
     have z0 := (b7.ext E2_10).cell 0 _ rfl;have z1 := (b7.ext E2_10).cell 1 _ rfl;have f0 := (b7.ext E2_10).frozen 0;have f1 := (b7.ext E2_10).frozen 1;refine wpL.tl (i := 15) rfl (fun K hK => ?_);go_simp;refine hK.out _ _ ?_;clear hK K
     try simp only [zP]
     refine wpL.done (by kernel_rfl) ?_ _;clear hQ
     go_wp2_with fail
     obtain ⟨q1, q2, q3, q4⟩ := fin_dual (s := s3) (A := A3) (n := n3) (c := c3) (b7.ext E2_10);unfold set2 at q1 q2 q3 q4;have hdk := q2 _ _ _ _ _ _ h3;rw [lcm_step, <- denP_snoc, <- HT.out] at hdk;have F1 := q3 _ (EW.trans E2_10) (by omega);have F2 := q4 _ _ _ (by omega) (b2.ext E2_10);have F3 := q4 _ _ _ (by omega) (b5.ext E2_10);have F4 := (hF.ext E2_10).far (fun T cs hb => q4 _ _ _ (by omega) hb) q2
     go_roundw
     case rel => exact ⟨k + 1, s3, A3, n3, c3, by omega, by go_num, F1, F2, F3, q1, hdk.tight' (by rw [Int.natAbs_natCast]; exact HGT.out (k + 1)), by rw [HT.out]; exact F4⟩
     case measure => simp [intOf]; omega
   ·have H1 := Lib.hid hone
    clear hone
    go_wp2_with fail
    refine (p_isOneT (hfk.ext EW)).mono ?_;rintro e U1 ⟨rfl, hx1⟩;rw [decide_eq_false H1.out];clear w0 w1;replace EW := EW.trans hx1;replace b2 := b2.ext hx1;replace b5 := b5.ext hx1;replace b7 := b7.ext hx1;replace b9 := b9.ext hx1;replace hd := hd.ext hx1;replace hF := hF.ext hx1;replace i0' := hx1.cellv i0';replace i1' := hx1.cellv i1';clear hx1
    go_upto_region 8 with (fail)
    refine wpL.st 17 (fun hQ ES => ?_);refine wpL.u 0 37 hQ ES ?_
    try simp only [zP]
    refine wpL.u 1 38 hQ ES ?_
    try simp only [zP]
    refine wpL.u 2 39 hQ ES ?_
    try simp only [zP]
    refine wpL.u 4 41 hQ ES ?_
    try simp only [zP]
    refine wpL.u 6 43 hQ ES ?_
    try simp only [zP]
    refine wpL.u 8 45 hQ ES ?_
    try simp only [zP]
    refine wpL.t 3 40 ?v_p hQ ?y_p ES ?_
    case y_p => intro w' hSw;have q0_ := hSw.cellv i0';have q1_ := hSw.cellv i1';have k00 := (b9.ext hSw).c4;have k10 := (b2.ext hSw).c2;go_simp;try rfl
    try simp only [zP]
    refine wpL.t 5 42 ?v_q hQ ?y_q ES ?_
    case y_q => intro w' hSw;have q0_ := hSw.cellv i0';have q1_ := hSw.cellv i1';have k00 := (b9.ext hSw).c4;have k10 := (b2.ext hSw).c2;go_simp;try rfl
    try simp only [zP]
    refine wpL.t 7 44 ?v_r hQ ?y_r ES ?_
    case y_r => intro w' hSw;have q0_ := hSw.cellv i0';have q1_ := hSw.cellv i1';have k00 := (b9.ext hSw).c4;have k10 := (b2.ext hSw).c2;go_simp;try rfl
    try simp only [zP]
    refine wpL.u 9 46 hQ ES ?_
    try simp only [zP]
    refine wpL.t 10 47 ?v_t hQ ?y_t ES ?_
    case y_t => intro w' hSw;have q0_ := hSw.cellv i0';have q1_ := hSw.cellv i1';have k00 := (b9.ext hSw).c4;have k10 := (b2.ext hSw).c2;go_simp;try rfl
    try simp only [zP]
    refine wpL.cl (i := 11) rfl (fun K hK => ?_);go_simp
    (go_at_call 70; refine (p_MulG ((hx.den.ext EW).ext ES) ((hfk.ext EW).ext ES) (by omega) (by omega)).mono ?_; rintro e wa ⟨s5, A5, n5, c5, rfl, h5, hx0⟩; have E0_8 := Ext.trans ES hx0)
    refine hK.out _ _ E0_8 ?_;clear hK K
    try simp only [zP]
    refine wpL.cl (i := 12) rfl (fun K hK => ?_);go_simp
    (go_at_call 103; refine (p_Make_nz ((hx.num.ext EW).ext E0_8) h5 (by omega) (by omega) HYN.out (hT.ext (EW.trans E0_8))).mono ?_; rintro e wb ⟨s7, A7, n7, c7, t7, B7, m7, d7, rfl, h7, hx1⟩; have E1_8 := Ext.trans E0_8 hx1)
    refine hK.out _ _ E1_8 ?_;clear hK K
    try simp only [zP]
    refine wpL.u 13 36 hQ E1_8 ?_
    try simp only [zP]
    refine wpL.u 14 50 hQ E1_8 ?_
    try simp only [zP]
    refine wpL.takeT (i := 15) (d := some 51) (v := ?v_w) rfl rfl (by kernel_rfl) (by kernel_rfl) (by kernel_rfl) (by kernel_rfl) hQ (Or.inl ⟨by rfl, ?y_w⟩) (Or.inr E1_8) ?r_w
    case y_w => intro w' hSw;go_simp;try rfl
    try simp only [zP]
    refine wpL.u 16 52 hQ E1_8 ?_
    try simp only [zP]
    have hF8 := hF.ext E1_8;obtain ⟨s8, A8, n8, c8, t8, B8, m8, d8, p0, p1, p2, p3, _⟩ := hF8.last hkl;have f0 := hF8.frozen (k * 4);have f1 := hF8.frozen (k * 4 + 1);have f2 := hF8.frozen (k * 4 + 2);have f3 := hF8.frozen (k * 4 + 3);refine wpL.tl (i := 17) rfl (fun K hK => ?_);go_simp;refine hK.out _ _ ?_;clear hK K
    try simp only [zP]
    refine wpL.done (by kernel_rfl) ?_ _;clear hQ;refine at_exit (fun U => Ext w U /\ Box U w.heap.size 72 #[.slice Ar nr cr, .slice (some ⟨b', off', Option.none⟩) nf cf] /\ Box U (w.heap.size + 1) 28 #[Value.bool false, Value.slice Option.none 0 0] /\ Box U g7 28 #[.bool sd, .slice Ad nd cd] /\ NI U ((denP ((partL qs fs).take k) : Nat) : Int) G sd Ad nd cd /\ Fill U (w.heap.size + 2) n ((partL qs fs).take k ++ [pk]) P) ?_ ?_
    ·have PU := hF8.rep hkl (h7.leT (M := P) (by omega))
     rw [show mkQ q.num (((q.den : Nat) : Int) * fv) = pk from HPK.out.symm] at PU;exact ⟨PU.2.2.1 _ (EW.trans E1_8) (by omega), PU.2.2.2 _ _ _ (by omega) (b2.ext E1_8), PU.2.2.2 _ _ _ (by omega) (b5.ext E1_8), PU.2.2.2 _ _ _ (by omega) (b7.ext E1_8), PU.2.1 _ _ _ _ _ _ (hd.ext E1_8), PU.1⟩
    clear p0 p1 p2 p3 f0 f1 f2 f3 EW b2 b5 b7 hd b9 hF hF8 i0' i1' h5 h7;rintro U2 ⟨EW, b2, b5, b7, hd, hF⟩;obtain ⟨s8, A8, n8, c8, t8, B8, m8, d8, _, _, p2, p3, he⟩ := hF.last hkl;have x2 := b7.cell 0 (.bool sd) rfl
    go_upto_region 9 with (fail)
    have ES0 := Ext.refl U2;refine wp_region_held_drew (S := Ext U2) (by kernel_rfl) ES0.drew (fun ES => ?_);clear ES0;refine Late.s0 ES (fun hAl hQ => ?_);refine Late.u 0 53 hQ ?_
    try simp only [zP]
    refine Late.u 1 54 hQ ?_
    try simp only [zP]
    refine Late.t 5 58 ?v_10 hQ ?y_10 ?_
    case y_10 => intro w' hSw;have q0_ := hSw.cellv p2;have q1_ := hSw.cellv p3;have k00 := (b7.ext hSw).c2;go_simp;try rfl
    try simp only [zP]
    refine Late.u 2 55 hQ ?_
    try simp only [zP]
    refine Late.u 3 56 hQ ?_
    try simp only [zP]
    refine Late.t 4 57 ?v_13 hQ ?y_13 ?_
    case y_13 => intro w' hSw;have q0_ := hSw.cellv p2;have q1_ := hSw.cellv p3;have k00 := (b7.ext hSw).c2;go_simp;try rfl
    try simp only [zP]
    refine Late.cl (i := 6) rfl hAl hQ (fun w6 e6 E6 K hK => ?_);go_simp
    (go_at_call 104; refine (p_Cmp ((he.den.ext E6)) (hd.ext E6) (by omega) (by omega)).mono ?_; rintro e wk6 ⟨rfl, hx6⟩)
    refine hK.out _ _ hx6 ?_;clear hK K
    try simp only [zP]
    refine Late.u 7 60 hQ ?_
    try simp only [zP]
    refine Late.d0 (fun wz ez Ez => ?_);clear hAl hQ ES;replace EW := EW.trans Ez;replace b2 := b2.ext Ez;replace b5 := b5.ext Ez;replace b7 := b7.ext Ez;replace hd := hd.ext Ez;replace hF := hF.ext Ez;replace he := he.ext Ez;replace p2 := Ez.cellv p2;replace p3 := Ez.cellv p3;clear Ez ez x2
    by_cases heq : (((pk.den : Nat) : Int) - ((denP ((partL qs fs).take k) : Nat) : Int)).sign = 0
    ·have HEQ := Lib.hid heq
     rw [heq]
     go_wp2_with fail
     go_roundw
     case rel =>
      have hdd : denP ((partL qs fs).take (k + 1)) = denP ((partL qs fs).take k) := by
       rw [HT.out, denP_snoc];have h9 := Int.sign_eq_zero_iff_zero.1 HEQ.out;rw [show pk.den = denP ((partL qs fs).take k) by omega, Nat.lcm_self]
      exact ⟨k + 1, sd, Ad, nd, cd, by omega, by go_num, EW, b2, b5, b7, by rw [hdd]; exact hd, by rw [HT.out]; exact hF⟩
     case measure => simp [intOf]; omega
    ·obtain ⟨S, hS, dS⟩ : ∃ S, (((pk.den : Nat) : Int) - ((denP ((partL qs fs).take k) : Nat) : Int)).sign = S /\ (S == 0) = false := ⟨_, rfl, beq_eq_false_iff_ne.2 heq⟩
     have HS := Lib.hid hS;rw [hS];clear hS heq
     go_upto_region 10 with (fail)
     refine wpL.st 15 (fun hQ ES => ?_);refine wpL.t 0 61 ?v_15 hQ ?y_15 ES ?_
     case y_15 => intro w' hSw;have q0_ := hSw.cellv p2;have q1_ := hSw.cellv p3;have k00 := (b7.ext hSw).c2;go_simp;try rfl
     try simp only [zP]
     refine wpL.u 1 62 hQ ES ?_
     try simp only [zP]
     refine wpL.u 2 63 hQ ES ?_
     try simp only [zP]
     refine wpL.t 6 67 ?v_18 hQ ?y_18 ES ?_
     case y_18 => intro w' hSw;have q0_ := hSw.cellv p2;have q1_ := hSw.cellv p3;have k00 := (b7.ext hSw).c2;go_simp;try rfl
     try simp only [zP]
     refine wpL.u 7 68 hQ ES ?_
     try simp only [zP]
     refine wpL.u 8 69 hQ ES ?_
     try simp only [zP]
     refine wpL.u 3 64 hQ ES ?_
     try simp only [zP]
     refine wpL.u 9 70 hQ ES ?_
     try simp only [zP]
     refine wpL.u 4 65 hQ ES ?_
     try simp only [zP]
     refine wpL.u 10 71 hQ ES ?_
     try simp only [zP]
     refine wpL.t 5 66 ?v_1f hQ ?y_1f ES ?_
     case y_1f => intro w' hSw;have q0_ := hSw.cellv p2;have q1_ := hSw.cellv p3;have k00 := (b7.ext hSw).c2;go_simp;try rfl
     try simp only [zP]
     refine wpL.t 11 72 ?v_1g hQ ?y_1g ES ?_
     case y_1g => intro w' hSw;have q0_ := hSw.cellv p2;have q1_ := hSw.cellv p3;have k00 := (b7.ext hSw).c2;go_simp;try rfl
     try simp only [zP]
     refine wpL.cl (i := 12) rfl (fun K hK => ?_);go_simp
     (go_at_call 88; refine (p_GCD (hd.ext ES) (he.den.ext ES) (by omega) (by omega) (hT.ext (EW.trans ES))).mono ?_; rintro e wa ⟨s1, A1, n1, c1, rfl, h1, hx0⟩; rw [Int.natAbs_natCast, Int.natAbs_natCast] at h1; have E0_10 := Ext.trans ES hx0)
     refine hK.out _ _ E0_10 ?_;clear hK K
     try simp only [zP]
     refine wpL.cl (i := 13) rfl (fun K hK => ?_);go_simp
     (go_at_call 105; refine (p_exactT (he.den.ext E0_10) h1 (by omega) (by omega) HG.out.1 HG.out.2).mono ?_; rintro e wb ⟨s2, A2, n2, c2, rfl, h2, hx1⟩; have E1_10 := Ext.trans E0_10 hx1)
     refine hK.out _ _ E1_10 ?_;clear hK K
     try simp only [zP]
     refine wpL.cl (i := 14) rfl (fun K hK => ?_);go_simp
     (go_at_call 70; refine (p_MulG (hd.ext E1_10) h2 (by omega) (by omega)).mono ?_; rintro e wc ⟨s3, A3, n3, c3, rfl, h3, hx2⟩; have E2_10 := Ext.trans E1_10 hx2)
     refine hK.out _ _ E2_10 ?_;clear hK K
     try simp only [zP]
     have z0 := (b7.ext E2_10).cell 0 _ rfl;have z1 := (b7.ext E2_10).cell 1 _ rfl;have f0 := (b7.ext E2_10).frozen 0;have f1 := (b7.ext E2_10).frozen 1;refine wpL.tl (i := 15) rfl (fun K hK => ?_);go_simp;refine hK.out _ _ ?_;clear hK K
     try simp only [zP]
     refine wpL.done (by kernel_rfl) ?_ _;clear hQ
     go_wp2_with fail
     obtain ⟨q1, q2, q3, q4⟩ := fin_dual (s := s3) (A := A3) (n := n3) (c := c3) (b7.ext E2_10);unfold set2 at q1 q2 q3 q4;have hdk := q2 _ _ _ _ _ _ h3;rw [lcm_step, <- denP_snoc, <- HT.out] at hdk;have F1 := q3 _ (EW.trans E2_10) (by omega);have F2 := q4 _ _ _ (by omega) (b2.ext E2_10);have F3 := q4 _ _ _ (by omega) (b5.ext E2_10);have F4 := (hF.ext E2_10).far (fun T cs hb => q4 _ _ _ (by omega) hb) q2
     go_roundw
     case rel => exact ⟨k + 1, s3, A3, n3, c3, by omega, by go_num, F1, F2, F3, q1, hdk.tight' (by rw [Int.natAbs_natCast]; exact HGT.out (k + 1)), by rw [HT.out]; exact F4⟩
     case measure => simp [intOf]; omega
  ·have hkn : k = n := by omega
   subst hkn;rw [List.take_of_length_le (Nat.le_of_eq Hpl.out)] at hd hF;have hI : (k : Int) <= (k : Int) := Int.le_refl _;have Hnl := Lib.hid ((numsP_len (partL qs fs)).trans Hpl.out)
   go_wp2_with fail
   obtain ⟨g11, hg11⟩ : ∃ g, wr.heap.size = g := ⟨_, rfl⟩;have hgr := EW.size;rw [hg11] at hgr hs7 hsp
   try rw [hg11]
   go_loopw [82] (fun i wq => ∃ (j : Nat), j <= k /\ i = .int .i64 (j : Int) /\ Ext w wq /\ Box wq w.heap.size 72 #[.slice Ar nr cr, .slice (some ⟨b', off', Option.none⟩) nf cf] /\ Box wq (w.heap.size + 1) 28 #[Value.bool false, Value.slice Option.none 0 0] /\ Box wq g7 28 #[.bool sd, .slice Ad nd cd] /\ NI wq ((denP (partL qs fs) : Nat) : Int) G sd Ad nd cd /\ Fill wq (w.heap.size + 2) k (partL qs fs) P /\ IRow wq g11 ((numsP (partL qs fs)).take j ++ List.replicate (k - j) 0) (G + P + 2)) (fun i _ => k - (intOf i).toNat)
   case atStart =>
    have ha := (Ext.refl wr).alloc (.cells (zeroI k).toArray 28);exact ⟨0, Nat.zero_le _, rfl, EW.trans ha, b2.ext ha, b5.ext ha, b7.ext ha, hd.ext ha, hF.ext ha, by rw [List.take_zero, List.nil_append, Nat.sub_zero]; rw [<- hg11]; exact IRow.new wr k _⟩
   case round =>
    clear EW b2 b5 b7 hd hF;obtain ⟨j, hj, rfl, EW, b2, b5, b7, hd, hF, hR⟩ := hrel;have hs11 := hR.lt
    by_cases hlt : j < k
    ·have hjq : j < (partL qs fs).length := by rw [Hpl.out]; exact hlt
     have hI : (j : Int) < (k : Int) := by omega
     obtain ⟨sx, Ax, nx, cx, tx, Bx, mx, dx, e0, e1, e2, e3, hx⟩ := (hF.rrow Hpl.out).get hjq;have hjn : j < (numsP (partL qs fs)).length := by rw [Hnl.out]; exact hlt
     have hkl : j < ((numsP (partL qs fs)).take j ++ List.replicate (k - j) 0).length := by rw [List.length_append, List.length_take, List.length_replicate, Hnl.out]; omega
     have HS := Lib.hid (set_fill hjn Hnl.out);have HV := Lib.hid (numsP_at (partL qs fs) j hjn hjq);have HD := Lib.hid (show (((partL qs fs)[j].den : Nat) : Int) ≠ 0 /\ (((partL qs fs)[j].den : Nat) : Int) ∣ ((denP (partL qs fs) : Nat) : Int) from ⟨by have := (partL qs fs)[j].den_pos; omega, Int.natCast_dvd_natCast.2 (denP_dvd (List.getElem_mem hjq))⟩);generalize (partL qs fs)[j] = q at hx HV HD;obtain ⟨fac, hfac⟩ : ∃ fac, fac = ((denP (partL qs fs) : Nat) : Int) / ((q.den : Nat) : Int) := ⟨_, rfl⟩;rw [<- hfac] at HV;have HFC := Lib.hid hfac;clear hfac
     go_upto_region 16 with (fail)
     obtain ⟨V1, hV, ext1, b9, hz9⟩ := box1 wr 30 #[.bool sx, .slice Ax nx cx, .bool tx, .slice Bx mx dx];rw [<- hV];clear hV hz9 e0 e1 e2 e3;replace hx := hx.ext ext1;replace b2 := b2.ext ext1;replace b5 := b5.ext ext1;replace b7 := b7.ext ext1;replace hd := hd.ext ext1;replace hF := hF.ext ext1;replace hR := hR.ext ext1;replace EW := EW.trans ext1;clear ext1;generalize wr.heap.size = g12 at *;have x0 := b9.cell 0 (.bool sx) rfl;have x1 := b9.cell 1 (.slice Ax nx cx) rfl;have x2 := b9.cell 2 (.bool tx) rfl;have x3 := b9.cell 3 (.slice Bx mx dx) rfl;obtain ⟨sz, Az, nz, cz, z0, z1, _⟩ := hR.get hkl;have f0 := hR.frozen (j * 2);have f1 := hR.frozen (j * 2 + 1)
     go_upto_region 17 with (fail)
     have PP := hR.put hkl (hx.num.le (show P <= G + P + 2 by omega));have hx9 := PP.2.1 _ _ _ _ _ _ hx.num;have hy9 := PP.2.1 _ _ _ _ _ _ hx.den;refine at_world (fun U => Ext w U /\ Box U w.heap.size 72 #[.slice Ar nr cr, .slice (some ⟨b', off', Option.none⟩) nf cf] /\ Box U (w.heap.size + 1) 28 #[Value.bool false, Value.slice Option.none 0 0] /\ Box U g7 28 #[.bool sd, .slice Ad nd cd] /\ NI U ((denP (partL qs fs) : Nat) : Int) G sd Ad nd cd /\ Fill U (w.heap.size + 2) k (partL qs fs) P /\ IRow U g11 (((numsP (partL qs fs)).take j ++ List.replicate (k - j) 0).set j q.num) (G + P + 2) /\ Box U g12 30 #[.bool sx, .slice Ax nx cx, .bool tx, .slice Bx mx dx] /\ NI U q.num P sx Ax nx cx /\ NI U ((q.den : Nat) : Int) P tx Bx mx dx) ⟨PP.2.2.1 _ EW hgr, PP.2.2.2 _ _ _ (by omega) b2, PP.2.2.2 _ _ _ (by omega) b5, PP.2.2.2 _ _ _ (by omega) b7, PP.2.1 _ _ _ _ _ _ hd, hF.far (fun T cs hb => PP.2.2.2 _ _ _ (by omega) hb) PP.2.1, PP.1, PP.2.2.2 _ _ _ (by omega) b9, hx9, hy9⟩ ?_;clear PP hx9 hy9 hx z0 z1 f0 f1 x0 x1 x2 x3 EW b2 b5 b7 hd hF hR b9;rintro U0 ⟨EW, b2, b5, b7, hd, hF, hR, b9, hx, hy⟩;have x0 := b9.cell 0 (.bool sx) rfl;have x1 := b9.cell 1 (.slice Ax nx cx) rfl;have x2 := b9.cell 2 (.bool tx) rfl;have x3 := b9.cell 3 (.slice Bx mx dx) rfl;have y0 := b7.cell 0 (.bool sd) rfl;have y1 := b7.cell 1 (.slice Ad nd cd) rfl
     go_wp2_with fail
     refine (p_exactT hd hy (by omega) (by omega) HD.out.1 HD.out.2).mono ?_;rintro e U1 ⟨s5, A5, n5, c5, rfl, h5, hx1⟩;rw [<- HFC.out] at h5
     go_upto_region 18 with (fail)
     obtain ⟨U2, hU, ext2, b13, hz13⟩ := box1 U1 28 #[.bool s5, .slice A5 n5 c5];rw [<- hU];clear hU hz13 y0 y1 x0 x1 x2 x3;replace h5 := h5.ext ext2;replace ext2 := hx1.trans ext2;replace hx := hx.ext ext2;replace b2 := b2.ext ext2;replace b5 := b5.ext ext2;replace b7 := b7.ext ext2;replace hd := hd.ext ext2;replace hF := hF.ext ext2;replace hR := hR.ext ext2;replace b9 := b9.ext ext2;replace EW := EW.trans ext2;clear ext2 hx1 hy;have x0 := b9.cell 0 (.bool sx) rfl;have x1 := b9.cell 1 (.slice Ax nx cx) rfl;have v0 := b13.cell 0 (.bool s5) rfl;have v1 := b13.cell 1 (.slice A5 n5 c5) rfl
     by_cases hone : fac = 1
     ·have H1 := Lib.hid hone
      go_wp2_with fail
      refine (p_isOneT h5).mono ?_;rintro e U3 ⟨rfl, hx1⟩;rw [decide_eq_true H1.out]
      go_wp2_with fail
      go_roundw
      case rel =>
       have h9 := hR.ext hx1;rw [show q.num = (numsP (partL qs fs))[j] by rw [HV.out, H1.out, Int.mul_one], HS.out] at h9;exact ⟨j + 1, by omega, by go_num, EW.trans hx1, b2.ext hx1, b5.ext hx1, b7.ext hx1, hd.ext hx1, hF.ext hx1, h9⟩
      case measure => simp [intOf]; omega
     ·have H1 := Lib.hid hone
      clear hone
      go_wp2_with fail
      refine (p_isOneT h5).mono ?_;rintro e U3 ⟨rfl, hx1⟩;rw [decide_eq_false H1.out];replace x0 := hx1.cellv x0;replace x1 := hx1.cellv x1;replace v0 := hx1.cellv v0;replace v1 := hx1.cellv v1;clear b9 b13
      go_wp2_with fail
      refine (p_MulG (hx.ext hx1) (h5.ext hx1) (by omega) (by omega)).mono ?_;rintro e U4 ⟨s6, A6, n6, c6, rfl, h6, hx2⟩;have ex := hx1.trans hx2;replace b2 := b2.ext ex;replace b5 := b5.ext ex;replace b7 := b7.ext ex;replace hd := hd.ext ex;replace hF := hF.ext ex;replace hR := hR.ext ex;replace EW := EW.trans ex;clear x0 x1 v0 v1 ex hx1 hx2;rw [<- HV.out] at h6;have hkl2 : j < (((numsP (partL qs fs)).take j ++ List.replicate (k - j) 0).set j q.num).length := by rw [List.length_set]; exact hkl
      obtain ⟨sz, Az, nz, cz, z0, z1, _⟩ := hR.get hkl2;have f0 := hR.frozen (j * 2);have f1 := hR.frozen (j * 2 + 1)
      go_wp2_with fail
      have PP := hR.put hkl2 (h6.le (show P + G <= G + P + 2 by omega));rw [List.set_set, HS.out] at PP
      go_roundw
      case rel => exact ⟨j + 1, by omega, by go_num, PP.2.2.1 _ EW hgr, PP.2.2.2 _ _ _ (by omega) b2, PP.2.2.2 _ _ _ (by omega) b5, PP.2.2.2 _ _ _ (by omega) b7, PP.2.1 _ _ _ _ _ _ hd, hF.far (fun T cs hb => PP.2.2.2 _ _ _ (by omega) hb) PP.2.1, PP.1⟩
      case measure => simp [intOf]; omega
    ·have hjk : j = k := by omega
     subst hjk;rw [List.take_of_length_le (Nat.le_of_eq Hnl.out), Nat.sub_self, List.replicate_zero, List.append_nil] at hR;have hI : (j : Int) <= (j : Int) := Int.le_refl _
     go_upto_region 21 with (fail)
     refine wpL.st 3 (fun hQ ES => ?_);refine wpL.u 0 107 hQ ES ?_
     try simp only [zP]
     refine wpL.t 1 108 ?v_1i hQ ?y_1i ES ?_
     case y_1i => intro w' hSw;have k00 := (b7.ext hSw).c2;go_simp;try rfl
     try simp only [zP]
     refine wpL.u 2 4 hQ ES ?_
     try simp only [zP]
     have z0 := b5.cell 0 _ rfl;have z1 := b5.cell 1 _ rfl;have f0 := b5.frozen 0;have f1 := b5.frozen 1;refine wpL.tl (i := 3) rfl (fun K hK => ?_);go_simp;refine hK.out _ _ ?_;clear hK K
     try simp only [zP]
     refine wpL.done (by kernel_rfl) ?_ _;clear hQ
     go_wp2_with fail
     obtain ⟨q1, q2, q3, q4⟩ := fin_dual (s := sd) (A := Ad) (n := nd) (c := cd) b5;have q1d := q1.ext (Ext.refl _).drew;have r0 := q1d.cell 0 (.bool sd) rfl;have r1 := q1d.cell 1 (.slice Ad nd cd) rfl;obtain ⟨cs, c1, c2⟩ := hR;have hR2 : IRow _ g11 (numsP (partL qs fs)) (G + P + 2) := ⟨cs, q4 _ _ _ (by omega) c1, c2.ni q2⟩;have hp2 := (hR2.ext (Ext.refl _).drew).pol Hnl.out (by unfold maxLen; omega);have hd2 := (q2 _ _ _ _ _ _ hd).ext (Ext.refl _).drew;have ex2 := (q3 _ EW (by omega)).trans (Ext.refl _).drew;unfold set2 at r0 r1 hd2 ex2 hp2;refine bodyPost_ret (v := .tuple #[.slice (some ⟨g11, 0, none⟩) j j, .agg #[.bool sd, .slice Ad nd cd]]) (by simp [results, Tryz.results66, go_sem, r0, r1]) rfl ⟨_, sd, Ad, nd, cd, rfl, hgr, hp2, hd2, ex2⟩
end
end Go.Proofs.YtijdljfnmdoffaaGreatDoor
