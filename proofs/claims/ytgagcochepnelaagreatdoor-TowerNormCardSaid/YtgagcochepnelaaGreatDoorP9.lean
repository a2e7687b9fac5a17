/- Walks and laws, a part. -/
import Derived.Test.YtgagcochepnelaaGreatDoorP8
import Derived.Test.YtgagcochepnelaaGreatDoorP1
set_option linter.unusedSimpArgs false
set_option linter.unusedVariables false
set_option maxHeartbeats 64000000
namespace Go.Proofs.YtgagcochepnelaaGreatDoor
section
open Go.RowKit
attribute [local go_sem ↓] Go.wp_at_zero Go.wp_at_succ
structure ISl (w : World) (A : Option Addr) (n c : Nat) (Rs : List (List Int)) (L : Nat) : Prop where
 len : Rs.length = n
 cap : n <= c
 top : c <= maxLen
 at_ : Rs ≠ [] -> ∃ b off, A = some ⟨b, off, Option.none⟩ /\ ∀ i (h : i < Rs.length), ∃ A' n' c', w.cell? ⟨b, off + i, Option.none⟩ = some (.slice A' n' c') /\ IPol w A' n' c' Rs[i] L
def radI (Rs : List (List Int)) (i : Nat) : List Int := Rs.getD i (List.replicate (2 ^ i) 0)
def TowI (Rs : List (List Int)) : Prop := ∀ i (h : i < Rs.length), Rs[i].length = 2 ^ i
theorem radI_len {Rs : List (List Int)} (h : TowI Rs) (i : Nat) : (radI Rs i).length = 2 ^ i := by
 unfold radI;rw [List.getD_eq_getElem?_getD]
 rcases Nat.lt_or_ge i Rs.length with hi | hi
 ·rw [List.getElem?_eq_getElem hi]; exact h i hi
 ·rw [List.getElem?_eq_none hi]; simp
theorem radI_at {Rs : List (List Int)} {i : Nat} (hi : i < Rs.length) : radI Rs i = Rs[i] := by
 unfold radI;rw [List.getD_eq_getElem?_getD, List.getElem?_eq_getElem hi]; rfl
theorem bitLen_pow : ∀ h : Fin 17, Lib.bitLen (2 ^ h.val) = h.val + 1 := by decide +kernel
section
variable {w w' : World} {L M : Nat} {A B : Option Addr} {n c m d : Nat} {zs : List Int} {Rs : List (List Int)}
theorem ISl.ext (h : ISl w A n c Rs L) (e : Ext w w') : ISl w' A n c Rs L :=
 ⟨h.len, h.cap, h.top, fun hq => by
  obtain ⟨b, off, h1, h2⟩ := h.at_ hq;refine ⟨b, off, h1, fun i hi => ?_⟩;obtain ⟨A', n', c', h3, h4⟩ := h2 i hi;exact ⟨A', n', c', e.cellv h3, h4.ext e⟩⟩
theorem lenPow (w : World) (h m : Nat) (h16 : h <= 16) (hm : m = 2 ^ h) : Calls Tryz.prog 144 #[.int .u64 (m : Int)] w fun e w' => e = .returned (.int .i64 ((h : Int) + 1)) /\ Ext w w' := by
 have hm1 : m <= 65536 := by rw [hm]; exact Nat.le_trans (Nat.pow_le_pow_right (by omega) h16) (by decide)
 refine (lenU (m : Int) w (by omega) (by omega)).mono ?_;rintro e w' ⟨rfl, rfl⟩;have hbl := bitLen_pow ⟨h, by omega⟩;simp only at hbl;rw [Int.toNat_natCast, hm, hbl];exact ⟨by push_cast; rfl, Ext.refl _⟩
theorem p_lastT {Af : Option Addr} {nf cf h : Nat} (hRt : TowI Rs) (hR : ISl w A n c Rs L) (hh : h < n) (h16 : h <= 16) (hn : n <= 1000) (hm : m = 2 ^ h) : Calls Tryz.prog 111 #[.agg #[.slice A n c, .slice Af nf cf], .slice B m d] w fun e w' => ∃ A' c', e = .returned (.slice A' m c') /\ IPol w' A' m c' (radI Rs h) L /\ Ext w w' := by
 have hl : h < Rs.length := by rw [hR.len]; exact hh
 obtain ⟨b, off, rfl, hr⟩ := hR.at_ (fun e => by rw [e] at hl; exact absurd hl (Nat.not_lt_zero _));obtain ⟨A', n', c', e0, hx⟩ := hr h hl;rw [<- radI_at hl] at hx;have hnm : m = n' := by rw [<- hx.len, radI_len hRt, hm]
 subst hnm;have hm1 : m <= 65536 := by rw [hm]; exact Nat.le_trans (Nat.pow_le_pow_right (by omega) h16) (by decide)
 have Hlp := Lib.hid (fun w => lenPow w h m h16 hm);have hwu : IntKind.u64.wrap (m : Int) = (m : Int) := IntWalk.u64_in _ (by omega);have hI : (h : Int) < (n : Int) := by omega
 have hWh : IntKind.i64.wrap (h : Int) = (h : Int) := IntWalk.i64_in _ (by omega);clear hm
 go_enter Tryz.func111, Tryz.ntmps111
 go_upto_region 1 with (fail)
 obtain ⟨W, hW, extW, bx, hz⟩ := box1 w 72 #[.slice (some ⟨b, off, Option.none⟩) n c, .slice Af nf cf];rw [<- hW];clear hW hz;replace hx := hx.ext extW;replace e0 := extW.cellv e0;have x0 := bx.cell 0 (.slice (some ⟨b, off, Option.none⟩) n c) rfl;have ES0 := Ext.refl W;refine wp_region_held_drew (S := Ext W) (by kernel_rfl) ES0.drew (fun ES => ?_);clear ES0;refine Late.s0 ES (fun hAl hQ => ?_);refine Late.u 0 5 hQ ?_
 try simp only [zP]
 refine Late.u 2 7 hQ ?_
 try simp only [zP]
 refine Late.t 1 6 ?v_2 hQ ?y_2 ?_
 case y_2 => intro w' hSw;have q0_ := hSw.cellv e0;have k00 := (bx.ext hSw).c2;go_simp;try rfl
 try simp only [zP]
 refine Late.u 3 8 hQ ?_
 try simp only [zP]
 refine Late.u 4 9 hQ ?_
 try simp only [zP]
 refine Late.cl (i := 5) rfl hAl hQ (fun w5 e5 E5 K hK => ?_);go_simp
 (go_at_call 144; refine (Hlp.out _).mono ?_; rintro e wk5 ⟨rfl, hx5⟩)
 refine hK.out _ _ hx5 ?_;clear hK K
 try simp only [zP]
 refine Late.u 6 11 hQ ?_
 try simp only [zP]
 refine Late.u 7 12 hQ ?_
 try simp only [zP]
 refine Late.t 8 13 ?v_7 hQ ?y_7 ?_
 case y_7 => intro w' hSw;have q0_ := hSw.cellv e0;have k00 := (bx.ext hSw).c2;go_simp;try rfl
 try simp only [zP]
 refine Late.u 9 4 hQ ?_
 try simp only [zP]
 refine Late.d0 (fun wz ez Ez => ?_);clear hAl hQ ES
 go_wp2_with fail
 go_ret
 exact ⟨_, _, rfl, hx.ext Ez, extW.trans Ez⟩
theorem p_denseT (h : IPol w A n c zs L) (hL : L <= 50000) (hn : n <= 100000) : Calls Tryz.prog 108 #[.slice A n c] w fun e w' => (∃ b, e = .returned (.bool b)) /\ Ext w w' := by
 have Hlen := Lib.hid h.len
 go_enter Tryz.func108, Tryz.ntmps108
 go_wp2_with fail
 go_loopw [3, 8] (fun u i wr => ∃ k j : Nat, k <= n /\ j <= k /\ u = .int .i64 (j : Int) /\ i = .int .i64 (k : Int) /\ Ext w wr) (fun _ i _ => n - (intOf i).toNat)
 case atStart => exact ⟨0, 0, by omega, by omega, rfl, rfl, Ext.refl _⟩
 case round =>
  obtain ⟨k, u, hk, hu, rfl, rfl, ext⟩ := hrel
  by_cases hlt : k < n
  ·have hj : k < zs.length := by rw [Hlen.out]; exact hlt
   have hI : (k : Int) < (n : Int) := by omega
   obtain ⟨p, off, rfl, hr⟩ := h.at_ (fun e => by rw [e] at hj; exact absurd hj (Nat.not_lt_zero _));obtain ⟨sx, Ax, nx, cx, e0, e1, hx⟩ := (hr.ext ext).at_ k hj;have e0' : wr.cell? ⟨p, off + k * 2, none⟩ = some (.bool sx) := by rw [Nat.mul_comm]; exact e0
   have e1' : wr.cell? ⟨p, off + k * 2 + 1, none⟩ = some (.slice Ax nx cx) := by rw [Nat.mul_comm]; exact e1
   generalize zs[k] = r at hx
   go_upto_region 5 with (fail)
   obtain ⟨W, hW, extW, bx, hz⟩ := box1 wr 28 #[.bool sx, .slice Ax nx cx];rw [<- hW];clear hW hz e0 e1 e0' e1';replace hx := hx.ext extW;replace ext := ext.trans extW;have x0 := bx.cell 0 (.bool sx) rfl;have x1 := bx.cell 1 (.slice Ax nx cx) rfl
   by_cases hq : r = 0
   ·have HS := Lib.hid (show r.sign = 0 by rw [hq]; rfl)
    clear hq
    go_wp2_with fail
    refine (p_Sign hx (by omega)).mono ?_;rintro e V ⟨rfl, hxt⟩;rw [HS.out]
    go_wp2_with fail
    go_roundw
    case rel => exact ⟨k + 1, u, by omega, by omega, rfl, by go_num, ext.trans hxt⟩
    case measure => simp [intOf]; omega
   ·obtain ⟨S, hS, dS⟩ : ∃ S, r.sign = S /\ (S == 0) = false := ⟨_, rfl, beq_eq_false_iff_ne.2 (fun e => hq (Int.sign_eq_zero_iff_zero.1 e))⟩
    have HS := Lib.hid hS;clear hS hq
    go_wp2_with fail
    refine (p_Sign hx (by omega)).mono ?_;rintro e V ⟨rfl, hxt⟩;rw [HS.out]
    go_wp2_with fail
    go_roundw
    case rel => exact ⟨k + 1, u + 1, by omega, by omega, by go_num, by go_num, ext.trans hxt⟩
    case measure => simp [intOf]; omega
  ·have hI : (n : Int) <= (k : Int) := by omega
   go_wp2_with fail
   all_goals (go_ret; first | exact ⟨⟨_, rfl⟩, ext⟩ | exact ⟨Or.inl rfl, ext⟩ | exact ⟨Or.inr rfl, ext⟩)
end
end
section
section
variable {K : Type} [Add K] [Mul K] [Neg K] [OfNat K 0] [OfNat K 1] [RingK K]
theorem El.sub_self (h : Nat) (a : El K h) : El.add h a (El.neg h a) = El.zero h := by rw [El.add_comm, El.neg_add]
theorem El.cancel3 (h : Nat) (p q r s : El K h) : El.add h (El.add h (El.add h (El.add h p q) (El.add h r s)) (El.neg h p)) (El.neg h s) = El.add h q r := by
 have e1 : El.add h (El.add h (El.add h p q) (El.add h r s)) (El.neg h p) = El.add h q (El.add h r s) := by
  rw [El.add_comm h (El.add h p q), El.add_assoc h, El.add_comm h p q, El.add_assoc h q, El.sub_self, El.add_zero, El.add_comm]
 rw [e1, El.add_assoc h q, El.add_assoc h r, El.sub_self, El.add_zero]
theorem El.kar (R : (h : Nat) -> El K h) (h : Nat) (a0 a1 b0 b1 : El K h) :
  El.add h (El.add h (El.mul R h (El.add h a0 a1) (El.add h b0 b1)) (El.neg h (El.mul R h a0 b0))) (El.neg h (El.mul R h a1 b1)) = El.add h (El.mul R h a0 b1) (El.mul R h a1 b0) := by
 rw [El.add_mul, El.mul_add, El.mul_add];exact El.cancel3 h _ _ _ _
theorem toE_zero {K : Type} [OfNat K 0] : (h : Nat) -> toE h (List.replicate (2 ^ h) (0 : K)) = El.zero h
 | 0 => rfl
 | h + 1 => by
  have e : List.replicate (2 ^ (h + 1)) (0 : K) = List.replicate (2 ^ h) 0 ++ List.replicate (2 ^ h) 0 := by rw [List.replicate_append_replicate, two_pow_s]
  rw [e, toE_app List.length_replicate List.length_replicate, toE_zero h]
  rfl
theorem mulL_zero_left {R : Nat -> List K} (hR : ∀ i, (R i).length = 2 ^ i) {h : Nat} {b : List K} (hb : b.length = 2 ^ h) : mulL R h (List.replicate (2 ^ h) 0) b = List.replicate (2 ^ h) 0 :=
 toE_inj mulL_len List.length_replicate (by rw [toE_mul hR List.length_replicate hb, toE_zero, El.mul_comm, El.mul_zero])
theorem mulL_zero_right {R : Nat -> List K} (hR : ∀ i, (R i).length = 2 ^ i) {h : Nat} {a : List K} (ha : a.length = 2 ^ h) : mulL R h a (List.replicate (2 ^ h) 0) = List.replicate (2 ^ h) 0 :=
 toE_inj mulL_len List.length_replicate (by rw [toE_mul hR ha List.length_replicate, toE_zero, El.mul_zero])
end
def subI (a b : List Int) : List Int := List.zipWith (fun x y : Int => x - y) a b
theorem subI_eq : ∀ (a b : List Int), subI a b = addL a (negL b)
 | [], _ => by simp [subI, addL, negL]
 | _ :: _, [] => by simp [subI, addL, negL]
 | x :: a, y :: b => by
  have ih := subI_eq a b;unfold subI addL negL at ih ⊢;rw [List.zipWith_cons_cons, List.map_cons, List.zipWith_cons_cons, ih]
  congr 1
theorem subI_len {a b : List Int} {n : Nat} (ha : a.length = n) (hb : b.length = n) : (subI a b).length = n := by
 unfold subI; rw [List.length_zipWith, ha, hb, Nat.min_self]
theorem kar_list {R : Nat -> List Int} (hR : ∀ i, (R i).length = 2 ^ i) {h : Nat} {a0 a1 b0 b1 : List Int} (h0 : a0.length = 2 ^ h) (h1 : a1.length = 2 ^ h) (k0 : b0.length = 2 ^ h) (k1 : b1.length = 2 ^ h) :
  subI (subI (mulL R h (addL a0 a1) (addL b0 b1)) (mulL R h a0 b0)) (mulL R h a1 b1) = addL (mulL R h a0 b1) (mulL R h a1 b0) := by
 have l0 : (negL (mulL R h a0 b0)).length = 2 ^ h := by rw [negL_len, mulL_len]
 have l1 : (negL (mulL R h a1 b1)).length = 2 ^ h := by rw [negL_len, mulL_len]
 refine toE_inj (subI_len (subI_len mulL_len mulL_len) mulL_len) (addL_len mulL_len mulL_len) ?_
 rw [subI_eq, subI_eq, toE_add (addL_len mulL_len l0) l1, toE_add mulL_len l0, toE_neg mulL_len, toE_neg mulL_len, toE_mul hR (addL_len h0 h1) (addL_len k0 k1), toE_add h0 h1, toE_add k0 k1, toE_mul hR h0 k0, toE_mul hR h1 k1,
  toE_add mulL_len mulL_len, toE_mul hR h0 k1, toE_mul hR h1 k0]
 exact El.kar _ _ _ _ _ _
theorem noneB_repl {zs : List Int} {n : Nat} (hn : zs.length = n) (h : noneB zs = true) : zs = List.replicate n 0 := by
 refine List.eq_replicate_iff.2 ⟨hn, fun z hz => ?_⟩;have := List.all_eq_true.1 h z hz
 simpa using this
def szP (K h : Nat) : Nat := (2 ^ h - 1) * (K + 4)
theorem szP_step (K h : Nat) : szP K h + szP K h + K + 4 = szP K (h + 1) := by
 unfold szP;have h1 : 1 <= 2 ^ h := Nat.pow_pos (by omega);obtain ⟨p, hp⟩ : ∃ p, 2 ^ h = p + 1 := ⟨2 ^ h - 1, by omega⟩;rw [two_pow_s, hp];simp only [Nat.add_sub_cancel];rw [show p + 1 + (p + 1) - 1 = p + p + 1 by omega, Nat.add_mul, Nat.add_mul, Nat.one_mul];omega
end
section
open Go.RowKit
attribute [local go_sem ↓] Go.wp_at_zero Go.wp_at_succ
theorem Row2.mono {w : World} {base base2 : Nat} {v : Value} {zs : List Int} {L : Nat} (h : Row2 w base v zs L) (hb : base2 <= base) : Row2 w base2 v zs L := by
 obtain ⟨cs, h1, h2⟩ := h.own;refine ⟨⟨cs, ⟨h1.1, ?_⟩, h2⟩, h.nwb⟩
 rcases h1.2 with q | ⟨g, cap, cur, q1, q2, q3⟩
 ·exact Or.inl q
 ·exact Or.inr ⟨g, cap, cur, q1, Nat.le_trans hb q2, q3⟩
section
variable {Ar Af : Option Addr} {nr cr nf cf : Nat} {Rs : List (List Int)} {KK : Nat}
set_option maxRecDepth 100000 in
theorem p_timesT (hRt : TowI Rs) (hnr : nr <= 8) (h : Nat) : ∀ {w : World} {A B : Option Addr} {n c d : Nat} {xs ys : List Int} {X Y : Nat} (_hR : ISl w Ar nr cr Rs KK) (_ha : IPol w A n c xs X) (_hb : IPol w B n d ys Y) (_hn : n = 2 ^ h) (_hh : h <= nr) (_hsz : X + Y + szP KK h <= 40000),
  Calls Tryz.prog 69 #[.agg #[.slice Ar nr cr, .slice Af nf cf], .slice A n c, .slice B n d] w (fun e w' => ∃ A' c', e = .returned (.slice A' n c') /\ IPol w' A' n c' (mulL (radI Rs) h xs ys) (X + Y + szP KK h) /\ Row2 w' w.heap.size (.slice A' n c') (mulL (radI Rs) h xs ys) (X + Y + szP KK h) /\ Ext w w') := by
 induction h with
 | zero =>
  intro w A B n c d xs ys X Y hR ha hb hn hh hsz;have hn1 : n = 1 := hn;subst hn1;have hX : X + Y <= 40000 := by unfold szP at hsz; omega
  have hj : 0 < xs.length := by rw [ha.len]; omega
  have hj' : 0 < ys.length := by rw [hb.len]; omega
  obtain ⟨b, off, rfl, hr⟩ := ha.at_ (fun e => by rw [e] at hj; exact absurd hj (Nat.not_lt_zero _));obtain ⟨b', off', rfl, hr'⟩ := hb.at_ (fun e => by rw [e] at hj'; exact absurd hj' (Nat.not_lt_zero _))
  have hm : mulL (radI Rs) 0 xs ys = [xs[0] * ys[0]] := by
   rw [mulL, List.headD_eq_head?_getD, List.headD_eq_head?_getD, List.head?_eq_getElem?, List.head?_eq_getElem?, List.getElem?_eq_getElem hj, List.getElem?_eq_getElem hj']
   rfl
  have Hm := Lib.hid hm;clear hm
  go_enter Tryz.func69, Tryz.ntmps69
  go_upto_region 2 with (fail)
  obtain ⟨W, hW, extW, bx, hz⟩ := box1 w 72 #[.slice Ar nr cr, .slice Af nf cf];rw [<- hW];clear hW hz;obtain ⟨sx, Ax, nx, cx, e0', e1', hx⟩ := (hr.ext extW).at_ 0 hj;obtain ⟨sy, Ay, ny, cy, i0', i1', hy⟩ := (hr'.ext extW).at_ 0 hj';generalize xs[0] = x0 at *;generalize ys[0] = y0 at *;rw [Nat.mul_zero, Nat.add_zero] at e0' e1' i0' i1';have ES0 := Ext.refl W;refine wp_region_held_drew (S := Ext W) (by kernel_rfl) ES0.drew (fun ES => ?_);clear ES0;refine Late.s0 ES (fun hAl hQ => ?_);refine Late.u 0 18 hQ ?_
  try simp only [zP]
  refine Late.u 3 21 hQ ?_
  try simp only [zP]
  refine Late.u 1 19 hQ ?_
  try simp only [zP]
  refine Late.u 4 22 hQ ?_
  try simp only [zP]
  refine Late.t 2 20 ?v_4 hQ ?y_4 ?_
  case y_4 => intro w' hSw;have q0_ := hSw.cellv e0';have q1_ := hSw.cellv e1';have q2_ := hSw.cellv i0';have q3_ := hSw.cellv i1';go_simp;try rfl
  try simp only [zP]
  refine Late.t 5 23 ?v_5 hQ ?y_5 ?_
  case y_5 => intro w' hSw;have q0_ := hSw.cellv e0';have q1_ := hSw.cellv e1';have q2_ := hSw.cellv i0';have q3_ := hSw.cellv i1';go_simp;try rfl
  try simp only [zP]
  refine Late.cl (i := 6) rfl hAl hQ (fun w6 e6 E6 K hK => ?_);go_simp
  (go_at_call 70; refine (p_MulG (hx.ext E6) (hy.ext E6) (by omega) (by omega)).mono ?_; rintro e wk6 ⟨s7, A7, n7, c7, rfl, h7, hx6⟩)
  refine hK.out _ _ hx6 ?_;clear hK K
  try simp only [zP]
  refine Late.cl (i := 7) rfl hAl hQ (fun w7 e7 E7 K hK => ?_);go_simp;refine hK.out _ _ ((Ext.refl _).alloc _) ?_;clear hK K
  try simp only [zP]
  refine Late.u 8 6 hQ ?_
  try simp only [zP]
  refine Late.d0 (fun wz ez Ez => ?_);clear hAl hQ ES;have hbx := (Box.new w7 28 #[.bool s7, .slice A7 n7 c7]).ext ez;have h7z := h7.ext (e7.trans (((Ext.refl w7).alloc _).trans ez));have hrow : IRow wz w7.heap.size [x0 * y0] (X + Y + szP KK 0) := ⟨_, hbx, .cons (h7z.le (by omega)) .nil⟩;have hsz7 := (extW.trans E7).size
  go_wp2_with fail
  go_ret
  rw [Hm.out];exact ⟨_, 1, rfl, hrow.pol rfl (by unfold maxLen; omega), hrow.row2 hsz7 rfl (by omega), extW.trans Ez⟩
 | succ h ih =>
  intro w A B n c d xs ys X Y hR ha hb hn hh hsz;obtain ⟨k, hk⟩ : ∃ k, k = 2 ^ h := ⟨_, rfl⟩;have hnk : n = k + k := by rw [hn, hk, two_pow_s]
  have hk0 : 0 < k := by rw [hk]; exact Nat.pow_pos (by omega)
  have hk1 : k <= 128 := by rw [hk]; exact Nat.le_trans (Nat.pow_le_pow_right (by omega) (show h <= 7 by omega)) (by decide)
  have hst := szP_step KK h;have HK := Lib.hid hk;have Hst := Lib.hid hst;have Hn := Lib.hid hn;have Hnk := Lib.hid hnk;have hz0 : X + Y + szP KK h + szP KK h + KK + 4 <= 40000 := by omega
  have hn2 : n <= 256 := by omega
  have g1 : ((n : Int) == 1) = false := beq_eq_false_iff_ne.2 (by omega);have hmk := mk_ints n (by omega);clear hn hk hst hnk
  go_enter Tryz.func69, Tryz.ntmps69
  go_upto_region 1 with (fail)
  obtain ⟨W, hW, EW, bx, hz⟩ := box1 w 72 #[.slice Ar nr cr, .slice Af nf cf];rw [<- hW];clear hW hz
  go_wp2_with fail
  refine (p_noneT (ha.ext EW) (by omega) (by omega)).mono ?_;rintro e V1 ⟨rfl, hx1⟩;replace bx := bx.ext hx1;replace EW := EW.trans hx1
  cases hna : noneB xs with
  | true =>
   have Hxs := Lib.hid (noneB_repl ha.len hna);clear hna
   go_wp2_with fail
   go_ret
   have hrow := IRow.new V1 n (X + Y + szP KK (h + 1))
   have hm : mulL (radI Rs) (h + 1) xs ys = List.replicate n 0 := by
    rw [Hxs.out, Hn.out];exact mulL_zero_left (radI_len hRt) (by rw [hb.len, Hn.out])
   rw [hm];exact ⟨_, n, rfl, hrow.pol (by simp) (by unfold maxLen; omega), hrow.row2 EW.size (by simp) (by omega), EW.trans ((Ext.refl V1).alloc _)⟩
  | false =>
   clear hna
   go_wp2_with fail
   refine (p_noneT (hb.ext EW) (by omega) (by omega)).mono ?_;rintro e V2 ⟨rfl, hx2⟩;replace bx := bx.ext hx2;replace EW := EW.trans hx2
   cases hnb : noneB ys with
   | true =>
    have Hys := Lib.hid (noneB_repl hb.len hnb);clear hnb
    go_wp2_with fail
    go_ret
    have hrow := IRow.new V2 n (X + Y + szP KK (h + 1))
    have hm : mulL (radI Rs) (h + 1) xs ys = List.replicate n 0 := by
     rw [Hys.out, Hn.out];exact mulL_zero_right (radI_len hRt) (by rw [ha.len, Hn.out])
    rw [hm];exact ⟨_, n, rfl, hrow.pol (by simp) (by unfold maxLen; omega), hrow.row2 EW.size (by simp) (by omega), EW.trans ((Ext.refl V2).alloc _)⟩
   | false =>
    clear hnb
    go_wp2_with fail
    refine (p_halvesT (k := k) (ha.ext EW) Hnk.out hk0 (by omega)).mono ?_;rintro e V3 ⟨Aa, rfl, ha0, ha1, hx3⟩;replace bx := bx.ext hx3;replace EW := EW.trans hx3
    go_wp2_with fail
    refine (p_halvesT (k := k) (hb.ext EW) Hnk.out hk0 (by omega)).mono ?_;rintro e V4 ⟨Ab, rfl, hb0, hb1, hx4⟩;replace bx := bx.ext hx4;replace EW := EW.trans hx4;replace ha0 := ha0.ext hx4;replace ha1 := ha1.ext hx4;have ha' := ha.ext EW;have hb' := hb.ext EW;replace hR := hR.ext EW
    go_upto_region 7 with (fail)
    have hdr := (Ext.refl V4).drew;replace ha0 := ha0.ext hdr;replace ha1 := ha1.ext hdr;replace hb0 := hb0.ext hdr;replace hb1 := hb1.ext hdr;replace hR := hR.ext hdr;clear hdr;have ES0 := Ext.refl V4;refine wp_region_held_drew (S := Ext V4) (by kernel_rfl) ES0.drew (fun ES => ?_);clear ES0;refine Late.s0 ES (fun hAl hQ => ?_);refine Late.t 0 46 ?v_7 hQ ?y_7 ?_
    case y_7 => intro w' hSw;have k00 := (bx.ext hSw).c2;go_simp;try rfl
    try simp only [zP]
    refine Late.u 1 47 hQ ?_
    try simp only [zP]
    refine Late.u 2 48 hQ ?_
    try simp only [zP]
    refine Late.t 4 50 ?v_a hQ ?y_a ?_
    case y_a => intro w' hSw;have k00 := (bx.ext hSw).c2;go_simp;try rfl
    try simp only [zP]
    refine Late.u 5 51 hQ ?_
    try simp only [zP]
    refine Late.u 6 52 hQ ?_
    try simp only [zP]
    refine Late.cl (i := 3) rfl hAl hQ (fun w3 e3 E3 K hK => ?_);go_simp
    (replace ha0 := ha0.ext e3; replace ha1 := ha1.ext e3; replace hb0 := hb0.ext e3; replace hb1 := hb1.ext e3; replace hR := hR.ext e3; go_at_call 69; refine (ih hR ha0 hb0 HK.out (by omega) (by omega)).mono ?_; rintro e wk3 ⟨A5, c5, rfl, hlo, _, hx3⟩; replace ha0 := ha0.ext hx3; replace ha1 := ha1.ext hx3; replace hb0 := hb0.ext hx3; replace hb1 := hb1.ext hx3; replace hR := hR.ext hx3)
    refine hK.out _ _ hx3 ?_;clear hK K
    try simp only [zP]
    refine Late.cl (i := 7) rfl hAl hQ (fun w7 e7 E7 K hK => ?_);go_simp
    (replace ha0 := ha0.ext e7; replace ha1 := ha1.ext e7; replace hb0 := hb0.ext e7; replace hb1 := hb1.ext e7; replace hR := hR.ext e7; replace hlo := hlo.ext e7; go_at_call 69; refine (ih hR ha1 hb1 HK.out (by omega) (by omega)).mono ?_; rintro e wk7 ⟨A6, c6, rfl, hhi, _, hx7⟩; replace ha0 := ha0.ext hx7; replace ha1 := ha1.ext hx7; replace hb0 := hb0.ext hx7; replace hb1 := hb1.ext hx7; replace hR := hR.ext hx7; replace hlo := hlo.ext hx7)
    refine hK.out _ _ hx7 ?_;clear hK K
    try simp only [zP]
    refine Late.u 8 11 hQ ?_
    try simp only [zP]
    refine Late.u 9 12 hQ ?_
    try simp only [zP]
    refine Late.d0 (fun wz ez Ez => ?_);clear hAl hQ ES;replace bx := bx.ext Ez;replace EW := EW.trans Ez;have EX5 := Ez;replace ha0 := ha0.ext ez;replace ha1 := ha1.ext ez;replace hb0 := hb0.ext ez;replace hb1 := hb1.ext ez;replace hR := hR.ext ez;replace hlo := hlo.ext ez;replace hhi := hhi.ext ez;clear Ez ez
    go_wp2_with fail
    refine (p_denseT (ha'.ext EX5) (by omega) (by omega)).mono ?_;rintro e V6 ⟨⟨b1, rfl⟩, hx6⟩;replace bx := bx.ext hx6;replace EW := EW.trans hx6;replace ha0 := ha0.ext hx6;replace ha1 := ha1.ext hx6;replace hb0 := hb0.ext hx6;replace hb1 := hb1.ext hx6;replace hR := hR.ext hx6;replace hlo := hlo.ext hx6;replace hhi := hhi.ext hx6
    cases b1
    case' false =>
     go_upto_region 11 with (fail)
     have hdr := (Ext.refl V6).drew;replace ha0 := ha0.ext hdr;replace ha1 := ha1.ext hdr;replace hb0 := hb0.ext hdr;replace hb1 := hb1.ext hdr;replace hR := hR.ext hdr;replace hlo := hlo.ext hdr;replace hhi := hhi.ext hdr;clear hdr;have ES0 := Ext.refl V6;refine wp_region_held_drew (S := Ext V6) (by kernel_rfl) ES0.drew (fun ES => ?_);clear ES0;refine Late.s0 ES (fun hAl hQ => ?_);refine Late.t 0 72 ?v_f hQ ?y_f ?_
     case y_f => intro w' hSw;have k00 := (bx.ext hSw).c2;go_simp;try rfl
     try simp only [zP]
     refine Late.u 1 73 hQ ?_
     try simp only [zP]
     refine Late.u 2 74 hQ ?_
     try simp only [zP]
     refine Late.t 4 76 ?v_i hQ ?y_i ?_
     case y_i => intro w' hSw;have k00 := (bx.ext hSw).c2;go_simp;try rfl
     try simp only [zP]
     refine Late.u 5 77 hQ ?_
     try simp only [zP]
     refine Late.u 6 78 hQ ?_
     try simp only [zP]
     refine Late.cl (i := 3) rfl hAl hQ (fun w3 e3 E3 K hK => ?_);go_simp
     (replace ha0 := ha0.ext e3; replace ha1 := ha1.ext e3; replace hb0 := hb0.ext e3; replace hb1 := hb1.ext e3; replace hR := hR.ext e3; replace hlo := hlo.ext e3; replace hhi := hhi.ext e3; go_at_call 69; refine (ih hR ha0 hb1 HK.out (by omega) (by omega)).mono ?_; rintro e wk3 ⟨A7, c7, rfl, hm1, _, hx3⟩; replace ha0 := ha0.ext hx3; replace ha1 := ha1.ext hx3; replace hb0 := hb0.ext hx3; replace hb1 := hb1.ext hx3; replace hR := hR.ext hx3; replace hlo := hlo.ext hx3; replace hhi := hhi.ext hx3)
     refine hK.out _ _ hx3 ?_;clear hK K
     try simp only [zP]
     refine Late.cl (i := 7) rfl hAl hQ (fun w7 e7 E7 K hK => ?_);go_simp
     (replace ha0 := ha0.ext e7; replace ha1 := ha1.ext e7; replace hb0 := hb0.ext e7; replace hb1 := hb1.ext e7; replace hR := hR.ext e7; replace hlo := hlo.ext e7; replace hhi := hhi.ext e7; replace hm1 := hm1.ext e7; go_at_call 69; refine (ih hR ha1 hb0 HK.out (by omega) (by omega)).mono ?_; rintro e wk7 ⟨A8, c8, rfl, hm2, _, hx7⟩; replace ha0 := ha0.ext hx7; replace ha1 := ha1.ext hx7; replace hb0 := hb0.ext hx7; replace hb1 := hb1.ext hx7; replace hR := hR.ext hx7; replace hlo := hlo.ext hx7; replace hhi := hhi.ext hx7; replace hm1 := hm1.ext hx7)
     refine hK.out _ _ hx7 ?_;clear hK K
     try simp only [zP]
     refine Late.cl (i := 8) rfl hAl hQ (fun w8 e8 E8 K hK => ?_);go_simp
     (replace ha0 := ha0.ext e8; replace ha1 := ha1.ext e8; replace hb0 := hb0.ext e8; replace hb1 := hb1.ext e8; replace hR := hR.ext e8; replace hlo := hlo.ext e8; replace hhi := hhi.ext e8; replace hm1 := hm1.ext e8; replace hm2 := hm2.ext e8; go_at_call 110; refine (p_plusT hm1 hm2 (by omega) (by omega) (by omega)).mono ?_; rintro e wk8 ⟨rfl, hmd, hx8⟩; replace ha0 := ha0.ext hx8; replace ha1 := ha1.ext hx8; replace hb0 := hb0.ext hx8; replace hb1 := hb1.ext hx8; replace hR := hR.ext hx8; replace hlo := hlo.ext hx8; replace hhi := hhi.ext hx8; replace hm1 := hm1.ext hx8; replace hm2 := hm2.ext hx8)
     refine hK.out _ _ hx8 ?_;clear hK K
     try simp only [zP]
     refine Late.u 9 13 hQ ?_
     try simp only [zP]
     refine Late.d0 (fun wz ez Ez => ?_);clear hAl hQ ES;have hmid := (IPol.leT (M := X + Y + szP KK h + 4) (hmd.pol (addL_len hm1.len hm2.len) (by unfold maxLen; omega)) (by omega)).ext ez;replace ha0 := ha0.ext ez;replace ha1 := ha1.ext ez;replace hb0 := hb0.ext ez;replace hb1 := hb1.ext ez;replace hR := hR.ext ez;replace hlo := hlo.ext ez;replace hhi := hhi.ext ez
    case' true =>
     go_wp2_with fail
     refine (p_denseT (hb'.ext (EX5.trans hx6)) (by omega) (by omega)).mono ?_;rintro e V7 ⟨⟨b2, rfl⟩, hx7⟩;replace bx := bx.ext hx7;replace EW := EW.trans hx7;replace ha0 := ha0.ext hx7;replace ha1 := ha1.ext hx7;replace hb0 := hb0.ext hx7;replace hb1 := hb1.ext hx7;replace hR := hR.ext hx7;replace hlo := hlo.ext hx7;replace hhi := hhi.ext hx7
     cases b2
     case' false =>
      go_upto_region 11 with (fail)
      have hdr := (Ext.refl V7).drew;replace ha0 := ha0.ext hdr;replace ha1 := ha1.ext hdr;replace hb0 := hb0.ext hdr;replace hb1 := hb1.ext hdr;replace hR := hR.ext hdr;replace hlo := hlo.ext hdr;replace hhi := hhi.ext hdr;clear hdr;have ES0 := Ext.refl V7;refine wp_region_held_drew (S := Ext V7) (by kernel_rfl) ES0.drew (fun ES => ?_);clear ES0;refine Late.s0 ES (fun hAl hQ => ?_);refine Late.t 0 72 ?v_m hQ ?y_m ?_
      case y_m => intro w' hSw;have k00 := (bx.ext hSw).c2;go_simp;try rfl
      try simp only [zP]
      refine Late.u 1 73 hQ ?_
      try simp only [zP]
      refine Late.u 2 74 hQ ?_
      try simp only [zP]
      refine Late.t 4 76 ?v_p hQ ?y_p ?_
      case y_p => intro w' hSw;have k00 := (bx.ext hSw).c2;go_simp;try rfl
      try simp only [zP]
      refine Late.u 5 77 hQ ?_
      try simp only [zP]
      refine Late.u 6 78 hQ ?_
      try simp only [zP]
      refine Late.cl (i := 3) rfl hAl hQ (fun w3 e3 E3 K hK => ?_);go_simp
      (replace ha0 := ha0.ext e3; replace ha1 := ha1.ext e3; replace hb0 := hb0.ext e3; replace hb1 := hb1.ext e3; replace hR := hR.ext e3; replace hlo := hlo.ext e3; replace hhi := hhi.ext e3; go_at_call 69; refine (ih hR ha0 hb1 HK.out (by omega) (by omega)).mono ?_; rintro e wk3 ⟨A7, c7, rfl, hm1, _, hx3⟩; replace ha0 := ha0.ext hx3; replace ha1 := ha1.ext hx3; replace hb0 := hb0.ext hx3; replace hb1 := hb1.ext hx3; replace hR := hR.ext hx3; replace hlo := hlo.ext hx3; replace hhi := hhi.ext hx3)
      refine hK.out _ _ hx3 ?_;clear hK K
      try simp only [zP]
      refine Late.cl (i := 7) rfl hAl hQ (fun w7 e7 E7 K hK => ?_);go_simp
      (replace ha0 := ha0.ext e7; replace ha1 := ha1.ext e7; replace hb0 := hb0.ext e7; replace hb1 := hb1.ext e7; replace hR := hR.ext e7; replace hlo := hlo.ext e7; replace hhi := hhi.ext e7; replace hm1 := hm1.ext e7; go_at_call 69; refine (ih hR ha1 hb0 HK.out (by omega) (by omega)).mono ?_; rintro e wk7 ⟨A8, c8, rfl, hm2, _, hx7⟩; replace ha0 := ha0.ext hx7; replace ha1 := ha1.ext hx7; replace hb0 := hb0.ext hx7; replace hb1 := hb1.ext hx7; replace hR := hR.ext hx7; replace hlo := hlo.ext hx7; replace hhi := hhi.ext hx7; replace hm1 := hm1.ext hx7)
      refine hK.out _ _ hx7 ?_;clear hK K
      try simp only [zP]
      refine Late.cl (i := 8) rfl hAl hQ (fun w8 e8 E8 K hK => ?_);go_simp
      (replace ha0 := ha0.ext e8; replace ha1 := ha1.ext e8; replace hb0 := hb0.ext e8; replace hb1 := hb1.ext e8; replace hR := hR.ext e8; replace hlo := hlo.ext e8; replace hhi := hhi.ext e8; replace hm1 := hm1.ext e8; replace hm2 := hm2.ext e8; go_at_call 110; refine (p_plusT hm1 hm2 (by omega) (by omega) (by omega)).mono ?_; rintro e wk8 ⟨rfl, hmd, hx8⟩; replace ha0 := ha0.ext hx8; replace ha1 := ha1.ext hx8; replace hb0 := hb0.ext hx8; replace hb1 := hb1.ext hx8; replace hR := hR.ext hx8; replace hlo := hlo.ext hx8; replace hhi := hhi.ext hx8; replace hm1 := hm1.ext hx8; replace hm2 := hm2.ext hx8)
      refine hK.out _ _ hx8 ?_;clear hK K
      try simp only [zP]
      refine Late.u 9 13 hQ ?_
      try simp only [zP]
      refine Late.d0 (fun wz ez Ez => ?_);clear hAl hQ ES;have hmid := (IPol.leT (M := X + Y + szP KK h + 4) (hmd.pol (addL_len hm1.len hm2.len) (by unfold maxLen; omega)) (by omega)).ext ez;replace ha0 := ha0.ext ez;replace ha1 := ha1.ext ez;replace hb0 := hb0.ext ez;replace hb1 := hb1.ext ez;replace hR := hR.ext ez;replace hlo := hlo.ext ez;replace hhi := hhi.ext ez
     case' true =>
      go_upto_region 10 with (fail)
      have hdr := (Ext.refl V7).drew;replace ha0 := ha0.ext hdr;replace ha1 := ha1.ext hdr;replace hb0 := hb0.ext hdr;replace hb1 := hb1.ext hdr;replace hR := hR.ext hdr;replace hlo := hlo.ext hdr;replace hhi := hhi.ext hdr;clear hdr;have ES0 := Ext.refl V7;refine wp_region_held_drew (S := Ext V7) (by kernel_rfl) ES0.drew (fun ES => ?_);clear ES0;refine Late.s0 ES (fun hAl hQ => ?_);refine Late.t 0 60 ?v_t hQ ?y_t ?_
      case y_t => intro w' hSw;have k00 := (bx.ext hSw).c2;go_simp;try rfl
      try simp only [zP]
      refine Late.u 1 61 hQ ?_
      try simp only [zP]
      refine Late.u 2 62 hQ ?_
      try simp only [zP]
      refine Late.u 4 64 hQ ?_
      try simp only [zP]
      refine Late.u 5 65 hQ ?_
      try simp only [zP]
      refine Late.u 8 68 hQ ?_
      try simp only [zP]
      refine Late.u 10 70 hQ ?_
      try simp only [zP]
      refine Late.cl (i := 3) rfl hAl hQ (fun w3 e3 E3 K hK => ?_);go_simp
      (replace ha0 := ha0.ext e3; replace ha1 := ha1.ext e3; replace hb0 := hb0.ext e3; replace hb1 := hb1.ext e3; replace hR := hR.ext e3; replace hlo := hlo.ext e3; replace hhi := hhi.ext e3; go_at_call 110; refine (p_plusT ha0 ha1 (by omega) (by omega) (by omega)).mono ?_; rintro e wk3 ⟨rfl, hs1, hx3⟩; replace ha0 := ha0.ext hx3; replace ha1 := ha1.ext hx3; replace hb0 := hb0.ext hx3; replace hb1 := hb1.ext hx3; replace hR := hR.ext hx3; replace hlo := hlo.ext hx3; replace hhi := hhi.ext hx3)
      refine hK.out _ _ hx3 ?_;clear hK K
      try simp only [zP]
      refine Late.cl (i := 6) rfl hAl hQ (fun w6 e6 E6 K hK => ?_);go_simp
      (replace ha0 := ha0.ext e6; replace ha1 := ha1.ext e6; replace hb0 := hb0.ext e6; replace hb1 := hb1.ext e6; replace hR := hR.ext e6; replace hlo := hlo.ext e6; replace hhi := hhi.ext e6; replace hs1 := hs1.ext e6; go_at_call 110; refine (p_plusT hb0 hb1 (by omega) (by omega) (by omega)).mono ?_; rintro e wk6 ⟨rfl, hs2, hx6⟩; replace ha0 := ha0.ext hx6; replace ha1 := ha1.ext hx6; replace hb0 := hb0.ext hx6; replace hb1 := hb1.ext hx6; replace hR := hR.ext hx6; replace hlo := hlo.ext hx6; replace hhi := hhi.ext hx6; replace hs1 := hs1.ext hx6)
      refine hK.out _ _ hx6 ?_;clear hK K
      try simp only [zP]
      refine Late.cl (i := 7) rfl hAl hQ (fun w7 e7 E7 K hK => ?_);go_simp
      (replace ha0 := ha0.ext e7; replace ha1 := ha1.ext e7; replace hb0 := hb0.ext e7; replace hb1 := hb1.ext e7; replace hR := hR.ext e7; replace hlo := hlo.ext e7; replace hhi := hhi.ext e7; replace hs1 := hs1.ext e7; replace hs2 := hs2.ext e7; go_at_call 69; refine (ih hR (hs1.pol (addL_len ha0.len ha1.len) (by unfold maxLen; omega)) (hs2.pol (addL_len hb0.len hb1.len) (by unfold maxLen; omega)) HK.out (by omega) (by have := Hst.out; omega)).mono ?_; rintro e wk7 ⟨A7, c7, rfl, hm1, _, hx7⟩; replace ha0 := ha0.ext hx7; replace ha1 := ha1.ext hx7; replace hb0 := hb0.ext hx7; replace hb1 := hb1.ext hx7; replace hR := hR.ext hx7; replace hlo := hlo.ext hx7; replace hhi := hhi.ext hx7; replace hs1 := hs1.ext hx7; replace hs2 := hs2.ext hx7)
      refine hK.out _ _ hx7 ?_;clear hK K
      try simp only [zP]
      refine Late.cl (i := 9) rfl hAl hQ (fun w9 e9 E9 K hK => ?_);go_simp
      (replace ha0 := ha0.ext e9; replace ha1 := ha1.ext e9; replace hb0 := hb0.ext e9; replace hb1 := hb1.ext e9; replace hR := hR.ext e9; replace hlo := hlo.ext e9; replace hhi := hhi.ext e9; replace hs1 := hs1.ext e9; replace hs2 := hs2.ext e9; replace hm1 := hm1.ext e9; go_at_call 109; refine (p_minusT hm1 hlo (by omega) (by omega) (by omega)).mono ?_; rintro e wk9 ⟨rfl, hm2, hx9⟩; replace ha0 := ha0.ext hx9; replace ha1 := ha1.ext hx9; replace hb0 := hb0.ext hx9; replace hb1 := hb1.ext hx9; replace hR := hR.ext hx9; replace hlo := hlo.ext hx9; replace hhi := hhi.ext hx9; replace hs1 := hs1.ext hx9; replace hs2 := hs2.ext hx9; replace hm1 := hm1.ext hx9)
      refine hK.out _ _ hx9 ?_;clear hK K
      try simp only [zP]
      refine Late.cl (i := 11) rfl hAl hQ (fun w11 e11 E11 K hK => ?_);go_simp
      (replace ha0 := ha0.ext e11; replace ha1 := ha1.ext e11; replace hb0 := hb0.ext e11; replace hb1 := hb1.ext e11; replace hR := hR.ext e11; replace hlo := hlo.ext e11; replace hhi := hhi.ext e11; replace hs1 := hs1.ext e11; replace hs2 := hs2.ext e11; replace hm1 := hm1.ext e11; replace hm2 := hm2.ext e11; go_at_call 109; refine (p_minusT (hm2.pol (subI_len hm1.len hlo.len) (by unfold maxLen; omega)) hhi (by omega) (by omega) (by omega)).mono ?_; rintro e wk11 ⟨rfl, hmd, hx11⟩; replace ha0 := ha0.ext hx11; replace ha1 := ha1.ext hx11; replace hb0 := hb0.ext hx11; replace hb1 := hb1.ext hx11; replace hR := hR.ext hx11; replace hlo := hlo.ext hx11; replace hhi := hhi.ext hx11; replace hs1 := hs1.ext hx11; replace hs2 := hs2.ext hx11; replace hm1 := hm1.ext hx11; replace hm2 := hm2.ext hx11)
      refine hK.out _ _ hx11 ?_;clear hK K
      try simp only [zP]
      refine Late.u 12 13 hQ ?_
      try simp only [zP]
      refine Late.d0 (fun wz ez Ez => ?_);clear hAl hQ ES;have hmid := (IPol.leT (M := X + Y + szP KK h + 4) (hmd.pol (subI_len (subI_len hm1.len hlo.len) hhi.len) (by unfold maxLen; omega)) (by omega)).ext ez;rw [show List.zipWith (fun x y : Int => x - y) (List.zipWith (fun x y : Int => x - y) (mulL (radI Rs) h (addL (xs.take k) (xs.drop k)) (addL (ys.take k) (ys.drop k))) (mulL (radI Rs) h (xs.take k) (ys.take k))) (mulL (radI Rs) h (xs.drop k) (ys.drop k)) = addL (mulL (radI Rs) h (xs.take k) (ys.drop k)) (mulL (radI Rs) h (xs.drop k) (ys.take k)) from kar_list (radI_len hRt) (ha0.len.trans HK.out) (ha1.len.trans HK.out) (hb0.len.trans HK.out) (hb1.len.trans HK.out)] at hmid;replace ha0 := ha0.ext ez;replace ha1 := ha1.ext ez;replace hb0 := hb0.ext ez;replace hb1 := hb1.ext ez;replace hR := hR.ext ez;replace hlo := hlo.ext ez;replace hhi := hhi.ext ez
    ·replace bx := bx.ext Ez
     replace EW := EW.trans Ez;clear Ez ez
     go_upto_region 12 with (fail)
     have hdr := (Ext.refl wz).drew;replace ha0 := ha0.ext hdr;replace ha1 := ha1.ext hdr;replace hb0 := hb0.ext hdr;replace hb1 := hb1.ext hdr;replace hR := hR.ext hdr;replace hlo := hlo.ext hdr;replace hhi := hhi.ext hdr;replace hmid := hmid.ext hdr;clear hdr;have ES0 := Ext.refl wz;refine wp_region_held_drew (S := Ext wz) (by kernel_rfl) ES0.drew (fun ES => ?_);clear ES0;refine Late.s0 ES (fun hAl hQ => ?_);refine Late.u 0 81 hQ ?_
     try simp only [zP]
     refine Late.t 1 82 ?v_12 hQ ?y_12 ?_
     case y_12 => intro w' hSw;have k00 := (bx.ext hSw).c2;go_simp;try rfl
     try simp only [zP]
     refine Late.u 2 83 hQ ?_
     try simp only [zP]
     refine Late.t 3 84 ?v_14 hQ ?y_14 ?_
     case y_14 => intro w' hSw;have k00 := (bx.ext hSw).c2;go_simp;try rfl
     try simp only [zP]
     refine Late.u 4 85 hQ ?_
     try simp only [zP]
     refine Late.u 8 89 hQ ?_
     try simp only [zP]
     refine Late.cl (i := 5) rfl hAl hQ (fun w5 e5 E5 K hK => ?_);go_simp
     (replace ha0 := ha0.ext e5; replace ha1 := ha1.ext e5; replace hb0 := hb0.ext e5; replace hb1 := hb1.ext e5; replace hR := hR.ext e5; replace hlo := hlo.ext e5; replace hhi := hhi.ext e5; replace hmid := hmid.ext e5; go_at_call 111; refine (p_lastT hRt hR (by omega) (by omega) (by omega) HK.out).mono ?_; rintro e wk5 ⟨A9, c9, rfl, hla, hx5⟩; replace ha0 := ha0.ext hx5; replace ha1 := ha1.ext hx5; replace hb0 := hb0.ext hx5; replace hb1 := hb1.ext hx5; replace hR := hR.ext hx5; replace hlo := hlo.ext hx5; replace hhi := hhi.ext hx5; replace hmid := hmid.ext hx5)
     refine hK.out _ _ hx5 ?_;clear hK K
     try simp only [zP]
     refine Late.cl (i := 6) rfl hAl hQ (fun w6 e6 E6 K hK => ?_);go_simp
     (replace ha0 := ha0.ext e6; replace ha1 := ha1.ext e6; replace hb0 := hb0.ext e6; replace hb1 := hb1.ext e6; replace hR := hR.ext e6; replace hlo := hlo.ext e6; replace hhi := hhi.ext e6; replace hmid := hmid.ext e6; replace hla := hla.ext e6; go_at_call 69; refine (ih hR hhi hla HK.out (by omega) (by omega)).mono ?_; rintro e wk6 ⟨A7, c7, rfl, hhr, _, hx6⟩; replace ha0 := ha0.ext hx6; replace ha1 := ha1.ext hx6; replace hb0 := hb0.ext hx6; replace hb1 := hb1.ext hx6; replace hR := hR.ext hx6; replace hlo := hlo.ext hx6; replace hhi := hhi.ext hx6; replace hmid := hmid.ext hx6; replace hla := hla.ext hx6)
     refine hK.out _ _ hx6 ?_;clear hK K
     try simp only [zP]
     refine Late.cl (i := 7) rfl hAl hQ (fun w7 e7 E7 K hK => ?_);go_simp
     (replace ha0 := ha0.ext e7; replace ha1 := ha1.ext e7; replace hb0 := hb0.ext e7; replace hb1 := hb1.ext e7; replace hR := hR.ext e7; replace hlo := hlo.ext e7; replace hhi := hhi.ext e7; replace hmid := hmid.ext e7; replace hla := hla.ext e7; replace hhr := hhr.ext e7; go_at_call 110; refine (p_plusT hlo hhr (by omega) (by omega) (by omega)).mono ?_; rintro e wk7 ⟨rfl, hpl, hx7⟩; replace ha0 := ha0.ext hx7; replace ha1 := ha1.ext hx7; replace hb0 := hb0.ext hx7; replace hb1 := hb1.ext hx7; replace hR := hR.ext hx7; replace hlo := hlo.ext hx7; replace hhi := hhi.ext hx7; replace hmid := hmid.ext hx7; replace hla := hla.ext hx7; replace hhr := hhr.ext hx7)
     refine hK.out _ _ hx7 ?_;clear hK K
     try simp only [zP]
     refine Late.cl (i := 9) rfl hAl hQ (fun w9 e9 E9 K hK => ?_);refine step_append_rowF (L := X + Y + szP KK (h + 1)) rfl _ _ rfl rfl rfl ((hpl.le (by have := Hst.out; omega)).ext e9) (addL_len hlo.len hhr.len) ((hmid.leT (by have := Hst.out; omega)).ext e9) hk0 (by omega) (by omega) ?_;intro v9 u9 hres h9;refine hK.out _ _ h9 ?_
     try simp only [List.getElem_toArray, List.getElem_cons_succ, List.getElem_cons_zero]
     clear hK K
     try simp only [zP]
     refine Late.u 10 6 hQ ?_
     try simp only [zP]
     refine Late.d0 (fun wy ey Ey => ?_);clear hAl hQ ES;obtain ⟨A0, n0, c0, rfl, hp⟩ := hres.pol
     obtain rfl : n = n0 := by
      rw [<- hp.len, List.length_append, addL_len hlo.len hhr.len, hmid.len, Hnk.out]
     have hm : mulL (radI Rs) (h + 1) xs ys = addL (mulL (radI Rs) h (xs.take k) (ys.take k)) (mulL (radI Rs) h (mulL (radI Rs) h (xs.drop k) (ys.drop k)) (radI Rs h)) ++ addL (mulL (radI Rs) h (xs.take k) (ys.drop k)) (mulL (radI Rs) h (xs.drop k) (ys.take k)) := by
      rw [mulL, <- HK.out]
     go_wp2_with fail
     go_ret
     rw [hm];exact ⟨A0, c0, rfl, hp.ext ey, (hres.ext ey).mono (Nat.le_trans EW.size E9.size), EW.trans Ey⟩
    ·replace bx := bx.ext Ez
     replace EW := EW.trans Ez;clear Ez ez
     go_upto_region 12 with (fail)
     have hdr := (Ext.refl wz).drew;replace ha0 := ha0.ext hdr;replace ha1 := ha1.ext hdr;replace hb0 := hb0.ext hdr;replace hb1 := hb1.ext hdr;replace hR := hR.ext hdr;replace hlo := hlo.ext hdr;replace hhi := hhi.ext hdr;replace hmid := hmid.ext hdr;clear hdr;have ES0 := Ext.refl wz;refine wp_region_held_drew (S := Ext wz) (by kernel_rfl) ES0.drew (fun ES => ?_);clear ES0;refine Late.s0 ES (fun hAl hQ => ?_);refine Late.u 0 81 hQ ?_
     try simp only [zP]
     refine Late.t 1 82 ?v_19 hQ ?y_19 ?_
     case y_19 => intro w' hSw;have k00 := (bx.ext hSw).c2;go_simp;try rfl
     try simp only [zP]
     refine Late.u 2 83 hQ ?_
     try simp only [zP]
     refine Late.t 3 84 ?v_1b hQ ?y_1b ?_
     case y_1b => intro w' hSw;have k00 := (bx.ext hSw).c2;go_simp;try rfl
     try simp only [zP]
     refine Late.u 4 85 hQ ?_
     try simp only [zP]
     refine Late.u 8 89 hQ ?_
     try simp only [zP]
     refine Late.cl (i := 5) rfl hAl hQ (fun w5 e5 E5 K hK => ?_);go_simp
     (replace ha0 := ha0.ext e5; replace ha1 := ha1.ext e5; replace hb0 := hb0.ext e5; replace hb1 := hb1.ext e5; replace hR := hR.ext e5; replace hlo := hlo.ext e5; replace hhi := hhi.ext e5; replace hmid := hmid.ext e5; go_at_call 111; refine (p_lastT hRt hR (by omega) (by omega) (by omega) HK.out).mono ?_; rintro e wk5 ⟨A9, c9, rfl, hla, hx5⟩; replace ha0 := ha0.ext hx5; replace ha1 := ha1.ext hx5; replace hb0 := hb0.ext hx5; replace hb1 := hb1.ext hx5; replace hR := hR.ext hx5; replace hlo := hlo.ext hx5; replace hhi := hhi.ext hx5; replace hmid := hmid.ext hx5)
     refine hK.out _ _ hx5 ?_;clear hK K
     try simp only [zP]
     refine Late.cl (i := 6) rfl hAl hQ (fun w6 e6 E6 K hK => ?_);go_simp
     (replace ha0 := ha0.ext e6; replace ha1 := ha1.ext e6; replace hb0 := hb0.ext e6; replace hb1 := hb1.ext e6; replace hR := hR.ext e6; replace hlo := hlo.ext e6; replace hhi := hhi.ext e6; replace hmid := hmid.ext e6; replace hla := hla.ext e6; go_at_call 69; refine (ih hR hhi hla HK.out (by omega) (by omega)).mono ?_; rintro e wk6 ⟨A7, c7, rfl, hhr, _, hx6⟩; replace ha0 := ha0.ext hx6; replace ha1 := ha1.ext hx6; replace hb0 := hb0.ext hx6; replace hb1 := hb1.ext hx6; replace hR := hR.ext hx6; replace hlo := hlo.ext hx6; replace hhi := hhi.ext hx6; replace hmid := hmid.ext hx6; replace hla := hla.ext hx6)
     refine hK.out _ _ hx6 ?_;clear hK K
     try simp only [zP]
     refine Late.cl (i := 7) rfl hAl hQ (fun w7 e7 E7 K hK => ?_);go_simp
     (replace ha0 := ha0.ext e7; replace ha1 := ha1.ext e7; replace hb0 := hb0.ext e7; replace hb1 := hb1.ext e7; replace hR := hR.ext e7; replace hlo := hlo.ext e7; replace hhi := hhi.ext e7; replace hmid := hmid.ext e7; replace hla := hla.ext e7; replace hhr := hhr.ext e7; go_at_call 110; refine (p_plusT hlo hhr (by omega) (by omega) (by omega)).mono ?_; rintro e wk7 ⟨rfl, hpl, hx7⟩; replace ha0 := ha0.ext hx7; replace ha1 := ha1.ext hx7; replace hb0 := hb0.ext hx7; replace hb1 := hb1.ext hx7; replace hR := hR.ext hx7; replace hlo := hlo.ext hx7; replace hhi := hhi.ext hx7; replace hmid := hmid.ext hx7; replace hla := hla.ext hx7; replace hhr := hhr.ext hx7)
     refine hK.out _ _ hx7 ?_;clear hK K
     try simp only [zP]
     refine Late.cl (i := 9) rfl hAl hQ (fun w9 e9 E9 K hK => ?_);refine step_append_rowF (L := X + Y + szP KK (h + 1)) rfl _ _ rfl rfl rfl ((hpl.le (by have := Hst.out; omega)).ext e9) (addL_len hlo.len hhr.len) ((hmid.leT (by have := Hst.out; omega)).ext e9) hk0 (by omega) (by omega) ?_;intro v9 u9 hres h9;refine hK.out _ _ h9 ?_
     try simp only [List.getElem_toArray, List.getElem_cons_succ, List.getElem_cons_zero]
     clear hK K
     try simp only [zP]
     refine Late.u 10 6 hQ ?_
     try simp only [zP]
     refine Late.d0 (fun wy ey Ey => ?_);clear hAl hQ ES;obtain ⟨A0, n0, c0, rfl, hp⟩ := hres.pol
     obtain rfl : n = n0 := by
      rw [<- hp.len, List.length_append, addL_len hlo.len hhr.len, hmid.len, Hnk.out]
     have hm : mulL (radI Rs) (h + 1) xs ys = addL (mulL (radI Rs) h (xs.take k) (ys.take k)) (mulL (radI Rs) h (mulL (radI Rs) h (xs.drop k) (ys.drop k)) (radI Rs h)) ++ addL (mulL (radI Rs) h (xs.take k) (ys.drop k)) (mulL (radI Rs) h (xs.drop k) (ys.take k)) := by
      rw [mulL, <- HK.out]
     go_wp2_with fail
     go_ret
     rw [hm];exact ⟨A0, c0, rfl, hp.ext ey, (hres.ext ey).mono (Nat.le_trans EW.size E9.size), EW.trans Ey⟩
    ·replace bx := bx.ext Ez
     replace EW := EW.trans Ez;clear Ez ez
     go_upto_region 12 with (fail)
     have hdr := (Ext.refl wz).drew;replace ha0 := ha0.ext hdr;replace ha1 := ha1.ext hdr;replace hb0 := hb0.ext hdr;replace hb1 := hb1.ext hdr;replace hR := hR.ext hdr;replace hlo := hlo.ext hdr;replace hhi := hhi.ext hdr;replace hmid := hmid.ext hdr;clear hdr;have ES0 := Ext.refl wz;refine wp_region_held_drew (S := Ext wz) (by kernel_rfl) ES0.drew (fun ES => ?_);clear ES0;refine Late.s0 ES (fun hAl hQ => ?_);refine Late.u 0 81 hQ ?_
     try simp only [zP]
     refine Late.t 1 82 ?v_1g hQ ?y_1g ?_
     case y_1g => intro w' hSw;have k00 := (bx.ext hSw).c2;go_simp;try rfl
     try simp only [zP]
     refine Late.u 2 83 hQ ?_
     try simp only [zP]
     refine Late.t 3 84 ?v_1i hQ ?y_1i ?_
     case y_1i => intro w' hSw;have k00 := (bx.ext hSw).c2;go_simp;try rfl
     try simp only [zP]
     refine Late.u 4 85 hQ ?_
     try simp only [zP]
     refine Late.u 8 89 hQ ?_
     try simp only [zP]
     refine Late.cl (i := 5) rfl hAl hQ (fun w5 e5 E5 K hK => ?_);go_simp
     (replace ha0 := ha0.ext e5; replace ha1 := ha1.ext e5; replace hb0 := hb0.ext e5; replace hb1 := hb1.ext e5; replace hR := hR.ext e5; replace hlo := hlo.ext e5; replace hhi := hhi.ext e5; replace hmid := hmid.ext e5; go_at_call 111; refine (p_lastT hRt hR (by omega) (by omega) (by omega) HK.out).mono ?_; rintro e wk5 ⟨A9, c9, rfl, hla, hx5⟩; replace ha0 := ha0.ext hx5; replace ha1 := ha1.ext hx5; replace hb0 := hb0.ext hx5; replace hb1 := hb1.ext hx5; replace hR := hR.ext hx5; replace hlo := hlo.ext hx5; replace hhi := hhi.ext hx5; replace hmid := hmid.ext hx5)
     refine hK.out _ _ hx5 ?_;clear hK K
     try simp only [zP]
     refine Late.cl (i := 6) rfl hAl hQ (fun w6 e6 E6 K hK => ?_);go_simp
     (replace ha0 := ha0.ext e6; replace ha1 := ha1.ext e6; replace hb0 := hb0.ext e6; replace hb1 := hb1.ext e6; replace hR := hR.ext e6; replace hlo := hlo.ext e6; replace hhi := hhi.ext e6; replace hmid := hmid.ext e6; replace hla := hla.ext e6; go_at_call 69; refine (ih hR hhi hla HK.out (by omega) (by omega)).mono ?_; rintro e wk6 ⟨A7, c7, rfl, hhr, _, hx6⟩; replace ha0 := ha0.ext hx6; replace ha1 := ha1.ext hx6; replace hb0 := hb0.ext hx6; replace hb1 := hb1.ext hx6; replace hR := hR.ext hx6; replace hlo := hlo.ext hx6; replace hhi := hhi.ext hx6; replace hmid := hmid.ext hx6; replace hla := hla.ext hx6)
     refine hK.out _ _ hx6 ?_;clear hK K
     try simp only [zP]
     refine Late.cl (i := 7) rfl hAl hQ (fun w7 e7 E7 K hK => ?_);go_simp
     (replace ha0 := ha0.ext e7; replace ha1 := ha1.ext e7; replace hb0 := hb0.ext e7; replace hb1 := hb1.ext e7; replace hR := hR.ext e7; replace hlo := hlo.ext e7; replace hhi := hhi.ext e7; replace hmid := hmid.ext e7; replace hla := hla.ext e7; replace hhr := hhr.ext e7; go_at_call 110; refine (p_plusT hlo hhr (by omega) (by omega) (by omega)).mono ?_; rintro e wk7 ⟨rfl, hpl, hx7⟩; replace ha0 := ha0.ext hx7; replace ha1 := ha1.ext hx7; replace hb0 := hb0.ext hx7; replace hb1 := hb1.ext hx7; replace hR := hR.ext hx7; replace hlo := hlo.ext hx7; replace hhi := hhi.ext hx7; replace hmid := hmid.ext hx7; replace hla := hla.ext hx7; replace hhr := hhr.ext hx7)
     refine hK.out _ _ hx7 ?_;clear hK K
     try simp only [zP]
     refine Late.cl (i := 9) rfl hAl hQ (fun w9 e9 E9 K hK => ?_);refine step_append_rowF (L := X + Y + szP KK (h + 1)) rfl _ _ rfl rfl rfl ((hpl.le (by have := Hst.out; omega)).ext e9) (addL_len hlo.len hhr.len) ((hmid.leT (by have := Hst.out; omega)).ext e9) hk0 (by omega) (by omega) ?_;intro v9 u9 hres h9;refine hK.out _ _ h9 ?_
     try simp only [List.getElem_toArray, List.getElem_cons_succ, List.getElem_cons_zero]
     clear hK K
     try simp only [zP]
     refine Late.u 10 6 hQ ?_
     try simp only [zP]
     refine Late.d0 (fun wy ey Ey => ?_);clear hAl hQ ES;obtain ⟨A0, n0, c0, rfl, hp⟩ := hres.pol
     obtain rfl : n = n0 := by
      rw [<- hp.len, List.length_append, addL_len hlo.len hhr.len, hmid.len, Hnk.out]
     have hm : mulL (radI Rs) (h + 1) xs ys = addL (mulL (radI Rs) h (xs.take k) (ys.take k)) (mulL (radI Rs) h (mulL (radI Rs) h (xs.drop k) (ys.drop k)) (radI Rs h)) ++ addL (mulL (radI Rs) h (xs.take k) (ys.drop k)) (mulL (radI Rs) h (xs.drop k) (ys.take k)) := by
      rw [mulL, <- HK.out]
     go_wp2_with fail
     go_ret
     rw [hm];exact ⟨A0, c0, rfl, hp.ext ey, (hres.ext ey).mono (Nat.le_trans EW.size E9.size), EW.trans Ey⟩
def normLI (R : Nat -> List Int) (h : Nat) (a : List Int) : List Int := subI (mulL R h (a.take (2 ^ h)) (a.take (2 ^ h))) (mulL R h (mulL R h (a.drop (2 ^ h)) (a.drop (2 ^ h))) (R h))
theorem normLI_len {R : Nat -> List Int} {h : Nat} {a : List Int} : (normLI R h a).length = 2 ^ h := subI_len mulL_len mulL_len
set_option maxRecDepth 100000 in
theorem p_normT {w : World} {A : Option Addr} {n c h X : Nat} {xs : List Int} (hRt : TowI Rs) (hnr : nr <= 8) (hR : ISl w Ar nr cr Rs KK) (ha : IPol w A n c xs X) (hn : n = 2 ^ (h + 1)) (hh : h + 1 <= nr) (hsz : X + X + szP KK (h + 1) <= 40000) :
  Calls Tryz.prog 77 #[.agg #[.slice Ar nr cr, .slice Af nf cf], .slice A n c] w (fun e w' => ∃ A' c', e = .returned (.slice A' (2 ^ h) c') /\ IPol w' A' (2 ^ h) c' (normLI (radI Rs) h xs) (X + X + szP KK (h + 1)) /\ Ext w w') := by
 obtain ⟨k, hk⟩ : ∃ k, k = 2 ^ h := ⟨_, rfl⟩;have hnk : n = k + k := by rw [hn, hk, two_pow_s]
 have hk0 : 0 < k := by rw [hk]; exact Nat.pow_pos (by omega)
 have hk1 : k <= 128 := by rw [hk]; exact Nat.le_trans (Nat.pow_le_pow_right (by omega) (show h <= 7 by omega)) (by decide)
 have hst := szP_step KK h;have HK := Lib.hid hk;have Hst := Lib.hid hst;have Hnk := Lib.hid hnk;have hz0 : X + X + szP KK h + szP KK h + KK + 4 <= 40000 := by omega
 have hn2 : n <= 256 := by omega
 rw [<- hk];clear hn hk hst hnk
 go_enter Tryz.func77, Tryz.ntmps77
 go_upto_region 1 with (fail)
 obtain ⟨W, hW, EW, bx, hz⟩ := box1 w 72 #[.slice Ar nr cr, .slice Af nf cf];rw [<- hW];clear hW hz
 go_wp2_with fail
 refine (p_halvesT (k := k) (ha.ext EW) Hnk.out hk0 (by omega)).mono ?_;rintro e V3 ⟨Aa, rfl, ha0, ha1, hx3⟩;replace bx := bx.ext hx3;replace EW := EW.trans hx3;replace hR := hR.ext EW
 go_upto_region 2 with (fail)
 have hdr := (Ext.refl V3).drew;replace ha0 := ha0.ext hdr;replace ha1 := ha1.ext hdr;replace hR := hR.ext hdr;clear hdr;have ES0 := Ext.refl V3;refine wp_region_held_drew (S := Ext V3) (by kernel_rfl) ES0.drew (fun ES => ?_);clear ES0;refine Late.s0 ES (fun hAl hQ => ?_);refine Late.t 0 12 ?v_0 hQ ?y_0 ?_
 case y_0 => intro w' hSw;have k00 := (bx.ext hSw).c2;go_simp;try rfl
 try simp only [zP]
 refine Late.u 1 13 hQ ?_
 try simp only [zP]
 refine Late.u 2 14 hQ ?_
 try simp only [zP]
 refine Late.t 4 16 ?v_3 hQ ?y_3 ?_
 case y_3 => intro w' hSw;have k00 := (bx.ext hSw).c2;go_simp;try rfl
 try simp only [zP]
 refine Late.t 5 17 ?v_4 hQ ?y_4 ?_
 case y_4 => intro w' hSw;have k00 := (bx.ext hSw).c2;go_simp;try rfl
 try simp only [zP]
 refine Late.u 6 18 hQ ?_
 try simp only [zP]
 refine Late.u 7 19 hQ ?_
 try simp only [zP]
 refine Late.t 9 21 ?v_7 hQ ?y_7 ?_
 case y_7 => intro w' hSw;have k00 := (bx.ext hSw).c2;go_simp;try rfl
 try simp only [zP]
 refine Late.u 10 22 hQ ?_
 try simp only [zP]
 refine Late.cl (i := 3) rfl hAl hQ (fun w3 e3 E3 K hK => ?_);go_simp
 (replace ha0 := ha0.ext e3; replace ha1 := ha1.ext e3; replace hR := hR.ext e3; go_at_call 69; refine (p_timesT hRt hnr h hR ha0 ha0 HK.out (by omega) (by omega)).mono ?_; rintro e wk3 ⟨A5, c5, rfl, h1, _, hx3⟩; replace ha0 := ha0.ext hx3; replace ha1 := ha1.ext hx3; replace hR := hR.ext hx3)
 refine hK.out _ _ hx3 ?_;clear hK K
 try simp only [zP]
 refine Late.cl (i := 8) rfl hAl hQ (fun w8 e8 E8 K hK => ?_);go_simp
 (replace ha0 := ha0.ext e8; replace ha1 := ha1.ext e8; replace hR := hR.ext e8; replace h1 := h1.ext e8; go_at_call 69; refine (p_timesT hRt hnr h hR ha1 ha1 HK.out (by omega) (by omega)).mono ?_; rintro e wk8 ⟨A6, c6, rfl, h2, _, hx8⟩; replace ha0 := ha0.ext hx8; replace ha1 := ha1.ext hx8; replace hR := hR.ext hx8; replace h1 := h1.ext hx8)
 refine hK.out _ _ hx8 ?_;clear hK K
 try simp only [zP]
 refine Late.cl (i := 11) rfl hAl hQ (fun w11 e11 E11 K hK => ?_);go_simp
 (replace ha0 := ha0.ext e11; replace ha1 := ha1.ext e11; replace hR := hR.ext e11; replace h1 := h1.ext e11; replace h2 := h2.ext e11; go_at_call 111; refine (p_lastT hRt hR (by omega) (by omega) (by omega) HK.out).mono ?_; rintro e wk11 ⟨A9, c9, rfl, hla, hx11⟩; replace ha0 := ha0.ext hx11; replace ha1 := ha1.ext hx11; replace hR := hR.ext hx11; replace h1 := h1.ext hx11; replace h2 := h2.ext hx11)
 refine hK.out _ _ hx11 ?_;clear hK K
 try simp only [zP]
 refine Late.cl (i := 12) rfl hAl hQ (fun w12 e12 E12 K hK => ?_);go_simp
 (replace ha0 := ha0.ext e12; replace ha1 := ha1.ext e12; replace hR := hR.ext e12; replace h1 := h1.ext e12; replace h2 := h2.ext e12; replace hla := hla.ext e12; go_at_call 69; refine (p_timesT hRt hnr h hR h2 hla HK.out (by omega) (by omega)).mono ?_; rintro e wk12 ⟨A7, c7, rfl, h3, _, hx12⟩; replace ha0 := ha0.ext hx12; replace ha1 := ha1.ext hx12; replace hR := hR.ext hx12; replace h1 := h1.ext hx12; replace h2 := h2.ext hx12; replace hla := hla.ext hx12)
 refine hK.out _ _ hx12 ?_;clear hK K
 try simp only [zP]
 refine Late.cl (i := 13) rfl hAl hQ (fun w13 e13 E13 K hK => ?_);go_simp
 (replace ha0 := ha0.ext e13; replace ha1 := ha1.ext e13; replace hR := hR.ext e13; replace h1 := h1.ext e13; replace h2 := h2.ext e13; replace hla := hla.ext e13; replace h3 := h3.ext e13; go_at_call 109; refine (p_minusT h1 h3 (by omega) (by omega) (by omega)).mono ?_; rintro e wk13 ⟨rfl, hmi, hx13⟩; replace ha0 := ha0.ext hx13; replace ha1 := ha1.ext hx13; replace hR := hR.ext hx13; replace h1 := h1.ext hx13; replace h2 := h2.ext hx13; replace hla := hla.ext hx13; replace h3 := h3.ext hx13)
 refine hK.out _ _ hx13 ?_;clear hK K
 try simp only [zP]
 refine Late.u 14 4 hQ ?_
 try simp only [zP]
 refine Late.d0 (fun wz ez Ez => ?_);clear hAl hQ ES;have hl : (subI (mulL (radI Rs) h (xs.take k) (xs.take k)) (mulL (radI Rs) h (mulL (radI Rs) h (xs.drop k) (xs.drop k)) (radI Rs h))).length = k := subI_len h1.len h3.len;have hp := ((hmi.pol hl (by unfold maxLen; omega)).leT (M := X + X + szP KK (h + 1)) (by have := Hst.out; omega)).ext ez
 go_wp2_with fail
 go_ret
 unfold normLI;rw [<- HK.out];exact ⟨_, _, rfl, hp, EW.trans Ez⟩
end
section
variable {w w' : World} {z y : Int} {L M : Nat} {s t : Bool} {A B : Option Addr} {n c m d : Nat} {zs ys : List Int}
def gcdL (g : Nat) (zs : List Int) : Nat := zs.foldl (fun g c => Nat.gcd g c.natAbs) g
theorem gcdL_one : ∀ zs : List Int, gcdL 1 zs = 1
 | [] => rfl
 | z :: zs => by
  show gcdL (Nat.gcd 1 z.natAbs) zs = 1
  rw [Nat.gcd_one_left];exact gcdL_one zs
theorem gcdL_app (g : Nat) (zs ys : List Int) : gcdL g (zs ++ ys) = gcdL (gcdL g zs) ys := by unfold gcdL; rw [List.foldl_append]
theorem gcdL_dvd : ∀ (zs : List Int) (g : Nat), gcdL g zs ∣ g /\ ∀ z ∈ zs, (gcdL g zs : Int) ∣ z
 | [], g => ⟨Nat.dvd_refl _, fun z hz => by cases hz⟩
 | y :: zs, g => by
  have ih := gcdL_dvd zs (Nat.gcd g y.natAbs);refine ⟨Nat.dvd_trans ih.1 (Nat.gcd_dvd_left _ _), fun z hz => ?_⟩
  rcases List.mem_cons.1 hz with rfl | hz
  ·exact Int.ofNat_dvd_left.2 (Nat.dvd_trans ih.1 (Nat.gcd_dvd_right _ _))
  ·exact ih.2 z hz
theorem p_comDiv (h : NI w z L s A n c) (ha : IPol w B m d zs L) (hm : 0 < m) (hm1 : m <= 1000) (hL : L <= 30000) (hT : Tab w) : Calls Tryz.prog 115 #[.agg #[.bool s, .slice A n c], .slice B m d] w (RetNI ((gcdL z.natAbs zs : Nat) : Int) L w) := by
 have Hlen := Lib.hid ha.len
 go_enter Tryz.func115, Tryz.ntmps115
 go_upto_region 1 with (fail)
 obtain ⟨W, hW, EW, bx, bz, hz⟩ := box2 w 28 28 #[.bool s, .slice A n c] #[Value.bool false, Value.slice Option.none 0 0];rw [<- hW];clear hW hz
 go_wp2_with fail
 go_loopw [9] (fun i wr => ∃ (k : Nat) (y : Int) (s' : Bool) (A' : Option Addr) (n' c' : Nat), k <= m /\ i = .int .i64 (k : Int) /\ Ext w wr /\ Box wr w.heap.size 28 #[.bool s', .slice A' n' c'] /\ Box wr (w.heap.size + 1) 28 #[Value.bool false, Value.slice Option.none 0 0] /\ NI wr y L s' A' n' c' /\ y.natAbs = gcdL z.natAbs (zs.take k) /\ (0 < k -> 0 <= y)) (fun i _ => m - (intOf i).toNat)
 case atStart => exact ⟨0, z, s, A, n, c, by omega, rfl, EW, bx, bz, h.ext EW, rfl, fun h => absurd h (by omega)⟩
 case round =>
  obtain ⟨k, y, s', A', n', c', hk, rfl, ext, by_, bw, hy, hg, hpos⟩ := hrel;have Hg := Lib.hid hg;have Hpos := Lib.hid hpos;clear hg hpos bx bz EW h
  by_cases hlt : k < m
  ·have hj : k < zs.length := by rw [Hlen.out]; exact hlt
   have hI : (k : Int) < (m : Int) := by omega
   obtain ⟨p, off, rfl, hr⟩ := ha.at_ (fun e => by rw [e] at hj; exact absurd hj (Nat.not_lt_zero _));obtain ⟨sx, Ax, nx, cx, e0, e1, hx⟩ := (hr.ext ext).at_ k hj;have e0' : wr.cell? ⟨p, off + k * 2, none⟩ = some (.bool sx) := by rw [Nat.mul_comm]; exact e0
   have e1' : wr.cell? ⟨p, off + k * 2 + 1, none⟩ = some (.slice Ax nx cx) := by rw [Nat.mul_comm]; exact e1
   have HT := Lib.hid (show gcdL z.natAbs (zs.take (k + 1)) = Nat.gcd (gcdL z.natAbs (zs.take k)) (zs[k]).natAbs by rw [List.take_succ_eq_append_getElem hj, gcdL_app]; rfl);have HD := Lib.hid (show gcdL z.natAbs zs = gcdL (gcdL z.natAbs (zs.take k)) (zs.drop k) by rw [<- gcdL_app, List.take_append_drop]);generalize zs[k] = r at hx HT
   go_upto_region 4 with (fail)
   obtain ⟨W2, hW, extW, bv, hz⟩ := box1 wr 28 #[.bool sx, .slice Ax nx cx];rw [<- hW];clear hW hz e0 e1 e0' e1';replace hx := hx.ext extW;replace ext := ext.trans extW;replace by_ := by_.ext extW;replace bw := bw.ext extW;replace hy := hy.ext extW;have y0 := by_.cell 0 (.bool s') rfl;have y1 := by_.cell 1 (.slice A' n' c') rfl
   by_cases hone : y = 1
   ·have H1 := Lib.hid hone
    go_wp2_with fail
    refine (p_isOneT hy).mono ?_;rintro e V ⟨rfl, hxt⟩;rw [decide_eq_true H1.out];clear y0 y1;replace by_ := by_.ext hxt;replace bw := bw.ext hxt;replace hy := hy.ext hxt;have y0 := by_.cell 0 (.bool s') rfl;have y1 := by_.cell 1 (.slice A' n' c') rfl;have z0 := bw.cell 0 _ rfl;have z1 := bw.cell 1 _ rfl;have f0 := bw.frozen 0;have f1 := bw.frozen 1
    go_wp2_with fail
    obtain ⟨b1, b2, b3, b4⟩ := fin_dual (s := s') (A := A') (n := n') (c := c') bw;have r0 := b1.cell 0 (.bool s') rfl;have r1 := b1.cell 1 (.slice A' n' c') rfl;unfold set2 at r0 r1;refine bodyPost_ret (v := .agg #[.bool s', .slice A' n' c']) (by simp [results, Tryz.results115, go_sem, r0, r1]) rfl ⟨s', A', n', c', rfl, ?_, b3 _ (ext.trans hxt) (by omega)⟩;have hg1 : gcdL z.natAbs zs = 1 := by rw [HD.out, <- Hg.out, H1.out]; exact gcdL_one _
    rw [hg1];have := b2 _ _ _ _ _ _ hy;rw [H1.out] at this;exact this
   ·have H1 := Lib.hid hone
    clear hone
    go_wp2_with fail
    refine (p_isOneT hy).mono ?_;rintro e V ⟨rfl, hxt⟩;rw [decide_eq_false H1.out];clear y0 y1;replace by_ := by_.ext hxt;replace bw := bw.ext hxt;replace bv := bv.ext hxt;replace hy := hy.ext hxt;replace hx := hx.ext hxt;replace ext := ext.trans hxt;have y0 := by_.cell 0 (.bool s') rfl;have y1 := by_.cell 1 (.slice A' n' c') rfl;have v0 := bv.cell 0 (.bool sx) rfl;have v1 := bv.cell 1 (.slice Ax nx cx) rfl
    go_wp2_with fail
    refine (p_GCD hy hx hL hL (hT.ext ext)).mono ?_;rintro e V2 ⟨s7, A7, n7, c7, rfl, h7, hxu⟩;clear y0 y1 v0 v1;replace by_ := by_.ext hxu;replace bw := bw.ext hxu;replace ext := ext.trans hxu;rw [Nat.max_self] at h7;have y0 := by_.cell 0 (.bool s') rfl;have y1 := by_.cell 1 (.slice A' n' c') rfl;have f0 := by_.frozen 0;have f1 := by_.frozen 1
    go_wp2_with fail
    obtain ⟨b1, b2, b3, b4⟩ := fin_dual (s := s7) (A := A7) (n := n7) (c := c7) by_;unfold set2 at b1 b2 b3 b4
    go_roundw
    case rel => exact ⟨k + 1, _, s7, A7, n7, c7, by omega, by go_num, b3 _ ext (by omega), b1, b4 _ _ _ (by omega) bw, b2 _ _ _ _ _ _ h7, by rw [HT.out, <- Hg.out]; simp, fun _ => by omega⟩
    case measure => simp [intOf]; omega
  ·have hI : (m : Int) <= (k : Int) := by omega
   have hkm : k = m := by omega
   have y0 := by_.cell 0 (.bool s') rfl;have y1 := by_.cell 1 (.slice A' n' c') rfl;have z0 := bw.cell 0 _ rfl;have z1 := bw.cell 1 _ rfl;have f0 := bw.frozen 0;have f1 := bw.frozen 1
   have hyv : y = ((gcdL z.natAbs zs : Nat) : Int) := by
    have h1 := Hg.out;rw [List.take_of_length_le (by rw [Hlen.out]; omega)] at h1;have h2 := Hpos.out (by omega);omega
   have Hyv := Lib.hid hyv;clear hyv hkm
   go_wp2_with fail
   obtain ⟨b1, b2, b3, b4⟩ := fin_dual (s := s') (A := A') (n := n') (c := c') bw;have r0 := b1.cell 0 (.bool s') rfl;have r1 := b1.cell 1 (.slice A' n' c') rfl;unfold set2 at r0 r1;refine bodyPost_ret (v := .agg #[.bool s', .slice A' n' c']) (by simp [results, Tryz.results115, go_sem, r0, r1]) rfl ⟨s', A', n', c', rfl, ?_, b3 _ ext (by omega)⟩;rw [<- Hyv.out];exact b2 _ _ _ _ _ _ hy
end
end
end Go.Proofs.YtgagcochepnelaaGreatDoor
