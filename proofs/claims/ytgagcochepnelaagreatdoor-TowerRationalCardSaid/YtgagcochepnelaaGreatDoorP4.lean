/- Walks and laws, a part. -/
import Derived.Test.YtgagcochepnelaaGreatDoorP2
import Derived.Test.YtgagcochepnelaaGreatDoorP1
import Derived.Test.YtgagcochepnelaaGreatDoorP3
import Derived.Test.YtgagcochepnelaaGreatDoorP0
import Derived.BigQuiet
import Derived.Lib.Strings
set_option linter.unusedSimpArgs false
set_option linter.unusedVariables false
set_option maxHeartbeats 64000000
namespace Go.Proofs.YtgagcochepnelaaGreatDoor
section
open Go.RowKit
section
variable {A B : Option Addr} {c d n m : Nat} {xs ys : List Nat} {w : World} {s t : Bool}
theorem ref_by {v : Nat} (hn : xs.length = n) (hx : Rd w A xs) (hv0 : 0 < v) (hv : v < 4294967296) (h1 : n <= 100000) :
  Calls Tryz.prog 130 #[.slice A n c, .int .u32 (v : Int)] w fun e w' => ∃ A' c' zs, e = .returned (.tuple #[.slice A' (List.length zs) c', .int .u32 ((val xs % v : Nat) : Int)]) /\ Own w' w.heap.size A' zs /\ zs.length <= c' /\ c' <= maxLen /\ val zs = val xs / v /\ Nrm zs /\ zs.length <= n /\ Ext w w' := by
 have hmk : ∀ W : World, (Instr.makeSlice 26 (.int .i64 (n : Int)) (.int .i64 (n : Int))).run Tryz.prog W = .ok (.slice (some ⟨W.heap.size, 0, none⟩) n n) (W.alloc (.cells (madeCells #[.int .u32 0] n) 89)) := fun W => mk_words 26 Tryz.underlying26 n (by omega) W
 have hz0 : ((v : Int) == 0) = false := by rw [beq_eq_false_iff_ne]; omega
 have hp1 : (1 : Int) <= (v : Int) := by omega
 have hb0 := BlkN.new w n;have he0 := (Ext.refl w).alloc (.cells (madeCells #[.int .u32 0] n) 89);have Hn := Lib.hid hn;have Hd0 := Lib.hid (DwInv.start (xs := xs) (zs := List.replicate n 0) (v := v) (by simp [hn]) (W32.replicate _) hv0);rw [hn] at Hd0;clear hn
 go_enter Tryz.func130, Tryz.ntmps130
 go_wp2
 go_loopw [7, 8] (fun r i wr => ∃ (k p : Nat) (zs : List Nat), k <= n /\ i = .int .i64 ((k : Int) - 1) /\ r = .int .u64 (p : Int) /\ DwInv xs zs v k p /\ BlkN wr w.heap.size zs /\ Ext w wr) (fun _ i _ => (intOf i + 1).toNat)
 case atStart => exact ⟨n, 0, _, by omega, rfl, rfl, Hd0.out, hb0, he0⟩
 case round =>
  obtain ⟨k, p, zs, hk, rfl, rfl, hinv, hblk, hext⟩ := hrel;have hpv := hinv.lt;have hzl : zs.length = n := by rw [hinv.len]; exact Hn.out
  rcases k with _ | j
  ·have Hd := Lib.hid hinv.done
   have Hw := Lib.hid hinv.w32;clear hinv;rw [show (((0 : Nat) : Int) - 1) = -1 from rfl];have hp32 : p < 4294967296 := by omega
   go_wp2_with fail
   refine (ref_trimN hzl (hblk.rd0 Hw.out) (Nat.le_refl _) (by unfold maxLen; omega)).mono ?_;rintro e w2 ⟨rfl, rfl⟩
   go_wp2_with fail
   go_ret2
   have hl := trimL_len zs;refine ⟨_, _, trimL zs, by rw [Hd.out.2]; rfl, ?_, by omega, by unfold maxLen; omega, by rw [val_trimL]; exact Hd.out.1, Nrm.trimL _, by omega, hext⟩;rw [trimL_take];exact (Own.of_blk hblk Hw.out (Nat.le_refl _)).take _
  ·rw [show (((j + 1 : Nat) : Int) - 1) = (j : Int) by omega]
   have hjx : j < xs.length := by rw [Hn.out]; omega
   obtain ⟨b1, o1, rfl, hb1, hc⟩ := (hx.ext hext).at_ hjx;have hst := hinv.step hx.1 hjx;have hxj := hx.1.get hjx;have hq := dw_lt hpv hxj;have hor := high_or (b := p) hxj (by omega);have hnl : p * 4294967296 + xs[j] < 18446744073709551616 := by omega
   generalize xs[j] = X at *;generalize p * 4294967296 + X = NV at *;have hr := Nat.mod_lt NV hv0;have hq' : (NV : Int).tdiv (v : Int) = ((NV / v : Nat) : Int) := rfl;have hr' : (NV : Int).tmod (v : Int) = ((NV % v : Nat) : Int) := rfl;generalize NV / v = U at *;generalize NV % v = V at *;have hwu := wrap_u64_nat (a := U) (by omega);have hwv := wrap_u64_nat (a := V) (by omega);have hcz := hblk.cell (i := j) (by omega);have hfz := hblk.frozen j;have Hst := Lib.hid hst;clear hst hinv
   go_wp2
   go_roundw
   case rel => exact ⟨j, V, _, by omega, rfl, rfl, Hst.out, hblk.set j rfl, hext.setCell (Nat.le_refl _) _⟩
   case measure => simp [intOf]
theorem ref_shifted {b : Nat} (hn : xs.length = n) (hx : Rd w A xs) (hb : b < 32) (h1 : n <= 100000) :
  Calls Tryz.prog 132 #[.slice A n c, .int .i64 (b : Int)] w (RetN (fun zs => val zs = val xs * 2 ^ b /\ zs.length = n + 1) w) := by
 have hmk : ∀ W : World, (Instr.makeSlice 26 (.int .i64 ((n : Int) + 1)) (.int .i64 ((n : Int) + 1))).run Tryz.prog W = .ok (.slice (some ⟨W.heap.size, 0, none⟩) (n + 1) (n + 1)) (W.alloc (.cells (madeCells #[.int .u32 0] (n + 1)) 89)) := fun W => by
  have h := mk_words 26 Tryz.underlying26 (n + 1) (by omega) W
  rwa [show ((n + 1 : Nat) : Int) = (n : Int) + 1 by omega] at h
 have hb0 := BlkN.new w (n + 1);have he0 := (Ext.refl w).alloc (.cells (madeCells #[.int .u32 0] (n + 1)) 89);have Hn := Lib.hid hn;have hi := ShlInv.start xs b;rw [hn] at hi;have Hi := Lib.hid hi;clear hn hi
 go_enter Tryz.func132, Tryz.ntmps132
 go_wp2
 go_loopw [6] (fun i wr => ∃ (k : Nat) (zs : List Nat), k <= n /\ i = .int .i64 (k : Int) /\ ShlInv xs b k zs /\ BlkN wr w.heap.size zs /\ Ext w wr) (fun i _ => n - (intOf i).toNat)
 case atStart => exact ⟨0, _, by omega, rfl, Hi.out, hb0, he0⟩
 case round =>
  obtain ⟨k, zs, hk, rfl, hinv, hblk, hext⟩ := hrel;have hzl : zs.length = n + 1 := by rw [hinv.len, Hn.out]
  by_cases hlt : k < n
  ·have hkx : k < xs.length := by rw [Hn.out]; exact hlt
   obtain ⟨b1, o1, rfl, hb1, hc1⟩ := (hx.ext hext).at_ hkx;have hxk := hx.1.get hkx;have hc2 := hblk.cell (i := k) (by omega);have hc3 := hblk.cell (i := k + 1) (by omega);have hzk := hinv.w32.get (k := k) (by omega);have hlow : zs[k]'(by omega) < 2 ^ b := by have := hinv.low; rwa [getD_at (by omega)] at this
   have hfz := hblk.frozen k;have hfz2 := hblk.frozen (k + 1);have hst := hinv.step hb hx.1 hkx;rw [getD_at (by omega)] at hst;have Hst := Lib.hid hst;have Hlo := Lib.hid (shl_lo hxk hb hlow hzk);have Hhi := Lib.hid (shl_hi hxk hb);clear hst hinv hlow
   go_wp2
   go_roundw
   case rel => exact ⟨k + 1, _, by omega, by go_num, Hst.out, (hblk.set k Hlo.out).set (k + 1) Hhi.out, (hext.setCell (Nat.le_refl _) _).setCell (Nat.le_refl _) _⟩
   case measure => simp [intOf]; omega
  ·obtain rfl : k = n := by omega
   have Hw := Lib.hid hinv.w32;have he := hinv.eq;rw [List.take_of_length_le (by omega), List.take_of_length_le (by rw [Hn.out]; exact Nat.le_refl _)] at he;have He := Lib.hid he;have Hzl := Lib.hid hzl;clear hinv he hzl
   go_wp2
   go_ret
   exact ⟨_, _, zs, by rw [Hzl.out]; rfl, Own.of_blk hblk Hw.out (Nat.le_refl _), by rw [Hzl.out]; exact Nat.le_refl _, by unfold maxLen; omega, ⟨He.out, Hzl.out⟩, hext⟩
theorem back_cast {X b : Nat} {Y : Int} (h : Y = (X : Int)) : Y / 2 ^ b % 4294967296 = ((X / 2 ^ b % 4294967296 : Nat) : Int) := by
 subst h;rw [Int.natCast_emod, Int.natCast_ediv];simp
theorem ref_back {b : Nat} (hn : xs.length = n) (hx : Rd w A xs) (hb : b < 32) (h1 : n <= 100000) :
  Calls Tryz.prog 135 #[.slice A n c, .int .i64 (b : Int)] w (RetN (fun zs => val zs = val xs / 2 ^ b /\ Nrm zs /\ zs.length <= n) w) := by
 have hmk : ∀ W : World, (Instr.makeSlice 26 (.int .i64 (n : Int)) (.int .i64 (n : Int))).run Tryz.prog W = .ok (.slice (some ⟨W.heap.size, 0, none⟩) n n) (W.alloc (.cells (madeCells #[.int .u32 0] n) 89)) := fun W => mk_words 26 Tryz.underlying26 n (by omega) W
 have hb0 := BlkN.new w n;have he0 := (Ext.refl w).alloc (.cells (madeCells #[.int .u32 0] n) 89);have Hn := Lib.hid hn;have Hspec := Lib.hid (val_shrL (b := b) (by omega) hx.1);clear hn
 go_enter Tryz.func135, Tryz.ntmps135
 go_wp2
 go_loopw [6] (fun i wr => ∃ (k : Nat) (zs : List Nat), k <= n /\ i = .int .i64 (k : Int) /\ zs.length = n /\ W32 zs /\ zs.take k = (shrL b xs).take k /\ BlkN wr w.heap.size zs /\ Ext w wr) (fun i _ => n - (intOf i).toNat)
 case atStart => exact ⟨0, _, by omega, rfl, by simp, W32.replicate _, rfl, hb0, he0⟩
 case round =>
  obtain ⟨k, zs, hk, rfl, hzl, hzw, htk, hblk, hext⟩ := hrel;have Htk := Lib.hid htk;clear htk
  by_cases hlt : k < n
  ·have hkx : k < xs.length := by rw [Hn.out]; exact hlt
   obtain ⟨b1, o1, rfl, hb1, hc1⟩ := (hx.ext hext).at_ hkx;have hxk := hx.1.get hkx;have hc2 := hblk.cell (i := k) (by omega);have hfz := hblk.frozen k
   by_cases hnx : k + 1 < n
   ·have hkx1 : k + 1 < xs.length := by rw [Hn.out]; exact hnx
    obtain ⟨b2, o2, he, hb2, hc3⟩ := (hx.ext hext).at_ hkx1
    injection he with he
    injection he with he1 he2
    subst he1; subst he2;have hxn := hx.1.get hkx1;have hset := take_shr (b := b) (v := (xs[k] + 4294967296 * xs[k + 1]) / 2 ^ b % 4294967296) hkx (by omega) Htk.out (by rw [getD_at hkx1]);have hor := or_high hxk hxn;have hlp : (k : Int) + 1 < (n : Int) := by omega
    generalize xs[k + 1] = Y at *;generalize xs[k] = X at *;have hXl : X + 4294967296 * Y < 18446744073709551616 := by omega
    generalize X + 4294967296 * Y = Z at *;have Hset := Lib.hid hset;have Hv := Lib.hid (back_cast (X := Z) (b := b) rfl);clear hset
    go_wp2
    go_roundw
    case rel => exact ⟨k + 1, _, by omega, by go_num, by simp [hzl], hzw.set _ (Nat.mod_lt _ (by omega)), Hset.out, hblk.set k Hv.out, hext.setCell (Nat.le_refl _) _⟩
    case measure => simp [intOf]; omega
   ·have hset := take_shr (b := b) (v := xs[k] / 2 ^ b % 4294967296) hkx (by omega) Htk.out (by rw [getD_out (by rw [Hn.out]; exact hnx), Nat.mul_zero, Nat.add_zero])
    have hlp : ¬ (k : Int) + 1 < (n : Int) := by omega
    generalize xs[k] = X at *;have Hset := Lib.hid hset;have Hv := Lib.hid (back_cast (X := X) (b := b) rfl);clear hset
    go_wp2
    go_roundw
    case rel => exact ⟨k + 1, _, by omega, by go_num, by simp [hzl], hzw.set _ (Nat.mod_lt _ (by omega)), Hset.out, hblk.set k (by first | exact Hv.out | (have := Hv.out; omega)), hext.setCell (Nat.le_refl _) _⟩
    case measure => simp [intOf]; omega
  ·obtain rfl : k = n := by omega
   have hfull : zs = shrL b xs := by
    have := Htk.out
    rwa [List.take_of_length_le (by omega), List.take_of_length_le (by rw [shrL_len, Hn.out]; exact Nat.le_refl _)] at this
   have Hfull := Lib.hid hfull;clear hfull
   go_wp2_with fail
   refine (ref_trimN hzl (hblk.rd0 hzw) (Nat.le_refl _) (by unfold maxLen; omega)).mono ?_;rintro e w2 ⟨rfl, rfl⟩
   go_wp2_with fail
   go_ret
   have hl := trimL_len zs;refine ⟨_, _, trimL zs, rfl, ?_, by omega, by unfold maxLen; omega, ⟨by rw [val_trimL, Hfull.out]; exact Hspec.out, Nrm.trimL _, by omega⟩, hext⟩;rw [trimL_take];exact (Own.of_blk hblk hzw (Nat.le_refl _)).take _
end
theorem digit_first {E v1 top D P : Nat} (h1 : E * v1 <= D) (hv : 0 < v1) (h2 : P < E * top + E) : P < (top / v1 + 1) * D := by
 have hq : top + 1 <= (top / v1 + 1) * v1 := by
  have := Nat.div_add_mod top v1;have h2 := Nat.mod_lt top hv;rw [Nat.add_mul, Nat.mul_comm (top / v1)];omega
 have a := Nat.mul_le_mul_left E hq;rw [Nat.mul_add, Nat.mul_one, Nat.mul_left_comm] at a;have b := Nat.mul_le_mul_left (top / v1 + 1) h1;omega
theorem digit_of {ps ds : List Nat} {n : Nat} (hp : W32 ps) (h0 : 0 < n) (hpl : ps.length = n + 1) (hdl : ds.length = n) :
  4294967296 ^ (n - 1) * ds[n - 1]'(by omega) <= val ds /\ val ps < 4294967296 ^ (n - 1) * (ps[n]'(by omega) * 4294967296 + ps[n - 1]'(by omega)) + 4294967296 ^ (n - 1) := by
 obtain ⟨k, rfl⟩ : ∃ k, n = k + 1 := ⟨n - 1, by omega⟩;simp only [Nat.add_sub_cancel];have d1 := val_take_succ ds k (by omega);rw [List.take_of_length_le (by omega)] at d1;have p1 := val_take_succ ps k (by omega);have p2 := val_take_succ ps (k + 1) (by omega);rw [List.take_of_length_le (by omega)] at p2;have lp := val_lt (hp.take k);rw [List.length_take, Nat.min_eq_left (by omega)] at lp;refine ⟨by omega, ?_⟩;rw [p2, p1, Nat.pow_succ, Nat.mul_add, Nat.mul_assoc, Nat.mul_comm 4294967296];omega
section
variable {A B : Option Addr} {c d n m : Nat} {xs ys : List Nat} {w : World} {s t : Bool}
theorem ref_digit {ps ds : List Nat} (hpl : ps.length = n + 1) (hdl : ds.length = n) (h0 : 0 < n) (hp : Rd w A ps) (hd : Rd w B ds) (hdn : Nrm ds) (hlt : val ps < 4294967296 * val ds) (hcp : n + 1 <= c) (hcm : c <= maxLen) (h1 : n <= 10000) :
  Calls Tryz.prog 133 #[.slice A (n + 1) c, .slice B n d] w fun e w' => ∃ (q : Nat) (A' : Option Addr) (c' : Nat) (us : List Nat), e = .returned (.tuple #[.int .u32 (q : Int), .slice A' us.length c']) /\ Own w' w.heap.size A' us /\ us.length <= c' /\ c' <= maxLen /\ q < 4294967296 /\ val us = q * val ds /\ Nrm us /\ q * val ds <= val ps /\ val ps < (q + 1) * val ds /\ Ext w w' := by
 have hdf := digit_of hp.1 h0 hpl hdl
 have hv0 : ds[n - 1]'(by omega) ≠ 0 := by
  subst hdl;exact hdn.last h0
 obtain ⟨b1, o1, rfl, hb1, c0⟩ := hp.at_ (i := n) (by omega);obtain ⟨b1', o1', he, _, c1⟩ := hp.at_ (i := n - 1) (by omega)
 injection he with he
 injection he with he1 he2
 subst he1; subst he2;obtain ⟨b2, o2, rfl, hb2, d1⟩ := hd.at_ (i := n - 1) (by omega);have hu0 := hp.1.get (k := n) (by omega);have hu1 := hp.1.get (k := n - 1) (by omega);have hv1 := hd.1.get (k := n - 1) (by omega);have hor := high_or hu1 hu0;have hnl : ps[n]'(by omega) * 4294967296 + ps[n - 1]'(by omega) < 18446744073709551616 := by omega
 generalize ps[n]'(by omega) = U0 at *;generalize ps[n - 1]'(by omega) = U1 at *;generalize ds[n - 1]'(by omega) = V1 at *;generalize U0 * 4294967296 + U1 = T at *;have hz0 : ((V1 : Int) == 0) = false := by rw [beq_eq_false_iff_ne]; omega
 have hp1 : (1 : Int) <= (V1 : Int) := by omega
 have hdf1 := digit_first hdf.1 (by omega) hdf.2;have hq' : (T : Int).tdiv (V1 : Int) = ((T / V1 : Nat) : Int) := rfl;have hQT : T / V1 <= T := Nat.div_le_self _ _;generalize T / V1 = Q at *;have hwu := wrap_u64_nat (a := Q) (by omega);have Hpl := Lib.hid hpl;have Hdl := Lib.hid hdl;have Hlt := Lib.hid hlt;have Hdf1 := Lib.hid hdf1;clear hpl hdl hlt hdf1
 by_cases hbig : 4294967295 < Q
 ·have d3 : decide ((4294967295 : Int) < (Q : Int)) = true := decide_eq_true (by omega)
  have hfirst := Hlt.out;have Hfirst := Lib.hid hfirst;clear hfirst hdf
  go_enter Tryz.func133, Tryz.ntmps133
  go_wp2
  go_quiet (fail)
  have hnb := fun W : World => BlkN.lit W [4294967295] #[.int .u32 ((4294967295 : Nat) : Int)] rfl
  have hw1 : W32 [4294967295] := W32.one (by omega)
  go_wp2_with fail
  refine (ref_times1 (m := 1) (xs := ds) (ys := [4294967295]) Hdl.out rfl (hd.ext (((Ext.refl w).drewN _).alloc _)) ((hnb _).rd0 hw1) (by omega)).mono ?_;rintro e w1 ⟨A1, c1, pp, rfl, ho1, hc1, hm1, ⟨hv1', hn1, hl1⟩, hxt1⟩;rw [val_one, Nat.mul_comm] at hv1';have Hv1 := Lib.hid hv1';have ext1 := ((((Ext.refl w).drewN _).alloc _).trans hxt1 : Ext w _);have hl1' : pp.length <= n + 1 := by rw [Hdl.out] at hl1; exact hl1
  clear hv1' hl1 hnb hw1
  go_wp2_with fail
  go_loopw [7, 8] (fun a b wr => ∃ (q : Nat) (A2 : Option Addr) (c2 : Nat) (us : List Nat), a = .int .u64 (q : Int) /\ b = .slice A2 us.length c2 /\ val us = q * val ds /\ Nrm us /\ Own wr w.heap.size A2 us /\ us.length <= c2 /\ c2 <= maxLen /\ us.length <= n + 1 /\ val ps < (q + 1) * val ds /\ q < 4294967296 /\ Ext w wr) (fun a _ _ => (intOf a).toNat)
  case atStart => exact ⟨4294967295, A1, c1, pp, rfl, rfl, Hv1.out, hn1, ho1.mono (by first | exact (((Ext.refl w).drewN _).alloc _).size | simp), hc1, hm1, hl1', Hfirst.out, (by omega), ext1⟩
  case round =>
   clear ho1 hc1 hm1 hn1 hl1' ext1 hxt1;obtain ⟨q, A2, c2, us, rfl, rfl, huv, hun, hou, hc2, hm2, hul, hP, hq32, hext⟩ := hrel;have Huv := Lib.hid huv;have HP := Lib.hid hP;clear huv hP
   go_wp2_with fail
   refine (ref_trimN Hpl.out (hp.ext hext) hcp hcm).mono ?_;rintro e w2 ⟨rfl, rfl⟩;have hpt : Rd wr (some ⟨b1, o1, none⟩) (trimL ps) := by rw [trimL_take]; exact (hp.ext hext).take _
   have hptl : (trimL ps).length <= n + 1 := by have := trimL_len ps; rw [Hpl.out] at this; exact this
   go_wp2_with fail
   refine (ref_compare _ A2 c c2 (trimL ps) us wr hpt hou.rd (by unfold maxLen; omega) (by unfold maxLen; omega)).mono ?_;rintro e w2 ⟨rfl, hxt2⟩;have hcv : cmpL (trimL ps) us = cmpI (val ps) (val us) := by rw [cmpL_nrm hpt.1 hou.1 (Nrm.trimL _) hun, val_trimL]
   rw [hcv];clear hcv
   rcases Nat.lt_trichotomy (val ps) (val us) with hlt | hlt | hlt
   ·rw [cmpI_of_lt hlt]
    rw [Huv.out] at hlt
    have hq0 : 1 <= q := by
     rcases Nat.eq_zero_or_pos q with rfl | h
     ·rw [Nat.zero_mul] at hlt; omega
     ·exact h
    have hle : val ds <= val us := by
     rw [Huv.out];exact Nat.le_mul_of_pos_left _ hq0
    have hlen : n <= us.length := by have := len_le hou.1 hdn hle; rw [Hdl.out] at this; exact this
    have Hle := Lib.hid hle;have Hlt := Lib.hid hlt;have hqi : (1 : Int) <= (q : Int) := by omega
    clear hle hlt
    go_wp2_with fail
    refine (ref_minus rfl Hdl.out (hou.rd.ext hxt2) (hd.ext (hext.trans hxt2)) hlen Hle.out (by omega)).mono ?_;rintro e w3 ⟨A3, c3, vs, rfl, ho3, hc3, hm3, ⟨hv3, hn3, hl3⟩, hxt3⟩;have Hv3 := Lib.hid hv3;clear hv3
    go_wp2_with fail
    go_roundw
    case rel =>
     refine ⟨q - 1, A3, c3, vs, congrArg (Value.int .u64) (by omega), rfl, ?_, hn3, ho3.mono (hext.trans hxt2).size, hc3, hm3, by omega, ?_, by omega, hext.trans (hxt2.trans hxt3)⟩
     ·rw [Hv3.out, Huv.out, Nat.sub_mul, Nat.one_mul]
     ·rw [Nat.sub_add_cancel hq0]; exact Hlt.out
    case measure => simp [intOf]; omega
   ·rw [cmpI_of_eq hlt]
    rw [Huv.out] at hlt;have Hlt := Lib.hid hlt;clear hlt
    go_wp2_with fail
    go_ret2
    exact ⟨q, A2, c2, us, rfl, hou.ext hxt2, hc2, hm2, hq32, Huv.out, hun, by rw [Hlt.out]; exact Nat.le_refl _, HP.out, hext.trans hxt2⟩
   ·rw [cmpI_of_gt hlt]
    rw [Huv.out] at hlt;have Hlt := Lib.hid hlt;clear hlt
    go_wp2_with fail
    go_ret2
    exact ⟨q, A2, c2, us, rfl, hou.ext hxt2, hc2, hm2, hq32, Huv.out, hun, Nat.le_of_lt Hlt.out, HP.out, hext.trans hxt2⟩
 ·have d3 : decide ((4294967295 : Int) < (Q : Int)) = false := decide_eq_false (by omega)
  have hQ32 : Q < 4294967296 := by omega
  have hfirst := Hdf1.out;have Hfirst := Lib.hid hfirst;clear hfirst hdf
  go_enter Tryz.func133, Tryz.ntmps133
  go_wp2
  go_quiet (fail)
  have hnb := fun W : World => BlkN.lit W [Q] #[.int .u32 ((Q : Nat) : Int)] rfl
  have hw1 : W32 [Q] := W32.one hQ32
  go_wp2_with fail
  refine (ref_times1 (m := 1) (xs := ds) (ys := [Q]) Hdl.out rfl (hd.ext (((Ext.refl w).drewN _).alloc _)) ((hnb _).rd0 hw1) (by omega)).mono ?_;rintro e w1 ⟨A1, c1, pp, rfl, ho1, hc1, hm1, ⟨hv1', hn1, hl1⟩, hxt1⟩;rw [val_one, Nat.mul_comm] at hv1';have Hv1 := Lib.hid hv1';have ext1 := ((((Ext.refl w).drewN _).alloc _).trans hxt1 : Ext w _);have hl1' : pp.length <= n + 1 := by rw [Hdl.out] at hl1; exact hl1
  clear hv1' hl1 hnb hw1
  go_wp2_with fail
  go_loopw [7, 8] (fun a b wr => ∃ (q : Nat) (A2 : Option Addr) (c2 : Nat) (us : List Nat), a = .int .u64 (q : Int) /\ b = .slice A2 us.length c2 /\ val us = q * val ds /\ Nrm us /\ Own wr w.heap.size A2 us /\ us.length <= c2 /\ c2 <= maxLen /\ us.length <= n + 1 /\ val ps < (q + 1) * val ds /\ q < 4294967296 /\ Ext w wr) (fun a _ _ => (intOf a).toNat)
  case atStart => exact ⟨Q, A1, c1, pp, rfl, rfl, Hv1.out, hn1, ho1.mono (by first | exact (((Ext.refl w).drewN _).alloc _).size | simp), hc1, hm1, hl1', Hfirst.out, hQ32, ext1⟩
  case round =>
   clear ho1 hc1 hm1 hn1 hl1' ext1 hxt1;obtain ⟨q, A2, c2, us, rfl, rfl, huv, hun, hou, hc2, hm2, hul, hP, hq32, hext⟩ := hrel;have Huv := Lib.hid huv;have HP := Lib.hid hP;clear huv hP
   go_wp2_with fail
   refine (ref_trimN Hpl.out (hp.ext hext) hcp hcm).mono ?_;rintro e w2 ⟨rfl, rfl⟩;have hpt : Rd wr (some ⟨b1, o1, none⟩) (trimL ps) := by rw [trimL_take]; exact (hp.ext hext).take _
   have hptl : (trimL ps).length <= n + 1 := by have := trimL_len ps; rw [Hpl.out] at this; exact this
   go_wp2_with fail
   refine (ref_compare _ A2 c c2 (trimL ps) us wr hpt hou.rd (by unfold maxLen; omega) (by unfold maxLen; omega)).mono ?_;rintro e w2 ⟨rfl, hxt2⟩;have hcv : cmpL (trimL ps) us = cmpI (val ps) (val us) := by rw [cmpL_nrm hpt.1 hou.1 (Nrm.trimL _) hun, val_trimL]
   rw [hcv];clear hcv
   rcases Nat.lt_trichotomy (val ps) (val us) with hlt | hlt | hlt
   ·rw [cmpI_of_lt hlt]
    rw [Huv.out] at hlt
    have hq0 : 1 <= q := by
     rcases Nat.eq_zero_or_pos q with rfl | h
     ·rw [Nat.zero_mul] at hlt; omega
     ·exact h
    have hle : val ds <= val us := by
     rw [Huv.out];exact Nat.le_mul_of_pos_left _ hq0
    have hlen : n <= us.length := by have := len_le hou.1 hdn hle; rw [Hdl.out] at this; exact this
    have Hle := Lib.hid hle;have Hlt := Lib.hid hlt;have hqi : (1 : Int) <= (q : Int) := by omega
    clear hle hlt
    go_wp2_with fail
    refine (ref_minus rfl Hdl.out (hou.rd.ext hxt2) (hd.ext (hext.trans hxt2)) hlen Hle.out (by omega)).mono ?_;rintro e w3 ⟨A3, c3, vs, rfl, ho3, hc3, hm3, ⟨hv3, hn3, hl3⟩, hxt3⟩;have Hv3 := Lib.hid hv3;clear hv3
    go_wp2_with fail
    go_roundw
    case rel =>
     refine ⟨q - 1, A3, c3, vs, congrArg (Value.int .u64) (by omega), rfl, ?_, hn3, ho3.mono (hext.trans hxt2).size, hc3, hm3, by omega, ?_, by omega, hext.trans (hxt2.trans hxt3)⟩
     ·rw [Hv3.out, Huv.out, Nat.sub_mul, Nat.one_mul]
     ·rw [Nat.sub_add_cancel hq0]; exact Hlt.out
    case measure => simp [intOf]; omega
   ·rw [cmpI_of_eq hlt]
    rw [Huv.out] at hlt;have Hlt := Lib.hid hlt;clear hlt
    go_wp2_with fail
    go_ret2
    exact ⟨q, A2, c2, us, rfl, hou.ext hxt2, hc2, hm2, hq32, Huv.out, hun, by rw [Hlt.out]; exact Nat.le_refl _, HP.out, hext.trans hxt2⟩
   ·rw [cmpI_of_gt hlt]
    rw [Huv.out] at hlt;have Hlt := Lib.hid hlt;clear hlt
    go_wp2_with fail
    go_ret2
    exact ⟨q, A2, c2, us, rfl, hou.ext hxt2, hc2, hm2, hq32, Huv.out, hun, Nat.le_of_lt Hlt.out, HP.out, hext.trans hxt2⟩
end
theorem LInv.part2 {D N L K i n : Nat} {R Q : List Nat} (h : LInv D N L K (i + 1) R Q) (hL : i + n + 1 <= L) (hD : D < 4294967296 ^ n) :
  val (R.drop (i + n + 1)) = 0 /\ val ((R.drop i).take (n + 1)) = val (R.drop i) /\ val ((R.drop i).take (n + 1)) < 4294967296 * D := by
 have hr := h.rl;have e1 := val_drop_succ R i (by omega);have hx := h.rw.get (k := i) (by omega);have hlt := h.lt;have h1 : val (R.drop i) < 4294967296 * D := by omega
 have e2 := val_split (R.drop i) (n + 1) (by rw [List.length_drop]; omega);rw [List.drop_drop, <- Nat.add_assoc, Nat.pow_succ] at e2
 have h0 : val (R.drop (i + n + 1)) = 0 := by
  rcases Nat.eq_zero_or_pos (val (R.drop (i + n + 1))) with h0 | h0
  ·exact h0
  ·have : 4294967296 ^ (n + 1) * 1 <= 4294967296 ^ (n + 1) * val (R.drop (i + n + 1)) := Nat.mul_le_mul_left _ h0
   rw [Nat.pow_succ] at this;omega
 rw [h0, Nat.mul_zero] at e2;exact ⟨h0, by omega, by omega⟩
theorem LInv.step2 {D N L K i n w : Nat} {R Q ps : List Nat} (h : LInv D N L K (i + 1) R Q) (hi : i < K) (hL : i + n + 1 <= L) (hD : D < 4294967296 ^ n) (hps : ps.length = n + 1) (hpw : W32 ps) (hw : w < 4294967296)
  (hlt : val ps < D) (he : val ps + w * D = val ((R.drop i).take (n + 1))) : LInv D N L K i (R.take i ++ ps ++ R.drop (i + n + 1)) (Q.set i w) := by
 obtain ⟨h0, h1, _⟩ := h.part2 hL hD;have hr := h.rl;have hq := h.ql;have htl : (R.take i).length = i := by rw [List.length_take]; omega
 have hd : val ((R.take i ++ ps ++ R.drop (i + n + 1)).drop i) = val ps := by
  rw [List.append_assoc, List.drop_append_of_le_length (by omega), List.drop_of_length_le (by omega), List.nil_append, val_append, h0, Nat.mul_zero, Nat.add_zero]
 refine ⟨?_, ((h.rw.take _).append hpw).append (h.rw.drop _), by simpa using hq, h.qw.set _ hw, by rw [hd]; exact hlt, ?_⟩
 ·simp only [List.length_append, htl, hps, List.length_drop, hr]; omega
 ·have e := h.eq
  have eR := val_split R i (by omega)
  have e2 : val (R.take i ++ ps ++ R.drop (i + n + 1)) = val (R.take i) + 4294967296 ^ i * val ps := by
   rw [val_append, h0, Nat.mul_zero, Nat.add_zero, val_append, htl]
  have e3 : val ((Q.set i w).drop i) = w + 4294967296 * val (Q.drop (i + 1)) := by
   rw [val_drop_succ _ i (by simp; omega), drop_set_succ];simp
  rw [e2, e3, <- e, eR, <- h1, <- he, Nat.pow_succ];generalize 4294967296 ^ i = p;generalize val (Q.drop (i + 1)) = t;rw [Nat.mul_add p w, Nat.add_mul, Nat.mul_add p (val ps), <- Nat.mul_assoc p w D, <- Nat.mul_assoc p 4294967296 t];omega
theorem LInv.start2 {a b s la lb : Nat} {R : List Nat} (hR : R.length = la + 1) (hRw : W32 R) (hv : val R = a * 2 ^ s) (hab : lb <= la) (h1 : 0 < lb) (ha : a < 4294967296 ^ la) (hb : 4294967296 ^ (lb - 1) <= b) :
  LInv (b * 2 ^ s) (a * 2 ^ s) (la + 1) la (la - lb + 1) R (List.replicate la 0) := by
 have h := LInv.start (Q := List.replicate (la - lb + 1) 0) hR hRw rfl hv hab h1 ha hb;refine ⟨hR, hRw, by simp, W32.replicate _, h.lt, ?_⟩;rw [List.drop_replicate, val_replicate, hv];simp
theorem Own.apart {w : World} {lo g : Nat} {A : Option Addr} {ns : List Nat} (h : Own w lo A ns) (hg : g < lo) : Apart A ns g := by
 intro hn a ha
 rcases h.2 with h0 | ⟨g', hA, hl, _⟩
 ·exact absurd h0 hn
 ·rw [hA] at ha
  injection ha with ha
  subst ha
  show g' ≠ g
  omega
def padL (ns : List Nat) (k : Nat) : List Nat := ns ++ List.replicate (k - ns.length) 0
theorem padL_len {ns : List Nat} {k : Nat} (h : ns.length <= k) : (padL ns k).length = k := by simp [padL]; omega
theorem padL_val (ns : List Nat) (k : Nat) : val (padL ns k) = val ns := by rw [padL, val_append, val_replicate, Nat.mul_zero, Nat.add_zero]
theorem pad_step {zs P : List Nat} {k v : Nat} (hz : k < zs.length) (hp : k < P.length) (h : zs.take k = P.take k) (hv : P[k] = v) : (zs.set k v).take (k + 1) = P.take (k + 1) := by
 rw [take_succ' (xs := zs.set k v) (k := k) (by simpa using hz), take_succ' (xs := P) (k := k) hp, take_set_self, h, hv];simp
theorem padL_in {ns : List Nat} {k i : Nat} (h : i < ns.length) (hp : i < (padL ns k).length) : (padL ns k)[i] = ns[i] := by
 simp only [padL];rw [List.getElem_append_left h]
theorem padL_out {ns : List Nat} {k i : Nat} (h : ¬ i < ns.length) (hp : i < (padL ns k).length) : (padL ns k)[i] = 0 := by
 simp only [padL];rw [List.getElem_append_right (by omega)];simp
def RetQ (x y : Nat) (w : World) (e : Ending) (w' : World) : Prop :=
 ∃ A c qs A' c' rs, e = .returned (.tuple #[.slice A (List.length qs) c, .slice A' (List.length rs) c']) /\ Rd w' A qs /\ Rd w' A' rs /\ qs.length <= c /\ c <= maxLen /\ rs.length <= c' /\ c' <= maxLen /\ val qs = x / y /\ val rs = x % y /\ Nrm qs /\ Nrm rs /\ Ext w w'
section
variable {A B : Option Addr} {c d n m : Nat} {xs ys : List Nat} {w : World} {s t : Bool}
set_option maxRecDepth 100000 in
theorem ref_divideL (hn : xs.length = n) (hm : ys.length = m) (hx : Rd w A xs) (hy : Rd w B ys) (hnx : Nrm xs) (hny : Nrm ys) (hge : val ys <= val xs) (h2 : 2 <= m) (h3 : 2 < n) (h1 : n <= 9000) :
  Calls Tryz.prog 95 #[.slice A n c, .slice B m d] w (RetQ (val xs) (val ys) w) := by
 have hmn : m <= n := by have := len_le hx.1 hny hge; omega
 have hl0 : ys[m - 1]'(by omega) ≠ 0 := by
  subst hm;exact hny.last (by omega)
 have hY := hy.1.get (k := m - 1) (by omega);obtain ⟨s1, s2, s3, s4⟩ := shift_top hY hl0;have hnorm : ∀ zs, W32 zs -> Nrm zs -> val zs = val ys * 2 ^ (32 - Lib.bitLen (ys[m - 1]'(by omega))) -> zs.length = m /\ val zs < 4294967296 ^ m /\ ∀ h : m - 1 < zs.length, 2147483648 <= zs[m - 1] := fun zs a b e => div_norm hy.1 hm (by omega) s1 s2 a b e
 have hbn : bitsN ys = 32 * (m - 1) + Lib.bitLen (ys[m - 1]'(by omega)) := by
  subst hm;unfold bitsN;rw [dif_pos (by omega)]
 have hlen : ∀ W : World, Rd W B ys -> Calls Tryz.prog 131 #[.slice B m d] W fun e w' => e = .returned (.int .i64 (bitsN ys : Nat)) /\ W = w' := fun W hyW => ref_length hm hyW (by omega)
 have hS : 32 * (m : Int) - ((bitsN ys : Nat) : Int) = ((32 - Lib.bitLen (ys[m - 1]'(by omega)) : Nat) : Int) := by rw [hbn]; omega
 have hbl : bitsN ys <= 32 * m := by rw [hbn]; omega
 clear s1 s2 hbn;generalize ys[m - 1]'(by omega) = Y at *;have hS32 : 32 - Lib.bitLen Y < 32 := by omega
 generalize 32 - Lib.bitLen Y = S at *;generalize bitsN ys = BN at *
 obtain ⟨CM, hCM, dCM⟩ : ∃ CM, cmpL xs ys = CM /\ decide (CM < 0) = false := ⟨_, rfl, by
  rw [cmpL_nrm hx.1 hy.1 hnx hny]
  rcases Nat.lt_or_ge (val ys) (val xs) with h | h
  ·rw [cmpI_of_gt h]; rfl
  ·rw [cmpI_of_eq (by omega)]; rfl⟩
 have Hlen := Lib.hid hlen;have Hnorm := Lib.hid hnorm;have HS := Lib.hid hS;have Hn := Lib.hid hn;have Hm := Lib.hid hm;have HCM := Lib.hid hCM
 have Hb := Lib.hid (show 4294967296 ^ (m - 1) <= val ys by
  have := hny.ge (by rintro rfl; simp at hm; omega)
  rwa [hm] at this)
 have Ha := Lib.hid (show val xs < 4294967296 ^ n by have := val_lt hx.1; rwa [hn] at this);clear hnorm s3 s4 hl0 hn hm hCM hlen hS hge;have hmk : ∀ W : World, (Instr.makeSlice 26 (.int .i64 (n : Int)) (.int .i64 (n : Int))).run Tryz.prog W = .ok (.slice (some ⟨W.heap.size, 0, none⟩) n n) (W.alloc (.cells (madeCells #[.int .u32 0] n) 89)) := fun W => mk_words 26 Tryz.underlying26 n (by omega) W
 have hcmp := fun W (h1 : Rd W A xs) (h2 : Rd W B ys) => ref_compare A B c d xs ys W h1 h2 (by have := Hn.out; unfold maxLen; omega) (by have := Hm.out; unfold maxLen; omega)
 rw [Hn.out, Hm.out, HCM.out] at hcmp;have Hcmp := Lib.hid hcmp;clear hcmp
 go_enter Tryz.func95, Tryz.ntmps95
 go_wp2_with fail
 refine (Hcmp.out _ hx hy).mono ?_;rintro e w1 ⟨rfl, hext1⟩;replace hx := hx.ext hext1;replace hy := hy.ext hext1;clear Hcmp
 go_wp2_with fail
 refine (Hlen.out _ hy).mono ?_;rintro e w0 ⟨rfl, rfl⟩;clear Hlen
 go_wp2_with fail
 rw [HS.out];refine (ref_shifted Hn.out hx hS32 (by omega)).mono ?_;rintro e w2 ⟨Ax, cx, R0, rfl, hox, hcx, hmx, ⟨hRv, hRl⟩, hext2⟩;rw [hRl];rw [hRl] at hcx
 obtain ⟨g1, rfl, hg1, hRb⟩ : ∃ g, Ax = some ⟨g, 0, none⟩ /\ w1.heap.size <= g /\ BlkN w2 g R0 := by
  rcases hox.2 with h | h
  ·subst h; simp at hRl
  ·exact h
 have hRw := hox.1;clear hox
 go_wp2_with fail
 try rw [HS.out]
 refine (ref_shifted Hm.out (hy.ext hext2) hS32 (by omega)).mono ?_;rintro e w3 ⟨A2, c2, ds0, rfl, ho2, hc2, hm2, ⟨hv2, hl2⟩, hext3⟩;rw [hl2];rw [hl2] at hc2
 go_wp2_with fail
 refine (ref_trimN hl2 ho2.rd hc2 hm2).mono ?_;rintro e w0 ⟨rfl, rfl⟩;have hot : Own w3 w2.heap.size A2 (trimL ds0) := by rw [trimL_take]; exact ho2.take _
 rw [<- val_trimL] at hv2;obtain ⟨hdl, hdu, hdt⟩ := Hnorm.out (trimL ds0) hot.1 (Nrm.trimL _) hv2;have hdn := Nrm.trimL ds0;rw [hdl];clear Hnorm ho2 hl2 hdt;generalize trimL ds0 = ds at *;have hg12 : g1 < w2.heap.size := hRb.lt;have hap := hot.apart hg12;have hR3 := hRb.ext hext3;have hd3 := hot.rd;have hL0 := LInv.start2 (a := val xs) (b := val ys) (s := S) (la := n) (lb := m) hRl hRw hRv hmn (by omega) Ha.out Hb.out;rw [<- hv2] at hL0;have HL0 := Lib.hid hL0;have Hv2 := Lib.hid hv2;have Hdl := Lib.hid hdl;have Hdu := Lib.hid hdu;clear hL0 hRv hRl hRw hRb hv2 hdl hdu hot;have hg23 := hext3.size;have hap3 := hd3.apart (Nat.le_refl _);have hQb := BlkN.new w3 n;have hR4 := hR3.ext ((Ext.refl w3).alloc (.cells (madeCells #[.int .u32 0] n) 89));have hd4 := hd3.ext ((Ext.refl w3).alloc (.cells (madeCells #[.int .u32 0] n) 89));have hgw : w.heap.size <= g1 := Nat.le_trans hext1.size hg1;have hg13 : g1 < w3.heap.size := by omega
 have ext4 := (hext1.trans (hext2.trans hext3)).alloc (.cells (madeCells #[.int .u32 0] n) 89);clear hR3 hd3 hext1 hext2 hext3 hg1
 go_wp2_with fail
 go_loopw [14] (fun i wr => ∃ (k : Nat) (R Q : List Nat), k <= n - m + 1 /\ i = .int .i64 ((k : Int) - 1) /\ LInv (val ds) (val xs * 2 ^ S) (n + 1) n k R Q /\ BlkN wr g1 R /\ BlkN wr w3.heap.size Q /\ Rd wr A2 ds /\ Ext w wr) (fun i _ => (intOf i + 1).toNat)
 case atStart => exact ⟨n - m + 1, R0, _, Nat.le_refl _, congrArg (Value.int .i64) (by omega), HL0.out, hR4, hQb, hd4, ext4⟩
 case round =>
  clear hR4 hQb hd4 ext4;obtain ⟨k, R, Q, hk, rfl, hinv, hRb, hQb, hdr, hext⟩ := hrel;have hrl := hinv.rl;have hql := hinv.ql
  rcases k with _ | j
  ·rw [show (((0 : Nat) : Int) - 1) = -1 from rfl]
   have Hinv := Lib.hid hinv;have Hrl := Lib.hid hrl;have Hql := Lib.hid hql;clear hinv hrl hql
   go_wp2_with fail
   refine (ref_trimN Hql.out (hQb.rd0 Hinv.out.qw) (Nat.le_refl _) (by unfold maxLen; omega)).mono ?_;rintro e w4 ⟨rfl, rfl⟩
   go_wp2_with fail
   refine (ref_trimN Hrl.out (hRb.rd0 Hinv.out.rw) hcx hmx).mono ?_;rintro e w4 ⟨rfl, rfl⟩;have hrl2 := trimL_len R;rw [Hrl.out] at hrl2;have hrt : Rd wr (some ⟨g1, 0, none⟩) (trimL R) := by rw [trimL_take]; exact (hRb.rd0 Hinv.out.rw).take _
   have hqt : Rd wr (some ⟨w3.heap.size, 0, none⟩) (trimL Q) := by rw [trimL_take]; exact (hQb.rd0 Hinv.out.qw).take _
   go_wp2_with fail
   refine (ref_back (b := S) rfl hrt hS32 (by omega)).mono ?_;rintro e w5 ⟨A5, c5, rs, rfl, ho5, hc5, hm5, ⟨hv5, hn5, hl5⟩, hext5⟩;have Hv5 := Lib.hid hv5;clear hv5
   go_wp2_with fail
   go_ret2
   have hi := Hinv.out;rw [Hv2.out] at hi;obtain ⟨d1, d2⟩ := hi.done;have hql2 := trimL_len Q;rw [Hql.out] at hql2;exact ⟨_, _, trimL Q, A5, c5, rs, rfl, hqt.ext hext5, ho5.rd, hql2, by unfold maxLen; omega, hc5, hm5, by rw [val_trimL]; exact d1, by rw [Hv5.out, val_trimL]; exact d2, Nrm.trimL _, hn5, hext.trans hext5⟩
  ·rw [show (((j + 1 : Nat) : Int) - 1) = (j : Int) by omega]
   have hj1 : j + m + 1 <= n + 1 := by omega
   have hj2 : j < n := by omega
   obtain ⟨p0, p1, p2⟩ := hinv.part2 hj1 Hdu.out;have hpd : Rd wr (some ⟨g1, j, none⟩) ((R.drop j).take (m + 1)) := hRb.rd hinv.rw (by omega);have hpl : ((R.drop j).take (m + 1)).length = m + 1 := by rw [List.length_take, List.length_drop]; omega
   have hpw : W32 ((R.drop j).take (m + 1)) := (hinv.rw.drop _).take _
   have hRs : R = R.take j ++ (R.drop j).take (m + 1) ++ R.drop (j + m + 1) := by
    rw [List.append_assoc, show j + m + 1 = j + (m + 1) by omega, <- List.drop_drop, List.take_append_drop, List.take_append_drop]
   have htl : (R.take j).length = j := by rw [List.length_take]; omega
   have hst : ∀ (ps : List Nat) (u : Nat), ps.length = m + 1 -> W32 ps -> u < 4294967296 -> val ps < val ds -> val ps + u * val ds = val ((R.drop j).take (m + 1)) -> LInv (val ds) (val xs * 2 ^ S) (n + 1) n j (R.take j ++ ps ++ R.drop (j + m + 1)) (Q.set j u) := fun ps u a1 a2 a3 a4 a5 => hinv.step2 hj2 hj1 Hdu.out a1 a2 a3 a4 a5
   rw [hRs] at hRb;have Hst := Lib.hid hst;have Hqw := Lib.hid hinv.qw;clear hst hinv hRs p0 p1 hrl;generalize R.take j = pre at *;generalize (R.drop j).take (m + 1) = part at *;generalize R.drop (j + m + 1) = post at *;have Htl := Lib.hid htl;have Hpl := Lib.hid hpl;have Hql := Lib.hid hql;have Hp2 := Lib.hid p2;have hcc1 : m + 1 <= cx - j := by omega
   have hcc2 : cx - j <= maxLen := by omega
   have hjc : j + m + 1 <= cx := by omega
   clear htl hpl p2 hql
   go_wp2_with fail
   rw [show j + m + 1 - j = m + 1 by omega];refine (ref_digit Hpl.out Hdl.out (by omega) hpd hdr hdn Hp2.out hcc1 hcc2 (by omega)).mono ?_;rintro e w4 ⟨q, A5, c5, us, rfl, ho5, hc5, hm5, hq32, huv, hun, hq1, hq2, hxt4⟩;have Huv := Lib.hid huv;have Hq1 := Lib.hid hq1;have Hq2 := Lib.hid hq2;have hgw4 := hxt4.size;have hgr : w3.heap.size < wr.heap.size := hQb.lt;clear huv hq1 hq2;have hcq := (hQb.ext hxt4).cell (i := j) (by rw [Hql.out]; exact hj2);have hfq := (hQb.ext hxt4).frozen j
   go_upto_region 18 with fail
   have hne31 : g1 ≠ w3.heap.size := by omega
   refine at_world (fun V => BlkN V g1 (pre ++ part ++ post) /\ BlkN V w3.heap.size (Q.set j q) /\ Rd V A2 ds /\ Rd V A5 us /\ Ext w V /\ w3.heap.size < V.heap.size) ⟨(hRb.ext hxt4).mod ((Mod.refl w4 w3.heap.size).setCell j _) hne31, (hQb.ext hxt4).set j rfl, (hdr.ext hxt4).mod ((Mod.refl w4 w3.heap.size).setCell j _) hap3, ho5.rd.mod ((Mod.refl w4 w3.heap.size).setCell j _) (ho5.apart hgr), (hext.trans hxt4).setCell (by show w.heap.size <= w3.heap.size; omega) _, by simp [World.setCell]; omega⟩ ?_;clear hRb hQb hdr ho5 hext hxt4 hgw4 hgr hcq hfq hpd;rintro V ⟨hRb, hQb, hdr, hus, hext, hgV⟩;have hpt : Rd V (some ⟨g1, j, none⟩) (trimL part) := by rw [trimL_take]; exact (hRb.mid hpw Htl.out).take _
   have hptl : (trimL part).length <= m + 1 := by have := trimL_len part; rw [Hpl.out] at this; exact this
   have hul : us.length <= (trimL part).length := len_le hpt.1 hun (by rw [Huv.out, val_trimL]; exact Hq1.out)
   go_wp2_with fail
   refine (ref_trimN Hpl.out (hRb.mid hpw Htl.out) hcc1 hcc2).mono ?_;rintro e w5 ⟨rfl, rfl⟩
   go_wp2_with fail
   refine (ref_minus rfl rfl hpt hus hul (by rw [val_trimL, Huv.out]; exact Hq1.out) (by omega)).mono ?_;rintro e w6 ⟨A6, c6, dd, rfl, ho6, hc6, hm6, ⟨hv6, hn6, hl6⟩, hxt6⟩
   have hfin : val dd < val ds /\ val dd + q * val ds = val part := by
    have a1 := Hq1.out;have a2 := Hq2.out;rw [val_trimL, Huv.out] at hv6;rw [Nat.add_mul, Nat.one_mul] at a2;omega
   have Hfin := Lib.hid hfin;have hdl6 : dd.length <= m + 1 := by omega
   replace hRb := hRb.ext hxt6;replace hQb := hQb.ext hxt6;replace hdr := hdr.ext hxt6;replace hext := hext.trans hxt6;have hapd := ho6.apart (show g1 < V.heap.size by omega);have hdd := ho6.rd;clear hfin hv6 hl6 hul hpt hptl hus ho6 hxt6 hn6
   go_wp2_with fail
   go_loopw [19] (fun i wk => ∃ (kk : Nat) (zs : List Nat), kk <= m + 1 /\ i = .int .i64 (kk : Int) /\ zs.length = m + 1 /\ W32 zs /\ zs.take kk = (padL dd (m + 1)).take kk /\ BlkN wk g1 (pre ++ zs ++ post) /\ Mod w6 wk g1) (fun i _ => m + 1 - (intOf i).toNat)
   case atStart => exact ⟨0, part, by omega, rfl, Hpl.out, hpw, rfl, hRb, Mod.refl _ _⟩
   case round =>
    obtain ⟨kk, zs, hkk, rfl, hzl, hzw, htk, hblk, hmod⟩ := hrel;have Htk := Lib.hid htk;clear htk
    by_cases hlt : kk < m + 1
    ·obtain ⟨b2, o2, he, hb2, hcz⟩ := (hblk.mid hzw Htl.out).at_ (i := kk) (by omega)
     injection he with he
     injection he with he1 he2
     subst he1; subst he2;have hfz := hblk.frozen (j + kk)
     by_cases hkd : kk < dd.length
     ·go_upto_region 23 with (fail)
      refine at_world (fun W => BlkN W g1 (pre ++ zs.set kk 0 ++ post) /\ Mod w6 W g1) ⟨hblk.setMid Htl.out (by omega) rfl, hmod.setCell _ _⟩ ?_;clear hcz hfz hblk hmod;rintro W ⟨hbW, hmW⟩;obtain ⟨b3, o3, rfl, hb3, hcd⟩ := (hdd.mod hmW hapd).at_ hkd;obtain ⟨b2, o2, he, hb2', hcz⟩ := (hbW.mid (hzw.set kk (by omega)) Htl.out).at_ (i := kk) (by simp; omega)
      injection he with he
      injection he with he1 he2
      subst he1; subst he2;have hfz := hbW.frozen (j + kk);have hdk := hdd.1.get hkd;have hkdi : (kk : Int) < (dd.length : Int) := by omega
      have Hpad := Lib.hid (pad_step (zs := zs) (P := padL dd (m + 1)) (k := kk) (v := dd[kk]) (by omega) (by rw [padL_len hdl6]; omega) Htk.out (padL_in hkd _))
      go_wp2
      go_roundw
      case rel =>
       have hset := hbW.setMid (v := ((dd[kk] : Nat) : Int)) (n := dd[kk]) Htl.out (i := kk) (by simp; omega) rfl;rw [List.set_set] at hset;exact ⟨kk + 1, zs.set kk dd[kk], by omega, by go_num, by simp [hzl], hzw.set _ hdk, Hpad.out, hset, hmW.setCell _ _⟩
      case measure => simp [intOf]; omega
     ·have hkdi : ¬ (kk : Int) < (dd.length : Int) := by omega
      have Hpad := Lib.hid (pad_step (zs := zs) (P := padL dd (m + 1)) (k := kk) (v := 0) (by omega) (by rw [padL_len hdl6]; omega) Htk.out (padL_out hkd _))
      go_wp2
      go_roundw
      case rel => exact ⟨kk + 1, zs.set kk 0, by omega, by go_num, by simp [hzl], hzw.set _ (by omega), Hpad.out, hblk.setMid Htl.out (by omega) rfl, hmod.setCell _ _⟩
      case measure => simp [intOf]; omega
    ·have hkk' : kk = m + 1 := by omega
     have hfull : zs = padL dd (m + 1) := by
      have := Htk.out
      rwa [List.take_of_length_le (by omega), List.take_of_length_le (by rw [padL_len hdl6]; omega)] at this
     have hvz : val zs = val dd := by rw [hfull, padL_val]
     have Hinv2 := Lib.hid (Hst.out zs q hzl hzw hq32 (by rw [hvz]; exact Hfin.out.1) (by rw [hvz]; exact Hfin.out.2));have hlti : ¬ (kk : Int) < (m : Int) + 1 := by omega
     clear hfull hvz hkk'
     go_wp2_with fail
     go_roundw
     case rel => exact ⟨j, _, _, by omega, rfl, Hinv2.out, hblk, hQb.mod hmod (by omega), hdr.mod hmod hap, hmod.ext hext hgw⟩
     case measure => simp [intOf]
end
theorem trim_last {xs : List Nat} (h : 0 < xs.length) : (trimL xs).length = xs.length ↔ xs[xs.length - 1]'(by omega) ≠ 0 := by
 have hk : xs.length - 1 < xs.length := by omega
 have ht : xs.take (xs.length - 1 + 1) = xs := List.take_of_length_le (by omega)
 constructor
 ·intro he h0
  have := trimL_zero xs (xs.length - 1) hk h0;rw [ht] at this;have hl := trimL_len (xs.take (xs.length - 1));rw [<- this, List.length_take] at hl;omega
 ·intro h0
  have := trimL_pos xs (xs.length - 1) hk h0;rw [ht] at this;rw [this]
def validB (s : Bool) (xs : List Nat) : Bool := decide ((trimL xs).length = xs.length) && (!s || decide (0 < xs.length))
section
variable {A B : Option Addr} {c d n m : Nat} {xs ys : List Nat} {w : World} {s t : Bool}
theorem int_Valid (hn : xs.length = n) (hx : Rd w A xs) (hc : n <= c) (_hcm : c <= maxLen) (h1 : n <= 100000) :
  Calls Tryz.prog 86 #[.agg #[.bool s, .slice A n c]] w fun e w' => e = .returned (.bool (validB s xs)) /\ Ext w w' := by
 by_cases h : 0 < n
 ·have hxl : 0 < xs.length := by omega
  have hlast := trim_last hxl;obtain ⟨W, hW, extW, bx, hz⟩ := box1 w 28 #[.bool s, .slice A n c];obtain ⟨b1, off', rfl, hb1, hc1⟩ := (hx.ext extW).at_ (i := xs.length - 1) (by omega);have hxk := hx.1.get (k := xs.length - 1) (by omega);subst hn;generalize xs[xs.length - 1] = X at *
  have hv : validB s xs = decide (X ≠ 0) := by
   unfold validB;rw [decide_eq_true hxl, Bool.or_true, Bool.and_true];exact decide_eq_decide.2 hlast
  have Hv := Lib.hid hv;clear hv hlast;have hpos : ¬ xs.length = 0 := by omega
  go_enter Tryz.func86, Tryz.ntmps86
  go_upto_region 1 with (fail)
  rw [<- hW];clear hW;have x0 := bx.cell 0 (.bool s) rfl;have x1 := bx.cell 1 (.slice (some ⟨b1, off', none⟩) xs.length c) rfl
  go_wp2_with fail
  go_ret
  refine ⟨?_, extW⟩;rw [Hv.out]
  by_cases h0 : X = 0 <;> simp [h0]
 ·obtain rfl : n = 0 := by omega
  have h0 : xs = [] := List.length_eq_zero_iff.1 hn;subst h0;have Hv := Lib.hid (show validB s [] = !s by cases s <;> rfl)
  go_enter Tryz.func86, Tryz.ntmps86
  go_upto_region 1 with (fail)
  obtain ⟨W, hW, extW, bx, hz⟩ := box1 w 28 #[.bool s, .slice A 0 c];rw [<- hW];clear hW;have x0 := bx.cell 0 (.bool s) rfl;have x1 := bx.cell 1 (.slice A 0 c) rfl
  go_wp2_with fail
  go_ret
  exact ⟨by rw [Hv.out]; rfl, extW⟩
theorem ref_Valid (hn : xs.length = n) (hx : Rd w A xs) (hc : n <= c) (hcm : c <= maxLen) (h1 : n <= 100000) :
  Calls Tryz.prog 53 #[.agg #[.bool s, .slice A n c]] w fun e w' => e = .returned (.bool (validB s xs)) /\ Ext w w' := by
 obtain ⟨W, hW, extW, bx, hz⟩ := box1 w 28 #[.bool s, .slice A n c];have x0 := bx.cell 0 (.bool s) rfl;have x1 := bx.cell 1 (.slice A n c) rfl;have Hn := Lib.hid hn;have Hv := Lib.hid (show validB s xs = (decide ((trimL xs).length = n) && (!s || decide (0 < n))) by unfold validB; rw [hn]);clear hn
 by_cases ht : (trimL xs).length = n
 ·have t1 : (((trimL xs).length : Int) == (n : Int)) = true := by rw [beq_iff_eq]; omega
  have t2 : decide ((trimL xs).length = n) = true := decide_eq_true ht;rw [t2] at Hv
  cases s
  ·have Hv2 := Lib.hid (show validB false xs = true by rw [Hv.out]; rfl)
   go_enter Tryz.func53, Tryz.ntmps53
   go_upto_region 1 with (fail)
   rw [<- hW];clear hW
   go_quiet ((go_at_call 93; exact quiet_left (ref_trimN Hn.out (hx.ext (extW.drewN _)) hc hcm)))
   go_wp2_with fail
   go_ret
   exact ⟨by rw [Hv2.out]; rfl, by first | exact extW | exact extW.drew | exact extW.drewN _⟩
  ·by_cases h0 : 0 < n
   ·have Hv2 := Lib.hid (show validB true xs = true by rw [Hv.out, decide_eq_true h0]; rfl)
    have t3 : decide ((0 : Int) < (n : Int)) = true := decide_eq_true (by omega)
    go_enter Tryz.func53, Tryz.ntmps53
    go_upto_region 1 with (fail)
    rw [<- hW];clear hW
    go_quiet ((go_at_call 93; exact quiet_left (ref_trimN Hn.out (hx.ext (extW.drewN _)) hc hcm)))
    go_wp2_with fail
    go_ret
    exact ⟨by rw [Hv2.out]; rfl, by first | exact extW | exact extW.drew | exact extW.drewN _⟩
   ·have Hv2 := Lib.hid (show validB true xs = false by rw [Hv.out, decide_eq_false h0]; rfl)
    have t3 : decide ((0 : Int) < (n : Int)) = false := decide_eq_false (by omega)
    go_enter Tryz.func53, Tryz.ntmps53
    go_upto_region 1 with (fail)
    rw [<- hW];clear hW
    go_quiet ((go_at_call 93; exact quiet_left (ref_trimN Hn.out (hx.ext (extW.drewN _)) hc hcm)))
    go_wp2_with fail
    go_ret
    exact ⟨by rw [Hv2.out]; rfl, by first | exact extW | exact extW.drew | exact extW.drewN _⟩
 ·have t1 : (((trimL xs).length : Int) == (n : Int)) = false := by rw [beq_eq_false_iff_ne]; omega
  have Hv2 := Lib.hid (show validB s xs = false by rw [Hv.out, decide_eq_false ht]; rfl)
  go_enter Tryz.func53, Tryz.ntmps53
  go_upto_region 1 with (fail)
  rw [<- hW];clear hW
  go_quiet ((go_at_call 93; exact quiet_left (ref_trimN Hn.out (hx.ext (extW.drewN _)) hc hcm)))
  go_wp2_with fail
  go_ret
  exact ⟨by rw [Hv2.out]; rfl, by first | exact extW | exact extW.drew | exact extW.drewN _⟩
end
theorem big_val {xs : List Nat} (_hw : W32 xs) (h : 2 < (trimL xs).length) : 18446744073709551616 <= val xs := by
 have h2 := val_lt_of_len (xs := [4294967295, 4294967295]) (W32.pair (by omega) (by omega)) (Nrm.trimL xs) (by simpa using h);rw [val_trimL, val_pair] at h2;omega
def fitsB (z : Int) : Bool := decide (-9223372036854775808 <= z /\ z < 9223372036854775808)
def fitV (z : Int) : Int := if -9223372036854775808 <= z /\ z < 9223372036854775808 then z else 0
theorem fit_yes {z : Int} (h : -9223372036854775808 <= z /\ z < 9223372036854775808) : fitsB z = true /\ fitV z = z := ⟨decide_eq_true h, if_pos h⟩
theorem fit_no {z : Int} (h : ¬ (-9223372036854775808 <= z /\ z < 9223372036854775808)) : fitsB z = false /\ fitV z = 0 := ⟨decide_eq_false h, if_neg h⟩
theorem neg_back {V : Nat} (h : V <= 9223372036854775808) : IntKind.i64.wrap (IntKind.u64.wrap (-(V : Int))) = -(V : Int) := by
 rw [IntKind.wrap_u64, IntKind.wrap_i64]; omega
def RetV (z : Int) (w : World) (e : Ending) (w' : World) : Prop := e = .returned (.tuple #[.int .i64 (fitV z), .bool (fitsB z)]) /\ Ext w w'
theorem ret_fit {z v : Int} {b : Bool} (h : fitsB z = b /\ fitV z = v) : Ending.returned (.tuple #[.int .i64 v, .bool b]) = .returned (.tuple #[.int .i64 (fitV z), .bool (fitsB z)]) := by rw [h.1, h.2]
section
variable {A B : Option Addr} {c d n m : Nat} {xs ys : List Nat} {w : World} {s t : Bool}
theorem ref_short (hn : xs.length = n) (hx : Rd w A xs) (h2 : n <= 2) : Calls Tryz.prog 129 #[.slice A n c] w fun e w' => e = .returned (.int .u64 (val xs)) /\ w = w' := by
 subst hn
 match xs, h2 with
 | [], _ =>
  go_enter Tryz.func129, Tryz.ntmps129
  go_wp2
  go_loop [3, 4] (fun v i => i = .int .i64 (-1) /\ v = .int .u64 0) (fun _ _ => 0)
  case atStart => exact ⟨rfl, rfl⟩
  case round =>
   obtain ⟨rfl, rfl⟩ := hrel
   go_wp2
   go_ret
   exact ⟨rfl, rfl⟩
 | [a], _ =>
  obtain ⟨b, off, rfl, hb, hc⟩ := hx.2 (by simp);have hc0 := hc 0 (by simp);simp only [Nat.add_zero, List.getElem_cons_zero] at hc0;have ha := hx.1 a (by simp);clear hc
  go_enter Tryz.func129, Tryz.ntmps129
  go_wp2
  go_loop [3, 4] (fun v i => (i = .int .i64 0 /\ v = .int .u64 0) \/ (i = .int .i64 (-1) /\ v = .int .u64 (a : Int))) (fun _ i => (intOf i + 1).toNat)
  case atStart => exact .inl ⟨rfl, rfl⟩
  case round =>
   rcases hrel with ⟨rfl, rfl⟩ | ⟨rfl, rfl⟩
   ·go_wp2
    exact ⟨.inr ⟨rfl, congrArg (Value.int .u64) (or_zero ha)⟩, by simp [intOf]⟩
   ·go_wp2
    go_ret
    exact ⟨by simp [val], rfl⟩
 | [a, a2], _ =>
  obtain ⟨b, off, rfl, hb, hc⟩ := hx.2 (by simp);have hc0 := hc 0 (by simp);have hc1 := hc 1 (by simp);simp only [Nat.add_zero, List.getElem_cons_zero, List.getElem_cons_succ] at hc0 hc1;have ha := hx.1 a (by simp);have ha2 := hx.1 a2 (by simp);clear hc
  go_enter Tryz.func129, Tryz.ntmps129
  go_wp2
  go_loop [3, 4] (fun v i => (i = .int .i64 1 /\ v = .int .u64 0) \/ (i = .int .i64 0 /\ v = .int .u64 (a2 : Int)) \/ (i = .int .i64 (-1) /\ v = .int .u64 (val [a, a2] : Nat))) (fun _ i => (intOf i + 1).toNat)
  case atStart => exact .inl ⟨rfl, rfl⟩
  case round =>
   rcases hrel with ⟨rfl, rfl⟩ | ⟨rfl, rfl⟩ | ⟨rfl, rfl⟩
   ·go_wp2
    exact ⟨.inr (.inl ⟨rfl, congrArg (Value.int .u64) (or_zero ha2)⟩), by simp [intOf]⟩
   ·go_wp2
    exact ⟨.inr (.inr ⟨rfl, congrArg (Value.int .u64) ((high_or ha ha2).trans (by rw [val_pair, Nat.add_comm, Nat.mul_comm]))⟩), by simp [intOf]⟩
   ·go_wp2
    go_ret
    exact ⟨rfl, rfl⟩
set_option maxRecDepth 100000 in
theorem int_Int64 (hn : xs.length = n) (hx : Rd w A xs) (hc : n <= c) (hcm : c <= maxLen) (_h1 : n <= 100000) :
  Calls Tryz.prog 154 #[.agg #[.bool s, .slice A n c]] w (RetV (ival s xs) w) := by
 obtain ⟨W, hW, extW, bx, hz⟩ := box1 w 28 #[.bool s, .slice A n c];have x0 := bx.cell 0 (.bool s) rfl;have x1 := bx.cell 1 (.slice A n c) rfl;have Hn := Lib.hid hn;clear hn;have hxt : Rd w A (trimL xs) := by rw [trimL_take]; exact hx.take _
 by_cases hl : 2 < (trimL xs).length
 ·have hbig := big_val hx.1 hl
  have E1 := Lib.hid (fit_no (z := ival s xs) (by unfold ival; cases s <;> simp <;> omega));clear hbig
  go_enter Tryz.func154, Tryz.ntmps154
  go_upto_region 1 with (fail)
  rw [<- hW];clear hW
  go_wp2_with (go_at_call 114; refine (int_trimN Hn.out (hx.ext extW) hc hcm).mono ?_; rintro e w1 ⟨rfl, rfl⟩)
  go_ret2
  exact ⟨ret_fit E1.out, extW⟩
 ·have hlt := val_lt_two hxt.1 (by omega)
  rw [val_trimL] at hlt;have hu := int_toUint (c := c) rfl (hxt.ext extW) (by omega);rw [val_trimL] at hu;have Hu := Lib.hid hu;clear hu;have hiv : ival s xs = if s then -(val xs : Int) else (val xs : Int) := rfl;have Hiv := Lib.hid hiv;clear hiv;generalize val xs = V at *
  cases s
  ·go_enter Tryz.func154, Tryz.ntmps154
   go_upto_region 1 with (fail)
   rw [<- hW];clear hW
   go_upto_region 4 with (first | (go_at_call 114; refine (int_trimN Hn.out (hx.ext extW) hc hcm).mono ?_; rintro e w1 ⟨rfl, rfl⟩) | (go_at_call 153; refine Hu.out.mono ?_; rintro e w1 ⟨rfl, rfl⟩))
   go_upto_region 5 with (first | (go_at_call 114; refine (int_trimN Hn.out (hx.ext extW) hc hcm).mono ?_; rintro e w1 ⟨rfl, rfl⟩) | (go_at_call 153; refine Hu.out.mono ?_; rintro e w1 ⟨rfl, rfl⟩))
   go_upto_region 7 with fail
   by_cases hv : V < 9223372036854775808
   ·have E1 := Lib.hid (show fitsB (ival false xs) = true /\ fitV (ival false xs) = (V : Int) by rw [Hiv.out]; exact fit_yes (by simp; omega))
    have hwv : IntKind.i64.wrap (V : Int) = (V : Int) := by rw [IntKind.wrap_i64]; omega
    generalize hN : (9223372036854775808 : Int) = N;have dN : decide ((V : Int) < N) = true := decide_eq_true (by omega);clear hN hv
    go_wp2_with fail
    go_ret2
    exact ⟨ret_fit E1.out, extW⟩
   ·have E1 := Lib.hid (fit_no (z := ival false xs) (by rw [Hiv.out]; simp; omega))
    generalize hN : (9223372036854775808 : Int) = N;have dN : decide ((V : Int) < N) = false := decide_eq_false (by omega);clear hN hv
    go_wp2_with fail
    go_ret2
    exact ⟨ret_fit E1.out, extW⟩
  ·by_cases hv : V <= 9223372036854775808
   ·have E1 := Lib.hid (show fitsB (ival true xs) = true /\ fitV (ival true xs) = -(V : Int) by rw [Hiv.out]; exact fit_yes (by simp; omega))
    have d2 : decide ((V : Int) <= 9223372036854775808) = true := decide_eq_true (by omega);have hnb := neg_back hv
    go_enter Tryz.func154, Tryz.ntmps154
    go_upto_region 1 with (fail)
    rw [<- hW];clear hW
    go_wp2_with (first | (go_at_call 114; refine (int_trimN Hn.out (hx.ext extW) hc hcm).mono ?_; rintro e w1 ⟨rfl, rfl⟩) | (go_at_call 153; refine Hu.out.mono ?_; rintro e w1 ⟨rfl, rfl⟩))
    go_ret2
    exact ⟨ret_fit E1.out, extW⟩
   ·have E1 := Lib.hid (fit_no (z := ival true xs) (by rw [Hiv.out]; simp; omega))
    have d2 : decide ((V : Int) <= 9223372036854775808) = false := decide_eq_false (by omega)
    go_enter Tryz.func154, Tryz.ntmps154
    go_upto_region 1 with (fail)
    rw [<- hW];clear hW
    go_wp2_with (first | (go_at_call 114; refine (int_trimN Hn.out (hx.ext extW) hc hcm).mono ?_; rintro e w1 ⟨rfl, rfl⟩) | (go_at_call 153; refine Hu.out.mono ?_; rintro e w1 ⟨rfl, rfl⟩))
    go_ret2
    exact ⟨ret_fit E1.out, extW⟩
end
end
section
open Go.RowKit
attribute [local go_sem ↓] Go.wp_at_zero Go.wp_at_succ
section
variable {A B : Option Addr} {c d n m : Nat} {xs ys : List Nat} {w : World} {s t : Bool}
theorem ref_divide_lt (hn : xs.length = n) (hm : ys.length = m) (hx : Rd w A xs) (hy : Rd w B ys) (hc : n <= c) (hcm : c <= maxLen) (hnx : Nrm xs) (hny : Nrm ys) (hlt : val xs < val ys) (h1 : n <= 100000) (h2 : m <= 100000) :
  Calls Tryz.prog 95 #[.slice A n c, .slice B m d] w (RetQ (val xs) (val ys) w) := by
 have hcm1 := Lib.hid (show cmpL xs ys = -1 by rw [cmpL_nrm hx.1 hy.1 hnx hny]; exact cmpI_of_lt hlt);have Hlt := Lib.hid hlt;clear hlt;subst hn;subst hm
 go_enter Tryz.func95, Tryz.ntmps95
 go_wp2_with fail
 refine (ref_compare A B c d xs ys w hx hy (by unfold maxLen; omega) (by unfold maxLen; omega)).mono ?_;rintro e w1 ⟨rfl, hext1⟩;rw [hcm1.out]
 go_wp2_with fail
 go_ret2
 have h := Hlt.out;exact ⟨none, 0, [], A, c, xs, rfl, Rd.nil _ _, hx.ext hext1, by simp, by unfold maxLen; omega, hc, hcm, by rw [Nat.div_eq_of_lt h]; rfl, by rw [Nat.mod_eq_of_lt h], Nrm.nil, hnx, hext1⟩
set_option maxRecDepth 100000 in
theorem ref_divide_two (hn : xs.length = n) (hm : ys.length = m) (hx : Rd w A xs) (hy : Rd w B ys) (hnx : Nrm xs) (hny : Nrm ys) (hge : val ys <= val xs) (h0 : 0 < m) (h2 : n <= 2) :
  Calls Tryz.prog 95 #[.slice A n c, .slice B m d] w (RetQ (val xs) (val ys) w) := by
 have hml := len_le hx.1 hny hge
 have hpos : val ys ≠ 0 := fun h => by
  have := hny.zero.1 h;subst this;simp at hm;omega
 obtain ⟨CM, hCM, dCM⟩ : ∃ CM, cmpL xs ys = CM /\ decide (CM < 0) = false := ⟨_, rfl, by
  rw [cmpL_nrm hx.1 hy.1 hnx hny]
  rcases Nat.lt_or_ge (val ys) (val xs) with h | h
  ·rw [cmpI_of_gt h]; rfl
  ·rw [cmpI_of_eq (by omega)]; rfl⟩
 have hvx := val_lt_two hx.1 (by omega);have hvy := val_lt_two hy.1 (by omega);have q1 : val xs / val ys <= val xs := Nat.div_le_self _ _;have q2 : val xs % val ys < val ys := Nat.mod_lt _ (by omega);have e1 : val xs / val ys / 4294967296 < 4294967296 := by omega
 have e2 : val xs % val ys / 4294967296 < 4294967296 := by omega
 have Hvx := Lib.hid hvx;have Hvy := Lib.hid hvy;have Hq1 := Lib.hid q1;have Hq2 := Lib.hid q2;have E1 := Lib.hid e1;have E2 := Lib.hid e2;have HCM := Lib.hid hCM;subst hn;subst hm;have Hml := Lib.hid hml;have hz : ((val ys : Nat) : Int) ≠ 0 := by omega
 have hz0 : (((val ys : Nat) : Int) == 0) = false := by rw [beq_eq_false_iff_ne]; exact hz
 have hp1 : (1 : Int) <= ((val ys : Nat) : Int) := by omega
 clear hvx hvy q1 q2 e1 e2 hml hge hz hCM
 go_enter Tryz.func95, Tryz.ntmps95
 go_wp2_with fail
 refine (ref_compare A B c d xs ys w hx hy (by unfold maxLen; omega) (by have := Hml.out; unfold maxLen; omega)).mono ?_;rintro e w1 ⟨rfl, hext1⟩;rw [HCM.out]
 go_wp2_with fail
 refine (ref_short rfl (hx.ext hext1) h2).mono ?_;rintro e w2 ⟨rfl, rfl⟩
 go_wp2_with fail
 refine (ref_short rfl (hy.ext hext1) (by have := Hml.out; omega)).mono ?_;rintro e w2 ⟨rfl, rfl⟩;clear hp1 hz0;generalize hX : val xs = X at *;generalize hY : val ys = Y at *;have HX := Lib.hid hX;have HY := Lib.hid hY;clear hX hY;have hz0 : ((Y : Int) == 0) = false := by rw [beq_eq_false_iff_ne]; omega
 have hp1 : (1 : Int) <= (Y : Int) := by omega
 have hp0 : (0 : Int) <= (X : Int) := by omega
 go_wp2_with fail
 have hq : (X : Int) / (Y : Int) = ((X / Y : Nat) : Int) := (Int.natCast_ediv _ _).symm;have hr : (X : Int) % (Y : Int) = ((X % Y : Nat) : Int) := (Int.natCast_emod _ _).symm;have hq' : (X : Int).tdiv (Y : Int) = ((X / Y : Nat) : Int) := rfl;have hr' : (X : Int).tmod (Y : Int) = ((X % Y : Nat) : Int) := rfl;have hw1 : IntKind.u64.wrap ((X / Y : Nat) : Int) = ((X / Y : Nat) : Int) := wrap_nat (Nat.lt_of_le_of_lt Hq1.out Hvx.out);have hw2 : IntKind.u64.wrap ((X % Y : Nat) : Int) = ((X % Y : Nat) : Int) := wrap_nat (Nat.lt_trans Hq2.out Hvy.out);generalize hU : X / Y = U at *;generalize hV : X % Y = V at *;have HU := Lib.hid hU;have HV := Lib.hid hV;clear hp0 hp1 hU hV
 go_region_with (first | (go_at_call_of 121 U; refine (ref_words U E1.out).mono ?_; rintro e w3 ⟨A3, c3, qs, rfl, ho3, hc3, hm3, ⟨hv3, hn3, hl3⟩, hext3⟩; have Hv3 := Lib.hid hv3; clear hv3) | (go_at_call_of 121 V; refine (ref_words V E2.out).mono ?_; rintro e w4 ⟨A4, c4, rs, rfl, ho4, hc4, hm4, ⟨hv4, hn4, hl4⟩, hext4⟩; have Hv4 := Lib.hid hv4; clear hv4))
 all_goals
  go_wp2_with fail
  go_ret2
  have ext3 := (Ext.refl w1).drew.trans hext3;have e3 := Hv3.out;have e4 := Hv4.out;exact ⟨A3, c3, qs, A4, c4, rs, rfl, ho3.rd.ext hext4, ho4.rd, hc3, hm3, hc4, hm4, by rw [e3, HU.out], by rw [e4, HV.out], hn3, hn4, hext1.trans (ext3.trans hext4)⟩
theorem ref_divide_word {y : Nat} (hn : xs.length = n) (hx : Rd w A xs) (hy : Rd w B [y]) (hy0 : y ≠ 0) (h2 : 2 < n) (h1 : n <= 100000) :
  Calls Tryz.prog 95 #[.slice A n c, .slice B 1 d] w (RetQ (val xs) y w) := by
 have hcm1 := Lib.hid (show cmpL xs [y] = 1 from cmpL_len_gt (by simp; omega));have hyl := hy.1 y (by simp)
 have hr32 : val xs % y < 4294967296 := by
  have := Nat.mod_lt (val xs) (show 0 < y by omega);omega
 subst hn
 go_enter Tryz.func95, Tryz.ntmps95
 go_wp2_with fail
 refine (ref_compare A B c d xs [y] w hx hy (by unfold maxLen; omega) (by unfold maxLen; simp)).mono ?_;rintro e w1 ⟨rfl, hext1⟩;rw [hcm1.out];obtain ⟨b1, o1, rfl, hb1, cb⟩ := (hy.ext hext1).at_ (i := 0) (by simp);simp only [Nat.add_zero, List.getElem_cons_zero] at cb
 go_wp2_with fail
 refine (ref_by rfl (hx.ext hext1) (by omega) hyl (by omega)).mono ?_;rintro e w3 ⟨A3, c3, qs, rfl, ho3, hc3, hm3, hqv, hqn, hql, hext3⟩;have Hqv := Lib.hid hqv;clear hqv cb
 go_wp2_with fail
 refine (ref_words (val xs % y) (by omega)).mono ?_;rintro e w5 ⟨A5, c5, rs, rfl, ho5, hc5, hm5, ⟨hv5, hn5, hl5⟩, hext5⟩;have Hv5 := Lib.hid hv5;clear hv5
 go_wp2_with fail
 go_ret2
 exact ⟨A3, c3, qs, A5, c5, rs, rfl, ho3.rd.ext hext5, ho5.rd, hc3, hm3, hc5, hm5, Hqv.out, Hv5.out, hqn, hn5, hext1.trans (hext3.trans hext5)⟩
theorem ref_divide (hn : xs.length = n) (hm : ys.length = m) (hx : Rd w A xs) (hy : Rd w B ys) (hc : n <= c) (hcm : c <= maxLen) (hnx : Nrm xs) (hny : Nrm ys) (h0 : 0 < m) (h1 : n <= 9000) (h2 : m <= 9000) :
  Calls Tryz.prog 95 #[.slice A n c, .slice B m d] w (RetQ (val xs) (val ys) w) := by
 rcases Nat.lt_or_ge (val xs) (val ys) with h | h
 ·exact ref_divide_lt hn hm hx hy hc hcm hnx hny h (by omega) (by omega)
 ·rcases Nat.lt_or_ge 2 n with h3 | h3
  ·rcases Nat.lt_or_ge 1 m with h4 | h4
   ·exact ref_divideL hn hm hx hy hnx hny h (by omega) h3 h1
   ·obtain rfl : m = 1 := by omega
    obtain ⟨y, rfl⟩ : ∃ y, ys = [y] := by
     match ys, hm with
     | [y], _ => exact ⟨y, rfl⟩
    have hy0 : y ≠ 0 := by
     rintro rfl;have := hny.last (by simp);simp at this
    rw [val_one];exact ref_divide_word hn hx hy hy0 h3 (by omega)
  ·exact ref_divide_two hn hm hx hy hnx hny h h0 h3
end
theorem look_rd' {w : World} {A : Option Addr} {c : Nat} {xs : List Nat} (h : Rd w A xs) : look w (.slice A xs.length c) = val xs := by
 cases A with
 | none =>
  by_cases h0 : xs = []
  ·subst h0; rfl
  ·obtain ⟨b, off, he, _⟩ := h.2 h0; cases he
 | some ad =>
  unfold look;refine congrArg val (List.ext_getElem (by simp) fun i h1 h2 => ?_);obtain ⟨b, off, he, _, hc⟩ := h.at_ h2
  injection he with he
  subst he;simp only [List.getElem_map, List.getElem_range, hc];simp
section
variable {A B : Option Addr} {c d n m : Nat} {xs ys : List Nat} {w : World} {s t : Bool}
theorem ref_GCD (hn : xs.length = n) (hm : ys.length = m) (hx : Rd w A xs) (hy : Rd w B ys) (hc : n <= c) (hcm : c <= maxLen) (hd : m <= d) (hdm : d <= maxLen) (h1 : n <= 9000) (h2 : m <= 9000) :
  Calls Tryz.prog 56 #[.agg #[.bool s, .slice A n c], .agg #[.bool t, .slice B m d]] w (RetI ((Nat.gcd (val xs) (val ys) : Nat) : Int) (max xs.length ys.length) w) := by
 have Hn := Lib.hid hn;have Hm := Lib.hid hm;clear hn hm;have lx := trimL_len xs;have ly := trimL_len ys;have hxt : Rd w A (trimL xs) := by rw [trimL_take]; exact hx.take _
 have hyt : Rd w B (trimL ys) := by rw [trimL_take]; exact hy.take _
 have hg0 := Lib.hid (show Nat.gcd (val (trimL xs)) (val (trimL ys)) = Nat.gcd (val xs) (val ys) by rw [val_trimL, val_trimL]);obtain ⟨L, hL⟩ : ∃ L, max xs.length ys.length = L := ⟨_, rfl⟩;obtain ⟨G, hG⟩ : ∃ G, Nat.gcd (val xs) (val ys) = G := ⟨_, rfl⟩;rw [hL, hG];have l1 : xs.length <= L := by omega
 have l2 : ys.length <= L := by omega
 have l3 : L <= 9000 := by have := Hn.out; have := Hm.out; omega
 have HG := Lib.hid hG;clear hL hG
 go_enter Tryz.func56, Tryz.ntmps56
 go_upto_region 1 with (fail)
 obtain ⟨W, hW, extW, bx, by_, bz, hz⟩ := box3 w 28 28 28 #[.bool s, .slice A n c] #[.bool t, .slice B m d] #[.bool false, .slice none 0 0];rw [<- hW];clear hW;have x1 := bx.cell 1 (.slice A n c) rfl;have y1 := by_.cell 1 (.slice B m d) rfl
 go_region_held3 (fun w' => w'.cell? ⟨w.heap.size, 1, none⟩ = some (.slice A n c) /\ w'.cell? ⟨w.heap.size + 1, 1, none⟩ = some (.slice B m d)) (first | (go_split_ands; refine ⟨?_, ?_⟩ <;> first | (exact Ext.cellv (by assumption) (by assumption)) | (refine (cell_far2 (by omega)).trans ?_; assumption)) | go_keep)
  (first | (go_at_call_of 93 A; refine (ref_trimN Hn.out (hx.ext (by first | exact extW | exact extW.drew | exact extW.drewN _ | exact (extW.drew).drew)) hc hcm).mono ?_; rintro e w1 ⟨rfl, rfl⟩) | (go_at_call_of 93 B; refine (ref_trimN Hm.out (hy.ext (by first | exact extW | exact extW.drew | exact extW.drewN _ | exact (extW.drew).drew)) hd hdm).mono ?_; rintro e w1 ⟨rfl, rfl⟩))
 clear x1 y1 bx by_ hx hy
 go_wp2_with fail
 go_loopw [5, 6] (fun a b V => ∃ A1 c1 us B1 d1 vs, a = .slice A1 (List.length us) c1 /\ b = .slice B1 (List.length vs) d1 /\ Rd V A1 us /\ Rd V B1 vs /\ us.length <= c1 /\ c1 <= maxLen /\ vs.length <= d1 /\ d1 <= maxLen /\ Nrm us /\ Nrm vs /\ us.length <= L /\ vs.length <= L /\ Nat.gcd (val us) (val vs) = G /\ Ext W V) (fun _ b V => look V b)
 case atStart => exact ⟨A, c, trimL xs, B, d, trimL ys, rfl, rfl, hxt.ext (by first | exact extW | exact extW.drew | exact extW.drewN _ | exact (extW.drew).drew), hyt.ext (by first | exact extW | exact extW.drew | exact extW.drewN _ | exact (extW.drew).drew), by have := Hn.out; omega, hcm, by have := Hm.out; omega, hdm, Nrm.trimL _, Nrm.trimL _, by omega, by omega, hg0.out.trans HG.out, by first | exact Ext.refl W | exact (Ext.refl W).drew | exact (Ext.refl W).drewN _⟩
 case round =>
  clear hxt hyt;obtain ⟨A1, c1, us, B1, d1, vs, rfl, rfl, hu, hv, hc1, hm1, hd1, hdm1, hnu, hnv, hlu, hlv, hgg0, hext⟩ := hrel;have hgg := Lib.hid hgg0;clear hgg0
  by_cases h0 : vs.length = 0
  ·have hgv : val us = G := by rw [<- hgg.out, List.length_eq_zero_iff.1 h0]; exact (Nat.gcd_zero_right _).symm
   have Hgv := Lib.hid hgv;have bzr := bz.ext hext;have z0 := bzr.cell 0 (.bool false) rfl;have z1 := bzr.cell 1 (.slice none 0 0) rfl;have f0 := bzr.frozen 0;have f1 := bzr.frozen 1;clear hgv
   go_wp2_with (go_at_call 96; refine (ref_signed rfl hu hc1 hm1).mono ?_; rintro e w3 ⟨b3, A3, c3, rs, rfl, hr3, hc3, hm3, hi3, hl3, hext3⟩; have ext3 := hext.trans hext3; have bz3 := bz.ext ext3; have z0 := bz3.cell 0 (.bool false) rfl; have z1 := bz3.cell 1 (.slice none 0 0) rfl; have f0 := bz3.frozen 0; have f1 := bz3.frozen 1)
   obtain ⟨r1, r2, r3, r4⟩ := fin_pair (b := b3) (n := rs.length) (c := c3) (extW.trans ext3) (by omega) bz3 hr3;have hiv : ival false us = (G : Int) := by rw [<- Hgv.out]; rfl
   exact bodyPost_ret (v := .agg #[.bool b3, .slice A3 rs.length c3]) (by simp [results, Tryz.results56, go_sem, r3, r4]) rfl ⟨b3, A3, c3, rs, rfl, r1, hc3, hm3, by rw [hiv] at hi3; exact hi3, by omega, r2⟩
  ·go_wp2_with fail
   refine (ref_divide rfl rfl hu hv hc1 hm1 hnu hnv (by omega) (by omega) (by omega)).mono ?_;rintro e w4 ⟨Aq, cq, qs, Ar, cr, rs, rfl, hq, hr, hcq, hmq, hcr, hmr, hvq, hvr, hnq, hnr, ext4⟩
   have hpos : 0 < val vs := by
    have := hnv.ge (by rintro rfl; simp at h0);have h5 : 0 < 4294967296 ^ (vs.length - 1) := Nat.pow_pos (by omega);omega
   have hlt : val rs < val vs := by rw [hvr]; exact Nat.mod_lt _ hpos
   have hrl := nrm_len hv.1 hnr (Nat.le_of_lt hlt);have hgn := Lib.hid (show Nat.gcd (val vs) (val rs) = G by rw [hvr, <- hgg.out, Nat.gcd_comm (val us), Nat.gcd_rec (val vs) (val us), Nat.gcd_comm]);have Hlt := Lib.hid hlt;clear hvq hvr hlt hpos hq
   go_wp2_with fail
   refine ⟨⟨B1, d1, vs, Ar, cr, rs, rfl, rfl, hv.ext ext4, hr, hd1, hdm1, hcr, hmr, hnv, hnr, hlv, by omega, hgn.out, hext.trans ext4⟩, ?_⟩;rw [look_rd' hr, look_rd' hv];exact Hlt.out
end
end
section
open Go.RowKit
theorem two_new (w : World) (t : TypeId) (a b : Array Value) : Ext w ((w.alloc (.cells a t)).alloc (.cells b t)) /\ Box ((w.alloc (.cells a t)).alloc (.cells b t)) w.heap.size t a /\ Box ((w.alloc (.cells a t)).alloc (.cells b t)) (w.heap.size + 1) t b := by
 obtain ⟨W, rfl, h1, h2, h3, _⟩ := box2 w t t a b;exact ⟨h1, h2, h3⟩
structure NI (w : World) (z : Int) (L : Nat) (s : Bool) (A : Option Addr) (n c : Nat) : Prop where
 out : ∃ xs : List Nat, xs.length = n /\ Rd w A xs /\ n <= c /\ c <= maxLen /\ IsInt z s xs /\ n <= L
def RetNI (z : Int) (L : Nat) (w : World) (e : Ending) (w' : World) : Prop :=
 ∃ s A n c, e = .returned (.agg #[.bool s, .slice A n c]) /\ NI w' z L s A n c /\ Ext w w'
theorem ival_ab (s : Bool) (xs : List Nat) : (ival s xs).natAbs = val xs := by unfold ival; cases s <;> simp
theorem IsInt.abs {z : Int} {s : Bool} {xs : List Nat} (h : IsInt z s xs) : val xs = z.natAbs := by rw [<- h.eq, ival_ab]
theorem RetI.ni {z : Int} {L L' : Nat} {w w' : World} {e : Ending} (h : RetI z L w e w') (hl : L <= L') : RetNI z L' w e w' := by
 obtain ⟨b, A, c, ys, rfl, hr, hc, hm, hi, hy, hx⟩ := h;exact ⟨b, A, ys.length, c, rfl, ⟨ys, rfl, hr, hc, hm, hi, by omega⟩, hx⟩
section
variable {w w' : World} {z y : Int} {L L' M : Nat} {s t : Bool} {A B : Option Addr} {n c m d : Nat}
theorem NI.ext (h : NI w z L s A n c) (e : Ext w w') : NI w' z L s A n c := by
 obtain ⟨xs, h1, h2, h3⟩ := h.out;exact ⟨xs, h1, h2.ext e, h3⟩
theorem NI.le (h : NI w z L s A n c) (hl : L <= L') : NI w z L' s A n c := by
 obtain ⟨xs, h1, h2, h3, h4, h5, h6⟩ := h.out;exact ⟨xs, h1, h2, h3, h4, h5, by omega⟩
theorem NI.size (h : NI w z L s A n c) : n <= L := by
 obtain ⟨_, _, _, _, _, _, h6⟩ := h.out;exact h6
theorem NI.nil (w : World) (L : Nat) : NI w 0 L false none 0 0 := ⟨[], rfl, Rd.nil _ _, Nat.le_refl _, by unfold maxLen; omega, IsInt.nil false, by omega⟩
theorem NI.zero (h : NI w z L s A n c) : n = 0 ↔ z = 0 := by
 obtain ⟨xs, h1, _, _, _, h5, _⟩ := h.out;rw [<- h5.zero, <- h1];exact List.length_eq_zero_iff
theorem NI.tight (h : NI w z L s A n c) (h' : NI w' y M t B m d) (hz : z.natAbs <= y.natAbs) : NI w z M s A n c := by
 obtain ⟨xs, h1, h2, h3, h4, h5, h6⟩ := h.out;obtain ⟨ys, k1, k2, _, _, k5, k6⟩ := h'.out;refine ⟨xs, h1, h2, h3, h4, h5, ?_⟩;have := nrm_len_le k5.w32 h5.nrm (by rw [h5.abs, k5.abs]; exact hz);omega
theorem NI.tight' (h : NI w z L s A n c) (hz : z.natAbs < 4294967296 ^ M) : NI w z M s A n c := by
 obtain ⟨xs, h1, h2, h3, h4, h5, h6⟩ := h.out;refine ⟨xs, h1, h2, h3, h4, h5, ?_⟩;refine Decidable.byContradiction fun hc => ?_
 have h7 := h5.nrm.ge (by rintro rfl; simp at h1; omega);rw [h5.abs] at h7;have h8 : 4294967296 ^ M <= 4294967296 ^ (xs.length - 1) := Nat.pow_le_pow_right (by omega) (by omega);omega
theorem p_Sign (h : NI w z L s A n c) (hL : L <= 100000) : Calls Tryz.prog 72 #[.agg #[.bool s, .slice A n c]] w fun e w' => e = .returned (.int .i64 z.sign) /\ Ext w w' := by
 obtain ⟨xs, hn, hx, hc, hcm, hi, hl⟩ := h.out;refine (int_Sign hn hx hc hcm (by omega)).mono ?_;rintro e w' ⟨rfl, hxt⟩;rw [hi.eq];exact ⟨rfl, hxt⟩
theorem q_Sign (h : NI w z L s A n c) (hL : L <= 100000) : Calls Tryz.prog 54 #[.agg #[.bool s, .slice A n c]] w fun e w' => e = .returned (.int .i64 z.sign) /\ Ext w w' := by
 obtain ⟨xs, hn, hx, hc, hcm, hi, hl⟩ := h.out;refine (ref_Sign hn hx hc hcm (by omega)).mono ?_;rintro e w' ⟨rfl, hxt⟩;rw [hi.eq];exact ⟨rfl, hxt⟩
theorem p_Norm (h : NI w z L s A n c) (hL : L <= 100000) : Calls Tryz.prog 92 #[.agg #[.bool s, .slice A n c]] w (RetNI z L w) := by
 obtain ⟨xs, hn, hx, hc, hcm, hi, hl⟩ := h.out;refine (int_Norm hn hx hc hcm (by omega)).mono fun e w' hr => ?_
 rw [hi.eq] at hr;exact hr.ni (by omega)
theorem p_Neg (h : NI w z L s A n c) (hL : L <= 100000) : Calls Tryz.prog 119 #[.agg #[.bool s, .slice A n c]] w (RetNI (-z) L w) := by
 obtain ⟨xs, hn, hx, hc, hcm, hi, hl⟩ := h.out;refine (int_Neg hn hx hc hcm (by omega)).mono fun e w' hr => ?_
 rw [hi.eq] at hr;exact hr.ni (by omega)
theorem p_Add (h : NI w z L s A n c) (k : NI w y M t B m d) (hL : L <= 50000) (hM : M <= 50000) : Calls Tryz.prog 99 #[.agg #[.bool s, .slice A n c], .agg #[.bool t, .slice B m d]] w (RetNI (z + y) (max L M + 1) w) := by
 obtain ⟨xs, hn, hx, hc, hcm, hi, hl⟩ := h.out;obtain ⟨ys, hm, hy, hd, hdm, hj, hk⟩ := k.out;refine (int_Add hn hm hx hy hc hcm hd hdm (by omega) (by omega)).mono fun e w' hr => ?_
 rw [hi.eq, hj.eq] at hr;exact hr.ni (by omega)
theorem p_Cmp (h : NI w z L s A n c) (k : NI w y M t B m d) (hL : L <= 50000) (hM : M <= 50000) : Calls Tryz.prog 104 #[.agg #[.bool s, .slice A n c], .agg #[.bool t, .slice B m d]] w fun e w' => e = .returned (.int .i64 (z - y).sign) /\ Ext w w' := by
 obtain ⟨xs, hn, hx, hc, hcm, hi, hl⟩ := h.out;obtain ⟨ys, hm, hy, hd, hdm, hj, hk⟩ := k.out;refine (int_Cmp hn hm hx hy hc hcm hd hdm (by omega) (by omega)).mono ?_;rw [hi.eq, hj.eq];exact fun _ _ h => h
theorem gcd_le_max (a b : Nat) : Nat.gcd a b <= max a b := by
 rcases Nat.eq_zero_or_pos a with h | h
 ·subst h; simp
 ·have := Nat.le_of_dvd h (Nat.gcd_dvd_left a b); omega
theorem gcd_tight {g : Nat} (h : NI w z L s A n c) (k : NI w y M t B m d) {w1 : World} {K : Nat} {u : Bool} {C : Option Addr} {l e : Nat} (hg : NI w1 (g : Int) K u C l e) (hgg : g = Nat.gcd z.natAbs y.natAbs) : NI w1 (g : Int) (max L M) u C l e := by
 have := gcd_le_max z.natAbs y.natAbs
 rcases Nat.le_total z.natAbs y.natAbs with hle | hle
 ·exact (hg.tight k (by simp; omega)).le (by omega)
 ·exact (hg.tight h (by simp; omega)).le (by omega)
theorem p_GCD (h : NI w z L s A n c) (k : NI w y M t B m d) (hL : L <= 30000) (hM : M <= 30000) (hT : Tab w) : Calls Tryz.prog 88 #[.agg #[.bool s, .slice A n c], .agg #[.bool t, .slice B m d]] w (RetNI ((Nat.gcd z.natAbs y.natAbs : Nat) : Int) (max L M) w) := by
 obtain ⟨xs, hn, hx, hc, hcm, hi, hl⟩ := h.out;obtain ⟨ys, hm, hy, hd, hdm, hj, hk⟩ := k.out;refine (int_GCD hn hm hx hy hc hcm hd hdm (by omega) (by omega) hT).mono fun e w' hr => ?_
 rw [hi.abs, hj.abs] at hr;obtain ⟨u, C, l, e', he, hg, hx'⟩ := hr.ni (Nat.le_refl _);exact ⟨u, C, l, e', he, gcd_tight h k hg rfl, hx'⟩
theorem q_GCD (h : NI w z L s A n c) (k : NI w y M t B m d) (hL : L <= 3000) (hM : M <= 3000) : Calls Tryz.prog 56 #[.agg #[.bool s, .slice A n c], .agg #[.bool t, .slice B m d]] w (RetNI ((Nat.gcd z.natAbs y.natAbs : Nat) : Int) (max L M) w) := by
 obtain ⟨xs, hn, hx, hc, hcm, hi, hl⟩ := h.out;obtain ⟨ys, hm, hy, hd, hdm, hj, hk⟩ := k.out;refine (ref_GCD hn hm hx hy hc hcm hd hdm (by omega) (by omega)).mono fun e w' hr => ?_
 rw [hi.abs, hj.abs] at hr;exact hr.ni (by omega)
theorem p_FromInt (k : Int) (h0 : -9223372036854775808 <= k) (h1 : k < 9223372036854775808) : Calls Tryz.prog 90 #[.int .i64 k] w (RetNI k 2 w) :=
 (int_FromInt k h0 h1).mono fun _ _ h => h.ni (Nat.le_refl _)
theorem q_FromInt (k : Int) (h0 : -9223372036854775808 <= k) (h1 : k < 9223372036854775808) : Calls Tryz.prog 82 #[.int .i64 k] w (RetNI k 2 w) :=
 (ref_FromInt k h0 h1).mono fun _ _ h => h.ni (Nat.le_refl _)
def RetND (a b : Int) (L M : Nat) (w : World) (e : Ending) (w' : World) : Prop :=
 ∃ s A n c t B m d, ∃ q r : Int, e = .returned (.tuple #[.agg #[.bool s, .slice A n c], .agg #[.bool t, .slice B m d], .int .i64 0]) /\ NI w' q L s A n c /\ NI w' r M t B m d /\ IsDM a b q r /\ Ext w w'
theorem dm_q_le {a b q r : Int} (h : IsDM a b q r) (hb : b ≠ 0) : q.natAbs <= a.natAbs + 1 /\ r.natAbs <= b.natAbs /\ (b ∣ a -> r = 0 /\ q = a / b /\ q.natAbs <= a.natAbs) := by
 obtain ⟨h1, h2⟩ := h;have hm : ∀ q : Int, (q * b).natAbs = q.natAbs * b.natAbs := fun q => Int.natAbs_mul q b
 have hb1 : 1 <= b.natAbs := by omega
 have hq : q.natAbs <= (q * b).natAbs := by rw [hm]; exact Nat.le_mul_of_pos_right _ hb1
 refine ⟨?_, by omega, fun hd => ?_⟩
 ·-- the remainder has the sign of the divisor
  rcases Nat.lt_or_ge q.natAbs 2 with hs | hs
  ·rcases Nat.lt_or_ge 0 a.natAbs with h0 | h0
   ·omega
   ·omega
  ·have h3 : (q.natAbs - 1) * b.natAbs <= a.natAbs := by
    have h4 : (q * b).natAbs <= a.natAbs + b.natAbs := by omega
    rw [hm] at h4
    have h5 : q.natAbs * b.natAbs = (q.natAbs - 1) * b.natAbs + b.natAbs := by
     rw [show q.natAbs = (q.natAbs - 1) + 1 by omega, Nat.add_mul, Nat.one_mul]; simp
    omega
   have h6 : q.natAbs - 1 <= (q.natAbs - 1) * b.natAbs := Nat.le_mul_of_pos_right _ hb1;omega
 ·have hr : b ∣ r := by
   have : r = a - q * b := by omega
   rw [this];exact Int.dvd_sub hd (Int.dvd_mul_left _ _)
  have h0 : r = 0 := by
   refine Decidable.byContradiction fun hne => ?_
   have := Int.natAbs_dvd_natAbs.2 hr;have := Nat.le_of_dvd (by omega) this;omega
  subst h0;have e : a = q * b := by omega
  refine ⟨rfl, ?_, by rw [e]; exact hq⟩;rw [e, Int.mul_ediv_cancel _ hb]
theorem p_DivMod (h : NI w z L s A n c) (k : NI w y M t B m d) (hL : L <= 80000) (hM : M <= 80000) (h0 : y ≠ 0) : Calls Tryz.prog 141 #[.agg #[.bool s, .slice A n c], .agg #[.bool t, .slice B m d]] w (RetND z y (L + 1) M w) := by
 obtain ⟨xs, hn, hx, hc, hcm, hi, hl⟩ := h.out;obtain ⟨ys, hm, hy, hd, hdm, hj, hk⟩ := k.out;refine (int_DivMod_L divide_ok hn hm hx hy hc hcm hd hdm (by omega) (by omega) (by omega) (by rw [hj.abs]; omega)).mono ?_;rintro e w' ⟨b3, A3, c3, qs, b4, A4, c4, rs, q, r, rfl, hr3, hr4, hc3, hm3, hc4, hm4, hi3, hi4, hdm, hl3, hl4, hxt⟩;rw [hi.eq, hj.eq] at hdm;have hr : NI w' r (max xs.length ys.length) b4 A4 rs.length c4 := ⟨rs, rfl, hr4, hc4, hm4, hi4, hl4⟩;exact ⟨b3, A3, qs.length, c3, b4, A4, rs.length, c4, q, r, rfl, ⟨qs, rfl, hr3, hc3, hm3, hi3, by omega⟩, hr.tight k (dm_q_le hdm h0).2.1, hdm, hxt⟩
end
end
section
open Go.RowKit
attribute [local go_sem ↓] Go.wp_at_zero Go.wp_at_succ
structure NR (w : World) (q : Rat) (L : Nat) (s : Bool) (A : Option Addr) (n c : Nat) (t : Bool) (B : Option Addr) (m d : Nat) : Prop where
 num : NI w q.num L s A n c
 den : NI w (q.den : Int) L t B m d
def RetNR (q : Rat) (L : Nat) (w : World) (e : Ending) (w' : World) : Prop :=
 ∃ s A n c t B m d, e = .returned (.agg #[.bool s, .slice A n c, .bool t, .slice B m d]) /\ NR w' q L s A n c t B m d /\ Ext w w'
section
variable {w w' : World} {q p : Rat} {z y : Int} {L L' M : Nat} {s t s' t' : Bool} {A B A' B' : Option Addr} {n c m d n' c' m' d' : Nat}
theorem NR.ext (h : NR w q L s A n c t B m d) (e : Ext w w') : NR w' q L s A n c t B m d := ⟨h.num.ext e, h.den.ext e⟩
theorem NR.le (h : NR w q L s A n c t B m d) (hl : L <= L') : NR w q L' s A n c t B m d := ⟨h.num.le hl, h.den.le hl⟩
theorem NI.one_iff (h : NI w z L s A n c) : z = 1 ↔ s = false /\ n = 1 /\ ∃ b off, A = some ⟨b, off, none⟩ /\ w.cell? ⟨b, off, none⟩ = some (.int .u32 1) := by
 obtain ⟨xs, h1, h2, h3, h4, h5, h6⟩ := h.out;have hv := h5.eq
 constructor
 ·intro hz
  have hi1 : IsInt 1 false [1] := ⟨W32.one (by omega), Nrm.snoc [] (by omega), fun _ => rfl, by simp [ival, val]⟩;rw [hz] at h5;obtain ⟨rfl, rfl⟩ := h5.unique hi1;obtain ⟨b, off, hA, hb, hc⟩ := h2.at_ (i := 0) (by simp);exact ⟨rfl, by simpa using h1.symm, b, off, hA, by simpa using hc⟩
 ·rintro ⟨rfl, rfl, b, off, rfl, hc⟩
  match xs, h1 with
  | [x], _ =>
   obtain ⟨b', off', hA, hb, hc'⟩ := h2.at_ (i := 0) (by simp)
   injection hA with hA
   injection hA with e1 e2
   subst e1; subst e2;simp only [Nat.add_zero, List.getElem_cons_zero] at hc';rw [hc] at hc'
   injection hc' with hc'
   injection hc' with _ hc'
   rw [<- hv];simp [ival, val];omega
end
theorem NoWord.four {a b : Bool} {A B : Option Addr} {n c m d : Nat} : NoWord #[.bool a, .slice A n c, .bool b, .slice B m d] := by
 intro i k h
 match i with
 | 0 => simp at h
 | 1 => simp at h
 | 2 => simp at h
 | 3 => simp at h
 | i + 4 => simp at h
def set4 (w : World) (g : Nat) (a b c d : Value) : World := (((w.setCell ⟨g, 0, none⟩ a).setCell ⟨g, 1, none⟩ b).setCell ⟨g, 2, none⟩ c).setCell ⟨g, 3, none⟩ d
def set2 (w : World) (g : Nat) (a b : Value) : World := (w.setCell ⟨g, 0, none⟩ a).setCell ⟨g, 1, none⟩ b
section
variable {w W w' w2 : World} {z : Int} {q : Rat} {L : Nat} {s t x y : Bool} {A B P Q : Option Addr} {n c m d k l i j g : Nat} {T : TypeId}
theorem NI.set (h : NI w z L s A n c) {cs : Array Value} (hb : Box w g T cs) (hn : NoWord cs) (i : Nat) (u : Value) : NI (w.setCell ⟨g, i, none⟩ u) z L s A n c := by
 obtain ⟨xs, h1, h2, h3⟩ := h.out;exact ⟨xs, h1, h2.setBox hb hn i u, h3⟩
theorem fin_quad (hb : Box w2 g T #[.bool x, .slice P k l, .bool y, .slice Q i j]) :
  Box (set4 w2 g (.bool s) (.slice A n c) (.bool t) (.slice B m d)) g T #[.bool s, .slice A n c, .bool t, .slice B m d] /\
  (∀ z L s' A' n' c', NI w2 z L s' A' n' c' -> NI (set4 w2 g (.bool s) (.slice A n c) (.bool t) (.slice B m d)) z L s' A' n' c') /\
  (∀ W, Ext W w2 -> W.heap.size <= g -> Ext W (set4 w2 g (.bool s) (.slice A n c) (.bool t) (.slice B m d))) /\
  (∀ g' T' cs', g' ≠ g -> Box w2 g' T' cs' -> Box (set4 w2 g (.bool s) (.slice A n c) (.bool t) (.slice B m d)) g' T' cs') := by
 unfold set4;have h1 : Box (w2.setCell ⟨g, 0, none⟩ (.bool s)) g T #[.bool s, .slice P k l, .bool y, .slice Q i j] := hb.set 0 (.bool s);have h2 : Box ((w2.setCell ⟨g, 0, none⟩ (.bool s)).setCell ⟨g, 1, none⟩ (.slice A n c)) g T #[.bool s, .slice A n c, .bool y, .slice Q i j] := h1.set 1 (.slice A n c);have h3 : Box (((w2.setCell ⟨g, 0, none⟩ (.bool s)).setCell ⟨g, 1, none⟩ (.slice A n c)).setCell ⟨g, 2, none⟩ (.bool t)) g T #[.bool s, .slice A n c, .bool t, .slice Q i j] := h2.set 2 (.bool t);refine ⟨h3.set 3 (.slice B m d), fun z L s' A' n' c' h => ?_, fun W e hg => ?_, fun g' T' cs' hg h => ?_⟩
 ·exact (((h.set hb NoWord.four 0 _).set h1 NoWord.four 1 _).set h2 NoWord.four 2 _).set h3 NoWord.four 3 _
 ·exact (((e.setCell hg _).setCell hg _).setCell hg _).setCell hg _
 ·exact (((h.far hg _).far hg _).far hg _).far hg _
theorem fin_dual (hb : Box w2 g T #[.bool x, .slice P k l]) :
  Box (set2 w2 g (.bool s) (.slice A n c)) g T #[.bool s, .slice A n c] /\
  (∀ z L s' A' n' c', NI w2 z L s' A' n' c' -> NI (set2 w2 g (.bool s) (.slice A n c)) z L s' A' n' c') /\
  (∀ W, Ext W w2 -> W.heap.size <= g -> Ext W (set2 w2 g (.bool s) (.slice A n c))) /\
  (∀ g' T' cs', g' ≠ g -> Box w2 g' T' cs' -> Box (set2 w2 g (.bool s) (.slice A n c)) g' T' cs') := by
 unfold set2;have h1 : Box (w2.setCell ⟨g, 0, none⟩ (.bool s)) g T #[.bool s, .slice P k l] := hb.set 0 (.bool s);refine ⟨h1.set 1 (.slice A n c), fun z L s' A' n' c' h => ?_, fun W e hg => ?_, fun g' T' cs' hg h => ?_⟩
 ·exact (h.set hb NoWord.two 0 _).set h1 NoWord.two 1 _
 ·exact (e.setCell hg _).setCell hg _
 ·exact (h.far hg _).far hg _
theorem p_isOne (h : NI w z L s A n c) : Calls Tryz.prog 87 #[.agg #[.bool s, .slice A n c]] w fun e w' => e = .returned (.bool (decide (z = 1))) /\ Ext w w' := by
 have h1 := h.one_iff
 cases s with
 | true =>
  have hd : decide (z = 1) = false := decide_eq_false fun hz => by have := (h1.1 hz).1; cases this
  rw [hd]
  go_enter Tryz.func87, Tryz.ntmps87
  go_wp2
  go_ret
  exact ⟨rfl, (Ext.refl w).alloc _⟩
 | false =>
  by_cases hn : n = 1
  ·subst hn
   obtain ⟨xs, hl, hx, _⟩ := h.out;obtain ⟨b, off, rfl, hb, hc⟩ := hx.at_ (i := 0) (by omega);simp only [Nat.add_zero] at hc
   have hv : (decide (z = 1)) = (((xs[0]'(by omega) : Nat) : Int) == 1) := by
    by_cases hz : z = 1
    ·obtain ⟨_, _, b', off', hA, hc'⟩ := h1.1 hz
     injection hA with hA
     injection hA with e1 e2
     subst e1; subst e2;rw [hc] at hc'
     injection hc' with hc'
     injection hc' with _ hc'
     rw [hc'];simp [hz]
    ·have : ¬ ((xs[0]'(by omega) : Nat) : Int) = 1 := fun h2 => hz (h1.2 ⟨rfl, rfl, b, off, rfl, by rw [hc, h2]⟩)
     rw [decide_eq_false hz];exact (beq_eq_false_iff_ne.2 this).symm
   rw [hv];generalize (xs[0]'(by omega) : Nat) = k at hc;have hc2 := ((Ext.refl w).alloc (.cells #[.bool false, .slice (some ⟨b, off, none⟩) 1 c] 28)).cellv hc;clear h1 h hv hx hl
   go_enter Tryz.func87, Tryz.ntmps87
   go_wp2
   go_ret
   exact ⟨rfl, (Ext.refl w).alloc _⟩
  ·have hd : decide (z = 1) = false := decide_eq_false fun hz => hn (h1.1 hz).2.1
   have hn2 : ((n : Int) == 1) = false := by rw [beq_eq_false_iff_ne]; omega
   rw [hd]
   go_enter Tryz.func87, Tryz.ntmps87
   go_wp2
   go_ret
   exact ⟨rfl, (Ext.refl w).alloc _⟩
end
end
section
open Go.RowKit
section
variable {P : Program} {ops : Array Oper} {Q : Exit -> Act -> World -> Prop} {md : Region.Mode} {W0 : World} {z : Nat}
def wpL (P : Program) (md : Region.Mode) (ops : Array Oper) (Q : Exit -> Act -> World -> Prop) (W0 : World) (z : Nat) : Nat -> Array Bool -> Act -> World -> Prop
 | 0, L, a, w => Region.ready md ops L = [] /\ Q .normal a w
 | f + 1, L, a, w =>
  (Region.ready md ops L = [] -> Q .normal a w) /\
  ∀ i ∈ Region.ready md ops L, wpOp P ops Q i (fun a' w' => ((L.setIfInBounds i true).getD z false = true \/ Ext W0 w') /\ wpL P md ops Q W0 z f (L.setIfInBounds i true) a' w') a w
theorem wpL.any : ∀ (f : Nat) (L : Array Bool) (a : Act) (w : World), wpL P md ops Q W0 z f L a w -> wpAny P md ops Q f L a w
 | 0, _, _, _, h => h
 | f + 1, _, _, _, h => ⟨h.1, fun i hi => wpOp_mono (fun a' w' h' => wpL.any f _ a' w' h'.2) (h.2 i hi)⟩
theorem wpL.start {id : Nat} {a : Act} {w : World} (z : Nat) (hm : P.follows .mixedOrders = true) (hQ : QStill Q) (h : QStill Q -> Ext w w.drew -> wpL P .any ops Q w z ops.size (Array.replicate ops.size false) a w.drew) : (Code.region id ops true).wp P Q a w :=
 wp_region_any hm (wpL.any _ _ _ _ (h hQ (Ext.refl w).drew))
theorem wpL.st {id : Nat} {a : Act} {w : World} (z : Nat) (h : QStill Q -> Ext w w.drew -> wpL P .any ops Q w z ops.size (Array.replicate ops.size false) a w.drew) (hm : P.follows .mixedOrders = true := by kernel_rfl) (hQ : QStill Q := by exact (fun _ _ _ _ _ => ⟨fun h => h, fun h => h⟩)) : (Code.region id ops true).wp P Q a w := wpL.start z hm hQ h
def allBut (n i z : Nat) : Array Bool := ((Array.replicate n true).setIfInBounds i false).setIfInBounds z false
theorem allBut_on {n i z k : Nat} (h1 : k ≠ i) (h2 : k ≠ z) (hk : k < n) : (allBut n i z).getD k false = true := by
 unfold allBut;simp [Ne.symm h1, Ne.symm h2, hk]
def Waits (md : Region.Mode) (ops : Array Oper) (i z : Nat) : Prop := ∃ o, ops[z]? = some o /\ ∃ e ∈ o.after, Region.binds md e = true /\ (allBut ops.size i z).getD e.on false = false
theorem waits_not {i : Nat} {L : Array Bool} (h : Waits md ops i z) (hi : L.getD i true = false) (hz : L.getD z false = false) (hsz : L.size = ops.size) : z ∉ Region.ready md ops L := by
 intro hr;obtain ⟨_, o, ho, hall⟩ := mem_ready.1 hr;obtain ⟨o', ho', e, he, hb, hf⟩ := h;rw [ho] at ho'
 injection ho' with ho'
 subst ho';have h1 := hall e he hb
 have hlt : e.on < L.size := by
  rcases Nat.lt_or_ge e.on L.size with h | h
  ·exact h
  ·simp [h] at h1
 have hne1 : e.on ≠ i := by
  intro hh;rw [<- hh] at hi;simp [hlt] at h1 hi;rw [h1] at hi
  cases hi
 have hne2 : e.on ≠ z := by
  intro hh;rw [hh, hz] at h1
  cases h1
 rw [allBut_on hne1 hne2 (by omega)] at hf
 cases hf
theorem wpL.first {i : Nat} {oi : Oper} {v : Value} (hi : ops[i]? = some oi) (hs : Region.noSelect ops = true) (hiz : i ≠ z) (hw : Waits md ops i z) (hQ : QStill Q) :
  ∀ (f : Nat) (L : Array Bool) (a : Act) (w : World), L.size = ops.size -> L.getD z false = false ->
   (∀ j oj, ops[j]? = some oj -> j ≠ i -> L.getD j true = false -> (∀ e ∈ oj.after, Region.binds md e = true -> e.on ≠ i) -> oi.apart ops oj = true) ->
   i ∈ Region.ready md ops L -> YieldsIf P ops (Ext W0) oi v a -> Ext W0 w ->
   wpL P md ops Q W0 z f (L.setIfInBounds i true) (a.put oi.dst v) w -> wpL P md ops Q W0 z (f + 1) L a w := by
 have hsel := Region.noSelect_spec hs;intro f
 induction f with
 | zero =>
  intro L a w _ _ _ hr hy hS H;refine ⟨(fun h0 => by rw [h0] at hr; cases hr), fun j hj => ?_⟩
  by_cases hji : j = i
  ·subst hji; exact hy.wpOp hi hS ⟨.inr hS, H⟩
  ·have := ready_mono hj hji
   rw [H.1] at this
   cases this
 | succ f ih =>
  intro L a w hsz hzL hfree hr hy hS H;refine ⟨(fun h0 => by rw [h0] at hr; cases hr), fun j hj => ?_⟩
  by_cases hji : j = i
  ·subst hji; exact hy.wpOp hi hS ⟨.inr hS, H⟩
  ·have hiL := (mem_ready.1 hr).1
   have hjz : j ≠ z := fun e => waits_not hw hiL hzL hsz (e ▸ hj)
   obtain ⟨hjun, oj, hoj, hall⟩ := mem_ready.1 hj
   have hnot : ∀ e ∈ oj.after, Region.binds md e = true -> e.on ≠ i := fun e he hb hh => by
    have h1 := hall e he hb;rw [hh] at h1
    have hlt : i < L.size := by
     rcases Nat.lt_or_ge i L.size with h | h
     ·exact h
     ·simp [h] at h1
    simp [hlt] at h1 hiL;rw [h1] at hiL
    cases hiL
   have h1 := H.2 j (ready_mono hj hji);have h2 := wpOp_putIf hoj (hfree j oj hoj hji hjun hnot) (fun cs b => hsel i oi cs b hi) (fun cs b => hsel j oj cs b hoj) (fun c a w => (hQ.put c a _ _ w).1) hy h1;refine wpOp_mono (fun a' w' h3 => ?_) h2;obtain ⟨hy', hS', H'⟩ := h3
   have hzz : ((L.setIfInBounds i true).setIfInBounds j true).getD z false = false := by
    rw [getD_set_ne false hjz, getD_set_ne false hiz]; exact hzL
   have hE : Ext W0 w' := by
    rcases hS' with h | h
    ·rw [hzz] at h; cases h
    ·exact h
   refine ⟨.inr hE, ih (L.setIfInBounds j true) a' w' (by simpa using hsz) (by rw [getD_set_ne false hjz]; exact hzL) ?_ (ready_mono hr (Ne.symm hji)) hy' hE ?_⟩
   ·intro k ok hk hki hun hno
    refine hfree k ok hk hki ?_ hno
    by_cases hjk : j = k
    ·subst hjk; exact hjun
    ·rwa [getD_set_ne true hjk] at hun
   ·rw [Array.setIfInBounds_comm _ _ hji]
    exact H'
def waitsB (md : Region.Mode) (ops : Array Oper) (i z : Nat) : Bool := match ops[z]? with
 | some o => o.after.toList.any fun e => Region.binds md e && !(allBut ops.size i z).getD e.on false
 | none => false
theorem waitsB_spec {i : Nat} (h : waitsB md ops i z = true) : Waits md ops i z := by
 unfold waitsB at h
 cases ho : ops[z]? with
 | none => rw [ho] at h; cases h
 | some o =>
  rw [ho] at h;obtain ⟨e, he, hb⟩ := List.any_eq_true.1 h;rw [Bool.and_eq_true, Bool.not_eq_true'] at hb;exact ⟨o, ho, e, Array.mem_toList_iff.1 he, hb.1, hb.2⟩
theorem wpL.take {f i : Nat} {oi : Oper} {d : Option Tmp} {v : Value} {L : Array Bool} {a : Act} {w : World} (hi : ops[i]? = some oi) (hd : oi.dst = d) (hs : Region.noSelect ops = true) (hf : Region.free md ops L i = true)
  (hr : (Region.ready md ops L).contains i = true) (hz : (i != z && waitsB md ops i z && !L.getD z false && L.size == ops.size) = true) (hQ : QStill Q) (hy : YieldsIf P ops (Ext W0) oi v a) (hS : Ext W0 w)
  (h : wpL P md ops Q W0 z f (L.setIfInBounds i true) (a.put d v) w) : wpL P md ops Q W0 z (f + 1) L a w := by
 subst hd;simp only [Bool.and_eq_true, bne_iff_ne, Bool.not_eq_true', beq_iff_eq] at hz;obtain ⟨⟨⟨h1, h2⟩, h3⟩, h4⟩ := hz;exact wpL.first hi hs h1 (waitsB_spec h2) hQ f L a w h4 h3 (fun j oj hj hne hun hno => Region.free_spec hi hf j oj hj hne hun hno) (by simpa using hr) hy hS h
theorem wpL.tk {f i : Nat} {oi : Oper} {d : Option Tmp} {v : Value} {L : Array Bool} {a : Act} {w : World} (hi : ops[i]? = some oi) (hd : oi.dst = d) (hQ : QStill Q) (hy : YieldsIf P ops (Ext W0) oi v a) (hS : Ext W0 w) (h : wpL P md ops Q W0 z f (L.setIfInBounds i true) (a.put d v) w) (hs : Region.noSelect ops = true := by kernel_rfl) (hf : Region.free md ops L i = true := by kernel_rfl) (hr : (Region.ready md ops L).contains i = true := by kernel_rfl) (hz : (i != z && waitsB md ops i z && !L.getD z false && L.size == ops.size) = true := by kernel_rfl) : wpL P md ops Q W0 z (f + 1) L a w := wpL.take hi hd hs hf hr hz hQ hy hS h
theorem wpL.t {f : Nat} {oi : Oper} {L : Array Bool} {a : Act} {w : World} (i : Nat) (d : Tmp) (v : Value) (hQ : QStill Q) (hy : ∀ w, Ext W0 w -> (execOp a.eval oi).run P w = .ok (.value v) w) (hS : Ext W0 w) (h : wpL P md ops Q W0 z f (L.setIfInBounds i true) (a.put (some d) v) w) (hi : ops[i]? = some oi := by exact rfl) (hd : oi.dst = some d := by exact rfl) (hw : Region.wanted oi (yielded ops a.tmps) = true := by exact rfl) (hs : Region.noSelect ops = true := by kernel_rfl) (hf : Region.free md ops L i = true := by kernel_rfl) (hr : (Region.ready md ops L).contains i = true := by kernel_rfl) (hz : (i != z && waitsB md ops i z && !L.getD z false && L.size == ops.size) = true := by kernel_rfl) : wpL P md ops Q W0 z (f + 1) L a w := wpL.take hi hd hs hf hr hz hQ (Or.inl ⟨hw, hy⟩) hS h
theorem wpL.u {f : Nat} {oi : Oper} {v : Value} {L : Array Bool} {a : Act} {w : World} (i : Nat) (d : Tmp) (hQ : QStill Q) (hS : Ext W0 w) (h : wpL P md ops Q W0 z f (L.setIfInBounds i true) (a.put (some d) v) w) (hi : ops[i]? = some oi := by exact rfl) (hd : oi.dst = some d := by exact rfl) (hw : Region.wanted oi (yielded ops a.tmps) = true := by exact rfl) (hs : Region.noSelect ops = true := by kernel_rfl) (hf : Region.free md ops L i = true := by kernel_rfl) (hr : (Region.ready md ops L).contains i = true := by kernel_rfl) (hz : (i != z && waitsB md ops i z && !L.getD z false && L.size == ops.size) = true := by kernel_rfl) (hy : ∀ w, Ext W0 w -> (execOp a.eval oi).run P w = .ok (.value v) w := by intro w hSw; go_simp; try rfl) : wpL P md ops Q W0 z (f + 1) L a w := wpL.take hi hd hs hf hr hz hQ (Or.inl ⟨hw, hy⟩) hS h
theorem wpL.call {f i : Nat} {o : Oper} {L : Array Bool} {a : Act} {w : World} (ho : ops[i]? = some o) (hr : Region.ready md ops L = [i])
  (h : ∀ K : Act -> World -> Prop, Shut (∀ a' w', Ext W0 w' -> wpL P md ops Q W0 z f (L.setIfInBounds i true) a' w' -> K a' w') -> if Region.wanted o (yielded ops a.tmps) = true then Oper.wp P o a w K Q else K (a.put o.dst undef) w) : wpL P md ops Q W0 z (f + 1) L a w := by
 refine ⟨(fun h0 => by rw [hr] at h0; cases h0), fun j hj => ?_⟩;rw [hr, List.mem_singleton] at hj;subst hj;exact wpOp_step ho fun K hK => h K (fun a' w' e hL => hK a' w' ⟨.inr e, hL⟩)
theorem wpL.cl {f i : Nat} {o : Oper} {L : Array Bool} {a : Act} {w : World} (ho : ops[i]? = some o) (h : ∀ K : Act -> World -> Prop, Shut (∀ a' w', Ext W0 w' -> wpL P md ops Q W0 z f (L.setIfInBounds i true) a' w' -> K a' w') -> if Region.wanted o (yielded ops a.tmps) = true then Oper.wp P o a w K Q else K (a.put o.dst undef) w) (hr : Region.ready md ops L = [i] := by kernel_rfl) : wpL P md ops Q W0 z (f + 1) L a w := wpL.call ho hr h
theorem wpL.tail {f i : Nat} {o : Oper} {L : Array Bool} {a : Act} {w : World} (ho : ops[i]? = some o) (hr : Region.ready md ops L = [i]) (hz : (L.setIfInBounds i true).getD z false = true)
  (h : ∀ K : Act -> World -> Prop, Shut (∀ a' w', wpL P md ops Q W0 z f (L.setIfInBounds i true) a' w' -> K a' w') -> if Region.wanted o (yielded ops a.tmps) = true then Oper.wp P o a w K Q else K (a.put o.dst undef) w) : wpL P md ops Q W0 z (f + 1) L a w := by
 refine ⟨(fun h0 => by rw [hr] at h0; cases h0), fun j hj => ?_⟩;rw [hr, List.mem_singleton] at hj;subst hj;exact wpOp_step ho fun K hK => h K (fun a' w' hL => hK a' w' ⟨.inl hz, hL⟩)
theorem wpL.tl {f i : Nat} {o : Oper} {L : Array Bool} {a : Act} {w : World} (ho : ops[i]? = some o) (h : ∀ K : Act -> World -> Prop, Shut (∀ a' w', wpL P md ops Q W0 z f (L.setIfInBounds i true) a' w' -> K a' w') -> if Region.wanted o (yielded ops a.tmps) = true then Oper.wp P o a w K Q else K (a.put o.dst undef) w) (hr : Region.ready md ops L = [i] := by kernel_rfl) (hz : (L.setIfInBounds i true).getD z false = true := by kernel_rfl) : wpL P md ops Q W0 z (f + 1) L a w := wpL.tail ho hr hz h
theorem wpL.done {L : Array Bool} {a : Act} {w : World} (hr : Region.ready md ops L = []) (h : Q .normal a w) : ∀ f, wpL P md ops Q W0 z f L a w
 | 0 => ⟨hr, h⟩
 | _ + 1 => ⟨fun _ => h, by rw [hr]; simp⟩
end
end
section
open Go.RowKit
attribute [local go_sem ↓] Go.wp_at_zero Go.wp_at_succ
section
variable {w w' : World} {z y : Int} {q : Rat} {L M : Nat} {s t : Bool} {A B : Option Addr} {n c m d : Nat}
theorem p_whole (h : NI w z L s A n c) : Calls Tryz.prog 89 #[.agg #[.bool s, .slice A n c]] w (RetNR (z : Rat) (max L 2) w) := by
 go_enter Tryz.func89, Tryz.ntmps89
 go_upto_region 1 with (fail)
 obtain ⟨W, hW, extW, bx, bz, hz⟩ := box2 w 28 30 #[.bool s, .slice A n c] #[Value.bool false, Value.slice none 0 0, Value.bool false, Value.slice none 0 0];rw [<- hW];clear hW;refine wpL.st 3 (fun hQ ES => ?_);refine wpL.t 0 3 ?v_0 hQ ?y_0 ES ?_
 case y_0 => intro w' hSw;have k00 := (bx.ext hSw).c2;go_simp;try rfl
 try simp only [zP]
 refine wpL.cl (i := 1) rfl (fun K hK => ?_);go_simp
 (go_at_call 90; refine (p_FromInt 1 (by omega) (by omega)).mono ?_; rintro e wa ⟨s1, A1, n1, c1, rfl, h1, hx0⟩; have E0_1 := Ext.trans ES hx0)
 refine hK.out _ _ E0_1 ?_;clear hK K
 try simp only [zP]
 refine wpL.u 2 5 hQ E0_1 ?_
 try simp only [zP]
 have z0 := (bz.ext E0_1).cell 0 _ rfl;have z1 := (bz.ext E0_1).cell 1 _ rfl;have z2 := (bz.ext E0_1).cell 2 _ rfl;have z3 := (bz.ext E0_1).cell 3 _ rfl;have f0 := (bz.ext E0_1).frozen 0;have f1 := (bz.ext E0_1).frozen 1;have f2 := (bz.ext E0_1).frozen 2;have f3 := (bz.ext E0_1).frozen 3;refine wpL.tl (i := 3) rfl (fun K hK => ?_);go_simp;refine hK.out _ _ ?_;clear hK K
 try simp only [zP]
 refine wpL.done (by kernel_rfl) ?_ _;clear hQ
 go_wp2_with fail
 obtain ⟨b1, b2, b3, _⟩ := fin_quad (s := s) (A := A) (n := n) (c := c) (t := s1) (B := A1) (m := n1) (d := c1) (bz.ext E0_1);have r0 := b1.cell 0 (.bool s) rfl;have r1 := b1.cell 1 (.slice A n c) rfl;have r2 := b1.cell 2 (.bool s1) rfl;have r3 := b1.cell 3 (.slice A1 n1 c1) rfl;unfold set4 at r0 r1 r2 r3;refine bodyPost_ret (v := .agg #[.bool s, .slice A n c, .bool s1, .slice A1 n1 c1]) (by simp [results, Tryz.results89, go_sem, r0, r1, r2, r3]) rfl ⟨s, A, n, c, s1, A1, n1, c1, rfl, ⟨?_, ?_⟩, b3 _ (extW.trans E0_1) (by omega)⟩
 ·exact (b2 _ _ _ _ _ _ (h.ext (extW.trans E0_1))).le (by omega)
 ·exact (b2 _ _ _ _ _ _ h1).le (by omega)
theorem p_FromIntR (k : Int) (h0 : -9223372036854775808 <= k) (h1 : k < 9223372036854775808) : Calls Tryz.prog 47 #[.int .i64 k] w (RetNR (k : Rat) 2 w) := by
 go_enter Tryz.func47, Tryz.ntmps47
 go_upto_region 1 with (fail)
 obtain ⟨W, hW, extW, bz, hz⟩ := box1 w 30 #[Value.bool false, Value.slice none 0 0, Value.bool false, Value.slice none 0 0];rw [<- hW];clear hW
 go_wp2_with fail
 refine (p_FromInt k h0 h1).mono ?_;rintro e wa ⟨s1, A1, n1, c1, rfl, hk, hx0⟩
 go_wp2_with fail
 refine (p_whole hk).mono ?_;rintro e wb ⟨s, A, n, c, t, B, m, d, rfl, hr, hx1⟩;have hE := hx0.trans hx1;have z0 := (bz.ext hE).cell 0 _ rfl;have z1 := (bz.ext hE).cell 1 _ rfl;have z2 := (bz.ext hE).cell 2 _ rfl;have z3 := (bz.ext hE).cell 3 _ rfl;have f0 := (bz.ext hE).frozen 0;have f1 := (bz.ext hE).frozen 1;have f2 := (bz.ext hE).frozen 2;have f3 := (bz.ext hE).frozen 3
 go_wp2_with fail
 obtain ⟨b1, b2, b3, b4⟩ := fin_quad (s := s) (A := A) (n := n) (c := c) (t := t) (B := B) (m := m) (d := d) (bz.ext hE);have r0 := b1.cell 0 (.bool s) rfl;have r1 := b1.cell 1 (.slice A n c) rfl;have r2 := b1.cell 2 (.bool t) rfl;have r3 := b1.cell 3 (.slice B m d) rfl;unfold set4 at r0 r1 r2 r3;refine bodyPost_ret (v := .agg #[.bool s, .slice A n c, .bool t, .slice B m d]) (by simp [results, Tryz.results47, go_sem, r0, r1, r2, r3]) rfl ⟨s, A, n, c, t, B, m, d, rfl, ⟨?_, ?_⟩, b3 _ (extW.trans hE) (by omega)⟩
 ·exact b2 _ _ _ _ _ _ hr.num
 ·exact b2 _ _ _ _ _ _ hr.den
theorem p_SignR (h : NR w q L s A n c t B m d) (hL : L <= 50000) : Calls Tryz.prog 80 #[.agg #[.bool s, .slice A n c, .bool t, .slice B m d]] w fun e w' => e = .returned (.int .i64 q.num.sign) /\ Ext w w' := by
 go_enter Tryz.func80, Tryz.ntmps80
 go_upto_region 1 with (fail)
 obtain ⟨W, hW, extW, bx, hz⟩ := box1 w 30 #[.bool s, .slice A n c, .bool t, .slice B m d];rw [<- hW];clear hW;have x0 := bx.cell 0 (.bool s) rfl;have x1 := bx.cell 1 (.slice A n c) rfl
 go_wp2_with fail
 refine (p_Sign (h.num.ext extW) (by omega)).mono ?_;rintro e wa ⟨rfl, hx0⟩
 go_wp2_with fail
 go_ret
 exact ⟨rfl, extW.trans hx0⟩
theorem p_NegR (h : NR w q L s A n c t B m d) (hL : L <= 100000) : Calls Tryz.prog 76 #[.agg #[.bool s, .slice A n c, .bool t, .slice B m d]] w (RetNR (-q) L w) := by
 go_enter Tryz.func76, Tryz.ntmps76
 go_upto_region 1 with (fail)
 obtain ⟨W, hW, extW, bx, bz, hz⟩ := box2 w 30 30 #[.bool s, .slice A n c, .bool t, .slice B m d] #[Value.bool false, Value.slice none 0 0, Value.bool false, Value.slice none 0 0];rw [<- hW];clear hW;refine wpL.st 7 (fun hQ ES => ?_);refine wpL.u 0 3 hQ ES ?_
 try simp only [zP]
 refine wpL.u 3 6 hQ ES ?_
 try simp only [zP]
 refine wpL.t 1 4 ?v_2 hQ ?y_2 ES ?_
 case y_2 => intro w' hSw;have k00 := (bx.ext hSw).c4;go_simp;try rfl
 try simp only [zP]
 refine wpL.t 4 7 ?v_3 hQ ?y_3 ES ?_
 case y_3 => intro w' hSw;have k00 := (bx.ext hSw).c4;go_simp;try rfl
 try simp only [zP]
 refine wpL.cl (i := 2) rfl (fun K hK => ?_);go_simp
 (go_at_call 119; refine (p_Neg (h.num.ext (extW.trans ES)) hL).mono ?_; rintro e wa ⟨s1, A1, n1, c1, rfl, h1, hx0⟩; have E0_1 := Ext.trans ES hx0)
 refine hK.out _ _ E0_1 ?_;clear hK K
 try simp only [zP]
 refine wpL.cl (i := 5) rfl (fun K hK => ?_);go_simp
 (go_at_call 92; refine (p_Norm (h.den.ext (extW.trans E0_1)) hL).mono ?_; rintro e wb ⟨s2, A2, n2, c2, rfl, h2, hx1⟩; have E1_1 := Ext.trans E0_1 hx1)
 refine hK.out _ _ E1_1 ?_;clear hK K
 try simp only [zP]
 refine wpL.u 6 9 hQ E1_1 ?_
 try simp only [zP]
 have z0 := (bz.ext E1_1).cell 0 _ rfl;have z1 := (bz.ext E1_1).cell 1 _ rfl;have z2 := (bz.ext E1_1).cell 2 _ rfl;have z3 := (bz.ext E1_1).cell 3 _ rfl;have f0 := (bz.ext E1_1).frozen 0;have f1 := (bz.ext E1_1).frozen 1;have f2 := (bz.ext E1_1).frozen 2;have f3 := (bz.ext E1_1).frozen 3;refine wpL.tl (i := 7) rfl (fun K hK => ?_);go_simp;refine hK.out _ _ ?_;clear hK K
 try simp only [zP]
 refine wpL.done (by kernel_rfl) ?_ _;clear hQ
 go_wp2_with fail
 obtain ⟨b1, b2, b3, b4⟩ := fin_quad (s := s1) (A := A1) (n := n1) (c := c1) (t := s2) (B := A2) (m := n2) (d := c2) (bz.ext E1_1);have r0 := b1.cell 0 (.bool s1) rfl;have r1 := b1.cell 1 (.slice A1 n1 c1) rfl;have r2 := b1.cell 2 (.bool s2) rfl;have r3 := b1.cell 3 (.slice A2 n2 c2) rfl;unfold set4 at r0 r1 r2 r3;refine bodyPost_ret (v := .agg #[.bool s1, .slice A1 n1 c1, .bool s2, .slice A2 n2 c2]) (by simp [results, Tryz.results76, go_sem, r0, r1, r2, r3]) rfl ⟨s1, A1, n1, c1, s2, A2, n2, c2, rfl, ⟨?_, ?_⟩, b3 _ (extW.trans E1_1) (by omega)⟩
 ·exact b2 _ _ _ _ _ _ (h1.ext hx1)
 ·exact b2 _ _ _ _ _ _ h2
theorem p_divide (h : NI w z L s A n c) (k : NI w y M t B m d) (hL : L <= 70000) (hM : M <= 70000) (h0 : y ≠ 0) (hd : y ∣ z) : Calls Tryz.prog 100 #[.agg #[.bool s, .slice A n c], .agg #[.bool t, .slice B m d]] w (RetNI (z / y) L w) := by
 go_enter Tryz.func100, Tryz.ntmps100
 go_upto_region 1 with (fail)
 obtain ⟨W, hW, extW, bx, by_, bz, hz⟩ := box3 w 28 28 28 #[.bool s, .slice A n c] #[.bool t, .slice B m d] #[Value.bool false, Value.slice none 0 0];rw [<- hW];clear hW;have y0 := by_.cell 0 (.bool t) rfl;have y1 := by_.cell 1 (.slice B m d) rfl
 go_wp2_with fail
 refine (p_isOne (k.ext extW)).mono ?_;rintro e wa ⟨rfl, hx0⟩;have x0 := (bx.ext hx0).cell 0 (.bool s) rfl;have x1 := (bx.ext hx0).cell 1 (.slice A n c) rfl;have y2 := (by_.ext hx0).cell 0 (.bool t) rfl;have y3 := (by_.ext hx0).cell 1 (.slice B m d) rfl;have z0 := (bz.ext hx0).cell 0 _ rfl;have z1 := (bz.ext hx0).cell 1 _ rfl;have f0 := (bz.ext hx0).frozen 0;have f1 := (bz.ext hx0).frozen 1;clear y0 y1
 by_cases h1 : y = 1
 ·have hd1 : decide (y = 1) = true := decide_eq_true h1
  rw [hd1]
  go_wp2_with fail
  obtain ⟨b1, b2, b3, b4⟩ := fin_dual (s := s) (A := A) (n := n) (c := c) (bz.ext hx0);have r0 := b1.cell 0 (.bool s) rfl;have r1 := b1.cell 1 (.slice A n c) rfl;unfold set2 at r0 r1;refine bodyPost_ret (v := .agg #[.bool s, .slice A n c]) (by simp [results, Tryz.results100, go_sem, r0, r1]) rfl ⟨s, A, n, c, rfl, ?_, b3 _ (extW.trans hx0) (by omega)⟩;rw [h1, Int.ediv_one];exact b2 _ _ _ _ _ _ (h.ext (extW.trans hx0))
 ·have hd1 : decide (y = 1) = false := decide_eq_false h1
  rw [hd1]
  go_wp2_with fail
  refine (p_DivMod (h.ext (extW.trans hx0)) (k.ext (extW.trans hx0)) (by omega) (by omega) h0).mono ?_;rintro e wb ⟨s1, A1, n1, c1, s2, A2, n2, c2, q, r, rfl, hq, hr, hdm, hx1⟩;obtain ⟨_, hqe, hql⟩ := (dm_q_le hdm h0).2.2 hd;rw [hqe] at hq hql;have hq' := hq.tight h (by simpa using hql);clear x0 x1 y2 y3 z0 z1 f0 f1
  go_upto_region 4 with (fail)
  refine at_world (fun V => Ext W V /\ Box V wb.heap.size 28 #[.bool s1, .slice A1 n1 c1] /\ NI V (z / y) L s1 A1 n1 c1) ?_ ?_
  ·obtain ⟨e1, e2, e3⟩ := two_new wb 28 #[.bool s1, .slice A1 n1 c1] #[.bool s2, .slice A2 n2 c2]
   exact ⟨(hx0.trans hx1).trans e1, e2, hq'.ext e1⟩
  generalize wb.heap.size = g5;rintro V ⟨EV, b5, hqV⟩;have x0 := b5.cell 0 _ rfl;have x1 := b5.cell 1 _ rfl;have z0 := (bz.ext EV).cell 0 _ rfl;have z1 := (bz.ext EV).cell 1 _ rfl;have f0 := (bz.ext EV).frozen 0;have f1 := (bz.ext EV).frozen 1
  go_wp2_with fail
  obtain ⟨b1, b2, b3, b4⟩ := fin_dual (s := s1) (A := A1) (n := n1) (c := c1) (bz.ext EV);have r0 := b1.cell 0 (.bool s1) rfl;have r1 := b1.cell 1 (.slice A1 n1 c1) rfl;unfold set2 at r0 r1;refine bodyPost_ret (v := .agg #[.bool s1, .slice A1 n1 c1]) (by simp [results, Tryz.results100, go_sem, r0, r1]) rfl ⟨s1, A1, n1, c1, rfl, ?_, b3 _ (extW.trans EV) (by omega)⟩;exact b2 _ _ _ _ _ _ hqV
end
end
end Go.Proofs.YtgagcochepnelaaGreatDoor
