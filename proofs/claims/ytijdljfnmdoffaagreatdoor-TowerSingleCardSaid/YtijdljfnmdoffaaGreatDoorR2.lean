/- Walks and laws, a part. -/
import Derived.Test.YtijdljfnmdoffaaGreatDoorR1
import Derived.Test.YtijdljfnmdoffaaGreatDoorR0
import Derived.Lib.ItoaNum
set_option linter.unusedSimpArgs false
set_option linter.unusedVariables false
set_option maxHeartbeats 64000000
namespace Go.Proofs.YtijdljfnmdoffaaGreatDoor
section
open Go.RowKit
theorem shl_cast {x b : Nat} (hx : x < 4294967296) (hb : b < 32) : IntKind.u64.wrap ((x : Int) * 2 ^ b) = ((x * 2 ^ b : Nat) : Int) := by
 have h2 : x * 2 ^ b < 4294967296 * 4294967296 := by
  have hpb : 2 ^ b <= 4294967296 := by
   have : 2 ^ b <= 2 ^ 32 := Nat.pow_le_pow_right (by omega) (by omega);omega
  exact Nat.mul_lt_mul_of_lt_of_le hx hpb (by omega)
 rw [IntKind.wrap_u64, show (x : Int) * 2 ^ b = ((x * 2 ^ b : Nat) : Int) by simp];omega
theorem shl_lo {x z b : Nat} (hx : x < 4294967296) (hb : b < 32) (hz : z < 2 ^ b) (hz2 : z < 4294967296) : bits .or .u32 (z : Int) (IntKind.u64.wrap ((x : Int) * 2 ^ b) % 4294967296) = ((z + x * 2 ^ b % 4294967296 : Nat) : Int) := by
 rw [shl_cast hx hb, show ((x * 2 ^ b : Nat) : Int) % 4294967296 = ((x * 2 ^ b % 4294967296 : Nat) : Int) by omega, u32_or_nat _ _ hz2 (Nat.mod_lt _ (by omega)), shl_low (by omega) hz]
theorem shl_hi {x b : Nat} (hx : x < 4294967296) (hb : b < 32) : IntKind.u64.wrap ((x : Int) * 2 ^ b) / 4294967296 % 4294967296 = ((x * 2 ^ b / 4294967296 : Nat) : Int) := by
 have h := shl_high (b := b) hx
 have hpb : 2 ^ b <= 4294967296 := by
  have : 2 ^ b <= 2 ^ 32 := Nat.pow_le_pow_right (by omega) (by omega);omega
 rw [shl_cast hx hb];generalize x * 2 ^ b = T at *;omega
section
variable {A B : Option Addr} {c d n m : Nat} {xs ys : List Nat} {w : World} {s t : Bool}
theorem int_shiftInto {g off n cz b : Nat} {pre zs0 post : List Nat} (hblk0 : BlkN w g (pre ++ zs0 ++ post)) (hoff : pre.length = off) (hz : zs0 = List.replicate (xs.length + 1) 0) (hx : Rd w A xs) (hm : xs.length = m) (hap : Apart A xs g)
  (hn : m + 1 = n) (hb : b < 32) (h1 : n <= 100000) (_hcz : n <= cz) (_hczm : cz <= maxLen) :
  Calls Tryz.prog 177 #[.slice (some ⟨g, off, none⟩) n cz, .slice A m c, .int .i64 (b : Int)] w (Turned w g pre n post fun zs => val zs = val xs * 2 ^ b) := by
 have Hoff := Lib.hid hoff;have Hm := Lib.hid hm;clear hoff hm;have hi := ShlInv.start xs b;rw [<- hz] at hi;clear hz
 go_enter Tryz.func177, Tryz.ntmps177
 go_wp2
 go_loopw [11] (fun i wr => ∃ (k : Nat) (zs : List Nat), k <= m /\ i = .int .i64 (k : Int) /\ ShlInv xs b k zs /\ BlkN wr g (pre ++ zs ++ post) /\ Mod w wr g) (fun i _ => m - (intOf i).toNat)
 case atStart => exact ⟨0, zs0, by omega, rfl, hi, hblk0, Mod.refl _ _⟩
 case round =>
  obtain ⟨k, zs, hk, rfl, hinv, hblk, hmod⟩ := hrel;have hzl : zs.length = n := by rw [hinv.len, Hm.out]; exact hn
  have hxl : xs.length = m := Hm.out
  by_cases hlt : k < m
  ·obtain ⟨b1, off', rfl, hb1, hc1⟩ := (hx.mod hmod hap).at_ (i := k) (by omega)
   have hxk := hx.1.get (k := k) (by omega);obtain ⟨b2, off2, he, hb2, hc2⟩ := (hblk.mid hinv.w32 Hoff.out).at_ (i := k) (by omega)
   injection he with he
   injection he with he1 he2
   subst he1; subst he2;have hzk := hinv.w32.get (k := k) (by omega);have hlow : zs[k] < 2 ^ b := by have := hinv.low; rwa [getD_at (by omega)] at this
   obtain ⟨b3, off3, he, hb3, hc3⟩ := (hblk.mid hinv.w32 Hoff.out).at_ (i := k + 1) (by omega)
   injection he with he
   injection he with he1 he2
   subst he1; subst he2;have hfz := hblk.frozen (off + k);have hfz2 := hblk.frozen (off + (k + 1))
   go_wp2
   go_roundw
   case rel =>
    have hst := hinv.step hb hx.1 (by omega);rw [getD_at (by omega)] at hst;exact ⟨k + 1, _, by omega, by go_num, hst, (hblk.setMid Hoff.out (by omega) (shl_lo hxk hb hlow hzk)).setMid Hoff.out (by simp; omega) (shl_hi hxk hb), (hmod.setCell _ _).setCell _ _⟩
   case measure => simp [intOf]; omega
  ·have hk' : k = m := by omega
   subst hk'
   go_wp2
   go_end0
   refine ⟨zs, rfl, hzl, hinv.w32, hblk, ?_, hmod⟩;have := hinv.eq
   rwa [List.take_of_length_le (by omega), List.take_of_length_le (by omega)] at this
theorem int_shiftLeft {k : Nat} (hn : xs.length = n) (hx : Rd w A xs) (hk : k <= 100000) (h1 : n <= 10000) :
  Calls Tryz.prog 176 #[.slice A n c, .int .i64 (k : Int)] w (RetN (fun zs => val zs = val xs * 2 ^ k /\ Nrm zs /\ zs.length <= k / 32 + n + 1) w) := by
 have hmk : ∀ W : World, (Instr.makeSlice 105 (.int .i64 ((k : Int) / 32 + (n : Int) + 1)) (.int .i64 ((k : Int) / 32 + (n : Int) + 1))).run Tryz.prog W = .ok (.slice (some ⟨W.heap.size, 0, none⟩) (k / 32 + n + 1) (k / 32 + n + 1)) (W.alloc (.cells (madeCells #[.int .u32 0] (k / 32 + n + 1)) 89)) := fun W => by
  have h := mk_words 105 Tryz.underlying105 (k / 32 + n + 1) (by omega) W
  rwa [show ((k / 32 + n + 1 : Nat) : Int) = (k : Int) / 32 + (n : Int) + 1 by omega] at h
 have Hn := Lib.hid hn;clear hn
 go_enter Tryz.func176, Tryz.ntmps176
 go_wp2_with fail
 rw [show ((k : Int) % 32) = ((k % 32 : Nat) : Int) by omega];have hb0 := BlkN.new w (k / 32 + n + 1)
 have hsp : List.replicate (k / 32 + n + 1) 0 = List.replicate (k / 32) 0 ++ List.replicate (xs.length + 1) 0 ++ ([] : List Nat) := by
  rw [List.append_nil, List.replicate_append_replicate, Hn.out, Nat.add_assoc]
 rw [hsp] at hb0;refine (int_shiftInto (pre := List.replicate (k / 32) 0) (zs0 := List.replicate (xs.length + 1) 0) (post := []) hb0 (by simp) rfl (hx.ext ((Ext.refl w).alloc _)) Hn.out (hx.apart (Nat.le_refl _)) (by omega) (by omega) (by omega) (Nat.le_refl _) (by unfold maxLen; omega)).mono ?_;rintro e w2 ⟨zs, rfl, hzl, hzw, hzb, hzv, hmod⟩;have hext := hmod.ext ((Ext.refl w).alloc _) (Nat.le_refl _);rw [List.append_nil] at hzb;have hfull : W32 (List.replicate (k / 32) 0 ++ zs) := (W32.replicate _).append hzw;have hlen : (List.replicate (k / 32) 0 ++ zs).length = k / 32 + n + 1 := by rw [List.length_append, List.length_replicate, hzl]; omega
 have hval := shl_val (k := k) hzv;generalize List.replicate (k / 32) 0 ++ zs = Z at hzb hfull hlen hval;have Hlen := Lib.hid hlen;have Hval := Lib.hid hval;clear hlen hval hzl hzv hmod hsp hb0
 go_wp2_with fail
 refine (int_trimN (xs := Z) Hlen.out (hzb.rd0 hfull) (Nat.le_refl _) (by unfold maxLen; omega)).mono ?_;rintro e w3 ⟨rfl, rfl⟩
 go_wp2_with fail
 go_ret
 have hl := trimL_len Z;rw [Hlen.out] at hl;refine ⟨_, _, trimL Z, rfl, ?_, by omega, by unfold maxLen; omega, ⟨by rw [val_trimL]; exact Hval.out, Nrm.trimL _, hl⟩, hext⟩;rw [trimL_take];exact (Own.of_blk hzb hfull (Nat.le_refl _)).take _
theorem int_binaryDigits (hn : xs.length = n) (hx : Rd w A xs) (h1 : n <= 100000) :
  Calls Tryz.prog 165 #[.slice A n c] w fun e w' => e = .returned (.int .i64 ((if h : 0 < xs.length then 32 * (xs.length - 1) + Lib.bitLen (xs[xs.length - 1]'(by omega)) else 0 : Nat) : Int)) /\ w = w' := by
 subst hn
 by_cases h : 0 < xs.length
 ·obtain ⟨b1, off', rfl, hb1, hc1⟩ := hx.at_ (i := xs.length - 1) (by omega)
  have hxk := hx.1.get (k := xs.length - 1) (by omega);have hpos : ¬ xs.length = 0 := by omega
  have hle : Lib.bitLen xs[xs.length - 1] <= 32 := Lib.bitLen_le _ 32 (by omega) (by omega)
  go_enter Tryz.func165, Tryz.ntmps165
  go_wp2_with (go_at_call 160; refine (len32 _ _ (by omega) (by omega)).mono ?_; rintro e w2 ⟨rfl, rfl⟩)
  go_ret
  refine ⟨ret_int ?_, rfl⟩;omega
 ·have h0 : xs.length = 0 := by omega
  go_enter Tryz.func165, Tryz.ntmps165
  go_wp2_with fail
  go_ret
  refine ⟨ret_int ?_, rfl⟩
  rfl
end
theorem or_cast {x y b c : Nat} (hx : x < 4294967296) : bits .or .u32 ((x : Int) / 2 ^ b) ((y : Int) * 2 ^ c % 4294967296) = ((x / 2 ^ b ||| (y * 2 ^ c % 4294967296) : Nat) : Int) := by
 rw [show (x : Int) / 2 ^ b = ((x / 2 ^ b : Nat) : Int) by simp, show (y : Int) * 2 ^ c % 4294967296 = ((y * 2 ^ c % 4294967296 : Nat) : Int) by simp];exact u32_or_nat _ _ (Nat.lt_of_le_of_lt (Nat.div_le_self _ _) hx) (Nat.mod_lt _ (by omega))
section
variable {A B : Option Addr} {c d n m : Nat} {xs ys : List Nat} {w : World} {s t : Bool}
theorem int_shiftRight {k : Nat} (hn : xs.length = n) (hx : Rd w A xs) (hc : n <= c) (hcm : c <= maxLen) (hk : k <= 100000) (h1 : n <= 10000) :
  Calls Tryz.prog 180 #[.slice A n c, .int .i64 (k : Int)] w (RetN (fun zs => val zs = val xs / 2 ^ k /\ Nrm zs /\ zs.length <= n) w) := by
 by_cases hlt : n <= k / 32
 ·have Hn := Lib.hid hn
  clear hn;have hge : ((n : Int)) <= (k : Int) / 32 := by omega
  go_enter Tryz.func180, Tryz.ntmps180
  go_wp2_with fail
  go_ret
  refine ⟨none, 0, [], rfl, ⟨W32.nil, .inl rfl⟩, by simp, by unfold maxLen; omega, ⟨?_, rfl, by simp⟩, Ext.refl _⟩;have := shr_spec hx.1 k;rw [List.drop_eq_nil_of_le (by have := Hn.out; omega)] at this;exact this
 ·have hnl := hn
  obtain ⟨b1, off1, rfl, hb1, hc1⟩ := hx.at_ (i := 0) (by omega);have hd := hx.drop (k / 32);have hlen : (xs.drop (k / 32)).length = n - k / 32 := by rw [List.length_drop, hn]
  have hspec := shr_spec hx.1 k;generalize hys : xs.drop (k / 32) = ys at hd hlen hspec;have Hn := Lib.hid hn;have Hys := Lib.hid hys;have Hspec := Lib.hid hspec;have Hlen := Lib.hid hlen;clear hn hys hspec hc1 hnl hlen;unfold maxLen at hcm;generalize hL : n - k / 32 = L at *;have hL0 : 0 < L := by omega
  have hmk : ∀ W : World, (Instr.makeSlice 105 (.int .i64 (L : Int)) (.int .i64 (L : Int))).run Tryz.prog W = .ok (.slice (some ⟨W.heap.size, 0, none⟩) L L) (W.alloc (.cells (madeCells #[.int .u32 0] L) 89)) := fun W => mk_words 105 Tryz.underlying105 L (by omega) W
  have hge : ¬ ((n : Int)) <= (k : Int) / 32 := by omega
  have hkc : k / 32 <= c := by omega
  have hkn : k / 32 <= n := by omega
  go_enter Tryz.func180, Tryz.ntmps180
  go_wp2_with fail
  have hb0 := BlkN.new w L
  go_loopw [21] (fun i wr => ∃ (j : Nat) (zs : List Nat), j <= L /\ i = .int .i64 (j : Int) /\ zs.length = L /\ W32 zs /\ zs.take j = (shrL (k % 32) ys).take j /\ BlkN wr w.heap.size zs /\ Ext w wr) (fun i _ => L - (intOf i).toNat)
  case atStart => exact ⟨0, List.replicate L 0, by omega, rfl, by simp, W32.replicate _, rfl, hb0, (Ext.refl w).alloc _⟩
  case round =>
   obtain ⟨j, zs, hj, rfl, hzl, hzw, htk, hblk, hext⟩ := hrel;have Htk := Lib.hid htk;clear htk
   by_cases hjl : j < L
   ·obtain ⟨b2, off2, he, hb2, hc2⟩ := (hd.ext hext).at_ (i := j) (by rw [Hlen.out]; exact hjl)
    injection he with he
    injection he with he1 he2
    subst he1; subst he2;have hyl : j < ys.length := by rw [Hlen.out]; exact hjl
    have hyj := hd.1.get hyl;have hcz := hblk.cell (i := j) (by omega);have hzj := hzw.get (k := j) (by omega);have hfz := hblk.frozen j
    by_cases hnx : j + 1 < L
    ·have Hv1 := Lib.hid (show ((ys[j] : Nat) : Int) / 2 ^ (k % 32) = ((ys[j] / 2 ^ (k % 32) : Nat) : Int) by simp)
     have hyn := hd.1.get (k := j + 1) (by rw [Hlen.out]; exact hnx);have hlp : (j : Int) + 1 < (L : Int) := by omega
     go_upto_region 10 with (fail)
     refine at_world (fun W => BlkN W w.heap.size (zs.set j (ys[j] / 2 ^ (k % 32))) /\ Ext w W) ⟨hblk.set j Hv1.out, hext.setCell (Nat.le_refl _) _⟩ ?_;rintro W ⟨hblkW, hextW⟩;obtain ⟨b3, off3, he, hb3, hc3⟩ := (hd.ext hextW).at_ (i := j + 1) (by rw [Hlen.out]; exact hnx)
     injection he with he
     injection he with he1 he2
     subst he1; subst he2;have hcW := hblkW.cell (i := j) (by simp; omega);rw [List.getElem_set_self] at hcW;have hfW := hblkW.frozen j;have hbW := hblkW.lt
     go_region
     go_wp2
     go_roundw
     case rel =>
      have hj1 : j + 1 < ys.length := by rw [Hlen.out]; exact hnx
      have hval := (or_cast (x := ys[j]) (y := ys[j + 1]) (b := k % 32) (c := 32 - k % 32) hyj).trans (congrArg Int.ofNat (shr_word (x := ys[j]) (y := ys[j + 1]) (b := k % 32) hyj (by omega)));have hlt2 : (ys[j] + 4294967296 * ys[j + 1]) / 2 ^ (k % 32) % 4294967296 < 4294967296 := Nat.mod_lt _ (by omega);have hset := hblkW.set j hval;rw [List.set_set] at hset;refine ⟨j + 1, _, by omega, by go_num, by simp [hzl], hzw.set _ hlt2, take_shr (b := k % 32) hyl (by omega) Htk.out ?_, hset.drewN 1, (hextW.setCell (Nat.le_refl _) _).drew⟩;rw [getD_at (by rw [Hlen.out]; exact hnx)]
     case measure => simp [intOf]; omega
    ·have hnx' : ¬ ((j : Int) + 1 < (L : Int)) := by omega
     have Hv1 := Lib.hid (show ((ys[j] : Nat) : Int) / 2 ^ (k % 32) = ((ys[j] / 2 ^ (k % 32) : Nat) : Int) by simp);have hlt2 : ys[j] / 2 ^ (k % 32) < 4294967296 := Nat.lt_of_le_of_lt (Nat.div_le_self _ _) hyj
     go_wp2
     go_roundw
     case rel =>
      refine ⟨j + 1, zs.set j (ys[j] / 2 ^ (k % 32)), by omega, by go_num, by simp [hzl], hzw.set _ hlt2, take_shr (b := k % 32) hyl (by omega) Htk.out ?_, hblk.set j Hv1.out, hext.setCell (Nat.le_refl _) _⟩;rw [getD_out (by rw [Hlen.out]; omega)];exact shr_word0 hyj
     case measure => simp [intOf]; omega
   ·have hjl' : j = L := by omega
    subst hjl'
    go_wp2_with (go_at_call 114; refine (int_trimN (xs := zs) hzl (hblk.rd0 hzw) (Nat.le_refl _) (by unfold maxLen; omega)).mono ?_; rintro e w3 ⟨rfl, rfl⟩)
    go_ret
    have hl := trimL_len zs
    have hfull : zs = shrL (k % 32) ys := by
     have := Htk.out
     rwa [List.take_of_length_le (by omega), List.take_of_length_le (by rw [shrL_len, Hlen.out]; omega)] at this
    refine ⟨_, _, trimL zs, rfl, ?_, by omega, by unfold maxLen; omega, ⟨by rw [val_trimL, hfull]; exact Hspec.out, Nrm.trimL _, by omega⟩, hext⟩;rw [trimL_take];exact (Own.of_blk hblk hzw (Nat.le_refl _)).take _
end
end
section
open Go.RowKit
attribute [local go_sem ↓] Go.wp_at_zero Go.wp_at_succ
theorem kar_step {z zt : List Nat} {k n cy m : Nat} (hz : z.length = n) (hk : k <= n) (h : val zt + 4294967296 ^ (n - k) * cy = val (z.drop k) + m) (hf : val z + 4294967296 ^ k * m < 4294967296 ^ n) :
  val (z.take k ++ zt) = val z + 4294967296 ^ k * m := by
 have e1 := val_split z k (by omega);have e2 : val (z.take k ++ zt) = val (z.take k) + 4294967296 ^ k * val zt := by rw [val_append, List.length_take, Nat.min_eq_left (by omega)]
 have e3 : (4294967296 : Nat) ^ n = 4294967296 ^ k * 4294967296 ^ (n - k) := by rw [<- Nat.pow_add]; congr 1; omega
 rw [e3] at hf;rw [e2, e1];rw [e1] at hf;generalize 4294967296 ^ k = p at *;generalize 4294967296 ^ (n - k) = q at *;have h4 : p * val zt + p * q * cy = p * val (z.drop k) + p * m := by rw [Nat.mul_assoc, <- Nat.mul_add, h, Nat.mul_add]
 cases cy with
 | zero => rw [Nat.mul_zero, Nat.add_zero] at h4; omega
 | succ cy =>
  rw [Nat.mul_add, Nat.mul_one] at h4;omega
theorem kar_mid {a0 a1 b0 b1 m1 m : Nat} (h1 : m1 + a0 * b0 = (a0 + a1) * (b0 + b1)) (h2 : m + a1 * b1 = m1) : m = a0 * b1 + a1 * b0 := by
 have : (a0 + a1) * (b0 + b1) = a0 * b0 + a0 * b1 + (a1 * b0 + a1 * b1) := by rw [Nat.add_mul, Nat.mul_add, Nat.mul_add]
 omega
theorem kar_all {a0 a1 b0 b1 p : Nat} : (a0 + p * a1) * (b0 + p * b1) = a0 * b0 + p * (a0 * b1 + a1 * b0) + p * p * (a1 * b1) := by grind
theorem kar_low {a0 a1 b0 b1 : Nat} : a0 * b0 <= (a0 + a1) * (b0 + b1) := Nat.mul_le_mul (Nat.le_add_right _ _) (Nat.le_add_right _ _)
theorem kar_high {a0 a1 b0 b1 m1 : Nat} (h1 : m1 + a0 * b0 = (a0 + a1) * (b0 + b1)) : a1 * b1 <= m1 := by
 have : (a0 + a1) * (b0 + b1) = a0 * b0 + a0 * b1 + (a1 * b0 + a1 * b1) := by rw [Nat.add_mul, Nat.mul_add, Nat.mul_add]
 omega
theorem kar_lt1 {a b c m p q : Nat} (_hp : 0 < p) (h : a + (b + p * m + c) < p * q) : m < q := by
 refine Nat.lt_of_not_le fun hle => ?_
 have := Nat.mul_le_mul_left p hle;omega
theorem kar_lt2 {a b m p q : Nat} (_hp : 0 < p) (h : a + (b + p * m) < p * q) : m < q := by
 refine Nat.lt_of_not_le fun hle => ?_
 have := Nat.mul_le_mul_left p hle;omega
theorem Nrm.len_le {xs : List Nat} {k : Nat} (h : Nrm xs) (hv : val xs < 4294967296 ^ k) : xs.length <= k := by
 rcases Nat.lt_or_ge k xs.length with hlt | hge
 ·have h1 := h.ge (by intro h0; rw [h0] at hlt; simp at hlt)
  have h2 : (4294967296 : Nat) ^ k <= 4294967296 ^ (xs.length - 1) := Nat.pow_le_pow_right (by omega) (by omega);omega
 ·exact hge
theorem Rd.some {w : World} {A : Option Addr} {xs : List Nat} (h : Rd w A xs) (hn : 0 < xs.length) : ∃ b off, A = .some ⟨b, off, none⟩ := by
 obtain ⟨b, off, hA, _, _⟩ := h.2 (by intro h0; rw [h0] at hn; simp at hn);exact ⟨b, off, hA⟩
end
section
open Go.RowKit
theorem win_val {ys : List Nat} {r : Nat} (hw : W32 ys) (hr : r < 32) (hl : 2 < ys.length) (hv : val ys / 2 ^ r < 18446744073709551616) :
  val (ys.take 2) / 2 ^ r + 2 ^ (64 - r) * ys[2] = val ys / 2 ^ r /\ val (ys.take 2) / 2 ^ r < 2 ^ (64 - r) /\ ys[2] < 2 ^ r := by
 have e1 := val_split ys 2 (by omega);have e2 := val_split (ys.drop 2) 1 (by rw [List.length_drop]; omega)
 have e3 : (ys.drop 2).take 1 = [ys[2]] := by
  rw [List.drop_eq_getElem_cons (by omega)]; rfl
 rw [e3, val_one] at e2;have hl2 := val_lt (hw.take 2);rw [List.length_take, Nat.min_eq_left (by omega)] at hl2
 have h64 : (4294967296 : Nat) ^ 2 = 2 ^ r * 2 ^ (64 - r) := by
  rw [<- Nat.pow_add, show r + (64 - r) = 64 by omega]
 have hp : 0 < 2 ^ r := Nat.pow_pos (by omega);rw [h64] at e1 hl2;generalize val (List.drop 1 (List.drop 2 ys)) = t at *;generalize val (List.drop 2 ys) = h at *;generalize val (List.take 2 ys) = l at *
 have e4 : val ys / 2 ^ r = l / 2 ^ r + 2 ^ (64 - r) * h := by
  rw [e1, Nat.mul_assoc, Nat.add_mul_div_left _ _ hp]
 have hll : l / 2 ^ r < 2 ^ (64 - r) := Nat.div_lt_of_lt_mul hl2
 have hh : h < 2 ^ r := by
  refine Nat.lt_of_not_le fun hle => ?_
  have h1 : 2 ^ (64 - r) * 2 ^ r <= 2 ^ (64 - r) * h := Nat.mul_le_mul_left _ hle;have h2 : 2 ^ (64 - r) * 2 ^ r = 18446744073709551616 := by rw [<- Nat.pow_add, show 64 - r + r = 64 by omega]
  rw [e4] at hv;rw [h2] at h1;generalize 2 ^ (64 - r) * h = H at *;generalize l / 2 ^ r = H2 at *;omega
 have hr2 : 2 ^ r <= 2 ^ 31 := Nat.pow_le_pow_right (by omega) (by omega)
 have ht : t = 0 := by
  refine Nat.eq_zero_of_not_pos fun h0 => ?_
  have : (4294967296 : Nat) ^ 1 * 1 <= 4294967296 ^ 1 * t := Nat.mul_le_mul_left _ h0;have h31 : (2 : Nat) ^ 31 = 2147483648 := by decide
  omega
 subst ht;rw [Nat.mul_zero, Nat.add_zero] at e2;subst e2;exact ⟨e4.symm, hll, hh⟩
theorem or64_cast {V y r : Nat} (hx : V / 2 ^ r < 2 ^ (64 - r)) (hy : 2 ^ (64 - r) * y < 18446744073709551616) (hV : V < 18446744073709551616) : bits .or .u64 ((V : Int) / 2 ^ r) (IntKind.u64.wrap ((y : Int) * 2 ^ (64 - r))) = ((V / 2 ^ r + 2 ^ (64 - r) * y : Nat) : Int) := by
 have e0 : (V : Int) / 2 ^ r = ((V / 2 ^ r : Nat) : Int) := by simp
 have e1 : (y : Int) * 2 ^ (64 - r) = ((2 ^ (64 - r) * y : Nat) : Int) := by
  rw [Nat.mul_comm, Int.natCast_mul, Int.natCast_pow]
  rfl
 rw [e0, e1, IntWalk.u64_in _ (by omega), u64_or_nat _ _ (Nat.lt_of_le_of_lt (Nat.div_le_self _ _) hV) hy, or_parts hx]
section
variable {A : Option Addr} {c n : Nat} {xs : List Nat} {w : World}
set_option maxRecDepth 100000 in
theorem int_window {k : Nat} (hn : xs.length = n) (hx : Rd w A xs) (hc : n <= c) (hcm : c <= maxLen) (hk : k <= 100000) (h1 : n <= 10000) (hv : val xs / 2 ^ k < 18446744073709551616) :
  Calls Tryz.prog 167 #[.slice A n c, .int .i64 (k : Int)] w fun e w' => e = .returned (.int .u64 ((val xs / 2 ^ k : Nat) : Int)) /\ w = w' := by
 by_cases hge : n <= k / 32
 ·have hz : val xs / 2 ^ k = 0 := by
   have h1 := val_lt hx.1;rw [hn] at h1;rw [pow_split k, <- Nat.div_div_eq_div_mul, Nat.div_eq_of_lt (Nat.lt_of_lt_of_le h1 (Nat.pow_le_pow_right (by omega) hge)), Nat.zero_div]
  rw [hz];have m4 : min ((k : Int) / 32) (n : Int) = (n : Int) := by omega
  have m5 : (n : Int) <= (k : Int) / 32 := by omega
  have hsv : ((0 : Nat) : Int) / 2 ^ (k % 32) = 0 := by simp
  unfold maxLen at hcm;clear hz hv
  have hA : (∃ b off, A = some ⟨b, off, none⟩) \/ n = 0 := by
   by_cases h0 : n = 0
   ·exact .inr h0
   ·exact .inl (hx.some (by omega))
  rcases hA with ⟨b, off, rfl⟩ | h0
  ·clear hx hn
   by_cases hcn : c = n
   ·subst hcn
    go_enter Tryz.func167, Tryz.ntmps167
    go_wp2_with fail
    all_goals
     refine (int_toUint (xs := []) (by simp <;> omega) (Rd.nil _ _) (by omega)).mono ?_;rintro e w1 ⟨rfl, rfl⟩;rw [show val [] = 0 by rfl]
     go_wp2_with fail
     go_ret
     exact ⟨rfl, rfl⟩
   ·have hcn' : ¬ c = n := hcn
    go_enter Tryz.func167, Tryz.ntmps167
    go_wp2_with fail
    all_goals
     refine (int_toUint (xs := []) (by simp <;> omega) (Rd.nil _ _) (by omega)).mono ?_;rintro e w1 ⟨rfl, rfl⟩;rw [show val [] = 0 by rfl]
     go_wp2_with fail
     go_ret
     exact ⟨rfl, rfl⟩
  ·subst h0
   clear hx hn
   cases A with
   | none =>
    go_enter Tryz.func167, Tryz.ntmps167
    go_wp2_with fail
    all_goals
     refine (int_toUint (xs := []) (by simp <;> omega) (Rd.nil _ _) (by omega)).mono ?_;rintro e w1 ⟨rfl, rfl⟩;rw [show val [] = 0 by rfl]
     go_wp2_with fail
     go_ret
     exact ⟨rfl, rfl⟩
   | some ad =>
    go_enter Tryz.func167, Tryz.ntmps167
    go_wp2_with fail
    all_goals
     refine (int_toUint (xs := []) (by simp <;> omega) (Rd.nil _ _) (by omega)).mono ?_;rintro e w1 ⟨rfl, rfl⟩;rw [show val [] = 0 by rfl]
     go_wp2_with fail
     go_ret
     exact ⟨rfl, rfl⟩
 ·obtain ⟨b, off, rfl⟩ := hx.some (by omega)
  have hd := hx.drop (k / 32);have hlen : (xs.drop (k / 32)).length = n - k / 32 := by rw [List.length_drop, hn]
  have hspec : val xs / 2 ^ k = val (xs.drop (k / 32)) / 2 ^ (k % 32) := by rw [val_drop hx.1, pow_split k, Nat.div_div_eq_div_mul]
  have hr : k % 32 < 32 := Nat.mod_lt _ (by omega);rw [hspec] at hv ⊢;have m1 : (k : Int) / 32 <= (n : Int) := by omega
  have m2 : k / 32 <= n := by omega
  have m3 : ¬ c = k / 32 := by omega
  have m4 : min ((k : Int) / 32) (n : Int) = (k : Int) / 32 := by omega
  unfold maxLen at hcm;generalize hys : xs.drop (k / 32) = ys at *;have Hlen := Lib.hid hlen;have Hv := Lib.hid hv;have hl0 : 1 <= n - k / 32 := by omega
  clear hx hn hspec hv hlen
  by_cases h2 : n - k / 32 <= 2
  ·have m5 : min (2 : Int) ((n - k / 32 : Nat) : Int) = ((n - k / 32 : Nat) : Int) := by omega
   have hval : val (ys.take 2) = val ys := by rw [List.take_of_length_le (by have := Hlen.out; omega)]
   have t1 : decide ((2 : Int) < ((n - k / 32 : Nat) : Int)) = false := decide_eq_false (by omega);have Hval := Lib.hid hval;clear hval;have hl2 := val_lt hd.1
   have hl3 : (val ys : Int) <= 18446744073709551615 := by
    have h1 : (4294967296 : Nat) ^ ys.length <= 4294967296 ^ 2 := Nat.pow_le_pow_right (by omega) (by have := Hlen.out; omega);rw [show (4294967296 : Nat) ^ 2 = 18446744073709551616 by decide] at h1;omega
   have ht2 := hd;have hsv : (val ys : Int) / 2 ^ (k % 32) = ((val ys / 2 ^ (k % 32) : Nat) : Int) := by simp
   have HS := Lib.hid hsv;clear hsv hl2;generalize hVV : val ys = V at *;have HVV := Lib.hid hVV;clear hVV m5
   go_enter Tryz.func167, Tryz.ntmps167
   go_wp2_with fail
   all_goals
    refine (int_toUint (xs := ys) (by have := Hlen.out; omega) ht2 (by omega)).mono ?_;rintro e w1 ⟨rfl, rfl⟩;rw [HVV.out]
    go_wp2_with fail
    rw [HS.out]
    go_ret
    exact ⟨rfl, rfl⟩
  ·have hy3 : 2 < ys.length := by have := Hlen.out; omega
   have hw := win_val hd.1 hr hy3 Hv.out;obtain ⟨h3, h4, h5⟩ := hw;obtain ⟨b', off', he, hb', hc2⟩ := hd.at_ (i := 2) (by have := Hlen.out; omega)
   injection he with he
   injection he with he1 he2
   subst he1;subst he2;have hw2 := hd.1.get (k := 2) (by have := Hlen.out; omega);have hl2 := val_lt (hd.1.take 2);rw [List.length_take, Nat.min_eq_left (by have := Hlen.out; omega)] at hl2;have hr64 : 2 ^ (64 - k % 32) * ys[2] < 18446744073709551616 := by have h := Hv.out; rw [<- h3] at h; exact Nat.lt_of_le_of_lt (Nat.le_add_left _ _) h
   have hor := or64_cast (V := val (ys.take 2)) (y := ys[2]) (r := k % 32) h4 hr64 (by rw [show (4294967296 : Nat) ^ 2 = 18446744073709551616 by decide] at hl2; exact hl2);rw [h3] at hor;generalize ys[2] = y2 at *;have ht2 := hd.take 2;have Hor := Lib.hid hor;have H3 := Lib.hid h3;have hl2' : (val (ys.take 2) : Int) <= 18446744073709551615 := by rw [show (4294967296 : Nat) ^ 2 = 18446744073709551616 by decide] at hl2; omega
   have hlt2 : (ys.take 2).length <= 2 := by rw [List.length_take]; omega
   have hlt3 : 2 <= (ys.take 2).length := by rw [List.length_take]; have := Hlen.out; omega
   clear hor h3 h4 h5 hl2 hr64;generalize hVV : val (ys.take 2) = V at *;have HVV := Lib.hid hVV;clear hVV;have m6 : (2 : Int) < ((n - k / 32 : Nat) : Int) := by omega
   have t1 : decide ((2 : Int) < ((n - k / 32 : Nat) : Int)) = true := decide_eq_true m6;have hsh : ((64 : Int) - (k : Int) % 32).toNat = 64 - k % 32 := by omega
   have hsh2 : (0 : Int) <= 64 - (k : Int) % 32 := by omega
   go_enter Tryz.func167, Tryz.ntmps167
   go_wp2_with fail
   refine (int_toUint (xs := ys.take 2) (by omega) ht2 (by omega)).mono ?_;rintro e w1 ⟨rfl, rfl⟩;rw [HVV.out]
   go_wp2_with fail
   rw [Hor.out]
   go_ret
   exact ⟨rfl, rfl⟩
end
end
section
open Go.RowKit
attribute [local go_sem ↓] Go.wp_at_zero Go.wp_at_succ
structure CInv (xs ys : List Nat) (x y : Int) (k : Nat) (zs : List Nat) (cy : Int) : Prop where
 w32 : W32 zs
 lo : -2147483648 <= cy
 hi : cy <= 2147483648
 eq : (val (zs.take k) : Int) + (4294967296 : Int) ^ k * cy = x * (val (xs.take k) : Int) + y * (val (ys.take k) : Int)
theorem comb_bound {x y : Int} {a b : Nat} (ha : a < 4294967296) (hb : b < 4294967296) (hs : (x <= 0 /\ 0 <= y) \/ (0 <= x /\ y <= 0)) (hx1 : -2147483647 <= x) (hx2 : x <= 2147483647) (hy1 : -2147483647 <= y) (hy2 : y <= 2147483647) :
  -9223372030412324865 <= x * (a : Int) /\ x * (a : Int) <= 9223372030412324865 /\ -9223372030412324865 <= y * (b : Int) /\ y * (b : Int) <= 9223372030412324865 /\ -9223372030412324865 <= x * (a : Int) + y * (b : Int) /\ x * (a : Int) + y * (b : Int) <= 9223372030412324865 := by
 have key : ∀ (v : Int) (c : Nat), c < 4294967296 -> 0 <= v -> v <= 2147483647 -> 0 <= v * (c : Int) /\ v * (c : Int) <= 9223372030412324865 := by
  intro v c hc h0 h1;have h2 := Int.mul_le_mul h1 (show (c : Int) <= 4294967295 by omega) (by omega) (by omega);exact ⟨Int.mul_nonneg h0 (by omega), by omega⟩
 rcases hs with ⟨h1, h2⟩ | ⟨h1, h2⟩
 ·have k1 := key (-x) a ha (by omega) (by omega)
  have k2 := key y b hb h2 hy2;rw [Int.neg_mul] at k1;omega
 ·have k1 := key x a ha h1 hx2
  have k2 := key (-y) b hb (by omega) (by omega);rw [Int.neg_mul] at k2;omega
theorem pow_cast (k : Nat) : ((4294967296 ^ k : Nat) : Int) = (4294967296 : Int) ^ k := by rw [Int.natCast_pow]; rfl
theorem CInv.step {xs ys zs : List Nat} {x y : Int} {k : Nat} {cy : Int} (h : CInv xs ys x y k zs cy) (hx : k < xs.length) (hy : k < ys.length) (hz : k < zs.length) {s : Int} (hs : s = cy + (x * (xs[k] : Int) + y * (ys[k] : Int)))
  (hb1 : -9223372036854775808 <= s) (hb2 : s <= 9223372036854775807) : CInv xs ys x y (k + 1) (zs.set k (s % 4294967296).toNat) (s / 4294967296) := by
 have hm := Int.emod_nonneg s (show (4294967296 : Int) ≠ 0 by decide);have hm2 := Int.emod_lt_of_pos s (show (0 : Int) < 4294967296 by decide);have hdm := Int.mul_ediv_add_emod s 4294967296;refine ⟨h.w32.set k (by omega), by omega, by omega, ?_⟩;have e := h.eq;rw [val_take_set _ hz, val_take_succ xs k hx, val_take_succ ys k hy];have ec : (((s % 4294967296).toNat : Nat) : Int) = s % 4294967296 := Int.toNat_of_nonneg hm;rw [Int.natCast_add, Int.natCast_mul, Int.natCast_add, Int.natCast_mul, Int.natCast_add, Int.natCast_mul, pow_cast, ec, Int.pow_succ];generalize (4294967296 : Int) ^ k = p at *;generalize s % 4294967296 = m at *;generalize s / 4294967296 = q at *;have h1 : p * s = p * (4294967296 * q + m) := by rw [hdm]
 grind
theorem CInv.done {xs ys zs : List Nat} {x y : Int} {n : Nat} {cy : Int} (h : CInv xs ys x y n zs cy) (hx : xs.length = n) (hy : ys.length = n) (hz : zs.length = n) {R : Nat} (hR : x * (val xs : Int) + y * (val ys : Int) = (R : Int)) (hl : R < 4294967296 ^ n) : val zs = R := by
 have e := h.eq;rw [List.take_of_length_le (by omega), List.take_of_length_le (by omega), List.take_of_length_le (by omega), hR] at e;have h1 := val_lt h.w32;rw [hz] at h1;have h2 : ((4294967296 ^ n : Nat) : Int) = (4294967296 : Int) ^ n := pow_cast n;rw [<- h2] at e;generalize 4294967296 ^ n = p at *;have hp : (0 : Int) < (p : Int) := by omega
 have hc : cy = 0 := by
  rcases Int.lt_trichotomy cy 0 with h | h | h
  ·have := Int.mul_le_mul_of_nonneg_left (show cy <= -1 by omega) (show (0 : Int) <= (p : Int) by omega)
   omega
  ·exact h
  ·have := Int.mul_le_mul_of_nonneg_left (show 1 <= cy by omega) (show (0 : Int) <= (p : Int) by omega)
   omega
 subst hc;omega
section
variable {A B : Option Addr} {c d n : Nat} {xs ys : List Nat} {w : World}
set_option maxRecDepth 100000 in
theorem int_combine {g cz : Nat} {zs0 : List Nat} {x y : Int} {R : Nat} (hblk0 : BlkN w g zs0) (hn : zs0.length = n) (hw : W32 zs0) (hx : Rd w A xs) (hm : xs.length = n) (hap : Apart A xs g) (hy : Rd w B ys) (hp : ys.length = n) (hbp : Apart B ys g)
  (hs : (x <= 0 /\ 0 <= y) \/ (0 <= x /\ y <= 0)) (hx1 : -2147483647 <= x) (hx2 : x <= 2147483647) (hy1 : -2147483647 <= y) (hy2 : y <= 2147483647) (hR : x * (val xs : Int) + y * (val ys : Int) = (R : Int)) (hl : R < 4294967296 ^ n) (h1 : n <= 100000) (hc : n <= c) (hcm : c <= maxLen) (hd : n <= d) (_hdm : d <= maxLen) (hcz : n <= cz) (hczm : cz <= maxLen) :
  Calls Tryz.prog 169 #[.slice (some ⟨g, 0, none⟩) n cz, .slice A n c, .slice B n d, .int .i64 x, .int .i64 y] w fun e w' => ∃ zs, e = .returned (.slice (some ⟨g, 0, none⟩) (trimL zs).length cz) /\ zs.length = n /\ W32 zs /\ BlkN w' g zs /\ val zs = R /\ Mod w w' g := by
 have Hczm := Lib.hid hczm;unfold maxLen at hczm hcm;have Hn := Lib.hid hn;have Hm := Lib.hid hm;have Hp := Lib.hid hp;have HR := Lib.hid hR;have HL := Lib.hid hl;clear hn hm hp hR hl
 go_enter Tryz.func169, Tryz.ntmps169
 go_wp2
 go_loopw [11, 15] (fun cr i wr => ∃ (k : Nat) (zs : List Nat) (cy : Int), k <= n /\ i = .int .i64 (k : Int) /\ cr = .int .i64 cy /\ CInv xs ys x y k zs cy /\ zs.length = n /\ BlkN wr g zs /\ Mod w wr g) (fun _ i _ => n - (intOf i).toNat)
 case atStart => exact ⟨0, zs0, 0, Nat.zero_le _, rfl, rfl, ⟨hw, by omega, by omega, by simp [val]⟩, Hn.out, hblk0, Mod.refl _ _⟩
 case round =>
  obtain ⟨k, zs, cy, hk, rfl, rfl, hinv, hzl, hblk, hmod⟩ := hrel;have c1 := hinv.lo;have c2 := hinv.hi;have HI := Lib.hid hinv;have Hzl := Lib.hid hzl;clear hinv hzl
  by_cases hlt : k < n
  ·have lx : k < xs.length := by have := Hm.out; omega
   have ly : k < ys.length := by have := Hp.out; omega
   have lz : k < zs.length := by have := Hzl.out; omega
   obtain ⟨ba, oa, rfl, _, ca⟩ := (hx.mod hmod hap).at_ lx;obtain ⟨bb, ob, rfl, _, cb⟩ := (hy.mod hmod hbp).at_ ly;have wa := hx.1.get lx;have wb := hy.1.get ly;have cz0 := hblk.cell lz;have fz := hblk.frozen k;obtain ⟨p1, p2, q1, q2, s1, s2⟩ := comb_bound wa wb hs hx1 hx2 hy1 hy2;have hst := HI.out.step lx ly lz (s := cy + (x * (xs[k] : Int) + y * (ys[k] : Int))) rfl (by omega) (by omega);have wz := HI.out.w32.get lz;generalize xs[k] = a at *;generalize ys[k] = b at *;generalize zs[k] = z at *;have E1 : IntKind.i64.wrap (x * (a : Int)) = x * (a : Int) := IntWalk.i64_in _ (by omega);have E2 : IntKind.i64.wrap (y * (b : Int)) = y * (b : Int) := IntWalk.i64_in _ (by omega);have E3 : IntKind.i64.wrap (x * (a : Int) + y * (b : Int)) = x * (a : Int) + y * (b : Int) := IntWalk.i64_in _ (by omega);have E4 : IntKind.i64.wrap (cy + (x * (a : Int) + y * (b : Int))) = cy + (x * (a : Int) + y * (b : Int)) := IntWalk.i64_in _ (by omega);have HS := Lib.hid hst;clear hst;have i1 : (k : Int) < (n : Int) := by omega
   go_upto_region 5 with (fail)
   go_quiet (fail)
   clear E1 E2 E3 E4;generalize cy + (x * (a : Int) + y * (b : Int)) = S at *;have hsv : S % 4294967296 = ((S % 4294967296).toNat : Int) := (Int.toNat_of_nonneg (Int.emod_nonneg S (by decide))).symm;have HSV := Lib.hid hsv;clear hsv
   go_wp2_with fail
   go_roundw
   case rel => exact ⟨k + 1, zs.set k (S % 4294967296).toNat, S / 4294967296, by omega, by go_num, rfl, HS.out, by rw [List.length_set]; exact Hzl.out, (hblk.drewN nq).set k HSV.out, (hmod.drewN nq).setCell _ _⟩
   case measure => simp [intOf]; omega
  ·obtain rfl : k = n := by omega
   have hv := HI.out.done Hm.out Hp.out Hzl.out HR.out HL.out;have HV := Lib.hid hv;have wz := HI.out.w32;clear hv
   go_wp2_with fail
   refine (int_trimN (xs := zs) Hzl.out (hblk.rd0 wz) hcz Hczm.out).mono ?_;rintro e w3 ⟨rfl, rfl⟩
   go_wp2_with fail
   go_ret
   exact ⟨zs, rfl, Hzl.out, wz, hblk, HV.out, hmod⟩
end
end
section
/-! a multiple is subtracted in place -/
structure SmInv (zs0 ys : List Nat) (q k : Nat) (zs : List Nat) (cy : Nat) : Prop where
 len : zs.length = zs0.length
 w32 : W32 zs
 hcy : cy < 4294967296
 rest : zs.drop k = zs0.drop k
 eq : val (zs.take k) + val (ys.take k) * q = val (zs0.take k) + 4294967296 ^ k * cy
theorem SmInv.start {zs0 ys : List Nat} {q : Nat} (h : W32 zs0) : SmInv zs0 ys q 0 zs0 0 := ⟨rfl, h, by omega, rfl, by simp [val]⟩
theorem SmInv.at_ {zs0 ys zs : List Nat} {q k cy : Nat} (h : SmInv zs0 ys q k zs cy) (hk : k < zs.length) : zs[k] = zs0.getD k 0 := by
 have := congrArg (fun l : List Nat => l.getD 0 0) h.rest;simp only [List.getD, List.getElem?_drop, Nat.add_zero] at this;rw [List.getElem?_eq_getElem hk] at this
 simpa [List.getD] using this
theorem sm_step_eq {p cy y q z d b a c e s lo hi : Nat} (h : a + c * q = e + p * cy) (hs : s = cy + y * q) (hp : p * lo + p * 4294967296 * hi = p * s) (he : d + lo = z + 4294967296 * b) :
  a + p * d + (c + p * y) * q = e + p * z + p * 4294967296 * (hi + b) := by
 subst hs;have e1 := congrArg (fun n => p * n) he;simp only [Nat.mul_add, <- Nat.mul_assoc] at e1 hp;rw [Nat.add_mul, Nat.mul_add (p * 4294967296)];omega
theorem SmInv.step {zs0 ys zs : List Nat} {q k cy d b : Nat} (h : SmInv zs0 ys q k zs cy) (hy : W32 ys) (hq : q < 4294967296) (hk : k < zs.length) (hky : k < ys.length) {s : Nat} (hs : s = cy + ys[k] * q) (hd : d < 4294967296) (_hb : b <= 1)
  (he : d + s % 4294967296 = zs[k] + 4294967296 * b) : SmInv zs0 ys q (k + 1) (zs.set k d) (s / 4294967296 + b) := by
 have h2 := mul_word (hy.get hky) hq;have h3 := h.hcy;refine ⟨by simpa using h.len, h.w32.set _ hd, ?_, ?_, ?_⟩
 ·generalize ys[k] * q = t at *
  omega
 ·rw [drop_set_succ, <- List.drop_drop, h.rest, List.drop_drop]
 ·rw [val_take_set _ hk, val_take_getD zs0, val_take_getD ys, <- h.at_ hk, getD_at hky, Nat.pow_succ]
  have hp := pow_carry k s;rw [Nat.pow_succ] at hp;exact sm_step_eq h.eq hs hp he
theorem SmInv.done {zs0 ys zs : List Nat} {q cy d b : Nat} (h : SmInv zs0 ys q ys.length zs cy) (hl : zs0.length = ys.length + 1) (he : d + cy = zs0.getD ys.length 0 + 4294967296 * b) :
  val (zs.set ys.length d) + val ys * q = val zs0 + 4294967296 ^ (ys.length + 1) * b := by
 have hk : ys.length < zs.length := by have := h.len; omega
 have e := h.eq;rw [List.take_of_length_le (l := ys) (Nat.le_refl _)] at e;have e1 := val_take_set (zs := zs) (k := ys.length) d hk;rw [List.take_of_length_le (by simp; have := h.len; omega)] at e1;have e2 := val_take_getD zs0 ys.length;rw [List.take_of_length_le (by omega)] at e2;have e3 := congrArg (fun n => 4294967296 ^ ys.length * n) he;simp only [Nat.mul_add] at e3;rw [e1, e2, Nat.pow_succ, Nat.mul_assoc];omega
/-! the estimate of a word: v1 and v2 are the two first words of the divisor, top the two first words of the part, u2 the third; E is the unit of the words that follow. -/
structure Est (E v1 v2 u2 top D P : Nat) : Prop where
 d1 : E * (v2 + 4294967296 * v1) <= D
 d2 : D < E * (v2 + 4294967296 * v1) + E
 p1 : E * (u2 + 4294967296 * top) <= P
 p2 : P < E * (u2 + 4294967296 * top) + E
 hv2 : v2 < 4294967296
 hu2 : u2 < 4294967296
 hv : 2147483648 <= v1
 hv1 : v1 < 4294967296
 lt : P < 4294967296 * D
section
variable {E v1 v2 u2 top D P q r : Nat}
theorem Est.first (h : Est E v1 v2 u2 top D P) : P < (top / v1 + 1) * D := by
 have hq : top + 1 <= (top / v1 + 1) * v1 := by
  have := Nat.div_add_mod top v1;have h2 := Nat.mod_lt top (show 0 < v1 by have := h.hv; omega);rw [Nat.add_mul, Nat.mul_comm (top / v1)];omega
 have h1 : E * (u2 + 4294967296 * top) + E <= E * (4294967296 * ((top / v1 + 1) * v1)) := by
  have : u2 + 4294967296 * top + 1 <= 4294967296 * ((top / v1 + 1) * v1) := by have := h.hu2; omega
  have := Nat.mul_le_mul_left E this
  rwa [Nat.mul_add, Nat.mul_one] at this
 have h2 : E * (4294967296 * ((top / v1 + 1) * v1)) <= (top / v1 + 1) * D := by
  have e : E * (4294967296 * ((top / v1 + 1) * v1)) = (top / v1 + 1) * (E * (4294967296 * v1)) := by
   rw [<- Nat.mul_assoc 4294967296, Nat.mul_comm 4294967296, Nat.mul_assoc, Nat.mul_left_comm]
  rw [e];refine Nat.mul_le_mul_left _ (Nat.le_trans ?_ h.d1);exact Nat.mul_le_mul_left _ (by omega)
 have := h.p2;omega
theorem Est.big (h : Est E v1 v2 u2 top D P) (hq : 4294967296 <= q) : P < (q - 1 + 1) * D := by
 rw [show q - 1 + 1 = q by omega];have := Nat.mul_le_mul_right D hq;have := h.lt;omega
theorem Est.over (h : Est E v1 v2 u2 top D P) (hr : q * v1 + r = top) (hg : r * 4294967296 + u2 < q * v2) : P < (q - 1 + 1) * D := by
 have hq0 : 0 < q := by
  rcases Nat.eq_zero_or_pos q with rfl | h
  ·rw [Nat.zero_mul] at hg; omega
  ·exact h
 rw [show q - 1 + 1 = q by omega]
 have h1 : E * (u2 + 4294967296 * top) + E <= E * (q * v2 + 4294967296 * (q * v1)) := by
  have : u2 + 4294967296 * top + 1 <= q * v2 + 4294967296 * (q * v1) := by rw [<- hr]; omega
  have := Nat.mul_le_mul_left E this
  rwa [Nat.mul_add, Nat.mul_one] at this
 have h2 : E * (q * v2 + 4294967296 * (q * v1)) <= q * D := by
  have e : E * (q * v2 + 4294967296 * (q * v1)) = q * (E * (v2 + 4294967296 * v1)) := by
   rw [Nat.mul_left_comm 4294967296, <- Nat.mul_add, Nat.mul_left_comm]
  rw [e];exact Nat.mul_le_mul_left _ h.d1
 have := h.p2;omega
theorem Est.last (h : Est E v1 v2 u2 top D P) (hr : q * v1 + r = top) (hq : q < 4294967296) (hg : q * v2 <= r * 4294967296 + u2) : q * D <= P + D := by
 have h1 : q * D <= q * (E * (v2 + 4294967296 * v1)) + q * E := by
  rw [<- Nat.mul_add];exact Nat.mul_le_mul_left _ (Nat.le_of_lt h.d2)
 have h2 : q * (E * (v2 + 4294967296 * v1)) <= E * (u2 + 4294967296 * top) := by
  have e : q * (E * (v2 + 4294967296 * v1)) = E * (q * v2 + 4294967296 * (q * v1)) := by
   rw [Nat.mul_left_comm 4294967296, <- Nat.mul_add, Nat.mul_left_comm]
  rw [e];exact Nat.mul_le_mul_left _ (by rw [<- hr]; omega)
 have h3 : q * E <= D := by
  have : q * E <= E * (v2 + 4294967296 * v1) := by
   rw [Nat.mul_comm];exact Nat.mul_le_mul_left _ (by have := h.hv; omega)
  have := h.d1;omega
 have := h.p1;omega
theorem Est.out (h : Est E v1 v2 u2 top D P) (hr : q * v1 + r = top) (hg : 4294967296 <= r) : q < 4294967296 /\ q * v2 <= r * 4294967296 + u2 := by
 have hE : 0 < E := by
  rcases Nat.eq_zero_or_pos E with h0 | h0
  ·have := h.d2; rw [h0] at this; have := h.d1; rw [h0] at this; omega
  ·exact h0
 have h1 : E * (u2 + 4294967296 * top) < E * (4294967296 * (v2 + 4294967296 * v1 + 1)) := by
  refine Nat.lt_of_le_of_lt h.p1 (Nat.lt_of_lt_of_le h.lt ?_);rw [Nat.mul_left_comm];refine Nat.mul_le_mul_left _ ?_;rw [Nat.mul_add, Nat.mul_one];exact Nat.le_of_lt h.d2
 have h2 := Nat.lt_of_mul_lt_mul_left h1;have hv2 := h.hv2;have hv := h.hv
 have hq : q < 4294967296 := by
  rcases Nat.lt_or_ge q 4294967296 with hl | hl
  ·exact hl
  ·have := Nat.mul_le_mul_right v1 hl
   omega
 refine ⟨hq, ?_⟩;have h3 : q * v2 <= 4294967296 * 4294967296 := Nat.mul_le_mul (by omega) (by omega);omega
end
theorem Est.of {ps ds : List Nat} {n : Nat} (hp : W32 ps) (hd : W32 ds) (hpl : ps.length = n + 2 + 1) (hdl : ds.length = n + 2) (hv : 2147483648 <= ds[n + 1]) (hlt : val ps < 4294967296 * val ds) :
  Est (4294967296 ^ n) ds[n + 1] ds[n] ps[n] (ps[n + 1] + 4294967296 * ps[n + 2]) (val ds) (val ps) := by
 have d1 := val_take_succ ds n (by omega);have d2 := val_take_succ ds (n + 1) (by omega);rw [List.take_of_length_le (by omega)] at d2;have p1 := val_take_succ ps n (by omega);have p2 := val_take_succ ps (n + 1) (by omega);have p3 := val_take_succ ps (n + 2) (by omega);rw [List.take_of_length_le (by omega)] at p3;have ld := val_lt (hd.take n);have lp := val_lt (hp.take n);rw [List.length_take, Nat.min_eq_left (by omega)] at ld lp;have hv2 := hd.get (k := n) (by omega);have hv1 := hd.get (k := n + 1) (by omega);have hu2 := hp.get (k := n) (by omega)
 have e1 : val ds = val (ds.take n) + 4294967296 ^ n * (ds[n] + 4294967296 * ds[n + 1]) := by
  rw [d2, d1, Nat.mul_add, Nat.pow_succ, Nat.mul_assoc]; omega
 have e2 : val ps = val (ps.take n) + 4294967296 ^ n * (ps[n] + 4294967296 * (ps[n + 1] + 4294967296 * ps[n + 2])) := by
  rw [p3, p2, p1];simp only [Nat.pow_succ];generalize 4294967296 ^ n = p
  grind
 exact ⟨by omega, by omega, by omega, by omega, hv2, hu2, hv, hv1, hlt⟩
theorem Est.ofn {ps ds : List Nat} {n : Nat} (hp : W32 ps) (hd : W32 ds) (h2 : 2 <= n) (hpl : ps.length = n + 1) (hdl : ds.length = n) (hv : 2147483648 <= ds[n - 1]) (hlt : val ps < 4294967296 * val ds) :
  Est (4294967296 ^ (n - 2)) ds[n - 1] ds[n - 2] ps[n - 2] (ps[n] * 4294967296 + ps[n - 1]) (val ds) (val ps) := by
 obtain ⟨k, rfl⟩ : ∃ k, n = k + 2 := ⟨n - 2, by omega⟩;have h := Est.of hp hd hpl hdl hv hlt;have e : ps[k + 2] * 4294967296 + ps[k + 1] = ps[k + 1] + 4294967296 * ps[k + 2] := by omega
 rw [<- e] at h;exact h
/-! the rounds of the division -/
structure LInv (D N L K i : Nat) (R Q : List Nat) : Prop where
 rl : R.length = L
 rw : W32 R
 ql : Q.length = K
 qw : W32 Q
 lt : val (R.drop i) < D
 eq : val R + 4294967296 ^ i * val (Q.drop i) * D = N
theorem val_drop_succ (xs : List Nat) (i : Nat) (h : i < xs.length) : val (xs.drop i) = xs[i] + 4294967296 * val (xs.drop (i + 1)) := by
 rw [List.drop_eq_getElem_cons h]; rfl
theorem LInv.part {D N L K i n : Nat} {R Q : List Nat} (h : LInv D N L K (i + 1) R Q) (hi : i < K) (hL : n + K = L) (hD : D < 4294967296 ^ n) :
  val (R.drop (i + n + 1)) = 0 /\ val ((R.drop i).take (n + 1)) = val (R.drop i) /\ val ((R.drop i).take (n + 1)) < 4294967296 * D := by
 have hr := h.rl;have e1 := val_drop_succ R i (by omega);have hx := h.rw.get (k := i) (by omega);have hlt := h.lt;have h1 : val (R.drop i) < 4294967296 * D := by omega
 have e2 := val_split (R.drop i) (n + 1) (by rw [List.length_drop]; omega);rw [List.drop_drop, <- Nat.add_assoc, Nat.pow_succ] at e2
 have h0 : val (R.drop (i + n + 1)) = 0 := by
  rcases Nat.eq_zero_or_pos (val (R.drop (i + n + 1))) with h0 | h0
  ·exact h0
  ·have : 4294967296 ^ (n + 1) * 1 <= 4294967296 ^ (n + 1) * val (R.drop (i + n + 1)) := Nat.mul_le_mul_left _ h0
   rw [Nat.pow_succ] at this;omega
 rw [h0, Nat.mul_zero] at e2;exact ⟨h0, by omega, by omega⟩
theorem LInv.step {D N L K i n w : Nat} {R Q ps : List Nat} (h : LInv D N L K (i + 1) R Q) (hi : i < K) (hL : n + K = L) (hD : D < 4294967296 ^ n) (hps : ps.length = n + 1) (hpw : W32 ps) (hw : w < 4294967296)
  (hlt : val ps < D) (he : val ps + w * D = val ((R.drop i).take (n + 1))) : LInv D N L K i (R.take i ++ ps ++ R.drop (i + n + 1)) (Q.set i w) := by
 obtain ⟨h0, h1, _⟩ := h.part hi hL hD;have hr := h.rl;have hq := h.ql;have htl : (R.take i).length = i := by rw [List.length_take]; omega
 have hd : val ((R.take i ++ ps ++ R.drop (i + n + 1)).drop i) = val ps := by
  rw [List.append_assoc, List.drop_append_of_le_length (by omega), List.drop_of_length_le (by omega), List.nil_append, val_append, h0, Nat.mul_zero, Nat.add_zero]
 refine ⟨?_, ((h.rw.take _).append hpw).append (h.rw.drop _), by simpa using hq, h.qw.set _ hw, by rw [hd]; exact hlt, ?_⟩
 ·simp only [List.length_append, htl, hps, List.length_drop, hr]; omega
 ·have e := h.eq
  have eR := val_split R i (by omega)
  have e2 : val (R.take i ++ ps ++ R.drop (i + n + 1)) = val (R.take i) + 4294967296 ^ i * val ps := by
   rw [val_append, h0, Nat.mul_zero, Nat.add_zero, val_append, htl]
  have e3 : val ((Q.set i w).drop i) = w + 4294967296 * val (Q.drop (i + 1)) := by
   rw [val_drop_succ _ i (by simp; omega), drop_set_succ];simp
  rw [e2, e3, <- e, eR, <- h1, <- he, Nat.pow_succ];generalize 4294967296 ^ i = p;generalize val (Q.drop (i + 1)) = t;rw [Nat.mul_add p w, Nat.add_mul, Nat.mul_add p (val ps), <- Nat.mul_assoc p w D, <- Nat.mul_assoc p 4294967296 t];omega
theorem LInv.start {a b s la lb : Nat} {R : List Nat} {Q : List Nat} (hR : R.length = la + 1) (hRw : W32 R) (hQ : Q = List.replicate (la - lb + 1) 0) (hv : val R = a * 2 ^ s) (hab : lb <= la) (h1 : 0 < lb) (ha : a < 4294967296 ^ la) (hb : 4294967296 ^ (lb - 1) <= b) :
  LInv (b * 2 ^ s) (a * 2 ^ s) (la + 1) (la - lb + 1) (la - lb + 1) R Q := by
 subst hQ;refine ⟨hR, hRw, by simp, W32.replicate _, ?_, ?_⟩
 ·rw [val_drop hRw, hv]
  refine Nat.div_lt_of_lt_mul ?_;rw [<- Nat.mul_assoc];refine Nat.mul_lt_mul_of_pos_right ?_ (Nat.two_pow_pos s);refine Nat.lt_of_lt_of_le ha ?_;have e : 4294967296 ^ la = 4294967296 ^ (la - lb + 1) * 4294967296 ^ (lb - 1) := by rw [<- Nat.pow_add]; congr 1; omega
  rw [e];exact Nat.mul_le_mul_left _ hb
 ·rw [List.drop_of_length_le (by simp), hv]
  simp [val]
theorem LInv.done {a b s L K : Nat} {R Q : List Nat} (h : LInv (b * 2 ^ s) (a * 2 ^ s) L K 0 R Q) : val Q = a / b /\ val R / 2 ^ s = a % b := by
 have hp := Nat.two_pow_pos s;have e := h.eq;have hl := h.lt;rw [List.drop_zero] at e hl;rw [Nat.pow_zero, Nat.one_mul] at e;have hb : 0 < b * 2 ^ s := by omega
 have e1 : val Q = a * 2 ^ s / (b * 2 ^ s) := by
  rw [<- e, Nat.add_mul_div_right _ _ hb, Nat.div_eq_of_lt hl, Nat.zero_add]
 have e2 : val R = a * 2 ^ s % (b * 2 ^ s) := by
  rw [<- e, Nat.add_mul_mod_self_right, Nat.mod_eq_of_lt hl]
 refine ⟨by rw [e1, Nat.mul_div_mul_right _ _ hp], ?_⟩;rw [e2, Nat.mul_mod_mul_right, Nat.mul_div_cancel _ hp]
theorem sub_fit {P D w p1 : Nat} (h1 : P < (w + 1) * D) (h2 : p1 + D * w = P) : p1 < D /\ p1 + w * D = P := by
 rw [Nat.add_mul, Nat.one_mul] at h1;rw [Nat.mul_comm D] at h2;omega
theorem sub_back {P D w p1 p2 M c : Nat} (h1 : P < w * D) (h2 : w * D <= P + D) (h3 : p1 + D * w = P + M) (h4 : p2 + M * c = p1 + D) (hc : c <= 1) (h5 : p2 < M) : 0 < w /\ p2 < D /\ p2 + (w - 1) * D = P := by
 have hw : 0 < w := by
  rcases Nat.eq_zero_or_pos w with rfl | h
  ·rw [Nat.zero_mul] at h1; omega
  ·exact h
 obtain ⟨v, rfl⟩ : ∃ v, w = v + 1 := ⟨w - 1, by omega⟩;rw [Nat.mul_comm D] at h3;rw [Nat.add_mul, Nat.one_mul] at h1 h2 h3;rw [Nat.add_sub_cancel];generalize v * D = T at *;obtain rfl | rfl : c = 0 \/ c = 1 := by omega
 ·rw [Nat.mul_zero] at h4; omega
 ·rw [Nat.mul_one] at h4; omega
/-! division by a word -/
structure DwInv (xs zs : List Nat) (v i r : Nat) : Prop where
 len : zs.length = xs.length
 w32 : W32 zs
 lt : r < v
 eq : val (xs.drop i) = val (zs.drop i) * v + r
theorem DwInv.start {xs zs : List Nat} {v : Nat} (hl : zs.length = xs.length) (hw : W32 zs) (hv : 0 < v) : DwInv xs zs v xs.length 0 := by
 refine ⟨hl, hw, hv, ?_⟩;rw [List.drop_of_length_le (Nat.le_refl _), List.drop_of_length_le (by omega)];simp [val]
theorem dw_lt {v r x : Nat} (hr : r < v) (hx : x < 4294967296) : (r * 4294967296 + x) / v < 4294967296 := by
 rw [Nat.div_lt_iff_lt_mul (by omega)];have : (r + 1) * 4294967296 <= v * 4294967296 := Nat.mul_le_mul_right _ hr;rw [Nat.mul_comm 4294967296];omega
theorem DwInv.step {xs zs : List Nat} {v i r : Nat} (h : DwInv xs zs v (i + 1) r) (hx : W32 xs) (hi : i < xs.length) :
  DwInv xs (zs.set i ((r * 4294967296 + xs[i]) / v)) v i ((r * 4294967296 + xs[i]) % v) := by
 have hl := h.len;have hlt := h.lt;have hq := dw_lt hlt (hx.get hi);refine ⟨by simpa using hl, h.w32.set _ hq, Nat.mod_lt _ (by omega), ?_⟩;rw [val_drop_succ xs i hi, val_drop_succ _ i (by simp; omega), drop_set_succ, h.eq];simp only [List.getElem_set_self];have e := Nat.div_add_mod (r * 4294967296 + xs[i]) v;rw [Nat.mul_comm v] at e;rw [Nat.add_mul, Nat.mul_assoc];omega
theorem DwInv.done {xs zs : List Nat} {v r : Nat} (h : DwInv xs zs v 0 r) : val zs = val xs / v /\ r = val xs % v := by
 have e := h.eq;have hl := h.lt;rw [List.drop_zero, List.drop_zero] at e;rw [e, Nat.mul_comm, Nat.mul_add_div (by omega), Nat.div_eq_of_lt hl, Nat.mul_add_mod, Nat.mod_eq_of_lt hl];exact ⟨rfl, rfl⟩
end
section
open Go.RowKit
theorem high_or {a b : Nat} (ha : a < 4294967296) (hb : b < 4294967296) : bits .or .u64 ((b : Int) * 4294967296) (a : Int) = ((b * 4294967296 + a : Nat) : Int) := by
 have e : (b : Int) * 4294967296 = ((b * 4294967296 : Nat) : Int) := by rw [Int.natCast_mul]; rfl
 rw [e];rw [u64_or_nat (b * 4294967296) a (by omega) (by omega)];have := Nat.two_pow_add_eq_or_of_lt (i := 32) (show a < 2 ^ 32 by omega) b;rw [Nat.mul_comm b];exact congrArg Int.ofNat this.symm
theorem wrap_u64_nat {a : Nat} (h : a < 18446744073709551616) : IntKind.u64.wrap (a : Int) = (a : Int) := by rw [IntKind.wrap_u64]; omega
theorem est_dec {q r v T : Nat} (h : q * v + r = T) (hq : 1 <= q) : (q - 1) * v + (r + v) = T := by
 obtain ⟨p, rfl⟩ : ∃ p, q = p + 1 := ⟨q - 1, by omega⟩;rw [Nat.succ_mul] at h;rw [Nat.add_sub_cancel];omega
theorem est_ret {q : Nat} {X : Int} (h : q < 4294967296) (hX : X = (q : Int)) : Ending.returned (.int .u32 (X % 4294967296)) = .returned (.int .u32 (q : Int)) := by
 subst hX;rw [show ((q : Nat) : Int) % 4294967296 = (q : Int) by omega]
theorem est_ret2 {q : Nat} {X : Int} (hX : X = (q : Int)) : Ending.returned (.int .u32 X) = .returned (.int .u32 (q : Int)) := by rw [hX]
section
variable {A B : Option Addr} {c d n m : Nat} {xs ys : List Nat} {w : World} {s t : Bool}
theorem int_divideByWord {g cz v : Nat} {zs0 : List Nat} (hblk0 : BlkN w g zs0) (hn : zs0.length = n) (hw : W32 zs0) (hv0 : 0 < v) (hv : v < 4294967296) (h1 : n <= 1000000) :
  Calls Tryz.prog 170 #[.slice (some ⟨g, 0, none⟩) n cz, .int .u32 (v : Int)] w fun e w' => ∃ zs, e = .returned (.int .u32 ((val zs0 % v : Nat) : Int)) /\ zs.length = n /\ W32 zs /\ BlkN w' g zs /\ val zs = val zs0 / v /\ Mod w w' g := by
 subst hn;have hz0 : ((v : Int) == 0) = false := by rw [beq_eq_false_iff_ne]; omega
 have hp1 : (1 : Int) <= (v : Int) := by omega
 go_enter Tryz.func170, Tryz.ntmps170
 go_wp2
 go_loopw [5, 6] (fun r i wr => ∃ (k p : Nat) (zs : List Nat), k <= zs0.length /\ i = .int .i64 ((k : Int) - 1) /\ r = .int .u64 (p : Int) /\ DwInv zs0 zs v k p /\ zs.take k = zs0.take k /\ BlkN wr g zs /\ Mod w wr g) (fun _ i _ => (intOf i + 1).toNat)
 case atStart => exact ⟨zs0.length, 0, zs0, by omega, rfl, rfl, DwInv.start rfl hw hv0, rfl, hblk0, Mod.refl _ _⟩
 case round =>
  obtain ⟨k, p, zs, hk, rfl, rfl, hinv, htk, hblk, hmod⟩ := hrel;have hpv := hinv.lt;have hzl := hinv.len
  rcases k with _ | j
  ·have Hd := Lib.hid hinv.done
   rw [show (((0 : Nat) : Int) - 1) = -1 from rfl];have hp32 : p < 4294967296 := by omega
   go_wp2
   go_ret
   exact ⟨zs, by rw [Hd.out.2]; rfl, hzl, hinv.w32, hblk, Hd.out.1, hmod⟩
  ·rw [show (((j + 1 : Nat) : Int) - 1) = (j : Int) by omega]
   have hc := hblk.cell (i := j) (by omega)
   have hzj : zs[j]'(by omega) = zs0[j]'(by omega) := by
    have := congrArg (fun l : List Nat => l[j]?) htk
    simpa [List.getElem?_take, List.getElem?_eq_getElem, show j < zs.length by omega, show j < zs0.length by omega] using this
   rw [hzj] at hc;have hst := hinv.step hw (by omega)
   have htk2 : (zs.set j ((p * 4294967296 + zs0[j]'(by omega)) / v)).take j = zs0.take j := by
    rw [take_set_self];have := congrArg (fun l : List Nat => l.take j) htk
    simpa [List.take_take] using this
   have hx := hw.get (k := j) (by omega);have hq := dw_lt hpv hx;have hor := high_or (b := p) hx (by omega);have hnl : p * 4294967296 + zs0[j]'(by omega) < 18446744073709551616 := by omega
   generalize zs0[j]'(by omega) = X at *;generalize p * 4294967296 + X = NV at *;have hr := Nat.mod_lt NV hv0;have hq' : (NV : Int).tdiv (v : Int) = ((NV / v : Nat) : Int) := rfl;have hr' : (NV : Int).tmod (v : Int) = ((NV % v : Nat) : Int) := rfl;generalize NV / v = U at *;generalize NV % v = V at *;have hwu := wrap_u64_nat (a := U) (by omega);have hwv := wrap_u64_nat (a := V) (by omega);have hfz := hblk.frozen j;have Hst := Lib.hid hst;have Htk := Lib.hid htk2;clear hst htk2 htk hzj hinv
   go_wp2
   go_roundw
   case rel => exact ⟨j, V, _, by omega, rfl, rfl, Hst.out, Htk.out, hblk.set j rfl, hmod.setCell _ _⟩
   case measure => simp [intOf]
theorem int_estimate {ps ds : List Nat} (hpl : ps.length = n + 1) (hdl : ds.length = n) (h2 : 2 <= n) (hp : Rd w A ps) (hd : Rd w B ds) (hv : 2147483648 <= ds[n - 1]'(by omega)) (hlt : val ps < 4294967296 * val ds) (h1 : n <= 100000) :
  Calls Tryz.prog 178 #[.slice A (n + 1) c, .slice B n d] w fun e w' => ∃ q : Nat, e = .returned (.int .u32 (q : Int)) /\ q < 4294967296 /\ val ps < (q + 1) * val ds /\ q * val ds <= val ps + val ds /\ Ext w w' := by
 have hE := Est.ofn hp.1 hd.1 h2 hpl hdl hv hlt;obtain ⟨b1, o1, rfl, hb1, c0⟩ := hp.at_ (i := n) (by omega);obtain ⟨b1', o1', he, _, c1⟩ := hp.at_ (i := n - 1) (by omega)
 injection he with he
 injection he with he1 he2
 subst he1; subst he2;obtain ⟨b1', o1', he, _, c2⟩ := hp.at_ (i := n - 2) (by omega)
 injection he with he
 injection he with he1 he2
 subst he1; subst he2;obtain ⟨b2, o2, rfl, hb2, d1⟩ := hd.at_ (i := n - 1) (by omega);obtain ⟨b2', o2', he, _, d2⟩ := hd.at_ (i := n - 2) (by omega)
 injection he with he
 injection he with he1 he2
 subst he1; subst he2;have hu0 := hp.1.get (k := n) (by omega);have hu1 := hp.1.get (k := n - 1) (by omega);have hu2 := hp.1.get (k := n - 2) (by omega);have hv1 := hd.1.get (k := n - 1) (by omega);have hv2 := hd.1.get (k := n - 2) (by omega);have hor := high_or hu1 hu0;have hnl : ps[n]'(by omega) * 4294967296 + ps[n - 1]'(by omega) < 18446744073709551616 := by omega
 generalize ps[n]'(by omega) = U0 at *;generalize ps[n - 1]'(by omega) = U1 at *;generalize ps[n - 2]'(by omega) = U2 at *;generalize ds[n - 1]'(by omega) = V1 at *;generalize ds[n - 2]'(by omega) = V2 at *;generalize U0 * 4294967296 + U1 = T at *;have hz0 : ((V1 : Int) == 0) = false := by rw [beq_eq_false_iff_ne]; omega
 have hp1 : (1 : Int) <= (V1 : Int) := by omega
 have hfirst := hE.first;have hdm : T / V1 * V1 + T % V1 = T := by rw [Nat.mul_comm]; exact Nat.div_add_mod T V1
 have hr := Nat.mod_lt T (show 0 < V1 by omega);have hq' : (T : Int).tdiv (V1 : Int) = ((T / V1 : Nat) : Int) := rfl;have hr' : (T : Int).tmod (V1 : Int) = ((T % V1 : Nat) : Int) := rfl;generalize T / V1 = Q at *;generalize T % V1 = R at *;generalize val ps = P at *;generalize val ds = D at *
 have hQ : Q < 18446744073709551616 := by
  have : Q * 1 <= Q * V1 := Nat.mul_le_mul_left _ (by omega);omega
 have hwu := wrap_u64_nat hQ;have hwv := wrap_u64_nat (a := R) (by omega);have Hpl := Lib.hid hpl;have Hdl := Lib.hid hdl;have Hfirst := Lib.hid hfirst;have Hdm := Lib.hid hdm;have HE := Lib.hid hE;clear hpl hdl hfirst hdm hE hlt
 go_enter Tryz.func178, Tryz.ntmps178
 go_wp2
 go_quiet (fail)
 go_wp2
 go_quiet (fail)
 go_wp2
 go_quiet (fail)
 go_wp2
 go_loopw [9, 10] (fun x y wr => ∃ (q r : Nat), x = .int .u64 (q : Int) /\ y = .int .u64 (r : Int) /\ P < (q + 1) * D /\ q * V1 + r = T /\ r < 4294967296 /\ Ext w wr) (fun _ y _ => 4294967296 - (intOf y).toNat)
 case atStart => exact ⟨Q, R, rfl, rfl, Hfirst.out, Hdm.out, by omega, by first | exact (Ext.refl w).drewN _ | exact ((Ext.refl w).drewN _).drewN _ | exact (((Ext.refl w).drewN _).drewN _).drewN _⟩
 case round =>
  obtain ⟨q, r, rfl, rfl, hP, hT, hr32, hext⟩ := hrel;have cu := hext.cellv c2
  have hql : q <= T := by
   have : q * 1 <= q * V1 := Nat.mul_le_mul_left _ (by omega);omega
  by_cases hbig : 4294967296 <= q
  ·have d1 : decide ((4294967296 : Int) <= (q : Int)) = true := decide_eq_true (by omega)
   have HP' := Lib.hid (HE.out.big hbig);have hq0 : 1 <= (q : Int) := by omega
   have HT' := Lib.hid (est_dec hT (by omega));clear hP hT
   by_cases hout : 4294967296 <= r + V1
   ·have d2 : decide ((4294967296 : Int) <= (r : Int) + (V1 : Int)) = true := decide_eq_true (by omega)
    have Hout := Lib.hid (HE.out.out HT'.out hout)
    go_wp2
    go_ret
    exact ⟨q - 1, by first | exact est_ret Hout.out.1 (by omega) | exact est_ret2 (by omega), Hout.out.1, HP'.out, HE.out.last HT'.out Hout.out.1 Hout.out.2, hext⟩
   ·have d2 : decide ((4294967296 : Int) <= (r : Int) + (V1 : Int)) = false := decide_eq_false (by omega)
    go_wp2
    go_roundw
    case rel => exact ⟨q - 1, r + V1, congrArg (Value.int .u64) (by omega), congrArg (Value.int .u64) (by omega), HP'.out, HT'.out, by omega, hext⟩
    case measure => simp [intOf]; omega
  ·have d1 : decide ((4294967296 : Int) <= (q : Int)) = false := decide_eq_false (by omega)
   have hor2 := high_or (b := r) hu2 hr32;have hM : (q : Int) * (V2 : Int) = ((q * V2 : Nat) : Int) := (Int.natCast_mul q V2).symm;have hMl := mul_word (x := q) (w := V2) (by omega) hv2;have hover : r * 4294967296 + U2 < q * V2 -> P < (q - 1 + 1) * D := fun h => HE.out.over hT h
   have hlast : q * V2 <= r * 4294967296 + U2 -> q * D <= P + D := fun h => HE.out.last hT (by omega) h
   have hq00 : q = 0 -> q * V2 = 0 := fun h => by rw [h, Nat.zero_mul]
   have hN2l : r * 4294967296 + U2 < 18446744073709551616 := by omega
   generalize q * V2 = M at *;generalize r * 4294967296 + U2 = N2 at *;have Hlast := Lib.hid hlast;have hwm := wrap_u64_nat (a := M) (by omega)
   by_cases hgt : N2 < M
   ·have HP' := Lib.hid (hover hgt)
    have d3 : decide ((N2 : Int) < (M : Int)) = true := decide_eq_true (by omega);clear hover hlast;have hq0 : 1 <= (q : Int) := by omega
    have HT' := Lib.hid (est_dec hT (by omega));clear hP hT
    by_cases hout : 4294967296 <= r + V1
    ·have d2 : decide ((4294967296 : Int) <= (r : Int) + (V1 : Int)) = true := decide_eq_true (by omega)
     have Hout := Lib.hid (HE.out.out HT'.out hout)
     go_wp2
     go_ret
     exact ⟨q - 1, by first | exact est_ret Hout.out.1 (by omega) | exact est_ret2 (by omega), Hout.out.1, HP'.out, HE.out.last HT'.out Hout.out.1 Hout.out.2, hext⟩
    ·have d2 : decide ((4294967296 : Int) <= (r : Int) + (V1 : Int)) = false := decide_eq_false (by omega)
     go_wp2
     go_roundw
     case rel => exact ⟨q - 1, r + V1, congrArg (Value.int .u64) (by omega), congrArg (Value.int .u64) (by omega), HP'.out, HT'.out, by omega, hext⟩
     case measure => simp [intOf]; omega
   ·have d3 : decide ((N2 : Int) < (M : Int)) = false := decide_eq_false (by omega)
    have HP := Lib.hid hP;clear hover hlast hP hT
    go_wp2
    go_ret
    exact ⟨q, by first | exact est_ret (by omega) rfl | exact est_ret2 rfl, by omega, HP.out, Hlast.out (by omega), hext⟩
end
theorem sm_low {z s : Nat} {S : Int} (hS : S = s) (hz : z < 4294967296) (h : ¬ s % 4294967296 <= z) : IntKind.u64.wrap ((z : Int) - S % 4294967296) % 4294967296 = ((z + 4294967296 - s % 4294967296 : Nat) : Int) := by
 subst hS; rw [IntKind.wrap_u64]; omega
theorem sm_top {z s : Nat} {S : Int} (hS : S = s) (hz : z < 4294967296) (h : ¬ s % 4294967296 <= z) : IntKind.u64.wrap ((z : Int) - S % 4294967296) / 9223372036854775808 = 1 := by
 subst hS; rw [IntKind.wrap_u64]; omega
theorem sm_low0 {z s : Nat} {S : Int} (hS : S = s) (hz : z < 4294967296) (h : s % 4294967296 <= z) : IntKind.u64.wrap ((z : Int) - S % 4294967296) % 4294967296 = ((z - s % 4294967296 : Nat) : Int) := by
 subst hS; rw [IntKind.wrap_u64]; omega
theorem sm_car0 {z s : Nat} {S : Int} (hS : S = s) (hz : z < 4294967296) (h : s % 4294967296 <= z) (hs : s <= 18446744069414584320) : IntKind.u64.wrap (S / 4294967296 + IntKind.u64.wrap ((z : Int) - S % 4294967296) / 9223372036854775808) = ((s / 4294967296 + 0 : Nat) : Int) := by
 subst hS; rw [IntKind.wrap_u64, IntKind.wrap_u64]; omega
theorem sm_car1 {z s : Nat} {S : Int} (hS : S = s) (hz : z < 4294967296) (h : ¬ s % 4294967296 <= z) (hs : s <= 18446744069414584320) : IntKind.u64.wrap (S / 4294967296 + IntKind.u64.wrap ((z : Int) - S % 4294967296) / 9223372036854775808) = ((s / 4294967296 + 1 : Nat) : Int) := by
 rw [sm_top hS hz h]; subst hS; rw [IntKind.wrap_u64]; omega
theorem sm_end_low {z c : Nat} (hz : z < 4294967296) (hc : c < 4294967296) (h : ¬ c <= z) : IntKind.u64.wrap ((z : Int) - (c : Int)) % 4294967296 = ((z + 4294967296 - c : Nat) : Int) := by
 rw [IntKind.wrap_u64]; omega
theorem sm_end_top {z c : Nat} (hz : z < 4294967296) (hc : c < 4294967296) (h : ¬ c <= z) : IntKind.u64.wrap ((z : Int) - (c : Int)) / 9223372036854775808 = 1 := by
 rw [IntKind.wrap_u64]; omega
section
variable {A B : Option Addr} {c d m : Nat} {xs ys : List Nat} {w : World}
theorem int_subtractMultiple {g off n cz : Nat} {pre zs0 post : List Nat} {q : Nat} (hblk0 : BlkN w g (pre ++ zs0 ++ post)) (hoff : pre.length = off) (hn : zs0.length = n) (hw : W32 zs0) (hy : Rd w B ys) (hm : ys.length = m) (hap : Apart B ys g)
  (hl : m + 1 = n) (hq : q < 4294967296) (h1 : n <= 1000000) (hcz : n <= cz) (_hczm : cz <= maxLen) :
  Calls Tryz.prog 179 #[.slice (some ⟨g, off, none⟩) n cz, .slice B m d, .int .u32 (q : Int)] w fun e w' => ∃ (zs : List Nat) (b : Nat), e = .returned (.bool (decide (b = 1))) /\ b <= 1 /\ zs.length = n /\ W32 zs /\ BlkN w' g (pre ++ zs ++ post) /\ val zs + val ys * q = val zs0 + 4294967296 ^ n * b /\ Mod w w' g := by
 have Hoff := Lib.hid hoff;have Hn := Lib.hid hn;have Hm := Lib.hid hm;clear hoff hn hm;have hmcz : m <= cz := by omega
 go_enter Tryz.func179, Tryz.ntmps179
 go_wp2
 go_loopw [7, 19] (fun cr i wr => ∃ (k : Nat) (zs : List Nat) (cy : Nat), k <= m /\ i = .int .i64 (k : Int) /\ cr = .int .u64 (cy : Int) /\ SmInv zs0 ys q k zs cy /\ BlkN wr g (pre ++ zs ++ post) /\ Mod w wr g) (fun _ i _ => m - (intOf i).toNat)
 case atStart => exact ⟨0, zs0, 0, by omega, rfl, rfl, SmInv.start hw, hblk0, Mod.refl _ _⟩
 case round =>
  obtain ⟨k, zs, cy, hk, rfl, rfl, hinv, hblk, hmod⟩ := hrel;have hcy := hinv.hcy;have hzl : n <= zs.length := by rw [hinv.len, Hn.out]; omega
  have hzl2 : zs.length <= n := by rw [hinv.len, Hn.out]; omega
  have hyl : m <= ys.length := by rw [Hm.out]; omega
  have hyl2 : ys.length <= m := by rw [Hm.out]; omega
  by_cases hlt : k < m
  ·obtain ⟨b, off', rfl, hb, hc1⟩ := (hy.mod hmod hap).at_ (i := k) (by omega)
   have hyk := hy.1.get (k := k) (by omega);obtain ⟨b2, off2, he, hb2, hc2⟩ := (hblk.mid hinv.w32 Hoff.out).at_ (i := k) (by omega)
   injection he with he
   injection he with he1 he2
   subst he1; subst he2;have hzk := hinv.w32.get (k := k) (by omega);have hfz := hblk.frozen (off + k);have hmi := (mul_word_int hyk hq).1;have hmj := (mul_word_int hyk hq).2;have hS : (cy : Int) + ((ys[k]'(by omega) : Nat) : Int) * (q : Int) = ((cy + ys[k]'(by omega) * q : Nat) : Int) := by rw [Int.natCast_add, Int.natCast_mul]
   have hsl : cy + ys[k]'(by omega) * q <= 18446744069414584320 := by
    have := mul_word hyk hq;omega
   have hst : ∀ (dd bb : Nat), dd < 4294967296 -> bb <= 1 -> dd + (cy + ys[k]'(by omega) * q) % 4294967296 = zs[k]'(by omega) + 4294967296 * bb -> SmInv zs0 ys q (k + 1) (zs.set k dd) ((cy + ys[k]'(by omega) * q) / 4294967296 + bb) := fun dd bb h1 h2 h3 => hinv.step hy.1 hq (by omega) (by omega) rfl h1 h2 h3
   generalize cy + ys[k]'(by omega) * q = S at hS hsl hst
   by_cases hbor : S % 4294967296 <= zs[k]'(by omega)
   ·have HS := Lib.hid (And.intro hS (And.intro hsl hbor))
    clear hS hsl hbor
    go_wp2
    go_roundw
    case rel =>
     obtain ⟨hS, hsl, hbor⟩ := HS.out;exact ⟨k + 1, zs.set k (zs[k]'(by omega) - S % 4294967296), _, by omega, by go_num, congrArg _ (sm_car0 hS hzk hbor hsl), hst _ 0 (by omega) (by omega) (by omega), hblk.setMid Hoff.out (by omega) (sm_low0 hS hzk hbor), hmod.setCell _ _⟩
    case measure => simp [intOf]; omega
   ·have HS := Lib.hid (And.intro hS (And.intro hsl hbor))
    clear hS hsl hbor
    go_wp2
    go_roundw
    case rel =>
     obtain ⟨hS, hsl, hbor⟩ := HS.out;exact ⟨k + 1, zs.set k (zs[k]'(by omega) + 4294967296 - S % 4294967296), _, by omega, by go_num, congrArg _ (sm_car1 hS hzk hbor hsl), hst _ 1 (by omega) (by omega) (by omega), hblk.setMid Hoff.out (by omega) (sm_low hS hzk hbor), hmod.setCell _ _⟩
    case measure => simp [intOf]; omega
  ·have hk' : k = m := by omega
   subst hk';obtain ⟨b2, off2, he, hb2, hc2⟩ := (hblk.mid hinv.w32 Hoff.out).at_ (i := k) (by omega)
   injection he with he
   injection he with he1 he2
   subst he1; subst he2;have hzk := hinv.w32.get (k := k) (by omega);have hfz := hblk.frozen (off + k);have hat := hinv.at_ (k := k) (by omega);obtain rfl : ys.length = k := Hm.out;have hdn : ∀ dd bb : Nat, dd + cy = zs[ys.length]'(by omega) + 4294967296 * bb -> val (zs.set ys.length dd) + val ys * q = val zs0 + 4294967296 ^ (ys.length + 1) * bb := fun dd bb h => hinv.done (by rw [Hn.out]; omega) (by rw [<- hat]; exact h)
   have Hdn := Lib.hid hdn;have Hw := Lib.hid hinv.w32;clear hdn hat hinv;generalize hZ : zs[ys.length]'(by omega) = Z at *;clear hZ
   by_cases hbor : cy <= Z
   ·have e0 : (((Z : Int) - (cy : Int)) / 9223372036854775808 == 1) = false := by rw [beq_eq_false_iff_ne]; omega
    have hb := hblk.setMid Hoff.out (i := ys.length) (by omega) (v := (Z : Int) - (cy : Int)) (n := Z - cy) (by omega);rw [List.append_assoc] at hb
    go_wp2
    go_ret
    exact ⟨zs.set ys.length (Z - cy), 0, rfl, by omega, by simp; omega, Hw.out.set _ (by omega), hb, by rw [<- hl]; exact Hdn.out _ 0 (by omega), hmod.setCell _ _⟩
   ·have e1 := sm_end_top hzk hcy hbor
    have e2 := sm_end_low hzk hcy hbor;have hb := hblk.setMid Hoff.out (i := ys.length) (by omega) (v := ((Z + 4294967296 - cy : Nat) : Int)) (n := Z + 4294967296 - cy) rfl;rw [List.append_assoc] at hb
    go_wp2
    go_ret
    exact ⟨zs.set ys.length (Z + 4294967296 - cy), 1, rfl, by omega, by simp; omega, Hw.out.set _ (by omega), hb, by rw [<- hl]; exact Hdn.out _ 1 (by omega), hmod.setCell _ _⟩
end
theorem bitLen_bounds {x : Nat} (h : x < 4294967296) (h0 : x ≠ 0) : 1 <= Lib.bitLen x /\ Lib.bitLen x <= 32 /\ 2 ^ (Lib.bitLen x - 1) <= x /\ x < 2 ^ Lib.bitLen x := by
 obtain ⟨a, b, c⟩ := Lib.bitLenAux_bounds 64 x (by omega) h0;exact ⟨a, Lib.bitLen_le x 32 (by omega) (by omega), b, c⟩
theorem shift_top {x : Nat} (h : x < 4294967296) (h0 : x ≠ 0) : 2147483648 <= x * 2 ^ (32 - Lib.bitLen x) /\ (x + 1) * 2 ^ (32 - Lib.bitLen x) <= 4294967296 /\ Lib.bitLen x <= 32 /\ 1 <= Lib.bitLen x := by
 obtain ⟨a, b, c, d⟩ := bitLen_bounds h h0;refine ⟨?_, ?_, b, a⟩
 ·have e : (2147483648 : Nat) = 2 ^ (Lib.bitLen x - 1) * 2 ^ (32 - Lib.bitLen x) := by
   rw [<- Nat.pow_add, show Lib.bitLen x - 1 + (32 - Lib.bitLen x) = 31 by omega]
  rw [e];exact Nat.mul_le_mul_right _ c
 ·have e : (4294967296 : Nat) = 2 ^ Lib.bitLen x * 2 ^ (32 - Lib.bitLen x) := by
   rw [<- Nat.pow_add, show Lib.bitLen x + (32 - Lib.bitLen x) = 32 by omega]
  rw [e];exact Nat.mul_le_mul_right _ d
theorem div_norm {ys zs : List Nat} {m p : Nat} (hy : W32 ys) (hm : ys.length = m) (h0 : 0 < m) (h1 : 2147483648 <= ys[m - 1]'(by omega) * p) (h2 : (ys[m - 1]'(by omega) + 1) * p <= 4294967296) (hz : W32 zs) (hn : Nrm zs) (hv : val zs = val ys * p) :
  zs.length = m /\ val zs < 4294967296 ^ m /\ ∀ h : m - 1 < zs.length, 2147483648 <= zs[m - 1] := by
 obtain ⟨k, rfl⟩ : ∃ k, m = k + 1 := ⟨m - 1, by omega⟩;simp only [Nat.add_sub_cancel] at h1 h2 ⊢;have e := val_take_succ ys k (by omega);rw [List.take_of_length_le (by omega)] at e;have hl := val_lt (hy.take k);rw [List.length_take, Nat.min_eq_left (by omega)] at hl;generalize ys[k]'(by omega) = Y at *
 have lo : 4294967296 ^ k * 2147483648 <= val zs := by
  have a : 4294967296 ^ k * 2147483648 <= 4294967296 ^ k * (Y * p) := Nat.mul_le_mul_left _ h1;rw [hv, e, Nat.add_mul, Nat.mul_assoc];omega
 have hi : val zs < 4294967296 ^ (k + 1) := by
  have hp : 0 < p := by
   rcases Nat.eq_zero_or_pos p with rfl | h
   ·rw [Nat.mul_zero] at h1; omega
   ·exact h
  have a : val ys < 4294967296 ^ k * (Y + 1) := by rw [e, Nat.mul_add]; omega
  have b : val ys * p < 4294967296 ^ k * (Y + 1) * p := Nat.mul_lt_mul_of_pos_right a hp;have c : 4294967296 ^ k * ((Y + 1) * p) <= 4294967296 ^ k * 4294967296 := Nat.mul_le_mul_left _ h2;rw [Nat.mul_assoc] at b;rw [hv, Nat.pow_succ];omega
 have hpk : 0 < 4294967296 ^ k := Nat.pow_pos (by omega)
 have l1 : zs.length <= k + 1 := by
  rcases Nat.lt_or_ge (k + 1) zs.length with h | h
  ·have g := hn.ge (by rintro rfl; simp at h)
   have : 4294967296 ^ (k + 1) <= 4294967296 ^ (zs.length - 1) := Nat.pow_le_pow_right (by omega) (by omega);omega
  ·exact h
 have l2 : k + 1 <= zs.length := by
  rcases Nat.lt_or_ge zs.length (k + 1) with h | h
  ·have g := val_lt hz
   have : 4294967296 ^ zs.length <= 4294967296 ^ k := Nat.pow_le_pow_right (by omega) (by omega);omega
  ·exact h
 refine ⟨by omega, hi, fun h => ?_⟩;have e3 := val_take_succ zs k h;rw [List.take_of_length_le (by omega)] at e3;have hl3 := val_lt (hz.take k);rw [List.length_take, Nat.min_eq_left (by omega)] at hl3
 rcases Nat.lt_or_ge zs[k] 2147483648 with h5 | h5
 ·have a : 4294967296 ^ k * (zs[k] + 1) <= 4294967296 ^ k * 2147483648 := Nat.mul_le_mul_left _ h5
  rw [Nat.mul_add, Nat.mul_one] at a;omega
 ·exact h5
section
variable {A B : Option Addr} {c d n m : Nat} {xs ys : List Nat} {w : World} {s t : Bool}
set_option maxRecDepth 100000 in
theorem int_divideLong (hn : xs.length = n) (hm : ys.length = m) (hx : Rd w A xs) (hy : Rd w B ys) (hny : Nrm ys) (h2 : 2 <= m) (hmn : m <= n) (h1 : n <= 9000) :
  Calls Tryz.prog 171 #[.slice A n c, .slice B m d] w (Ret2 (fun qs rs => val qs = val xs / val ys /\ val rs = val xs % val ys /\ Nrm qs /\ Nrm rs) w) := by
 have hl0 : ys[m - 1]'(by omega) ≠ 0 := by
  subst hm;exact hny.last (by omega)
 obtain ⟨b1, o1, rfl, hb1, cy⟩ := hy.at_ (i := m - 1) (by omega);have hY := hy.1.get (k := m - 1) (by omega);obtain ⟨s1, s2, s3, s4⟩ := shift_top hY hl0;have hnorm : ∀ zs, W32 zs -> Nrm zs -> val zs = val ys * 2 ^ (32 - Lib.bitLen (ys[m - 1]'(by omega))) -> zs.length = m /\ val zs < 4294967296 ^ m /\ ∀ h : m - 1 < zs.length, 2147483648 <= zs[m - 1] := fun zs a b e => div_norm hy.1 hm (by omega) s1 s2 a b e
 have hlz : ∀ W : World, Calls Tryz.prog 175 #[.int .u32 ((ys[m - 1]'(by omega) : Nat) : Int)] W fun e w' => e = .returned (.int .i64 ((32 - Lib.bitLen (ys[m - 1]'(by omega)) : Nat) : Int)) /\ W = w' := fun W => by
  refine (lz32 _ W (by omega) (by omega)).mono ?_;rintro e w' ⟨rfl, h⟩;exact ⟨ret_int (by simp only [Int.toNat_natCast]; omega), h⟩
 clear s1 s2;generalize ys[m - 1]'(by omega) = Y at *;have hS32 : 32 - Lib.bitLen Y < 32 := by omega
 generalize 32 - Lib.bitLen Y = S at *;have Hnorm := Lib.hid hnorm;have Hlz := Lib.hid hlz;have Hn := Lib.hid hn;have Hm := Lib.hid hm
 have Hb := Lib.hid (show 4294967296 ^ (m - 1) <= val ys by
  have := hny.ge (by rintro rfl; simp at hm; omega)
  rwa [hm] at this)
 have Ha := Lib.hid (show val xs < 4294967296 ^ n by have := val_lt hx.1; rwa [hn] at this);clear hnorm hlz s3 s4 hl0 hn hm
 have hmk1 : ∀ W : World, (Instr.makeSlice 105 (.int .i64 ((n : Int) + 1)) (.int .i64 ((n : Int) + 1))).run Tryz.prog W = .ok (.slice (some ⟨W.heap.size, 0, none⟩) (n + 1) (n + 1)) (W.alloc (.cells (madeCells #[.int .u32 0] (n + 1)) 89)) := fun W => by
  have h := mk_words 105 Tryz.underlying105 (n + 1) (by omega) W
  rwa [show ((n + 1 : Nat) : Int) = (n : Int) + 1 by omega] at h
 have hmk2 : ∀ W : World, (Instr.makeSlice 105 (.int .i64 ((n : Int) - (m : Int) + 1)) (.int .i64 ((n : Int) - (m : Int) + 1))).run Tryz.prog W = .ok (.slice (some ⟨W.heap.size, 0, none⟩) (n - m + 1) (n - m + 1)) (W.alloc (.cells (madeCells #[.int .u32 0] (n - m + 1)) 89)) := fun W => by
  have h := mk_words 105 Tryz.underlying105 (n - m + 1) (by omega) W
  rwa [show ((n - m + 1 : Nat) : Int) = (n : Int) - (m : Int) + 1 by omega] at h
 go_enter Tryz.func171, Tryz.ntmps171
 go_wp2_with (go_at_call 175; refine (Hlz.out _).mono ?_; rintro e w1 ⟨rfl, rfl⟩)
 refine (int_shiftLeft (k := S) Hm.out hy (by omega) (by omega)).mono ?_;rintro e w2 ⟨A2, c2, ds, rfl, ho2, hc2, hm2, ⟨hv2, hn2, hl2⟩, hext2⟩;obtain ⟨hdl, hdu, hdt⟩ := Hnorm.out ds ho2.rd.1 hn2 hv2;rw [hdl];have Hdl := Lib.hid hdl;have Hdu := Lib.hid hdu;have Hdt := Lib.hid hdt;have Hv2 := Lib.hid hv2;clear hdl hdu hdt hv2 hl2 hn2 Hnorm Hlz
 go_wp2_with fail
 have hb0 := BlkN.new w2 (n + 1);refine (int_shiftInto (pre := []) (zs0 := List.replicate (xs.length + 1) 0) (post := []) (by rw [Hn.out]; simpa using hb0) rfl rfl (hx.ext (hext2.alloc _)) Hn.out (hx.apart hext2.size) (by omega) hS32 (by omega) (by omega) (by unfold maxLen; omega)).mono ?_;rintro e w3 ⟨R0, rfl, hRl, hRw, hRb, hRv, hmod3⟩;rw [List.nil_append, List.append_nil] at hRb;have hext3 : Ext w2 w3 := hmod3.ext ((Ext.refl w2).alloc _) (Nat.le_refl _);have hd3 := ho2.rd.ext hext3;have hap := ho2.rd.apart (Nat.le_refl _);have hL0 := LInv.start (a := val xs) (b := val ys) (s := S) (la := n) (lb := m) hRl hRw rfl hRv hmn (by omega) Ha.out Hb.out;rw [<- Hv2.out] at hL0;have HL0 := Lib.hid hL0;clear hL0 hRv hmod3 hRl hb0;have hg12 := hRb.lt;have hQb := BlkN.new w3 (n - m + 1);have hR4 := hRb.ext ((Ext.refl w3).alloc (.cells (madeCells #[.int .u32 0] (n - m + 1)) 89));have hd4 := hd3.ext ((Ext.refl w3).alloc (.cells (madeCells #[.int .u32 0] (n - m + 1)) 89));have ext4 := (hext2.trans hext3).alloc (.cells (madeCells #[.int .u32 0] (n - m + 1)) 89);have hap3 := hd3.apart (Nat.le_refl _);clear hRb hd3
 go_wp2_with fail
 go_loopw [10] (fun i wr => ∃ (k : Nat) (R Q : List Nat), k <= n - m + 1 /\ i = .int .i64 ((k : Int) - 1) /\ LInv (val ds) (val xs * 2 ^ S) (n + 1) (n - m + 1) k R Q /\ BlkN wr w2.heap.size R /\ BlkN wr w3.heap.size Q /\ Rd wr A2 ds /\ Ext w wr) (fun i _ => (intOf i + 1).toNat)
 case atStart => exact ⟨n - m + 1, R0, _, Nat.le_refl _, congrArg (Value.int .i64) (by omega), HL0.out, hR4, hQb, hd4, ext4⟩
 case round =>
  clear hR4 hQb hd4 ext4;obtain ⟨k, R, Q, hk, rfl, hinv, hRb, hQb, hdr, hext⟩ := hrel;have hrl := hinv.rl;have hql := hinv.ql
  rcases k with _ | j
  ·rw [show (((0 : Nat) : Int) - 1) = -1 from rfl]
   have Hinv := Lib.hid hinv;have Hrl := Lib.hid hrl;have Hql := Lib.hid hql;clear hinv hrl hql
   go_wp2_with fail
   refine (int_trimN Hql.out (hQb.rd0 Hinv.out.qw) (Nat.le_refl _) (by unfold maxLen; omega)).mono ?_;rintro e w4 ⟨rfl, rfl⟩
   go_wp2_with fail
   refine (int_trimN Hrl.out (hRb.rd0 Hinv.out.rw) (Nat.le_refl _) (by unfold maxLen; omega)).mono ?_;rintro e w4 ⟨rfl, rfl⟩;have hrl2 := trimL_len R;rw [Hrl.out] at hrl2;have hrt : Rd wr (some ⟨w2.heap.size, 0, none⟩) (trimL R) := by rw [trimL_take]; exact (hRb.rd0 Hinv.out.rw).take _
   go_wp2_with fail
   refine (int_shiftRight (k := S) rfl hrt hrl2 (by unfold maxLen; omega) (by omega) (by omega)).mono ?_;rintro e w5 ⟨A5, c5, rs, rfl, ho5, hc5, hm5, ⟨hv5, hn5, hl5⟩, hext5⟩;have Hv5 := Lib.hid hv5;clear hv5
   go_wp2_with fail
   go_ret2
   have hi := Hinv.out;rw [Hv2.out] at hi;obtain ⟨d1, d2⟩ := hi.done;have hql2 := trimL_len Q;rw [Hql.out] at hql2;refine ⟨_, _, trimL Q, A5, c5, rs, rfl, ?_, ho5.mono hext.size, hql2, by unfold maxLen; omega, hc5, hm5, ⟨by rw [val_trimL]; exact d1, by rw [Hv5.out, val_trimL]; exact d2, Nrm.trimL _, hn5⟩, hext.trans hext5⟩;rw [trimL_take];exact (Own.of_blk (hQb.ext hext5) hi.qw (Nat.le_trans hext2.size (Nat.le_of_lt hg12))).take _
  ·rw [show (((j + 1 : Nat) : Int) - 1) = (j : Int) by omega]
   have hj1 : j + m + 1 <= n + 1 := by omega
   have hj2 : j < n - m + 1 := by omega
   obtain ⟨p0, p1, p2⟩ := hinv.part hj2 (by omega) Hdu.out;have hpd : Rd wr (some ⟨w2.heap.size, j, none⟩) ((R.drop j).take (m + 1)) := hRb.rd hinv.rw (by omega);have hpl : ((R.drop j).take (m + 1)).length = m + 1 := by rw [List.length_take, List.length_drop]; omega
   have hpw : W32 ((R.drop j).take (m + 1)) := (hinv.rw.drop _).take _
   have hRs : R = R.take j ++ (R.drop j).take (m + 1) ++ R.drop (j + m + 1) := by
    rw [List.append_assoc, show j + m + 1 = j + (m + 1) by omega, <- List.drop_drop, List.take_append_drop, List.take_append_drop]
   have htl : (R.take j).length = j := by rw [List.length_take]; omega
   have hst : ∀ (ps : List Nat) (u : Nat), ps.length = m + 1 -> W32 ps -> u < 4294967296 -> val ps < val ds -> val ps + u * val ds = val ((R.drop j).take (m + 1)) -> LInv (val ds) (val xs * 2 ^ S) (n + 1) (n - m + 1) j (R.take j ++ ps ++ R.drop (j + m + 1)) (Q.set j u) := fun ps u a1 a2 a3 a4 a5 => hinv.step hj2 (by omega) Hdu.out a1 a2 a3 a4 a5
   rw [hRs] at hRb;have Hst := Lib.hid hst;have Hqw := Lib.hid hinv.qw;clear hst hinv hRs p0 p1 hrl;generalize R.take j = pre at *;generalize (R.drop j).take (m + 1) = part at *;generalize R.drop (j + m + 1) = post at *;have Htl := Lib.hid htl;have Hpl := Lib.hid hpl;have Hql := Lib.hid hql;have Hp2 := Lib.hid p2;have hcc1 : m + 1 <= n + 1 - j := by omega
   have hcc2 : n + 1 - j <= 10000 := by omega
   clear htl hpl p2 hql
   go_wp2_with fail
   rw [show j + m + 1 - j = m + 1 by omega];refine (int_estimate Hpl.out Hdl.out h2 hpd hdr (Hdt.out _) Hp2.out (by omega)).mono ?_;rintro e w4 ⟨q, rfl, hq32, hq1, hq2, hxt4⟩;have Hq1 := Lib.hid hq1;have Hq2 := Lib.hid hq2;clear hq1 hq2
   go_wp2_with fail
   refine (int_subtractMultiple (hRb.ext hxt4) Htl.out Hpl.out hpw (hdr.ext hxt4) Hdl.out hap rfl hq32 (by omega) hcc1 (by unfold maxLen; omega)).mono ?_;rintro e w5 ⟨ps, bb, rfl, hb1, hpsl, hpsw, hpsb, hpsv, hmod5⟩;have hdr5 := (hdr.ext hxt4).mod hmod5 hap;have hQ5 := (hQb.ext hxt4).mod hmod5 (Nat.ne_of_gt hg12);have ext5 := hmod5.ext (hext.trans hxt4) hext2.size;have Hpsv := Lib.hid hpsv;have Hpsl := Lib.hid hpsl;clear hpsv hpsl hpd hRb hdr hQb hmod5
   rcases (show bb = 0 \/ bb = 1 by omega) with rfl | rfl
   ·have hcq := hQ5.cell (i := j) (by rw [Hql.out]; exact hj2)
    have hfq := hQ5.frozen j
    go_wp2_with fail
    go_roundw
    case rel =>
     obtain ⟨f1, f2⟩ := sub_fit Hq1.out (by have := Hpsv.out; rw [Nat.mul_zero, Nat.add_zero] at this; exact this);exact ⟨j, _, _, by omega, rfl, Hst.out ps q Hpsl.out hpsw hq32 f1 f2, hpsb.mod ((Mod.refl w5 w3.heap.size).setCell j _) (Nat.ne_of_lt hg12), hQ5.set j rfl, hdr5.mod ((Mod.refl w5 w3.heap.size).setCell j _) hap3, ext5.setCell (Nat.le_trans hext2.size (Nat.le_of_lt hg12)) _⟩
    case measure => simp [intOf]
   ·have hpslt : val ps < 4294967296 ^ (m + 1) := by
     have := val_lt hpsw
     rwa [Hpsl.out] at this
    have h3 := Hpsv.out;rw [Nat.mul_one] at h3;have hPq : val part < q * val ds := by rw [Nat.mul_comm]; omega
    have hq0 : 0 < q := by
     rcases Nat.eq_zero_or_pos q with rfl | h
     ·rw [Nat.zero_mul] at hPq; omega
     ·exact h
    have HPq := Lib.hid hPq;have H3 := Lib.hid h3;clear hPq h3 hpslt;have hq01 : (1 : Int) <= (q : Int) := by omega
    go_wp2_with fail
    refine (int_addTo _ _ _ _ hpsb Htl.out Hpsl.out hpsw hdr5 Hdl.out hap (by omega) (by omega)).mono ?_;rintro e w6 ⟨zs, rfl, hzl, hzw, hzb, ⟨cy2, hcy, hcv⟩, hmod6⟩;have Hf := Lib.hid (sub_back HPq.out Hq2.out H3.out hcv hcy (by have := val_lt hzw; rwa [hzl] at this));have hdr6 := hdr5.mod hmod6 hap;have hQ6 := hQ5.mod hmod6 (Nat.ne_of_gt hg12);have ext6 := hmod6.ext ext5 hext2.size;have Hzl := Lib.hid hzl;clear hcv hzl hpsb hdr5 hQ5 hmod6;have hcq := hQ6.cell (i := j) (by rw [Hql.out]; exact hj2);have hfq := hQ6.frozen j
    go_wp2_with fail
    go_roundw
    case rel =>
     obtain ⟨f0, f1, f2⟩ := Hf.out;exact ⟨j, _, _, by omega, rfl, Hst.out zs (q - 1) Hzl.out hzw (by omega) f1 f2, hzb.mod ((Mod.refl w6 w3.heap.size).setCell j _) (Nat.ne_of_lt hg12), hQ6.set j (by omega), hdr6.mod ((Mod.refl w6 w3.heap.size).setCell j _) hap3, ext6.setCell (Nat.le_trans hext2.size (Nat.le_of_lt hg12)) _⟩
    case measure => simp [intOf]
theorem int_divide_word {y : Nat} (hn : xs.length = n) (hx : Rd w A xs) (hy : Rd w B [y]) (hnx : Nrm xs) (hy0 : y ≠ 0) (h2 : 2 < n) (h1 : n <= 100000) :
  Calls Tryz.prog 151 #[.slice A n c, .slice B 1 d] w (Ret2 (fun qs rs => val qs = val xs / y /\ val rs = val xs % y /\ Nrm qs /\ Nrm rs) w) := by
 have hcm1 := Lib.hid (show cmpL xs [y] = 1 from cmpL_len_gt (by simp; omega));have hyl := hy.1 y (by simp);have hxl := Lib.hid (show xs ≠ [] by rintro rfl; simp at hn; omega)
 have hr32 : val xs % y < 4294967296 := by
  have := Nat.mod_lt (val xs) (show 0 < y by omega);omega
 go_enter Tryz.func151, Tryz.ntmps151
 go_wp2_with fail
 subst hn;refine (int_compare A B c d xs [y] w hx hy (by unfold maxLen; omega) (by unfold maxLen; simp)).mono ?_;rintro e w1 ⟨rfl, hext1⟩;rw [hcm1.out]
 go_wp2_with fail
 refine (clone rfl (hx.ext hext1) (by omega)).mono ?_;rintro e w2 ⟨A2, c2, zs, rfl, ho2, hc2, hm2, rfl, hext2⟩
 obtain ⟨g, rfl, hg, hblk⟩ : ∃ g, A2 = some ⟨g, 0, none⟩ /\ w1.heap.size <= g /\ BlkN w2 g zs := by
  rcases ho2.2 with h | h
  ·exact absurd h hxl.out
  ·exact h
 obtain ⟨b1, o1, rfl, hb1, cb⟩ := ((hy.ext hext1).ext hext2).at_ (i := 0) (by simp);simp only [Nat.add_zero, List.getElem_cons_zero] at cb
 go_wp2_with fail
 refine (int_divideByWord hblk rfl hx.1 (by omega) hyl (by omega)).mono ?_;rintro e w3 ⟨qs, rfl, hql, hqw, hqb, hqv, hmod⟩;have ext3 := hmod.ext hext2 hg;have Hqv := Lib.hid hqv;clear hqv cb
 go_wp2_with fail
 refine (int_trimN hql (hqb.rd0 hqw) hc2 hm2).mono ?_;rintro e w4 ⟨rfl, rfl⟩
 go_wp2_with fail
 refine (int_fromUint (val zs % y) (by omega)).mono ?_;rintro e w5 ⟨A5, c5, rs, rfl, ho5, hc5, hm5, ⟨hv5, hn5, hl5⟩, hext5⟩;have Hv5 := Lib.hid hv5;clear hv5
 go_wp2_with fail
 go_ret2
 have hl := trimL_len qs;refine ⟨_, _, trimL qs, A5, c5, rs, rfl, ?_, ho5.mono (hext1.trans ext3).size, by omega, hm2, hc5, hm5, ⟨by rw [val_trimL]; exact Hqv.out, Hv5.out, Nrm.trimL _, hn5⟩, hext1.trans (ext3.trans hext5)⟩;rw [trimL_take];exact (Own.of_blk (hqb.ext hext5) hqw (Nat.le_trans hext1.size hg)).take _
theorem int_divide_long (hn : xs.length = n) (hm : ys.length = m) (hx : Rd w A xs) (hy : Rd w B ys) (hnx : Nrm xs) (hny : Nrm ys) (hge : val ys <= val xs) (h2 : 2 < n) (hm2 : 2 <= m) (h1 : n <= 9000) :
  Calls Tryz.prog 151 #[.slice A n c, .slice B m d] w (Ret2 (fun qs rs => val qs = val xs / val ys /\ val rs = val xs % val ys /\ Nrm qs /\ Nrm rs) w) := by
 have hml := len_le hx.1 hny hge
 have hcase : cmpL xs ys = 0 \/ cmpL xs ys = 1 := by
  rw [cmpL_nrm hx.1 hy.1 hnx hny]
  rcases Nat.lt_or_ge (val ys) (val xs) with h | h
  ·exact .inr (cmpI_of_gt h)
  ·exact .inl (cmpI_of_eq (by omega))
 have Hml := Lib.hid (show m <= n by omega);subst hn;subst hm;clear hml hge
 rcases hcase with hcm | hcm
 all_goals
  have hcm1 := Lib.hid hcm;clear hcm
  go_enter Tryz.func151, Tryz.ntmps151
  go_wp2_with fail
  refine (int_compare A B c d xs ys w hx hy (by unfold maxLen; omega) (by have := Hml.out; unfold maxLen; omega)).mono ?_;rintro e w1 ⟨rfl, hext1⟩;rw [hcm1.out]
  go_wp2_with fail
  refine (int_divideLong rfl rfl (hx.ext hext1) (hy.ext hext1) hny hm2 Hml.out h1).mono ?_;rintro e w3 ⟨A3, c3, qs, A4, c4, rs, rfl, ho3, ho4, hc3, hm3, hc4, hm4, hP, hext3⟩;have HP := Lib.hid hP;clear hP
  go_wp2_with fail
  go_ret2
  exact ⟨A3, c3, qs, A4, c4, rs, rfl, ho3.mono hext1.size, ho4.mono hext1.size, hc3, hm3, hc4, hm4, HP.out, hext1.trans hext3⟩
theorem Ret2.len {e : Ending} {w' : World} (hx : W32 xs) (h : Ret2 (fun qs rs => val qs = val xs / val ys /\ val rs = val xs % val ys /\ Nrm qs /\ Nrm rs) w e w') :
  Ret2 (fun qs rs => val qs = val xs / val ys /\ val rs = val xs % val ys /\ Nrm qs /\ Nrm rs /\ qs.length <= xs.length /\ rs.length <= xs.length) w e w' := by
 obtain ⟨A3, c3, qs, A4, c4, rs, h0, ho3, ho4, hc3, hm3, hc4, hm4, ⟨p1, p2, p3, p4⟩, hext3⟩ := h;exact ⟨A3, c3, qs, A4, c4, rs, h0, ho3, ho4, hc3, hm3, hc4, hm4, ⟨p1, p2, p3, p4, nrm_len_le hx p3 (by rw [p1]; exact Nat.div_le_self _ _), nrm_len_le hx p4 (by rw [p2]; exact Nat.mod_le _ _)⟩, hext3⟩
theorem divide_ok : DivideOK 9000 := by
 intro A B c d n m xs ys w hn hm hx hy _ _ _ _ hnx hny h0 h1 h2
 rcases Nat.lt_or_ge (val xs) (val ys) with h | h
 ·exact int_divide_lt hn hm hx hy hnx hny h (by omega) h2
 ·rcases Nat.lt_or_ge 2 n with h3 | h3
  ·rcases Nat.lt_or_ge 1 m with h4 | h4
   ·exact (int_divide_long hn hm hx hy hnx hny h h3 (by omega) h1).mono fun e w' hr => hr.len hx.1
   ·obtain rfl : m = 1 := by omega
    obtain ⟨y, rfl⟩ : ∃ y, ys = [y] := by
     match ys, hm with
     | [y], _ => exact ⟨y, rfl⟩
    have hy0 : y ≠ 0 := by
     rintro rfl;have := hny.last (by simp);simp at this
    have e := val_one y
    exact (int_divide_word (y := y) hn hx hy hnx hy0 h3 (by omega)).mono fun e w' hr => by
     rw [<- val_one y] at hr;exact hr.len hx.1
  ·exact int_divide_two hn hm hx hy hnx hny h h0 h3
end
def bitsN (xs : List Nat) : Nat := if h : 0 < xs.length then 32 * (xs.length - 1) + Lib.bitLen (xs[xs.length - 1]'(by omega)) else 0
theorem bitLen_zero : Lib.bitLen 0 = 0 := by decide
section
variable {A B : Option Addr} {c d n m : Nat} {xs ys : List Nat} {w : World} {s t : Bool}
theorem int_bits (hn : xs.length = n) (hx : Rd w A xs) (h1 : n <= 100000) :
  Calls Tryz.prog 165 #[.slice A n c] w fun e w' => e = .returned (.int .i64 (bitsN xs : Nat)) /\ w = w' := int_binaryDigits hn hx h1
theorem ref_length (hn : xs.length = n) (hx : Rd w A xs) (h1 : n <= 100000) :
  Calls Tryz.prog 131 #[.slice A n c] w fun e w' => e = .returned (.int .i64 (bitsN xs : Nat)) /\ w = w' := by
 by_cases h : 0 < xs.length
 ·have hb : bitsN xs = 32 * (xs.length - 1) + Lib.bitLen (xs[xs.length - 1]'(by omega)) := by unfold bitsN; rw [dif_pos h]
  obtain ⟨b1, off', rfl, hb1, hc1⟩ := hx.at_ (i := xs.length - 1) (by omega);have hxk := hx.1.get (k := xs.length - 1) (by omega);subst hn;have hle : Lib.bitLen xs[xs.length - 1] <= 32 := Lib.bitLen_le _ 32 (by omega) (by omega);generalize xs[xs.length - 1] = X at *;have Hb := Lib.hid hb;clear hb;have hpos : ¬ xs.length = 0 := by omega
  go_enter Tryz.func131, Tryz.ntmps131
  go_wp2
  go_loopw [3, 4] (fun a x wr => ∃ p q : Nat, a = .int .i64 (p : Int) /\ x = .int .u32 (q : Int) /\ p + Lib.bitLen q = Lib.bitLen X /\ q < 4294967296 /\ wr = w) (fun _ x _ => (intOf x).toNat)
  case atStart => exact ⟨0, X, rfl, rfl, by omega, hxk, rfl⟩
  case round =>
   obtain ⟨p, q, rfl, rfl, hpq, hq, rfl⟩ := hrel
   by_cases hq0 : q = 0
   ·subst hq0
    rw [bitLen_zero] at hpq
    go_wp2
    go_ret
    exact ⟨ret_int (by rw [Hb.out]; omega), rfl⟩
   ·have hh := Lib.bitLen_half q hq0 (by omega)
    have hqp : (0 : Int) < (q : Int) := by omega
    have hp32 : p < 32 := by omega
    go_wp2
    go_roundw
    case rel => exact ⟨p + 1, q / 2, by go_num, by go_num, by omega, by omega, trivial⟩
    case measure => simp [intOf]; omega
 ·have h0 : xs.length = 0 := by omega
  have hb : bitsN xs = 0 := by unfold bitsN; rw [dif_neg h]
  subst hn;have Hb := Lib.hid hb;clear hb
  go_enter Tryz.func131, Tryz.ntmps131
  go_wp2_with fail
  go_ret
  exact ⟨ret_int (by rw [Hb.out]; rfl), rfl⟩
end
theorem word_pow (k : Nat) : (4294967296 : Nat) ^ k = 2 ^ (32 * k) := by
 rw [Nat.pow_mul]
theorem bitsN_spec {xs : List Nat} (hw : W32 xs) (hn : Nrm xs) (h : 0 < xs.length) : 1 <= bitsN xs /\ 2 ^ (bitsN xs - 1) <= val xs /\ val xs < 2 ^ bitsN xs /\ bitsN xs <= 32 * xs.length := by
 have hlast := hn.last h;have hX := hw.get (k := xs.length - 1) (by omega);obtain ⟨a, b, c, d⟩ := bitLen_bounds hX hlast;have e := val_take_succ xs (xs.length - 1) (by omega);rw [List.take_of_length_le (by omega)] at e;have hl := val_lt (hw.take (xs.length - 1));rw [List.length_take, Nat.min_eq_left (by omega)] at hl;have hb : bitsN xs = 32 * (xs.length - 1) + Lib.bitLen (xs[xs.length - 1]'(by omega)) := by unfold bitsN; rw [dif_pos h]
 rw [hb, e];generalize xs[xs.length - 1]'(by omega) = X at *;generalize hk : xs.length - 1 = k at *;refine ⟨by omega, ?_, ?_, by omega⟩
 ·rw [show 32 * k + Lib.bitLen X - 1 = 32 * k + (Lib.bitLen X - 1) by omega, Nat.pow_add, <- word_pow]
  have := Nat.mul_le_mul_left (4294967296 ^ k) c;omega
 ·rw [Nat.pow_add, <- word_pow]
  have := Nat.mul_le_mul_left (4294967296 ^ k) (show X + 1 <= 2 ^ Lib.bitLen X from d);rw [Nat.mul_add] at this;omega
end
section
open Go.RowKit
attribute [local go_sem ↓] Go.wp_at_zero Go.wp_at_succ
theorem sign_of_lt {a b : Int} (h : a < b) : (a - b).sign = -1 := Int.sign_eq_neg_one_of_neg (by omega)
theorem sign_of_gt {a b : Int} (h : b < a) : (a - b).sign = 1 := Int.sign_eq_one_of_pos (by omega)
theorem sign_of_eq {a b : Int} (h : a = b) : (a - b).sign = 0 := by rw [h, Int.sub_self]; rfl
theorem sign_cases (a : Int) : (a < 0 /\ a.sign = -1) \/ (a = 0 /\ a.sign = 0) \/ (0 < a /\ a.sign = 1) := by
 rcases Int.lt_trichotomy a 0 with h | h | h
 ·exact .inl ⟨h, Int.sign_eq_neg_one_of_neg h⟩
 ·exact .inr (.inl ⟨h, by rw [h]; rfl⟩)
 ·exact .inr (.inr ⟨h, Int.sign_eq_one_of_pos h⟩)
theorem cmp_sign {s t : Bool} {xs ys : List Nat} (hx : W32 xs) (hy : W32 ys) (σ : Int) (ha : (ival s xs).sign = σ) (hb : (ival t ys).sign = σ) : σ * cmpL (trimL xs) (trimL ys) = (ival s xs - ival t ys).sign := by
 rw [cmpL_nrm hx.trimL hy.trimL (Nrm.trimL xs) (Nrm.trimL ys), val_trimL, val_trimL];have h1 := sign_cases (ival s xs);have h2 := sign_cases (ival t ys);have e1 : ival s xs = if s then -(val xs : Int) else (val xs : Int) := rfl;have e2 : ival t ys = if t then -(val ys : Int) else (val ys : Int) := rfl;rw [ha] at h1;rw [hb] at h2;clear ha hb
 rcases Nat.lt_trichotomy (val xs) (val ys) with h | h | h
 ·rw [cmpI_of_lt h]
  rcases h1 with ⟨h1, rfl⟩ | ⟨h1, rfl⟩ | ⟨h1, rfl⟩
  ·rw [sign_of_gt (by cases s <;> cases t <;> simp at e1 e2 h2 <;> omega)]; rfl
  ·rw [sign_of_eq (by cases s <;> cases t <;> simp at e1 e2 h2 <;> omega)]; rfl
  ·rw [sign_of_lt (by cases s <;> cases t <;> simp at e1 e2 h2 <;> omega)]; rfl
 ·rw [cmpI_of_eq h, Int.mul_zero]
  rw [sign_of_eq (by rcases h1 with ⟨h1, rfl⟩ | ⟨h1, rfl⟩ | ⟨h1, rfl⟩ <;> cases s <;> cases t <;> simp at e1 e2 h2 <;> omega)]
 ·rw [cmpI_of_gt h, Int.mul_one]
  rcases h1 with ⟨h1, rfl⟩ | ⟨h1, rfl⟩ | ⟨h1, rfl⟩
  ·rw [sign_of_lt (by cases s <;> cases t <;> simp at e1 e2 h2 <;> omega)]
  ·rw [sign_of_eq (by cases s <;> cases t <;> simp at e1 e2 h2 <;> omega)]
  ·rw [sign_of_gt (by cases s <;> cases t <;> simp at e1 e2 h2 <;> omega)]
theorem cmpI_bd (a b : Nat) : -1 <= cmpI a b /\ cmpI a b <= 1 := by unfold cmpI; split <;> (try split) <;> omega
theorem cmpL_bd (xs ys : List Nat) : -1 <= cmpL xs ys /\ cmpL xs ys <= 1 := by unfold cmpL; split <;> exact cmpI_bd _ _
section
variable {A B : Option Addr} {c d n m : Nat} {xs ys : List Nat} {w : World} {s t : Bool}
theorem int_Sub (hn : xs.length = n) (hm : ys.length = m) (hx : Rd w A xs) (hy : Rd w B ys) (hc : n <= c) (hcm : c <= maxLen) (hd : m <= d) (hdm : d <= maxLen) (h1 : n <= 100000) (h2 : m <= 100000) :
  Calls Tryz.prog 143 #[.agg #[.bool s, .slice A n c], .agg #[.bool t, .slice B m d]] w (RetI (ival s xs - ival t ys) (max xs.length ys.length + 1) w) := by
 have Hn := Lib.hid hn;have Hm := Lib.hid hm;clear hn hm;have lx := trimL_len xs;have ly := trimL_len ys;have hxt : Rd w A (trimL xs) := by rw [trimL_take]; exact hx.take _
 have hyt : Rd w B (trimL ys) := by rw [trimL_take]; exact hy.take _
 go_enter Tryz.func143, Tryz.ntmps143
 go_upto_region 1 with (fail)
 obtain ⟨W, hW, extW, bx, by_, bz, hz⟩ := box3 w 28 28 28 #[.bool s, .slice A n c] #[.bool t, .slice B m d] #[.bool false, .slice none 0 0];rw [<- hW];clear hW;have x0 := bx.cell 0 (.bool s) rfl;have x1 := bx.cell 1 (.slice A n c) rfl;have y0 := by_.cell 0 (.bool t) rfl;have y1 := by_.cell 1 (.slice B m d) rfl;have g0 := by_.frozen 0;have ext4 : Ext W (W.setCell ⟨w.heap.size + 1, 0, none⟩ (.bool (!t))) -> True := fun _ => trivial
 clear ext4;have hE := extW.setCell (p := ⟨w.heap.size + 1, 0, none⟩) (Nat.le_succ _) (.bool (!t));have by2 := by_.setA (.bool (!t));have bx2 := bx.far (p := ⟨w.heap.size + 1, 0, none⟩) (far_ne (by omega)) (.bool (!t));have bz2 := bz.far (p := ⟨w.heap.size + 1, 0, none⟩) (far_ne (by omega)) (.bool (!t));have HE := Lib.hid hE;clear hE
 go_wp2_with (go_at_call 99; refine (int_Add Hn.out Hm.out (hx.ext HE.out) (hy.ext HE.out) hc hcm hd hdm h1 h2).mono ?_; rintro e w3 ⟨b3, A3, c3, rs, rfl, hr3, hc3, hm3, hi3, hl3, hext3⟩; have bz3 := bz2.ext hext3; have z0 := bz3.cell 0 (.bool false) rfl; have z1 := bz3.cell 1 (.slice none 0 0) rfl; have f0 := bz3.frozen 0; have f1 := bz3.frozen 1)
 obtain ⟨r1, r2, r3, r4⟩ := fin_pair (b := b3) (n := rs.length) (c := c3) (HE.out.trans hext3) (by omega) bz3 hr3;exact bodyPost_ret (v := .agg #[.bool b3, .slice A3 rs.length c3]) (by simp [results, Tryz.results143, go_sem, r3, r4]) rfl ⟨b3, A3, c3, rs, rfl, r1, hc3, hm3, by rw [ival_not] at hi3; exact hi3, hl3, r2⟩
theorem ref_Sub (hn : xs.length = n) (hm : ys.length = m) (hx : Rd w A xs) (hy : Rd w B ys) (hc : n <= c) (hcm : c <= maxLen) (hd : m <= d) (hdm : d <= maxLen) (h1 : n <= 100000) (h2 : m <= 100000) :
  Calls Tryz.prog 164 #[.agg #[.bool s, .slice A n c], .agg #[.bool t, .slice B m d]] w (RetI (ival s xs - ival t ys) (max xs.length ys.length + 1) w) := by
 have Hn := Lib.hid hn;have Hm := Lib.hid hm;clear hn hm;have lx := trimL_len xs;have ly := trimL_len ys;have hxt : Rd w A (trimL xs) := by rw [trimL_take]; exact hx.take _
 have hyt : Rd w B (trimL ys) := by rw [trimL_take]; exact hy.take _
 go_enter Tryz.func164, Tryz.ntmps164
 go_upto_region 1 with (fail)
 obtain ⟨W, hW, extW, bx, by_, bz, hz⟩ := box3 w 28 28 28 #[.bool s, .slice A n c] #[.bool t, .slice B m d] #[.bool false, .slice none 0 0];rw [<- hW];clear hW;have x0 := bx.cell 0 (.bool s) rfl;have x1 := bx.cell 1 (.slice A n c) rfl;have y0 := by_.cell 0 (.bool t) rfl;have y1 := by_.cell 1 (.slice B m d) rfl
 go_region_held3 (fun w' => w'.cell? ⟨w.heap.size, 0, none⟩ = some (.bool s) /\ w'.cell? ⟨w.heap.size, 1, none⟩ = some (.slice A n c) /\ w'.cell? ⟨w.heap.size + 1, 0, none⟩ = some (.bool t) /\ w'.cell? ⟨w.heap.size + 1, 1, none⟩ = some (.slice B m d)) (first | (go_split_ands; refine ⟨?_, ?_, ?_, ?_⟩ <;> first | (exact Ext.cellv (by assumption) (by assumption)) | (refine (cell_far2 (by omega)).trans ?_; assumption)) | go_keep)
  (first | (go_at_call 120; refine (ref_Neg Hm.out (hy.ext (by first | exact extW | exact extW.drew | exact extW.drewN _ | exact (extW.drew).drew)) hd hdm h2).mono ?_; rintro e w4 ⟨b4, A4, c4, qs, rfl, hr4, hc4, hm4, hi4, hl4, hext4⟩) | (go_at_call 122; refine (ref_Add Hn.out rfl (hx.ext (extW.trans ((Ext.refl W).drew.trans hext4))) hr4 hc hcm hc4 hm4 h1 (by have := Hm.out; omega)).mono ?_; rintro e w3 ⟨b3, A3, c3, rs, rfl, hr3, hc3, hm3, hi3, hl3, hext3⟩; have ext3 := ((Ext.refl W).drew.trans hext4).trans hext3; have bz3 := bz.ext ext3; have z0 := bz3.cell 0 (.bool false) rfl; have z1 := bz3.cell 1 (.slice none 0 0) rfl; have f0 := bz3.frozen 0; have f1 := bz3.frozen 1))
 go_wp2_with fail
 obtain ⟨r1, r2, r3, r4⟩ := fin_pair (b := b3) (n := rs.length) (c := c3) (extW.trans ext3) (by omega) bz3 hr3;exact bodyPost_ret (v := .agg #[.bool b3, .slice A3 rs.length c3]) (by simp [results, Tryz.results164, go_sem, r3, r4]) rfl ⟨b3, A3, c3, rs, rfl, r1, hc3, hm3, by rw [hi4.eq] at hi3; exact hi3, by omega, r2⟩
theorem int_Cmp (hn : xs.length = n) (hm : ys.length = m) (hx : Rd w A xs) (hy : Rd w B ys) (hc : n <= c) (hcm : c <= maxLen) (hd : m <= d) (hdm : d <= maxLen) (h1 : n <= 100000) (h2 : m <= 100000) :
  Calls Tryz.prog 104 #[.agg #[.bool s, .slice A n c], .agg #[.bool t, .slice B m d]] w fun e w' => e = .returned (.int .i64 (ival s xs - ival t ys).sign) /\ Ext w w' := by
 have Hn := Lib.hid hn;have Hm := Lib.hid hm;clear hn hm;have lx := trimL_len xs;have ly := trimL_len ys;have hxt : Rd w A (trimL xs) := by rw [trimL_take]; exact hx.take _
 have hyt : Rd w B (trimL ys) := by rw [trimL_take]; exact hy.take _
 go_enter Tryz.func104, Tryz.ntmps104
 go_upto_region 1 with (fail)
 obtain ⟨W, hW, extW, bx, by_, hz⟩ := box2 w 28 28 #[.bool s, .slice A n c] #[.bool t, .slice B m d];rw [<- hW];clear hW;have x0 := bx.cell 0 (.bool s) rfl;have x1 := bx.cell 1 (.slice A n c) rfl;have y0 := by_.cell 0 (.bool t) rfl;have y1 := by_.cell 1 (.slice B m d) rfl
 go_region_held3 (fun w' => w'.cell? ⟨w.heap.size, 0, none⟩ = some (.bool s) /\ w'.cell? ⟨w.heap.size, 1, none⟩ = some (.slice A n c) /\ w'.cell? ⟨w.heap.size + 1, 0, none⟩ = some (.bool t) /\ w'.cell? ⟨w.heap.size + 1, 1, none⟩ = some (.slice B m d)) (first | (go_split_ands; refine ⟨?_, ?_, ?_, ?_⟩ <;> first | (exact Ext.cellv (by assumption) (by assumption)) | (refine (cell_far2 (by omega)).trans ?_; assumption)) | go_keep)
  (first | (go_at_call_of 72 A; refine (int_Sign Hn.out (hx.ext (by first | exact extW | exact extW.drew | exact extW.drewN _ | exact (extW.drew).drew)) hc hcm h1).mono ?_; rintro e w3 ⟨rfl, hext3⟩) | (go_at_call_of 72 B; refine (int_Sign Hm.out (hy.ext (extW.trans ((Ext.refl W).drew.trans hext3))) hd hdm h2).mono ?_; rintro e w4 ⟨rfl, hext4⟩))
 have ext4 := ((Ext.refl W).drew.trans hext3).trans hext4;have bx4 := bx.ext ext4;have by4 := by_.ext ext4;have extN := extW.trans ext4;clear bx by_ x0 x1 y0 y1 ext4 hext3 hext4 extW;have x1 := bx4.cell 1 (.slice A n c) rfl;have y1 := by4.cell 1 (.slice B m d) rfl;have hx4 := hx.ext extN;have hy4 := hy.ext extN;have hxt4 := hxt.ext extN;have hyt4 := hyt.ext extN
 rename_i hh
 clear hh
 rcases sign_cases (ival s xs) with ⟨ha, ea⟩ | ⟨ha, ea⟩ | ⟨ha, ea⟩ <;> rcases sign_cases (ival t ys) with ⟨hb, eb⟩ | ⟨hb, eb⟩ | ⟨hb, eb⟩
 all_goals
  rw [ea, eb];have Ea := Lib.hid ea;have Eb := Lib.hid eb;have Ha := Lib.hid ha;have Hb := Lib.hid hb;clear ea eb ha hb
  go_wp2_with fail
  first
  | (go_ret
     exact ⟨ret_int (by have := Ha.out; have := Hb.out; first | exact (sign_of_lt (by omega)).symm | exact (sign_of_gt (by omega)).symm), extN⟩)
  | skip
 all_goals
  have hbd := cmpL_bd (trimL xs) (trimL ys);have hbd1 := hbd.1;have hbd2 := hbd.2;clear hbd;have hfin := Lib.hid (cmp_sign hx.1 hy.1 _ Ea.out Eb.out)
  go_region_held3 (fun w' => w'.cell? ⟨w.heap.size, 1, none⟩ = some (.slice A n c) /\ w'.cell? ⟨w.heap.size + 1, 1, none⟩ = some (.slice B m d)) (first | (go_split_ands; refine ⟨?_, ?_⟩ <;> first | (exact Ext.cellv (by assumption) (by assumption)) | (refine (cell_far2 (by omega)).trans ?_; assumption)) | go_keep)
   (first | (go_at_call_of 114 A; refine (int_trimN Hn.out (hx4.ext (by first | exact Ext.refl _ | exact (Ext.refl _).drew)) hc hcm).mono ?_; rintro e w5 ⟨rfl, rfl⟩) | (go_at_call_of 114 B; refine (int_trimN Hm.out (hy4.ext (by first | exact Ext.refl _ | exact (Ext.refl _).drew)) hd hdm).mono ?_; rintro e w5 ⟨rfl, rfl⟩) | (go_at_call 139; refine (int_compare A B c d (trimL xs) (trimL ys) _ (hxt4.ext (by first | exact Ext.refl _ | exact (Ext.refl _).drew)) (hyt4.ext (by first | exact Ext.refl _ | exact (Ext.refl _).drew)) (by have := Hn.out; unfold maxLen; omega) (by have := Hm.out; unfold maxLen; omega)).mono ?_; rintro e w6 ⟨rfl, hext6⟩))
  go_wp2_with fail
  go_ret
  refine ⟨ret_int ?_, extN.trans ((Ext.refl _).drew.trans hext6)⟩;rw [<- hfin.out]
  first | omega | (rw [IntWalk.i64_in _ (by omega)]; omega) | (rw [IntWalk.i64_in _ (by constructor <;> omega)]; omega) | (simp; done)
end
section
variable {A B : Option Addr} {c d n m : Nat} {xs ys : List Nat} {w : World}
theorem clone_blk (hn : xs.length = n) (hx : Rd w A xs) (h0 : 0 < n) (hl : n <= 1000000) :
  Calls Tryz.prog 127 #[.slice A n c] w fun e w' => ∃ g c1, e = .returned (.slice (some ⟨g, 0, none⟩) n c1) /\ BlkN w' g xs /\ w.heap.size <= g /\ n <= c1 /\ c1 <= maxLen /\ Ext w w' := by
 refine (clone hn hx hl).mono ?_;rintro e w' ⟨A1, c1, zs, rfl, ho, hc, hm, rfl, ext⟩
 rcases ho.2 with rfl | ⟨g, rfl, hg, hb⟩
 ·simp at hn; omega
 ·exact ⟨g, c1, by rw [hn], hb, hg, by omega, hm, ext⟩
def Buf (w : World) (g N : Nat) (xs : List Nat) : Prop := ∃ l, BlkN w g (xs ++ l) /\ N <= (xs ++ l).length /\ W32 l
theorem Buf.rd {w : World} {g N : Nat} {xs : List Nat} (h : Buf w g N xs) (hw : W32 xs) : Rd w (some ⟨g, 0, none⟩) xs := by
 obtain ⟨l, h, _⟩ := h;have := (h.take xs.length);rw [List.take_left'  rfl] at this;exact this.rd0 hw
theorem Buf.ext {w w' : World} {g N : Nat} {xs : List Nat} (h : Buf w g N xs) (e : Ext w w') : Buf w' g N xs := by
 obtain ⟨l, h, hl⟩ := h;exact ⟨l, h.ext e, hl⟩
theorem Buf.mod {w w' : World} {g g' N : Nat} {xs : List Nat} (h : Buf w g N xs) (e : Mod w w' g') (hn : g ≠ g') : Buf w' g N xs := by
 obtain ⟨l, h, hl⟩ := h;exact ⟨l, h.mod e hn, hl⟩
theorem Buf.mono {w : World} {g N M : Nat} {xs : List Nat} (h : Buf w g N xs) (hl : M <= N) : Buf w g M xs := by
 obtain ⟨l, h, h2⟩ := h;exact ⟨l, h, by omega, h2.2⟩
theorem Buf.room {w : World} {g N : Nat} {xs : List Nat} (h : Buf w g N xs) (hw : W32 xs) : Buf w g N [] := by
 obtain ⟨l, h, h2, h3⟩ := h;exact ⟨xs ++ l, h, h2, hw.append h3⟩
def look (w : World) : Value -> Nat
 | .slice (some ad) k _ => val ((List.range k).map fun j => match w.cell? ⟨ad.block, ad.off + j, none⟩ with | some (.int _ z) => z.toNat | _ => 0)
 | _ => 0
theorem look_rd {w : World} {g c : Nat} {xs : List Nat} (h : Rd w (some ⟨g, 0, none⟩) xs) : look w (.slice (some ⟨g, 0, none⟩) xs.length c) = val xs := by
 unfold look;refine congrArg val (List.ext_getElem (by simp) fun i h1 h2 => ?_);obtain ⟨b, off, he, _, hc⟩ := h.at_ h2
 injection he with he
 injection he with e1 e2
 subst e1;subst e2;simp only [List.getElem_map, List.getElem_range, hc];simp
structure RInv (w V : World) (n0 G : Nat) (ga gb gs gt ca cb cs ct : Nat) (xs ys : List Nat) : Prop where
 n0 : xs.length <= n0
 wx : W32 xs
 wy : W32 ys
 nx : Nrm xs
 ny : Nrm ys
 le : val ys <= val xs
 gcd : Nat.gcd (val xs) (val ys) = G
 bx : Buf V ga xs.length xs
 by_ : Buf V gb xs.length ys
 bs : Buf V gs xs.length []
 bt : Buf V gt xs.length []
 caps : xs.length <= ca /\ xs.length <= cb /\ xs.length <= cs /\ xs.length <= ct
 maxs : ca <= maxLen /\ cb <= maxLen /\ cs <= maxLen /\ ct <= maxLen
 ne : ga ≠ gb /\ ga ≠ gs /\ ga ≠ gt /\ gb ≠ gs /\ gb ≠ gt /\ gs ≠ gt
 lo : w.heap.size <= ga /\ w.heap.size <= gb /\ w.heap.size <= gs /\ w.heap.size <= gt
 ext : Ext w V
theorem RInv.lens {w V : World} {n0 G ga gb gs gt ca cb cs ct : Nat} {xs ys : List Nat} (h : RInv w V n0 G ga gb gs gt ca cb cs ct xs ys) : ys.length <= xs.length := by
 refine Nat.le_of_not_lt fun hlt => ?_
 have h1 := h.ny.ge (by rintro rfl; simp at hlt);have h2 := val_lt h.wx;have h3 : 4294967296 ^ xs.length <= 4294967296 ^ (ys.length - 1) := Nat.pow_le_pow_right (by omega) (by omega);have h4 := h.le;generalize 4294967296 ^ xs.length = p at *;generalize 4294967296 ^ (ys.length - 1) = q at *;omega
theorem bits_many {xs : List Nat} (hw : W32 xs) (hn : Nrm xs) (h : 3 <= xs.length) : 62 <= bitsN xs := by
 refine Nat.le_of_not_lt fun hlt => ?_
 have h1 := (bitsN_spec hw hn (by omega)).2.2.1;have h2 := hn.ge (by rintro rfl; simp at h);have h3 : 2 ^ bitsN xs <= 2 ^ 62 := Nat.pow_le_pow_right (by omega) (by omega);have h4 : 4294967296 ^ 2 <= 4294967296 ^ (xs.length - 1) := Nat.pow_le_pow_right (by omega) (by omega);have h5 : (2 : Nat) ^ 62 = 4611686018427387904 := by decide
 have h6 : (4294967296 : Nat) ^ 2 = 18446744073709551616 := by decide
 generalize 4294967296 ^ (xs.length - 1) = p at *;generalize 2 ^ bitsN xs = q at *;omega
theorem RInv.extv {w V V' : World} {n0 G ga gb gs gt ca cb cs ct : Nat} {xs ys : List Nat} (h : RInv w V n0 G ga gb gs gt ca cb cs ct xs ys) (e : Ext V V') : RInv w V' n0 G ga gb gs gt ca cb cs ct xs ys :=
 ⟨h.n0, h.wx, h.wy, h.nx, h.ny, h.le, h.gcd, h.bx.ext e, h.by_.ext e, h.bs.ext e, h.bt.ext e, h.caps, h.maxs, h.ne, h.lo, h.ext.trans e⟩
theorem RInv.divide {w V V' : World} {n0 G ga gb gs gt ca cb cs ct : Nat} {xs ys rs l : List Nat} (h : RInv w V n0 G ga gb gs gt ca cb cs ct xs ys) (h3 : 0 < ys.length) (hw : W32 rs) (hn : Nrm rs) (hv : val rs = val xs % val ys) (hl : ys.length <= (rs ++ l).length) (hwl : W32 l)
  (hb : BlkN V' ga (rs ++ l)) (md : Mod V V' ga) : RInv w V' n0 G gb ga gs gt cb ca cs ct ys rs /\ val ys + val rs < val xs + val ys := by
 have hlen := h.lens
 have hpos : 0 < val ys := by
  have := h.ny.ge (by rintro rfl; simp at h3);have h2 : 0 < 4294967296 ^ (ys.length - 1) := Nat.pow_pos (by omega);omega
 have hlt := Nat.mod_lt (val xs) hpos;rw [<- hv] at hlt;obtain ⟨c1, c2, c3, c4⟩ := h.caps;obtain ⟨m1, m2, m3, m4⟩ := h.maxs;obtain ⟨n1, n2, n3, n4, n5, n6⟩ := h.ne;obtain ⟨l1, l2, l3, l4⟩ := h.lo;have h0 := h.n0;have hle := h.le;refine ⟨⟨by omega, h.wy, hw, h.ny, hn, by omega, ?_, (h.by_.mod md (Ne.symm n1)).mono hlen, ⟨l, hb, hl, hwl⟩, (h.bs.mod md (Ne.symm n2)).mono hlen, (h.bt.mod md (Ne.symm n3)).mono hlen, ⟨by omega, by omega, by omega, by omega⟩, ⟨m2, m1, m3, m4⟩, ⟨Ne.symm n1, n4, n5, n2, n3, n6⟩, ⟨l2, l1, l3, l4⟩, Mod.ext h.ext md l1⟩, by omega⟩;rw [hv, <- h.gcd, Nat.gcd_comm (val xs), Nat.gcd_rec (val ys) (val xs), Nat.gcd_comm]
theorem RInv.lehmer {w V V' : World} {n0 G ga gb gs gt ca cb cs ct R S : Nat} {xs ys zs us : List Nat} (h : RInv w V n0 G ga gb gs gt ca cb cs ct xs ys) (hb1 : BlkN V' gs zs) (hb2 : BlkN V' gt us) (hz : zs.length = xs.length) (hu : us.length = xs.length) (hzw : W32 zs) (huw : W32 us) (hR : val zs = R) (hS : val us = S)
  (hlt : S < R) (hsum : R + S <= val xs) (hg : Nat.gcd R S = Nat.gcd (val xs) (val ys)) (hy0 : 0 < val ys) (ba : Buf V' ga xs.length xs) (bb : Buf V' gb xs.length []) (e : Ext w V') : RInv w V' n0 G gs gt ga gb cs ct ca cb (trimL zs) (trimL us) /\ val (trimL zs) + val (trimL us) < val xs + val ys := by
 obtain ⟨c1, c2, c3, c4⟩ := h.caps;obtain ⟨m1, m2, m3, m4⟩ := h.maxs;obtain ⟨n1, n2, n3, n4, n5, n6⟩ := h.ne;obtain ⟨l1, l2, l3, l4⟩ := h.lo;have h0 := h.n0;have t1 : (trimL zs).length <= xs.length := by rw [<- hz]; exact trimL_len zs
 have t2 : (trimL us).length <= us.length := trimL_len us;rw [val_trimL, val_trimL, hR, hS];refine ⟨⟨by omega, hzw.trimL, huw.trimL, Nrm.trimL _, Nrm.trimL _, by rw [val_trimL, val_trimL]; omega, by rw [val_trimL, val_trimL, hR, hS, hg]; exact h.gcd, ?_, ?_, (ba.room h.wx).mono t1, bb.mono t1, ⟨by omega, by omega, by omega, by omega⟩, ⟨m3, m4, m1, m2⟩, ⟨n6, Ne.symm n2, Ne.symm n4, Ne.symm n3, Ne.symm n5, n1⟩, ⟨l3, l4, l1, l2⟩, e⟩, by omega⟩
 ·refine ⟨zs.drop (trimL zs).length, ?_, ?_⟩
  ·have e1 := List.take_append_drop (trimL zs).length zs
   rw [<- trimL_take zs] at e1;rw [e1]; exact hb1
  ·refine ⟨by simp; try omega, fun x hx => hzw x (List.mem_of_mem_drop hx)⟩
 ·refine ⟨us.drop (trimL us).length, ?_, ?_⟩
  ·have e1 := List.take_append_drop (trimL us).length us
   rw [<- trimL_take us] at e1;rw [e1]; exact hb2
  ·refine ⟨by simp; try omega, fun x hx => huw x (List.mem_of_mem_drop hx)⟩
def RetRd (x y n : Nat) (w : World) (e : Ending) (w' : World) : Prop :=
 ∃ A' c' zs B' d' us, e = .returned (.tuple #[.slice A' (List.length zs) c', .slice B' (List.length us) d']) /\ Rd w' A' zs /\ Rd w' B' us /\ zs.length <= c' /\ c' <= maxLen /\ us.length <= d' /\ d' <= maxLen /\ Nrm zs /\ Nrm us /\ val us <= val zs /\ us.length <= 2 /\ zs.length <= n /\ Nat.gcd (val zs) (val us) = Nat.gcd x y /\ Ext w w'
set_option maxRecDepth 100000 in
theorem int_reduce (hn : xs.length = n) (hm : ys.length = m) (hx : Rd w A xs) (hy : Rd w B ys) (hnx : Nrm xs) (hny : Nrm ys) (hle : val ys <= val xs) (hmn : m <= n) (h2 : 2 < m) (h1 : n <= 3000) :
  Calls Tryz.prog 150 #[.slice A n c, .slice B m d] w (RetRd (val xs) (val ys) n w) := by
 have Hn := Lib.hid hn;have Hm := Lib.hid hm;have Hle := Lib.hid hle;clear hn hm hle;have hx0 := Lib.hid hx.1;have hy0 := Lib.hid hy.1
 have hmk1 : ∀ W : World, (Instr.makeSlice 105 (.int .i64 0) (.int .i64 (n : Int))).run Tryz.prog W = .ok (.slice (some ⟨W.heap.size, 0, none⟩) 0 n) (W.alloc (.cells (madeCells #[.int .u32 0] n) 89)) := fun W => by
  obtain ⟨i0, hi, hz0, hz1, hz2⟩ := info_parts Tryz.infoW;have := run_make_rowN (P := Tryz.prog) 105 89 i0 (.int .u32 0) Tryz.underlying105 hi hz0 .i64 .i64 0 n (by omega) (by rw [hz2]; omega) (by omega) W;rw [hz1, Nat.mul_one] at this;exact this
 have hmk2 : ∀ W : World, (Instr.makeSlice 105 (.int .i64 (n : Int)) (.int .i64 (n : Int))).run Tryz.prog W = .ok (.slice (some ⟨W.heap.size, 0, none⟩) n n) (W.alloc (.cells (madeCells #[.int .u32 0] n) 89)) := fun W =>
  mk_words 105 Tryz.underlying105 n (by omega) W
 go_enter Tryz.func150, Tryz.ntmps150
 go_upto_region 2 with (fail)
 go_cut [0, 1] (fun a b V => ∃ ga gb ca, a = .slice (some ⟨ga, 0, none⟩) n ca /\ b = .slice (some ⟨gb, 0, none⟩) m n /\ BlkN V ga xs /\ BlkN V gb (ys ++ List.drop m (List.replicate n 0)) /\ w.heap.size <= ga /\ w.heap.size <= gb /\ ga ≠ gb /\ n <= ca /\ ca <= maxLen /\ Ext w V)
 case first =>
  go_region_held3 (fun w' => Ext w w') (first | exact (by assumption : Ext w _) | exact (Ext.refl w).drew | exact (Ext.refl w).drew.alloc _ | exact Ext.alloc (by assumption) _ | exact Ext.trans (Ext.refl w).drew (by assumption) | exact Ext.trans ((Ext.refl w).drew.alloc _) (by assumption) | go_keep)
   (first
    | (go_at_call 127; refine (clone_blk Hn.out (hx.ext (by first | exact (Ext.refl w).drew | exact (Ext.refl w).drew.alloc _)) (by omega) (by omega)).mono ?_; rintro e w1 ⟨g1, c1, rfl, hb1, hg1, hc1, hm1, ext1⟩)
    | (refine step_append_fill (ns := List.replicate n 0) (by rfl) _ _ _ (by rfl) Tryz.underlying105 (by rfl) (by first | exact BlkN.new _ n | exact BlkN.ext (w := (w.alloc _).drew) (BlkN.new w n) (by assumption)) (by rfl) Hm.out (hy.ext (by first | exact Ext.alloc (Ext.trans (Ext.refl w).drew (by assumption)) _ | exact Ext.trans ((Ext.refl w).alloc _).drew (by assumption))) (by rw [List.length_replicate]; omega) (by omega) ?_; rintro w2 hb2 md2; have ext2 : Ext w w2 := by first | exact Mod.ext (Ext.alloc (Ext.trans (Ext.refl w).drew (by assumption)) _) md2 (Ext.trans (Ext.refl w).drew (by assumption)).size | exact Mod.ext (Ext.trans ((Ext.refl w).alloc _).drew (by assumption)) md2 (Nat.le_refl _)))
  ·go_wp2_with fail
   go_meet
   have hlt := hb1.lt;exact ⟨g1, w1.heap.size, c1, rfl, rfl, (hb1.ext ((Ext.refl w1).alloc _)).mod md2 (by omega), hb2, hg1, ext1.size, by omega, hc1, hm1, ext2⟩
  ·go_wp2_with fail
   go_meet
   have hg2 : w.heap.size + 1 <= g1 := by simpa using hg1
   exact ⟨g1, w.heap.size, c1, rfl, rfl, hb1.mod md2 (by omega), hb2, by omega, Nat.le_refl _, by omega, hc1, hm1, ext2⟩
 case rest =>
  clear hx hy;obtain ⟨ga, gb, ca, rfl, rfl, hba, hbb, hga, hgb, hne, hca, hcam, ext1⟩ := hcut
  go_upto_region 3 with (fail)
  go_cut [7, 8] (fun a b V => ∃ gs gt, a = .slice (some ⟨gs, 0, none⟩) n n /\ b = .slice (some ⟨gt, 0, none⟩) n n /\ RInv w V n (Nat.gcd (val xs) (val ys)) ga gb gs gt ca n n n xs ys)
  case first =>
   go_region_held3 (fun w' => Ext wc w') (first | exact (by assumption : Ext wc _) | exact (Ext.refl wc).drew | exact (Ext.refl wc).drew.alloc _ | exact Ext.alloc (by assumption) _ | go_keep) (fail)
   all_goals (go_wp2_with fail; go_meet)
   all_goals (
    have hn := Hn.out;have hm := Hm.out;have l1 := hba.lt;have l2 := hbb.lt;have e0 := ext1.size;have k1 : Ext wc (((wc.alloc (.cells (madeCells #[.int .u32 0] n) 89)).alloc (.cells (madeCells #[.int .u32 0] n) 89)).drew) := (((Ext.refl wc).alloc _).alloc _).drew;have b1 : BlkN (((wc.alloc (.cells (madeCells #[.int .u32 0] n) 89)).alloc (.cells (madeCells #[.int .u32 0] n) 89)).drew) wc.heap.size (List.replicate n 0) := (BlkN.new wc n).ext (((Ext.refl _).alloc _).drew)
    have b2 : BlkN (((wc.alloc (.cells (madeCells #[.int .u32 0] n) 89)).alloc (.cells (madeCells #[.int .u32 0] n) 89)).drew) (wc.heap.size + 1) (List.replicate n 0) := by
     have := BlkN.new (wc.alloc (.cells (madeCells #[.int .u32 0] n) 89)) n;rw [show (wc.alloc (.cells (madeCells #[.int .u32 0] n) 89)).heap.size = wc.heap.size + 1 by simp] at this;exact this
    refine ⟨_, _, rfl, rfl, ⟨by omega, hx0.out, hy0.out, hnx, hny, Hle.out, rfl, ?_, ?_, ?_, ?_, by omega, by unfold maxLen at *; omega, by omega, by omega, ext1.trans k1⟩⟩
    ·exact ⟨[], by rw [List.append_nil]; exact hba.ext k1, by simp, fun x hx => by cases hx⟩
    ·exact ⟨_, hbb.ext k1, by simp; omega, fun x hx => W32.replicate n x (List.mem_of_mem_drop hx)⟩
    ·exact ⟨List.replicate n 0, by first | exact b1 | exact b2, by simp; omega, W32.replicate n⟩
    ·exact ⟨List.replicate n 0, by first | exact b1 | exact b2, by simp; omega, W32.replicate n⟩)
  case rest =>
   clear hba hbb ext1;obtain ⟨gs, gt, rfl, rfl, hI⟩ := hcut;have HI := Lib.hid hI;clear hI hnx hny
   go_wp2_with fail
   go_loopw [0, 1, 7, 8] (fun a b sa sb V => ∃ (ga gb gs gt ca cb cs ct ps pt : Nat) (us vs : List Nat), a = .slice (some ⟨ga, 0, none⟩) us.length ca /\ b = .slice (some ⟨gb, 0, none⟩) vs.length cb /\ sa = .slice (some ⟨gs, 0, none⟩) ps cs /\ sb = .slice (some ⟨gt, 0, none⟩) pt ct /\ RInv w V n (Nat.gcd (val xs) (val ys)) ga gb gs gt ca cb cs ct us vs) (fun a b _ _ V => look V a + look V b)
   case atStart => exact ⟨ga, gb, gs, gt, ca, n, n, n, n, n, xs, ys, by rw [Hn.out], by rw [Hm.out], rfl, rfl, HI.out⟩
   case round =>
    clear HI;obtain ⟨ga, gb, gs, gt, ca, cb, cs, ct, ps, pt, us, vs, rfl, rfl, rfl, rfl, hI⟩ := hrel;have hru := hI.bx.rd hI.wx;have hrv := hI.by_.rd hI.wy;have hn0 := hI.n0;have HI := Lib.hid hI;clear hI
    by_cases h3 : vs.length <= 2
    ·go_wp2_with fail
     have hI := HI.out;have hc := hI.caps;have hm := hI.maxs;have hlb : vs.length <= us.length := hI.lens;exact bodyPost_ret (v := .tuple #[.slice (some ⟨ga, 0, none⟩) us.length ca, .slice (some ⟨gb, 0, none⟩) vs.length cb]) (by simp [results, Tryz.results150, go_sem]) rfl ⟨_, ca, us, _, cb, vs, rfl, hru, hrv, by omega, by omega, by omega, by omega, hI.nx, hI.ny, hI.le, h3, hn0, hI.gcd, hI.ext⟩
    ·have hlb : vs.length <= us.length := HI.out.lens
     have hb := bitsN_spec HI.out.wx HI.out.nx (by omega);have hb65 : 62 <= bitsN us := bits_many HI.out.wx HI.out.nx (by omega);obtain ⟨k, hk⟩ : ∃ k, bitsN us = k + 62 := ⟨bitsN us - 62, by omega⟩;have hkb : k <= 100000 := by omega
     have hwx : val us / 2 ^ k < 4611686018427387904 := by
      refine Nat.div_lt_of_lt_mul ?_;have := hb.2.2.1;rw [hk, Nat.pow_add] at this;exact this
     have hwy : val vs / 2 ^ k <= val us / 2 ^ k := Nat.div_le_div_right HI.out.le;obtain ⟨a0, ha0⟩ : ∃ a0, val us / 2 ^ k = a0 := ⟨_, rfl⟩;obtain ⟨b0, hb0⟩ : ∃ b0, val vs / 2 ^ k = b0 := ⟨_, rfl⟩;have Ha0 := Lib.hid ha0;have Hb0 := Lib.hid hb0;rw [ha0] at hwx hwy;rw [hb0] at hwy;have Hk := Lib.hid hk;clear hb hb65 hk ha0 hb0
     go_wp2_with (first | (go_at_call 165; refine (int_bits (n := us.length) rfl hru (by omega)).mono ?_; rintro e w1 ⟨rfl, rfl⟩; rw [Hk.out, show ((k + 62 : Nat) : Int) = (k : Int) + 62 by omega]) | (go_at_call 167; refine (int_window (k := k) rfl (by first | exact hru | exact hrv) (by have := HI.out.caps; omega) (by have := HI.out.maxs; omega) hkb (by omega) (by first | (rw [Ha0.out]; omega) | (rw [Hb0.out]; omega))).mono ?_; rintro e w1 ⟨he, rfl⟩; (first | rw [Ha0.out] at he | rw [Hb0.out] at he); subst he))
     refine (int_simulate hwy hwx).mono ?_;rintro e w2 ⟨x1, y1, x2, y2, rfl, hst, ext2⟩;rw [<- Ha0.out, <- Hb0.out] at hst;have Hst := Lib.hid hst;clear hst
     go_upto_region 7 with (fail)
     obtain ⟨W, hW, extW, bz, hz⟩ := box1 w2 148 #[.int .i64 x1, .int .i64 y1, .int .i64 x2, .int .i64 y2];rw [<- hW];clear hW;have z0 := bz.cell 0 (.int .i64 x1) rfl;have z1 := bz.cell 1 (.int .i64 y1) rfl;have z2 := bz.cell 2 (.int .i64 x2) rfl;have z3 := bz.cell 3 (.int .i64 y2) rfl;have hI2 := HI.out.extv (ext2.trans extW);have HI2 := Lib.hid hI2
     have lts : ga < w2.heap.size /\ gb < w2.heap.size /\ gs < w2.heap.size /\ gt < w2.heap.size := by
      obtain ⟨_, b1, _⟩ := HI.out.bx;obtain ⟨_, b2, _⟩ := HI.out.by_;obtain ⟨_, b3, _⟩ := HI.out.bs;obtain ⟨_, b4, _⟩ := HI.out.bt;have := ext2.size;exact ⟨by have := b1.lt; omega, by have := b2.lt; omega, by have := b3.lt; omega, by have := b4.lt; omega⟩
     have hzlt := bz.lt;clear hI2 ext2 extW hru hrv
     by_cases hy1 : y1 = 0
     ·have hyb : (y1 == 0) = true := by simp [hy1]
      have Hyb := Lib.hid hyb;clear hyb hy1
      go_wp2_with (go_at_call 168; refine (int_none (x1 := x1) (y1 := y1) (x2 := x2) (y2 := y2)).mono ?_; rintro e w3 ⟨he, ext3⟩; rw [Hyb.out] at he; subst he)
      have hI3 := HI2.out.extv ext3;refine (divide_ok _ _ ca cb us.length vs.length us vs _ rfl rfl (hI3.bx.rd hI3.wx) (hI3.by_.rd hI3.wy) (by have := hI3.caps; omega) (by have := hI3.maxs; omega) (by have := hI3.caps; omega) (by have := hI3.maxs; omega) hI3.nx hI3.ny (by omega) (by omega) (by omega)).mono ?_;rintro e w4 ⟨Aq, cq, qs, Ar, cr, rs, rfl, hoq, hor, hcq, hmq, hcr, hmr, ⟨hq1, hr1, hq2, hr2, hq3, hr3⟩, ext4⟩;have hI4 := hI3.extv ext4;have HI4 := Lib.hid hI4;have Hr1 := Lib.hid hr1;obtain ⟨l, hbl, hll, hlw⟩ := hI4.bx;have hrr := hor.rd;have hw4 := hor.1;clear hI4 hI3 hq1 hr1 hoq
      go_wp2_with (at_builtin; refine wpList_append_fill rfl _ _ _ rfl Tryz.underlying105 rfl hbl rfl rfl hrr (by simp; omega) (by have := HI4.out.caps; omega) ?_; intro w5 hb5 md5)
      obtain ⟨hnew, hdec⟩ := HI4.out.divide (by omega) hw4 hr2 Hr1.out (by simp; omega) (fun x hx => (HI4.out.wx.append hlw) x (List.mem_of_mem_drop hx)) hb5 md5;refine ⟨⟨gb, ga, gs, gt, cb, ca, cs, ct, ps, pt, vs, rs, rfl, rfl, rfl, rfl, hnew⟩, ?_⟩;rw [look_rd (hnew.bx.rd hnew.wx), look_rd (hnew.by_.rd hnew.wy), look_rd (HI.out.bx.rd HI.out.wx), look_rd (HI.out.by_.rd HI.out.wy)];exact hdec
     ·have hyb : (y1 == 0) = false := by simp [hy1]
      have Hyb := Lib.hid hyb;have Hu := Lib.hid (Hst.out.use hy1 (by rw [Ha0.out]; exact hwx));clear hyb hy1 Hst Ha0 Hb0 hwx hwy;obtain ⟨hcap1, hcap2, hcap3, hcap4⟩ := HI2.out.caps;obtain ⟨hmax1, hmax2, hmax3, hmax4⟩ := HI2.out.maxs
      go_upto_region 12 with (go_at_call 168; refine (int_none (x1 := x1) (y1 := y1) (x2 := x2) (y2 := y2)).mono ?_; rintro e w3 ⟨he, ext3⟩; rw [Hyb.out] at he; subst he)
      have hbv : BlkN w3 gb (vs ++ List.replicate (us.length - vs.length) 0 ++ []) \/ True := .inr trivial;obtain ⟨l, hbl, hll, _⟩ := (HI2.out.extv ext3).by_;have hbl2 := hbl.take us.length;have hq : vs.length + (us.length - vs.length) = ((vs ++ l).take us.length).length := by rw [List.length_take]; omega
      have hbe : ((vs ++ l).take us.length).take vs.length = vs := by rw [List.take_take, Nat.min_eq_left hlb, List.take_left' rfl]
      obtain ⟨w4, hb4, md4, hcl⟩ := run_clear_words 105 0 Tryz.underlying105 hbl2 hq.symm.symm;rw [hbe] at hb4;have Hcl := Lib.hid hcl;clear hq hbe hbl hbl2 hll hbv hcl
      go_cut [] (fun V => V = w4)
      case first =>
       by_cases hcv : cb = vs.length
       ·subst hcv
        go_wp2_with fail
        have hz0 : us.length - vs.length = 0 := by omega
        have H0 := Hcl.out 0 0 (.inr hz0);rw [hz0] at H0;rw [H0];clear hz0 H0
        go_wp2_with fail
        go_meet
        try rfl
       ·go_wp2_with fail
        all_goals (first | omega | (rw [Hcl.out _ _ (by omega)]; go_wp2_with fail; go_meet; try rfl))
      case rest =>
       subst hcut;have hI3 := HI2.out.extv ext3;have b3a := hI3.bx.mod md4 hI3.ne.1;have b3s := hI3.bs.mod md4 (Ne.symm hI3.ne.2.2.2.1);have b3t := hI3.bt.mod md4 (Ne.symm hI3.ne.2.2.2.2.1);have z0 := (md4.cell (by show w2.heap.size < w3.heap.size; have := ext3.size; omega) (by show w2.heap.size ≠ gb; omega)).trans (ext3.cellv z0);have z1 := (md4.cell (by show w2.heap.size < w3.heap.size; have := ext3.size; omega) (by show w2.heap.size ≠ gb; omega)).trans (ext3.cellv z1);have z2 := (md4.cell (by show w2.heap.size < w3.heap.size; have := ext3.size; omega) (by show w2.heap.size ≠ gb; omega)).trans (ext3.cellv z2);have z3 := (md4.cell (by show w2.heap.size < w3.heap.size; have := ext3.size; omega) (by show w2.heap.size ≠ gb; omega)).trans (ext3.cellv z3);obtain ⟨R, S, hR, hS, hlt, hsum, hg, hs1, hs2, ⟨p1, p2, p3, p4⟩, q1, q2, q3, q4⟩ := Hu.out;have hvp : val (vs ++ List.replicate (us.length - vs.length) 0) = val vs := by rw [val_append, val_replicate, Nat.mul_zero, Nat.add_zero]
       have hyl : (vs ++ List.replicate (us.length - vs.length) 0).length = us.length := by simp; omega
       have hyw : W32 (vs ++ List.replicate (us.length - vs.length) 0) := W32.append hI3.wy (W32.replicate _);obtain ⟨e1, e2, e3, e4, e5, e6⟩ := hI3.ne;generalize vs ++ List.replicate (us.length - vs.length) 0 = yz at *;have Hvp := Lib.hid hvp;have Hyl := Lib.hid hyl;rw [<- hvp] at hR hS;have HR := Lib.hid hR;have HS := Lib.hid hS;have Hlt := Lib.hid hlt;have Hsum := Lib.hid hsum;have Hg := Lib.hid hg;have hba := b3a.rd hI3.wx;have hbb := hb4.rd0 hyw;obtain ⟨ls, hbs, hls, hlsw⟩ := b3s;obtain ⟨lt, hbt, hlt2, hltw⟩ := b3t;rw [List.nil_append] at hbs hls hbt hlt2;have hbs2 := hbs.take us.length;have hbt2 := hbt.take us.length;have HI3 := Lib.hid hI3;clear hR hS hlt hsum hg hvp hyl hI3 Hu hbs hbt;have hlR : R < 4294967296 ^ us.length := by have := val_lt HI3.out.wx; have := Hsum.out; omega
       have hlS : S < 4294967296 ^ us.length := by have := Hlt.out; omega
       have HlR := Lib.hid hlR;have HlS := Lib.hid hlS;clear hlR hlS;have hls1 : (ls.take us.length).length = us.length := by rw [List.length_take]; omega
       have hlt1 : (lt.take us.length).length = us.length := by rw [List.length_take]; omega
       have Hls1 := Lib.hid hls1;have Hlt1 := Lib.hid hlt1;have hws := hlsw.take us.length;have hwt := hltw.take us.length;have hap1 : Apart (some ⟨ga, 0, none⟩) us gs := fun _ a ha => by injection ha with ha; subst ha; exact e2
       have hap2 : Apart (some ⟨gb, 0, none⟩) yz gs := fun _ a ha => by injection ha with ha; subst ha; exact e4
       have hap3 : Apart (some ⟨ga, 0, none⟩) us gt := fun _ a ha => by injection ha with ha; subst ha; exact e3
       have hap4 : Apart (some ⟨gb, 0, none⟩) yz gt := fun _ a ha => by injection ha with ha; subst ha; exact e5
       generalize ls.take us.length = l1 at *;generalize lt.take us.length = l2 at *;clear hls1 hlt1
       go_upto_region 13 with (fail)
       have hgz : w2.heap.size < wc.heap.size := cell_lt z0;have ne1 : w2.heap.size ≠ gs := by omega
       have ne2 : w2.heap.size ≠ gt := by omega
       go_region_held3 (fun w' => w'.cell? ⟨w2.heap.size, 0, none⟩ = some (.int .i64 x1) /\ w'.cell? ⟨w2.heap.size, 1, none⟩ = some (.int .i64 y1)) (first | (go_split_ands; refine ⟨?_, ?_⟩ <;> assumption) | go_keep)
        ((go_at_call 169; refine (int_combine (w := wc.drew) (n := us.length) (xs := us) (ys := yz) (hbs2.ext (Ext.refl wc).drew) Hls1.out hws (hba.ext (Ext.refl wc).drew) rfl hap1 (hbb.ext (Ext.refl wc).drew) Hyl.out hap2 hs1 p1 p2 p3 p4 HR.out HlR.out (by omega) hcap1 hmax1 hcap2 hmax2 hcap3 hmax3).mono ?_; rintro e w5 ⟨zs, rfl, hzl, hzb, hzw, hzv, md5⟩; have t0 := (md5.cell hgz ne1).trans z0; have t1 := (md5.cell hgz ne1).trans z1; have t2 := (md5.cell hgz ne1).trans z2; have t3 := (md5.cell hgz ne1).trans z3))
       have M5 : Mod wc w5 gs := ((Ext.refl wc).drew.mod gs).trans md5;have c5a := hba.mod M5 hap1;have c5b := hbb.mod M5 hap2;have c5t := hbt2.mod M5 (Ne.symm e6);have b5a := b3a.mod M5 e2;have b5b := hb4.mod M5 e4;have hg5 : w2.heap.size < w5.heap.size := cell_lt t0;have Hzl := Lib.hid hzl;have Hzv := Lib.hid hzv;clear hzl hzv z0 z1 z2 z3 hba hbb hbt2 hbs2 b3a hb4
       go_upto_region 14 with (fail)
       go_region_held3 (fun w' => w'.cell? ⟨w2.heap.size, 2, none⟩ = some (.int .i64 x2) /\ w'.cell? ⟨w2.heap.size, 3, none⟩ = some (.int .i64 y2)) (first | (go_split_ands; refine ⟨?_, ?_⟩ <;> assumption) | go_keep)
        ((go_at_call 169; refine (int_combine (w := w5.drew) (n := us.length) (xs := us) (ys := yz) (c5t.ext (Ext.refl w5).drew) Hlt1.out hwt (c5a.ext (Ext.refl w5).drew) rfl hap3 (c5b.ext (Ext.refl w5).drew) Hyl.out hap4 hs2 q1 q2 q3 q4 HS.out HlS.out (by omega) hcap1 hmax1 hcap2 hmax2 hcap4 hmax4).mono ?_; rintro e w6 ⟨ts, rfl, htl, htw, htb, htv, md6⟩; have v2 := (md6.cell hg5 ne2).trans t2; have v3 := (md6.cell hg5 ne2).trans t3))
       have M6 : Mod w5 w6 gt := ((Ext.refl w5).drew.mod gt).trans md6;have hI3 := HI3.out;have E4 := Mod.ext hI3.ext md4 hI3.lo.2.1;have E5 := Mod.ext E4 M5 hI3.lo.2.2.1;have E6 := Mod.ext E5 M6 hI3.lo.2.2.2
       have hvs : 0 < val vs := by
        have := hI3.ny.ge (by rintro rfl; simp at h3);have h5 : 0 < 4294967296 ^ (vs.length - 1) := Nat.pow_pos (by omega);omega
       obtain ⟨hnew, hdec⟩ := hI3.lehmer (hzw.mod M6 e6) htb Hzl.out htl hzb htw Hzv.out htv Hlt.out Hsum.out Hg.out hvs (b5a.mod M6 e3) ⟨yz, b5b.mod M6 e5, by have := Hyl.out; rw [List.nil_append]; omega, hyw⟩ E6;have HN := Lib.hid (And.intro hnew hdec);clear hnew hdec hI3 E4 E5 E6 htl htv
       go_wp2_with fail
       obtain ⟨hnew, hdec⟩ := HN.out;refine ⟨⟨gs, gt, ga, gb, cs, ct, ca, cb, _, _, trimL zs, trimL ts, rfl, rfl, rfl, rfl, hnew⟩, ?_⟩;rw [look_rd (hnew.bx.rd hnew.wx), look_rd (hnew.by_.rd hnew.wy), look_rd (HI.out.bx.rd HI.out.wx), look_rd (HI.out.by_.rd HI.out.wy)];exact hdec
end
end
end Go.Proofs.YtijdljfnmdoffaaGreatDoor
