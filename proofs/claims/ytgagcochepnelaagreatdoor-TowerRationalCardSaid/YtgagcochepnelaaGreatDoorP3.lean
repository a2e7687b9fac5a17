/- Walks and laws, a part. -/
import Derived.Test.YtgagcochepnelaaGreatDoorP1
import Derived.Test.YtgagcochepnelaaGreatDoorP2
import Derived.Test.YtgagcochepnelaaGreatDoorP0
import Derived.Lib.ItoaNum
import Derived.Shelf.Spec.TrailingZeros
set_option linter.unusedSimpArgs false
set_option linter.unusedVariables false
set_option maxHeartbeats 64000000
namespace Go.Proofs.YtgagcochepnelaaGreatDoor
section
open Go.RowKit
theorem sm_low {z s : Nat} {S : Int} (hS : S = s) (hz : z < 4294967296) (h : ¬ s % 4294967296 <= z) : IntKind.u64.wrap ((z : Int) - S % 4294967296) % 4294967296 = ((z + 4294967296 - s % 4294967296 : Nat) : Int) := by
 subst hS; rw [IntKind.wrap_u64]; omega
theorem sm_top {z s : Nat} {S : Int} (hS : S = s) (hz : z < 4294967296) (h : ¬ s % 4294967296 <= z) : IntKind.u64.wrap ((z : Int) - S % 4294967296) / 9223372036854775808 = 1 := by
 subst hS; rw [IntKind.wrap_u64]; omega
theorem sm_low0 {z s : Nat} {S : Int} (hS : S = s) (hz : z < 4294967296) (h : s % 4294967296 <= z) : IntKind.u64.wrap ((z : Int) - S % 4294967296) % 4294967296 = ((z - s % 4294967296 : Nat) : Int) := by
 subst hS; rw [IntKind.wrap_u64]; omega
theorem sm_car0 {z s : Nat} {S : Int} (hS : S = s) (hz : z < 4294967296) (h : s % 4294967296 <= z) (hs : s <= 18446744069414584320) : IntKind.u64.wrap (S / 4294967296 + IntKind.u64.wrap ((z : Int) - S % 4294967296) / 9223372036854775808) = ((s / 4294967296 + 0 : Nat) : Int) := by
 subst hS; rw [IntKind.wrap_u64, IntKind.wrap_u64]; omega
theorem sm_car1 {z s : Nat} {S : Int} (hS : S = s) (hz : z < 4294967296) (h : ¬ s % 4294967296 <= z) (hs : s <= 18446744069414584320) : IntKind.u64.wrap (S / 4294967296 + IntKind.u64.wrap ((z : Int) - S % 4294967296) / 9223372036854775808) = ((s / 4294967296 + 1 : Nat) : Int) := by
 rw [sm_top hS hz h]; subst hS; rw [IntKind.wrap_u64]; omega
theorem sm_end_low {z c : Nat} (hz : z < 4294967296) (hc : c < 4294967296) (h : ¬ c <= z) : IntKind.u64.wrap ((z : Int) - (c : Int)) % 4294967296 = ((z + 4294967296 - c : Nat) : Int) := by
 rw [IntKind.wrap_u64]; omega
theorem sm_end_top {z c : Nat} (hz : z < 4294967296) (hc : c < 4294967296) (h : ¬ c <= z) : IntKind.u64.wrap ((z : Int) - (c : Int)) / 9223372036854775808 = 1 := by
 rw [IntKind.wrap_u64]; omega
section
variable {A B : Option Addr} {c d m : Nat} {xs ys : List Nat} {w : World}
theorem int_subtractMultiple {g off n cz : Nat} {pre zs0 post : List Nat} {q : Nat} (hblk0 : BlkN w g (pre ++ zs0 ++ post)) (hoff : pre.length = off) (hn : zs0.length = n) (hw : W32 zs0) (hy : Rd w B ys) (hm : ys.length = m) (hap : Apart B ys g)
  (hl : m + 1 = n) (hq : q < 4294967296) (h1 : n <= 1000000) (hcz : n <= cz) (_hczm : cz <= maxLen) :
  Calls Tryz.prog 179 #[.slice (some ⟨g, off, none⟩) n cz, .slice B m d, .int .u32 (q : Int)] w fun e w' => ∃ (zs : List Nat) (b : Nat), e = .returned (.bool (decide (b = 1))) /\ b <= 1 /\ zs.length = n /\ W32 zs /\ BlkN w' g (pre ++ zs ++ post) /\ val zs + val ys * q = val zs0 + 4294967296 ^ n * b /\ Mod w w' g := by
 have Hoff := Lib.hid hoff;have Hn := Lib.hid hn;have Hm := Lib.hid hm;clear hoff hn hm;have hmcz : m <= cz := by omega
 go_enter Tryz.func179, Tryz.ntmps179
 go_wp2
 go_loopw [7, 19] (fun cr i wr => ∃ (k : Nat) (zs : List Nat) (cy : Nat), k <= m /\ i = .int .i64 (k : Int) /\ cr = .int .u64 (cy : Int) /\ SmInv zs0 ys q k zs cy /\ BlkN wr g (pre ++ zs ++ post) /\ Mod w wr g) (fun _ i _ => m - (intOf i).toNat)
 case atStart => exact ⟨0, zs0, 0, by omega, rfl, rfl, SmInv.start hw, hblk0, Mod.refl _ _⟩
 case round =>
  obtain ⟨k, zs, cy, hk, rfl, rfl, hinv, hblk, hmod⟩ := hrel;have hcy := hinv.hcy;have hzl : n <= zs.length := by rw [hinv.len, Hn.out]; omega
  have hzl2 : zs.length <= n := by rw [hinv.len, Hn.out]; omega
  have hyl : m <= ys.length := by rw [Hm.out]; omega
  have hyl2 : ys.length <= m := by rw [Hm.out]; omega
  by_cases hlt : k < m
  ·obtain ⟨b, off', rfl, hb, hc1⟩ := (hy.mod hmod hap).at_ (i := k) (by omega)
   have hyk := hy.1.get (k := k) (by omega);obtain ⟨b2, off2, he, hb2, hc2⟩ := (hblk.mid hinv.w32 Hoff.out).at_ (i := k) (by omega)
   injection he with he
   injection he with he1 he2
   subst he1; subst he2;have hzk := hinv.w32.get (k := k) (by omega);have hfz := hblk.frozen (off + k);have hmi := (mul_word_int hyk hq).1;have hmj := (mul_word_int hyk hq).2;have hS : (cy : Int) + ((ys[k]'(by omega) : Nat) : Int) * (q : Int) = ((cy + ys[k]'(by omega) * q : Nat) : Int) := by rw [Int.natCast_add, Int.natCast_mul]
   have hsl : cy + ys[k]'(by omega) * q <= 18446744069414584320 := by
    have := mul_word hyk hq;omega
   have hst : ∀ (dd bb : Nat), dd < 4294967296 -> bb <= 1 -> dd + (cy + ys[k]'(by omega) * q) % 4294967296 = zs[k]'(by omega) + 4294967296 * bb -> SmInv zs0 ys q (k + 1) (zs.set k dd) ((cy + ys[k]'(by omega) * q) / 4294967296 + bb) := fun dd bb h1 h2 h3 => hinv.step hy.1 hq (by omega) (by omega) rfl h1 h2 h3
   generalize cy + ys[k]'(by omega) * q = S at hS hsl hst
   by_cases hbor : S % 4294967296 <= zs[k]'(by omega)
   ·have HS := Lib.hid (And.intro hS (And.intro hsl hbor))
    clear hS hsl hbor
    go_wp2
    go_roundw
    case rel =>
     obtain ⟨hS, hsl, hbor⟩ := HS.out;exact ⟨k + 1, zs.set k (zs[k]'(by omega) - S % 4294967296), _, by omega, by go_num, congrArg _ (sm_car0 hS hzk hbor hsl), hst _ 0 (by omega) (by omega) (by omega), hblk.setMid Hoff.out (by omega) (sm_low0 hS hzk hbor), hmod.setCell _ _⟩
    case measure => simp [intOf]; omega
   ·have HS := Lib.hid (And.intro hS (And.intro hsl hbor))
    clear hS hsl hbor
    go_wp2
    go_roundw
    case rel =>
     obtain ⟨hS, hsl, hbor⟩ := HS.out;exact ⟨k + 1, zs.set k (zs[k]'(by omega) + 4294967296 - S % 4294967296), _, by omega, by go_num, congrArg _ (sm_car1 hS hzk hbor hsl), hst _ 1 (by omega) (by omega) (by omega), hblk.setMid Hoff.out (by omega) (sm_low hS hzk hbor), hmod.setCell _ _⟩
    case measure => simp [intOf]; omega
  ·have hk' : k = m := by omega
   subst hk';obtain ⟨b2, off2, he, hb2, hc2⟩ := (hblk.mid hinv.w32 Hoff.out).at_ (i := k) (by omega)
   injection he with he
   injection he with he1 he2
   subst he1; subst he2;have hzk := hinv.w32.get (k := k) (by omega);have hfz := hblk.frozen (off + k);have hat := hinv.at_ (k := k) (by omega);obtain rfl : ys.length = k := Hm.out;have hdn : ∀ dd bb : Nat, dd + cy = zs[ys.length]'(by omega) + 4294967296 * bb -> val (zs.set ys.length dd) + val ys * q = val zs0 + 4294967296 ^ (ys.length + 1) * bb := fun dd bb h => hinv.done (by rw [Hn.out]; omega) (by rw [<- hat]; exact h)
   have Hdn := Lib.hid hdn;have Hw := Lib.hid hinv.w32;clear hdn hat hinv;generalize hZ : zs[ys.length]'(by omega) = Z at *;clear hZ
   by_cases hbor : cy <= Z
   ·have e0 : (((Z : Int) - (cy : Int)) / 9223372036854775808 == 1) = false := by rw [beq_eq_false_iff_ne]; omega
    have hb := hblk.setMid Hoff.out (i := ys.length) (by omega) (v := (Z : Int) - (cy : Int)) (n := Z - cy) (by omega);rw [List.append_assoc] at hb
    go_wp2
    go_ret
    exact ⟨zs.set ys.length (Z - cy), 0, rfl, by omega, by simp; omega, Hw.out.set _ (by omega), hb, by rw [<- hl]; exact Hdn.out _ 0 (by omega), hmod.setCell _ _⟩
   ·have e1 := sm_end_top hzk hcy hbor
    have e2 := sm_end_low hzk hcy hbor;have hb := hblk.setMid Hoff.out (i := ys.length) (by omega) (v := ((Z + 4294967296 - cy : Nat) : Int)) (n := Z + 4294967296 - cy) rfl;rw [List.append_assoc] at hb
    go_wp2
    go_ret
    exact ⟨zs.set ys.length (Z + 4294967296 - cy), 1, rfl, by omega, by simp; omega, Hw.out.set _ (by omega), hb, by rw [<- hl]; exact Hdn.out _ 1 (by omega), hmod.setCell _ _⟩
end
theorem bitLen_bounds {x : Nat} (h : x < 4294967296) (h0 : x ≠ 0) : 1 <= Lib.bitLen x /\ Lib.bitLen x <= 32 /\ 2 ^ (Lib.bitLen x - 1) <= x /\ x < 2 ^ Lib.bitLen x := by
 obtain ⟨a, b, c⟩ := Lib.bitLenAux_bounds 64 x (by omega) h0;exact ⟨a, Lib.bitLen_le x 32 (by omega) (by omega), b, c⟩
theorem shift_top {x : Nat} (h : x < 4294967296) (h0 : x ≠ 0) : 2147483648 <= x * 2 ^ (32 - Lib.bitLen x) /\ (x + 1) * 2 ^ (32 - Lib.bitLen x) <= 4294967296 /\ Lib.bitLen x <= 32 /\ 1 <= Lib.bitLen x := by
 obtain ⟨a, b, c, d⟩ := bitLen_bounds h h0;refine ⟨?_, ?_, b, a⟩
 ·have e : (2147483648 : Nat) = 2 ^ (Lib.bitLen x - 1) * 2 ^ (32 - Lib.bitLen x) := by
   rw [<- Nat.pow_add, show Lib.bitLen x - 1 + (32 - Lib.bitLen x) = 31 by omega]
  rw [e];exact Nat.mul_le_mul_right _ c
 ·have e : (4294967296 : Nat) = 2 ^ Lib.bitLen x * 2 ^ (32 - Lib.bitLen x) := by
   rw [<- Nat.pow_add, show Lib.bitLen x + (32 - Lib.bitLen x) = 32 by omega]
  rw [e];exact Nat.mul_le_mul_right _ d
theorem div_norm {ys zs : List Nat} {m p : Nat} (hy : W32 ys) (hm : ys.length = m) (h0 : 0 < m) (h1 : 2147483648 <= ys[m - 1]'(by omega) * p) (h2 : (ys[m - 1]'(by omega) + 1) * p <= 4294967296) (hz : W32 zs) (hn : Nrm zs) (hv : val zs = val ys * p) :
  zs.length = m /\ val zs < 4294967296 ^ m /\ ∀ h : m - 1 < zs.length, 2147483648 <= zs[m - 1] := by
 obtain ⟨k, rfl⟩ : ∃ k, m = k + 1 := ⟨m - 1, by omega⟩;simp only [Nat.add_sub_cancel] at h1 h2 ⊢;have e := val_take_succ ys k (by omega);rw [List.take_of_length_le (by omega)] at e;have hl := val_lt (hy.take k);rw [List.length_take, Nat.min_eq_left (by omega)] at hl;generalize ys[k]'(by omega) = Y at *
 have lo : 4294967296 ^ k * 2147483648 <= val zs := by
  have a : 4294967296 ^ k * 2147483648 <= 4294967296 ^ k * (Y * p) := Nat.mul_le_mul_left _ h1;rw [hv, e, Nat.add_mul, Nat.mul_assoc];omega
 have hi : val zs < 4294967296 ^ (k + 1) := by
  have hp : 0 < p := by
   rcases Nat.eq_zero_or_pos p with rfl | h
   ·rw [Nat.mul_zero] at h1; omega
   ·exact h
  have a : val ys < 4294967296 ^ k * (Y + 1) := by rw [e, Nat.mul_add]; omega
  have b : val ys * p < 4294967296 ^ k * (Y + 1) * p := Nat.mul_lt_mul_of_pos_right a hp;have c : 4294967296 ^ k * ((Y + 1) * p) <= 4294967296 ^ k * 4294967296 := Nat.mul_le_mul_left _ h2;rw [Nat.mul_assoc] at b;rw [hv, Nat.pow_succ];omega
 have hpk : 0 < 4294967296 ^ k := Nat.pow_pos (by omega)
 have l1 : zs.length <= k + 1 := by
  rcases Nat.lt_or_ge (k + 1) zs.length with h | h
  ·have g := hn.ge (by rintro rfl; simp at h)
   have : 4294967296 ^ (k + 1) <= 4294967296 ^ (zs.length - 1) := Nat.pow_le_pow_right (by omega) (by omega);omega
  ·exact h
 have l2 : k + 1 <= zs.length := by
  rcases Nat.lt_or_ge zs.length (k + 1) with h | h
  ·have g := val_lt hz
   have : 4294967296 ^ zs.length <= 4294967296 ^ k := Nat.pow_le_pow_right (by omega) (by omega);omega
  ·exact h
 refine ⟨by omega, hi, fun h => ?_⟩;have e3 := val_take_succ zs k h;rw [List.take_of_length_le (by omega)] at e3;have hl3 := val_lt (hz.take k);rw [List.length_take, Nat.min_eq_left (by omega)] at hl3
 rcases Nat.lt_or_ge zs[k] 2147483648 with h5 | h5
 ·have a : 4294967296 ^ k * (zs[k] + 1) <= 4294967296 ^ k * 2147483648 := Nat.mul_le_mul_left _ h5
  rw [Nat.mul_add, Nat.mul_one] at a;omega
 ·exact h5
section
variable {A B : Option Addr} {c d n m : Nat} {xs ys : List Nat} {w : World} {s t : Bool}
set_option maxRecDepth 100000 in
theorem int_divideLong (hn : xs.length = n) (hm : ys.length = m) (hx : Rd w A xs) (hy : Rd w B ys) (hny : Nrm ys) (h2 : 2 <= m) (hmn : m <= n) (h1 : n <= 80000) :
  Calls Tryz.prog 171 #[.slice A n c, .slice B m d] w (Ret2 (fun qs rs => val qs = val xs / val ys /\ val rs = val xs % val ys /\ Nrm qs /\ Nrm rs) w) := by
 have hl0 : ys[m - 1]'(by omega) ≠ 0 := by
  subst hm;exact hny.last (by omega)
 obtain ⟨b1, o1, rfl, hb1, cy⟩ := hy.at_ (i := m - 1) (by omega);have hY := hy.1.get (k := m - 1) (by omega);obtain ⟨s1, s2, s3, s4⟩ := shift_top hY hl0;have hnorm : ∀ zs, W32 zs -> Nrm zs -> val zs = val ys * 2 ^ (32 - Lib.bitLen (ys[m - 1]'(by omega))) -> zs.length = m /\ val zs < 4294967296 ^ m /\ ∀ h : m - 1 < zs.length, 2147483648 <= zs[m - 1] := fun zs a b e => div_norm hy.1 hm (by omega) s1 s2 a b e
 have hlz : ∀ W : World, Calls Tryz.prog 175 #[.int .u32 ((ys[m - 1]'(by omega) : Nat) : Int)] W fun e w' => e = .returned (.int .i64 ((32 - Lib.bitLen (ys[m - 1]'(by omega)) : Nat) : Int)) /\ W = w' := fun W => by
  refine (lz32 _ W (by omega) (by omega)).mono ?_;rintro e w' ⟨rfl, h⟩;exact ⟨ret_int (by simp only [Int.toNat_natCast]; omega), h⟩
 clear s1 s2;generalize ys[m - 1]'(by omega) = Y at *;have hS32 : 32 - Lib.bitLen Y < 32 := by omega
 generalize 32 - Lib.bitLen Y = S at *;have Hnorm := Lib.hid hnorm;have Hlz := Lib.hid hlz;have Hn := Lib.hid hn;have Hm := Lib.hid hm
 have Hb := Lib.hid (show 4294967296 ^ (m - 1) <= val ys by
  have := hny.ge (by rintro rfl; simp at hm; omega)
  rwa [hm] at this)
 have Ha := Lib.hid (show val xs < 4294967296 ^ n by have := val_lt hx.1; rwa [hn] at this);clear hnorm hlz s3 s4 hl0 hn hm
 have hmk1 : ∀ W : World, (Instr.makeSlice 105 (.int .i64 ((n : Int) + 1)) (.int .i64 ((n : Int) + 1))).run Tryz.prog W = .ok (.slice (some ⟨W.heap.size, 0, none⟩) (n + 1) (n + 1)) (W.alloc (.cells (madeCells #[.int .u32 0] (n + 1)) 89)) := fun W => by
  have h := mk_words 105 Tryz.underlying105 (n + 1) (by omega) W
  rwa [show ((n + 1 : Nat) : Int) = (n : Int) + 1 by omega] at h
 have hmk2 : ∀ W : World, (Instr.makeSlice 105 (.int .i64 ((n : Int) - (m : Int) + 1)) (.int .i64 ((n : Int) - (m : Int) + 1))).run Tryz.prog W = .ok (.slice (some ⟨W.heap.size, 0, none⟩) (n - m + 1) (n - m + 1)) (W.alloc (.cells (madeCells #[.int .u32 0] (n - m + 1)) 89)) := fun W => by
  have h := mk_words 105 Tryz.underlying105 (n - m + 1) (by omega) W
  rwa [show ((n - m + 1 : Nat) : Int) = (n : Int) - (m : Int) + 1 by omega] at h
 go_enter Tryz.func171, Tryz.ntmps171
 go_wp2_with (go_at_call 175; refine (Hlz.out _).mono ?_; rintro e w1 ⟨rfl, rfl⟩)
 refine (int_shiftLeft (k := S) Hm.out hy (by omega) (by omega)).mono ?_;rintro e w2 ⟨A2, c2, ds, rfl, ho2, hc2, hm2, ⟨hv2, hn2, hl2⟩, hext2⟩;obtain ⟨hdl, hdu, hdt⟩ := Hnorm.out ds ho2.rd.1 hn2 hv2;rw [hdl];have Hdl := Lib.hid hdl;have Hdu := Lib.hid hdu;have Hdt := Lib.hid hdt;have Hv2 := Lib.hid hv2;clear hdl hdu hdt hv2 hl2 hn2 Hnorm Hlz
 go_wp2_with fail
 have hb0 := BlkN.new w2 (n + 1);refine (int_shiftInto (pre := []) (zs0 := List.replicate (xs.length + 1) 0) (post := []) (by rw [Hn.out]; simpa using hb0) rfl rfl (hx.ext (hext2.alloc _)) Hn.out (hx.apart hext2.size) (by omega) hS32 (by omega) (by omega) (by unfold maxLen; omega)).mono ?_;rintro e w3 ⟨R0, rfl, hRl, hRw, hRb, hRv, hmod3⟩;rw [List.nil_append, List.append_nil] at hRb;have hext3 : Ext w2 w3 := hmod3.ext ((Ext.refl w2).alloc _) (Nat.le_refl _);have hd3 := ho2.rd.ext hext3;have hap := ho2.rd.apart (Nat.le_refl _);have hL0 := LInv.start (a := val xs) (b := val ys) (s := S) (la := n) (lb := m) hRl hRw rfl hRv hmn (by omega) Ha.out Hb.out;rw [<- Hv2.out] at hL0;have HL0 := Lib.hid hL0;clear hL0 hRv hmod3 hRl hb0;have hg12 := hRb.lt;have hQb := BlkN.new w3 (n - m + 1);have hR4 := hRb.ext ((Ext.refl w3).alloc (.cells (madeCells #[.int .u32 0] (n - m + 1)) 89));have hd4 := hd3.ext ((Ext.refl w3).alloc (.cells (madeCells #[.int .u32 0] (n - m + 1)) 89));have ext4 := (hext2.trans hext3).alloc (.cells (madeCells #[.int .u32 0] (n - m + 1)) 89);have hap3 := hd3.apart (Nat.le_refl _);clear hRb hd3
 go_wp2_with fail
 go_loopw [10] (fun i wr => ∃ (k : Nat) (R Q : List Nat), k <= n - m + 1 /\ i = .int .i64 ((k : Int) - 1) /\ LInv (val ds) (val xs * 2 ^ S) (n + 1) (n - m + 1) k R Q /\ BlkN wr w2.heap.size R /\ BlkN wr w3.heap.size Q /\ Rd wr A2 ds /\ Ext w wr) (fun i _ => (intOf i + 1).toNat)
 case atStart => exact ⟨n - m + 1, R0, _, Nat.le_refl _, congrArg (Value.int .i64) (by omega), HL0.out, hR4, hQb, hd4, ext4⟩
 case round =>
  clear hR4 hQb hd4 ext4;obtain ⟨k, R, Q, hk, rfl, hinv, hRb, hQb, hdr, hext⟩ := hrel;have hrl := hinv.rl;have hql := hinv.ql
  rcases k with _ | j
  ·rw [show (((0 : Nat) : Int) - 1) = -1 from rfl]
   have Hinv := Lib.hid hinv;have Hrl := Lib.hid hrl;have Hql := Lib.hid hql;clear hinv hrl hql
   go_wp2_with fail
   refine (int_trimN Hql.out (hQb.rd0 Hinv.out.qw) (Nat.le_refl _) (by unfold maxLen; omega)).mono ?_;rintro e w4 ⟨rfl, rfl⟩
   go_wp2_with fail
   refine (int_trimN Hrl.out (hRb.rd0 Hinv.out.rw) (Nat.le_refl _) (by unfold maxLen; omega)).mono ?_;rintro e w4 ⟨rfl, rfl⟩;have hrl2 := trimL_len R;rw [Hrl.out] at hrl2;have hrt : Rd wr (some ⟨w2.heap.size, 0, none⟩) (trimL R) := by rw [trimL_take]; exact (hRb.rd0 Hinv.out.rw).take _
   go_wp2_with fail
   refine (int_shiftRight (k := S) rfl hrt hrl2 (by unfold maxLen; omega) (by omega) (by omega)).mono ?_;rintro e w5 ⟨A5, c5, rs, rfl, ho5, hc5, hm5, ⟨hv5, hn5, hl5⟩, hext5⟩;have Hv5 := Lib.hid hv5;clear hv5
   go_wp2_with fail
   go_ret2
   have hi := Hinv.out;rw [Hv2.out] at hi;obtain ⟨d1, d2⟩ := hi.done;have hql2 := trimL_len Q;rw [Hql.out] at hql2;refine ⟨_, _, trimL Q, A5, c5, rs, rfl, ?_, ho5.mono hext.size, hql2, by unfold maxLen; omega, hc5, hm5, ⟨by rw [val_trimL]; exact d1, by rw [Hv5.out, val_trimL]; exact d2, Nrm.trimL _, hn5⟩, hext.trans hext5⟩;rw [trimL_take];exact (Own.of_blk (hQb.ext hext5) hi.qw (Nat.le_trans hext2.size (Nat.le_of_lt hg12))).take _
  ·rw [show (((j + 1 : Nat) : Int) - 1) = (j : Int) by omega]
   have hj1 : j + m + 1 <= n + 1 := by omega
   have hj2 : j < n - m + 1 := by omega
   obtain ⟨p0, p1, p2⟩ := hinv.part hj2 (by omega) Hdu.out;have hpd : Rd wr (some ⟨w2.heap.size, j, none⟩) ((R.drop j).take (m + 1)) := hRb.rd hinv.rw (by omega);have hpl : ((R.drop j).take (m + 1)).length = m + 1 := by rw [List.length_take, List.length_drop]; omega
   have hpw : W32 ((R.drop j).take (m + 1)) := (hinv.rw.drop _).take _
   have hRs : R = R.take j ++ (R.drop j).take (m + 1) ++ R.drop (j + m + 1) := by
    rw [List.append_assoc, show j + m + 1 = j + (m + 1) by omega, <- List.drop_drop, List.take_append_drop, List.take_append_drop]
   have htl : (R.take j).length = j := by rw [List.length_take]; omega
   have hst : ∀ (ps : List Nat) (u : Nat), ps.length = m + 1 -> W32 ps -> u < 4294967296 -> val ps < val ds -> val ps + u * val ds = val ((R.drop j).take (m + 1)) -> LInv (val ds) (val xs * 2 ^ S) (n + 1) (n - m + 1) j (R.take j ++ ps ++ R.drop (j + m + 1)) (Q.set j u) := fun ps u a1 a2 a3 a4 a5 => hinv.step hj2 (by omega) Hdu.out a1 a2 a3 a4 a5
   rw [hRs] at hRb;have Hst := Lib.hid hst;have Hqw := Lib.hid hinv.qw;clear hst hinv hRs p0 p1 hrl;generalize R.take j = pre at *;generalize (R.drop j).take (m + 1) = part at *;generalize R.drop (j + m + 1) = post at *;have Htl := Lib.hid htl;have Hpl := Lib.hid hpl;have Hql := Lib.hid hql;have Hp2 := Lib.hid p2;have hcc1 : m + 1 <= n + 1 - j := by omega
   have hcc2 : n + 1 - j <= 100000 := by omega
   clear htl hpl p2 hql
   go_wp2_with fail
   rw [show j + m + 1 - j = m + 1 by omega];refine (int_estimate Hpl.out Hdl.out h2 hpd hdr (Hdt.out _) Hp2.out (by omega)).mono ?_;rintro e w4 ⟨q, rfl, hq32, hq1, hq2, hxt4⟩;have Hq1 := Lib.hid hq1;have Hq2 := Lib.hid hq2;clear hq1 hq2
   go_wp2_with fail
   refine (int_subtractMultiple (hRb.ext hxt4) Htl.out Hpl.out hpw (hdr.ext hxt4) Hdl.out hap rfl hq32 (by omega) hcc1 (by unfold maxLen; omega)).mono ?_;rintro e w5 ⟨ps, bb, rfl, hb1, hpsl, hpsw, hpsb, hpsv, hmod5⟩;have hdr5 := (hdr.ext hxt4).mod hmod5 hap;have hQ5 := (hQb.ext hxt4).mod hmod5 (Nat.ne_of_gt hg12);have ext5 := hmod5.ext (hext.trans hxt4) hext2.size;have Hpsv := Lib.hid hpsv;have Hpsl := Lib.hid hpsl;clear hpsv hpsl hpd hRb hdr hQb hmod5
   rcases (show bb = 0 \/ bb = 1 by omega) with rfl | rfl
   ·have hcq := hQ5.cell (i := j) (by rw [Hql.out]; exact hj2)
    have hfq := hQ5.frozen j
    go_wp2_with fail
    go_roundw
    case rel =>
     obtain ⟨f1, f2⟩ := sub_fit Hq1.out (by have := Hpsv.out; rw [Nat.mul_zero, Nat.add_zero] at this; exact this);exact ⟨j, _, _, by omega, rfl, Hst.out ps q Hpsl.out hpsw hq32 f1 f2, hpsb.mod ((Mod.refl w5 w3.heap.size).setCell j _) (Nat.ne_of_lt hg12), hQ5.set j rfl, hdr5.mod ((Mod.refl w5 w3.heap.size).setCell j _) hap3, ext5.setCell (Nat.le_trans hext2.size (Nat.le_of_lt hg12)) _⟩
    case measure => simp [intOf]
   ·have hpslt : val ps < 4294967296 ^ (m + 1) := by
     have := val_lt hpsw
     rwa [Hpsl.out] at this
    have h3 := Hpsv.out;rw [Nat.mul_one] at h3;have hPq : val part < q * val ds := by rw [Nat.mul_comm]; omega
    have hq0 : 0 < q := by
     rcases Nat.eq_zero_or_pos q with rfl | h
     ·rw [Nat.zero_mul] at hPq; omega
     ·exact h
    have HPq := Lib.hid hPq;have H3 := Lib.hid h3;clear hPq h3 hpslt;have hq01 : (1 : Int) <= (q : Int) := by omega
    go_wp2_with fail
    refine (int_addTo _ _ _ _ hpsb Htl.out Hpsl.out hpsw hdr5 Hdl.out hap (by omega) (by omega)).mono ?_;rintro e w6 ⟨zs, rfl, hzl, hzw, hzb, ⟨cy2, hcy, hcv⟩, hmod6⟩;have Hf := Lib.hid (sub_back HPq.out Hq2.out H3.out hcv hcy (by have := val_lt hzw; rwa [hzl] at this));have hdr6 := hdr5.mod hmod6 hap;have hQ6 := hQ5.mod hmod6 (Nat.ne_of_gt hg12);have ext6 := hmod6.ext ext5 hext2.size;have Hzl := Lib.hid hzl;clear hcv hzl hpsb hdr5 hQ5 hmod6;have hcq := hQ6.cell (i := j) (by rw [Hql.out]; exact hj2);have hfq := hQ6.frozen j
    go_wp2_with fail
    go_roundw
    case rel =>
     obtain ⟨f0, f1, f2⟩ := Hf.out;exact ⟨j, _, _, by omega, rfl, Hst.out zs (q - 1) Hzl.out hzw (by omega) f1 f2, hzb.mod ((Mod.refl w6 w3.heap.size).setCell j _) (Nat.ne_of_lt hg12), hQ6.set j (by omega), hdr6.mod ((Mod.refl w6 w3.heap.size).setCell j _) hap3, ext6.setCell (Nat.le_trans hext2.size (Nat.le_of_lt hg12)) _⟩
    case measure => simp [intOf]
theorem int_divide_word {y : Nat} (hn : xs.length = n) (hx : Rd w A xs) (hy : Rd w B [y]) (hnx : Nrm xs) (hy0 : y ≠ 0) (h2 : 2 < n) (h1 : n <= 100000) :
  Calls Tryz.prog 151 #[.slice A n c, .slice B 1 d] w (Ret2 (fun qs rs => val qs = val xs / y /\ val rs = val xs % y /\ Nrm qs /\ Nrm rs) w) := by
 have hcm1 := Lib.hid (show cmpL xs [y] = 1 from cmpL_len_gt (by simp; omega));have hyl := hy.1 y (by simp);have hxl := Lib.hid (show xs ≠ [] by rintro rfl; simp at hn; omega)
 have hr32 : val xs % y < 4294967296 := by
  have := Nat.mod_lt (val xs) (show 0 < y by omega);omega
 go_enter Tryz.func151, Tryz.ntmps151
 go_wp2_with fail
 subst hn;refine (int_compare A B c d xs [y] w hx hy (by unfold maxLen; omega) (by unfold maxLen; simp)).mono ?_;rintro e w1 ⟨rfl, hext1⟩;rw [hcm1.out]
 go_wp2_with fail
 refine (clone rfl (hx.ext hext1) (by omega)).mono ?_;rintro e w2 ⟨A2, c2, zs, rfl, ho2, hc2, hm2, rfl, hext2⟩
 obtain ⟨g, rfl, hg, hblk⟩ : ∃ g, A2 = some ⟨g, 0, none⟩ /\ w1.heap.size <= g /\ BlkN w2 g zs := by
  rcases ho2.2 with h | h
  ·exact absurd h hxl.out
  ·exact h
 obtain ⟨b1, o1, rfl, hb1, cb⟩ := ((hy.ext hext1).ext hext2).at_ (i := 0) (by simp);simp only [Nat.add_zero, List.getElem_cons_zero] at cb
 go_wp2_with fail
 refine (int_divideByWord hblk rfl hx.1 (by omega) hyl (by omega)).mono ?_;rintro e w3 ⟨qs, rfl, hql, hqw, hqb, hqv, hmod⟩;have ext3 := hmod.ext hext2 hg;have Hqv := Lib.hid hqv;clear hqv cb
 go_wp2_with fail
 refine (int_trimN hql (hqb.rd0 hqw) hc2 hm2).mono ?_;rintro e w4 ⟨rfl, rfl⟩
 go_wp2_with fail
 refine (int_fromUint (val zs % y) (by omega)).mono ?_;rintro e w5 ⟨A5, c5, rs, rfl, ho5, hc5, hm5, ⟨hv5, hn5, hl5⟩, hext5⟩;have Hv5 := Lib.hid hv5;clear hv5
 go_wp2_with fail
 go_ret2
 have hl := trimL_len qs;refine ⟨_, _, trimL qs, A5, c5, rs, rfl, ?_, ho5.mono (hext1.trans ext3).size, by omega, hm2, hc5, hm5, ⟨by rw [val_trimL]; exact Hqv.out, Hv5.out, Nrm.trimL _, hn5⟩, hext1.trans (ext3.trans hext5)⟩;rw [trimL_take];exact (Own.of_blk (hqb.ext hext5) hqw (Nat.le_trans hext1.size hg)).take _
theorem int_divide_long (hn : xs.length = n) (hm : ys.length = m) (hx : Rd w A xs) (hy : Rd w B ys) (hnx : Nrm xs) (hny : Nrm ys) (hge : val ys <= val xs) (h2 : 2 < n) (hm2 : 2 <= m) (h1 : n <= 80000) :
  Calls Tryz.prog 151 #[.slice A n c, .slice B m d] w (Ret2 (fun qs rs => val qs = val xs / val ys /\ val rs = val xs % val ys /\ Nrm qs /\ Nrm rs) w) := by
 have hml := len_le hx.1 hny hge
 have hcase : cmpL xs ys = 0 \/ cmpL xs ys = 1 := by
  rw [cmpL_nrm hx.1 hy.1 hnx hny]
  rcases Nat.lt_or_ge (val ys) (val xs) with h | h
  ·exact .inr (cmpI_of_gt h)
  ·exact .inl (cmpI_of_eq (by omega))
 have Hml := Lib.hid (show m <= n by omega);subst hn;subst hm;clear hml hge
 rcases hcase with hcm | hcm
 all_goals
  have hcm1 := Lib.hid hcm;clear hcm
  go_enter Tryz.func151, Tryz.ntmps151
  go_wp2_with fail
  refine (int_compare A B c d xs ys w hx hy (by unfold maxLen; omega) (by have := Hml.out; unfold maxLen; omega)).mono ?_;rintro e w1 ⟨rfl, hext1⟩;rw [hcm1.out]
  go_wp2_with fail
  refine (int_divideLong rfl rfl (hx.ext hext1) (hy.ext hext1) hny hm2 Hml.out h1).mono ?_;rintro e w3 ⟨A3, c3, qs, A4, c4, rs, rfl, ho3, ho4, hc3, hm3, hc4, hm4, hP, hext3⟩;have HP := Lib.hid hP;clear hP
  go_wp2_with fail
  go_ret2
  exact ⟨A3, c3, qs, A4, c4, rs, rfl, ho3.mono hext1.size, ho4.mono hext1.size, hc3, hm3, hc4, hm4, HP.out, hext1.trans hext3⟩
theorem Ret2.len {e : Ending} {w' : World} (hx : W32 xs) (h : Ret2 (fun qs rs => val qs = val xs / val ys /\ val rs = val xs % val ys /\ Nrm qs /\ Nrm rs) w e w') :
  Ret2 (fun qs rs => val qs = val xs / val ys /\ val rs = val xs % val ys /\ Nrm qs /\ Nrm rs /\ qs.length <= xs.length /\ rs.length <= xs.length) w e w' := by
 obtain ⟨A3, c3, qs, A4, c4, rs, h0, ho3, ho4, hc3, hm3, hc4, hm4, ⟨p1, p2, p3, p4⟩, hext3⟩ := h;exact ⟨A3, c3, qs, A4, c4, rs, h0, ho3, ho4, hc3, hm3, hc4, hm4, ⟨p1, p2, p3, p4, nrm_len_le hx p3 (by rw [p1]; exact Nat.div_le_self _ _), nrm_len_le hx p4 (by rw [p2]; exact Nat.mod_le _ _)⟩, hext3⟩
theorem divide_ok : DivideOK 80000 := by
 intro A B c d n m xs ys w hn hm hx hy _ _ _ _ hnx hny h0 h1 h2
 rcases Nat.lt_or_ge (val xs) (val ys) with h | h
 ·exact int_divide_lt hn hm hx hy hnx hny h (by omega) h2
 ·rcases Nat.lt_or_ge 2 n with h3 | h3
  ·rcases Nat.lt_or_ge 1 m with h4 | h4
   ·exact (int_divide_long hn hm hx hy hnx hny h h3 (by omega) h1).mono fun e w' hr => hr.len hx.1
   ·obtain rfl : m = 1 := by omega
    obtain ⟨y, rfl⟩ : ∃ y, ys = [y] := by
     match ys, hm with
     | [y], _ => exact ⟨y, rfl⟩
    have hy0 : y ≠ 0 := by
     rintro rfl;have := hny.last (by simp);simp at this
    have e := val_one y
    exact (int_divide_word (y := y) hn hx hy hnx hy0 h3 (by omega)).mono fun e w' hr => by
     rw [<- val_one y] at hr;exact hr.len hx.1
  ·exact int_divide_two hn hm hx hy hnx hny h h0 h3
end
def bitsN (xs : List Nat) : Nat := if h : 0 < xs.length then 32 * (xs.length - 1) + Lib.bitLen (xs[xs.length - 1]'(by omega)) else 0
theorem bitLen_zero : Lib.bitLen 0 = 0 := by decide
section
variable {A B : Option Addr} {c d n m : Nat} {xs ys : List Nat} {w : World} {s t : Bool}
theorem int_bits (hn : xs.length = n) (hx : Rd w A xs) (h1 : n <= 100000) :
  Calls Tryz.prog 165 #[.slice A n c] w fun e w' => e = .returned (.int .i64 (bitsN xs : Nat)) /\ w = w' := int_binaryDigits hn hx h1
theorem ref_length (hn : xs.length = n) (hx : Rd w A xs) (h1 : n <= 100000) :
  Calls Tryz.prog 131 #[.slice A n c] w fun e w' => e = .returned (.int .i64 (bitsN xs : Nat)) /\ w = w' := by
 by_cases h : 0 < xs.length
 ·have hb : bitsN xs = 32 * (xs.length - 1) + Lib.bitLen (xs[xs.length - 1]'(by omega)) := by unfold bitsN; rw [dif_pos h]
  obtain ⟨b1, off', rfl, hb1, hc1⟩ := hx.at_ (i := xs.length - 1) (by omega);have hxk := hx.1.get (k := xs.length - 1) (by omega);subst hn;have hle : Lib.bitLen xs[xs.length - 1] <= 32 := Lib.bitLen_le _ 32 (by omega) (by omega);generalize xs[xs.length - 1] = X at *;have Hb := Lib.hid hb;clear hb;have hpos : ¬ xs.length = 0 := by omega
  go_enter Tryz.func131, Tryz.ntmps131
  go_wp2
  go_loopw [3, 4] (fun a x wr => ∃ p q : Nat, a = .int .i64 (p : Int) /\ x = .int .u32 (q : Int) /\ p + Lib.bitLen q = Lib.bitLen X /\ q < 4294967296 /\ wr = w) (fun _ x _ => (intOf x).toNat)
  case atStart => exact ⟨0, X, rfl, rfl, by omega, hxk, rfl⟩
  case round =>
   obtain ⟨p, q, rfl, rfl, hpq, hq, rfl⟩ := hrel
   by_cases hq0 : q = 0
   ·subst hq0
    rw [bitLen_zero] at hpq
    go_wp2
    go_ret
    exact ⟨ret_int (by rw [Hb.out]; omega), rfl⟩
   ·have hh := Lib.bitLen_half q hq0 (by omega)
    have hqp : (0 : Int) < (q : Int) := by omega
    have hp32 : p < 32 := by omega
    go_wp2
    go_roundw
    case rel => exact ⟨p + 1, q / 2, by go_num, by go_num, by omega, by omega, trivial⟩
    case measure => simp [intOf]; omega
 ·have h0 : xs.length = 0 := by omega
  have hb : bitsN xs = 0 := by unfold bitsN; rw [dif_neg h]
  subst hn;have Hb := Lib.hid hb;clear hb
  go_enter Tryz.func131, Tryz.ntmps131
  go_wp2_with fail
  go_ret
  exact ⟨ret_int (by rw [Hb.out]; rfl), rfl⟩
end
theorem word_pow (k : Nat) : (4294967296 : Nat) ^ k = 2 ^ (32 * k) := by
 rw [Nat.pow_mul]
theorem bitsN_spec {xs : List Nat} (hw : W32 xs) (hn : Nrm xs) (h : 0 < xs.length) : 1 <= bitsN xs /\ 2 ^ (bitsN xs - 1) <= val xs /\ val xs < 2 ^ bitsN xs /\ bitsN xs <= 32 * xs.length := by
 have hlast := hn.last h;have hX := hw.get (k := xs.length - 1) (by omega);obtain ⟨a, b, c, d⟩ := bitLen_bounds hX hlast;have e := val_take_succ xs (xs.length - 1) (by omega);rw [List.take_of_length_le (by omega)] at e;have hl := val_lt (hw.take (xs.length - 1));rw [List.length_take, Nat.min_eq_left (by omega)] at hl;have hb : bitsN xs = 32 * (xs.length - 1) + Lib.bitLen (xs[xs.length - 1]'(by omega)) := by unfold bitsN; rw [dif_pos h]
 rw [hb, e];generalize xs[xs.length - 1]'(by omega) = X at *;generalize hk : xs.length - 1 = k at *;refine ⟨by omega, ?_, ?_, by omega⟩
 ·rw [show 32 * k + Lib.bitLen X - 1 = 32 * k + (Lib.bitLen X - 1) by omega, Nat.pow_add, <- word_pow]
  have := Nat.mul_le_mul_left (4294967296 ^ k) c;omega
 ·rw [Nat.pow_add, <- word_pow]
  have := Nat.mul_le_mul_left (4294967296 ^ k) (show X + 1 <= 2 ^ Lib.bitLen X from d);rw [Nat.mul_add] at this;omega
end
section
open Go.RowKit
attribute [local go_sem ↓] Go.wp_at_zero Go.wp_at_succ
theorem sign_of_lt {a b : Int} (h : a < b) : (a - b).sign = -1 := Int.sign_eq_neg_one_of_neg (by omega)
theorem sign_of_gt {a b : Int} (h : b < a) : (a - b).sign = 1 := Int.sign_eq_one_of_pos (by omega)
theorem sign_of_eq {a b : Int} (h : a = b) : (a - b).sign = 0 := by rw [h, Int.sub_self]; rfl
theorem sign_cases (a : Int) : (a < 0 /\ a.sign = -1) \/ (a = 0 /\ a.sign = 0) \/ (0 < a /\ a.sign = 1) := by
 rcases Int.lt_trichotomy a 0 with h | h | h
 ·exact .inl ⟨h, Int.sign_eq_neg_one_of_neg h⟩
 ·exact .inr (.inl ⟨h, by rw [h]; rfl⟩)
 ·exact .inr (.inr ⟨h, Int.sign_eq_one_of_pos h⟩)
theorem cmp_sign {s t : Bool} {xs ys : List Nat} (hx : W32 xs) (hy : W32 ys) (σ : Int) (ha : (ival s xs).sign = σ) (hb : (ival t ys).sign = σ) : σ * cmpL (trimL xs) (trimL ys) = (ival s xs - ival t ys).sign := by
 rw [cmpL_nrm hx.trimL hy.trimL (Nrm.trimL xs) (Nrm.trimL ys), val_trimL, val_trimL];have h1 := sign_cases (ival s xs);have h2 := sign_cases (ival t ys);have e1 : ival s xs = if s then -(val xs : Int) else (val xs : Int) := rfl;have e2 : ival t ys = if t then -(val ys : Int) else (val ys : Int) := rfl;rw [ha] at h1;rw [hb] at h2;clear ha hb
 rcases Nat.lt_trichotomy (val xs) (val ys) with h | h | h
 ·rw [cmpI_of_lt h]
  rcases h1 with ⟨h1, rfl⟩ | ⟨h1, rfl⟩ | ⟨h1, rfl⟩
  ·rw [sign_of_gt (by cases s <;> cases t <;> simp at e1 e2 h2 <;> omega)]; rfl
  ·rw [sign_of_eq (by cases s <;> cases t <;> simp at e1 e2 h2 <;> omega)]; rfl
  ·rw [sign_of_lt (by cases s <;> cases t <;> simp at e1 e2 h2 <;> omega)]; rfl
 ·rw [cmpI_of_eq h, Int.mul_zero]
  rw [sign_of_eq (by rcases h1 with ⟨h1, rfl⟩ | ⟨h1, rfl⟩ | ⟨h1, rfl⟩ <;> cases s <;> cases t <;> simp at e1 e2 h2 <;> omega)]
 ·rw [cmpI_of_gt h, Int.mul_one]
  rcases h1 with ⟨h1, rfl⟩ | ⟨h1, rfl⟩ | ⟨h1, rfl⟩
  ·rw [sign_of_lt (by cases s <;> cases t <;> simp at e1 e2 h2 <;> omega)]
  ·rw [sign_of_eq (by cases s <;> cases t <;> simp at e1 e2 h2 <;> omega)]
  ·rw [sign_of_gt (by cases s <;> cases t <;> simp at e1 e2 h2 <;> omega)]
theorem cmpI_bd (a b : Nat) : -1 <= cmpI a b /\ cmpI a b <= 1 := by unfold cmpI; split <;> (try split) <;> omega
theorem cmpL_bd (xs ys : List Nat) : -1 <= cmpL xs ys /\ cmpL xs ys <= 1 := by unfold cmpL; split <;> exact cmpI_bd _ _
section
variable {A B : Option Addr} {c d n m : Nat} {xs ys : List Nat} {w : World} {s t : Bool}
theorem int_Sub (hn : xs.length = n) (hm : ys.length = m) (hx : Rd w A xs) (hy : Rd w B ys) (hc : n <= c) (hcm : c <= maxLen) (hd : m <= d) (hdm : d <= maxLen) (h1 : n <= 100000) (h2 : m <= 100000) :
  Calls Tryz.prog 143 #[.agg #[.bool s, .slice A n c], .agg #[.bool t, .slice B m d]] w (RetI (ival s xs - ival t ys) (max xs.length ys.length + 1) w) := by
 have Hn := Lib.hid hn;have Hm := Lib.hid hm;clear hn hm;have lx := trimL_len xs;have ly := trimL_len ys;have hxt : Rd w A (trimL xs) := by rw [trimL_take]; exact hx.take _
 have hyt : Rd w B (trimL ys) := by rw [trimL_take]; exact hy.take _
 go_enter Tryz.func143, Tryz.ntmps143
 go_upto_region 1 with (fail)
 obtain ⟨W, hW, extW, bx, by_, bz, hz⟩ := box3 w 28 28 28 #[.bool s, .slice A n c] #[.bool t, .slice B m d] #[.bool false, .slice none 0 0];rw [<- hW];clear hW;have x0 := bx.cell 0 (.bool s) rfl;have x1 := bx.cell 1 (.slice A n c) rfl;have y0 := by_.cell 0 (.bool t) rfl;have y1 := by_.cell 1 (.slice B m d) rfl;have g0 := by_.frozen 0;have ext4 : Ext W (W.setCell ⟨w.heap.size + 1, 0, none⟩ (.bool (!t))) -> True := fun _ => trivial
 clear ext4;have hE := extW.setCell (p := ⟨w.heap.size + 1, 0, none⟩) (Nat.le_succ _) (.bool (!t));have by2 := by_.setA (.bool (!t));have bx2 := bx.far (p := ⟨w.heap.size + 1, 0, none⟩) (far_ne (by omega)) (.bool (!t));have bz2 := bz.far (p := ⟨w.heap.size + 1, 0, none⟩) (far_ne (by omega)) (.bool (!t));have HE := Lib.hid hE;clear hE
 go_wp2_with (go_at_call 99; refine (int_Add Hn.out Hm.out (hx.ext HE.out) (hy.ext HE.out) hc hcm hd hdm h1 h2).mono ?_; rintro e w3 ⟨b3, A3, c3, rs, rfl, hr3, hc3, hm3, hi3, hl3, hext3⟩; have bz3 := bz2.ext hext3; have z0 := bz3.cell 0 (.bool false) rfl; have z1 := bz3.cell 1 (.slice none 0 0) rfl; have f0 := bz3.frozen 0; have f1 := bz3.frozen 1)
 obtain ⟨r1, r2, r3, r4⟩ := fin_pair (b := b3) (n := rs.length) (c := c3) (HE.out.trans hext3) (by omega) bz3 hr3;exact bodyPost_ret (v := .agg #[.bool b3, .slice A3 rs.length c3]) (by simp [results, Tryz.results143, go_sem, r3, r4]) rfl ⟨b3, A3, c3, rs, rfl, r1, hc3, hm3, by rw [ival_not] at hi3; exact hi3, hl3, r2⟩
theorem int_Cmp (hn : xs.length = n) (hm : ys.length = m) (hx : Rd w A xs) (hy : Rd w B ys) (hc : n <= c) (hcm : c <= maxLen) (hd : m <= d) (hdm : d <= maxLen) (h1 : n <= 100000) (h2 : m <= 100000) :
  Calls Tryz.prog 104 #[.agg #[.bool s, .slice A n c], .agg #[.bool t, .slice B m d]] w fun e w' => e = .returned (.int .i64 (ival s xs - ival t ys).sign) /\ Ext w w' := by
 have Hn := Lib.hid hn;have Hm := Lib.hid hm;clear hn hm;have lx := trimL_len xs;have ly := trimL_len ys;have hxt : Rd w A (trimL xs) := by rw [trimL_take]; exact hx.take _
 have hyt : Rd w B (trimL ys) := by rw [trimL_take]; exact hy.take _
 go_enter Tryz.func104, Tryz.ntmps104
 go_upto_region 1 with (fail)
 obtain ⟨W, hW, extW, bx, by_, hz⟩ := box2 w 28 28 #[.bool s, .slice A n c] #[.bool t, .slice B m d];rw [<- hW];clear hW;have x0 := bx.cell 0 (.bool s) rfl;have x1 := bx.cell 1 (.slice A n c) rfl;have y0 := by_.cell 0 (.bool t) rfl;have y1 := by_.cell 1 (.slice B m d) rfl
 go_region_held3 (fun w' => w'.cell? ⟨w.heap.size, 0, none⟩ = some (.bool s) /\ w'.cell? ⟨w.heap.size, 1, none⟩ = some (.slice A n c) /\ w'.cell? ⟨w.heap.size + 1, 0, none⟩ = some (.bool t) /\ w'.cell? ⟨w.heap.size + 1, 1, none⟩ = some (.slice B m d)) (first | (go_split_ands; refine ⟨?_, ?_, ?_, ?_⟩ <;> first | (exact Ext.cellv (by assumption) (by assumption)) | (refine (cell_far2 (by omega)).trans ?_; assumption)) | go_keep)
  (first | (go_at_call_of 72 A; refine (int_Sign Hn.out (hx.ext (by first | exact extW | exact extW.drew | exact extW.drewN _ | exact (extW.drew).drew)) hc hcm h1).mono ?_; rintro e w3 ⟨rfl, hext3⟩) | (go_at_call_of 72 B; refine (int_Sign Hm.out (hy.ext (extW.trans ((Ext.refl W).drew.trans hext3))) hd hdm h2).mono ?_; rintro e w4 ⟨rfl, hext4⟩))
 have ext4 := ((Ext.refl W).drew.trans hext3).trans hext4;have bx4 := bx.ext ext4;have by4 := by_.ext ext4;have extN := extW.trans ext4;clear bx by_ x0 x1 y0 y1 ext4 hext3 hext4 extW;have x1 := bx4.cell 1 (.slice A n c) rfl;have y1 := by4.cell 1 (.slice B m d) rfl;have hx4 := hx.ext extN;have hy4 := hy.ext extN;have hxt4 := hxt.ext extN;have hyt4 := hyt.ext extN
 rename_i hh
 clear hh
 rcases sign_cases (ival s xs) with ⟨ha, ea⟩ | ⟨ha, ea⟩ | ⟨ha, ea⟩ <;> rcases sign_cases (ival t ys) with ⟨hb, eb⟩ | ⟨hb, eb⟩ | ⟨hb, eb⟩
 all_goals
  rw [ea, eb];have Ea := Lib.hid ea;have Eb := Lib.hid eb;have Ha := Lib.hid ha;have Hb := Lib.hid hb;clear ea eb ha hb
  go_wp2_with fail
  first
  | (go_ret
     exact ⟨ret_int (by have := Ha.out; have := Hb.out; first | exact (sign_of_lt (by omega)).symm | exact (sign_of_gt (by omega)).symm), extN⟩)
  | skip
 all_goals
  have hbd := cmpL_bd (trimL xs) (trimL ys);have hbd1 := hbd.1;have hbd2 := hbd.2;clear hbd;have hfin := Lib.hid (cmp_sign hx.1 hy.1 _ Ea.out Eb.out)
  go_region_held3 (fun w' => w'.cell? ⟨w.heap.size, 1, none⟩ = some (.slice A n c) /\ w'.cell? ⟨w.heap.size + 1, 1, none⟩ = some (.slice B m d)) (first | (go_split_ands; refine ⟨?_, ?_⟩ <;> first | (exact Ext.cellv (by assumption) (by assumption)) | (refine (cell_far2 (by omega)).trans ?_; assumption)) | go_keep)
   (first | (go_at_call_of 114 A; refine (int_trimN Hn.out (hx4.ext (by first | exact Ext.refl _ | exact (Ext.refl _).drew)) hc hcm).mono ?_; rintro e w5 ⟨rfl, rfl⟩) | (go_at_call_of 114 B; refine (int_trimN Hm.out (hy4.ext (by first | exact Ext.refl _ | exact (Ext.refl _).drew)) hd hdm).mono ?_; rintro e w5 ⟨rfl, rfl⟩) | (go_at_call 139; refine (int_compare A B c d (trimL xs) (trimL ys) _ (hxt4.ext (by first | exact Ext.refl _ | exact (Ext.refl _).drew)) (hyt4.ext (by first | exact Ext.refl _ | exact (Ext.refl _).drew)) (by have := Hn.out; unfold maxLen; omega) (by have := Hm.out; unfold maxLen; omega)).mono ?_; rintro e w6 ⟨rfl, hext6⟩))
  go_wp2_with fail
  go_ret
  refine ⟨ret_int ?_, extN.trans ((Ext.refl _).drew.trans hext6)⟩;rw [<- hfin.out]
  first | omega | (rw [IntWalk.i64_in _ (by omega)]; omega) | (rw [IntWalk.i64_in _ (by constructor <;> omega)]; omega) | (simp; done)
end
section
variable {A B : Option Addr} {c d n m : Nat} {xs ys : List Nat} {w : World}
theorem clone_blk (hn : xs.length = n) (hx : Rd w A xs) (h0 : 0 < n) (hl : n <= 1000000) :
  Calls Tryz.prog 127 #[.slice A n c] w fun e w' => ∃ g c1, e = .returned (.slice (some ⟨g, 0, none⟩) n c1) /\ BlkN w' g xs /\ w.heap.size <= g /\ n <= c1 /\ c1 <= maxLen /\ Ext w w' := by
 refine (clone hn hx hl).mono ?_;rintro e w' ⟨A1, c1, zs, rfl, ho, hc, hm, rfl, ext⟩
 rcases ho.2 with rfl | ⟨g, rfl, hg, hb⟩
 ·simp at hn; omega
 ·exact ⟨g, c1, by rw [hn], hb, hg, by omega, hm, ext⟩
def Buf (w : World) (g N : Nat) (xs : List Nat) : Prop := ∃ l, BlkN w g (xs ++ l) /\ N <= (xs ++ l).length /\ W32 l
theorem Buf.rd {w : World} {g N : Nat} {xs : List Nat} (h : Buf w g N xs) (hw : W32 xs) : Rd w (some ⟨g, 0, none⟩) xs := by
 obtain ⟨l, h, _⟩ := h;have := (h.take xs.length);rw [List.take_left'  rfl] at this;exact this.rd0 hw
theorem Buf.ext {w w' : World} {g N : Nat} {xs : List Nat} (h : Buf w g N xs) (e : Ext w w') : Buf w' g N xs := by
 obtain ⟨l, h, hl⟩ := h;exact ⟨l, h.ext e, hl⟩
theorem Buf.mod {w w' : World} {g g' N : Nat} {xs : List Nat} (h : Buf w g N xs) (e : Mod w w' g') (hn : g ≠ g') : Buf w' g N xs := by
 obtain ⟨l, h, hl⟩ := h;exact ⟨l, h.mod e hn, hl⟩
theorem Buf.mono {w : World} {g N M : Nat} {xs : List Nat} (h : Buf w g N xs) (hl : M <= N) : Buf w g M xs := by
 obtain ⟨l, h, h2⟩ := h;exact ⟨l, h, by omega, h2.2⟩
theorem Buf.room {w : World} {g N : Nat} {xs : List Nat} (h : Buf w g N xs) (hw : W32 xs) : Buf w g N [] := by
 obtain ⟨l, h, h2, h3⟩ := h;exact ⟨xs ++ l, h, h2, hw.append h3⟩
def look (w : World) : Value -> Nat
 | .slice (some ad) k _ => val ((List.range k).map fun j => match w.cell? ⟨ad.block, ad.off + j, none⟩ with | some (.int _ z) => z.toNat | _ => 0)
 | _ => 0
theorem look_rd {w : World} {g c : Nat} {xs : List Nat} (h : Rd w (some ⟨g, 0, none⟩) xs) : look w (.slice (some ⟨g, 0, none⟩) xs.length c) = val xs := by
 unfold look;refine congrArg val (List.ext_getElem (by simp) fun i h1 h2 => ?_);obtain ⟨b, off, he, _, hc⟩ := h.at_ h2
 injection he with he
 injection he with e1 e2
 subst e1;subst e2;simp only [List.getElem_map, List.getElem_range, hc];simp
structure RInv (w V : World) (n0 G : Nat) (ga gb gs gt ca cb cs ct : Nat) (xs ys : List Nat) : Prop where
 n0 : xs.length <= n0
 wx : W32 xs
 wy : W32 ys
 nx : Nrm xs
 ny : Nrm ys
 le : val ys <= val xs
 gcd : Nat.gcd (val xs) (val ys) = G
 bx : Buf V ga xs.length xs
 by_ : Buf V gb xs.length ys
 bs : Buf V gs xs.length []
 bt : Buf V gt xs.length []
 caps : xs.length <= ca /\ xs.length <= cb /\ xs.length <= cs /\ xs.length <= ct
 maxs : ca <= maxLen /\ cb <= maxLen /\ cs <= maxLen /\ ct <= maxLen
 ne : ga ≠ gb /\ ga ≠ gs /\ ga ≠ gt /\ gb ≠ gs /\ gb ≠ gt /\ gs ≠ gt
 lo : w.heap.size <= ga /\ w.heap.size <= gb /\ w.heap.size <= gs /\ w.heap.size <= gt
 ext : Ext w V
theorem RInv.lens {w V : World} {n0 G ga gb gs gt ca cb cs ct : Nat} {xs ys : List Nat} (h : RInv w V n0 G ga gb gs gt ca cb cs ct xs ys) : ys.length <= xs.length := by
 refine Nat.le_of_not_lt fun hlt => ?_
 have h1 := h.ny.ge (by rintro rfl; simp at hlt);have h2 := val_lt h.wx;have h3 : 4294967296 ^ xs.length <= 4294967296 ^ (ys.length - 1) := Nat.pow_le_pow_right (by omega) (by omega);have h4 := h.le;generalize 4294967296 ^ xs.length = p at *;generalize 4294967296 ^ (ys.length - 1) = q at *;omega
theorem bits_many {xs : List Nat} (hw : W32 xs) (hn : Nrm xs) (h : 3 <= xs.length) : 62 <= bitsN xs := by
 refine Nat.le_of_not_lt fun hlt => ?_
 have h1 := (bitsN_spec hw hn (by omega)).2.2.1;have h2 := hn.ge (by rintro rfl; simp at h);have h3 : 2 ^ bitsN xs <= 2 ^ 62 := Nat.pow_le_pow_right (by omega) (by omega);have h4 : 4294967296 ^ 2 <= 4294967296 ^ (xs.length - 1) := Nat.pow_le_pow_right (by omega) (by omega);have h5 : (2 : Nat) ^ 62 = 4611686018427387904 := by decide
 have h6 : (4294967296 : Nat) ^ 2 = 18446744073709551616 := by decide
 generalize 4294967296 ^ (xs.length - 1) = p at *;generalize 2 ^ bitsN xs = q at *;omega
theorem RInv.extv {w V V' : World} {n0 G ga gb gs gt ca cb cs ct : Nat} {xs ys : List Nat} (h : RInv w V n0 G ga gb gs gt ca cb cs ct xs ys) (e : Ext V V') : RInv w V' n0 G ga gb gs gt ca cb cs ct xs ys :=
 ⟨h.n0, h.wx, h.wy, h.nx, h.ny, h.le, h.gcd, h.bx.ext e, h.by_.ext e, h.bs.ext e, h.bt.ext e, h.caps, h.maxs, h.ne, h.lo, h.ext.trans e⟩
theorem RInv.divide {w V V' : World} {n0 G ga gb gs gt ca cb cs ct : Nat} {xs ys rs l : List Nat} (h : RInv w V n0 G ga gb gs gt ca cb cs ct xs ys) (h3 : 0 < ys.length) (hw : W32 rs) (hn : Nrm rs) (hv : val rs = val xs % val ys) (hl : ys.length <= (rs ++ l).length) (hwl : W32 l)
  (hb : BlkN V' ga (rs ++ l)) (md : Mod V V' ga) : RInv w V' n0 G gb ga gs gt cb ca cs ct ys rs /\ val ys + val rs < val xs + val ys := by
 have hlen := h.lens
 have hpos : 0 < val ys := by
  have := h.ny.ge (by rintro rfl; simp at h3);have h2 : 0 < 4294967296 ^ (ys.length - 1) := Nat.pow_pos (by omega);omega
 have hlt := Nat.mod_lt (val xs) hpos;rw [<- hv] at hlt;obtain ⟨c1, c2, c3, c4⟩ := h.caps;obtain ⟨m1, m2, m3, m4⟩ := h.maxs;obtain ⟨n1, n2, n3, n4, n5, n6⟩ := h.ne;obtain ⟨l1, l2, l3, l4⟩ := h.lo;have h0 := h.n0;have hle := h.le;refine ⟨⟨by omega, h.wy, hw, h.ny, hn, by omega, ?_, (h.by_.mod md (Ne.symm n1)).mono hlen, ⟨l, hb, hl, hwl⟩, (h.bs.mod md (Ne.symm n2)).mono hlen, (h.bt.mod md (Ne.symm n3)).mono hlen, ⟨by omega, by omega, by omega, by omega⟩, ⟨m2, m1, m3, m4⟩, ⟨Ne.symm n1, n4, n5, n2, n3, n6⟩, ⟨l2, l1, l3, l4⟩, Mod.ext h.ext md l1⟩, by omega⟩;rw [hv, <- h.gcd, Nat.gcd_comm (val xs), Nat.gcd_rec (val ys) (val xs), Nat.gcd_comm]
theorem RInv.lehmer {w V V' : World} {n0 G ga gb gs gt ca cb cs ct R S : Nat} {xs ys zs us : List Nat} (h : RInv w V n0 G ga gb gs gt ca cb cs ct xs ys) (hb1 : BlkN V' gs zs) (hb2 : BlkN V' gt us) (hz : zs.length = xs.length) (hu : us.length = xs.length) (hzw : W32 zs) (huw : W32 us) (hR : val zs = R) (hS : val us = S)
  (hlt : S < R) (hsum : R + S <= val xs) (hg : Nat.gcd R S = Nat.gcd (val xs) (val ys)) (hy0 : 0 < val ys) (ba : Buf V' ga xs.length xs) (bb : Buf V' gb xs.length []) (e : Ext w V') : RInv w V' n0 G gs gt ga gb cs ct ca cb (trimL zs) (trimL us) /\ val (trimL zs) + val (trimL us) < val xs + val ys := by
 obtain ⟨c1, c2, c3, c4⟩ := h.caps;obtain ⟨m1, m2, m3, m4⟩ := h.maxs;obtain ⟨n1, n2, n3, n4, n5, n6⟩ := h.ne;obtain ⟨l1, l2, l3, l4⟩ := h.lo;have h0 := h.n0;have t1 : (trimL zs).length <= xs.length := by rw [<- hz]; exact trimL_len zs
 have t2 : (trimL us).length <= us.length := trimL_len us;rw [val_trimL, val_trimL, hR, hS];refine ⟨⟨by omega, hzw.trimL, huw.trimL, Nrm.trimL _, Nrm.trimL _, by rw [val_trimL, val_trimL]; omega, by rw [val_trimL, val_trimL, hR, hS, hg]; exact h.gcd, ?_, ?_, (ba.room h.wx).mono t1, bb.mono t1, ⟨by omega, by omega, by omega, by omega⟩, ⟨m3, m4, m1, m2⟩, ⟨n6, Ne.symm n2, Ne.symm n4, Ne.symm n3, Ne.symm n5, n1⟩, ⟨l3, l4, l1, l2⟩, e⟩, by omega⟩
 ·refine ⟨zs.drop (trimL zs).length, ?_, ?_⟩
  ·have e1 := List.take_append_drop (trimL zs).length zs
   rw [<- trimL_take zs] at e1;rw [e1]; exact hb1
  ·refine ⟨by simp; try omega, fun x hx => hzw x (List.mem_of_mem_drop hx)⟩
 ·refine ⟨us.drop (trimL us).length, ?_, ?_⟩
  ·have e1 := List.take_append_drop (trimL us).length us
   rw [<- trimL_take us] at e1;rw [e1]; exact hb2
  ·refine ⟨by simp; try omega, fun x hx => huw x (List.mem_of_mem_drop hx)⟩
def RetRd (x y n : Nat) (w : World) (e : Ending) (w' : World) : Prop :=
 ∃ A' c' zs B' d' us, e = .returned (.tuple #[.slice A' (List.length zs) c', .slice B' (List.length us) d']) /\ Rd w' A' zs /\ Rd w' B' us /\ zs.length <= c' /\ c' <= maxLen /\ us.length <= d' /\ d' <= maxLen /\ Nrm zs /\ Nrm us /\ val us <= val zs /\ us.length <= 2 /\ zs.length <= n /\ Nat.gcd (val zs) (val us) = Nat.gcd x y /\ Ext w w'
set_option maxRecDepth 100000 in
theorem int_reduce (hn : xs.length = n) (hm : ys.length = m) (hx : Rd w A xs) (hy : Rd w B ys) (hnx : Nrm xs) (hny : Nrm ys) (hle : val ys <= val xs) (hmn : m <= n) (h2 : 2 < m) (h1 : n <= 30000) :
  Calls Tryz.prog 150 #[.slice A n c, .slice B m d] w (RetRd (val xs) (val ys) n w) := by
 have Hn := Lib.hid hn;have Hm := Lib.hid hm;have Hle := Lib.hid hle;clear hn hm hle;have hx0 := Lib.hid hx.1;have hy0 := Lib.hid hy.1
 have hmk1 : ∀ W : World, (Instr.makeSlice 105 (.int .i64 0) (.int .i64 (n : Int))).run Tryz.prog W = .ok (.slice (some ⟨W.heap.size, 0, none⟩) 0 n) (W.alloc (.cells (madeCells #[.int .u32 0] n) 89)) := fun W => by
  obtain ⟨i0, hi, hz0, hz1, hz2⟩ := info_parts Tryz.infoW;have := run_make_rowN (P := Tryz.prog) 105 89 i0 (.int .u32 0) Tryz.underlying105 hi hz0 .i64 .i64 0 n (by omega) (by rw [hz2]; omega) (by omega) W;rw [hz1, Nat.mul_one] at this;exact this
 have hmk2 : ∀ W : World, (Instr.makeSlice 105 (.int .i64 (n : Int)) (.int .i64 (n : Int))).run Tryz.prog W = .ok (.slice (some ⟨W.heap.size, 0, none⟩) n n) (W.alloc (.cells (madeCells #[.int .u32 0] n) 89)) := fun W =>
  mk_words 105 Tryz.underlying105 n (by omega) W
 go_enter Tryz.func150, Tryz.ntmps150
 go_upto_region 2 with (fail)
 go_cut [0, 1] (fun a b V => ∃ ga gb ca, a = .slice (some ⟨ga, 0, none⟩) n ca /\ b = .slice (some ⟨gb, 0, none⟩) m n /\ BlkN V ga xs /\ BlkN V gb (ys ++ List.drop m (List.replicate n 0)) /\ w.heap.size <= ga /\ w.heap.size <= gb /\ ga ≠ gb /\ n <= ca /\ ca <= maxLen /\ Ext w V)
 case first =>
  go_region_held3 (fun w' => Ext w w') (first | exact (by assumption : Ext w _) | exact (Ext.refl w).drew | exact (Ext.refl w).drew.alloc _ | exact Ext.alloc (by assumption) _ | exact Ext.trans (Ext.refl w).drew (by assumption) | exact Ext.trans ((Ext.refl w).drew.alloc _) (by assumption) | go_keep)
   (first
    | (go_at_call 127; refine (clone_blk Hn.out (hx.ext (by first | exact (Ext.refl w).drew | exact (Ext.refl w).drew.alloc _)) (by omega) (by omega)).mono ?_; rintro e w1 ⟨g1, c1, rfl, hb1, hg1, hc1, hm1, ext1⟩)
    | (refine step_append_fill (ns := List.replicate n 0) (by rfl) _ _ _ (by rfl) Tryz.underlying105 (by rfl) (by first | exact BlkN.new _ n | exact BlkN.ext (w := (w.alloc _).drew) (BlkN.new w n) (by assumption)) (by rfl) Hm.out (hy.ext (by first | exact Ext.alloc (Ext.trans (Ext.refl w).drew (by assumption)) _ | exact Ext.trans ((Ext.refl w).alloc _).drew (by assumption))) (by rw [List.length_replicate]; omega) (by omega) ?_; rintro w2 hb2 md2; have ext2 : Ext w w2 := by first | exact Mod.ext (Ext.alloc (Ext.trans (Ext.refl w).drew (by assumption)) _) md2 (Ext.trans (Ext.refl w).drew (by assumption)).size | exact Mod.ext (Ext.trans ((Ext.refl w).alloc _).drew (by assumption)) md2 (Nat.le_refl _)))
  ·go_wp2_with fail
   go_meet
   have hlt := hb1.lt;exact ⟨g1, w1.heap.size, c1, rfl, rfl, (hb1.ext ((Ext.refl w1).alloc _)).mod md2 (by omega), hb2, hg1, ext1.size, by omega, hc1, hm1, ext2⟩
  ·go_wp2_with fail
   go_meet
   have hg2 : w.heap.size + 1 <= g1 := by simpa using hg1
   exact ⟨g1, w.heap.size, c1, rfl, rfl, hb1.mod md2 (by omega), hb2, by omega, Nat.le_refl _, by omega, hc1, hm1, ext2⟩
 case rest =>
  clear hx hy;obtain ⟨ga, gb, ca, rfl, rfl, hba, hbb, hga, hgb, hne, hca, hcam, ext1⟩ := hcut
  go_upto_region 3 with (fail)
  go_cut [7, 8] (fun a b V => ∃ gs gt, a = .slice (some ⟨gs, 0, none⟩) n n /\ b = .slice (some ⟨gt, 0, none⟩) n n /\ RInv w V n (Nat.gcd (val xs) (val ys)) ga gb gs gt ca n n n xs ys)
  case first =>
   go_region_held3 (fun w' => Ext wc w') (first | exact (by assumption : Ext wc _) | exact (Ext.refl wc).drew | exact (Ext.refl wc).drew.alloc _ | exact Ext.alloc (by assumption) _ | go_keep) (fail)
   all_goals (go_wp2_with fail; go_meet)
   all_goals (
    have hn := Hn.out;have hm := Hm.out;have l1 := hba.lt;have l2 := hbb.lt;have e0 := ext1.size;have k1 : Ext wc (((wc.alloc (.cells (madeCells #[.int .u32 0] n) 89)).alloc (.cells (madeCells #[.int .u32 0] n) 89)).drew) := (((Ext.refl wc).alloc _).alloc _).drew;have b1 : BlkN (((wc.alloc (.cells (madeCells #[.int .u32 0] n) 89)).alloc (.cells (madeCells #[.int .u32 0] n) 89)).drew) wc.heap.size (List.replicate n 0) := (BlkN.new wc n).ext (((Ext.refl _).alloc _).drew)
    have b2 : BlkN (((wc.alloc (.cells (madeCells #[.int .u32 0] n) 89)).alloc (.cells (madeCells #[.int .u32 0] n) 89)).drew) (wc.heap.size + 1) (List.replicate n 0) := by
     have := BlkN.new (wc.alloc (.cells (madeCells #[.int .u32 0] n) 89)) n;rw [show (wc.alloc (.cells (madeCells #[.int .u32 0] n) 89)).heap.size = wc.heap.size + 1 by simp] at this;exact this
    refine ⟨_, _, rfl, rfl, ⟨by omega, hx0.out, hy0.out, hnx, hny, Hle.out, rfl, ?_, ?_, ?_, ?_, by omega, by unfold maxLen at *; omega, by omega, by omega, ext1.trans k1⟩⟩
    ·exact ⟨[], by rw [List.append_nil]; exact hba.ext k1, by simp, fun x hx => by cases hx⟩
    ·exact ⟨_, hbb.ext k1, by simp; omega, fun x hx => W32.replicate n x (List.mem_of_mem_drop hx)⟩
    ·exact ⟨List.replicate n 0, by first | exact b1 | exact b2, by simp; omega, W32.replicate n⟩
    ·exact ⟨List.replicate n 0, by first | exact b1 | exact b2, by simp; omega, W32.replicate n⟩)
  case rest =>
   clear hba hbb ext1;obtain ⟨gs, gt, rfl, rfl, hI⟩ := hcut;have HI := Lib.hid hI;clear hI hnx hny
   go_wp2_with fail
   go_loopw [0, 1, 7, 8] (fun a b sa sb V => ∃ (ga gb gs gt ca cb cs ct ps pt : Nat) (us vs : List Nat), a = .slice (some ⟨ga, 0, none⟩) us.length ca /\ b = .slice (some ⟨gb, 0, none⟩) vs.length cb /\ sa = .slice (some ⟨gs, 0, none⟩) ps cs /\ sb = .slice (some ⟨gt, 0, none⟩) pt ct /\ RInv w V n (Nat.gcd (val xs) (val ys)) ga gb gs gt ca cb cs ct us vs) (fun a b _ _ V => look V a + look V b)
   case atStart => exact ⟨ga, gb, gs, gt, ca, n, n, n, n, n, xs, ys, by rw [Hn.out], by rw [Hm.out], rfl, rfl, HI.out⟩
   case round =>
    clear HI;obtain ⟨ga, gb, gs, gt, ca, cb, cs, ct, ps, pt, us, vs, rfl, rfl, rfl, rfl, hI⟩ := hrel;have hru := hI.bx.rd hI.wx;have hrv := hI.by_.rd hI.wy;have hn0 := hI.n0;have HI := Lib.hid hI;clear hI
    by_cases h3 : vs.length <= 2
    ·go_wp2_with fail
     have hI := HI.out;have hc := hI.caps;have hm := hI.maxs;have hlb : vs.length <= us.length := hI.lens;exact bodyPost_ret (v := .tuple #[.slice (some ⟨ga, 0, none⟩) us.length ca, .slice (some ⟨gb, 0, none⟩) vs.length cb]) (by simp [results, Tryz.results150, go_sem]) rfl ⟨_, ca, us, _, cb, vs, rfl, hru, hrv, by omega, by omega, by omega, by omega, hI.nx, hI.ny, hI.le, h3, hn0, hI.gcd, hI.ext⟩
    ·have hlb : vs.length <= us.length := HI.out.lens
     have hb := bitsN_spec HI.out.wx HI.out.nx (by omega);have hb65 : 62 <= bitsN us := bits_many HI.out.wx HI.out.nx (by omega);obtain ⟨k, hk⟩ : ∃ k, bitsN us = k + 62 := ⟨bitsN us - 62, by omega⟩;have hkb : k <= 960000 := by omega
     have hwx : val us / 2 ^ k < 4611686018427387904 := by
      refine Nat.div_lt_of_lt_mul ?_;have := hb.2.2.1;rw [hk, Nat.pow_add] at this;exact this
     have hwy : val vs / 2 ^ k <= val us / 2 ^ k := Nat.div_le_div_right HI.out.le;obtain ⟨a0, ha0⟩ : ∃ a0, val us / 2 ^ k = a0 := ⟨_, rfl⟩;obtain ⟨b0, hb0⟩ : ∃ b0, val vs / 2 ^ k = b0 := ⟨_, rfl⟩;have Ha0 := Lib.hid ha0;have Hb0 := Lib.hid hb0;rw [ha0] at hwx hwy;rw [hb0] at hwy;have Hk := Lib.hid hk;clear hb hb65 hk ha0 hb0
     go_wp2_with (first | (go_at_call 165; refine (int_bits (n := us.length) rfl hru (by omega)).mono ?_; rintro e w1 ⟨rfl, rfl⟩; rw [Hk.out, show ((k + 62 : Nat) : Int) = (k : Int) + 62 by omega]) | (go_at_call 167; refine (int_window (k := k) rfl (by first | exact hru | exact hrv) (by have := HI.out.caps; omega) (by have := HI.out.maxs; omega) hkb (by omega) (by first | (rw [Ha0.out]; omega) | (rw [Hb0.out]; omega))).mono ?_; rintro e w1 ⟨he, rfl⟩; (first | rw [Ha0.out] at he | rw [Hb0.out] at he); subst he))
     refine (int_simulate hwy hwx).mono ?_;rintro e w2 ⟨x1, y1, x2, y2, rfl, hst, ext2⟩;rw [<- Ha0.out, <- Hb0.out] at hst;have Hst := Lib.hid hst;clear hst
     go_upto_region 7 with (fail)
     obtain ⟨W, hW, extW, bz, hz⟩ := box1 w2 148 #[.int .i64 x1, .int .i64 y1, .int .i64 x2, .int .i64 y2];rw [<- hW];clear hW;have z0 := bz.cell 0 (.int .i64 x1) rfl;have z1 := bz.cell 1 (.int .i64 y1) rfl;have z2 := bz.cell 2 (.int .i64 x2) rfl;have z3 := bz.cell 3 (.int .i64 y2) rfl;have hI2 := HI.out.extv (ext2.trans extW);have HI2 := Lib.hid hI2
     have lts : ga < w2.heap.size /\ gb < w2.heap.size /\ gs < w2.heap.size /\ gt < w2.heap.size := by
      obtain ⟨_, b1, _⟩ := HI.out.bx;obtain ⟨_, b2, _⟩ := HI.out.by_;obtain ⟨_, b3, _⟩ := HI.out.bs;obtain ⟨_, b4, _⟩ := HI.out.bt;have := ext2.size;exact ⟨by have := b1.lt; omega, by have := b2.lt; omega, by have := b3.lt; omega, by have := b4.lt; omega⟩
     have hzlt := bz.lt;clear hI2 ext2 extW hru hrv
     by_cases hy1 : y1 = 0
     ·have hyb : (y1 == 0) = true := by simp [hy1]
      have Hyb := Lib.hid hyb;clear hyb hy1
      go_wp2_with (go_at_call 168; refine (int_none (x1 := x1) (y1 := y1) (x2 := x2) (y2 := y2)).mono ?_; rintro e w3 ⟨he, ext3⟩; rw [Hyb.out] at he; subst he)
      have hI3 := HI2.out.extv ext3;refine (divide_ok _ _ ca cb us.length vs.length us vs _ rfl rfl (hI3.bx.rd hI3.wx) (hI3.by_.rd hI3.wy) (by have := hI3.caps; omega) (by have := hI3.maxs; omega) (by have := hI3.caps; omega) (by have := hI3.maxs; omega) hI3.nx hI3.ny (by omega) (by omega) (by omega)).mono ?_;rintro e w4 ⟨Aq, cq, qs, Ar, cr, rs, rfl, hoq, hor, hcq, hmq, hcr, hmr, ⟨hq1, hr1, hq2, hr2, hq3, hr3⟩, ext4⟩;have hI4 := hI3.extv ext4;have HI4 := Lib.hid hI4;have Hr1 := Lib.hid hr1;obtain ⟨l, hbl, hll, hlw⟩ := hI4.bx;have hrr := hor.rd;have hw4 := hor.1;clear hI4 hI3 hq1 hr1 hoq
      go_wp2_with (at_builtin; refine wpList_append_fill rfl _ _ _ rfl Tryz.underlying105 rfl hbl rfl rfl hrr (by simp; omega) (by have := HI4.out.caps; omega) ?_; intro w5 hb5 md5)
      obtain ⟨hnew, hdec⟩ := HI4.out.divide (by omega) hw4 hr2 Hr1.out (by simp; omega) (fun x hx => (HI4.out.wx.append hlw) x (List.mem_of_mem_drop hx)) hb5 md5;refine ⟨⟨gb, ga, gs, gt, cb, ca, cs, ct, ps, pt, vs, rs, rfl, rfl, rfl, rfl, hnew⟩, ?_⟩;rw [look_rd (hnew.bx.rd hnew.wx), look_rd (hnew.by_.rd hnew.wy), look_rd (HI.out.bx.rd HI.out.wx), look_rd (HI.out.by_.rd HI.out.wy)];exact hdec
     ·have hyb : (y1 == 0) = false := by simp [hy1]
      have Hyb := Lib.hid hyb;have Hu := Lib.hid (Hst.out.use hy1 (by rw [Ha0.out]; exact hwx));clear hyb hy1 Hst Ha0 Hb0 hwx hwy;obtain ⟨hcap1, hcap2, hcap3, hcap4⟩ := HI2.out.caps;obtain ⟨hmax1, hmax2, hmax3, hmax4⟩ := HI2.out.maxs
      go_upto_region 12 with (go_at_call 168; refine (int_none (x1 := x1) (y1 := y1) (x2 := x2) (y2 := y2)).mono ?_; rintro e w3 ⟨he, ext3⟩; rw [Hyb.out] at he; subst he)
      have hbv : BlkN w3 gb (vs ++ List.replicate (us.length - vs.length) 0 ++ []) \/ True := .inr trivial;obtain ⟨l, hbl, hll, _⟩ := (HI2.out.extv ext3).by_;have hbl2 := hbl.take us.length;have hq : vs.length + (us.length - vs.length) = ((vs ++ l).take us.length).length := by rw [List.length_take]; omega
      have hbe : ((vs ++ l).take us.length).take vs.length = vs := by rw [List.take_take, Nat.min_eq_left hlb, List.take_left' rfl]
      obtain ⟨w4, hb4, md4, hcl⟩ := run_clear_words 105 0 Tryz.underlying105 hbl2 hq.symm.symm;rw [hbe] at hb4;have Hcl := Lib.hid hcl;clear hq hbe hbl hbl2 hll hbv hcl
      go_cut [] (fun V => V = w4)
      case first =>
       by_cases hcv : cb = vs.length
       ·subst hcv
        go_wp2_with fail
        have hz0 : us.length - vs.length = 0 := by omega
        have H0 := Hcl.out 0 0 (.inr hz0);rw [hz0] at H0;rw [H0];clear hz0 H0
        go_wp2_with fail
        go_meet
        try rfl
       ·go_wp2_with fail
        all_goals (first | omega | (rw [Hcl.out _ _ (by omega)]; go_wp2_with fail; go_meet; try rfl))
      case rest =>
       subst hcut;have hI3 := HI2.out.extv ext3;have b3a := hI3.bx.mod md4 hI3.ne.1;have b3s := hI3.bs.mod md4 (Ne.symm hI3.ne.2.2.2.1);have b3t := hI3.bt.mod md4 (Ne.symm hI3.ne.2.2.2.2.1);have z0 := (md4.cell (by show w2.heap.size < w3.heap.size; have := ext3.size; omega) (by show w2.heap.size ≠ gb; omega)).trans (ext3.cellv z0);have z1 := (md4.cell (by show w2.heap.size < w3.heap.size; have := ext3.size; omega) (by show w2.heap.size ≠ gb; omega)).trans (ext3.cellv z1);have z2 := (md4.cell (by show w2.heap.size < w3.heap.size; have := ext3.size; omega) (by show w2.heap.size ≠ gb; omega)).trans (ext3.cellv z2);have z3 := (md4.cell (by show w2.heap.size < w3.heap.size; have := ext3.size; omega) (by show w2.heap.size ≠ gb; omega)).trans (ext3.cellv z3);obtain ⟨R, S, hR, hS, hlt, hsum, hg, hs1, hs2, ⟨p1, p2, p3, p4⟩, q1, q2, q3, q4⟩ := Hu.out;have hvp : val (vs ++ List.replicate (us.length - vs.length) 0) = val vs := by rw [val_append, val_replicate, Nat.mul_zero, Nat.add_zero]
       have hyl : (vs ++ List.replicate (us.length - vs.length) 0).length = us.length := by simp; omega
       have hyw : W32 (vs ++ List.replicate (us.length - vs.length) 0) := W32.append hI3.wy (W32.replicate _);obtain ⟨e1, e2, e3, e4, e5, e6⟩ := hI3.ne;generalize vs ++ List.replicate (us.length - vs.length) 0 = yz at *;have Hvp := Lib.hid hvp;have Hyl := Lib.hid hyl;rw [<- hvp] at hR hS;have HR := Lib.hid hR;have HS := Lib.hid hS;have Hlt := Lib.hid hlt;have Hsum := Lib.hid hsum;have Hg := Lib.hid hg;have hba := b3a.rd hI3.wx;have hbb := hb4.rd0 hyw;obtain ⟨ls, hbs, hls, hlsw⟩ := b3s;obtain ⟨lt, hbt, hlt2, hltw⟩ := b3t;rw [List.nil_append] at hbs hls hbt hlt2;have hbs2 := hbs.take us.length;have hbt2 := hbt.take us.length;have HI3 := Lib.hid hI3;clear hR hS hlt hsum hg hvp hyl hI3 Hu hbs hbt;have hlR : R < 4294967296 ^ us.length := by have := val_lt HI3.out.wx; have := Hsum.out; omega
       have hlS : S < 4294967296 ^ us.length := by have := Hlt.out; omega
       have HlR := Lib.hid hlR;have HlS := Lib.hid hlS;clear hlR hlS;have hls1 : (ls.take us.length).length = us.length := by rw [List.length_take]; omega
       have hlt1 : (lt.take us.length).length = us.length := by rw [List.length_take]; omega
       have Hls1 := Lib.hid hls1;have Hlt1 := Lib.hid hlt1;have hws := hlsw.take us.length;have hwt := hltw.take us.length;have hap1 : Apart (some ⟨ga, 0, none⟩) us gs := fun _ a ha => by injection ha with ha; subst ha; exact e2
       have hap2 : Apart (some ⟨gb, 0, none⟩) yz gs := fun _ a ha => by injection ha with ha; subst ha; exact e4
       have hap3 : Apart (some ⟨ga, 0, none⟩) us gt := fun _ a ha => by injection ha with ha; subst ha; exact e3
       have hap4 : Apart (some ⟨gb, 0, none⟩) yz gt := fun _ a ha => by injection ha with ha; subst ha; exact e5
       generalize ls.take us.length = l1 at *;generalize lt.take us.length = l2 at *;clear hls1 hlt1
       go_upto_region 13 with (fail)
       have hgz : w2.heap.size < wc.heap.size := cell_lt z0;have ne1 : w2.heap.size ≠ gs := by omega
       have ne2 : w2.heap.size ≠ gt := by omega
       go_region_held3 (fun w' => w'.cell? ⟨w2.heap.size, 0, none⟩ = some (.int .i64 x1) /\ w'.cell? ⟨w2.heap.size, 1, none⟩ = some (.int .i64 y1)) (first | (go_split_ands; refine ⟨?_, ?_⟩ <;> assumption) | go_keep)
        ((go_at_call 169; refine (int_combine (w := wc.drew) (n := us.length) (xs := us) (ys := yz) (hbs2.ext (Ext.refl wc).drew) Hls1.out hws (hba.ext (Ext.refl wc).drew) rfl hap1 (hbb.ext (Ext.refl wc).drew) Hyl.out hap2 hs1 p1 p2 p3 p4 HR.out HlR.out (by omega) hcap1 hmax1 hcap2 hmax2 hcap3 hmax3).mono ?_; rintro e w5 ⟨zs, rfl, hzl, hzb, hzw, hzv, md5⟩; have t0 := (md5.cell hgz ne1).trans z0; have t1 := (md5.cell hgz ne1).trans z1; have t2 := (md5.cell hgz ne1).trans z2; have t3 := (md5.cell hgz ne1).trans z3))
       have M5 : Mod wc w5 gs := ((Ext.refl wc).drew.mod gs).trans md5;have c5a := hba.mod M5 hap1;have c5b := hbb.mod M5 hap2;have c5t := hbt2.mod M5 (Ne.symm e6);have b5a := b3a.mod M5 e2;have b5b := hb4.mod M5 e4;have hg5 : w2.heap.size < w5.heap.size := cell_lt t0;have Hzl := Lib.hid hzl;have Hzv := Lib.hid hzv;clear hzl hzv z0 z1 z2 z3 hba hbb hbt2 hbs2 b3a hb4
       go_upto_region 14 with (fail)
       go_region_held3 (fun w' => w'.cell? ⟨w2.heap.size, 2, none⟩ = some (.int .i64 x2) /\ w'.cell? ⟨w2.heap.size, 3, none⟩ = some (.int .i64 y2)) (first | (go_split_ands; refine ⟨?_, ?_⟩ <;> assumption) | go_keep)
        ((go_at_call 169; refine (int_combine (w := w5.drew) (n := us.length) (xs := us) (ys := yz) (c5t.ext (Ext.refl w5).drew) Hlt1.out hwt (c5a.ext (Ext.refl w5).drew) rfl hap3 (c5b.ext (Ext.refl w5).drew) Hyl.out hap4 hs2 q1 q2 q3 q4 HS.out HlS.out (by omega) hcap1 hmax1 hcap2 hmax2 hcap4 hmax4).mono ?_; rintro e w6 ⟨ts, rfl, htl, htw, htb, htv, md6⟩; have v2 := (md6.cell hg5 ne2).trans t2; have v3 := (md6.cell hg5 ne2).trans t3))
       have M6 : Mod w5 w6 gt := ((Ext.refl w5).drew.mod gt).trans md6;have hI3 := HI3.out;have E4 := Mod.ext hI3.ext md4 hI3.lo.2.1;have E5 := Mod.ext E4 M5 hI3.lo.2.2.1;have E6 := Mod.ext E5 M6 hI3.lo.2.2.2
       have hvs : 0 < val vs := by
        have := hI3.ny.ge (by rintro rfl; simp at h3);have h5 : 0 < 4294967296 ^ (vs.length - 1) := Nat.pow_pos (by omega);omega
       obtain ⟨hnew, hdec⟩ := hI3.lehmer (hzw.mod M6 e6) htb Hzl.out htl hzb htw Hzv.out htv Hlt.out Hsum.out Hg.out hvs (b5a.mod M6 e3) ⟨yz, b5b.mod M6 e5, by have := Hyl.out; rw [List.nil_append]; omega, hyw⟩ E6;have HN := Lib.hid (And.intro hnew hdec);clear hnew hdec hI3 E4 E5 E6 htl htv
       go_wp2_with fail
       obtain ⟨hnew, hdec⟩ := HN.out;refine ⟨⟨gs, gt, ga, gb, cs, ct, ca, cb, _, _, trimL zs, trimL ts, rfl, rfl, rfl, rfl, hnew⟩, ?_⟩;rw [look_rd (hnew.bx.rd hnew.wx), look_rd (hnew.by_.rd hnew.wy), look_rd (HI.out.bx.rd HI.out.wx), look_rd (HI.out.by_.rd HI.out.wy)];exact hdec
end
end
section
open Go.RowKit
def Tab (w : World) : Prop := ∀ j, j < 64 -> w.cell? ⟨0, j, none⟩ = some (.int .u8 (Lib.deBruijn64tab.getD j 0 : Nat))
theorem Tab.ext {w w' : World} (h : Tab w) (e : Ext w w') : Tab w' := fun j hj => e.cellv (h j hj)
section
variable {w : World}
theorem tz_core (x k idx : Nat) (hx0 : ((x : Int) == 0) = false)
  (key : IntKind.u64.wrap (bits BinOp.and IntKind.u64 (x : Int) (IntKind.u64.wrap (-(x : Int))) * 285870213051353865) / 288230376151711744 = (idx : Int)) (hi : idx < 64) (hk : k < 64) (hcell : w.cell? ⟨0, idx, none⟩ = some (.int .u8 (k : Int))) :
  Calls Tryz.prog 172 #[.int .u64 (x : Int)] w fun e w' => e = .returned (.int .i64 (k : Int)) /\ w = w' := by
 go_enter Tryz.func172, Tryz.ntmps172
 go_wp2_with (simp only [key])
 go_ret
 exact ⟨rfl, rfl⟩
theorem int_tz (x : Nat) (h0 : x ≠ 0) (hx : x < 18446744073709551616) (hT : Tab w) :
  Calls Tryz.prog 172 #[.int .u64 (x : Int)] w fun e w' => e = .returned (.int .i64 (Lib.ctz 64 x : Nat)) /\ w = w' := by
 obtain ⟨hlow, hk⟩ := Lib.lowest_bit 64 x h0 hx;obtain ⟨hi, htab⟩ := Lib.deBruijn64_at _ hk;have hcell := hT _ hi;rw [htab] at hcell;exact tz_core x _ _ (by rw [beq_eq_false_iff_ne]; omega) (tz64_key x _ hx h0 hlow) hi hk hcell
theorem ctz_odd {x : Nat} (h0 : x ≠ 0) (hx : x < 18446744073709551616) : ∃ m, x = 2 ^ Lib.ctz 64 x * (2 * m + 1) /\ Lib.ctz 64 x < 64 := by
 unfold Lib.ctz;rw [if_neg h0];exact Lib.ctzFrom_spec 64 x (by omega) hx
theorem ctz_unique {s t m l : Nat} (h : 2 ^ s * (2 * m + 1) = 2 ^ t * (2 * l + 1)) : s = t := by
 have key : ∀ {s t m l : Nat}, s < t -> 2 ^ s * (2 * m + 1) = 2 ^ t * (2 * l + 1) -> False := by
  intro s t m l hlt h;obtain ⟨d, rfl⟩ : ∃ d, t = s + (d + 1) := ⟨t - s - 1, by omega⟩;rw [Nat.pow_add, Nat.mul_assoc] at h;have h2 := Nat.eq_of_mul_eq_mul_left (Nat.pow_pos (by omega)) h;rw [Nat.pow_succ, Nat.mul_comm (2 ^ d) 2, Nat.mul_assoc] at h2;omega
 rcases Nat.lt_trichotomy s t with h1 | h1 | h1
 ·exact (key h1 h).elim
 ·exact h1
 ·exact (key h1 h.symm).elim
theorem or_odd (a c : Nat) : ∃ m, (2 * a + 1) ||| c = 2 * m + 1 := by
 refine ⟨((2 * a + 1) ||| c) / 2, ?_⟩
 have h : ((2 * a + 1) ||| c) % 2 = 1 := by
  simp
 omega
theorem ctz_or {a b : Nat} (ha : a ≠ 0) (hb : b ≠ 0) (ha2 : a < 18446744073709551616) (hb2 : b < 18446744073709551616) : Lib.ctz 64 (a ||| b) = min (Lib.ctz 64 a) (Lib.ctz 64 b) := by
 have key : ∀ {a b : Nat}, a ≠ 0 -> b ≠ 0 -> a < 18446744073709551616 -> b < 18446744073709551616 -> Lib.ctz 64 a <= Lib.ctz 64 b -> Lib.ctz 64 (a ||| b) = Lib.ctz 64 a := by
  intro a b ha hb ha2 hb2 hle;obtain ⟨m, em, _⟩ := ctz_odd ha ha2;obtain ⟨l, el, _⟩ := ctz_odd hb hb2;generalize Lib.ctz 64 a = s at *;generalize Lib.ctz 64 b = t at *
  have hor : a ||| b = 2 ^ s * ((2 * m + 1) ||| (2 ^ (t - s) * (2 * l + 1))) := by
   have e : b = 2 ^ s * (2 ^ (t - s) * (2 * l + 1)) := by rw [<- Nat.mul_assoc, <- Nat.pow_add, show s + (t - s) = t by omega]; exact el
   conv => lhs; rw [em, e]
   rw [Nat.mul_comm (2 ^ s), Nat.mul_comm (2 ^ s), Nat.mul_comm (2 ^ s), <- Nat.shiftLeft_eq, <- Nat.shiftLeft_eq, <- Nat.shiftLeft_eq, Nat.shiftLeft_or_distrib]
  obtain ⟨q, hq⟩ := or_odd m (2 ^ (t - s) * (2 * l + 1));rw [hq] at hor
  have hn : a ||| b ≠ 0 := by
   rw [hor];exact Nat.ne_of_gt (Nat.mul_pos (Nat.pow_pos (by omega)) (by omega))
  obtain ⟨r, er, _⟩ := ctz_odd hn (Nat.or_lt_two_pow (n := 64) ha2 hb2);exact ctz_unique (er.symm.trans hor)
 rcases Nat.le_total (Lib.ctz 64 a) (Lib.ctz 64 b) with h | h
 ·rw [key ha hb ha2 hb2 h, Nat.min_eq_left h]
 ·rw [Nat.or_comm, key hb ha hb2 ha2 h, Nat.min_eq_right h]
theorem gcd_odd {m k x : Nat} : Nat.gcd (2 * m + 1) (2 ^ k * x) = Nat.gcd (2 * m + 1) x := by
 have h : Nat.Coprime (2 ^ k) (2 * m + 1) := Nat.Coprime.pow_left k (by
  unfold Nat.Coprime;rw [Nat.gcd_rec, show (2 * m + 1) % 2 = 1 by omega]
  rfl)
 exact Nat.Coprime.gcd_mul_left_cancel_right x h
theorem shr_cast (x t : Nat) : (x : Int) / 2 ^ t = ((x / 2 ^ t : Nat) : Int) := by simp
theorem shl_cast64 {x t : Nat} (h : x * 2 ^ t < 18446744073709551616) : IntKind.u64.wrap ((x : Int) * 2 ^ t) = ((x * 2 ^ t : Nat) : Int) := by
 have e : (x : Int) * 2 ^ t = ((x * 2 ^ t : Nat) : Int) := by rw [Int.natCast_mul, Int.natCast_pow]; rfl
 rw [e, IntWalk.u64_in _ (by omega)]
theorem odd_part {x : Nat} (h0 : x ≠ 0) (hx : x < 18446744073709551616) : ∃ m, x / 2 ^ Lib.ctz 64 x = 2 * m + 1 /\ x = 2 ^ Lib.ctz 64 x * (2 * m + 1) /\ Lib.ctz 64 x < 64 := by
 obtain ⟨m, em, hk⟩ := ctz_odd h0 hx;refine ⟨m, ?_, em, hk⟩;generalize Lib.ctz 64 x = t at *;rw [em, Nat.mul_div_cancel_left _ (Nat.pow_pos (by omega))]
set_option maxRecDepth 100000 in
theorem int_commonUint {a0 b0 : Nat} (ha : a0 ≠ 0) (ha2 : a0 < 18446744073709551616) (hb2 : b0 < 18446744073709551616) (hT : Tab w) :
  Calls Tryz.prog 152 #[.int .u64 (a0 : Int), .int .u64 (b0 : Int)] w fun e w' => e = .returned (.int .u64 ((Nat.gcd a0 b0 : Nat) : Int)) /\ w = w' := by
 by_cases hb : b0 = 0
 ·subst hb
  have t0 : (((0 : Nat) : Int) == 0) = true := rfl
  go_enter Tryz.func152, Tryz.ntmps152
  go_wp2_with fail
  go_ret
  exact ⟨by rw [Nat.gcd_zero_right]; rfl, rfl⟩
 ·have t0 : ((b0 : Int) == 0) = false := by rw [beq_eq_false_iff_ne]; omega
  have hor := u64_or_nat a0 b0 ha2 hb2
  have hor0 : a0 ||| b0 ≠ 0 := by
   intro h;have := Nat.left_le_or (n := a0) (m := b0);omega
  have hor2 : a0 ||| b0 < 18446744073709551616 := Nat.or_lt_two_pow (n := 64) ha2 hb2;have hct := ctz_or ha hb ha2 hb2;obtain ⟨m0, em, ea, k1⟩ := odd_part ha ha2;obtain ⟨l0, el, eb, k2⟩ := odd_part hb hb2
  have hmin : Nat.gcd a0 b0 = 2 ^ min (Lib.ctz 64 a0) (Lib.ctz 64 b0) * Nat.gcd (2 * m0 + 1) (2 * l0 + 1) := by
   generalize Lib.ctz 64 a0 = s at *;generalize Lib.ctz 64 b0 = t at *
   rcases Nat.le_total s t with h | h
   ·rw [Nat.min_eq_left h]
    have e : b0 = 2 ^ s * (2 ^ (t - s) * (2 * l0 + 1)) := by rw [<- Nat.mul_assoc, <- Nat.pow_add, show s + (t - s) = t by omega]; exact eb
    rw [e, ea, Nat.gcd_mul_left, gcd_odd]
   ·rw [Nat.min_eq_right h]
    have e : a0 = 2 ^ t * (2 ^ (s - t) * (2 * m0 + 1)) := by rw [<- Nat.mul_assoc, <- Nat.pow_add, show t + (s - t) = s by omega]; exact ea
    rw [e, eb, Nat.gcd_mul_left, Nat.gcd_comm, gcd_odd, Nat.gcd_comm]
  have hT1 := int_tz (w := w) _ hor0 hor2 hT;rw [hct] at hT1;have hT2 := int_tz (w := w) _ ha ha2 hT;have hg0 : Nat.gcd (2 * m0 + 1) b0 = Nat.gcd (2 * m0 + 1) (2 * l0 + 1) := by rw [eb, gcd_odd]
  have hle : Nat.gcd a0 b0 <= a0 := Nat.le_of_dvd (by omega) (Nat.gcd_dvd_left _ _);rw [hmin] at hle ⊢;have hsc := shr_cast a0 (Lib.ctz 64 a0);rw [em] at hsc;have hm0 : 2 * m0 + 1 <= a0 := by rw [<- em]; exact Nat.div_le_self _ _
  have htw : min (Lib.ctz 64 a0) (Lib.ctz 64 b0) <= 63 := by omega
  generalize min (Lib.ctz 64 a0) (Lib.ctz 64 b0) = tw at *;generalize hta : Lib.ctz 64 a0 = ta at *;generalize Nat.gcd (2 * m0 + 1) (2 * l0 + 1) = G at *;generalize a0 ||| b0 = o at *;generalize hGG : 2 ^ tw * G = GG at *;have HGG := Lib.hid hGG;clear hGG;have HOr := Lib.hid hor;have H1 := Lib.hid hT1;have H2 := Lib.hid hT2;have HS := Lib.hid hsc;have HG := Lib.hid hg0;have HL := Lib.hid hle;clear hor hT1 hT2 hsc hg0 hle hct hmin em ea el eb hta hor0 hor2
  go_enter Tryz.func152, Tryz.ntmps152
  go_upto_region 3 with (fail)
  go_wp2_with (first | (rw [HOr.out]; refine H1.out.mono ?_; rintro e w1 ⟨rfl, rfl⟩))
  refine H2.out.mono ?_;rintro e w1 ⟨rfl, rfl⟩
  go_wp2_with fail
  go_loop [0, 1] (fun sa sb => ∃ a b : Nat, sa = .int .u64 (a : Int) /\ sb = .int .u64 (b : Int) /\ a % 2 = 1 /\ Nat.gcd a b = G /\ a < 18446744073709551616 /\ b < 18446744073709551616) (fun sa sb => (intOf sa).toNat + (intOf sb).toNat)
  case atStart => exact ⟨2 * m0 + 1, b0, congrArg (Value.int .u64) HS.out, rfl, by omega, HG.out, by omega, hb2⟩
  case round =>
   obtain ⟨a, b, rfl, rfl, ho, hg, hm, hb3⟩ := hrel;have Ho := Lib.hid ho;have ha1 : 1 <= a := by omega
   clear ho
   by_cases hz : b = 0
   ·subst hz
    rw [Nat.gcd_zero_right] at hg;have t1 : (((0 : Nat) : Int) == 0) = true := rfl;have t2 : (((0 : Nat) : Int) != 0) = false := rfl;have hsl := shl_cast64 (x := a) (t := tw) (by rw [hg, Nat.mul_comm, HGG.out]; have := HL.out; omega);rw [hg, Nat.mul_comm, HGG.out, <- hg] at hsl;have HSL := Lib.hid hsl;clear hsl hg
    go_wp2_with fail
    rw [HSL.out]
    go_ret
    exact ⟨rfl, rfl⟩
   ·have t1 : ((b : Int) == 0) = false := by rw [beq_eq_false_iff_ne]; omega
    have t2 : ((b : Int) != 0) = true := by rw [bne_iff_ne]; omega
    obtain ⟨l, e1, e2, k3⟩ := odd_part hz hb3;have hT3 := int_tz (w := w) _ hz hb3 hT;have hsc := shr_cast b (Lib.ctz 64 b);have hlb : b / 2 ^ Lib.ctz 64 b <= b := Nat.div_le_self _ _
    have hg2 : Nat.gcd a (b / 2 ^ Lib.ctz 64 b) = G := by
     obtain ⟨m, rfl⟩ : ∃ m, a = 2 * m + 1 := ⟨a / 2, by have := Ho.out; omega⟩;rw [<- hg, e1]
     conv => rhs; rw [e2]
     rw [gcd_odd]
    have hodd : (b / 2 ^ Lib.ctz 64 b) % 2 = 1 := by omega
    generalize b / 2 ^ Lib.ctz 64 b = q at *;generalize Lib.ctz 64 b = tb at *;have H3 := Lib.hid hT3;have HSC := Lib.hid hsc;have Hg2 := Lib.hid hg2;have Hod := Lib.hid hodd;have hq1 : 1 <= q := by omega
    clear hT3 hsc hg2 e1 e2 hg hodd
    go_wp2_with fail
    refine H3.out.mono ?_;rintro e w1 ⟨rfl, rfl⟩
    go_upto_region 7 with (fail)
    rw [HSC.out]
    by_cases hgt : q < a
    ·have t3 : decide ((q : Int) < (a : Int)) = true := decide_eq_true (by omega)
     go_wp2_with fail
     go_round
     case rel => exact ⟨q, a - q, rfl, congrArg (Value.int .u64) (by omega), Hod.out, by rw [Nat.gcd_sub_self_right (by omega), Nat.gcd_comm]; exact Hg2.out, by omega, by omega⟩
     case measure => simp [intOf]; omega
    ·have t3 : decide ((q : Int) < (a : Int)) = false := decide_eq_false (by omega)
     go_wp2_with fail
     go_round
     case rel => exact ⟨a, q - a, rfl, congrArg (Value.int .u64) (by omega), Ho.out, by rw [Nat.gcd_sub_self_right (by omega)]; exact Hg2.out, by omega, by omega⟩
     case measure => simp [intOf]; omega
end
theorem len_two {rs : List Nat} (hn : Nrm rs) (h : val rs < 18446744073709551616) : rs.length <= 2 := by
 refine Nat.le_of_not_lt fun hlt => ?_
 have h1 := hn.ge (by rintro rfl; simp at hlt);have h2 : 4294967296 ^ 2 <= 4294967296 ^ (rs.length - 1) := Nat.pow_le_pow_right (by omega) (by omega);have h3 : (4294967296 : Nat) ^ 2 = 18446744073709551616 := by decide
 generalize 4294967296 ^ (rs.length - 1) = p at *;omega
section
variable {A B : Option Addr} {c d n m : Nat} {xs ys : List Nat} {w : World}
set_option maxRecDepth 100000 in
theorem int_cd_ge (hx : Rd w A xs) (hy : Rd w B ys) (hnx : Nrm xs) (hny : Nrm ys) (h1 : xs.length <= 30000) (h2 : ys.length <= 30000) (hc : xs.length <= c) (hcm : c <= maxLen) (hd : ys.length <= d) (hdm : d <= maxLen) (hT : Tab w) (hle : val ys <= val xs) (hlen : ys.length <= xs.length) :
  Calls Tryz.prog 125 #[.slice A xs.length c, .slice B ys.length d] w (RetN (fun zs => val zs = Nat.gcd (val xs) (val ys) /\ Nrm zs /\ zs.length <= max xs.length 2) w) := by
 obtain ⟨S, hS, hSd⟩ : ∃ S, cmpL xs ys = S /\ decide (S < 0) = false := ⟨_, rfl, by rw [cmpL_nrm hx.1 hy.1 hnx hny, cmpI]; split <;> (try split) <;> simp <;> omega⟩;have HS := Lib.hid hS;have Hle := Lib.hid hle;clear hS hle
 go_enter Tryz.func125, Tryz.ntmps125
 go_wp2_with fail
 refine (int_compare _ _ _ _ _ _ _ hx hy (by omega) (by omega)).mono ?_;rintro e w1 ⟨he, ext1⟩;rw [HS.out] at he;subst he
 by_cases h3 : ys.length <= 2
 ·by_cases h0 : ys.length = 0
  ·go_wp2_with fail
   refine (clone (n := xs.length) rfl (hx.ext ext1) (by omega)).mono ?_;rintro e w8 ⟨A8, c8, ks, rfl, ho8, hc8, hm8, hk8, ext8⟩;subst hk8
   go_wp2_with fail
   exact bodyPost_ret (v := .slice A8 ks.length c8) (by simp [results, Tryz.results125, go_sem]) rfl ⟨A8, c8, ks, rfl, ho8.mono ext1.size, hc8, hm8, ⟨by rw [List.length_eq_zero_iff.1 h0]; exact (Nat.gcd_zero_right _).symm, hnx, by omega⟩, ext1.trans ext8⟩
  ·go_wp2_with fail
   have hpos : 0 < val ys := by
    have := hny.ge (by rintro rfl; simp at h0);have h5 : 0 < 4294967296 ^ (ys.length - 1) := Nat.pow_pos (by omega);omega
   have hu64 := val_lt_two (hy.ext ext1).1 h3;refine (divide_ok _ _ c d xs.length ys.length xs ys _ rfl rfl (hx.ext ext1) (hy.ext ext1) (by omega) (by omega) (by omega) (by omega) hnx hny (by omega) (by omega) (by omega)).mono ?_;rintro e w8 ⟨Aq, cq, qs, Ar, cr, rs, rfl, hoq, hor, hcq, hmq, hcr, hmr, ⟨hq1, hr1, hq2, hr2, hq3, hr3⟩, ext8⟩;have hrl : val rs < val ys := by rw [hr1]; exact Nat.mod_lt _ hpos
   have hr64 : val rs < 18446744073709551616 := by omega
   have hrs2 : rs.length <= 2 := len_two hr2 hr64;have hgr : Nat.gcd (val ys) (val rs) = Nat.gcd (val xs) (val ys) := by rw [hr1, Nat.gcd_comm (val ys), <- Nat.gcd_rec, Nat.gcd_comm]
   have Hgr := Lib.hid hgr;have hgl : Nat.gcd (val ys) (val rs) <= val ys := Nat.gcd_le_left _ hpos;have hur := (hy.ext ext1).ext ext8;have hrr := hor.rd;have hT8 := hT.ext (ext1.trans ext8);clear hq1 hr1 hgr hoq hrl hor
   go_wp2_with (first | (go_at_call 153; refine (int_toUint rfl (by first | exact hur | exact hrr) (by omega)).mono ?_; rintro e w9 ⟨rfl, rfl⟩) | (go_at_call 152; refine (int_commonUint (a0 := val ys) (b0 := val rs) (by omega) hu64 hr64 hT8).mono ?_; rintro e w9 ⟨rfl, rfl⟩))
   generalize Nat.gcd (val ys) (val rs) = G at *;refine (int_fromUint G (by omega)).mono ?_;rintro e w9 ⟨A9, c9, ks, rfl, ho9, hc9, hm9, ⟨hv9, hn9, hl9⟩, ext9⟩
   go_wp2_with fail
   exact bodyPost_ret (v := .slice A9 ks.length c9) (by simp [results, Tryz.results125, go_sem]) rfl ⟨A9, c9, ks, rfl, ho9.mono (ext1.trans ext8).size, hc9, hm9, ⟨by rw [hv9, Hgr.out], hn9, by omega⟩, (ext1.trans ext8).trans ext9⟩
 ·go_wp2_with fail
  refine (int_reduce rfl rfl (hx.ext ext1) (hy.ext ext1) hnx hny Hle.out hlen (by omega) h1).mono ?_;rintro e w2 ⟨A2, c2, zs, B2, d2, us, rfl, hz, hu, hcz, hmz, hcu, hmu, hnz, hnu, hlu, hu2, hzn, hg, ext2⟩;have Hg := Lib.hid hg;have Hlu := Lib.hid hlu;clear hg hlu
  by_cases h0 : us.length = 0
  ·go_wp2_with fail
   refine (clone (n := zs.length) rfl hz (by omega)).mono ?_;rintro e w8 ⟨A8, c8, ks, rfl, ho8, hc8, hm8, hk8, ext8⟩;subst hk8
   go_wp2_with fail
   exact bodyPost_ret (v := .slice A8 ks.length c8) (by simp [results, Tryz.results125, go_sem]) rfl ⟨A8, c8, ks, rfl, ho8.mono (ext1.trans ext2).size, hc8, hm8, ⟨by rw [<- Hg.out, List.length_eq_zero_iff.1 h0]; exact (Nat.gcd_zero_right _).symm, hnz, by omega⟩, (ext1.trans ext2).trans ext8⟩
  ·go_wp2_with fail
   have hpos : 0 < val us := by
    have := hnu.ge (by rintro rfl; simp at h0);have h5 : 0 < 4294967296 ^ (us.length - 1) := Nat.pow_pos (by omega);omega
   have hu64 := val_lt_two hu.1 hu2;refine (divide_ok _ _ c2 d2 zs.length us.length zs us _ rfl rfl hz hu (by omega) (by omega) (by omega) (by omega) hnz hnu (by omega) (by omega) (by omega)).mono ?_;rintro e w8 ⟨Aq, cq, qs, Ar, cr, rs, rfl, hoq, hor, hcq, hmq, hcr, hmr, ⟨hq1, hr1, hq2, hr2, hq3, hr3⟩, ext8⟩;have hrl : val rs < val us := by rw [hr1]; exact Nat.mod_lt _ hpos
   have hr64 : val rs < 18446744073709551616 := by omega
   have hrs2 : rs.length <= 2 := len_two hr2 hr64;have hgr : Nat.gcd (val us) (val rs) = Nat.gcd (val zs) (val us) := by rw [hr1, Nat.gcd_comm (val us), <- Nat.gcd_rec, Nat.gcd_comm]
   have Hgr := Lib.hid hgr;have hgl : Nat.gcd (val us) (val rs) <= val us := Nat.gcd_le_left _ hpos;have hur := hu.ext ext8;have hrr := hor.rd;have hT8 := hT.ext ((ext1.trans ext2).trans ext8);clear hq1 hr1 hgr hoq hrl hor
   go_wp2_with (first | (go_at_call 153; refine (int_toUint rfl (by first | exact hur | exact hrr) (by omega)).mono ?_; rintro e w9 ⟨rfl, rfl⟩) | (go_at_call 152; refine (int_commonUint (a0 := val us) (b0 := val rs) (by omega) hu64 hr64 hT8).mono ?_; rintro e w9 ⟨rfl, rfl⟩))
   generalize Nat.gcd (val us) (val rs) = G at *;refine (int_fromUint G (by omega)).mono ?_;rintro e w9 ⟨A9, c9, ks, rfl, ho9, hc9, hm9, ⟨hv9, hn9, hl9⟩, ext9⟩
   go_wp2_with fail
   exact bodyPost_ret (v := .slice A9 ks.length c9) (by simp [results, Tryz.results125, go_sem]) rfl ⟨A9, c9, ks, rfl, ho9.mono ((ext1.trans ext2).trans ext8).size, hc9, hm9, ⟨by rw [hv9, Hgr.out, Hg.out], hn9, by omega⟩, ((ext1.trans ext2).trans ext8).trans ext9⟩
set_option maxRecDepth 100000 in
theorem int_cd_lt (hx : Rd w A xs) (hy : Rd w B ys) (hnx : Nrm xs) (hny : Nrm ys) (h1 : xs.length <= 30000) (h2 : ys.length <= 30000) (hc : xs.length <= c) (hcm : c <= maxLen) (hd : ys.length <= d) (hdm : d <= maxLen) (hT : Tab w) (hlt : val ys < val xs) (hlen : ys.length <= xs.length) :
  Calls Tryz.prog 125 #[.slice B ys.length d, .slice A xs.length c] w (RetN (fun zs => val zs = Nat.gcd (val xs) (val ys) /\ Nrm zs /\ zs.length <= max xs.length 2) w) := by
 obtain ⟨S, hS, hSd⟩ : ∃ S, cmpL ys xs = S /\ decide (S < 0) = true := ⟨_, rfl, by rw [cmpL_nrm hy.1 hx.1 hny hnx, cmpI]; split <;> (try split) <;> simp <;> omega⟩;have HS := Lib.hid hS;have Hle := Lib.hid (Nat.le_of_lt hlt);clear hS hlt
 go_enter Tryz.func125, Tryz.ntmps125
 go_wp2_with fail
 refine (int_compare _ _ _ _ _ _ _ hy hx (by omega) (by omega)).mono ?_;rintro e w1 ⟨he, ext1⟩;rw [HS.out] at he;subst he
 by_cases h3 : ys.length <= 2
 ·by_cases h0 : ys.length = 0
  ·go_wp2_with fail
   refine (clone (n := xs.length) rfl (hx.ext ext1) (by omega)).mono ?_;rintro e w8 ⟨A8, c8, ks, rfl, ho8, hc8, hm8, hk8, ext8⟩;subst hk8
   go_wp2_with fail
   exact bodyPost_ret (v := .slice A8 ks.length c8) (by simp [results, Tryz.results125, go_sem]) rfl ⟨A8, c8, ks, rfl, ho8.mono ext1.size, hc8, hm8, ⟨by rw [List.length_eq_zero_iff.1 h0]; exact (Nat.gcd_zero_right _).symm, hnx, by omega⟩, ext1.trans ext8⟩
  ·go_wp2_with fail
   have hpos : 0 < val ys := by
    have := hny.ge (by rintro rfl; simp at h0);have h5 : 0 < 4294967296 ^ (ys.length - 1) := Nat.pow_pos (by omega);omega
   have hu64 := val_lt_two (hy.ext ext1).1 h3;refine (divide_ok _ _ c d xs.length ys.length xs ys _ rfl rfl (hx.ext ext1) (hy.ext ext1) (by omega) (by omega) (by omega) (by omega) hnx hny (by omega) (by omega) (by omega)).mono ?_;rintro e w8 ⟨Aq, cq, qs, Ar, cr, rs, rfl, hoq, hor, hcq, hmq, hcr, hmr, ⟨hq1, hr1, hq2, hr2, hq3, hr3⟩, ext8⟩;have hrl : val rs < val ys := by rw [hr1]; exact Nat.mod_lt _ hpos
   have hr64 : val rs < 18446744073709551616 := by omega
   have hrs2 : rs.length <= 2 := len_two hr2 hr64;have hgr : Nat.gcd (val ys) (val rs) = Nat.gcd (val xs) (val ys) := by rw [hr1, Nat.gcd_comm (val ys), <- Nat.gcd_rec, Nat.gcd_comm]
   have Hgr := Lib.hid hgr;have hgl : Nat.gcd (val ys) (val rs) <= val ys := Nat.gcd_le_left _ hpos;have hur := (hy.ext ext1).ext ext8;have hrr := hor.rd;have hT8 := hT.ext (ext1.trans ext8);clear hq1 hr1 hgr hoq hrl hor
   go_wp2_with (first | (go_at_call 153; refine (int_toUint rfl (by first | exact hur | exact hrr) (by omega)).mono ?_; rintro e w9 ⟨rfl, rfl⟩) | (go_at_call 152; refine (int_commonUint (a0 := val ys) (b0 := val rs) (by omega) hu64 hr64 hT8).mono ?_; rintro e w9 ⟨rfl, rfl⟩))
   generalize Nat.gcd (val ys) (val rs) = G at *;refine (int_fromUint G (by omega)).mono ?_;rintro e w9 ⟨A9, c9, ks, rfl, ho9, hc9, hm9, ⟨hv9, hn9, hl9⟩, ext9⟩
   go_wp2_with fail
   exact bodyPost_ret (v := .slice A9 ks.length c9) (by simp [results, Tryz.results125, go_sem]) rfl ⟨A9, c9, ks, rfl, ho9.mono (ext1.trans ext8).size, hc9, hm9, ⟨by rw [hv9, Hgr.out], hn9, by omega⟩, (ext1.trans ext8).trans ext9⟩
 ·go_wp2_with fail
  refine (int_reduce rfl rfl (hx.ext ext1) (hy.ext ext1) hnx hny Hle.out hlen (by omega) h1).mono ?_;rintro e w2 ⟨A2, c2, zs, B2, d2, us, rfl, hz, hu, hcz, hmz, hcu, hmu, hnz, hnu, hlu, hu2, hzn, hg, ext2⟩;have Hg := Lib.hid hg;have Hlu := Lib.hid hlu;clear hg hlu
  by_cases h0 : us.length = 0
  ·go_wp2_with fail
   refine (clone (n := zs.length) rfl hz (by omega)).mono ?_;rintro e w8 ⟨A8, c8, ks, rfl, ho8, hc8, hm8, hk8, ext8⟩;subst hk8
   go_wp2_with fail
   exact bodyPost_ret (v := .slice A8 ks.length c8) (by simp [results, Tryz.results125, go_sem]) rfl ⟨A8, c8, ks, rfl, ho8.mono (ext1.trans ext2).size, hc8, hm8, ⟨by rw [<- Hg.out, List.length_eq_zero_iff.1 h0]; exact (Nat.gcd_zero_right _).symm, hnz, by omega⟩, (ext1.trans ext2).trans ext8⟩
  ·go_wp2_with fail
   have hpos : 0 < val us := by
    have := hnu.ge (by rintro rfl; simp at h0);have h5 : 0 < 4294967296 ^ (us.length - 1) := Nat.pow_pos (by omega);omega
   have hu64 := val_lt_two hu.1 hu2;refine (divide_ok _ _ c2 d2 zs.length us.length zs us _ rfl rfl hz hu (by omega) (by omega) (by omega) (by omega) hnz hnu (by omega) (by omega) (by omega)).mono ?_;rintro e w8 ⟨Aq, cq, qs, Ar, cr, rs, rfl, hoq, hor, hcq, hmq, hcr, hmr, ⟨hq1, hr1, hq2, hr2, hq3, hr3⟩, ext8⟩;have hrl : val rs < val us := by rw [hr1]; exact Nat.mod_lt _ hpos
   have hr64 : val rs < 18446744073709551616 := by omega
   have hrs2 : rs.length <= 2 := len_two hr2 hr64;have hgr : Nat.gcd (val us) (val rs) = Nat.gcd (val zs) (val us) := by rw [hr1, Nat.gcd_comm (val us), <- Nat.gcd_rec, Nat.gcd_comm]
   have Hgr := Lib.hid hgr;have hgl : Nat.gcd (val us) (val rs) <= val us := Nat.gcd_le_left _ hpos;have hur := hu.ext ext8;have hrr := hor.rd;have hT8 := hT.ext ((ext1.trans ext2).trans ext8);clear hq1 hr1 hgr hoq hrl hor
   go_wp2_with (first | (go_at_call 153; refine (int_toUint rfl (by first | exact hur | exact hrr) (by omega)).mono ?_; rintro e w9 ⟨rfl, rfl⟩) | (go_at_call 152; refine (int_commonUint (a0 := val us) (b0 := val rs) (by omega) hu64 hr64 hT8).mono ?_; rintro e w9 ⟨rfl, rfl⟩))
   generalize Nat.gcd (val us) (val rs) = G at *;refine (int_fromUint G (by omega)).mono ?_;rintro e w9 ⟨A9, c9, ks, rfl, ho9, hc9, hm9, ⟨hv9, hn9, hl9⟩, ext9⟩
   go_wp2_with fail
   exact bodyPost_ret (v := .slice A9 ks.length c9) (by simp [results, Tryz.results125, go_sem]) rfl ⟨A9, c9, ks, rfl, ho9.mono ((ext1.trans ext2).trans ext8).size, hc9, hm9, ⟨by rw [hv9, Hgr.out, Hg.out], hn9, by omega⟩, ((ext1.trans ext2).trans ext8).trans ext9⟩
theorem nrm_len {xs ys : List Nat} (hw : W32 xs) (hn : Nrm ys) (h : val ys <= val xs) : ys.length <= xs.length := by
 refine Nat.le_of_not_lt fun hlt => ?_
 have h1 := hn.ge (by rintro rfl; simp at hlt);have h2 := val_lt hw;have h3 : 4294967296 ^ xs.length <= 4294967296 ^ (ys.length - 1) := Nat.pow_le_pow_right (by omega) (by omega);generalize 4294967296 ^ xs.length = p at *;generalize 4294967296 ^ (ys.length - 1) = q at *;omega
theorem int_commonDivisor (hx : Rd w A xs) (hy : Rd w B ys) (hnx : Nrm xs) (hny : Nrm ys) (h1 : xs.length <= 30000) (h2 : ys.length <= 30000) (hc : xs.length <= c) (hcm : c <= maxLen) (hd : ys.length <= d) (hdm : d <= maxLen) (hT : Tab w) :
  Calls Tryz.prog 125 #[.slice A xs.length c, .slice B ys.length d] w (RetN (fun zs => val zs = Nat.gcd (val xs) (val ys) /\ Nrm zs /\ zs.length <= max (max xs.length ys.length) 2) w) := by
 rcases Nat.lt_or_ge (val xs) (val ys) with h | h
 ·refine (int_cd_lt hy hx hny hnx h2 h1 hd hdm hc hcm hT h (nrm_len hy.1 hnx (Nat.le_of_lt h))).mono ?_
  rintro e w' ⟨A', c', zs, h1, h2, h3, h4, ⟨h5, h6, h7⟩, h8⟩;exact ⟨A', c', zs, h1, h2, h3, h4, ⟨by rw [h5, Nat.gcd_comm], h6, by omega⟩, h8⟩
 ·refine (int_cd_ge hx hy hnx hny h1 h2 hc hcm hd hdm hT h (nrm_len hx.1 hny h)).mono ?_
  rintro e w' ⟨A', c', zs, h1, h2, h3, h4, ⟨h5, h6, h7⟩, h8⟩;exact ⟨A', c', zs, h1, h2, h3, h4, ⟨h5, h6, by omega⟩, h8⟩
end
end
section
open Go.RowKit
attribute [local go_sem ↓] Go.wp_at_zero Go.wp_at_succ
section
variable {A B : Option Addr} {c d n m : Nat} {xs ys : List Nat} {w : World} {s t : Bool}
theorem int_GCD (hn : xs.length = n) (hm : ys.length = m) (hx : Rd w A xs) (hy : Rd w B ys) (hc : n <= c) (hcm : c <= maxLen) (hd : m <= d) (hdm : d <= maxLen) (h1 : n <= 30000) (h2 : m <= 30000) (hT : Tab w) :
  Calls Tryz.prog 88 #[.agg #[.bool s, .slice A n c], .agg #[.bool t, .slice B m d]] w (RetI ((Nat.gcd (val xs) (val ys) : Nat) : Int) (max (max xs.length ys.length) 2) w) := by
 have Hn := Lib.hid hn;have Hm := Lib.hid hm;clear hn hm;have lx := trimL_len xs;have ly := trimL_len ys;have hxt : Rd w A (trimL xs) := by rw [trimL_take]; exact hx.take _
 have hyt : Rd w B (trimL ys) := by rw [trimL_take]; exact hy.take _
 go_enter Tryz.func88, Tryz.ntmps88
 go_upto_region 1 with (fail)
 obtain ⟨W, hW, extW, bx, by_, bz, hz⟩ := box3 w 28 28 28 #[.bool s, .slice A n c] #[.bool t, .slice B m d] #[.bool false, .slice none 0 0];rw [<- hW];clear hW;have x1 := bx.cell 1 (.slice A n c) rfl;have y1 := by_.cell 1 (.slice B m d) rfl
 go_region_held3 (fun w' => w'.cell? ⟨w.heap.size, 1, none⟩ = some (.slice A n c) /\ w'.cell? ⟨w.heap.size + 1, 1, none⟩ = some (.slice B m d)) (first | (go_split_ands; refine ⟨?_, ?_⟩ <;> first | (exact Ext.cellv (by assumption) (by assumption)) | (refine (cell_far2 (by omega)).trans ?_; assumption)) | go_keep)
  (first | (go_at_call_of 114 A; refine (int_trimN Hn.out (hx.ext (by first | exact extW | exact extW.drew | exact extW.drewN _ | exact (extW.drew).drew)) hc hcm).mono ?_; rintro e w1 ⟨rfl, rfl⟩) | (go_at_call_of 114 B; refine (int_trimN Hm.out (hy.ext (by first | exact extW | exact extW.drew | exact extW.drewN _ | exact (extW.drew).drew)) hd hdm).mono ?_; rintro e w1 ⟨rfl, rfl⟩) | (go_at_call 125; refine (int_commonDivisor (hxt.ext (by first | exact extW | exact extW.drew | exact extW.drewN _ | exact (extW.drew).drew)) (hyt.ext (by first | exact extW | exact extW.drew | exact extW.drewN _ | exact (extW.drew).drew)) (Nrm.trimL xs) (Nrm.trimL ys) (by have := Hn.out; omega) (by have := Hm.out; omega) (by have := Hn.out; omega) hcm (by have := Hm.out; omega) hdm (hT.ext (by first | exact extW | exact extW.drew | exact extW.drewN _ | exact (extW.drew).drew))).mono ?_; rintro e w2 ⟨A2, c2, zs, rfl, ho2, hc2, hm2, ⟨hv2, hn2, hl2⟩, hext2⟩; have Hv2 := Lib.hid hv2; clear hv2) | (go_at_call 112; refine (int_signed rfl ho2.rd hc2 hm2 hn2).mono ?_; rintro e w3 ⟨b3, A3, c3, rs, rfl, hr3, hc3, hm3, hi3, hl3, hext3⟩; have ext3 := ((Ext.refl W).drew.trans hext2).trans hext3; have bz3 := bz.ext ext3; have z0 := bz3.cell 0 (.bool false) rfl; have z1 := bz3.cell 1 (.slice none 0 0) rfl; have f0 := bz3.frozen 0; have f1 := bz3.frozen 1))
 go_wp2_with fail
 obtain ⟨r1, r2, r3, r4⟩ := fin_pair (b := b3) (n := rs.length) (c := c3) (extW.trans ext3) (by omega) bz3 hr3;have hiv : ival false zs = ((Nat.gcd (val xs) (val ys) : Nat) : Int) := by rw [<- val_trimL xs, <- val_trimL ys, <- Hv2.out]; rfl
 exact bodyPost_ret (v := .agg #[.bool b3, .slice A3 rs.length c3]) (by simp [results, Tryz.results88, go_sem, r3, r4]) rfl ⟨b3, A3, c3, rs, rfl, r1, hc3, hm3, by rw [hiv] at hi3; exact hi3, by omega, r2⟩
end
end
end Go.Proofs.YtgagcochepnelaaGreatDoor
