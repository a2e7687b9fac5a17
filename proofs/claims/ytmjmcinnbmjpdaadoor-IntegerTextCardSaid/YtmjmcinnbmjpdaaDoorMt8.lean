/- Walks and laws, part 8. -/
import Derived.Test.YtmjmcinnbmjpdaaDoorMt4
import Derived.Test.YtmjmcinnbmjpdaaDoorMt5
import Derived.Test.YtmjmcinnbmjpdaaDoorMt6
import Derived.Test.YtmjmcinnbmjpdaaDoorMt7
namespace Go.Proofs.YtmjmcinnbmjpdaaDoor
open Go.RowKit
theorem sm_low {z s : Nat} {S : Int} (hS : S = s) (hz : z < 4294967296) (h : ¬ s % 4294967296 ≤ z) : IntKind.u64.wrap ((z : Int) - S % 4294967296) % 4294967296 = ((z + 4294967296 - s % 4294967296 : Nat) : Int) := by
  subst hS; rw [IntKind.wrap_u64]; omega
theorem sm_top {z s : Nat} {S : Int} (hS : S = s) (hz : z < 4294967296) (h : ¬ s % 4294967296 ≤ z) : IntKind.u64.wrap ((z : Int) - S % 4294967296) / 9223372036854775808 = 1 := by
  subst hS; rw [IntKind.wrap_u64]; omega
theorem sm_low0 {z s : Nat} {S : Int} (hS : S = s) (hz : z < 4294967296) (h : s % 4294967296 ≤ z) : IntKind.u64.wrap ((z : Int) - S % 4294967296) % 4294967296 = ((z - s % 4294967296 : Nat) : Int) := by
  subst hS; rw [IntKind.wrap_u64]; omega
theorem sm_car0 {z s : Nat} {S : Int} (hS : S = s) (hz : z < 4294967296) (h : s % 4294967296 ≤ z) (hs : s ≤ 18446744069414584320) : IntKind.u64.wrap (S / 4294967296 + IntKind.u64.wrap ((z : Int) - S % 4294967296) / 9223372036854775808) = ((s / 4294967296 + 0 : Nat) : Int) := by
  subst hS; rw [IntKind.wrap_u64, IntKind.wrap_u64]; omega
theorem sm_car1 {z s : Nat} {S : Int} (hS : S = s) (hz : z < 4294967296) (h : ¬ s % 4294967296 ≤ z) (hs : s ≤ 18446744069414584320) : IntKind.u64.wrap (S / 4294967296 + IntKind.u64.wrap ((z : Int) - S % 4294967296) / 9223372036854775808) = ((s / 4294967296 + 1 : Nat) : Int) := by
  rw [sm_top hS hz h]; subst hS; rw [IntKind.wrap_u64]; omega
theorem sm_end_low {z c : Nat} (hz : z < 4294967296) (hc : c < 4294967296) (h : ¬ c ≤ z) : IntKind.u64.wrap ((z : Int) - (c : Int)) % 4294967296 = ((z + 4294967296 - c : Nat) : Int) := by
  rw [IntKind.wrap_u64]; omega
theorem sm_end_top {z c : Nat} (hz : z < 4294967296) (hc : c < 4294967296) (h : ¬ c ≤ z) : IntKind.u64.wrap ((z : Int) - (c : Int)) / 9223372036854775808 = 1 := by
  rw [IntKind.wrap_u64]; omega
section
variable {A B : Option Addr} {c d m : Nat} {xs ys : List Nat} {w : World}
set_option maxHeartbeats 2000000 in
theorem int_subtractMultiple {g off n cz : Nat} {pre zs0 post : List Nat} {q : Nat} (hblk0 : BlkN w g (pre ++ zs0 ++ post)) (hoff : pre.length = off) (hn : zs0.length = n) (hw : W32 zs0) (hy : Rd w B ys) (hm : ys.length = m) (hap : Apart B ys g)
    (hl : m + 1 = n) (hq : q < 4294967296) (h1 : n ≤ 1000000) (hcz : n ≤ cz) (_hczm : cz ≤ maxLen) :
    Calls Tryd.prog 80 #[.slice (some ⟨g, off, none⟩) n cz, .slice B m d, .int .u32 (q : Int)] w fun e w' => ∃ (zs : List Nat) (b : Nat), e = .returned (.bool (decide (b = 1))) ∧ b ≤ 1 ∧ zs.length = n ∧ W32 zs ∧ BlkN w' g (pre ++ zs ++ post) ∧ val zs + val ys * q = val zs0 + 4294967296 ^ n * b ∧ Mod w w' g := by
  have Hoff := Lib.hid hoff
  have Hn := Lib.hid hn
  have Hm := Lib.hid hm
  clear hoff hn hm
  have hmcz : m ≤ cz := by omega
  go_enter Tryd.func80, Tryd.ntmps80
  go_wp2
  go_loopw [7, 19] (fun cr i wr => ∃ (k : Nat) (zs : List Nat) (cy : Nat), k ≤ m ∧ i = .int .i64 (k : Int) ∧ cr = .int .u64 (cy : Int) ∧ SmInv zs0 ys q k zs cy ∧ BlkN wr g (pre ++ zs ++ post) ∧ Mod w wr g) (fun _ i _ => m - (intOf i).toNat)
  case atStart => exact ⟨0, zs0, 0, by omega, rfl, rfl, SmInv.start hw, hblk0, Mod.refl _ _⟩
  case round =>
    obtain ⟨k, zs, cy, hk, rfl, rfl, hinv, hblk, hmod⟩ := hrel
    have hcy := hinv.hcy
    have hzl : n ≤ zs.length := by rw [hinv.len, Hn.out]; omega
    have hzl2 : zs.length ≤ n := by rw [hinv.len, Hn.out]; omega
    have hyl : m ≤ ys.length := by rw [Hm.out]; omega
    have hyl2 : ys.length ≤ m := by rw [Hm.out]; omega
    by_cases hlt : k < m
    · obtain ⟨b, off', rfl, hb, hc1⟩ := (hy.mod hmod hap).at_ (i := k) (by omega)
      have hyk := hy.1.get (k := k) (by omega)
      obtain ⟨b2, off2, he, hb2, hc2⟩ := (hblk.mid hinv.w32 Hoff.out).at_ (i := k) (by omega)
      injection he with he
      injection he with he1 he2
      subst he1; subst he2
      have hzk := hinv.w32.get (k := k) (by omega)
      have hfz := hblk.frozen (off + k)
      have hmi := (mul_word_int hyk hq).1
      have hmj := (mul_word_int hyk hq).2
      have hS : (cy : Int) + ((ys[k]'(by omega) : Nat) : Int) * (q : Int) = ((cy + ys[k]'(by omega) * q : Nat) : Int) := by rw [Int.natCast_add, Int.natCast_mul]
      have hsl : cy + ys[k]'(by omega) * q ≤ 18446744069414584320 := by
        have := mul_word hyk hq
        omega
      have hst : ∀ (dd bb : Nat), dd < 4294967296 → bb ≤ 1 → dd + (cy + ys[k]'(by omega) * q) % 4294967296 = zs[k]'(by omega) + 4294967296 * bb → SmInv zs0 ys q (k + 1) (zs.set k dd) ((cy + ys[k]'(by omega) * q) / 4294967296 + bb) := fun dd bb h1 h2 h3 => hinv.step hy.1 hq (by omega) (by omega) rfl h1 h2 h3
      generalize cy + ys[k]'(by omega) * q = S at hS hsl hst
      by_cases hbor : S % 4294967296 ≤ zs[k]'(by omega)
      · have HS := Lib.hid (And.intro hS (And.intro hsl hbor))
        clear hS hsl hbor
        go_wp2
        go_roundw
        case rel =>
          obtain ⟨hS, hsl, hbor⟩ := HS.out
          exact ⟨k + 1, zs.set k (zs[k]'(by omega) - S % 4294967296), _, by omega, by go_num, congrArg _ (sm_car0 hS hzk hbor hsl), hst _ 0 (by omega) (by omega) (by omega), hblk.setMid Hoff.out (by omega) (sm_low0 hS hzk hbor), hmod.setCell _ _⟩
        case measure => simp [intOf]; omega
      · have HS := Lib.hid (And.intro hS (And.intro hsl hbor))
        clear hS hsl hbor
        go_wp2
        go_roundw
        case rel =>
          obtain ⟨hS, hsl, hbor⟩ := HS.out
          exact ⟨k + 1, zs.set k (zs[k]'(by omega) + 4294967296 - S % 4294967296), _, by omega, by go_num, congrArg _ (sm_car1 hS hzk hbor hsl), hst _ 1 (by omega) (by omega) (by omega), hblk.setMid Hoff.out (by omega) (sm_low hS hzk hbor), hmod.setCell _ _⟩
        case measure => simp [intOf]; omega
    · have hk' : k = m := by omega
      subst hk'
      obtain ⟨b2, off2, he, hb2, hc2⟩ := (hblk.mid hinv.w32 Hoff.out).at_ (i := k) (by omega)
      injection he with he
      injection he with he1 he2
      subst he1; subst he2
      have hzk := hinv.w32.get (k := k) (by omega)
      have hfz := hblk.frozen (off + k)
      have hat := hinv.at_ (k := k) (by omega)
      obtain rfl : ys.length = k := Hm.out
      have hdn : ∀ dd bb : Nat, dd + cy = zs[ys.length]'(by omega) + 4294967296 * bb → val (zs.set ys.length dd) + val ys * q = val zs0 + 4294967296 ^ (ys.length + 1) * bb := fun dd bb h => hinv.done (by rw [Hn.out]; omega) (by rw [← hat]; exact h)
      have Hdn := Lib.hid hdn
      have Hw := Lib.hid hinv.w32
      clear hdn hat hinv
      generalize hZ : zs[ys.length]'(by omega) = Z at *
      clear hZ
      by_cases hbor : cy ≤ Z
      · have e0 : (((Z : Int) - (cy : Int)) / 9223372036854775808 == 1) = false := by rw [beq_eq_false_iff_ne]; omega
        have hb := hblk.setMid Hoff.out (i := ys.length) (by omega) (v := (Z : Int) - (cy : Int)) (n := Z - cy) (by omega)
        rw [List.append_assoc] at hb
        go_wp2
        go_ret
        exact ⟨zs.set ys.length (Z - cy), 0, rfl, by omega, by simp; omega, Hw.out.set _ (by omega), hb, by rw [← hl]; exact Hdn.out _ 0 (by omega), hmod.setCell _ _⟩
      · have e1 := sm_end_top hzk hcy hbor
        have e2 := sm_end_low hzk hcy hbor
        have hb := hblk.setMid Hoff.out (i := ys.length) (by omega) (v := ((Z + 4294967296 - cy : Nat) : Int)) (n := Z + 4294967296 - cy) rfl
        rw [List.append_assoc] at hb
        go_wp2
        go_ret
        exact ⟨zs.set ys.length (Z + 4294967296 - cy), 1, rfl, by omega, by simp; omega, Hw.out.set _ (by omega), hb, by rw [← hl]; exact Hdn.out _ 1 (by omega), hmod.setCell _ _⟩
end
end Go.Proofs.YtmjmcinnbmjpdaaDoor
namespace Go.Proofs.YtmjmcinnbmjpdaaDoor
open Go.RowKit
theorem shl_cast {x b : Nat} (hx : x < 4294967296) (hb : b < 32) : IntKind.u64.wrap ((x : Int) * 2 ^ b) = ((x * 2 ^ b : Nat) : Int) := by
  have h2 : x * 2 ^ b < 4294967296 * 4294967296 := by
    have hpb : 2 ^ b ≤ 4294967296 := by
      have : 2 ^ b ≤ 2 ^ 32 := Nat.pow_le_pow_right (by omega) (by omega)
      omega
    exact Nat.mul_lt_mul_of_lt_of_le hx hpb (by omega)
  rw [IntKind.wrap_u64, show (x : Int) * 2 ^ b = ((x * 2 ^ b : Nat) : Int) by simp]
  omega
theorem shl_lo {x z b : Nat} (hx : x < 4294967296) (hb : b < 32) (hz : z < 2 ^ b) (hz2 : z < 4294967296) : bits .or .u32 (z : Int) (IntKind.u64.wrap ((x : Int) * 2 ^ b) % 4294967296) = ((z + x * 2 ^ b % 4294967296 : Nat) : Int) := by
  rw [shl_cast hx hb, show ((x * 2 ^ b : Nat) : Int) % 4294967296 = ((x * 2 ^ b % 4294967296 : Nat) : Int) by omega, u32_or_nat _ _ hz2 (Nat.mod_lt _ (by omega)), shl_low (by omega) hz]
theorem shl_hi {x b : Nat} (hx : x < 4294967296) (hb : b < 32) : IntKind.u64.wrap ((x : Int) * 2 ^ b) / 4294967296 % 4294967296 = ((x * 2 ^ b / 4294967296 : Nat) : Int) := by
  have h := shl_high (b := b) hx
  have hpb : 2 ^ b ≤ 4294967296 := by
    have : 2 ^ b ≤ 2 ^ 32 := Nat.pow_le_pow_right (by omega) (by omega)
    omega
  rw [shl_cast hx hb]
  generalize x * 2 ^ b = T at *
  omega
section
variable {A B : Option Addr} {c d n m : Nat} {xs ys : List Nat} {w : World} {s t : Bool}
set_option maxHeartbeats 1000000 in
theorem int_shiftInto {g off n cz b : Nat} {pre zs0 post : List Nat} (hblk0 : BlkN w g (pre ++ zs0 ++ post)) (hoff : pre.length = off) (hz : zs0 = List.replicate (xs.length + 1) 0) (hx : Rd w A xs) (hm : xs.length = m) (hap : Apart A xs g)
    (hn : m + 1 = n) (hb : b < 32) (h1 : n ≤ 100000) (_hcz : n ≤ cz) (_hczm : cz ≤ maxLen) :
    Calls Tryd.prog 78 #[.slice (some ⟨g, off, none⟩) n cz, .slice A m c, .int .i64 (b : Int)] w (Turned w g pre n post fun zs => val zs = val xs * 2 ^ b) := by
  have Hoff := Lib.hid hoff
  have Hm := Lib.hid hm
  clear hoff hm
  have hi := ShlInv.start xs b
  rw [← hz] at hi
  clear hz
  go_enter Tryd.func78, Tryd.ntmps78
  go_wp2
  go_loopw [11] (fun i wr => ∃ (k : Nat) (zs : List Nat), k ≤ m ∧ i = .int .i64 (k : Int) ∧ ShlInv xs b k zs ∧ BlkN wr g (pre ++ zs ++ post) ∧ Mod w wr g) (fun i _ => m - (intOf i).toNat)
  case atStart => exact ⟨0, zs0, by omega, rfl, hi, hblk0, Mod.refl _ _⟩
  case round =>
    obtain ⟨k, zs, hk, rfl, hinv, hblk, hmod⟩ := hrel
    have hzl : zs.length = n := by rw [hinv.len, Hm.out]; exact hn
    have hxl : xs.length = m := Hm.out
    by_cases hlt : k < m
    · obtain ⟨b1, off', rfl, hb1, hc1⟩ := (hx.mod hmod hap).at_ (i := k) (by omega)
      have hxk := hx.1.get (k := k) (by omega)
      obtain ⟨b2, off2, he, hb2, hc2⟩ := (hblk.mid hinv.w32 Hoff.out).at_ (i := k) (by omega)
      injection he with he
      injection he with he1 he2
      subst he1; subst he2
      have hzk := hinv.w32.get (k := k) (by omega)
      have hlow : zs[k] < 2 ^ b := by have := hinv.low; rwa [getD_at (by omega)] at this
      obtain ⟨b3, off3, he, hb3, hc3⟩ := (hblk.mid hinv.w32 Hoff.out).at_ (i := k + 1) (by omega)
      injection he with he
      injection he with he1 he2
      subst he1; subst he2
      have hfz := hblk.frozen (off + k)
      have hfz2 := hblk.frozen (off + (k + 1))
      go_wp2
      go_roundw
      case rel =>
        have hst := hinv.step hb hx.1 (by omega)
        rw [getD_at (by omega)] at hst
        exact ⟨k + 1, _, by omega, by go_num, hst, (hblk.setMid Hoff.out (by omega) (shl_lo hxk hb hlow hzk)).setMid Hoff.out (by simp; omega) (shl_hi hxk hb), (hmod.setCell _ _).setCell _ _⟩
      case measure => simp [intOf]; omega
    · have hk' : k = m := by omega
      subst hk'
      go_wp2
      go_end0
      refine ⟨zs, rfl, hzl, hinv.w32, hblk, ?_, hmod⟩
      have := hinv.eq
      rwa [List.take_of_length_le (by omega), List.take_of_length_le (by omega)] at this
end
end Go.Proofs.YtmjmcinnbmjpdaaDoor
namespace Go.Proofs.YtmjmcinnbmjpdaaDoor
open Go.RowKit
section
variable {A B : Option Addr} {c d n m : Nat} {xs ys : List Nat} {w : World} {s t : Bool}
set_option maxHeartbeats 1000000 in
theorem int_shiftLeft {k : Nat} (hn : xs.length = n) (hx : Rd w A xs) (hk : k ≤ 100000) (h1 : n ≤ 10000) :
    Calls Tryd.prog 69 #[.slice A n c, .int .i64 (k : Int)] w (RetN (fun zs => val zs = val xs * 2 ^ k ∧ Nrm zs ∧ zs.length ≤ k / 32 + n + 1) w) := by
  have hmk : ∀ W : World, (Instr.makeSlice 48 (.int .i64 ((k : Int) / 32 + (n : Int) + 1)) (.int .i64 ((k : Int) / 32 + (n : Int) + 1))).run Tryd.prog W = .ok (.slice (some ⟨W.heap.size, 0, none⟩) (k / 32 + n + 1) (k / 32 + n + 1)) (W.alloc (.cells (madeCells #[.int .u32 0] (k / 32 + n + 1)) 43)) := fun W => by
    have h := mk_words 48 Tryd.underlying48 (k / 32 + n + 1) (by omega) W
    rwa [show ((k / 32 + n + 1 : Nat) : Int) = (k : Int) / 32 + (n : Int) + 1 by omega] at h
  have Hn := Lib.hid hn
  clear hn
  go_enter Tryd.func69, Tryd.ntmps69
  go_wp2_with fail
  rw [show ((k : Int) % 32) = ((k % 32 : Nat) : Int) by omega]
  have hb0 := BlkN.new w (k / 32 + n + 1)
  have hsp : List.replicate (k / 32 + n + 1) 0 = List.replicate (k / 32) 0 ++ List.replicate (xs.length + 1) 0 ++ ([] : List Nat) := by
    rw [List.append_nil, List.replicate_append_replicate, Hn.out, Nat.add_assoc]
  rw [hsp] at hb0
  refine (int_shiftInto (pre := List.replicate (k / 32) 0) (zs0 := List.replicate (xs.length + 1) 0) (post := []) hb0 (by simp) rfl (hx.ext ((Ext.refl w).alloc _)) Hn.out (hx.apart (Nat.le_refl _)) (by omega) (by omega) (by omega) (Nat.le_refl _) (by unfold maxLen; omega)).mono ?_
  rintro e w2 ⟨zs, rfl, hzl, hzw, hzb, hzv, hmod⟩
  have hext := hmod.ext ((Ext.refl w).alloc _) (Nat.le_refl _)
  rw [List.append_nil] at hzb
  have hfull : W32 (List.replicate (k / 32) 0 ++ zs) := (W32.replicate _).append hzw
  have hlen : (List.replicate (k / 32) 0 ++ zs).length = k / 32 + n + 1 := by rw [List.length_append, List.length_replicate, hzl]; omega
  have hval := shl_val (k := k) hzv
  generalize List.replicate (k / 32) 0 ++ zs = Z at hzb hfull hlen hval
  have Hlen := Lib.hid hlen
  have Hval := Lib.hid hval
  clear hlen hval hzl hzv hmod hsp hb0
  go_wp2_with fail
  refine (int_trimN (xs := Z) Hlen.out (hzb.rd0 hfull) (Nat.le_refl _) (by unfold maxLen; omega)).mono ?_
  rintro e w3 ⟨rfl, rfl⟩
  go_wp2_with fail
  go_ret
  have hl := trimL_len Z
  rw [Hlen.out] at hl
  refine ⟨_, _, trimL Z, rfl, ?_, by omega, by unfold maxLen; omega, ⟨by rw [val_trimL]; exact Hval.out, Nrm.trimL _, hl⟩, hext⟩
  rw [trimL_take]
  exact (Own.of_blk hzb hfull (Nat.le_refl _)).take _
set_option maxHeartbeats 1000000 in
theorem int_binaryDigits (hn : xs.length = n) (hx : Rd w A xs) (h1 : n ≤ 100000) :
    Calls Tryd.prog 67 #[.slice A n c] w fun e w' => e = .returned (.int .i64 ((if h : 0 < xs.length then 32 * (xs.length - 1) + Lib.bitLen (xs[xs.length - 1]'(by omega)) else 0 : Nat) : Int)) ∧ w = w' := by
  subst hn
  by_cases h : 0 < xs.length
  · obtain ⟨b1, off', rfl, hb1, hc1⟩ := hx.at_ (i := xs.length - 1) (by omega)
    have hxk := hx.1.get (k := xs.length - 1) (by omega)
    have hpos : ¬ xs.length = 0 := by omega
    have hle : Lib.bitLen xs[xs.length - 1] ≤ 32 := Lib.bitLen_le _ 32 (by omega) (by omega)
    go_enter Tryd.func67, Tryd.ntmps67
    go_wp2_with (go_at_call 89; refine (len32 _ _ (by omega) (by omega)).mono ?_; rintro e w2 ⟨rfl, rfl⟩)
    go_ret
    refine ⟨ret_int ?_, rfl⟩
    omega
  · have h0 : xs.length = 0 := by omega
    go_enter Tryd.func67, Tryd.ntmps67
    go_wp2_with fail
    go_ret
    refine ⟨ret_int ?_, rfl⟩
    rfl
end
end Go.Proofs.YtmjmcinnbmjpdaaDoor
namespace Go.Proofs.YtmjmcinnbmjpdaaDoor
open Go.RowKit
theorem or_cast {x y b c : Nat} (hx : x < 4294967296) : bits .or .u32 ((x : Int) / 2 ^ b) ((y : Int) * 2 ^ c % 4294967296) = ((x / 2 ^ b ||| (y * 2 ^ c % 4294967296) : Nat) : Int) := by
  rw [show (x : Int) / 2 ^ b = ((x / 2 ^ b : Nat) : Int) by simp, show (y : Int) * 2 ^ c % 4294967296 = ((y * 2 ^ c % 4294967296 : Nat) : Int) by simp]
  exact u32_or_nat _ _ (Nat.lt_of_le_of_lt (Nat.div_le_self _ _) hx) (Nat.mod_lt _ (by omega))
section
variable {A B : Option Addr} {c d n m : Nat} {xs ys : List Nat} {w : World} {s t : Bool}
set_option maxHeartbeats 2000000 in
theorem int_shiftRight {k : Nat} (hn : xs.length = n) (hx : Rd w A xs) (hc : n ≤ c) (hcm : c ≤ maxLen) (hk : k ≤ 100000) (h1 : n ≤ 10000) :
    Calls Tryd.prog 68 #[.slice A n c, .int .i64 (k : Int)] w (RetN (fun zs => val zs = val xs / 2 ^ k ∧ Nrm zs ∧ zs.length ≤ n) w) := by
  by_cases hlt : n ≤ k / 32
  · have Hn := Lib.hid hn
    clear hn
    have hge : ((n : Int)) ≤ (k : Int) / 32 := by omega
    go_enter Tryd.func68, Tryd.ntmps68
    go_wp2_with fail
    go_ret
    refine ⟨none, 0, [], rfl, ⟨W32.nil, .inl rfl⟩, by simp, by unfold maxLen; omega, ⟨?_, rfl, by simp⟩, Ext.refl _⟩
    have := shr_spec hx.1 k
    rw [List.drop_eq_nil_of_le (by have := Hn.out; omega)] at this
    exact this
  · have hnl := hn
    obtain ⟨b1, off1, rfl, hb1, hc1⟩ := hx.at_ (i := 0) (by omega)
    have hd := hx.drop (k / 32)
    have hlen : (xs.drop (k / 32)).length = n - k / 32 := by rw [List.length_drop, hn]
    have hspec := shr_spec hx.1 k
    generalize hys : xs.drop (k / 32) = ys at hd hlen hspec
    have Hn := Lib.hid hn
    have Hys := Lib.hid hys
    have Hspec := Lib.hid hspec
    have Hlen := Lib.hid hlen
    clear hn hys hspec hc1 hnl hlen
    unfold maxLen at hcm
    generalize hL : n - k / 32 = L at *
    have hL0 : 0 < L := by omega
    have hmk : ∀ W : World, (Instr.makeSlice 48 (.int .i64 (L : Int)) (.int .i64 (L : Int))).run Tryd.prog W = .ok (.slice (some ⟨W.heap.size, 0, none⟩) L L) (W.alloc (.cells (madeCells #[.int .u32 0] L) 43)) := fun W => mk_words 48 Tryd.underlying48 L (by omega) W
    have hge : ¬ ((n : Int)) ≤ (k : Int) / 32 := by omega
    have hkc : k / 32 ≤ c := by omega
    have hkn : k / 32 ≤ n := by omega
    go_enter Tryd.func68, Tryd.ntmps68
    go_wp2_with fail
    have hb0 := BlkN.new w L
    go_loopw [21] (fun i wr => ∃ (j : Nat) (zs : List Nat), j ≤ L ∧ i = .int .i64 (j : Int) ∧ zs.length = L ∧ W32 zs ∧ zs.take j = (shrL (k % 32) ys).take j ∧ BlkN wr w.heap.size zs ∧ Ext w wr) (fun i _ => L - (intOf i).toNat)
    case atStart => exact ⟨0, List.replicate L 0, by omega, rfl, by simp, W32.replicate _, rfl, hb0, (Ext.refl w).alloc _⟩
    case round =>
      obtain ⟨j, zs, hj, rfl, hzl, hzw, htk, hblk, hext⟩ := hrel
      have Htk := Lib.hid htk
      clear htk
      by_cases hjl : j < L
      · obtain ⟨b2, off2, he, hb2, hc2⟩ := (hd.ext hext).at_ (i := j) (by rw [Hlen.out]; exact hjl)
        injection he with he
        injection he with he1 he2
        subst he1; subst he2
        have hyl : j < ys.length := by rw [Hlen.out]; exact hjl
        have hyj := hd.1.get hyl
        have hcz := hblk.cell (i := j) (by omega)
        have hzj := hzw.get (k := j) (by omega)
        have hfz := hblk.frozen j
        by_cases hnx : j + 1 < L
        · have Hv1 := Lib.hid (show ((ys[j] : Nat) : Int) / 2 ^ (k % 32) = ((ys[j] / 2 ^ (k % 32) : Nat) : Int) by simp)
          have hyn := hd.1.get (k := j + 1) (by rw [Hlen.out]; exact hnx)
          have hlp : (j : Int) + 1 < (L : Int) := by omega
          go_upto_region 10 with (fail)
          refine at_world (fun W => BlkN W w.heap.size (zs.set j (ys[j] / 2 ^ (k % 32))) ∧ Ext w W) ⟨hblk.set j Hv1.out, hext.setCell (Nat.le_refl _) _⟩ ?_
          rintro W ⟨hblkW, hextW⟩
          obtain ⟨b3, off3, he, hb3, hc3⟩ := (hd.ext hextW).at_ (i := j + 1) (by rw [Hlen.out]; exact hnx)
          injection he with he
          injection he with he1 he2
          subst he1; subst he2
          have hcW := hblkW.cell (i := j) (by simp; omega)
          rw [List.getElem_set_self] at hcW
          have hfW := hblkW.frozen j
          have hbW := hblkW.lt
          go_region
          go_wp2
          go_roundw
          case rel =>
            have hj1 : j + 1 < ys.length := by rw [Hlen.out]; exact hnx
            have hval := (or_cast (x := ys[j]) (y := ys[j + 1]) (b := k % 32) (c := 32 - k % 32) hyj).trans (congrArg Int.ofNat (shr_word (x := ys[j]) (y := ys[j + 1]) (b := k % 32) hyj (by omega)))
            have hlt2 : (ys[j] + 4294967296 * ys[j + 1]) / 2 ^ (k % 32) % 4294967296 < 4294967296 := Nat.mod_lt _ (by omega)
            have hset := hblkW.set j hval
            rw [List.set_set] at hset
            refine ⟨j + 1, _, by omega, by go_num, by simp [hzl], hzw.set _ hlt2, take_shr (b := k % 32) hyl (by omega) Htk.out ?_, hset.drewN 1, (hextW.setCell (Nat.le_refl _) _).drew⟩
            rw [getD_at (by rw [Hlen.out]; exact hnx)]
          case measure => simp [intOf]; omega
        · have hnx' : ¬ ((j : Int) + 1 < (L : Int)) := by omega
          have Hv1 := Lib.hid (show ((ys[j] : Nat) : Int) / 2 ^ (k % 32) = ((ys[j] / 2 ^ (k % 32) : Nat) : Int) by simp)
          have hlt2 : ys[j] / 2 ^ (k % 32) < 4294967296 := Nat.lt_of_le_of_lt (Nat.div_le_self _ _) hyj
          go_wp2
          go_roundw
          case rel =>
            refine ⟨j + 1, zs.set j (ys[j] / 2 ^ (k % 32)), by omega, by go_num, by simp [hzl], hzw.set _ hlt2, take_shr (b := k % 32) hyl (by omega) Htk.out ?_, hblk.set j Hv1.out, hext.setCell (Nat.le_refl _) _⟩
            rw [getD_out (by rw [Hlen.out]; omega)]
            exact shr_word0 hyj
          case measure => simp [intOf]; omega
      · have hjl' : j = L := by omega
        subst hjl'
        go_wp2_with (go_at_call 26; refine (int_trimN (xs := zs) hzl (hblk.rd0 hzw) (Nat.le_refl _) (by unfold maxLen; omega)).mono ?_; rintro e w3 ⟨rfl, rfl⟩)
        go_ret
        have hl := trimL_len zs
        have hfull : zs = shrL (k % 32) ys := by
          have := Htk.out
          rwa [List.take_of_length_le (by omega), List.take_of_length_le (by rw [shrL_len, Hlen.out]; omega)] at this
        refine ⟨_, _, trimL zs, rfl, ?_, by omega, by unfold maxLen; omega, ⟨by rw [val_trimL, hfull]; exact Hspec.out, Nrm.trimL _, by omega⟩, hext⟩
        rw [trimL_take]
        exact (Own.of_blk hblk hzw (Nat.le_refl _)).take _
end
end Go.Proofs.YtmjmcinnbmjpdaaDoor
