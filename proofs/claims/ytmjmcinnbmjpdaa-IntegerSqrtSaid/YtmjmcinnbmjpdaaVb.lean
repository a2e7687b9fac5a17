/- Walks: a multiple is subtracted in place. -/
import Derived.Test.YtmjmcinnbmjpdaaWe
import Derived.Test.YtmjmcinnbmjpdaaNum4
namespace Go.Proofs.Ytmjmcinnbmjpdaa
open Go.RowKit
theorem sm_low {z s : Nat} {S : Int} (hS : S = s) (hz : z < 4294967296) (h : ¬ s % 4294967296 ≤ z) : IntKind.u64.wrap ((z : Int) - S % 4294967296) % 4294967296 = ((z + 4294967296 - s % 4294967296 : Nat) : Int) := by
  subst hS; rw [IntKind.wrap_u64]; omega
theorem sm_top {z s : Nat} {S : Int} (hS : S = s) (hz : z < 4294967296) (h : ¬ s % 4294967296 ≤ z) : IntKind.u64.wrap ((z : Int) - S % 4294967296) / 9223372036854775808 = 1 := by
  subst hS; rw [IntKind.wrap_u64]; omega
theorem sm_low0 {z s : Nat} {S : Int} (hS : S = s) (hz : z < 4294967296) (h : s % 4294967296 ≤ z) : IntKind.u64.wrap ((z : Int) - S % 4294967296) % 4294967296 = ((z - s % 4294967296 : Nat) : Int) := by
  subst hS; rw [IntKind.wrap_u64]; omega
theorem sm_car0 {z s : Nat} {S : Int} (hS : S = s) (hz : z < 4294967296) (h : s % 4294967296 ≤ z) (hs : s ≤ 18446744069414584320) : IntKind.u64.wrap (S / 4294967296 + IntKind.u64.wrap ((z : Int) - S % 4294967296) / 9223372036854775808) = ((s / 4294967296 + 0 : Nat) : Int) := by
  subst hS; rw [IntKind.wrap_u64, IntKind.wrap_u64]; omega
theorem sm_car1 {z s : Nat} {S : Int} (hS : S = s) (hz : z < 4294967296) (h : ¬ s % 4294967296 ≤ z) (hs : s ≤ 18446744069414584320) : IntKind.u64.wrap (S / 4294967296 + IntKind.u64.wrap ((z : Int) - S % 4294967296) / 9223372036854775808) = ((s / 4294967296 + 1 : Nat) : Int) := by
  rw [sm_top hS hz h]; subst hS; rw [IntKind.wrap_u64]; omega
theorem sm_end_low {z c : Nat} (hz : z < 4294967296) (hc : c < 4294967296) (h : ¬ c ≤ z) : IntKind.u64.wrap ((z : Int) - (c : Int)) % 4294967296 = ((z + 4294967296 - c : Nat) : Int) := by
  rw [IntKind.wrap_u64]; omega
theorem sm_end_top {z c : Nat} (hz : z < 4294967296) (hc : c < 4294967296) (h : ¬ c ≤ z) : IntKind.u64.wrap ((z : Int) - (c : Int)) / 9223372036854775808 = 1 := by
  rw [IntKind.wrap_u64]; omega
section
variable {A B : Option Addr} {c d m : Nat} {xs ys : List Nat} {w : World}
set_option maxHeartbeats 2000000 in
theorem int_subtractMultiple {g off n cz : Nat} {pre zs0 post : List Nat} {q : Nat} (hblk0 : BlkN w g (pre ++ zs0 ++ post)) (hoff : pre.length = off) (hn : zs0.length = n) (hw : W32 zs0) (hy : Rd w B ys) (hm : ys.length = m) (hap : Apart B ys g)
    (hl : m + 1 = n) (hq : q < 4294967296) (h1 : n ≤ 1000000) (hcz : n ≤ cz) (_hczm : cz ≤ maxLen) :
    Calls Try.prog 97 #[.slice (some ⟨g, off, none⟩) n cz, .slice B m d, .int .u32 (q : Int)] w fun e w' => ∃ (zs : List Nat) (b : Nat), e = .returned (.bool (decide (b = 1))) ∧ b ≤ 1 ∧ zs.length = n ∧ W32 zs ∧ BlkN w' g (pre ++ zs ++ post) ∧ val zs + val ys * q = val zs0 + 4294967296 ^ n * b ∧ Mod w w' g := by
  have Hoff := Lib.hid hoff
  have Hn := Lib.hid hn
  have Hm := Lib.hid hm
  clear hoff hn hm
  have hmcz : m ≤ cz := by omega
  go_enter Try.func97, Try.ntmps97
  go_wp2
  go_loopw [7, 19] (fun cr i wr => ∃ (k : Nat) (zs : List Nat) (cy : Nat), k ≤ m ∧ i = .int .i64 (k : Int) ∧ cr = .int .u64 (cy : Int) ∧ SmInv zs0 ys q k zs cy ∧ BlkN wr g (pre ++ zs ++ post) ∧ Mod w wr g) (fun _ i _ => m - (intOf i).toNat)
  case atStart => exact ⟨0, zs0, 0, by omega, rfl, rfl, SmInv.start hw, hblk0, Mod.refl _ _⟩
  case round =>
    obtain ⟨k, zs, cy, hk, rfl, rfl, hinv, hblk, hmod⟩ := hrel
    have hcy := hinv.hcy
    have hzl : n ≤ zs.length := by rw [hinv.len, Hn.out]; omega
    have hzl2 : zs.length ≤ n := by rw [hinv.len, Hn.out]; omega
    have hyl : m ≤ ys.length := by rw [Hm.out]; omega
    have hyl2 : ys.length ≤ m := by rw [Hm.out]; omega
    by_cases hlt : k < m
    · obtain ⟨b, off', rfl, hb, hc1⟩ := (hy.mod hmod hap).at_ (i := k) (by omega)
      have hyk := hy.1.get (k := k) (by omega)
      obtain ⟨b2, off2, he, hb2, hc2⟩ := (hblk.mid hinv.w32 Hoff.out).at_ (i := k) (by omega)
      injection he with he
      injection he with he1 he2
      subst he1; subst he2
      have hzk := hinv.w32.get (k := k) (by omega)
      have hfz := hblk.frozen (off + k)
      have hmi := (mul_word_int hyk hq).1
      have hmj := (mul_word_int hyk hq).2
      have hS : (cy : Int) + ((ys[k]'(by omega) : Nat) : Int) * (q : Int) = ((cy + ys[k]'(by omega) * q : Nat) : Int) := by rw [Int.natCast_add, Int.natCast_mul]
      have hsl : cy + ys[k]'(by omega) * q ≤ 18446744069414584320 := by
        have := mul_word hyk hq
        omega
      have hst : ∀ (dd bb : Nat), dd < 4294967296 → bb ≤ 1 → dd + (cy + ys[k]'(by omega) * q) % 4294967296 = zs[k]'(by omega) + 4294967296 * bb → SmInv zs0 ys q (k + 1) (zs.set k dd) ((cy + ys[k]'(by omega) * q) / 4294967296 + bb) := fun dd bb h1 h2 h3 => hinv.step hy.1 hq (by omega) (by omega) rfl h1 h2 h3
      generalize cy + ys[k]'(by omega) * q = S at hS hsl hst
      by_cases hbor : S % 4294967296 ≤ zs[k]'(by omega)
      · have HS := Lib.hid (And.intro hS (And.intro hsl hbor))
        clear hS hsl hbor
        go_wp2
        go_roundw
        case rel =>
          obtain ⟨hS, hsl, hbor⟩ := HS.out
          exact ⟨k + 1, zs.set k (zs[k]'(by omega) - S % 4294967296), _, by omega, by go_num, congrArg _ (sm_car0 hS hzk hbor hsl), hst _ 0 (by omega) (by omega) (by omega), hblk.setMid Hoff.out (by omega) (sm_low0 hS hzk hbor), hmod.setCell _ _⟩
        case measure => simp [intOf]; omega
      · have HS := Lib.hid (And.intro hS (And.intro hsl hbor))
        clear hS hsl hbor
        go_wp2
        go_roundw
        case rel =>
          obtain ⟨hS, hsl, hbor⟩ := HS.out
          exact ⟨k + 1, zs.set k (zs[k]'(by omega) + 4294967296 - S % 4294967296), _, by omega, by go_num, congrArg _ (sm_car1 hS hzk hbor hsl), hst _ 1 (by omega) (by omega) (by omega), hblk.setMid Hoff.out (by omega) (sm_low hS hzk hbor), hmod.setCell _ _⟩
        case measure => simp [intOf]; omega
    · have hk' : k = m := by omega
      subst hk'
      obtain ⟨b2, off2, he, hb2, hc2⟩ := (hblk.mid hinv.w32 Hoff.out).at_ (i := k) (by omega)
      injection he with he
      injection he with he1 he2
      subst he1; subst he2
      have hzk := hinv.w32.get (k := k) (by omega)
      have hfz := hblk.frozen (off + k)
      have hat := hinv.at_ (k := k) (by omega)
      obtain rfl : ys.length = k := Hm.out
      have hdn : ∀ dd bb : Nat, dd + cy = zs[ys.length]'(by omega) + 4294967296 * bb → val (zs.set ys.length dd) + val ys * q = val zs0 + 4294967296 ^ (ys.length + 1) * bb := fun dd bb h => hinv.done (by rw [Hn.out]; omega) (by rw [← hat]; exact h)
      have Hdn := Lib.hid hdn
      have Hw := Lib.hid hinv.w32
      clear hdn hat hinv
      generalize hZ : zs[ys.length]'(by omega) = Z at *
      clear hZ
      by_cases hbor : cy ≤ Z
      · have e0 : (((Z : Int) - (cy : Int)) / 9223372036854775808 == 1) = false := by rw [beq_eq_false_iff_ne]; omega
        have hb := hblk.setMid Hoff.out (i := ys.length) (by omega) (v := (Z : Int) - (cy : Int)) (n := Z - cy) (by omega)
        rw [List.append_assoc] at hb
        go_wp2
        go_ret
        exact ⟨zs.set ys.length (Z - cy), 0, rfl, by omega, by simp; omega, Hw.out.set _ (by omega), hb, by rw [← hl]; exact Hdn.out _ 0 (by omega), hmod.setCell _ _⟩
      · have e1 := sm_end_top hzk hcy hbor
        have e2 := sm_end_low hzk hcy hbor
        have hb := hblk.setMid Hoff.out (i := ys.length) (by omega) (v := ((Z + 4294967296 - cy : Nat) : Int)) (n := Z + 4294967296 - cy) rfl
        rw [List.append_assoc] at hb
        go_wp2
        go_ret
        exact ⟨zs.set ys.length (Z + 4294967296 - cy), 1, rfl, by omega, by simp; omega, Hw.out.set _ (by omega), hb, by rw [← hl]; exact Hdn.out _ 1 (by omega), hmod.setCell _ _⟩
end
end Go.Proofs.Ytmjmcinnbmjpdaa
