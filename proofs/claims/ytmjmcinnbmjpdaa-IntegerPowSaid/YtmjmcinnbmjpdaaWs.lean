/- Walks: shifts. -/
import Derived.Test.YtmjmcinnbmjpdaaWi
import Derived.Test.YtmjmcinnbmjpdaaNum3
namespace Go.Proofs.Ytmjmcinnbmjpdaa
open Go.RowKit
theorem shl_cast {x b : Nat} (hx : x < 4294967296) (hb : b < 32) : IntKind.u64.wrap ((x : Int) * 2 ^ b) = ((x * 2 ^ b : Nat) : Int) := by
  have h2 : x * 2 ^ b < 4294967296 * 4294967296 := by
    have hpb : 2 ^ b ≤ 4294967296 := by
      have : 2 ^ b ≤ 2 ^ 32 := Nat.pow_le_pow_right (by omega) (by omega)
      omega
    exact Nat.mul_lt_mul_of_lt_of_le hx hpb (by omega)
  rw [IntKind.wrap_u64, show (x : Int) * 2 ^ b = ((x * 2 ^ b : Nat) : Int) by simp]
  omega
theorem shl_lo {x z b : Nat} (hx : x < 4294967296) (hb : b < 32) (hz : z < 2 ^ b) (hz2 : z < 4294967296) : bits .or .u32 (z : Int) (IntKind.u64.wrap ((x : Int) * 2 ^ b) % 4294967296) = ((z + x * 2 ^ b % 4294967296 : Nat) : Int) := by
  rw [shl_cast hx hb, show ((x * 2 ^ b : Nat) : Int) % 4294967296 = ((x * 2 ^ b % 4294967296 : Nat) : Int) by omega, u32_or_nat _ _ hz2 (Nat.mod_lt _ (by omega)), shl_low (by omega) hz]
theorem shl_hi {x b : Nat} (hx : x < 4294967296) (hb : b < 32) : IntKind.u64.wrap ((x : Int) * 2 ^ b) / 4294967296 % 4294967296 = ((x * 2 ^ b / 4294967296 : Nat) : Int) := by
  have h := shl_high (b := b) hx
  have hpb : 2 ^ b ≤ 4294967296 := by
    have : 2 ^ b ≤ 2 ^ 32 := Nat.pow_le_pow_right (by omega) (by omega)
    omega
  rw [shl_cast hx hb]
  generalize x * 2 ^ b = T at *
  omega
section
variable {A B : Option Addr} {c d n m : Nat} {xs ys : List Nat} {w : World} {s t : Bool}
set_option maxHeartbeats 1000000 in
theorem int_shiftInto {g off n cz b : Nat} {pre zs0 post : List Nat} (hblk0 : BlkN w g (pre ++ zs0 ++ post)) (hoff : pre.length = off) (hz : zs0 = List.replicate (xs.length + 1) 0) (hx : Rd w A xs) (hm : xs.length = m) (hap : Apart A xs g)
    (hn : m + 1 = n) (hb : b < 32) (h1 : n ≤ 100000) (_hcz : n ≤ cz) (_hczm : cz ≤ maxLen) :
    Calls Try.prog 95 #[.slice (some ⟨g, off, none⟩) n cz, .slice A m c, .int .i64 (b : Int)] w (Turned w g pre n post fun zs => val zs = val xs * 2 ^ b) := by
  have Hoff := Lib.hid hoff
  have Hm := Lib.hid hm
  clear hoff hm
  have hi := ShlInv.start xs b
  rw [← hz] at hi
  clear hz
  go_enter Try.func95, Try.ntmps95
  go_wp2
  go_loopw [11] (fun i wr => ∃ (k : Nat) (zs : List Nat), k ≤ m ∧ i = .int .i64 (k : Int) ∧ ShlInv xs b k zs ∧ BlkN wr g (pre ++ zs ++ post) ∧ Mod w wr g) (fun i _ => m - (intOf i).toNat)
  case atStart => exact ⟨0, zs0, by omega, rfl, hi, hblk0, Mod.refl _ _⟩
  case round =>
    obtain ⟨k, zs, hk, rfl, hinv, hblk, hmod⟩ := hrel
    have hzl : zs.length = n := by rw [hinv.len, Hm.out]; exact hn
    have hxl : xs.length = m := Hm.out
    by_cases hlt : k < m
    · obtain ⟨b1, off', rfl, hb1, hc1⟩ := (hx.mod hmod hap).at_ (i := k) (by omega)
      have hxk := hx.1.get (k := k) (by omega)
      obtain ⟨b2, off2, he, hb2, hc2⟩ := (hblk.mid hinv.w32 Hoff.out).at_ (i := k) (by omega)
      injection he with he
      injection he with he1 he2
      subst he1; subst he2
      have hzk := hinv.w32.get (k := k) (by omega)
      have hlow : zs[k] < 2 ^ b := by have := hinv.low; rwa [getD_at (by omega)] at this
      obtain ⟨b3, off3, he, hb3, hc3⟩ := (hblk.mid hinv.w32 Hoff.out).at_ (i := k + 1) (by omega)
      injection he with he
      injection he with he1 he2
      subst he1; subst he2
      have hfz := hblk.frozen (off + k)
      have hfz2 := hblk.frozen (off + (k + 1))
      go_wp2
      go_roundw
      case rel =>
        have hst := hinv.step hb hx.1 (by omega)
        rw [getD_at (by omega)] at hst
        exact ⟨k + 1, _, by omega, by go_num, hst, (hblk.setMid Hoff.out (by omega) (shl_lo hxk hb hlow hzk)).setMid Hoff.out (by simp; omega) (shl_hi hxk hb), (hmod.setCell _ _).setCell _ _⟩
      case measure => simp [intOf]; omega
    · have hk' : k = m := by omega
      subst hk'
      go_wp2
      go_end0
      refine ⟨zs, rfl, hzl, hinv.w32, hblk, ?_, hmod⟩
      have := hinv.eq
      rwa [List.take_of_length_le (by omega), List.take_of_length_le (by omega)] at this
end
end Go.Proofs.Ytmjmcinnbmjpdaa
