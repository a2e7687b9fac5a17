/- Walks: powers. -/
import Derived.Test.YtmjmcinnbmjpdaaWi
import Derived.Test.YtmjmcinnbmjpdaaWf
namespace Go.Proofs.Ytmjmcinnbmjpdaa
open Go.RowKit
/-- multiply is right where the two lengths together are at most L. -/
def MultiplyOK (L : Nat) : Prop := ∀ (A B : Option Addr) (c d n m : Nat) (xs ys : List Nat) (w : World), xs.length = n → ys.length = m → Rd w A xs → Rd w B ys → n + m ≤ L → (min n m < 64 ∨ (n = m ∧ 0 < val xs ∧ 0 < val ys ∧ n ≤ c ∧ c ≤ maxLen ∧ m ≤ d ∧ d ≤ maxLen)) →
    Calls Try.prog 62 #[.slice A n c, .slice B m d] w (RetN (fun zs => val zs = val xs * val ys ∧ Nrm zs ∧ zs.length ≤ xs.length + ys.length) w)
theorem multiply_127 : MultiplyOK 127 := fun _ _ _ _ _ _ _ _ _ hn hm hx hy h _ => int_multiply_s hn hm hx hy (by omega) (by omega)
theorem sq_side {zs : List Nat} {c : Nat} (hn : Nrm zs) (hc : zs.length ≤ c) (hcm : c ≤ maxLen) : min zs.length zs.length < 64 ∨ (zs.length = zs.length ∧ 0 < val zs ∧ 0 < val zs ∧ zs.length ≤ c ∧ c ≤ maxLen ∧ zs.length ≤ c ∧ c ≤ maxLen) := by
  by_cases h0 : zs = []
  · left; subst h0; simp
  · right
    have h1 : val zs ≠ 0 := fun h => h0 (hn.zero.1 h)
    exact ⟨rfl, by omega, by omega, hc, hcm, hc, hcm⟩
theorem bl_lt (k : Nat) (hk : k < 18446744073709551616) : k < 2 ^ Lib.bitLen k := by
  have key : ∀ (f x : Nat), x < 2 ^ f → x < 2 ^ Lib.bitLenAux f x := by
    intro f
    induction f with
    | zero => intro x hx; simpa [Lib.bitLenAux] using hx
    | succ f ih =>
      intro x hx
      unfold Lib.bitLenAux
      split
      · rename_i h0; subst h0; simp
      · have := ih (x / 2) (by rw [Nat.pow_succ] at hx; omega)
        rw [Nat.add_comm, Nat.pow_succ]
        omega
  exact key 64 k hk
theorem and_one {a : Nat} (ha : a < 9223372036854775808) : bits .and .i64 (a : Int) 1 = ((a % 2 : Nat) : Int) := by
  have e : BitVec.ofInt 64 (a : Int) = BitVec.ofNat 64 a := by rw [BitVec.ofInt_natCast]
  have h : a % 18446744073709551616 = a := Nat.mod_eq_of_lt (by omega)
  show IntKind.i64.wrap ((BitVec.ofInt 64 (a : Int) &&& BitVec.ofInt 64 1).toNat : Int) = _
  rw [e, BitVec.toNat_and, BitVec.toNat_ofNat]
  have e1 : (BitVec.ofInt 64 1).toNat = 1 := by decide
  rw [e1, show (2 : Nat) ^ 64 = 18446744073709551616 from rfl, h, Nat.and_one_is_mod]
  exact IntWalk.i64_in _ (by omega)
theorem bit_int (k i : Nat) : (k : Int) / 2 ^ i = ((k / 2 ^ i : Nat) : Int) := by
  rw [Int.natCast_ediv, Int.natCast_pow]; rfl
theorem bit_yes {k i : Nat} (hk : k ≤ 4096) (h : k / 2 ^ i % 2 = 1) : (bits BinOp.and IntKind.i64 ((k : Int) / 2 ^ i) 1 == 1) = true := by
  have := Nat.div_le_self k (2 ^ i)
  rw [bit_int, and_one (by omega), h]; rfl
theorem bit_no {k i : Nat} (hk : k ≤ 4096) (h : ¬ k / 2 ^ i % 2 = 1) : (bits BinOp.and IntKind.i64 ((k : Int) / 2 ^ i) 1 == 1) = false := by
  have := Nat.div_le_self k (2 ^ i)
  have h0 : k / 2 ^ i % 2 = 0 := by omega
  rw [bit_int, and_one (by omega), h0]; rfl
theorem pow_even (x f : Nat) : x ^ f * x ^ f = x ^ (2 * f) := by rw [← Nat.pow_add, Nat.two_mul]
theorem pow_odd (x f : Nat) : x ^ f * x ^ f * x = x ^ (2 * f + 1) := by rw [pow_even, Nat.pow_succ]
theorem half_step (k i : Nat) : k / 2 ^ (i + 1) = k / 2 ^ i / 2 := by rw [Nat.pow_succ, Nat.div_div_eq_div_mul]
theorem pow_len {xs zs : List Nat} {e : Nat} (hx : W32 xs) (hn : Nrm zs) (h : val zs = val xs ^ e) : zs.length ≤ max 1 (e * xs.length) := by
  rcases Nat.lt_or_ge (max 1 (e * xs.length)) zs.length with hl | hl
  · exfalso
    have hne : zs ≠ [] := by rintro rfl; simp at hl
    have h1 := hn.ge hne
    rw [h] at h1
    have h2 : val xs ^ e ≤ (4294967296 ^ xs.length) ^ e := Nat.pow_le_pow_left (Nat.le_of_lt (val_lt hx)) e
    rw [← Nat.pow_mul] at h2
    rcases Nat.eq_zero_or_pos e with he | he
    · subst he
      have h3 : 4294967296 ^ 1 ≤ 4294967296 ^ (zs.length - 1) := Nat.pow_le_pow_right (by omega) (by omega)
      simp only [Nat.pow_zero] at h1
      omega
    · have h4 : val xs ^ e < (4294967296 ^ xs.length) ^ e := Nat.pow_lt_pow_left (val_lt hx) (by omega)
      rw [← Nat.pow_mul] at h4
      have h5 : 4294967296 ^ (xs.length * e) ≤ 4294967296 ^ (zs.length - 1) := Nat.pow_le_pow_right (by omega) (by rw [Nat.mul_comm]; omega)
      omega
  · exact hl
section
variable {A B : Option Addr} {c d n m L : Nat} {xs ys : List Nat} {w : World} {s t : Bool}
set_option maxHeartbeats 1000000 in
theorem int_power {k : Nat} (hM : MultiplyOK L) (hn : xs.length = n) (hx : Rd w A xs) (hk : k ≤ 4096) (hL : k * n + 2 ≤ L) (hn64 : n < 64) :
    Calls Try.prog 66 #[.slice A n c, .int .i64 (k : Int)] w (RetL (fun zs => val zs = val xs ^ k ∧ Nrm zs ∧ zs.length ≤ max 1 (k * xs.length)) w) := by
  have Hn := Lib.hid hn
  have HM := Lib.hid hM
  have HL := Lib.hid hL
  clear hn hM hL
  go_enter Try.func66, Try.ntmps66
  go_wp2_with fail
  refine (lenU _ _ (by omega) (by omega)).mono ?_
  rintro e w' ⟨rfl, rfl⟩
  rw [Int.toNat_natCast]
  have hb64 := Lib.bitLen_le k 64 (by omega) (by omega)
  have hz0 : k / 2 ^ Lib.bitLen k = 0 := Nat.div_eq_of_lt (bl_lt k (by omega))
  have Hz0 := Lib.hid hz0
  clear hz0
  go_wp2_with fail
  go_loopw [5, 6] (fun p i wr => ∃ (j : Nat) (A' : Option Addr) (c' : Nat) (zs : List Nat), j ≤ Lib.bitLen k ∧ i = .int .i64 ((j : Int) - 1) ∧ p = .slice A' zs.length c' ∧ zs.length ≤ c' ∧ c' ≤ maxLen ∧ Rd wr A' zs ∧ Nrm zs ∧ val zs = val xs ^ (k / 2 ^ j) ∧ Ext w wr) (fun _ i _ => (intOf i + 1).toNat)
  case atStart =>
    exact ⟨Lib.bitLen k, _, _, [1], Nat.le_refl _, rfl, rfl, Nat.le_refl _, by simp [maxLen], (BlkN.lit w [1] #[.int .u32 1] rfl).rd0 (W32.one (by omega)), Nrm.one (by omega), by rw [Hz0.out]; rfl, (Ext.refl w).alloc _⟩
  case round =>
    obtain ⟨j, A', c', zs, hj, rfl, rfl, hc, hcm, hr, hnr, hv, hext⟩ := hrel
    have Hv := Lib.hid hv
    clear hv
    by_cases hj0 : j = 0
    · subst hj0
      go_wp2_with fail
      go_ret
      have hv := Hv.out
      rw [Nat.pow_zero, Nat.div_one] at hv
      exact ⟨A', c', zs, rfl, hr, hc, hcm, ⟨hv, hnr, pow_len hx.1 hnr hv⟩, hext⟩
    · obtain ⟨i, rfl⟩ : ∃ i, j = i + 1 := ⟨j - 1, by omega⟩
      rw [show (((i + 1 : Nat) : Int) - 1) = (i : Int) by omega]
      have hlen := pow_len hx.1 hnr Hv.out
      have hstep := half_step k i
      have hki := Nat.div_le_self k (2 ^ i)
      have hsz : 2 * (k / 2 ^ (i + 1) * xs.length) ≤ k * n ∧ (k / 2 ^ i % 2 = 1 → 2 * (k / 2 ^ (i + 1) * xs.length) + n ≤ k * n) := by
        rw [Hn.out]
        generalize k / 2 ^ i = e at *
        generalize k / 2 ^ (i + 1) = f at *
        have h1 : 2 * (f * n) = (2 * f) * n := by rw [Nat.mul_assoc]
        rw [h1]
        refine ⟨Nat.mul_le_mul_right _ (by omega), fun h => ?_⟩
        have : (2 * f + 1) * n ≤ k * n := Nat.mul_le_mul_right _ (by omega)
        rw [Nat.add_mul, Nat.one_mul] at this
        exact this
      have Hsz := Lib.hid hsz
      have Hstep := Lib.hid hstep
      clear hsz hstep
      by_cases hbit : k / 2 ^ i % 2 = 1
      · have ht := bit_yes hk hbit
        have Hbit := Lib.hid hbit
        clear hbit
        go_wp2_with fail
        refine (HM.out A' A' c' c' _ _ zs zs _ rfl rfl hr hr (by have := Hsz.out.1; have := HL.out; omega) (sq_side hnr hc hcm)).mono ?_
        rintro e w2 ⟨A2, c2, z2, rfl, ho2, hc2, hm2, ⟨hv2, hn2, hl2⟩, hext2⟩
        have Hv2 := Lib.hid hv2
        clear hv2
        go_wp2_with fail
        refine (HM.out A2 A c2 c _ _ z2 xs _ rfl Hn.out ho2.rd ((hx.ext hext).ext hext2) (by have := Hsz.out.2 Hbit.out; have := HL.out; omega) (Or.inl (by omega))).mono ?_
        rintro e w3 ⟨A3, c3, z3, rfl, ho3, hc3, hm3, ⟨hv3, hn3, hl3⟩, hext3⟩
        have Hv3 := Lib.hid hv3
        clear hv3
        go_wp2_with fail
        go_roundw
        case rel =>
          refine ⟨i, A3, c3, z3, by omega, rfl, rfl, hc3, hm3, ho3.rd, hn3, ?_, (hext.trans hext2).trans hext3⟩
          have e : k / 2 ^ i = 2 * (k / 2 ^ (i + 1)) + 1 := by have := Hstep.out; have := Hbit.out; omega
          rw [Hv3.out, Hv2.out, Hv.out, e]
          exact pow_odd _ _
        case measure => simp [intOf]
      · have ht := bit_no hk hbit
        have Hbit := Lib.hid hbit
        clear hbit
        go_wp2_with fail
        refine (HM.out A' A' c' c' _ _ zs zs _ rfl rfl hr hr (by have := Hsz.out.1; have := HL.out; omega) (sq_side hnr hc hcm)).mono ?_
        rintro e w2 ⟨A2, c2, z2, rfl, ho2, hc2, hm2, ⟨hv2, hn2, hl2⟩, hext2⟩
        have Hv2 := Lib.hid hv2
        clear hv2
        go_wp2_with fail
        go_roundw
        case rel =>
          refine ⟨i, A2, c2, z2, by omega, rfl, rfl, hc2, hm2, ho2.rd, hn2, ?_, hext.trans hext2⟩
          have e : k / 2 ^ i = 2 * (k / 2 ^ (i + 1)) := by have := Hstep.out; have := Hbit.out; omega
          rw [Hv2.out, Hv.out, e]
          exact pow_even _ _
        case measure => simp [intOf]
end
end Go.Proofs.Ytmjmcinnbmjpdaa
