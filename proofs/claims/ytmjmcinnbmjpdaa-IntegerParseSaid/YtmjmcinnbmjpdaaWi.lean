/- Walks: numbers of at most two words; binary digits. -/
import Derived.Test.YtmjmcinnbmjpdaaWh
namespace Go.Proofs.Ytmjmcinnbmjpdaa
open Go.RowKit
theorem val_pair (a b : Nat) : val [a, b] = a + 4294967296 * b := by simp [val]
theorem W32.pair {a b : Nat} (ha : a < 4294967296) (hb : b < 4294967296) : W32 [a, b] := W32.cons ha (W32.one hb)
theorem or_zero {a : Nat} (ha : a < 4294967296) : bits .or .u64 0 (a : Int) = (a : Int) := by
  have := u64_or_nat 0 a (by omega) (by omega)
  rw [Nat.zero_or] at this
  exact this
theorem or_high {a b : Nat} (ha : a < 4294967296) (hb : b < 4294967296) : bits .or .u64 (a : Int) ((b : Int) * 4294967296) = ((a + 4294967296 * b : Nat) : Int) := by
  have e : (b : Int) * 4294967296 = ((b * 4294967296 : Nat) : Int) := by rw [Int.natCast_mul]; rfl
  rw [e]
  rw [u64_or_nat a (b * 4294967296) (by omega) (by omega)]
  have := Nat.two_pow_add_eq_or_of_lt (i := 32) (show a < 2 ^ 32 by omega) b
  rw [Nat.or_comm, Nat.mul_comm b, Nat.add_comm a]
  exact congrArg Int.ofNat this.symm
section
variable {A B : Option Addr} {c d n m : Nat} {xs ys : List Nat} {w : World} {s t : Bool}
set_option maxHeartbeats 400000 in
theorem int_fromUint (x : Nat) (hx : x / 4294967296 < 4294967296) : Calls Try.prog 54 #[.int .u64 (x : Int)] w (RetN (fun zs => val zs = x ∧ Nrm zs ∧ zs.length ≤ 2) w) := by
  have hb := BlkN.lit w [x % 4294967296, x / 4294967296 % 4294967296] #[.int .u32 ((x : Int) % 4294967296), .int .u32 ((x : Int) / 4294967296 % 4294967296)] (by simp [Wd])
  have hw : W32 [x % 4294967296, x / 4294967296 % 4294967296] := W32.pair (by omega) (by omega)
  have Hx := Lib.hid hx
  clear hx
  have hext := (Ext.refl w).alloc (.cells #[.int .u32 ((x : Int) % 4294967296), .int .u32 ((x : Int) / 4294967296 % 4294967296)] 46)
  go_enter Try.func54, Try.ntmps54
  go_wp2_with fail
  refine (int_trimN (xs := [x % 4294967296, x / 4294967296 % 4294967296]) rfl (hb.rd0 hw) (Nat.le_refl _) (by simp [maxLen])).mono ?_
  rintro e w' ⟨rfl, rfl⟩
  go_wp2_with fail
  go_ret
  have hlen := trimL_len [x % 4294967296, x / 4294967296 % 4294967296]
  simp only [List.length_cons, List.length_nil] at hlen
  refine ⟨_, _, trimL [x % 4294967296, x / 4294967296 % 4294967296], rfl, ?_, by omega, by unfold maxLen; omega, ⟨by rw [val_trimL, val_pair]; have := Hx.out; omega, Nrm.trimL _, by omega⟩, hext⟩
  rw [trimL_take]
  exact (Own.of_blk hb hw (Nat.le_refl _)).take _
set_option maxHeartbeats 400000 in
theorem ref_words (x : Nat) (hx : x / 4294967296 < 4294967296) : Calls Try.prog 55 #[.int .u64 (x : Int)] w (RetN (fun zs => val zs = x ∧ Nrm zs ∧ zs.length ≤ 2) w) := by
  have hb := BlkN.lit w [x % 4294967296, x / 4294967296 % 4294967296] #[.int .u32 ((x : Int) % 4294967296), .int .u32 ((x : Int) / 4294967296 % 4294967296)] (by simp [Wd])
  have hw : W32 [x % 4294967296, x / 4294967296 % 4294967296] := W32.pair (by omega) (by omega)
  have Hx := Lib.hid hx
  clear hx
  have hext := (Ext.refl w).alloc (.cells #[.int .u32 ((x : Int) % 4294967296), .int .u32 ((x : Int) / 4294967296 % 4294967296)] 46)
  go_enter Try.func55, Try.ntmps55
  go_wp2_with fail
  refine (ref_trimN (xs := [x % 4294967296, x / 4294967296 % 4294967296]) rfl (hb.rd0 hw) (Nat.le_refl _) (by simp [maxLen])).mono ?_
  rintro e w' ⟨rfl, rfl⟩
  go_wp2_with fail
  go_ret
  have hlen := trimL_len [x % 4294967296, x / 4294967296 % 4294967296]
  simp only [List.length_cons, List.length_nil] at hlen
  refine ⟨_, _, trimL [x % 4294967296, x / 4294967296 % 4294967296], rfl, ?_, by omega, by unfold maxLen; omega, ⟨by rw [val_trimL, val_pair]; have := Hx.out; omega, Nrm.trimL _, by omega⟩, hext⟩
  rw [trimL_take]
  exact (Own.of_blk hb hw (Nat.le_refl _)).take _
set_option maxHeartbeats 400000 in
theorem int_toUint (hn : xs.length = n) (hx : Rd w A xs) (h2 : n ≤ 2) : Calls Try.prog 45 #[.slice A n c] w fun e w' => e = .returned (.int .u64 (val xs)) ∧ w = w' := by
  subst hn
  match xs, h2 with
  | [], _ =>
    go_enter Try.func45, Try.ntmps45
    go_wp2
    go_loop [3, 8] (fun v i => i = .int .i64 0 ∧ v = .int .u64 0) (fun _ _ => 0)
    case atStart => exact ⟨rfl, rfl⟩
    case round =>
      obtain ⟨rfl, rfl⟩ := hrel
      go_wp2
      go_ret
      exact ⟨rfl, rfl⟩
  | [a], _ =>
    obtain ⟨b, off, rfl, hb, hc⟩ := hx.2 (by simp)
    have hc0 := hc 0 (by simp)
    simp only [Nat.add_zero, List.getElem_cons_zero] at hc0
    have ha := hx.1 a (by simp)
    clear hc
    go_enter Try.func45, Try.ntmps45
    go_wp2
    go_loop [3, 8] (fun v i => (i = .int .i64 0 ∧ v = .int .u64 0) ∨ (i = .int .i64 1 ∧ v = .int .u64 (a : Int))) (fun _ i => 1 - (intOf i).toNat)
    case atStart => exact .inl ⟨rfl, rfl⟩
    case round =>
      rcases hrel with ⟨rfl, rfl⟩ | ⟨rfl, rfl⟩
      · go_wp2
        exact ⟨.inr ⟨rfl, congrArg (Value.int .u64) (or_zero ha)⟩, by simp [intOf]⟩
      · go_wp2
        go_ret
        exact ⟨by simp [val], rfl⟩
  | [a, a2], _ =>
    obtain ⟨b, off, rfl, hb, hc⟩ := hx.2 (by simp)
    have hc0 := hc 0 (by simp)
    have hc1 := hc 1 (by simp)
    simp only [Nat.add_zero, List.getElem_cons_zero, List.getElem_cons_succ] at hc0 hc1
    have ha := hx.1 a (by simp)
    have ha2 := hx.1 a2 (by simp)
    clear hc
    go_enter Try.func45, Try.ntmps45
    go_wp2
    go_loop [3, 8] (fun v i => (i = .int .i64 0 ∧ v = .int .u64 0) ∨ (i = .int .i64 1 ∧ v = .int .u64 (a : Int)) ∨ (i = .int .i64 2 ∧ v = .int .u64 (val [a, a2] : Nat))) (fun _ i => 2 - (intOf i).toNat)
    case atStart => exact .inl ⟨rfl, rfl⟩
    case round =>
      rcases hrel with ⟨rfl, rfl⟩ | ⟨rfl, rfl⟩ | ⟨rfl, rfl⟩
      · go_wp2
        exact ⟨.inr (.inl ⟨rfl, congrArg (Value.int .u64) (or_zero ha)⟩), by simp [intOf]⟩
      · go_wp2
        exact ⟨.inr (.inr ⟨rfl, congrArg (Value.int .u64) ((or_high ha ha2).trans (by rw [val_pair]))⟩), by simp [intOf]⟩
      · go_wp2
        go_ret
        exact ⟨rfl, rfl⟩

theorem neg_wrap {j : Nat} (hj : j ≤ 9223372036854775808) : IntKind.u64.wrap (-IntKind.u64.wrap (-(j : Int))) = (j : Int) := by
  rw [IntKind.wrap_u64, IntKind.wrap_u64]; omega
set_option maxHeartbeats 400000 in
theorem int_FromInt (k : Int) (h0 : -9223372036854775808 ≤ k) (h1 : k < 9223372036854775808) : Calls Try.prog 24 #[.int .i64 k] w (RetI k 2 w) := by
  by_cases hk : k < 0
  · skip
    obtain ⟨j, hj⟩ : ∃ j : Nat, k = -(j : Int) := ⟨k.natAbs, by omega⟩
    have hneg := neg_wrap (j := j) (by omega)
    have hj2 : j / 4294967296 < 4294967296 := by omega
    subst hj
    skip
    have Hneg := Lib.hid hneg
    clear hneg
    go_enter Try.func24, Try.ntmps24
    go_wp2_with fail
    rw [Hneg.out]
    refine (int_fromUint (w := w.alloc (.cells #[.bool false, .slice none 0 0] 24)) j hj2).mono ?_
    rintro e w2 ⟨A2, c2, zs, rfl, ho2, hc2, hm2, ⟨hv2, hn2, hl2⟩, hext2⟩
    have Hv2 := Lib.hid hv2
    clear hv2
    go_wp2_with fail
    refine (int_signed rfl ho2.rd hc2 hm2 hn2).mono ?_
    rintro e w3 ⟨b3, A3, c3, rs, rfl, hr3, hc3, hm3, hi3, hl3, hext3⟩
    have ext3 := hext2.trans hext3
    have bz := Box.new w 24 #[.bool false, .slice none 0 0]
    have bz3 := bz.ext ext3
    have z0 := bz3.cell 0 (.bool false) rfl
    have z1 := bz3.cell 1 (.slice none 0 0) rfl
    have f0 := bz3.frozen 0
    have f1 := bz3.frozen 1
    go_wp2_with fail
    obtain ⟨r1, r2, r3, r4⟩ := fin_pair (b := b3) (n := rs.length) (c := c3) (((Ext.refl w).alloc _).trans ext3) (Nat.le_refl _) bz3 hr3
    exact bodyPost_ret (v := .agg #[.bool b3, .slice A3 rs.length c3]) (by simp [results, Try.results24, go_sem, r3, r4]) rfl ⟨b3, A3, c3, rs, rfl, r1, hc3, hm3, by have h := Hv2.out; unfold ival at hi3; rw [h] at hi3; simpa using hi3, by omega, r2⟩
  · skip
    obtain ⟨j, hj⟩ : ∃ j : Nat, k = (j : Int) := ⟨k.toNat, by omega⟩
    have hj2 : j / 4294967296 < 4294967296 := by omega
    subst hj
    skip
    skip
    skip
    go_enter Try.func24, Try.ntmps24
    go_wp2_with fail
    skip
    refine (int_fromUint (w := w.alloc (.cells #[.bool false, .slice none 0 0] 24)) j hj2).mono ?_
    rintro e w2 ⟨A2, c2, zs, rfl, ho2, hc2, hm2, ⟨hv2, hn2, hl2⟩, hext2⟩
    have Hv2 := Lib.hid hv2
    clear hv2
    go_wp2_with fail
    refine (int_signed rfl ho2.rd hc2 hm2 hn2).mono ?_
    rintro e w3 ⟨b3, A3, c3, rs, rfl, hr3, hc3, hm3, hi3, hl3, hext3⟩
    have ext3 := hext2.trans hext3
    have bz := Box.new w 24 #[.bool false, .slice none 0 0]
    have bz3 := bz.ext ext3
    have z0 := bz3.cell 0 (.bool false) rfl
    have z1 := bz3.cell 1 (.slice none 0 0) rfl
    have f0 := bz3.frozen 0
    have f1 := bz3.frozen 1
    go_wp2_with fail
    obtain ⟨r1, r2, r3, r4⟩ := fin_pair (b := b3) (n := rs.length) (c := c3) (((Ext.refl w).alloc _).trans ext3) (Nat.le_refl _) bz3 hr3
    exact bodyPost_ret (v := .agg #[.bool b3, .slice A3 rs.length c3]) (by simp [results, Try.results24, go_sem, r3, r4]) rfl ⟨b3, A3, c3, rs, rfl, r1, hc3, hm3, by have h := Hv2.out; unfold ival at hi3; rw [h] at hi3; simpa using hi3, by omega, r2⟩
set_option maxHeartbeats 400000 in
theorem ref_FromInt (k : Int) (h0 : -9223372036854775808 ≤ k) (h1 : k < 9223372036854775808) : Calls Try.prog 25 #[.int .i64 k] w (RetI k 2 w) := by
  by_cases hk : k < 0
  · skip
    obtain ⟨j, hj⟩ : ∃ j : Nat, k = -(j : Int) := ⟨k.natAbs, by omega⟩
    have hneg := neg_wrap (j := j) (by omega)
    have hj2 : j / 4294967296 < 4294967296 := by omega
    subst hj
    skip
    have Hneg := Lib.hid hneg
    clear hneg
    go_enter Try.func25, Try.ntmps25
    go_wp2_with fail
    rw [Hneg.out]
    refine (ref_words (w := w.alloc (.cells #[.bool false, .slice none 0 0] 24)) j hj2).mono ?_
    rintro e w2 ⟨A2, c2, zs, rfl, ho2, hc2, hm2, ⟨hv2, hn2, hl2⟩, hext2⟩
    have Hv2 := Lib.hid hv2
    clear hv2
    go_wp2_with fail
    refine (ref_signed rfl ho2.rd hc2 hm2).mono ?_
    rintro e w3 ⟨b3, A3, c3, rs, rfl, hr3, hc3, hm3, hi3, hl3, hext3⟩
    have ext3 := hext2.trans hext3
    have bz := Box.new w 24 #[.bool false, .slice none 0 0]
    have bz3 := bz.ext ext3
    have z0 := bz3.cell 0 (.bool false) rfl
    have z1 := bz3.cell 1 (.slice none 0 0) rfl
    have f0 := bz3.frozen 0
    have f1 := bz3.frozen 1
    go_wp2_with fail
    obtain ⟨r1, r2, r3, r4⟩ := fin_pair (b := b3) (n := rs.length) (c := c3) (((Ext.refl w).alloc _).trans ext3) (Nat.le_refl _) bz3 hr3
    exact bodyPost_ret (v := .agg #[.bool b3, .slice A3 rs.length c3]) (by simp [results, Try.results25, go_sem, r3, r4]) rfl ⟨b3, A3, c3, rs, rfl, r1, hc3, hm3, by have h := Hv2.out; unfold ival at hi3; rw [h] at hi3; simpa using hi3, by omega, r2⟩
  · skip
    obtain ⟨j, hj⟩ : ∃ j : Nat, k = (j : Int) := ⟨k.toNat, by omega⟩
    have hj2 : j / 4294967296 < 4294967296 := by omega
    subst hj
    skip
    skip
    skip
    go_enter Try.func25, Try.ntmps25
    go_wp2_with fail
    skip
    refine (ref_words (w := w.alloc (.cells #[.bool false, .slice none 0 0] 24)) j hj2).mono ?_
    rintro e w2 ⟨A2, c2, zs, rfl, ho2, hc2, hm2, ⟨hv2, hn2, hl2⟩, hext2⟩
    have Hv2 := Lib.hid hv2
    clear hv2
    go_wp2_with fail
    refine (ref_signed rfl ho2.rd hc2 hm2).mono ?_
    rintro e w3 ⟨b3, A3, c3, rs, rfl, hr3, hc3, hm3, hi3, hl3, hext3⟩
    have ext3 := hext2.trans hext3
    have bz := Box.new w 24 #[.bool false, .slice none 0 0]
    have bz3 := bz.ext ext3
    have z0 := bz3.cell 0 (.bool false) rfl
    have z1 := bz3.cell 1 (.slice none 0 0) rfl
    have f0 := bz3.frozen 0
    have f1 := bz3.frozen 1
    go_wp2_with fail
    obtain ⟨r1, r2, r3, r4⟩ := fin_pair (b := b3) (n := rs.length) (c := c3) (((Ext.refl w).alloc _).trans ext3) (Nat.le_refl _) bz3 hr3
    exact bodyPost_ret (v := .agg #[.bool b3, .slice A3 rs.length c3]) (by simp [results, Try.results25, go_sem, r3, r4]) rfl ⟨b3, A3, c3, rs, rfl, r1, hc3, hm3, by have h := Hv2.out; unfold ival at hi3; rw [h] at hi3; simpa using hi3, by omega, r2⟩
end
end Go.Proofs.Ytmjmcinnbmjpdaa
