/- Walks and laws, part 5. -/
import Derived.Test.YtmjmcinnbmjpdaaDoorMg4
import Derived.Lib.BitFns
import Derived.Lib.Tables
namespace Go.Proofs.YtmjmcinnbmjpdaaDoor
open Go.RowKit
theorem l56 (x : Nat) (h : 72057594037927936 ≤ x) (h2 : x < 18446744073709551616) : (Lib.bitLen x : Int) = 56 + (Lib.bitLen (x / 72057594037927936) : Int) ∧ Lib.bitLen (x / 72057594037927936) ≤ 8 := by
  have s := Lib.bitLen_shift56 x (by omega) (by omega)
  have l := Lib.bitLen_le8' ((x / 72057594037927936 : Nat) : Int) (by omega) (by omega)
  simp only [Int.toNat_natCast] at l
  omega
theorem tab_nat : ∀ n : Fin 256, (Lib.len8tab[n.val]'(by rw [Lib.len8tab_size]; exact n.2)).toNat = Lib.bitLen n.val := by decide +kernel
theorem tab_at (y : Int) (h : y.toNat < Lib.len8tab.size) : ((Lib.len8tab[y.toNat]'h).toNat : Int) = (Lib.bitLen y.toNat : Int) := by
  have hs := Lib.len8tab_size
  exact congrArg Int.ofNat (tab_nat ⟨y.toNat, by omega⟩)
theorem tab_sum (y : Int) (h : y.toNat < Lib.len8tab.size) (k : Int) (hk : 0 ≤ k ∧ k ≤ 56) (X : Nat) (hX : (Lib.bitLen X : Int) = k + (Lib.bitLen y.toNat : Int)) : wrap64 (k + wrap64 ((Lib.len8tab[y.toNat]'h).toNat : Int)) = (Lib.bitLen X : Int) := by
  have hs := Lib.len8tab_size
  have hl := Lib.bitLen_le8 ⟨y.toNat, by omega⟩
  rw [tab_at, hX]
  simp only at hl
  generalize Lib.bitLen y.toNat = l at *
  have e1 : wrap64 (l : Int) = l := IntWalk.wrap64_in _ (by omega)
  rw [e1]
  exact IntWalk.wrap64_in _ (by omega)
theorem sh8 (x : Nat) (h : 256 ≤ x) (hx : x < 18446744073709551616) : (Lib.bitLen x : Int) = 8 + (Lib.bitLen (x / 256) : Int) := by have := Lib.bitLen_shift8 x h hx; omega
theorem sh16 (x : Nat) (h : 65536 ≤ x) (hx : x < 18446744073709551616) : (Lib.bitLen x : Int) = 16 + (Lib.bitLen (x / 65536) : Int) := by have := Lib.bitLen_shift16 x h hx; omega
theorem sh24 (x : Nat) (h : 16777216 ≤ x) (hx : x < 18446744073709551616) : (Lib.bitLen x : Int) = 24 + (Lib.bitLen (x / 16777216) : Int) := by have := Lib.bitLen_shift24 x h hx; omega
theorem sh32 (x : Nat) (h : 4294967296 ≤ x) (hx : x < 18446744073709551616) : (Lib.bitLen x : Int) = 32 + (Lib.bitLen (x / 4294967296) : Int) := by have := Lib.bitLen_shift32 x h hx; omega
theorem sh40 (x : Nat) (h : 1099511627776 ≤ x) (hx : x < 18446744073709551616) : (Lib.bitLen x : Int) = 40 + (Lib.bitLen (x / 1099511627776) : Int) := by have := Lib.bitLen_shift40 x h hx; omega
theorem sh48 (x : Nat) (h : 281474976710656 ≤ x) (hx : x < 18446744073709551616) : (Lib.bitLen x : Int) = 48 + (Lib.bitLen (x / 281474976710656) : Int) := by have := Lib.bitLen_shift48 x h hx; omega
theorem sh56 (x : Nat) (h : 72057594037927936 ≤ x) (hx : x < 18446744073709551616) : (Lib.bitLen x : Int) = 56 + (Lib.bitLen (x / 72057594037927936) : Int) := by have := Lib.bitLen_shift56 x h hx; omega
set_option maxRecDepth 100000 in
set_option maxHeartbeats 4000000 in
theorem len32 (x : Int) (w : World) (h0 : 0 ≤ x) (h1 : x ≤ 4294967295) : Calls Tryd.prog 89 #[.int .u32 x] w fun e w' => e = .returned (.int .i64 (Lib.bitLen x.toNat)) ∧ w = w' := by
  have hs : (256 : Int) ≤ (Lib.len8tab.size : Int) := by rw [Lib.len8tab_size]; exact Int.le_refl _
  go_enter Tryd.func89, Tryd.ntmps89
  go_wp2
  all_goals go_ret
  all_goals (refine ⟨ret_int ?_, rfl⟩)
  · exact tab_sum _ _ 24 (by omega) _ (by rw [sh24 x.toNat (by omega) (by omega), show (x / 65536 / 256).toNat = x.toNat / 16777216 by omega])
  · exact tab_sum _ _ 16 (by omega) _ (by rw [sh16 x.toNat (by omega) (by omega), show (x / 65536).toNat = x.toNat / 65536 by omega])
  · exact tab_sum _ _ 8 (by omega) _ (by rw [sh8 x.toNat (by omega) (by omega), show (x / 256).toNat = x.toNat / 256 by omega])
  · have := tab_sum x (by omega) 0 (by omega) x.toNat (by omega)
    rwa [Int.zero_add] at this
set_option maxRecDepth 100000 in
set_option maxHeartbeats 4000000 in
theorem len64 (x : Int) (w : World) (h0 : 0 ≤ x) (h1 : x ≤ 18446744073709551615) : Calls Tryd.prog 90 #[.int .u64 x] w fun e w' => e = .returned (.int .i64 (Lib.bitLen x.toNat)) ∧ w = w' := by
  have hs : (256 : Int) ≤ (Lib.len8tab.size : Int) := by rw [Lib.len8tab_size]; exact Int.le_refl _
  go_enter Tryd.func90, Tryd.ntmps90
  go_wp2
  all_goals go_ret
  all_goals (refine ⟨ret_int ?_, rfl⟩)
  · exact tab_sum _ _ 56 (by omega) _ (by rw [sh56 x.toNat (by omega) (by omega), show (x / 4294967296 / 65536 / 256).toNat = x.toNat / 72057594037927936 by omega])
  · exact tab_sum _ _ 48 (by omega) _ (by rw [sh48 x.toNat (by omega) (by omega), show (x / 4294967296 / 65536).toNat = x.toNat / 281474976710656 by omega])
  · exact tab_sum _ _ 40 (by omega) _ (by rw [sh40 x.toNat (by omega) (by omega), show (x / 4294967296 / 256).toNat = x.toNat / 1099511627776 by omega])
  · exact tab_sum _ _ 32 (by omega) _ (by rw [sh32 x.toNat (by omega) (by omega), show (x / 4294967296).toNat = x.toNat / 4294967296 by omega])
  · exact tab_sum _ _ 24 (by omega) _ (by rw [sh24 x.toNat (by omega) (by omega), show (x / 65536 / 256).toNat = x.toNat / 16777216 by omega])
  · exact tab_sum _ _ 16 (by omega) _ (by rw [sh16 x.toNat (by omega) (by omega), show (x / 65536).toNat = x.toNat / 65536 by omega])
  · exact tab_sum _ _ 8 (by omega) _ (by rw [sh8 x.toNat (by omega) (by omega), show (x / 256).toNat = x.toNat / 256 by omega])
  · have := tab_sum x (by omega) 0 (by omega) x.toNat (by omega)
    rwa [Int.zero_add] at this
theorem lenU (x : Int) (w : World) (h0 : 0 ≤ x) (h1 : x ≤ 18446744073709551615) : Calls Tryd.prog 66 #[.int .u64 x] w fun e w' => e = .returned (.int .i64 (Lib.bitLen x.toNat)) ∧ w = w' := by
  have h1' := Lib.hid h1
  clear h1
  go_enter Tryd.func66, Tryd.ntmps66
  go_wp2_with (go_at_call 90; refine (len64 _ _ h0 h1'.out).mono ?_; rintro e w' ⟨rfl, rfl⟩)
  go_ret
  exact ⟨rfl, rfl⟩
theorem lz32 (x : Int) (w : World) (h0 : 0 ≤ x) (h1 : x ≤ 4294967295) : Calls Tryd.prog 77 #[.int .u32 x] w fun e w' => e = .returned (.int .i64 (32 - (Lib.bitLen x.toNat : Int))) ∧ w = w' := by
  have hb := Lib.bitLen_le x.toNat 32 (by omega) (by omega)
  go_enter Tryd.func77, Tryd.ntmps77
  go_wp2_with (go_at_call 89; refine (len32 _ _ h0 h1).mono ?_; rintro e w' ⟨rfl, rfl⟩)
  go_ret
  exact ⟨rfl, rfl⟩
end Go.Proofs.YtmjmcinnbmjpdaaDoor
namespace Go.Proofs.YtmjmcinnbmjpdaaDoor
open Go.RowKit
theorem val_pair (a b : Nat) : val [a, b] = a + 4294967296 * b := by simp [val]
theorem W32.pair {a b : Nat} (ha : a < 4294967296) (hb : b < 4294967296) : W32 [a, b] := W32.cons ha (W32.one hb)
theorem or_zero {a : Nat} (ha : a < 4294967296) : bits .or .u64 0 (a : Int) = (a : Int) := by
  have := u64_or_nat 0 a (by omega) (by omega)
  rw [Nat.zero_or] at this
  exact this
theorem or_high {a b : Nat} (ha : a < 4294967296) (hb : b < 4294967296) : bits .or .u64 (a : Int) ((b : Int) * 4294967296) = ((a + 4294967296 * b : Nat) : Int) := by
  have e : (b : Int) * 4294967296 = ((b * 4294967296 : Nat) : Int) := by rw [Int.natCast_mul]; rfl
  rw [e]
  rw [u64_or_nat a (b * 4294967296) (by omega) (by omega)]
  have := Nat.two_pow_add_eq_or_of_lt (i := 32) (show a < 2 ^ 32 by omega) b
  rw [Nat.or_comm, Nat.mul_comm b, Nat.add_comm a]
  exact congrArg Int.ofNat this.symm
section
variable {A B : Option Addr} {c d n m : Nat} {xs ys : List Nat} {w : World} {s t : Bool}
set_option maxHeartbeats 400000 in
theorem int_fromUint (x : Nat) (hx : x / 4294967296 < 4294967296) : Calls Tryd.prog 40 #[.int .u64 (x : Int)] w (RetN (fun zs => val zs = x ∧ Nrm zs ∧ zs.length ≤ 2) w) := by
  have hb := BlkN.lit w [x % 4294967296, x / 4294967296 % 4294967296] #[.int .u32 ((x : Int) % 4294967296), .int .u32 ((x : Int) / 4294967296 % 4294967296)] (by simp [Wd])
  have hw : W32 [x % 4294967296, x / 4294967296 % 4294967296] := W32.pair (by omega) (by omega)
  have Hx := Lib.hid hx
  clear hx
  have hext := (Ext.refl w).alloc (.cells #[.int .u32 ((x : Int) % 4294967296), .int .u32 ((x : Int) / 4294967296 % 4294967296)] 43)
  go_enter Tryd.func40, Tryd.ntmps40
  go_wp2_with fail
  refine (int_trimN (xs := [x % 4294967296, x / 4294967296 % 4294967296]) rfl (hb.rd0 hw) (Nat.le_refl _) (by simp [maxLen])).mono ?_
  rintro e w' ⟨rfl, rfl⟩
  go_wp2_with fail
  go_ret
  have hlen := trimL_len [x % 4294967296, x / 4294967296 % 4294967296]
  simp only [List.length_cons, List.length_nil] at hlen
  refine ⟨_, _, trimL [x % 4294967296, x / 4294967296 % 4294967296], rfl, ?_, by omega, by unfold maxLen; omega, ⟨by rw [val_trimL, val_pair]; have := Hx.out; omega, Nrm.trimL _, by omega⟩, hext⟩
  rw [trimL_take]
  exact (Own.of_blk hb hw (Nat.le_refl _)).take _
set_option maxHeartbeats 400000 in
theorem ref_words (x : Nat) (hx : x / 4294967296 < 4294967296) : Calls Tryd.prog 50 #[.int .u64 (x : Int)] w (RetN (fun zs => val zs = x ∧ Nrm zs ∧ zs.length ≤ 2) w) := by
  have hb := BlkN.lit w [x % 4294967296, x / 4294967296 % 4294967296] #[.int .u32 ((x : Int) % 4294967296), .int .u32 ((x : Int) / 4294967296 % 4294967296)] (by simp [Wd])
  have hw : W32 [x % 4294967296, x / 4294967296 % 4294967296] := W32.pair (by omega) (by omega)
  have Hx := Lib.hid hx
  clear hx
  have hext := (Ext.refl w).alloc (.cells #[.int .u32 ((x : Int) % 4294967296), .int .u32 ((x : Int) / 4294967296 % 4294967296)] 43)
  go_enter Tryd.func50, Tryd.ntmps50
  go_wp2_with fail
  refine (ref_trimN (xs := [x % 4294967296, x / 4294967296 % 4294967296]) rfl (hb.rd0 hw) (Nat.le_refl _) (by simp [maxLen])).mono ?_
  rintro e w' ⟨rfl, rfl⟩
  go_wp2_with fail
  go_ret
  have hlen := trimL_len [x % 4294967296, x / 4294967296 % 4294967296]
  simp only [List.length_cons, List.length_nil] at hlen
  refine ⟨_, _, trimL [x % 4294967296, x / 4294967296 % 4294967296], rfl, ?_, by omega, by unfold maxLen; omega, ⟨by rw [val_trimL, val_pair]; have := Hx.out; omega, Nrm.trimL _, by omega⟩, hext⟩
  rw [trimL_take]
  exact (Own.of_blk hb hw (Nat.le_refl _)).take _
set_option maxHeartbeats 400000 in
theorem int_toUint (hn : xs.length = n) (hx : Rd w A xs) (h2 : n ≤ 2) : Calls Tryd.prog 47 #[.slice A n c] w fun e w' => e = .returned (.int .u64 (val xs)) ∧ w = w' := by
  subst hn
  match xs, h2 with
  | [], _ =>
    go_enter Tryd.func47, Tryd.ntmps47
    go_wp2
    go_loop [3, 8] (fun v i => i = .int .i64 0 ∧ v = .int .u64 0) (fun _ _ => 0)
    case atStart => exact ⟨rfl, rfl⟩
    case round =>
      obtain ⟨rfl, rfl⟩ := hrel
      go_wp2
      go_ret
      exact ⟨rfl, rfl⟩
  | [a], _ =>
    obtain ⟨b, off, rfl, hb, hc⟩ := hx.2 (by simp)
    have hc0 := hc 0 (by simp)
    simp only [Nat.add_zero, List.getElem_cons_zero] at hc0
    have ha := hx.1 a (by simp)
    clear hc
    go_enter Tryd.func47, Tryd.ntmps47
    go_wp2
    go_loop [3, 8] (fun v i => (i = .int .i64 0 ∧ v = .int .u64 0) ∨ (i = .int .i64 1 ∧ v = .int .u64 (a : Int))) (fun _ i => 1 - (intOf i).toNat)
    case atStart => exact .inl ⟨rfl, rfl⟩
    case round =>
      rcases hrel with ⟨rfl, rfl⟩ | ⟨rfl, rfl⟩
      · go_wp2
        exact ⟨.inr ⟨rfl, congrArg (Value.int .u64) (or_zero ha)⟩, by simp [intOf]⟩
      · go_wp2
        go_ret
        exact ⟨by simp [val], rfl⟩
  | [a, a2], _ =>
    obtain ⟨b, off, rfl, hb, hc⟩ := hx.2 (by simp)
    have hc0 := hc 0 (by simp)
    have hc1 := hc 1 (by simp)
    simp only [Nat.add_zero, List.getElem_cons_zero, List.getElem_cons_succ] at hc0 hc1
    have ha := hx.1 a (by simp)
    have ha2 := hx.1 a2 (by simp)
    clear hc
    go_enter Tryd.func47, Tryd.ntmps47
    go_wp2
    go_loop [3, 8] (fun v i => (i = .int .i64 0 ∧ v = .int .u64 0) ∨ (i = .int .i64 1 ∧ v = .int .u64 (a : Int)) ∨ (i = .int .i64 2 ∧ v = .int .u64 (val [a, a2] : Nat))) (fun _ i => 2 - (intOf i).toNat)
    case atStart => exact .inl ⟨rfl, rfl⟩
    case round =>
      rcases hrel with ⟨rfl, rfl⟩ | ⟨rfl, rfl⟩ | ⟨rfl, rfl⟩
      · go_wp2
        exact ⟨.inr (.inl ⟨rfl, congrArg (Value.int .u64) (or_zero ha)⟩), by simp [intOf]⟩
      · go_wp2
        exact ⟨.inr (.inr ⟨rfl, congrArg (Value.int .u64) ((or_high ha ha2).trans (by rw [val_pair]))⟩), by simp [intOf]⟩
      · go_wp2
        go_ret
        exact ⟨rfl, rfl⟩

theorem neg_wrap {j : Nat} (hj : j ≤ 9223372036854775808) : IntKind.u64.wrap (-IntKind.u64.wrap (-(j : Int))) = (j : Int) := by
  rw [IntKind.wrap_u64, IntKind.wrap_u64]; omega
set_option maxHeartbeats 400000 in
theorem int_FromInt (k : Int) (h0 : -9223372036854775808 ≤ k) (h1 : k < 9223372036854775808) : Calls Tryd.prog 20 #[.int .i64 k] w (RetI k 2 w) := by
  by_cases hk : k < 0
  · skip
    obtain ⟨j, hj⟩ : ∃ j : Nat, k = -(j : Int) := ⟨k.natAbs, by omega⟩
    have hneg := neg_wrap (j := j) (by omega)
    have hj2 : j / 4294967296 < 4294967296 := by omega
    subst hj
    skip
    have Hneg := Lib.hid hneg
    clear hneg
    go_enter Tryd.func20, Tryd.ntmps20
    go_wp2_with fail
    rw [Hneg.out]
    refine (int_fromUint (w := w.alloc (.cells #[.bool false, .slice none 0 0] 24)) j hj2).mono ?_
    rintro e w2 ⟨A2, c2, zs, rfl, ho2, hc2, hm2, ⟨hv2, hn2, hl2⟩, hext2⟩
    have Hv2 := Lib.hid hv2
    clear hv2
    go_wp2_with fail
    refine (int_signed rfl ho2.rd hc2 hm2 hn2).mono ?_
    rintro e w3 ⟨b3, A3, c3, rs, rfl, hr3, hc3, hm3, hi3, hl3, hext3⟩
    have ext3 := hext2.trans hext3
    have bz := Box.new w 24 #[.bool false, .slice none 0 0]
    have bz3 := bz.ext ext3
    have z0 := bz3.cell 0 (.bool false) rfl
    have z1 := bz3.cell 1 (.slice none 0 0) rfl
    have f0 := bz3.frozen 0
    have f1 := bz3.frozen 1
    go_wp2_with fail
    obtain ⟨r1, r2, r3, r4⟩ := fin_pair (b := b3) (n := rs.length) (c := c3) (((Ext.refl w).alloc _).trans ext3) (Nat.le_refl _) bz3 hr3
    exact bodyPost_ret (v := .agg #[.bool b3, .slice A3 rs.length c3]) (by simp [results, Tryd.results20, go_sem, r3, r4]) rfl ⟨b3, A3, c3, rs, rfl, r1, hc3, hm3, by have h := Hv2.out; unfold ival at hi3; rw [h] at hi3; simpa using hi3, by omega, r2⟩
  · skip
    obtain ⟨j, hj⟩ : ∃ j : Nat, k = (j : Int) := ⟨k.toNat, by omega⟩
    have hj2 : j / 4294967296 < 4294967296 := by omega
    subst hj
    skip
    skip
    skip
    go_enter Tryd.func20, Tryd.ntmps20
    go_wp2_with fail
    skip
    refine (int_fromUint (w := w.alloc (.cells #[.bool false, .slice none 0 0] 24)) j hj2).mono ?_
    rintro e w2 ⟨A2, c2, zs, rfl, ho2, hc2, hm2, ⟨hv2, hn2, hl2⟩, hext2⟩
    have Hv2 := Lib.hid hv2
    clear hv2
    go_wp2_with fail
    refine (int_signed rfl ho2.rd hc2 hm2 hn2).mono ?_
    rintro e w3 ⟨b3, A3, c3, rs, rfl, hr3, hc3, hm3, hi3, hl3, hext3⟩
    have ext3 := hext2.trans hext3
    have bz := Box.new w 24 #[.bool false, .slice none 0 0]
    have bz3 := bz.ext ext3
    have z0 := bz3.cell 0 (.bool false) rfl
    have z1 := bz3.cell 1 (.slice none 0 0) rfl
    have f0 := bz3.frozen 0
    have f1 := bz3.frozen 1
    go_wp2_with fail
    obtain ⟨r1, r2, r3, r4⟩ := fin_pair (b := b3) (n := rs.length) (c := c3) (((Ext.refl w).alloc _).trans ext3) (Nat.le_refl _) bz3 hr3
    exact bodyPost_ret (v := .agg #[.bool b3, .slice A3 rs.length c3]) (by simp [results, Tryd.results20, go_sem, r3, r4]) rfl ⟨b3, A3, c3, rs, rfl, r1, hc3, hm3, by have h := Hv2.out; unfold ival at hi3; rw [h] at hi3; simpa using hi3, by omega, r2⟩
set_option maxHeartbeats 400000 in
theorem ref_FromInt (k : Int) (h0 : -9223372036854775808 ≤ k) (h1 : k < 9223372036854775808) : Calls Tryd.prog 33 #[.int .i64 k] w (RetI k 2 w) := by
  by_cases hk : k < 0
  · skip
    obtain ⟨j, hj⟩ : ∃ j : Nat, k = -(j : Int) := ⟨k.natAbs, by omega⟩
    have hneg := neg_wrap (j := j) (by omega)
    have hj2 : j / 4294967296 < 4294967296 := by omega
    subst hj
    skip
    have Hneg := Lib.hid hneg
    clear hneg
    go_enter Tryd.func33, Tryd.ntmps33
    go_wp2_with fail
    rw [Hneg.out]
    refine (ref_words (w := w.alloc (.cells #[.bool false, .slice none 0 0] 24)) j hj2).mono ?_
    rintro e w2 ⟨A2, c2, zs, rfl, ho2, hc2, hm2, ⟨hv2, hn2, hl2⟩, hext2⟩
    have Hv2 := Lib.hid hv2
    clear hv2
    go_wp2_with fail
    refine (ref_signed rfl ho2.rd hc2 hm2).mono ?_
    rintro e w3 ⟨b3, A3, c3, rs, rfl, hr3, hc3, hm3, hi3, hl3, hext3⟩
    have ext3 := hext2.trans hext3
    have bz := Box.new w 24 #[.bool false, .slice none 0 0]
    have bz3 := bz.ext ext3
    have z0 := bz3.cell 0 (.bool false) rfl
    have z1 := bz3.cell 1 (.slice none 0 0) rfl
    have f0 := bz3.frozen 0
    have f1 := bz3.frozen 1
    go_wp2_with fail
    obtain ⟨r1, r2, r3, r4⟩ := fin_pair (b := b3) (n := rs.length) (c := c3) (((Ext.refl w).alloc _).trans ext3) (Nat.le_refl _) bz3 hr3
    exact bodyPost_ret (v := .agg #[.bool b3, .slice A3 rs.length c3]) (by simp [results, Tryd.results33, go_sem, r3, r4]) rfl ⟨b3, A3, c3, rs, rfl, r1, hc3, hm3, by have h := Hv2.out; unfold ival at hi3; rw [h] at hi3; simpa using hi3, by omega, r2⟩
  · skip
    obtain ⟨j, hj⟩ : ∃ j : Nat, k = (j : Int) := ⟨k.toNat, by omega⟩
    have hj2 : j / 4294967296 < 4294967296 := by omega
    subst hj
    skip
    skip
    skip
    go_enter Tryd.func33, Tryd.ntmps33
    go_wp2_with fail
    skip
    refine (ref_words (w := w.alloc (.cells #[.bool false, .slice none 0 0] 24)) j hj2).mono ?_
    rintro e w2 ⟨A2, c2, zs, rfl, ho2, hc2, hm2, ⟨hv2, hn2, hl2⟩, hext2⟩
    have Hv2 := Lib.hid hv2
    clear hv2
    go_wp2_with fail
    refine (ref_signed rfl ho2.rd hc2 hm2).mono ?_
    rintro e w3 ⟨b3, A3, c3, rs, rfl, hr3, hc3, hm3, hi3, hl3, hext3⟩
    have ext3 := hext2.trans hext3
    have bz := Box.new w 24 #[.bool false, .slice none 0 0]
    have bz3 := bz.ext ext3
    have z0 := bz3.cell 0 (.bool false) rfl
    have z1 := bz3.cell 1 (.slice none 0 0) rfl
    have f0 := bz3.frozen 0
    have f1 := bz3.frozen 1
    go_wp2_with fail
    obtain ⟨r1, r2, r3, r4⟩ := fin_pair (b := b3) (n := rs.length) (c := c3) (((Ext.refl w).alloc _).trans ext3) (Nat.le_refl _) bz3 hr3
    exact bodyPost_ret (v := .agg #[.bool b3, .slice A3 rs.length c3]) (by simp [results, Tryd.results33, go_sem, r3, r4]) rfl ⟨b3, A3, c3, rs, rfl, r1, hc3, hm3, by have h := Hv2.out; unfold ival at hi3; rw [h] at hi3; simpa using hi3, by omega, r2⟩
end
end Go.Proofs.YtmjmcinnbmjpdaaDoor
namespace Go.Proofs.YtmjmcinnbmjpdaaDoor
open Go.RowKit
attribute [local go_sem ↓] Go.wp_at_zero Go.wp_at_succ
theorem ival_not (b : Bool) (xs : List Nat) : ival (!b) xs = -(ival b xs) := by cases b <;> simp [ival]
theorem IsInt.zero {z : Int} {b : Bool} {ys : List Nat} (h : IsInt z b ys) : ys = [] ↔ z = 0 := by
  have hz := h.nrm.zero
  have e := h.eq
  unfold ival at e
  constructor
  · intro h0
    have := hz.2 h0
    cases b <;> simp at e <;> omega
  · intro h0
    refine hz.1 ?_
    cases b <;> simp at e <;> omega
theorem IsInt.neg {z : Int} {b : Bool} {ys : List Nat} (h : IsInt z b ys) : b = decide (z < 0) := by
  have hz := h.nrm.zero
  have e := h.eq
  unfold ival at e
  cases b with
  | false => simp at e; rw [eq_comm, decide_eq_false_iff_not]; omega
  | true =>
    have : ys ≠ [] := fun h0 => by have := h.sgn h0; cases this
    have : val ys ≠ 0 := fun h0 => this (hz.1 h0)
    simp at e; rw [eq_comm, decide_eq_true_iff]; omega
theorem ival_sign (s : Bool) (xs : List Nat) : (ival s xs).sign = if trimL xs = [] then 0 else if s = true then -1 else 1 := by
  have hz := (Nrm.trimL xs).zero
  rw [val_trimL] at hz
  by_cases h : trimL xs = []
  · have := hz.2 h
    rw [if_pos h]
    unfold ival
    cases s <;> simp [this]
  · have : val xs ≠ 0 := fun h0 => h (hz.1 h0)
    rw [if_neg h]
    unfold ival
    cases s
    · simp; omega
    · simp; omega
section
variable {A B : Option Addr} {c d n m : Nat} {xs ys : List Nat} {w : World} {s t : Bool}
set_option maxHeartbeats 1000000 in
theorem ref_Norm (hn : xs.length = n) (hx : Rd w A xs) (hc : n ≤ c) (hcm : c ≤ maxLen) (_h1 : n ≤ 100000) :
    Calls Tryd.prog 18 #[.agg #[.bool s, .slice A n c]] w (RetI (ival s xs) xs.length w) := by
  have Hn := Lib.hid hn
  clear hn
  have lx := trimL_len xs
  have hxt : Rd w A (trimL xs) := by rw [trimL_take]; exact hx.take _
  go_enter Tryd.func18, Tryd.ntmps18
  go_upto_region 1 with (fail)
  obtain ⟨W, hW, extW, bx, bz, hz⟩ := box2 w 24 24 #[.bool s, .slice A n c] #[.bool false, .slice none 0 0]
  rw [← hW]
  clear hW
  have x0 := bx.cell 0 (.bool s) rfl
  have x1 := bx.cell 1 (.slice A n c) rfl
  go_wp2_with (go_at_call 22; refine (ref_signed Hn.out (hx.ext extW) hc hcm).mono ?_; rintro e w3 ⟨b3, A3, c3, rs, rfl, hr3, hc3, hm3, hi3, hl3, hext3⟩; have ext3 := hext3; have bz3 := bz.ext ext3; have z0 := bz3.cell 0 (.bool false) rfl; have z1 := bz3.cell 1 (.slice none 0 0) rfl; have f0 := bz3.frozen 0; have f1 := bz3.frozen 1)
  go_wp2_with fail
  obtain ⟨r1, r2, r3, r4⟩ := fin_pair (b := b3) (n := rs.length) (c := c3) (extW.trans ext3) (by omega) bz3 hr3
  exact bodyPost_ret (v := .agg #[.bool b3, .slice A3 rs.length c3]) (by simp [results, Tryd.results18, go_sem, r3, r4]) rfl ⟨b3, A3, c3, rs, rfl, r1, hc3, hm3, hi3, by omega, r2⟩

set_option maxHeartbeats 1000000 in
theorem int_Sign (hn : xs.length = n) (hx : Rd w A xs) (hc : n ≤ c) (hcm : c ≤ maxLen) (_h1 : n ≤ 100000) :
    Calls Tryd.prog 41 #[.agg #[.bool s, .slice A n c]] w fun e w' => e = .returned (.int .i64 (ival s xs).sign) ∧ Ext w w' := by
  have Hn := Lib.hid hn
  clear hn
  have lx := trimL_len xs
  have hxt : Rd w A (trimL xs) := by rw [trimL_take]; exact hx.take _
  have hsg := Lib.hid (ival_sign s xs)
  by_cases h0 : trimL xs = []
  · have hl : (trimL xs).length = 0 := by rw [h0]; rfl
    have ht : (((trimL xs).length : Int) == 0) = true := by rw [beq_iff_eq]; omega
    have H0 := Lib.hid h0
    clear h0 hl
    go_enter Tryd.func41, Tryd.ntmps41
    go_upto_region 1 with (fail)
    obtain ⟨W, hW, extW, bx, hz⟩ := box1 w 24 #[.bool s, .slice A n c]
    rw [← hW]
    clear hW
    have x0 := bx.cell 0 (.bool s) rfl
    have x1 := bx.cell 1 (.slice A n c) rfl
    go_wp2_with (go_at_call 26; refine (int_trimN Hn.out (hx.ext extW) hc hcm).mono ?_; rintro e w1 ⟨rfl, rfl⟩)
    go_ret
    exact ⟨ret_int (by rw [hsg.out, if_pos H0.out]), extW⟩
  · have hl : (trimL xs).length ≠ 0 := fun h => h0 (List.eq_nil_of_length_eq_zero h)
    have ht : (((trimL xs).length : Int) == 0) = false := by rw [beq_eq_false_iff_ne]; omega
    have H0 := Lib.hid h0
    clear h0 hl
    cases s
    all_goals
      go_enter Tryd.func41, Tryd.ntmps41
      go_upto_region 1 with (fail)
      obtain ⟨W, hW, extW, bx, hz⟩ := box1 w 24 #[.bool _, .slice A n c]
      rw [← hW]
      clear hW
      have x0 := bx.cell 0 (.bool _) rfl
      have x1 := bx.cell 1 (.slice A n c) rfl
      go_wp2_with (go_at_call 26; refine (int_trimN Hn.out (hx.ext extW) hc hcm).mono ?_; rintro e w1 ⟨rfl, rfl⟩)
      go_ret
      exact ⟨ret_int (by rw [hsg.out, if_neg H0.out]; rfl), extW⟩

end
end Go.Proofs.YtmjmcinnbmjpdaaDoor
