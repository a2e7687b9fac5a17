/- Walks and laws, part 4. -/
import Derived.Test.YtmjmcinnbmjpdaaDoorMt3
import Derived.Deep.RegionHeld3
import Derived.Deep.DrawnRows
import Derived.Deep.RegionWith
import Derived.Deep.CutBlock
import Derived.Lib.BitFns
import Derived.Lib.Tables
namespace Go.Proofs.YtmjmcinnbmjpdaaDoor
open Go.RowKit
def ival (b : Bool) (xs : List Nat) : Int := if b then -(val xs : Int) else (val xs : Int)
/-- (b, ys) is the normal form of z. -/
structure IsInt (z : Int) (b : Bool) (ys : List Nat) : Prop where
  w32 : W32 ys
  nrm : Nrm ys
  sgn : ys = [] → b = false
  eq : ival b ys = z
theorem IsInt.unique {z : Int} {b b' : Bool} {ys ys' : List Nat} (h : IsInt z b ys) (k : IsInt z b' ys') : b = b' ∧ ys = ys' := by
  have e := h.eq.trans k.eq.symm
  have hz := h.nrm.zero
  have kz := k.nrm.zero
  unfold ival at e
  have hv : val ys = val ys' := by
    cases b <;> cases b' <;> simp at e <;> omega
  have hys := nrm_inj h.w32 k.w32 h.nrm k.nrm hv
  refine ⟨?_, hys⟩
  subst hys
  by_cases h0 : ys = []
  · rw [h.sgn h0, k.sgn h0]
  · have : val ys ≠ 0 := fun hh => h0 (hz.1 hh)
    cases b <;> cases b' <;> simp at e <;> first | rfl | omega
theorem IsInt.mk' {b : Bool} {ys : List Nat} (hw : W32 ys) (hn : Nrm ys) : IsInt (ival b ys) (b && !ys.isEmpty) ys := by
  refine ⟨hw, hn, ?_, ?_⟩
  · rintro rfl; simp
  · cases ys with
    | nil => cases b <;> simp [ival, val]
    | cons y ys => simp
theorem ival_trim (b : Bool) (xs : List Nat) : ival b (trimL xs) = ival b xs := by unfold ival; rw [val_trimL]
/-- the result is the integer z, in normal form. -/
def RetI (z : Int) (len : Nat) (w : World) (e : Ending) (w' : World) : Prop :=
  ∃ b A c ys, e = .returned (.agg #[.bool b, .slice A ys.length c]) ∧ Rd w' A ys ∧ ys.length ≤ c ∧ c ≤ maxLen ∧ IsInt z b ys ∧ ys.length ≤ len ∧ Ext w w'
section
variable {A B : Option Addr} {c d n m : Nat} {xs ys : List Nat} {w : World} {s t : Bool}
theorem IsInt.nil (s : Bool) : IsInt (ival s []) false [] := ⟨W32.nil, Nrm.nil, fun _ => rfl, by cases s <;> rfl⟩
theorem IsInt.pos {s : Bool} {xs : List Nat} (hw : W32 xs) (hn : Nrm xs) (h : xs ≠ []) : IsInt (ival s xs) s xs := ⟨hw, hn, fun h0 => absurd h0 h, rfl⟩
attribute [local go_sem ↓] Go.wp_at_zero Go.wp_at_succ
set_option maxHeartbeats 400000 in
theorem int_signed (hn : xs.length = n) (hx : Rd w A xs) (hc : n ≤ c) (hcm : c ≤ maxLen) (hnr : Nrm xs) :
    Calls Tryd.prog 24 #[.bool s, .slice A n c] w (RetI (ival s xs) xs.length w) := by
  by_cases h0 : xs = []
  · subst h0
    simp only [List.length_nil] at hn
    subst hn
    go_enter Tryd.func24, Tryd.ntmps24
    go_wp2
    exact bodyPost_ret (v := .agg #[.bool false, .slice none 0 0]) (by simp [results, Tryd.results24, go_sem]) rfl ⟨false, none, 0, [], rfl, Rd.nil _ _, by simp, by unfold maxLen; omega, IsInt.nil s, by simp, (Ext.refl w).alloc _⟩
  · have hl : 0 < xs.length := List.length_pos_iff.2 h0
    have ht : ((n : Int) == 0) = false := by rw [beq_eq_false_iff_ne]; omega
    have Hn := Lib.hid hn
    have H0 := Lib.hid h0
    clear hn h0 hl
    go_enter Tryd.func24, Tryd.ntmps24
    go_wp2
    refine bodyPost_ret (v := .agg #[.bool s, .slice A n c]) (by simp [results, Tryd.results24, go_sem]) rfl ?_
    have hn := Hn.out
    subst hn
    exact ⟨s, A, c, xs, rfl, hx.ext ((Ext.refl w).alloc _), hc, hcm, IsInt.pos hx.1 hnr H0.out, Nat.le_refl _, (Ext.refl w).alloc _⟩

set_option maxHeartbeats 400000 in
theorem ref_signed (hn : xs.length = n) (hx : Rd w A xs) (hc : n ≤ c) (hcm : c ≤ maxLen) :
    Calls Tryd.prog 22 #[.bool s, .slice A n c] w (RetI (ival s xs) xs.length w) := by
  have hlen := trimL_len xs
  have Hn := Lib.hid hn
  clear hn
  have hx1 := hx.ext ((Ext.refl w).alloc (.cells #[.bool false, .slice none 0 0] 24))
  have key : IsInt (ival s xs) (s && !(trimL xs).isEmpty) (trimL xs) := by rw [← ival_trim]; exact IsInt.mk' hx.1.trimL (Nrm.trimL xs)
  have Key := Lib.hid key
  clear key
  cases s with
  | false =>
    go_enter Tryd.func22, Tryd.ntmps22
    go_wp2_with (go_at_call 28; refine (ref_trimN Hn.out hx1 hc hcm).mono ?_; rintro e w1 ⟨rfl, rfl⟩)
    exact bodyPost_ret (v := .agg #[.bool false, .slice A (trimL xs).length c]) (by simp [results, Tryd.results22, go_sem]) rfl ⟨false, A, c, trimL xs, rfl, by rw [trimL_take]; exact (hx.take _).ext ((Ext.refl w).alloc _), by have := Hn.out; omega, hcm, by simpa using Key.out, hlen, (Ext.refl w).alloc _⟩
  | true =>
    by_cases h0 : 0 < (trimL xs).length
    · have hd : decide ((0 : Int) < (trimL xs).length) = true := decide_eq_true (by omega)
      have hd2 : decide (0 < (trimL xs).length) = true := decide_eq_true (by omega)
      go_enter Tryd.func22, Tryd.ntmps22
      go_wp2_with (go_at_call 28; refine (ref_trimN Hn.out hx1 hc hcm).mono ?_; rintro e w1 ⟨rfl, rfl⟩)
      refine bodyPost_ret (v := .agg #[.bool true, .slice A (trimL xs).length c]) (by simp [results, Tryd.results22, go_sem]) rfl ⟨true, A, c, trimL xs, rfl, by rw [trimL_take]; exact (hx.take _).ext ((Ext.refl w).alloc _), by have := Hn.out; omega, hcm, ?_, hlen, (Ext.refl w).alloc _⟩
      have hk := Key.out
      have he : (true && !(trimL xs).isEmpty) = true := by
        cases h : trimL xs with
        | nil => rw [h] at h0; simp at h0
        | cons => rfl
      rwa [he] at hk
    · have hd : decide ((0 : Int) < (trimL xs).length) = false := decide_eq_false (by omega)
      have hd2 : decide (0 < (trimL xs).length) = false := decide_eq_false (by omega)
      go_enter Tryd.func22, Tryd.ntmps22
      go_wp2_with (go_at_call 28; refine (ref_trimN Hn.out hx1 hc hcm).mono ?_; rintro e w1 ⟨rfl, rfl⟩)
      refine bodyPost_ret (v := .agg #[.bool false, .slice A (trimL xs).length c]) (by simp [results, Tryd.results22, go_sem]) rfl ⟨false, A, c, trimL xs, rfl, by rw [trimL_take]; exact (hx.take _).ext ((Ext.refl w).alloc _), by have := Hn.out; omega, hcm, ?_, hlen, (Ext.refl w).alloc _⟩
      have hk := Key.out
      have he : (true && !(trimL xs).isEmpty) = false := by
        have : trimL xs = [] := List.eq_nil_of_length_eq_zero (by omega)
        rw [this]; rfl
      rwa [he] at hk

end
end Go.Proofs.YtmjmcinnbmjpdaaDoor
namespace Go.Proofs.YtmjmcinnbmjpdaaDoor
open Go.RowKit
theorem l56 (x : Nat) (h : 72057594037927936 ≤ x) (h2 : x < 18446744073709551616) : (Lib.bitLen x : Int) = 56 + (Lib.bitLen (x / 72057594037927936) : Int) ∧ Lib.bitLen (x / 72057594037927936) ≤ 8 := by
  have s := Lib.bitLen_shift56 x (by omega) (by omega)
  have l := Lib.bitLen_le8' ((x / 72057594037927936 : Nat) : Int) (by omega) (by omega)
  simp only [Int.toNat_natCast] at l
  omega
theorem tab_nat : ∀ n : Fin 256, (Lib.len8tab[n.val]'(by rw [Lib.len8tab_size]; exact n.2)).toNat = Lib.bitLen n.val := by decide +kernel
theorem tab_at (y : Int) (h : y.toNat < Lib.len8tab.size) : ((Lib.len8tab[y.toNat]'h).toNat : Int) = (Lib.bitLen y.toNat : Int) := by
  have hs := Lib.len8tab_size
  exact congrArg Int.ofNat (tab_nat ⟨y.toNat, by omega⟩)
theorem tab_sum (y : Int) (h : y.toNat < Lib.len8tab.size) (k : Int) (hk : 0 ≤ k ∧ k ≤ 56) (X : Nat) (hX : (Lib.bitLen X : Int) = k + (Lib.bitLen y.toNat : Int)) : wrap64 (k + wrap64 ((Lib.len8tab[y.toNat]'h).toNat : Int)) = (Lib.bitLen X : Int) := by
  have hs := Lib.len8tab_size
  have hl := Lib.bitLen_le8 ⟨y.toNat, by omega⟩
  rw [tab_at, hX]
  simp only at hl
  generalize Lib.bitLen y.toNat = l at *
  have e1 : wrap64 (l : Int) = l := IntWalk.wrap64_in _ (by omega)
  rw [e1]
  exact IntWalk.wrap64_in _ (by omega)
theorem sh8 (x : Nat) (h : 256 ≤ x) (hx : x < 18446744073709551616) : (Lib.bitLen x : Int) = 8 + (Lib.bitLen (x / 256) : Int) := by have := Lib.bitLen_shift8 x h hx; omega
theorem sh16 (x : Nat) (h : 65536 ≤ x) (hx : x < 18446744073709551616) : (Lib.bitLen x : Int) = 16 + (Lib.bitLen (x / 65536) : Int) := by have := Lib.bitLen_shift16 x h hx; omega
theorem sh24 (x : Nat) (h : 16777216 ≤ x) (hx : x < 18446744073709551616) : (Lib.bitLen x : Int) = 24 + (Lib.bitLen (x / 16777216) : Int) := by have := Lib.bitLen_shift24 x h hx; omega
theorem sh32 (x : Nat) (h : 4294967296 ≤ x) (hx : x < 18446744073709551616) : (Lib.bitLen x : Int) = 32 + (Lib.bitLen (x / 4294967296) : Int) := by have := Lib.bitLen_shift32 x h hx; omega
theorem sh40 (x : Nat) (h : 1099511627776 ≤ x) (hx : x < 18446744073709551616) : (Lib.bitLen x : Int) = 40 + (Lib.bitLen (x / 1099511627776) : Int) := by have := Lib.bitLen_shift40 x h hx; omega
theorem sh48 (x : Nat) (h : 281474976710656 ≤ x) (hx : x < 18446744073709551616) : (Lib.bitLen x : Int) = 48 + (Lib.bitLen (x / 281474976710656) : Int) := by have := Lib.bitLen_shift48 x h hx; omega
theorem sh56 (x : Nat) (h : 72057594037927936 ≤ x) (hx : x < 18446744073709551616) : (Lib.bitLen x : Int) = 56 + (Lib.bitLen (x / 72057594037927936) : Int) := by have := Lib.bitLen_shift56 x h hx; omega
set_option maxRecDepth 100000 in
set_option maxHeartbeats 4000000 in
theorem len32 (x : Int) (w : World) (h0 : 0 ≤ x) (h1 : x ≤ 4294967295) : Calls Tryd.prog 89 #[.int .u32 x] w fun e w' => e = .returned (.int .i64 (Lib.bitLen x.toNat)) ∧ w = w' := by
  have hs : (256 : Int) ≤ (Lib.len8tab.size : Int) := by rw [Lib.len8tab_size]; exact Int.le_refl _
  go_enter Tryd.func89, Tryd.ntmps89
  go_wp2
  all_goals go_ret
  all_goals (refine ⟨ret_int ?_, rfl⟩)
  · exact tab_sum _ _ 24 (by omega) _ (by rw [sh24 x.toNat (by omega) (by omega), show (x / 65536 / 256).toNat = x.toNat / 16777216 by omega])
  · exact tab_sum _ _ 16 (by omega) _ (by rw [sh16 x.toNat (by omega) (by omega), show (x / 65536).toNat = x.toNat / 65536 by omega])
  · exact tab_sum _ _ 8 (by omega) _ (by rw [sh8 x.toNat (by omega) (by omega), show (x / 256).toNat = x.toNat / 256 by omega])
  · have := tab_sum x (by omega) 0 (by omega) x.toNat (by omega)
    rwa [Int.zero_add] at this
set_option maxRecDepth 100000 in
set_option maxHeartbeats 4000000 in
theorem len64 (x : Int) (w : World) (h0 : 0 ≤ x) (h1 : x ≤ 18446744073709551615) : Calls Tryd.prog 90 #[.int .u64 x] w fun e w' => e = .returned (.int .i64 (Lib.bitLen x.toNat)) ∧ w = w' := by
  have hs : (256 : Int) ≤ (Lib.len8tab.size : Int) := by rw [Lib.len8tab_size]; exact Int.le_refl _
  go_enter Tryd.func90, Tryd.ntmps90
  go_wp2
  all_goals go_ret
  all_goals (refine ⟨ret_int ?_, rfl⟩)
  · exact tab_sum _ _ 56 (by omega) _ (by rw [sh56 x.toNat (by omega) (by omega), show (x / 4294967296 / 65536 / 256).toNat = x.toNat / 72057594037927936 by omega])
  · exact tab_sum _ _ 48 (by omega) _ (by rw [sh48 x.toNat (by omega) (by omega), show (x / 4294967296 / 65536).toNat = x.toNat / 281474976710656 by omega])
  · exact tab_sum _ _ 40 (by omega) _ (by rw [sh40 x.toNat (by omega) (by omega), show (x / 4294967296 / 256).toNat = x.toNat / 1099511627776 by omega])
  · exact tab_sum _ _ 32 (by omega) _ (by rw [sh32 x.toNat (by omega) (by omega), show (x / 4294967296).toNat = x.toNat / 4294967296 by omega])
  · exact tab_sum _ _ 24 (by omega) _ (by rw [sh24 x.toNat (by omega) (by omega), show (x / 65536 / 256).toNat = x.toNat / 16777216 by omega])
  · exact tab_sum _ _ 16 (by omega) _ (by rw [sh16 x.toNat (by omega) (by omega), show (x / 65536).toNat = x.toNat / 65536 by omega])
  · exact tab_sum _ _ 8 (by omega) _ (by rw [sh8 x.toNat (by omega) (by omega), show (x / 256).toNat = x.toNat / 256 by omega])
  · have := tab_sum x (by omega) 0 (by omega) x.toNat (by omega)
    rwa [Int.zero_add] at this
theorem lenU (x : Int) (w : World) (h0 : 0 ≤ x) (h1 : x ≤ 18446744073709551615) : Calls Tryd.prog 66 #[.int .u64 x] w fun e w' => e = .returned (.int .i64 (Lib.bitLen x.toNat)) ∧ w = w' := by
  have h1' := Lib.hid h1
  clear h1
  go_enter Tryd.func66, Tryd.ntmps66
  go_wp2_with (go_at_call 90; refine (len64 _ _ h0 h1'.out).mono ?_; rintro e w' ⟨rfl, rfl⟩)
  go_ret
  exact ⟨rfl, rfl⟩
theorem lz32 (x : Int) (w : World) (h0 : 0 ≤ x) (h1 : x ≤ 4294967295) : Calls Tryd.prog 77 #[.int .u32 x] w fun e w' => e = .returned (.int .i64 (32 - (Lib.bitLen x.toNat : Int))) ∧ w = w' := by
  have hb := Lib.bitLen_le x.toNat 32 (by omega) (by omega)
  go_enter Tryd.func77, Tryd.ntmps77
  go_wp2_with (go_at_call 89; refine (len32 _ _ h0 h1).mono ?_; rintro e w' ⟨rfl, rfl⟩)
  go_ret
  exact ⟨rfl, rfl⟩
end Go.Proofs.YtmjmcinnbmjpdaaDoor
namespace Go.Proofs.YtmjmcinnbmjpdaaDoor
open Go.RowKit
theorem val_pair (a b : Nat) : val [a, b] = a + 4294967296 * b := by simp [val]
theorem W32.pair {a b : Nat} (ha : a < 4294967296) (hb : b < 4294967296) : W32 [a, b] := W32.cons ha (W32.one hb)
theorem or_zero {a : Nat} (ha : a < 4294967296) : bits .or .u64 0 (a : Int) = (a : Int) := by
  have := u64_or_nat 0 a (by omega) (by omega)
  rw [Nat.zero_or] at this
  exact this
theorem or_high {a b : Nat} (ha : a < 4294967296) (hb : b < 4294967296) : bits .or .u64 (a : Int) ((b : Int) * 4294967296) = ((a + 4294967296 * b : Nat) : Int) := by
  have e : (b : Int) * 4294967296 = ((b * 4294967296 : Nat) : Int) := by rw [Int.natCast_mul]; rfl
  rw [e]
  rw [u64_or_nat a (b * 4294967296) (by omega) (by omega)]
  have := Nat.two_pow_add_eq_or_of_lt (i := 32) (show a < 2 ^ 32 by omega) b
  rw [Nat.or_comm, Nat.mul_comm b, Nat.add_comm a]
  exact congrArg Int.ofNat this.symm
section
variable {A B : Option Addr} {c d n m : Nat} {xs ys : List Nat} {w : World} {s t : Bool}
set_option maxHeartbeats 400000 in
theorem int_fromUint (x : Nat) (hx : x / 4294967296 < 4294967296) : Calls Tryd.prog 40 #[.int .u64 (x : Int)] w (RetN (fun zs => val zs = x ∧ Nrm zs ∧ zs.length ≤ 2) w) := by
  have hb := BlkN.lit w [x % 4294967296, x / 4294967296 % 4294967296] #[.int .u32 ((x : Int) % 4294967296), .int .u32 ((x : Int) / 4294967296 % 4294967296)] (by simp [Wd])
  have hw : W32 [x % 4294967296, x / 4294967296 % 4294967296] := W32.pair (by omega) (by omega)
  have Hx := Lib.hid hx
  clear hx
  have hext := (Ext.refl w).alloc (.cells #[.int .u32 ((x : Int) % 4294967296), .int .u32 ((x : Int) / 4294967296 % 4294967296)] 43)
  go_enter Tryd.func40, Tryd.ntmps40
  go_wp2_with fail
  refine (int_trimN (xs := [x % 4294967296, x / 4294967296 % 4294967296]) rfl (hb.rd0 hw) (Nat.le_refl _) (by simp [maxLen])).mono ?_
  rintro e w' ⟨rfl, rfl⟩
  go_wp2_with fail
  go_ret
  have hlen := trimL_len [x % 4294967296, x / 4294967296 % 4294967296]
  simp only [List.length_cons, List.length_nil] at hlen
  refine ⟨_, _, trimL [x % 4294967296, x / 4294967296 % 4294967296], rfl, ?_, by omega, by unfold maxLen; omega, ⟨by rw [val_trimL, val_pair]; have := Hx.out; omega, Nrm.trimL _, by omega⟩, hext⟩
  rw [trimL_take]
  exact (Own.of_blk hb hw (Nat.le_refl _)).take _
set_option maxHeartbeats 400000 in
theorem ref_words (x : Nat) (hx : x / 4294967296 < 4294967296) : Calls Tryd.prog 50 #[.int .u64 (x : Int)] w (RetN (fun zs => val zs = x ∧ Nrm zs ∧ zs.length ≤ 2) w) := by
  have hb := BlkN.lit w [x % 4294967296, x / 4294967296 % 4294967296] #[.int .u32 ((x : Int) % 4294967296), .int .u32 ((x : Int) / 4294967296 % 4294967296)] (by simp [Wd])
  have hw : W32 [x % 4294967296, x / 4294967296 % 4294967296] := W32.pair (by omega) (by omega)
  have Hx := Lib.hid hx
  clear hx
  have hext := (Ext.refl w).alloc (.cells #[.int .u32 ((x : Int) % 4294967296), .int .u32 ((x : Int) / 4294967296 % 4294967296)] 43)
  go_enter Tryd.func50, Tryd.ntmps50
  go_wp2_with fail
  refine (ref_trimN (xs := [x % 4294967296, x / 4294967296 % 4294967296]) rfl (hb.rd0 hw) (Nat.le_refl _) (by simp [maxLen])).mono ?_
  rintro e w' ⟨rfl, rfl⟩
  go_wp2_with fail
  go_ret
  have hlen := trimL_len [x % 4294967296, x / 4294967296 % 4294967296]
  simp only [List.length_cons, List.length_nil] at hlen
  refine ⟨_, _, trimL [x % 4294967296, x / 4294967296 % 4294967296], rfl, ?_, by omega, by unfold maxLen; omega, ⟨by rw [val_trimL, val_pair]; have := Hx.out; omega, Nrm.trimL _, by omega⟩, hext⟩
  rw [trimL_take]
  exact (Own.of_blk hb hw (Nat.le_refl _)).take _
set_option maxHeartbeats 400000 in
theorem int_toUint (hn : xs.length = n) (hx : Rd w A xs) (h2 : n ≤ 2) : Calls Tryd.prog 47 #[.slice A n c] w fun e w' => e = .returned (.int .u64 (val xs)) ∧ w = w' := by
  subst hn
  match xs, h2 with
  | [], _ =>
    go_enter Tryd.func47, Tryd.ntmps47
    go_wp2
    go_loop [3, 8] (fun v i => i = .int .i64 0 ∧ v = .int .u64 0) (fun _ _ => 0)
    case atStart => exact ⟨rfl, rfl⟩
    case round =>
      obtain ⟨rfl, rfl⟩ := hrel
      go_wp2
      go_ret
      exact ⟨rfl, rfl⟩
  | [a], _ =>
    obtain ⟨b, off, rfl, hb, hc⟩ := hx.2 (by simp)
    have hc0 := hc 0 (by simp)
    simp only [Nat.add_zero, List.getElem_cons_zero] at hc0
    have ha := hx.1 a (by simp)
    clear hc
    go_enter Tryd.func47, Tryd.ntmps47
    go_wp2
    go_loop [3, 8] (fun v i => (i = .int .i64 0 ∧ v = .int .u64 0) ∨ (i = .int .i64 1 ∧ v = .int .u64 (a : Int))) (fun _ i => 1 - (intOf i).toNat)
    case atStart => exact .inl ⟨rfl, rfl⟩
    case round =>
      rcases hrel with ⟨rfl, rfl⟩ | ⟨rfl, rfl⟩
      · go_wp2
        exact ⟨.inr ⟨rfl, congrArg (Value.int .u64) (or_zero ha)⟩, by simp [intOf]⟩
      · go_wp2
        go_ret
        exact ⟨by simp [val], rfl⟩
  | [a, a2], _ =>
    obtain ⟨b, off, rfl, hb, hc⟩ := hx.2 (by simp)
    have hc0 := hc 0 (by simp)
    have hc1 := hc 1 (by simp)
    simp only [Nat.add_zero, List.getElem_cons_zero, List.getElem_cons_succ] at hc0 hc1
    have ha := hx.1 a (by simp)
    have ha2 := hx.1 a2 (by simp)
    clear hc
    go_enter Tryd.func47, Tryd.ntmps47
    go_wp2
    go_loop [3, 8] (fun v i => (i = .int .i64 0 ∧ v = .int .u64 0) ∨ (i = .int .i64 1 ∧ v = .int .u64 (a : Int)) ∨ (i = .int .i64 2 ∧ v = .int .u64 (val [a, a2] : Nat))) (fun _ i => 2 - (intOf i).toNat)
    case atStart => exact .inl ⟨rfl, rfl⟩
    case round =>
      rcases hrel with ⟨rfl, rfl⟩ | ⟨rfl, rfl⟩ | ⟨rfl, rfl⟩
      · go_wp2
        exact ⟨.inr (.inl ⟨rfl, congrArg (Value.int .u64) (or_zero ha)⟩), by simp [intOf]⟩
      · go_wp2
        exact ⟨.inr (.inr ⟨rfl, congrArg (Value.int .u64) ((or_high ha ha2).trans (by rw [val_pair]))⟩), by simp [intOf]⟩
      · go_wp2
        go_ret
        exact ⟨rfl, rfl⟩

theorem neg_wrap {j : Nat} (hj : j ≤ 9223372036854775808) : IntKind.u64.wrap (-IntKind.u64.wrap (-(j : Int))) = (j : Int) := by
  rw [IntKind.wrap_u64, IntKind.wrap_u64]; omega
set_option maxHeartbeats 400000 in
theorem int_FromInt (k : Int) (h0 : -9223372036854775808 ≤ k) (h1 : k < 9223372036854775808) : Calls Tryd.prog 20 #[.int .i64 k] w (RetI k 2 w) := by
  by_cases hk : k < 0
  · skip
    obtain ⟨j, hj⟩ : ∃ j : Nat, k = -(j : Int) := ⟨k.natAbs, by omega⟩
    have hneg := neg_wrap (j := j) (by omega)
    have hj2 : j / 4294967296 < 4294967296 := by omega
    subst hj
    skip
    have Hneg := Lib.hid hneg
    clear hneg
    go_enter Tryd.func20, Tryd.ntmps20
    go_wp2_with fail
    rw [Hneg.out]
    refine (int_fromUint (w := w.alloc (.cells #[.bool false, .slice none 0 0] 24)) j hj2).mono ?_
    rintro e w2 ⟨A2, c2, zs, rfl, ho2, hc2, hm2, ⟨hv2, hn2, hl2⟩, hext2⟩
    have Hv2 := Lib.hid hv2
    clear hv2
    go_wp2_with fail
    refine (int_signed rfl ho2.rd hc2 hm2 hn2).mono ?_
    rintro e w3 ⟨b3, A3, c3, rs, rfl, hr3, hc3, hm3, hi3, hl3, hext3⟩
    have ext3 := hext2.trans hext3
    have bz := Box.new w 24 #[.bool false, .slice none 0 0]
    have bz3 := bz.ext ext3
    have z0 := bz3.cell 0 (.bool false) rfl
    have z1 := bz3.cell 1 (.slice none 0 0) rfl
    have f0 := bz3.frozen 0
    have f1 := bz3.frozen 1
    go_wp2_with fail
    obtain ⟨r1, r2, r3, r4⟩ := fin_pair (b := b3) (n := rs.length) (c := c3) (((Ext.refl w).alloc _).trans ext3) (Nat.le_refl _) bz3 hr3
    exact bodyPost_ret (v := .agg #[.bool b3, .slice A3 rs.length c3]) (by simp [results, Tryd.results20, go_sem, r3, r4]) rfl ⟨b3, A3, c3, rs, rfl, r1, hc3, hm3, by have h := Hv2.out; unfold ival at hi3; rw [h] at hi3; simpa using hi3, by omega, r2⟩
  · skip
    obtain ⟨j, hj⟩ : ∃ j : Nat, k = (j : Int) := ⟨k.toNat, by omega⟩
    have hj2 : j / 4294967296 < 4294967296 := by omega
    subst hj
    skip
    skip
    skip
    go_enter Tryd.func20, Tryd.ntmps20
    go_wp2_with fail
    skip
    refine (int_fromUint (w := w.alloc (.cells #[.bool false, .slice none 0 0] 24)) j hj2).mono ?_
    rintro e w2 ⟨A2, c2, zs, rfl, ho2, hc2, hm2, ⟨hv2, hn2, hl2⟩, hext2⟩
    have Hv2 := Lib.hid hv2
    clear hv2
    go_wp2_with fail
    refine (int_signed rfl ho2.rd hc2 hm2 hn2).mono ?_
    rintro e w3 ⟨b3, A3, c3, rs, rfl, hr3, hc3, hm3, hi3, hl3, hext3⟩
    have ext3 := hext2.trans hext3
    have bz := Box.new w 24 #[.bool false, .slice none 0 0]
    have bz3 := bz.ext ext3
    have z0 := bz3.cell 0 (.bool false) rfl
    have z1 := bz3.cell 1 (.slice none 0 0) rfl
    have f0 := bz3.frozen 0
    have f1 := bz3.frozen 1
    go_wp2_with fail
    obtain ⟨r1, r2, r3, r4⟩ := fin_pair (b := b3) (n := rs.length) (c := c3) (((Ext.refl w).alloc _).trans ext3) (Nat.le_refl _) bz3 hr3
    exact bodyPost_ret (v := .agg #[.bool b3, .slice A3 rs.length c3]) (by simp [results, Tryd.results20, go_sem, r3, r4]) rfl ⟨b3, A3, c3, rs, rfl, r1, hc3, hm3, by have h := Hv2.out; unfold ival at hi3; rw [h] at hi3; simpa using hi3, by omega, r2⟩
set_option maxHeartbeats 400000 in
theorem ref_FromInt (k : Int) (h0 : -9223372036854775808 ≤ k) (h1 : k < 9223372036854775808) : Calls Tryd.prog 33 #[.int .i64 k] w (RetI k 2 w) := by
  by_cases hk : k < 0
  · skip
    obtain ⟨j, hj⟩ : ∃ j : Nat, k = -(j : Int) := ⟨k.natAbs, by omega⟩
    have hneg := neg_wrap (j := j) (by omega)
    have hj2 : j / 4294967296 < 4294967296 := by omega
    subst hj
    skip
    have Hneg := Lib.hid hneg
    clear hneg
    go_enter Tryd.func33, Tryd.ntmps33
    go_wp2_with fail
    rw [Hneg.out]
    refine (ref_words (w := w.alloc (.cells #[.bool false, .slice none 0 0] 24)) j hj2).mono ?_
    rintro e w2 ⟨A2, c2, zs, rfl, ho2, hc2, hm2, ⟨hv2, hn2, hl2⟩, hext2⟩
    have Hv2 := Lib.hid hv2
    clear hv2
    go_wp2_with fail
    refine (ref_signed rfl ho2.rd hc2 hm2).mono ?_
    rintro e w3 ⟨b3, A3, c3, rs, rfl, hr3, hc3, hm3, hi3, hl3, hext3⟩
    have ext3 := hext2.trans hext3
    have bz := Box.new w 24 #[.bool false, .slice none 0 0]
    have bz3 := bz.ext ext3
    have z0 := bz3.cell 0 (.bool false) rfl
    have z1 := bz3.cell 1 (.slice none 0 0) rfl
    have f0 := bz3.frozen 0
    have f1 := bz3.frozen 1
    go_wp2_with fail
    obtain ⟨r1, r2, r3, r4⟩ := fin_pair (b := b3) (n := rs.length) (c := c3) (((Ext.refl w).alloc _).trans ext3) (Nat.le_refl _) bz3 hr3
    exact bodyPost_ret (v := .agg #[.bool b3, .slice A3 rs.length c3]) (by simp [results, Tryd.results33, go_sem, r3, r4]) rfl ⟨b3, A3, c3, rs, rfl, r1, hc3, hm3, by have h := Hv2.out; unfold ival at hi3; rw [h] at hi3; simpa using hi3, by omega, r2⟩
  · skip
    obtain ⟨j, hj⟩ : ∃ j : Nat, k = (j : Int) := ⟨k.toNat, by omega⟩
    have hj2 : j / 4294967296 < 4294967296 := by omega
    subst hj
    skip
    skip
    skip
    go_enter Tryd.func33, Tryd.ntmps33
    go_wp2_with fail
    skip
    refine (ref_words (w := w.alloc (.cells #[.bool false, .slice none 0 0] 24)) j hj2).mono ?_
    rintro e w2 ⟨A2, c2, zs, rfl, ho2, hc2, hm2, ⟨hv2, hn2, hl2⟩, hext2⟩
    have Hv2 := Lib.hid hv2
    clear hv2
    go_wp2_with fail
    refine (ref_signed rfl ho2.rd hc2 hm2).mono ?_
    rintro e w3 ⟨b3, A3, c3, rs, rfl, hr3, hc3, hm3, hi3, hl3, hext3⟩
    have ext3 := hext2.trans hext3
    have bz := Box.new w 24 #[.bool false, .slice none 0 0]
    have bz3 := bz.ext ext3
    have z0 := bz3.cell 0 (.bool false) rfl
    have z1 := bz3.cell 1 (.slice none 0 0) rfl
    have f0 := bz3.frozen 0
    have f1 := bz3.frozen 1
    go_wp2_with fail
    obtain ⟨r1, r2, r3, r4⟩ := fin_pair (b := b3) (n := rs.length) (c := c3) (((Ext.refl w).alloc _).trans ext3) (Nat.le_refl _) bz3 hr3
    exact bodyPost_ret (v := .agg #[.bool b3, .slice A3 rs.length c3]) (by simp [results, Tryd.results33, go_sem, r3, r4]) rfl ⟨b3, A3, c3, rs, rfl, r1, hc3, hm3, by have h := Hv2.out; unfold ival at hi3; rw [h] at hi3; simpa using hi3, by omega, r2⟩
end
end Go.Proofs.YtmjmcinnbmjpdaaDoor
