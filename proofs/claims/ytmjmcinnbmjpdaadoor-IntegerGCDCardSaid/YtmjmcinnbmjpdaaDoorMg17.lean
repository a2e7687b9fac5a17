/- Walks and laws, part 17. -/
import Derived.Test.YtmjmcinnbmjpdaaDoorMg7
import Derived.Test.YtmjmcinnbmjpdaaDoorMg10
import Derived.Test.YtmjmcinnbmjpdaaDoorMg12
import Derived.Test.YtmjmcinnbmjpdaaDoorMg16
namespace Go.Proofs.YtmjmcinnbmjpdaaDoor
open Go.RowKit
attribute [local go_sem ↓] Go.wp_at_zero Go.wp_at_succ
section
variable {A B : Option Addr} {c d n m : Nat} {xs ys : List Nat} {w : World} {s t : Bool}
set_option maxHeartbeats 1000000 in
theorem int_GCD (hn : xs.length = n) (hm : ys.length = m) (hx : Rd w A xs) (hy : Rd w B ys) (hc : n ≤ c) (hcm : c ≤ maxLen) (hd : m ≤ d) (hdm : d ≤ maxLen) (h1 : n ≤ 3000) (h2 : m ≤ 3000) (hT : Tab w) :
    Calls Tryd.prog 8 #[.agg #[.bool s, .slice A n c], .agg #[.bool t, .slice B m d]] w (RetI ((Nat.gcd (val xs) (val ys) : Nat) : Int) (max (max xs.length ys.length) 2) w) := by
  have Hn := Lib.hid hn
  have Hm := Lib.hid hm
  clear hn hm
  have lx := trimL_len xs
  have ly := trimL_len ys
  have hxt : Rd w A (trimL xs) := by rw [trimL_take]; exact hx.take _
  have hyt : Rd w B (trimL ys) := by rw [trimL_take]; exact hy.take _
  go_enter Tryd.func8, Tryd.ntmps8
  go_upto_region 1 with (fail)
  obtain ⟨W, hW, extW, bx, by_, bz, hz⟩ := box3 w 24 24 24 #[.bool s, .slice A n c] #[.bool t, .slice B m d] #[.bool false, .slice none 0 0]
  rw [← hW]
  clear hW
  have x1 := bx.cell 1 (.slice A n c) rfl
  have y1 := by_.cell 1 (.slice B m d) rfl
  go_region_held3 (fun w' => w'.cell? ⟨w.heap.size, 1, none⟩ = some (.slice A n c) ∧ w'.cell? ⟨w.heap.size + 1, 1, none⟩ = some (.slice B m d)) (first | (go_split_ands; refine ⟨?_, ?_⟩ <;> first | (exact Ext.cellv (by assumption) (by assumption)) | (refine (cell_far2 (by omega)).trans ?_; assumption)) | go_keep)
    (first | (go_at_call_of 26 A; refine (int_trimN Hn.out (hx.ext (by first | exact extW | exact extW.drew | exact extW.drewN _ | exact (extW.drew).drew)) hc hcm).mono ?_; rintro e w1 ⟨rfl, rfl⟩) | (go_at_call_of 26 B; refine (int_trimN Hm.out (hy.ext (by first | exact extW | exact extW.drew | exact extW.drewN _ | exact (extW.drew).drew)) hd hdm).mono ?_; rintro e w1 ⟨rfl, rfl⟩) | (go_at_call 25; refine (int_commonDivisor (hxt.ext (by first | exact extW | exact extW.drew | exact extW.drewN _ | exact (extW.drew).drew)) (hyt.ext (by first | exact extW | exact extW.drew | exact extW.drewN _ | exact (extW.drew).drew)) (Nrm.trimL xs) (Nrm.trimL ys) (by have := Hn.out; omega) (by have := Hm.out; omega) (by have := Hn.out; omega) hcm (by have := Hm.out; omega) hdm (hT.ext (by first | exact extW | exact extW.drew | exact extW.drewN _ | exact (extW.drew).drew))).mono ?_; rintro e w2 ⟨A2, c2, zs, rfl, ho2, hc2, hm2, ⟨hv2, hn2, hl2⟩, hext2⟩; have Hv2 := Lib.hid hv2; clear hv2) | (go_at_call 24; refine (int_signed rfl ho2.rd hc2 hm2 hn2).mono ?_; rintro e w3 ⟨b3, A3, c3, rs, rfl, hr3, hc3, hm3, hi3, hl3, hext3⟩; have ext3 := ((Ext.refl W).drew.trans hext2).trans hext3; have bz3 := bz.ext ext3; have z0 := bz3.cell 0 (.bool false) rfl; have z1 := bz3.cell 1 (.slice none 0 0) rfl; have f0 := bz3.frozen 0; have f1 := bz3.frozen 1))
  go_wp2_with fail
  obtain ⟨r1, r2, r3, r4⟩ := fin_pair (b := b3) (n := rs.length) (c := c3) (extW.trans ext3) (by omega) bz3 hr3
  have hiv : ival false zs = ((Nat.gcd (val xs) (val ys) : Nat) : Int) := by rw [← val_trimL xs, ← val_trimL ys, ← Hv2.out]; rfl
  exact bodyPost_ret (v := .agg #[.bool b3, .slice A3 rs.length c3]) (by simp [results, Tryd.results8, go_sem, r3, r4]) rfl ⟨b3, A3, c3, rs, rfl, r1, hc3, hm3, by rw [hiv] at hi3; exact hi3, by omega, r2⟩
end
end Go.Proofs.YtmjmcinnbmjpdaaDoor
namespace Go.Proofs.YtmjmcinnbmjpdaaDoor
open Go.RowKit
section
variable {A B : Option Addr} {c d n m : Nat} {xs ys : List Nat} {w : World} {s t : Bool}
set_option maxHeartbeats 1000000 in
theorem ref_by {v : Nat} (hn : xs.length = n) (hx : Rd w A xs) (hv0 : 0 < v) (hv : v < 4294967296) (h1 : n ≤ 100000) :
    Calls Tryd.prog 38 #[.slice A n c, .int .u32 (v : Int)] w fun e w' => ∃ A' c' zs, e = .returned (.tuple #[.slice A' (List.length zs) c', .int .u32 ((val xs % v : Nat) : Int)]) ∧ Own w' w.heap.size A' zs ∧ zs.length ≤ c' ∧ c' ≤ maxLen ∧ val zs = val xs / v ∧ Nrm zs ∧ zs.length ≤ n ∧ Ext w w' := by
  have hmk : ∀ W : World, (Instr.makeSlice 22 (.int .i64 (n : Int)) (.int .i64 (n : Int))).run Tryd.prog W = .ok (.slice (some ⟨W.heap.size, 0, none⟩) n n) (W.alloc (.cells (madeCells #[.int .u32 0] n) 43)) := fun W => mk_words 22 Tryd.underlying22 n (by omega) W
  have hz0 : ((v : Int) == 0) = false := by rw [beq_eq_false_iff_ne]; omega
  have hp1 : (1 : Int) ≤ (v : Int) := by omega
  have hb0 := BlkN.new w n
  have he0 := (Ext.refl w).alloc (.cells (madeCells #[.int .u32 0] n) 43)
  have Hn := Lib.hid hn
  have Hd0 := Lib.hid (DwInv.start (xs := xs) (zs := List.replicate n 0) (v := v) (by simp [hn]) (W32.replicate _) hv0)
  rw [hn] at Hd0
  clear hn
  go_enter Tryd.func38, Tryd.ntmps38
  go_wp2
  go_loopw [7, 8] (fun r i wr => ∃ (k p : Nat) (zs : List Nat), k ≤ n ∧ i = .int .i64 ((k : Int) - 1) ∧ r = .int .u64 (p : Int) ∧ DwInv xs zs v k p ∧ BlkN wr w.heap.size zs ∧ Ext w wr) (fun _ i _ => (intOf i + 1).toNat)
  case atStart => exact ⟨n, 0, _, by omega, rfl, rfl, Hd0.out, hb0, he0⟩
  case round =>
    obtain ⟨k, p, zs, hk, rfl, rfl, hinv, hblk, hext⟩ := hrel
    have hpv := hinv.lt
    have hzl : zs.length = n := by rw [hinv.len]; exact Hn.out
    rcases k with _ | j
    · have Hd := Lib.hid hinv.done
      have Hw := Lib.hid hinv.w32
      clear hinv
      rw [show (((0 : Nat) : Int) - 1) = -1 from rfl]
      have hp32 : p < 4294967296 := by omega
      go_wp2_with fail
      refine (ref_trimN hzl (hblk.rd0 Hw.out) (Nat.le_refl _) (by unfold maxLen; omega)).mono ?_
      rintro e w2 ⟨rfl, rfl⟩
      go_wp2_with fail
      go_ret2
      have hl := trimL_len zs
      refine ⟨_, _, trimL zs, by rw [Hd.out.2]; rfl, ?_, by omega, by unfold maxLen; omega, by rw [val_trimL]; exact Hd.out.1, Nrm.trimL _, by omega, hext⟩
      rw [trimL_take]
      exact (Own.of_blk hblk Hw.out (Nat.le_refl _)).take _
    · rw [show (((j + 1 : Nat) : Int) - 1) = (j : Int) by omega]
      have hjx : j < xs.length := by rw [Hn.out]; omega
      obtain ⟨b1, o1, rfl, hb1, hc⟩ := (hx.ext hext).at_ hjx
      have hst := hinv.step hx.1 hjx
      have hxj := hx.1.get hjx
      have hq := dw_lt hpv hxj
      have hor := high_or (b := p) hxj (by omega)
      have hnl : p * 4294967296 + xs[j] < 18446744073709551616 := by omega
      generalize xs[j] = X at *
      generalize p * 4294967296 + X = NV at *
      have hr := Nat.mod_lt NV hv0
      have hq' : (NV : Int).tdiv (v : Int) = ((NV / v : Nat) : Int) := rfl
      have hr' : (NV : Int).tmod (v : Int) = ((NV % v : Nat) : Int) := rfl
      generalize NV / v = U at *
      generalize NV % v = V at *
      have hwu := wrap_u64_nat (a := U) (by omega)
      have hwv := wrap_u64_nat (a := V) (by omega)
      have hcz := hblk.cell (i := j) (by omega)
      have hfz := hblk.frozen j
      have Hst := Lib.hid hst
      clear hst hinv
      go_wp2
      go_roundw
      case rel => exact ⟨j, V, _, by omega, rfl, rfl, Hst.out, hblk.set j rfl, hext.setCell (Nat.le_refl _) _⟩
      case measure => simp [intOf]
set_option maxHeartbeats 1000000 in
theorem ref_shifted {b : Nat} (hn : xs.length = n) (hx : Rd w A xs) (hb : b < 32) (h1 : n ≤ 100000) :
    Calls Tryd.prog 52 #[.slice A n c, .int .i64 (b : Int)] w (RetN (fun zs => val zs = val xs * 2 ^ b ∧ zs.length = n + 1) w) := by
  have hmk : ∀ W : World, (Instr.makeSlice 22 (.int .i64 ((n : Int) + 1)) (.int .i64 ((n : Int) + 1))).run Tryd.prog W = .ok (.slice (some ⟨W.heap.size, 0, none⟩) (n + 1) (n + 1)) (W.alloc (.cells (madeCells #[.int .u32 0] (n + 1)) 43)) := fun W => by
    have h := mk_words 22 Tryd.underlying22 (n + 1) (by omega) W
    rwa [show ((n + 1 : Nat) : Int) = (n : Int) + 1 by omega] at h
  have hb0 := BlkN.new w (n + 1)
  have he0 := (Ext.refl w).alloc (.cells (madeCells #[.int .u32 0] (n + 1)) 43)
  have Hn := Lib.hid hn
  have hi := ShlInv.start xs b
  rw [hn] at hi
  have Hi := Lib.hid hi
  clear hn hi
  go_enter Tryd.func52, Tryd.ntmps52
  go_wp2
  go_loopw [6] (fun i wr => ∃ (k : Nat) (zs : List Nat), k ≤ n ∧ i = .int .i64 (k : Int) ∧ ShlInv xs b k zs ∧ BlkN wr w.heap.size zs ∧ Ext w wr) (fun i _ => n - (intOf i).toNat)
  case atStart => exact ⟨0, _, by omega, rfl, Hi.out, hb0, he0⟩
  case round =>
    obtain ⟨k, zs, hk, rfl, hinv, hblk, hext⟩ := hrel
    have hzl : zs.length = n + 1 := by rw [hinv.len, Hn.out]
    by_cases hlt : k < n
    · have hkx : k < xs.length := by rw [Hn.out]; exact hlt
      obtain ⟨b1, o1, rfl, hb1, hc1⟩ := (hx.ext hext).at_ hkx
      have hxk := hx.1.get hkx
      have hc2 := hblk.cell (i := k) (by omega)
      have hc3 := hblk.cell (i := k + 1) (by omega)
      have hzk := hinv.w32.get (k := k) (by omega)
      have hlow : zs[k]'(by omega) < 2 ^ b := by have := hinv.low; rwa [getD_at (by omega)] at this
      have hfz := hblk.frozen k
      have hfz2 := hblk.frozen (k + 1)
      have hst := hinv.step hb hx.1 hkx
      rw [getD_at (by omega)] at hst
      have Hst := Lib.hid hst
      have Hlo := Lib.hid (shl_lo hxk hb hlow hzk)
      have Hhi := Lib.hid (shl_hi hxk hb)
      clear hst hinv hlow
      go_wp2
      go_roundw
      case rel => exact ⟨k + 1, _, by omega, by go_num, Hst.out, (hblk.set k Hlo.out).set (k + 1) Hhi.out, (hext.setCell (Nat.le_refl _) _).setCell (Nat.le_refl _) _⟩
      case measure => simp [intOf]; omega
    · obtain rfl : k = n := by omega
      have Hw := Lib.hid hinv.w32
      have he := hinv.eq
      rw [List.take_of_length_le (by omega), List.take_of_length_le (by rw [Hn.out]; exact Nat.le_refl _)] at he
      have He := Lib.hid he
      have Hzl := Lib.hid hzl
      clear hinv he hzl
      go_wp2
      go_ret
      exact ⟨_, _, zs, by rw [Hzl.out]; rfl, Own.of_blk hblk Hw.out (Nat.le_refl _), by rw [Hzl.out]; exact Nat.le_refl _, by unfold maxLen; omega, ⟨He.out, Hzl.out⟩, hext⟩
theorem back_cast {X b : Nat} {Y : Int} (h : Y = (X : Int)) : Y / 2 ^ b % 4294967296 = ((X / 2 ^ b % 4294967296 : Nat) : Int) := by
  subst h
  rw [Int.natCast_emod, Int.natCast_ediv]
  simp
set_option maxHeartbeats 1000000 in
theorem ref_back {b : Nat} (hn : xs.length = n) (hx : Rd w A xs) (hb : b < 32) (h1 : n ≤ 100000) :
    Calls Tryd.prog 55 #[.slice A n c, .int .i64 (b : Int)] w (RetN (fun zs => val zs = val xs / 2 ^ b ∧ Nrm zs ∧ zs.length ≤ n) w) := by
  have hmk : ∀ W : World, (Instr.makeSlice 22 (.int .i64 (n : Int)) (.int .i64 (n : Int))).run Tryd.prog W = .ok (.slice (some ⟨W.heap.size, 0, none⟩) n n) (W.alloc (.cells (madeCells #[.int .u32 0] n) 43)) := fun W => mk_words 22 Tryd.underlying22 n (by omega) W
  have hb0 := BlkN.new w n
  have he0 := (Ext.refl w).alloc (.cells (madeCells #[.int .u32 0] n) 43)
  have Hn := Lib.hid hn
  have Hspec := Lib.hid (val_shrL (b := b) (by omega) hx.1)
  clear hn
  go_enter Tryd.func55, Tryd.ntmps55
  go_wp2
  go_loopw [6] (fun i wr => ∃ (k : Nat) (zs : List Nat), k ≤ n ∧ i = .int .i64 (k : Int) ∧ zs.length = n ∧ W32 zs ∧ zs.take k = (shrL b xs).take k ∧ BlkN wr w.heap.size zs ∧ Ext w wr) (fun i _ => n - (intOf i).toNat)
  case atStart => exact ⟨0, _, by omega, rfl, by simp, W32.replicate _, rfl, hb0, he0⟩
  case round =>
    obtain ⟨k, zs, hk, rfl, hzl, hzw, htk, hblk, hext⟩ := hrel
    have Htk := Lib.hid htk
    clear htk
    by_cases hlt : k < n
    · have hkx : k < xs.length := by rw [Hn.out]; exact hlt
      obtain ⟨b1, o1, rfl, hb1, hc1⟩ := (hx.ext hext).at_ hkx
      have hxk := hx.1.get hkx
      have hc2 := hblk.cell (i := k) (by omega)
      have hfz := hblk.frozen k
      by_cases hnx : k + 1 < n
      · have hkx1 : k + 1 < xs.length := by rw [Hn.out]; exact hnx
        obtain ⟨b2, o2, he, hb2, hc3⟩ := (hx.ext hext).at_ hkx1
        injection he with he
        injection he with he1 he2
        subst he1; subst he2
        have hxn := hx.1.get hkx1
        have hset := take_shr (b := b) (v := (xs[k] + 4294967296 * xs[k + 1]) / 2 ^ b % 4294967296) hkx (by omega) Htk.out (by rw [getD_at hkx1])
        have hor := or_high hxk hxn
        have hlp : (k : Int) + 1 < (n : Int) := by omega
        generalize xs[k + 1] = Y at *
        generalize xs[k] = X at *
        have hXl : X + 4294967296 * Y < 18446744073709551616 := by omega
        generalize X + 4294967296 * Y = Z at *
        have Hset := Lib.hid hset
        have Hv := Lib.hid (back_cast (X := Z) (b := b) rfl)
        clear hset
        go_wp2
        go_roundw
        case rel => exact ⟨k + 1, _, by omega, by go_num, by simp [hzl], hzw.set _ (Nat.mod_lt _ (by omega)), Hset.out, hblk.set k Hv.out, hext.setCell (Nat.le_refl _) _⟩
        case measure => simp [intOf]; omega
      · have hset := take_shr (b := b) (v := xs[k] / 2 ^ b % 4294967296) hkx (by omega) Htk.out (by rw [getD_out (by rw [Hn.out]; exact hnx), Nat.mul_zero, Nat.add_zero])
        have hlp : ¬ (k : Int) + 1 < (n : Int) := by omega
        generalize xs[k] = X at *
        have Hset := Lib.hid hset
        have Hv := Lib.hid (back_cast (X := X) (b := b) rfl)
        clear hset
        go_wp2
        go_roundw
        case rel => exact ⟨k + 1, _, by omega, by go_num, by simp [hzl], hzw.set _ (Nat.mod_lt _ (by omega)), Hset.out, hblk.set k (by first | exact Hv.out | (have := Hv.out; omega)), hext.setCell (Nat.le_refl _) _⟩
        case measure => simp [intOf]; omega
    · obtain rfl : k = n := by omega
      have hfull : zs = shrL b xs := by
        have := Htk.out
        rwa [List.take_of_length_le (by omega), List.take_of_length_le (by rw [shrL_len, Hn.out]; exact Nat.le_refl _)] at this
      have Hfull := Lib.hid hfull
      clear hfull
      go_wp2_with fail
      refine (ref_trimN hzl (hblk.rd0 hzw) (Nat.le_refl _) (by unfold maxLen; omega)).mono ?_
      rintro e w2 ⟨rfl, rfl⟩
      go_wp2_with fail
      go_ret
      have hl := trimL_len zs
      refine ⟨_, _, trimL zs, rfl, ?_, by omega, by unfold maxLen; omega, ⟨by rw [val_trimL, Hfull.out]; exact Hspec.out, Nrm.trimL _, by omega⟩, hext⟩
      rw [trimL_take]
      exact (Own.of_blk hblk hzw (Nat.le_refl _)).take _
end
end Go.Proofs.YtmjmcinnbmjpdaaDoor
namespace Go.Proofs.YtmjmcinnbmjpdaaDoor
open Go.RowKit
theorem digit_first {E v1 top D P : Nat} (h1 : E * v1 ≤ D) (hv : 0 < v1) (h2 : P < E * top + E) : P < (top / v1 + 1) * D := by
  have hq : top + 1 ≤ (top / v1 + 1) * v1 := by
    have := Nat.div_add_mod top v1
    have h2 := Nat.mod_lt top hv
    rw [Nat.add_mul, Nat.mul_comm (top / v1)]
    omega
  have a := Nat.mul_le_mul_left E hq
  rw [Nat.mul_add, Nat.mul_one, Nat.mul_left_comm] at a
  have b := Nat.mul_le_mul_left (top / v1 + 1) h1
  omega
theorem digit_of {ps ds : List Nat} {n : Nat} (hp : W32 ps) (h0 : 0 < n) (hpl : ps.length = n + 1) (hdl : ds.length = n) :
    4294967296 ^ (n - 1) * ds[n - 1]'(by omega) ≤ val ds ∧ val ps < 4294967296 ^ (n - 1) * (ps[n]'(by omega) * 4294967296 + ps[n - 1]'(by omega)) + 4294967296 ^ (n - 1) := by
  obtain ⟨k, rfl⟩ : ∃ k, n = k + 1 := ⟨n - 1, by omega⟩
  simp only [Nat.add_sub_cancel]
  have d1 := val_take_succ ds k (by omega)
  rw [List.take_of_length_le (by omega)] at d1
  have p1 := val_take_succ ps k (by omega)
  have p2 := val_take_succ ps (k + 1) (by omega)
  rw [List.take_of_length_le (by omega)] at p2
  have lp := val_lt (hp.take k)
  rw [List.length_take, Nat.min_eq_left (by omega)] at lp
  refine ⟨by omega, ?_⟩
  rw [p2, p1, Nat.pow_succ, Nat.mul_add, Nat.mul_assoc, Nat.mul_comm 4294967296]
  omega
section
variable {A B : Option Addr} {c d n m : Nat} {xs ys : List Nat} {w : World} {s t : Bool}
set_option maxHeartbeats 4000000 in
theorem ref_digit {ps ds : List Nat} (hpl : ps.length = n + 1) (hdl : ds.length = n) (h0 : 0 < n) (hp : Rd w A ps) (hd : Rd w B ds) (hdn : Nrm ds) (hlt : val ps < 4294967296 * val ds) (hcp : n + 1 ≤ c) (hcm : c ≤ maxLen) (h1 : n ≤ 10000) :
    Calls Tryd.prog 53 #[.slice A (n + 1) c, .slice B n d] w fun e w' => ∃ (q : Nat) (A' : Option Addr) (c' : Nat) (us : List Nat), e = .returned (.tuple #[.int .u32 (q : Int), .slice A' us.length c']) ∧ Own w' w.heap.size A' us ∧ us.length ≤ c' ∧ c' ≤ maxLen ∧ q < 4294967296 ∧ val us = q * val ds ∧ Nrm us ∧ q * val ds ≤ val ps ∧ val ps < (q + 1) * val ds ∧ Ext w w' := by
  have hdf := digit_of hp.1 h0 hpl hdl
  have hv0 : ds[n - 1]'(by omega) ≠ 0 := by
    subst hdl
    exact hdn.last h0
  obtain ⟨b1, o1, rfl, hb1, c0⟩ := hp.at_ (i := n) (by omega)
  obtain ⟨b1', o1', he, _, c1⟩ := hp.at_ (i := n - 1) (by omega)
  injection he with he
  injection he with he1 he2
  subst he1; subst he2
  obtain ⟨b2, o2, rfl, hb2, d1⟩ := hd.at_ (i := n - 1) (by omega)
  have hu0 := hp.1.get (k := n) (by omega)
  have hu1 := hp.1.get (k := n - 1) (by omega)
  have hv1 := hd.1.get (k := n - 1) (by omega)
  have hor := high_or hu1 hu0
  have hnl : ps[n]'(by omega) * 4294967296 + ps[n - 1]'(by omega) < 18446744073709551616 := by omega
  generalize ps[n]'(by omega) = U0 at *
  generalize ps[n - 1]'(by omega) = U1 at *
  generalize ds[n - 1]'(by omega) = V1 at *
  generalize U0 * 4294967296 + U1 = T at *
  have hz0 : ((V1 : Int) == 0) = false := by rw [beq_eq_false_iff_ne]; omega
  have hp1 : (1 : Int) ≤ (V1 : Int) := by omega
  have hdf1 := digit_first hdf.1 (by omega) hdf.2
  have hq' : (T : Int).tdiv (V1 : Int) = ((T / V1 : Nat) : Int) := rfl
  have hQT : T / V1 ≤ T := Nat.div_le_self _ _
  generalize T / V1 = Q at *
  have hwu := wrap_u64_nat (a := Q) (by omega)
  have Hpl := Lib.hid hpl
  have Hdl := Lib.hid hdl
  have Hlt := Lib.hid hlt
  have Hdf1 := Lib.hid hdf1
  clear hpl hdl hlt hdf1
  by_cases hbig : 4294967295 < Q
  · have d3 : decide ((4294967295 : Int) < (Q : Int)) = true := decide_eq_true (by omega)
    have hfirst := Hlt.out
    have Hfirst := Lib.hid hfirst
    clear hfirst hdf
    go_enter Tryd.func53, Tryd.ntmps53
    go_wp2
    go_quiet (fail)
    have hnb := fun W : World => BlkN.lit W [4294967295] #[.int .u32 ((4294967295 : Nat) : Int)] rfl
    have hw1 : W32 [4294967295] := W32.one (by omega)
    go_wp2_with fail
    refine (ref_times1 (m := 1) (xs := ds) (ys := [4294967295]) Hdl.out rfl (hd.ext (((Ext.refl w).drewN _).alloc _)) ((hnb _).rd0 hw1) (by omega)).mono ?_
    rintro e w1 ⟨A1, c1, pp, rfl, ho1, hc1, hm1, ⟨hv1', hn1, hl1⟩, hxt1⟩
    rw [val_one, Nat.mul_comm] at hv1'
    have Hv1 := Lib.hid hv1'
    have ext1 := ((((Ext.refl w).drewN _).alloc _).trans hxt1 : Ext w _)
    have hl1' : pp.length ≤ n + 1 := by rw [Hdl.out] at hl1; exact hl1
    clear hv1' hl1 hnb hw1
    go_wp2_with fail
    go_loopw [7, 8] (fun a b wr => ∃ (q : Nat) (A2 : Option Addr) (c2 : Nat) (us : List Nat), a = .int .u64 (q : Int) ∧ b = .slice A2 us.length c2 ∧ val us = q * val ds ∧ Nrm us ∧ Own wr w.heap.size A2 us ∧ us.length ≤ c2 ∧ c2 ≤ maxLen ∧ us.length ≤ n + 1 ∧ val ps < (q + 1) * val ds ∧ q < 4294967296 ∧ Ext w wr) (fun a _ _ => (intOf a).toNat)
    case atStart => exact ⟨4294967295, A1, c1, pp, rfl, rfl, Hv1.out, hn1, ho1.mono (by first | exact (((Ext.refl w).drewN _).alloc _).size | simp), hc1, hm1, hl1', Hfirst.out, (by omega), ext1⟩
    case round =>
      clear ho1 hc1 hm1 hn1 hl1' ext1 hxt1
      obtain ⟨q, A2, c2, us, rfl, rfl, huv, hun, hou, hc2, hm2, hul, hP, hq32, hext⟩ := hrel
      have Huv := Lib.hid huv
      have HP := Lib.hid hP
      clear huv hP
      go_wp2_with fail
      refine (ref_trimN Hpl.out (hp.ext hext) hcp hcm).mono ?_
      rintro e w2 ⟨rfl, rfl⟩
      have hpt : Rd wr (some ⟨b1, o1, none⟩) (trimL ps) := by rw [trimL_take]; exact (hp.ext hext).take _
      have hptl : (trimL ps).length ≤ n + 1 := by have := trimL_len ps; rw [Hpl.out] at this; exact this
      go_wp2_with fail
      refine (ref_compare _ A2 c c2 (trimL ps) us wr hpt hou.rd (by unfold maxLen; omega) (by unfold maxLen; omega)).mono ?_
      rintro e w2 ⟨rfl, hxt2⟩
      have hcv : cmpL (trimL ps) us = cmpI (val ps) (val us) := by rw [cmpL_nrm hpt.1 hou.1 (Nrm.trimL _) hun, val_trimL]
      rw [hcv]
      clear hcv
      rcases Nat.lt_trichotomy (val ps) (val us) with hlt | hlt | hlt
      · rw [cmpI_of_lt hlt]
        rw [Huv.out] at hlt
        have hq0 : 1 ≤ q := by
          rcases Nat.eq_zero_or_pos q with rfl | h
          · rw [Nat.zero_mul] at hlt; omega
          · exact h
        have hle : val ds ≤ val us := by
          rw [Huv.out]
          exact Nat.le_mul_of_pos_left _ hq0
        have hlen : n ≤ us.length := by have := len_le hou.1 hdn hle; rw [Hdl.out] at this; exact this
        have Hle := Lib.hid hle
        have Hlt := Lib.hid hlt
        have hqi : (1 : Int) ≤ (q : Int) := by omega
        clear hle hlt
        go_wp2_with fail
        refine (ref_minus rfl Hdl.out (hou.rd.ext hxt2) (hd.ext (hext.trans hxt2)) hlen Hle.out (by omega)).mono ?_
        rintro e w3 ⟨A3, c3, vs, rfl, ho3, hc3, hm3, ⟨hv3, hn3, hl3⟩, hxt3⟩
        have Hv3 := Lib.hid hv3
        clear hv3
        go_wp2_with fail
        go_roundw
        case rel =>
          refine ⟨q - 1, A3, c3, vs, congrArg (Value.int .u64) (by omega), rfl, ?_, hn3, ho3.mono (hext.trans hxt2).size, hc3, hm3, by omega, ?_, by omega, hext.trans (hxt2.trans hxt3)⟩
          · rw [Hv3.out, Huv.out, Nat.sub_mul, Nat.one_mul]
          · rw [Nat.sub_add_cancel hq0]; exact Hlt.out
        case measure => simp [intOf]; omega
      · rw [cmpI_of_eq hlt]
        rw [Huv.out] at hlt
        have Hlt := Lib.hid hlt
        clear hlt
        go_wp2_with fail
        go_ret2
        exact ⟨q, A2, c2, us, rfl, hou.ext hxt2, hc2, hm2, hq32, Huv.out, hun, by rw [Hlt.out]; exact Nat.le_refl _, HP.out, hext.trans hxt2⟩
      · rw [cmpI_of_gt hlt]
        rw [Huv.out] at hlt
        have Hlt := Lib.hid hlt
        clear hlt
        go_wp2_with fail
        go_ret2
        exact ⟨q, A2, c2, us, rfl, hou.ext hxt2, hc2, hm2, hq32, Huv.out, hun, Nat.le_of_lt Hlt.out, HP.out, hext.trans hxt2⟩
  · have d3 : decide ((4294967295 : Int) < (Q : Int)) = false := decide_eq_false (by omega)
    have hQ32 : Q < 4294967296 := by omega
    have hfirst := Hdf1.out
    have Hfirst := Lib.hid hfirst
    clear hfirst hdf
    go_enter Tryd.func53, Tryd.ntmps53
    go_wp2
    go_quiet (fail)
    have hnb := fun W : World => BlkN.lit W [Q] #[.int .u32 ((Q : Nat) : Int)] rfl
    have hw1 : W32 [Q] := W32.one hQ32
    go_wp2_with fail
    refine (ref_times1 (m := 1) (xs := ds) (ys := [Q]) Hdl.out rfl (hd.ext (((Ext.refl w).drewN _).alloc _)) ((hnb _).rd0 hw1) (by omega)).mono ?_
    rintro e w1 ⟨A1, c1, pp, rfl, ho1, hc1, hm1, ⟨hv1', hn1, hl1⟩, hxt1⟩
    rw [val_one, Nat.mul_comm] at hv1'
    have Hv1 := Lib.hid hv1'
    have ext1 := ((((Ext.refl w).drewN _).alloc _).trans hxt1 : Ext w _)
    have hl1' : pp.length ≤ n + 1 := by rw [Hdl.out] at hl1; exact hl1
    clear hv1' hl1 hnb hw1
    go_wp2_with fail
    go_loopw [7, 8] (fun a b wr => ∃ (q : Nat) (A2 : Option Addr) (c2 : Nat) (us : List Nat), a = .int .u64 (q : Int) ∧ b = .slice A2 us.length c2 ∧ val us = q * val ds ∧ Nrm us ∧ Own wr w.heap.size A2 us ∧ us.length ≤ c2 ∧ c2 ≤ maxLen ∧ us.length ≤ n + 1 ∧ val ps < (q + 1) * val ds ∧ q < 4294967296 ∧ Ext w wr) (fun a _ _ => (intOf a).toNat)
    case atStart => exact ⟨Q, A1, c1, pp, rfl, rfl, Hv1.out, hn1, ho1.mono (by first | exact (((Ext.refl w).drewN _).alloc _).size | simp), hc1, hm1, hl1', Hfirst.out, hQ32, ext1⟩
    case round =>
      clear ho1 hc1 hm1 hn1 hl1' ext1 hxt1
      obtain ⟨q, A2, c2, us, rfl, rfl, huv, hun, hou, hc2, hm2, hul, hP, hq32, hext⟩ := hrel
      have Huv := Lib.hid huv
      have HP := Lib.hid hP
      clear huv hP
      go_wp2_with fail
      refine (ref_trimN Hpl.out (hp.ext hext) hcp hcm).mono ?_
      rintro e w2 ⟨rfl, rfl⟩
      have hpt : Rd wr (some ⟨b1, o1, none⟩) (trimL ps) := by rw [trimL_take]; exact (hp.ext hext).take _
      have hptl : (trimL ps).length ≤ n + 1 := by have := trimL_len ps; rw [Hpl.out] at this; exact this
      go_wp2_with fail
      refine (ref_compare _ A2 c c2 (trimL ps) us wr hpt hou.rd (by unfold maxLen; omega) (by unfold maxLen; omega)).mono ?_
      rintro e w2 ⟨rfl, hxt2⟩
      have hcv : cmpL (trimL ps) us = cmpI (val ps) (val us) := by rw [cmpL_nrm hpt.1 hou.1 (Nrm.trimL _) hun, val_trimL]
      rw [hcv]
      clear hcv
      rcases Nat.lt_trichotomy (val ps) (val us) with hlt | hlt | hlt
      · rw [cmpI_of_lt hlt]
        rw [Huv.out] at hlt
        have hq0 : 1 ≤ q := by
          rcases Nat.eq_zero_or_pos q with rfl | h
          · rw [Nat.zero_mul] at hlt; omega
          · exact h
        have hle : val ds ≤ val us := by
          rw [Huv.out]
          exact Nat.le_mul_of_pos_left _ hq0
        have hlen : n ≤ us.length := by have := len_le hou.1 hdn hle; rw [Hdl.out] at this; exact this
        have Hle := Lib.hid hle
        have Hlt := Lib.hid hlt
        have hqi : (1 : Int) ≤ (q : Int) := by omega
        clear hle hlt
        go_wp2_with fail
        refine (ref_minus rfl Hdl.out (hou.rd.ext hxt2) (hd.ext (hext.trans hxt2)) hlen Hle.out (by omega)).mono ?_
        rintro e w3 ⟨A3, c3, vs, rfl, ho3, hc3, hm3, ⟨hv3, hn3, hl3⟩, hxt3⟩
        have Hv3 := Lib.hid hv3
        clear hv3
        go_wp2_with fail
        go_roundw
        case rel =>
          refine ⟨q - 1, A3, c3, vs, congrArg (Value.int .u64) (by omega), rfl, ?_, hn3, ho3.mono (hext.trans hxt2).size, hc3, hm3, by omega, ?_, by omega, hext.trans (hxt2.trans hxt3)⟩
          · rw [Hv3.out, Huv.out, Nat.sub_mul, Nat.one_mul]
          · rw [Nat.sub_add_cancel hq0]; exact Hlt.out
        case measure => simp [intOf]; omega
      · rw [cmpI_of_eq hlt]
        rw [Huv.out] at hlt
        have Hlt := Lib.hid hlt
        clear hlt
        go_wp2_with fail
        go_ret2
        exact ⟨q, A2, c2, us, rfl, hou.ext hxt2, hc2, hm2, hq32, Huv.out, hun, by rw [Hlt.out]; exact Nat.le_refl _, HP.out, hext.trans hxt2⟩
      · rw [cmpI_of_gt hlt]
        rw [Huv.out] at hlt
        have Hlt := Lib.hid hlt
        clear hlt
        go_wp2_with fail
        go_ret2
        exact ⟨q, A2, c2, us, rfl, hou.ext hxt2, hc2, hm2, hq32, Huv.out, hun, Nat.le_of_lt Hlt.out, HP.out, hext.trans hxt2⟩
end
end Go.Proofs.YtmjmcinnbmjpdaaDoor
