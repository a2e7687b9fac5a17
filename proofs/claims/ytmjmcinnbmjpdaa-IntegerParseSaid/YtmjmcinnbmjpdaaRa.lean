/- Walks: the reference's division by a word, and its shifts. -/
import Derived.Test.YtmjmcinnbmjpdaaVa
import Derived.Test.YtmjmcinnbmjpdaaWu
namespace Go.Proofs.Ytmjmcinnbmjpdaa
open Go.RowKit
section
variable {A B : Option Addr} {c d n m : Nat} {xs ys : List Nat} {w : World} {s t : Bool}
set_option maxHeartbeats 1000000 in
theorem ref_by {v : Nat} (hn : xs.length = n) (hx : Rd w A xs) (hv0 : 0 < v) (hv : v < 4294967296) (h1 : n ≤ 100000) :
    Calls Try.prog 81 #[.slice A n c, .int .u32 (v : Int)] w fun e w' => ∃ A' c' zs, e = .returned (.tuple #[.slice A' (List.length zs) c', .int .u32 ((val xs % v : Nat) : Int)]) ∧ Own w' w.heap.size A' zs ∧ zs.length ≤ c' ∧ c' ≤ maxLen ∧ val zs = val xs / v ∧ Nrm zs ∧ zs.length ≤ n ∧ Ext w w' := by
  have hmk : ∀ W : World, (Instr.makeSlice 22 (.int .i64 (n : Int)) (.int .i64 (n : Int))).run Try.prog W = .ok (.slice (some ⟨W.heap.size, 0, none⟩) n n) (W.alloc (.cells (madeCells #[.int .u32 0] n) 46)) := fun W => mk_words 22 Try.underlying22 n (by omega) W
  have hz0 : ((v : Int) == 0) = false := by rw [beq_eq_false_iff_ne]; omega
  have hp1 : (1 : Int) ≤ (v : Int) := by omega
  have hb0 := BlkN.new w n
  have he0 := (Ext.refl w).alloc (.cells (madeCells #[.int .u32 0] n) 46)
  have Hn := Lib.hid hn
  have Hd0 := Lib.hid (DwInv.start (xs := xs) (zs := List.replicate n 0) (v := v) (by simp [hn]) (W32.replicate _) hv0)
  rw [hn] at Hd0
  clear hn
  go_enter Try.func81, Try.ntmps81
  go_wp2
  go_loopw [7, 8] (fun r i wr => ∃ (k p : Nat) (zs : List Nat), k ≤ n ∧ i = .int .i64 ((k : Int) - 1) ∧ r = .int .u64 (p : Int) ∧ DwInv xs zs v k p ∧ BlkN wr w.heap.size zs ∧ Ext w wr) (fun _ i _ => (intOf i + 1).toNat)
  case atStart => exact ⟨n, 0, _, by omega, rfl, rfl, Hd0.out, hb0, he0⟩
  case round =>
    obtain ⟨k, p, zs, hk, rfl, rfl, hinv, hblk, hext⟩ := hrel
    have hpv := hinv.lt
    have hzl : zs.length = n := by rw [hinv.len]; exact Hn.out
    rcases k with _ | j
    · have Hd := Lib.hid hinv.done
      have Hw := Lib.hid hinv.w32
      clear hinv
      rw [show (((0 : Nat) : Int) - 1) = -1 from rfl]
      have hp32 : p < 4294967296 := by omega
      go_wp2_with fail
      refine (ref_trimN hzl (hblk.rd0 Hw.out) (Nat.le_refl _) (by unfold maxLen; omega)).mono ?_
      rintro e w2 ⟨rfl, rfl⟩
      go_wp2_with fail
      go_ret2
      have hl := trimL_len zs
      refine ⟨_, _, trimL zs, by rw [Hd.out.2]; rfl, ?_, by omega, by unfold maxLen; omega, by rw [val_trimL]; exact Hd.out.1, Nrm.trimL _, by omega, hext⟩
      rw [trimL_take]
      exact (Own.of_blk hblk Hw.out (Nat.le_refl _)).take _
    · rw [show (((j + 1 : Nat) : Int) - 1) = (j : Int) by omega]
      have hjx : j < xs.length := by rw [Hn.out]; omega
      obtain ⟨b1, o1, rfl, hb1, hc⟩ := (hx.ext hext).at_ hjx
      have hst := hinv.step hx.1 hjx
      have hxj := hx.1.get hjx
      have hq := dw_lt hpv hxj
      have hor := high_or (b := p) hxj (by omega)
      have hnl : p * 4294967296 + xs[j] < 18446744073709551616 := by omega
      generalize xs[j] = X at *
      generalize p * 4294967296 + X = NV at *
      have hr := Nat.mod_lt NV hv0
      have hq' : (NV : Int).tdiv (v : Int) = ((NV / v : Nat) : Int) := rfl
      have hr' : (NV : Int).tmod (v : Int) = ((NV % v : Nat) : Int) := rfl
      generalize NV / v = U at *
      generalize NV % v = V at *
      have hwu := wrap_u64_nat (a := U) (by omega)
      have hwv := wrap_u64_nat (a := V) (by omega)
      have hcz := hblk.cell (i := j) (by omega)
      have hfz := hblk.frozen j
      have Hst := Lib.hid hst
      clear hst hinv
      go_wp2
      go_roundw
      case rel => exact ⟨j, V, _, by omega, rfl, rfl, Hst.out, hblk.set j rfl, hext.setCell (Nat.le_refl _) _⟩
      case measure => simp [intOf]
set_option maxHeartbeats 1000000 in
theorem ref_shifted {b : Nat} (hn : xs.length = n) (hx : Rd w A xs) (hb : b < 32) (h1 : n ≤ 100000) :
    Calls Try.prog 82 #[.slice A n c, .int .i64 (b : Int)] w (RetN (fun zs => val zs = val xs * 2 ^ b ∧ zs.length = n + 1) w) := by
  have hmk : ∀ W : World, (Instr.makeSlice 22 (.int .i64 ((n : Int) + 1)) (.int .i64 ((n : Int) + 1))).run Try.prog W = .ok (.slice (some ⟨W.heap.size, 0, none⟩) (n + 1) (n + 1)) (W.alloc (.cells (madeCells #[.int .u32 0] (n + 1)) 46)) := fun W => by
    have h := mk_words 22 Try.underlying22 (n + 1) (by omega) W
    rwa [show ((n + 1 : Nat) : Int) = (n : Int) + 1 by omega] at h
  have hb0 := BlkN.new w (n + 1)
  have he0 := (Ext.refl w).alloc (.cells (madeCells #[.int .u32 0] (n + 1)) 46)
  have Hn := Lib.hid hn
  have hi := ShlInv.start xs b
  rw [hn] at hi
  have Hi := Lib.hid hi
  clear hn hi
  go_enter Try.func82, Try.ntmps82
  go_wp2
  go_loopw [6] (fun i wr => ∃ (k : Nat) (zs : List Nat), k ≤ n ∧ i = .int .i64 (k : Int) ∧ ShlInv xs b k zs ∧ BlkN wr w.heap.size zs ∧ Ext w wr) (fun i _ => n - (intOf i).toNat)
  case atStart => exact ⟨0, _, by omega, rfl, Hi.out, hb0, he0⟩
  case round =>
    obtain ⟨k, zs, hk, rfl, hinv, hblk, hext⟩ := hrel
    have hzl : zs.length = n + 1 := by rw [hinv.len, Hn.out]
    by_cases hlt : k < n
    · have hkx : k < xs.length := by rw [Hn.out]; exact hlt
      obtain ⟨b1, o1, rfl, hb1, hc1⟩ := (hx.ext hext).at_ hkx
      have hxk := hx.1.get hkx
      have hc2 := hblk.cell (i := k) (by omega)
      have hc3 := hblk.cell (i := k + 1) (by omega)
      have hzk := hinv.w32.get (k := k) (by omega)
      have hlow : zs[k]'(by omega) < 2 ^ b := by have := hinv.low; rwa [getD_at (by omega)] at this
      have hfz := hblk.frozen k
      have hfz2 := hblk.frozen (k + 1)
      have hst := hinv.step hb hx.1 hkx
      rw [getD_at (by omega)] at hst
      have Hst := Lib.hid hst
      have Hlo := Lib.hid (shl_lo hxk hb hlow hzk)
      have Hhi := Lib.hid (shl_hi hxk hb)
      clear hst hinv hlow
      go_wp2
      go_roundw
      case rel => exact ⟨k + 1, _, by omega, by go_num, Hst.out, (hblk.set k Hlo.out).set (k + 1) Hhi.out, (hext.setCell (Nat.le_refl _) _).setCell (Nat.le_refl _) _⟩
      case measure => simp [intOf]; omega
    · obtain rfl : k = n := by omega
      have Hw := Lib.hid hinv.w32
      have he := hinv.eq
      rw [List.take_of_length_le (by omega), List.take_of_length_le (by rw [Hn.out]; exact Nat.le_refl _)] at he
      have He := Lib.hid he
      have Hzl := Lib.hid hzl
      clear hinv he hzl
      go_wp2
      go_ret
      exact ⟨_, _, zs, by rw [Hzl.out]; rfl, Own.of_blk hblk Hw.out (Nat.le_refl _), by rw [Hzl.out]; exact Nat.le_refl _, by unfold maxLen; omega, ⟨He.out, Hzl.out⟩, hext⟩
theorem back_cast {X b : Nat} {Y : Int} (h : Y = (X : Int)) : Y / 2 ^ b % 4294967296 = ((X / 2 ^ b % 4294967296 : Nat) : Int) := by
  subst h
  rw [Int.natCast_emod, Int.natCast_ediv]
  simp
set_option maxHeartbeats 1000000 in
theorem ref_back {b : Nat} (hn : xs.length = n) (hx : Rd w A xs) (hb : b < 32) (h1 : n ≤ 100000) :
    Calls Try.prog 84 #[.slice A n c, .int .i64 (b : Int)] w (RetN (fun zs => val zs = val xs / 2 ^ b ∧ Nrm zs ∧ zs.length ≤ n) w) := by
  have hmk : ∀ W : World, (Instr.makeSlice 22 (.int .i64 (n : Int)) (.int .i64 (n : Int))).run Try.prog W = .ok (.slice (some ⟨W.heap.size, 0, none⟩) n n) (W.alloc (.cells (madeCells #[.int .u32 0] n) 46)) := fun W => mk_words 22 Try.underlying22 n (by omega) W
  have hb0 := BlkN.new w n
  have he0 := (Ext.refl w).alloc (.cells (madeCells #[.int .u32 0] n) 46)
  have Hn := Lib.hid hn
  have Hspec := Lib.hid (val_shrL (b := b) (by omega) hx.1)
  clear hn
  go_enter Try.func84, Try.ntmps84
  go_wp2
  go_loopw [6] (fun i wr => ∃ (k : Nat) (zs : List Nat), k ≤ n ∧ i = .int .i64 (k : Int) ∧ zs.length = n ∧ W32 zs ∧ zs.take k = (shrL b xs).take k ∧ BlkN wr w.heap.size zs ∧ Ext w wr) (fun i _ => n - (intOf i).toNat)
  case atStart => exact ⟨0, _, by omega, rfl, by simp, W32.replicate _, rfl, hb0, he0⟩
  case round =>
    obtain ⟨k, zs, hk, rfl, hzl, hzw, htk, hblk, hext⟩ := hrel
    have Htk := Lib.hid htk
    clear htk
    by_cases hlt : k < n
    · have hkx : k < xs.length := by rw [Hn.out]; exact hlt
      obtain ⟨b1, o1, rfl, hb1, hc1⟩ := (hx.ext hext).at_ hkx
      have hxk := hx.1.get hkx
      have hc2 := hblk.cell (i := k) (by omega)
      have hfz := hblk.frozen k
      by_cases hnx : k + 1 < n
      · have hkx1 : k + 1 < xs.length := by rw [Hn.out]; exact hnx
        obtain ⟨b2, o2, he, hb2, hc3⟩ := (hx.ext hext).at_ hkx1
        injection he with he
        injection he with he1 he2
        subst he1; subst he2
        have hxn := hx.1.get hkx1
        have hset := take_shr (b := b) (v := (xs[k] + 4294967296 * xs[k + 1]) / 2 ^ b % 4294967296) hkx (by omega) Htk.out (by rw [getD_at hkx1])
        have hor := or_high hxk hxn
        have hlp : (k : Int) + 1 < (n : Int) := by omega
        generalize xs[k + 1] = Y at *
        generalize xs[k] = X at *
        have hXl : X + 4294967296 * Y < 18446744073709551616 := by omega
        generalize X + 4294967296 * Y = Z at *
        have Hset := Lib.hid hset
        have Hv := Lib.hid (back_cast (X := Z) (b := b) rfl)
        clear hset
        go_wp2
        go_roundw
        case rel => exact ⟨k + 1, _, by omega, by go_num, by simp [hzl], hzw.set _ (Nat.mod_lt _ (by omega)), Hset.out, hblk.set k Hv.out, hext.setCell (Nat.le_refl _) _⟩
        case measure => simp [intOf]; omega
      · have hset := take_shr (b := b) (v := xs[k] / 2 ^ b % 4294967296) hkx (by omega) Htk.out (by rw [getD_out (by rw [Hn.out]; exact hnx), Nat.mul_zero, Nat.add_zero])
        have hlp : ¬ (k : Int) + 1 < (n : Int) := by omega
        generalize xs[k] = X at *
        have Hset := Lib.hid hset
        have Hv := Lib.hid (back_cast (X := X) (b := b) rfl)
        clear hset
        go_wp2
        go_roundw
        case rel => exact ⟨k + 1, _, by omega, by go_num, by simp [hzl], hzw.set _ (Nat.mod_lt _ (by omega)), Hset.out, hblk.set k (by first | exact Hv.out | (have := Hv.out; omega)), hext.setCell (Nat.le_refl _) _⟩
        case measure => simp [intOf]; omega
    · obtain rfl : k = n := by omega
      have hfull : zs = shrL b xs := by
        have := Htk.out
        rwa [List.take_of_length_le (by omega), List.take_of_length_le (by rw [shrL_len, Hn.out]; exact Nat.le_refl _)] at this
      have Hfull := Lib.hid hfull
      clear hfull
      go_wp2_with fail
      refine (ref_trimN hzl (hblk.rd0 hzw) (Nat.le_refl _) (by unfold maxLen; omega)).mono ?_
      rintro e w2 ⟨rfl, rfl⟩
      go_wp2_with fail
      go_ret
      have hl := trimL_len zs
      refine ⟨_, _, trimL zs, rfl, ?_, by omega, by unfold maxLen; omega, ⟨by rw [val_trimL, Hfull.out]; exact Hspec.out, Nrm.trimL _, by omega⟩, hext⟩
      rw [trimL_take]
      exact (Own.of_blk hblk hzw (Nat.le_refl _)).take _
end
end Go.Proofs.Ytmjmcinnbmjpdaa
