/- Walks and laws, part 17. -/
import Derived.Test.YtmjmcinnbmjpdaaDoorMt2
import Derived.Test.YtmjmcinnbmjpdaaDoorMt6
import Derived.Test.YtmjmcinnbmjpdaaDoorMt8
import Derived.Test.YtmjmcinnbmjpdaaDoorMt12
import Derived.Test.YtmjmcinnbmjpdaaDoorMt14
import Derived.Laws.BytesArg
namespace Go.Proofs.YtmjmcinnbmjpdaaDoor
open Go.RowKit
section
variable {A B : Option Addr} {c d n m : Nat} {xs ys : List Nat} {w : World} {s t : Bool}
set_option maxHeartbeats 1000000 in
theorem ref_by {v : Nat} (hn : xs.length = n) (hx : Rd w A xs) (hv0 : 0 < v) (hv : v < 4294967296) (h1 : n ≤ 100000) :
    Calls Tryd.prog 38 #[.slice A n c, .int .u32 (v : Int)] w fun e w' => ∃ A' c' zs, e = .returned (.tuple #[.slice A' (List.length zs) c', .int .u32 ((val xs % v : Nat) : Int)]) ∧ Own w' w.heap.size A' zs ∧ zs.length ≤ c' ∧ c' ≤ maxLen ∧ val zs = val xs / v ∧ Nrm zs ∧ zs.length ≤ n ∧ Ext w w' := by
  have hmk : ∀ W : World, (Instr.makeSlice 22 (.int .i64 (n : Int)) (.int .i64 (n : Int))).run Tryd.prog W = .ok (.slice (some ⟨W.heap.size, 0, none⟩) n n) (W.alloc (.cells (madeCells #[.int .u32 0] n) 43)) := fun W => mk_words 22 Tryd.underlying22 n (by omega) W
  have hz0 : ((v : Int) == 0) = false := by rw [beq_eq_false_iff_ne]; omega
  have hp1 : (1 : Int) ≤ (v : Int) := by omega
  have hb0 := BlkN.new w n
  have he0 := (Ext.refl w).alloc (.cells (madeCells #[.int .u32 0] n) 43)
  have Hn := Lib.hid hn
  have Hd0 := Lib.hid (DwInv.start (xs := xs) (zs := List.replicate n 0) (v := v) (by simp [hn]) (W32.replicate _) hv0)
  rw [hn] at Hd0
  clear hn
  go_enter Tryd.func38, Tryd.ntmps38
  go_wp2
  go_loopw [7, 8] (fun r i wr => ∃ (k p : Nat) (zs : List Nat), k ≤ n ∧ i = .int .i64 ((k : Int) - 1) ∧ r = .int .u64 (p : Int) ∧ DwInv xs zs v k p ∧ BlkN wr w.heap.size zs ∧ Ext w wr) (fun _ i _ => (intOf i + 1).toNat)
  case atStart => exact ⟨n, 0, _, by omega, rfl, rfl, Hd0.out, hb0, he0⟩
  case round =>
    obtain ⟨k, p, zs, hk, rfl, rfl, hinv, hblk, hext⟩ := hrel
    have hpv := hinv.lt
    have hzl : zs.length = n := by rw [hinv.len]; exact Hn.out
    rcases k with _ | j
    · have Hd := Lib.hid hinv.done
      have Hw := Lib.hid hinv.w32
      clear hinv
      rw [show (((0 : Nat) : Int) - 1) = -1 from rfl]
      have hp32 : p < 4294967296 := by omega
      go_wp2_with fail
      refine (ref_trimN hzl (hblk.rd0 Hw.out) (Nat.le_refl _) (by unfold maxLen; omega)).mono ?_
      rintro e w2 ⟨rfl, rfl⟩
      go_wp2_with fail
      go_ret2
      have hl := trimL_len zs
      refine ⟨_, _, trimL zs, by rw [Hd.out.2]; rfl, ?_, by omega, by unfold maxLen; omega, by rw [val_trimL]; exact Hd.out.1, Nrm.trimL _, by omega, hext⟩
      rw [trimL_take]
      exact (Own.of_blk hblk Hw.out (Nat.le_refl _)).take _
    · rw [show (((j + 1 : Nat) : Int) - 1) = (j : Int) by omega]
      have hjx : j < xs.length := by rw [Hn.out]; omega
      obtain ⟨b1, o1, rfl, hb1, hc⟩ := (hx.ext hext).at_ hjx
      have hst := hinv.step hx.1 hjx
      have hxj := hx.1.get hjx
      have hq := dw_lt hpv hxj
      have hor := high_or (b := p) hxj (by omega)
      have hnl : p * 4294967296 + xs[j] < 18446744073709551616 := by omega
      generalize xs[j] = X at *
      generalize p * 4294967296 + X = NV at *
      have hr := Nat.mod_lt NV hv0
      have hq' : (NV : Int).tdiv (v : Int) = ((NV / v : Nat) : Int) := rfl
      have hr' : (NV : Int).tmod (v : Int) = ((NV % v : Nat) : Int) := rfl
      generalize NV / v = U at *
      generalize NV % v = V at *
      have hwu := wrap_u64_nat (a := U) (by omega)
      have hwv := wrap_u64_nat (a := V) (by omega)
      have hcz := hblk.cell (i := j) (by omega)
      have hfz := hblk.frozen j
      have Hst := Lib.hid hst
      clear hst hinv
      go_wp2
      go_roundw
      case rel => exact ⟨j, V, _, by omega, rfl, rfl, Hst.out, hblk.set j rfl, hext.setCell (Nat.le_refl _) _⟩
      case measure => simp [intOf]
set_option maxHeartbeats 1000000 in
theorem ref_shifted {b : Nat} (hn : xs.length = n) (hx : Rd w A xs) (hb : b < 32) (h1 : n ≤ 100000) :
    Calls Tryd.prog 52 #[.slice A n c, .int .i64 (b : Int)] w (RetN (fun zs => val zs = val xs * 2 ^ b ∧ zs.length = n + 1) w) := by
  have hmk : ∀ W : World, (Instr.makeSlice 22 (.int .i64 ((n : Int) + 1)) (.int .i64 ((n : Int) + 1))).run Tryd.prog W = .ok (.slice (some ⟨W.heap.size, 0, none⟩) (n + 1) (n + 1)) (W.alloc (.cells (madeCells #[.int .u32 0] (n + 1)) 43)) := fun W => by
    have h := mk_words 22 Tryd.underlying22 (n + 1) (by omega) W
    rwa [show ((n + 1 : Nat) : Int) = (n : Int) + 1 by omega] at h
  have hb0 := BlkN.new w (n + 1)
  have he0 := (Ext.refl w).alloc (.cells (madeCells #[.int .u32 0] (n + 1)) 43)
  have Hn := Lib.hid hn
  have hi := ShlInv.start xs b
  rw [hn] at hi
  have Hi := Lib.hid hi
  clear hn hi
  go_enter Tryd.func52, Tryd.ntmps52
  go_wp2
  go_loopw [6] (fun i wr => ∃ (k : Nat) (zs : List Nat), k ≤ n ∧ i = .int .i64 (k : Int) ∧ ShlInv xs b k zs ∧ BlkN wr w.heap.size zs ∧ Ext w wr) (fun i _ => n - (intOf i).toNat)
  case atStart => exact ⟨0, _, by omega, rfl, Hi.out, hb0, he0⟩
  case round =>
    obtain ⟨k, zs, hk, rfl, hinv, hblk, hext⟩ := hrel
    have hzl : zs.length = n + 1 := by rw [hinv.len, Hn.out]
    by_cases hlt : k < n
    · have hkx : k < xs.length := by rw [Hn.out]; exact hlt
      obtain ⟨b1, o1, rfl, hb1, hc1⟩ := (hx.ext hext).at_ hkx
      have hxk := hx.1.get hkx
      have hc2 := hblk.cell (i := k) (by omega)
      have hc3 := hblk.cell (i := k + 1) (by omega)
      have hzk := hinv.w32.get (k := k) (by omega)
      have hlow : zs[k]'(by omega) < 2 ^ b := by have := hinv.low; rwa [getD_at (by omega)] at this
      have hfz := hblk.frozen k
      have hfz2 := hblk.frozen (k + 1)
      have hst := hinv.step hb hx.1 hkx
      rw [getD_at (by omega)] at hst
      have Hst := Lib.hid hst
      have Hlo := Lib.hid (shl_lo hxk hb hlow hzk)
      have Hhi := Lib.hid (shl_hi hxk hb)
      clear hst hinv hlow
      go_wp2
      go_roundw
      case rel => exact ⟨k + 1, _, by omega, by go_num, Hst.out, (hblk.set k Hlo.out).set (k + 1) Hhi.out, (hext.setCell (Nat.le_refl _) _).setCell (Nat.le_refl _) _⟩
      case measure => simp [intOf]; omega
    · obtain rfl : k = n := by omega
      have Hw := Lib.hid hinv.w32
      have he := hinv.eq
      rw [List.take_of_length_le (by omega), List.take_of_length_le (by rw [Hn.out]; exact Nat.le_refl _)] at he
      have He := Lib.hid he
      have Hzl := Lib.hid hzl
      clear hinv he hzl
      go_wp2
      go_ret
      exact ⟨_, _, zs, by rw [Hzl.out]; rfl, Own.of_blk hblk Hw.out (Nat.le_refl _), by rw [Hzl.out]; exact Nat.le_refl _, by unfold maxLen; omega, ⟨He.out, Hzl.out⟩, hext⟩
theorem back_cast {X b : Nat} {Y : Int} (h : Y = (X : Int)) : Y / 2 ^ b % 4294967296 = ((X / 2 ^ b % 4294967296 : Nat) : Int) := by
  subst h
  rw [Int.natCast_emod, Int.natCast_ediv]
  simp
set_option maxHeartbeats 1000000 in
theorem ref_back {b : Nat} (hn : xs.length = n) (hx : Rd w A xs) (hb : b < 32) (h1 : n ≤ 100000) :
    Calls Tryd.prog 55 #[.slice A n c, .int .i64 (b : Int)] w (RetN (fun zs => val zs = val xs / 2 ^ b ∧ Nrm zs ∧ zs.length ≤ n) w) := by
  have hmk : ∀ W : World, (Instr.makeSlice 22 (.int .i64 (n : Int)) (.int .i64 (n : Int))).run Tryd.prog W = .ok (.slice (some ⟨W.heap.size, 0, none⟩) n n) (W.alloc (.cells (madeCells #[.int .u32 0] n) 43)) := fun W => mk_words 22 Tryd.underlying22 n (by omega) W
  have hb0 := BlkN.new w n
  have he0 := (Ext.refl w).alloc (.cells (madeCells #[.int .u32 0] n) 43)
  have Hn := Lib.hid hn
  have Hspec := Lib.hid (val_shrL (b := b) (by omega) hx.1)
  clear hn
  go_enter Tryd.func55, Tryd.ntmps55
  go_wp2
  go_loopw [6] (fun i wr => ∃ (k : Nat) (zs : List Nat), k ≤ n ∧ i = .int .i64 (k : Int) ∧ zs.length = n ∧ W32 zs ∧ zs.take k = (shrL b xs).take k ∧ BlkN wr w.heap.size zs ∧ Ext w wr) (fun i _ => n - (intOf i).toNat)
  case atStart => exact ⟨0, _, by omega, rfl, by simp, W32.replicate _, rfl, hb0, he0⟩
  case round =>
    obtain ⟨k, zs, hk, rfl, hzl, hzw, htk, hblk, hext⟩ := hrel
    have Htk := Lib.hid htk
    clear htk
    by_cases hlt : k < n
    · have hkx : k < xs.length := by rw [Hn.out]; exact hlt
      obtain ⟨b1, o1, rfl, hb1, hc1⟩ := (hx.ext hext).at_ hkx
      have hxk := hx.1.get hkx
      have hc2 := hblk.cell (i := k) (by omega)
      have hfz := hblk.frozen k
      by_cases hnx : k + 1 < n
      · have hkx1 : k + 1 < xs.length := by rw [Hn.out]; exact hnx
        obtain ⟨b2, o2, he, hb2, hc3⟩ := (hx.ext hext).at_ hkx1
        injection he with he
        injection he with he1 he2
        subst he1; subst he2
        have hxn := hx.1.get hkx1
        have hset := take_shr (b := b) (v := (xs[k] + 4294967296 * xs[k + 1]) / 2 ^ b % 4294967296) hkx (by omega) Htk.out (by rw [getD_at hkx1])
        have hor := or_high hxk hxn
        have hlp : (k : Int) + 1 < (n : Int) := by omega
        generalize xs[k + 1] = Y at *
        generalize xs[k] = X at *
        have hXl : X + 4294967296 * Y < 18446744073709551616 := by omega
        generalize X + 4294967296 * Y = Z at *
        have Hset := Lib.hid hset
        have Hv := Lib.hid (back_cast (X := Z) (b := b) rfl)
        clear hset
        go_wp2
        go_roundw
        case rel => exact ⟨k + 1, _, by omega, by go_num, by simp [hzl], hzw.set _ (Nat.mod_lt _ (by omega)), Hset.out, hblk.set k Hv.out, hext.setCell (Nat.le_refl _) _⟩
        case measure => simp [intOf]; omega
      · have hset := take_shr (b := b) (v := xs[k] / 2 ^ b % 4294967296) hkx (by omega) Htk.out (by rw [getD_out (by rw [Hn.out]; exact hnx), Nat.mul_zero, Nat.add_zero])
        have hlp : ¬ (k : Int) + 1 < (n : Int) := by omega
        generalize xs[k] = X at *
        have Hset := Lib.hid hset
        have Hv := Lib.hid (back_cast (X := X) (b := b) rfl)
        clear hset
        go_wp2
        go_roundw
        case rel => exact ⟨k + 1, _, by omega, by go_num, by simp [hzl], hzw.set _ (Nat.mod_lt _ (by omega)), Hset.out, hblk.set k (by first | exact Hv.out | (have := Hv.out; omega)), hext.setCell (Nat.le_refl _) _⟩
        case measure => simp [intOf]; omega
    · obtain rfl : k = n := by omega
      have hfull : zs = shrL b xs := by
        have := Htk.out
        rwa [List.take_of_length_le (by omega), List.take_of_length_le (by rw [shrL_len, Hn.out]; exact Nat.le_refl _)] at this
      have Hfull := Lib.hid hfull
      clear hfull
      go_wp2_with fail
      refine (ref_trimN hzl (hblk.rd0 hzw) (Nat.le_refl _) (by unfold maxLen; omega)).mono ?_
      rintro e w2 ⟨rfl, rfl⟩
      go_wp2_with fail
      go_ret
      have hl := trimL_len zs
      refine ⟨_, _, trimL zs, rfl, ?_, by omega, by unfold maxLen; omega, ⟨by rw [val_trimL, Hfull.out]; exact Hspec.out, Nrm.trimL _, by omega⟩, hext⟩
      rw [trimL_take]
      exact (Own.of_blk hblk hzw (Nat.le_refl _)).take _
end
end Go.Proofs.YtmjmcinnbmjpdaaDoor
namespace Go.Proofs.YtmjmcinnbmjpdaaDoor
open Go.RowKit
attribute [local go_sem ↓] Go.wp_at_zero Go.wp_at_succ
theorem conv_byte (w : World) (d : Nat) (v : Int) (hv : v = 48 + (d : Int)) : (convert 63 9 (.slice (some ⟨w.heap.size, 0, none⟩) 1 1)).run Tryd.prog (w.alloc (.cells #[.int .u8 v] 5)) = .ok (.string (strOfNums [v])) (w.alloc (.cells #[.int .u8 v] 5)) := by
  subst hv
  refine run_convert_bytes_arg _ 63 5 Tryd.underlying63 Tryd.underlying5 w.heap.size 0 1 1 [48 + (d : Int)] rfl (fun i hi => ?_) 9 Tryd.underlying9
  obtain rfl : i = 0 := by omega
  exact new_cell w _ _ 0
def strSize : Value → Nat | .string b => b.size | _ => 0
section
variable {A : Option Addr} {c n : Nat} {xs : List Nat} {w : World} {s : Bool}
set_option maxRecDepth 100000 in
set_option maxHeartbeats 2000000 in
theorem ref_Format (hn : xs.length = n) (hx : Rd w A xs) (hc : n ≤ c) (hcm : c ≤ maxLen) (h1 : n ≤ 10000) :
    Calls Tryd.prog 17 #[.agg #[.bool s, .slice A n c]] w fun e w' => ∃ str : ByteArray, e = .returned (.string str) ∧ str.data.toList = Lib.itoa (ival s xs) ∧ Ext w w' := by
  have Hn := Lib.hid hn
  clear hn
  go_enter Tryd.func17, Tryd.ntmps17
  go_upto_region 1 with (fail)
  obtain ⟨W, hW, extW, bx, hz⟩ := box1 w 24 #[.bool s, .slice A n c]
  rw [← hW]
  clear hW
  have x0 := bx.cell 0 (.bool s) rfl
  have x1 := bx.cell 1 (.slice A n c) rfl
  go_wp2_with fail
  refine (ref_Norm Hn.out (hx.ext extW) hc hcm (by omega)).mono ?_
  rintro e w1 ⟨b1, A1, c1, ps, rfl, hr1, hc1, hm1, hi1, hl1, hx1⟩
  have bx1 := bx.ext hx1
  clear x0 x1
  have x0 := bx1.cell 0 (.bool s) rfl
  have x1 := bx1.cell 1 (.slice A n c) rfl
  have f0 := bx1.frozen 0
  have f1 := bx1.frozen 1
  have hp := put_box (b := b1) (A := A1) (n := ps.length) (c := c1) bx1
  have hrp := hp.2.2.1 A1 ps hr1
  have hep := hp.2.2.2 _ (extW.trans hx1) (Nat.le_refl _)
  have hbp := hp.1
  clear hp
  go_upto_region 2 with (fail)
  refine at_world (fun Y => Ext w Y ∧ Box Y w.heap.size 24 #[.bool b1, .slice A1 ps.length c1] ∧ Rd Y A1 ps) ⟨hep, hbp, hrp⟩ ?_
  clear hep hbp hrp x0 x1 f0 f1 hr1 hx1 bx bx1
  rintro Y ⟨EY, bx, hr1⟩
  have x0 := bx.cell 0 (.bool b1) rfl
  have x1 := bx.cell 1 (.slice A1 ps.length c1) rfl
  have hpl : ps.length ≤ 10000 := by have := Hn.out; omega
  go_wp2
  go_loopw [3, 4] (fun st m wr => ∃ (acc : ByteArray) (A' : Option Addr) (c' : Nat) (ys : List Nat), st = .string acc ∧ m = .slice A' ys.length c' ∧ Rd wr A' ys ∧ Nrm ys ∧ ys.length ≤ c' ∧ c' ≤ maxLen ∧ ys.length ≤ ps.length ∧ fd (val ps) = fd (val ys) ++ acc.data.toList ∧ Ext Y wr) (fun st _ _ => (fd (val ps)).length - strSize st)
  case atStart => exact ⟨⟨#[]⟩, A1, c1, ps, rfl, rfl, hr1, hi1.nrm, hc1, hm1, Nat.le_refl _, by simp, Ext.refl _⟩
  case round =>
    obtain ⟨acc, A', c', ys, rfl, rfl, hr, hnr, hyc, hycm, hyl, hfd, hext⟩ := hrel
    have hacc : acc.size ≤ 100000 := by
      have h1 := congrArg List.length hfd
      rw [List.length_append, ← Lib.size_eq] at h1
      have h2 := fd_len_words hi1.w32
      omega
    have Hfd := Lib.hid hfd
    clear hfd
    by_cases h0 : ys = []
    · subst h0
      have hf := Hfd.out
      rw [show val [] = 0 by rfl, fd_zero, List.nil_append] at hf
      have bxr := bx.ext hext
      have y0 := bxr.cell 0 (.bool b1) rfl
      have y1 := bxr.cell 1 (.slice A1 ps.length c1) rfl
      have hz1 := itoa_fd (ival s xs)
      rw [← hi1.eq] at hz1
      have Hi := Lib.hid hi1
      by_cases hv0 : ps = []
      · subst hv0
        have ha : acc.data.toList = [] := by rw [← hf]; rfl
        have t1 : acc.toList.isEmpty = true := by rw [Lib.toList_data, ha]; rfl
        have hzz : ival b1 [] = 0 := by unfold ival; cases b1 <;> rfl
        rw [if_pos hzz] at hz1
        rw [hi1.eq] at hz1
        have Hz1 := Lib.hid hz1
        clear hz1 hf ha hi1 hzz
        go_wp2_with fail
        go_ret
        exact ⟨_, rfl, Hz1.out.symm, EY.trans hext⟩
      · have hvp : val ps ≠ 0 := fun h => hv0 (hi1.nrm.zero.1 h)
        have hfd : fd (val ps) = Lib.decDigits (val ps) := by unfold fd; rw [if_neg hvp]
        have ha : acc.data.toList ≠ [] := by
          rw [← hf, hfd]
          intro h
          have h1 := congrArg List.length h
          have h2 := Lib.decDigits_length (val ps)
          have h3 := Lib.nDigits_pos (val ps)
          rw [h2] at h1
          simp at h1
          omega
        have t1 : acc.toList.isEmpty = false := by
          rw [Lib.toList_data]
          cases hh : acc.data.toList with
          | nil => exact absurd hh ha
          | cons c t => rfl
        cases b1 with
        | true =>
          have hzz : ival true ps = -(val ps : Int) := rfl
          rw [hzz, if_neg (by omega), if_pos (by omega), show (-(val ps : Int)).natAbs = val ps by omega, hf, ← hzz, hi1.eq] at hz1
          have Hz1 := Lib.hid hz1
          clear hz1 hf ha hi1 hzz hfd hvp
          go_wp2_with fail
          go_ret
          exact ⟨_, rfl, by rw [append_toList, Hz1.out]; rfl, EY.trans hext⟩
        | false =>
          have hzz : ival false ps = (val ps : Int) := rfl
          rw [hzz, if_neg (by omega), if_neg (by omega), show ((val ps : Int)).natAbs = val ps by omega, hf, ← hzz, hi1.eq] at hz1
          have Hz1 := Lib.hid hz1
          clear hz1 hf ha hi1 hzz hfd hvp
          go_wp2_with fail
          go_ret
          exact ⟨_, rfl, Hz1.out.symm, EY.trans hext⟩
    · have hpos : 0 < ys.length := List.length_pos_iff.2 h0
      have hvp : 0 < val ys := by
        have : val ys ≠ 0 := fun h => h0 (hnr.zero.1 h)
        omega
      have Hnr := Lib.hid hnr
      clear hnr
      go_wp2_with fail
      refine (ref_by (v := 10) rfl hr (by omega) (by omega) (by omega)).mono ?_
      rintro e w2 ⟨A2, c2, zs, rfl, ho2, hc2, hm2, hv2, hn2, hl2, hx2⟩
      have Hv2 := Lib.hid hv2
      have Hn2 := Lib.hid hn2
      clear hv2 hn2
      have hd10 : val ys % 10 < 10 := Nat.mod_lt _ (by omega)
      have hfs := fd_step hvp
      generalize hdd : val ys % 10 = d at *
      have hcv := conv_byte w2 d (48 + (d : Int)) rfl
      have hsl : (strOfNums [48 + (d : Int)]).data.toList = [UInt8.ofNat (48 + d)] := by
        rw [strOfNums_data]
        simp only [List.map_cons, List.map_nil]
        congr 2
      have hss : (strOfNums [48 + (d : Int)]).size ≤ 1 := by rw [strOfNums_size]; simp
      have hs1 : 1 ≤ (strOfNums [48 + (d : Int)]).size := by rw [strOfNums_size]; simp
      generalize strOfNums [48 + (d : Int)] = st at *
      have hall : fd (val ps) = fd (val zs) ++ (st ++ acc).data.toList := by rw [Hfd.out, hfs, Hv2.out, append_toList, hsl, List.append_assoc]
      have hsz : (st ++ acc).size = st.size + acc.size := by rw [Lib.size_eq, append_toList, List.length_append, ← Lib.size_eq, ← Lib.size_eq]
      have hmeas : (fd (val ps)).length - (st ++ acc).size < (fd (val ps)).length - acc.size := by
        have h1 := congrArg List.length hall
        rw [List.length_append, ← Lib.size_eq, hsz] at h1
        rw [hsz]
        omega
      have Hall := Lib.hid hall
      have Hmeas := Lib.hid hmeas
      clear hdd hfs hsl hall hsz hmeas
      go_wp2_with fail
      go_roundw
      case rel => exact ⟨st ++ acc, A2, c2, zs, rfl, rfl, ho2.rd.ext ((Ext.refl w2).alloc _), Hn2.out, hc2, hm2, by omega, Hall.out, (hext.trans hx2).alloc _⟩
      case measure => exact Hmeas.out
end
end Go.Proofs.YtmjmcinnbmjpdaaDoor
