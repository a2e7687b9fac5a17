/- Walks: shifts to the right. -/
import Derived.Test.YtmjmcinnbmjpdaaWt
import Derived.Test.YtmjmcinnbmjpdaaWd3
namespace Go.Proofs.Ytmjmcinnbmjpdaa
open Go.RowKit
theorem or_cast {x y b c : Nat} (hx : x < 4294967296) : bits .or .u32 ((x : Int) / 2 ^ b) ((y : Int) * 2 ^ c % 4294967296) = ((x / 2 ^ b ||| (y * 2 ^ c % 4294967296) : Nat) : Int) := by
  rw [show (x : Int) / 2 ^ b = ((x / 2 ^ b : Nat) : Int) by simp, show (y : Int) * 2 ^ c % 4294967296 = ((y * 2 ^ c % 4294967296 : Nat) : Int) by simp]
  exact u32_or_nat _ _ (Nat.lt_of_le_of_lt (Nat.div_le_self _ _) hx) (Nat.mod_lt _ (by omega))
section
variable {A B : Option Addr} {c d n m : Nat} {xs ys : List Nat} {w : World} {s t : Bool}
set_option maxHeartbeats 2000000 in
theorem int_shiftRight {k : Nat} (hn : xs.length = n) (hx : Rd w A xs) (hc : n ≤ c) (hcm : c ≤ maxLen) (hk : k ≤ 100000) (h1 : n ≤ 10000) :
    Calls Try.prog 86 #[.slice A n c, .int .i64 (k : Int)] w (RetN (fun zs => val zs = val xs / 2 ^ k ∧ Nrm zs ∧ zs.length ≤ n) w) := by
  by_cases hlt : n ≤ k / 32
  · have Hn := Lib.hid hn
    clear hn
    have hge : ((n : Int)) ≤ (k : Int) / 32 := by omega
    go_enter Try.func86, Try.ntmps86
    go_wp2_with fail
    go_ret
    refine ⟨none, 0, [], rfl, ⟨W32.nil, .inl rfl⟩, by simp, by unfold maxLen; omega, ⟨?_, rfl, by simp⟩, Ext.refl _⟩
    have := shr_spec hx.1 k
    rw [List.drop_eq_nil_of_le (by have := Hn.out; omega)] at this
    exact this
  · have hnl := hn
    obtain ⟨b1, off1, rfl, hb1, hc1⟩ := hx.at_ (i := 0) (by omega)
    have hd := hx.drop (k / 32)
    have hlen : (xs.drop (k / 32)).length = n - k / 32 := by rw [List.length_drop, hn]
    have hspec := shr_spec hx.1 k
    generalize hys : xs.drop (k / 32) = ys at hd hlen hspec
    have Hn := Lib.hid hn
    have Hys := Lib.hid hys
    have Hspec := Lib.hid hspec
    have Hlen := Lib.hid hlen
    clear hn hys hspec hc1 hnl hlen
    unfold maxLen at hcm
    generalize hL : n - k / 32 = L at *
    have hL0 : 0 < L := by omega
    have hmk : ∀ W : World, (Instr.makeSlice 48 (.int .i64 (L : Int)) (.int .i64 (L : Int))).run Try.prog W = .ok (.slice (some ⟨W.heap.size, 0, none⟩) L L) (W.alloc (.cells (madeCells #[.int .u32 0] L) 46)) := fun W => mk_words 48 Try.underlying48 L (by omega) W
    have hge : ¬ ((n : Int)) ≤ (k : Int) / 32 := by omega
    have hkc : k / 32 ≤ c := by omega
    have hkn : k / 32 ≤ n := by omega
    go_enter Try.func86, Try.ntmps86
    go_wp2_with fail
    have hb0 := BlkN.new w L
    go_loopw [21] (fun i wr => ∃ (j : Nat) (zs : List Nat), j ≤ L ∧ i = .int .i64 (j : Int) ∧ zs.length = L ∧ W32 zs ∧ zs.take j = (shrL (k % 32) ys).take j ∧ BlkN wr w.heap.size zs ∧ Ext w wr) (fun i _ => L - (intOf i).toNat)
    case atStart => exact ⟨0, List.replicate L 0, by omega, rfl, by simp, W32.replicate _, rfl, hb0, (Ext.refl w).alloc _⟩
    case round =>
      obtain ⟨j, zs, hj, rfl, hzl, hzw, htk, hblk, hext⟩ := hrel
      have Htk := Lib.hid htk
      clear htk
      by_cases hjl : j < L
      · obtain ⟨b2, off2, he, hb2, hc2⟩ := (hd.ext hext).at_ (i := j) (by rw [Hlen.out]; exact hjl)
        injection he with he
        injection he with he1 he2
        subst he1; subst he2
        have hyl : j < ys.length := by rw [Hlen.out]; exact hjl
        have hyj := hd.1.get hyl
        have hcz := hblk.cell (i := j) (by omega)
        have hzj := hzw.get (k := j) (by omega)
        have hfz := hblk.frozen j
        by_cases hnx : j + 1 < L
        · have Hv1 := Lib.hid (show ((ys[j] : Nat) : Int) / 2 ^ (k % 32) = ((ys[j] / 2 ^ (k % 32) : Nat) : Int) by simp)
          have hyn := hd.1.get (k := j + 1) (by rw [Hlen.out]; exact hnx)
          have hlp : (j : Int) + 1 < (L : Int) := by omega
          go_upto_region 10 with (fail)
          refine at_world (fun W => BlkN W w.heap.size (zs.set j (ys[j] / 2 ^ (k % 32))) ∧ Ext w W) ⟨hblk.set j Hv1.out, hext.setCell (Nat.le_refl _) _⟩ ?_
          rintro W ⟨hblkW, hextW⟩
          obtain ⟨b3, off3, he, hb3, hc3⟩ := (hd.ext hextW).at_ (i := j + 1) (by rw [Hlen.out]; exact hnx)
          injection he with he
          injection he with he1 he2
          subst he1; subst he2
          have hcW := hblkW.cell (i := j) (by simp; omega)
          rw [List.getElem_set_self] at hcW
          have hfW := hblkW.frozen j
          have hbW := hblkW.lt
          go_region
          go_wp2
          go_roundw
          case rel =>
            have hj1 : j + 1 < ys.length := by rw [Hlen.out]; exact hnx
            have hval := (or_cast (x := ys[j]) (y := ys[j + 1]) (b := k % 32) (c := 32 - k % 32) hyj).trans (congrArg Int.ofNat (shr_word (x := ys[j]) (y := ys[j + 1]) (b := k % 32) hyj (by omega)))
            have hlt2 : (ys[j] + 4294967296 * ys[j + 1]) / 2 ^ (k % 32) % 4294967296 < 4294967296 := Nat.mod_lt _ (by omega)
            have hset := hblkW.set j hval
            rw [List.set_set] at hset
            refine ⟨j + 1, _, by omega, by go_num, by simp [hzl], hzw.set _ hlt2, take_shr (b := k % 32) hyl (by omega) Htk.out ?_, hset.drewN 1, (hextW.setCell (Nat.le_refl _) _).drew⟩
            rw [getD_at (by rw [Hlen.out]; exact hnx)]
          case measure => simp [intOf]; omega
        · have hnx' : ¬ ((j : Int) + 1 < (L : Int)) := by omega
          have Hv1 := Lib.hid (show ((ys[j] : Nat) : Int) / 2 ^ (k % 32) = ((ys[j] / 2 ^ (k % 32) : Nat) : Int) by simp)
          have hlt2 : ys[j] / 2 ^ (k % 32) < 4294967296 := Nat.lt_of_le_of_lt (Nat.div_le_self _ _) hyj
          go_wp2
          go_roundw
          case rel =>
            refine ⟨j + 1, zs.set j (ys[j] / 2 ^ (k % 32)), by omega, by go_num, by simp [hzl], hzw.set _ hlt2, take_shr (b := k % 32) hyl (by omega) Htk.out ?_, hblk.set j Hv1.out, hext.setCell (Nat.le_refl _) _⟩
            rw [getD_out (by rw [Hlen.out]; omega)]
            exact shr_word0 hyj
          case measure => simp [intOf]; omega
      · have hjl' : j = L := by omega
        subst hjl'
        go_wp2_with (go_at_call 44; refine (int_trimN (xs := zs) hzl (hblk.rd0 hzw) (Nat.le_refl _) (by unfold maxLen; omega)).mono ?_; rintro e w3 ⟨rfl, rfl⟩)
        go_ret
        have hl := trimL_len zs
        have hfull : zs = shrL (k % 32) ys := by
          have := Htk.out
          rwa [List.take_of_length_le (by omega), List.take_of_length_le (by rw [shrL_len, Hlen.out]; omega)] at this
        refine ⟨_, _, trimL zs, rfl, ?_, by omega, by unfold maxLen; omega, ⟨by rw [val_trimL, hfull]; exact Hspec.out, Nrm.trimL _, by omega⟩, hext⟩
        rw [trimL_take]
        exact (Own.of_blk hblk hzw (Nat.le_refl _)).take _
end
end Go.Proofs.Ytmjmcinnbmjpdaa
