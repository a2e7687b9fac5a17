/- Walks: products of words in new memory, both sides. -/
import Derived.Test.YtmjmcinnbmjpdaaWe
namespace Go.Proofs.Ytmjmcinnbmjpdaa
open Go.RowKit
theorem mk_wordsA (T : TypeId) (hT : Try.prog.underlying T = some (.slice 46)) (n m : Nat) (hn : n + m ≤ 1000000) (W : World) :
    (Instr.makeSlice T (.int .i64 ((n : Int) + (m : Int))) (.int .i64 ((n : Int) + (m : Int)))).run Try.prog W = .ok (.slice (some ⟨W.heap.size, 0, none⟩) (n + m) (n + m)) (W.alloc (.cells (madeCells #[.int .u32 0] (n + m)) 46)) := by
  have := mk_words T hT (n + m) hn W
  rwa [Int.natCast_add] at this
section
variable {A B : Option Addr} {c d n m : Nat} {xs ys : List Nat} {w : World}
set_option maxHeartbeats 1000000 in
theorem int_multiply_s (hn : xs.length = n) (hm : ys.length = m) (hx : Rd w A xs) (hy : Rd w B ys) (h64 : min n m < 64) (h1 : n + m ≤ 1000000) :
    Calls Try.prog 62 #[.slice A n c, .slice B m d] w (RetN (fun zs => val zs = val xs * val ys ∧ Nrm zs ∧ zs.length ≤ xs.length + ys.length) w) := by
  have hmk := mk_wordsA 48 Try.underlying48 n m h1
  have hf : 0 + val xs * val ys < 4294967296 ^ (n + m) := by rw [Nat.zero_add, ← hn, ← hm]; exact prod_lt hx.1 hy.1
  have Hf := Lib.hid hf
  have Hn := Lib.hid hn
  have Hm := Lib.hid hm
  clear hf hn hm
  go_enter Try.func62, Try.ntmps62
  go_wp2_with fail
  refine (int_addProduct_s (pre := []) (zs0 := List.replicate (n + m) 0) (post := []) (by simpa using BlkN.new w (n + m)) rfl (by simp) (W32.replicate _) (hx.ext ((Ext.refl w).alloc _)) Hn.out (hx.apart (Nat.le_refl _)) (hy.ext ((Ext.refl w).alloc _)) Hm.out (hy.apart (Nat.le_refl _)) h64 (Nat.le_refl _) (by rw [val_replicate]; exact Hf.out) h1 (Nat.le_refl _) (by unfold maxLen; omega)).mono ?_
  rintro e w2 ⟨zs, rfl, hzl, hzw, hzb, hzv, hmod⟩
  have hext := hmod.ext ((Ext.refl w).alloc _) (Nat.le_refl _)
  simp only [List.nil_append, List.append_nil] at hzb
  have Hzl := Lib.hid hzl
  have Hzv := Lib.hid hzv
  clear hzl hzv hmod
  go_wp2_with fail
  refine (int_trimN (xs := zs) Hzl.out (hzb.rd0 hzw) (Nat.le_refl _) (by unfold maxLen; omega)).mono ?_
  rintro e w3 ⟨rfl, rfl⟩
  go_wp2_with fail
  go_ret
  have hlen := trimL_len zs
  have hz := Hzl.out
  have hn := Hn.out
  have hm := Hm.out
  refine ⟨_, _, trimL zs, rfl, ?_, by omega, by unfold maxLen; omega, ⟨by rw [val_trimL, Hzv.out, val_replicate, Nat.zero_add], Nrm.trimL _, by omega⟩, hext⟩
  rw [trimL_take]
  exact (Own.of_blk hzb hzw (Nat.le_refl _)).take _
set_option maxHeartbeats 1000000 in
theorem ref_times1 (hn : xs.length = n) (hm : ys.length = m) (hx : Rd w A xs) (hy : Rd w B ys) (h1 : n + m ≤ 1000000) :
    Calls Try.prog 63 #[.slice A n c, .slice B m d] w (RetN (fun zs => val zs = val xs * val ys ∧ Nrm zs ∧ zs.length ≤ xs.length + ys.length) w) := by
  have hmk := mk_wordsA 22 Try.underlying22 n m h1
  have Hn := Lib.hid hn
  have Hm := Lib.hid hm
  clear hn hm
  go_enter Try.func63, Try.ntmps63
  go_wp2
  go_loopw [6] (fun i wr => ∃ (k : Nat) (zs : List Nat), k ≤ n ∧ i = .int .i64 (k : Int) ∧ zs.length = n + m ∧ W32 zs ∧ val (zs.take (k + m)) = val (xs.take k) * val ys ∧ BlkN wr w.heap.size zs ∧ Ext w wr) (fun i _ => n - (intOf i).toNat)
  case atStart => exact ⟨0, List.replicate (n + m) 0, by omega, rfl, by simp, W32.replicate _, by have := times_start (zs := List.replicate (n + m) 0) (ys := ys) (m := m) (fun x hx => (List.mem_replicate.1 hx).2); simpa using this, BlkN.new w _, (Ext.refl w).alloc _⟩
  case round =>
    obtain ⟨i, zs, hi, rfl, hzl, hzw, hzv, hblk, hext⟩ := hrel
    have Hzl := Lib.hid hzl
    have Hzv := Lib.hid hzv
    clear hzl hzv
    by_cases hlt : i < n
    · have hb1 : BlkN wr w.heap.size (zs.take i ++ (zs.drop i).take m ++ zs.drop (i + m)) := by rw [mid_split]; exact hblk
      have hix : i < xs.length := by rw [Hn.out]; exact hlt
      have hxi := hx.1.get hix
      go_wp2
      go_loopw [7, 8] (fun cr j wk => ∃ (k : Nat) (mid : List Nat) (cy : Nat), k ≤ m ∧ j = .int .i64 (k : Int) ∧ cr = .int .u64 (cy : Int) ∧ MulInv ((zs.drop i).take m) ys xs[i] k mid cy ∧ BlkN wk w.heap.size (zs.take i ++ mid ++ zs.drop (i + m)) ∧ Ext w wk) (fun _ j _ => m - (intOf j).toNat)
      case atStart => exact ⟨0, _, 0, by omega, rfl, rfl, MulInv.start ((hzw.drop i).take m), hb1, hext⟩
      case round =>
        clear hb1 hblk hext
        obtain ⟨k, mid, cy, hk, rfl, rfl, hinv, hblk, hext⟩ := hrel
        have hcy := hinv.hcy
        have hml : mid.length = m := by rw [hinv.len, List.length_take, List.length_drop, Hzl.out]; omega
        have hml1 : m ≤ mid.length := by omega
        have hml2 : mid.length ≤ m := by omega
        have hli : (zs.take i).length = i := by rw [List.length_take, Hzl.out]; omega
        have Hml := Lib.hid hml
        have Hli := Lib.hid hli
        clear hml hli
        by_cases hlk : k < m
        · have hky : k < ys.length := by rw [Hm.out]; exact hlk
          obtain ⟨b, off, rfl, hb, hc1⟩ := (hx.ext hext).at_ hix
          obtain ⟨b', off', rfl, hb', hc2⟩ := (hy.ext hext).at_ (i := k) (by rw [Hm.out]; exact hlk)
          have hyk := hy.1.get (k := k) (by rw [Hm.out]; exact hlk)
          obtain ⟨b2, off2, he, hb2, hc3⟩ := (hblk.mid hinv.w32 Hli.out).at_ (i := k) (by omega)
          injection he with he
          injection he with he1 he2
          subst he1; subst he2
          have hzk := hinv.w32.get (k := k) (by omega)
          have hfz := hblk.frozen (i + k)
          have hmi := (mul_word_int hxi hyk).1
          have hmj := (mul_word_int hxi hyk).2
          have i1 : (0 : Int) ≤ (i : Int) := by omega
          have i2 : (i : Int) < (n : Int) := by omega
          have i3 : (0 : Int) ≤ (k : Int) := by omega
          have i4 : (k : Int) < (m : Int) := by omega
          have i5 : (0 : Int) ≤ (i : Int) + (k : Int) := by omega
          have i6 : (i : Int) + (k : Int) < (n : Int) + (m : Int) := by omega
          go_wp2
          go_quiet (fail)
          go_wp2
          go_roundw
          case rel => exact ⟨k + 1, _, (cy + (ys[k] * xs[i] + mid[k])) / 4294967296, by omega, by go_num, u64_div _ (cast_mac2 _ _ _ _), hinv.step hy.1 hxi (by omega) (by rw [Hm.out]; exact hlk) rfl, (hblk.drewN nq).setMid Hli.out (by omega) (u32_mod _ (cast_mac2 _ _ _ _)), (hext.drewN nq).setCell (Nat.le_refl _) _⟩
          case measure => simp [intOf]; omega
        · have hk' : k = m := by omega
          have hinv' : MulInv ((zs.drop i).take m) ys xs[i] ys.length mid cy := by
            have hk2 : k = ys.length := by rw [Hm.out]; exact hk'
            rw [← hk2]; exact hinv
          have Hd := Lib.hid (hinv'.done (by rw [Hm.out, Hml.out]; exact Nat.le_refl _))
          have hzt : (zs.take i ++ mid ++ zs.drop (i + m)).length = n + m := by
            rw [List.length_append, List.length_append, Hli.out, Hml.out, List.length_drop, Hzl.out]; omega
          have Hzt := Lib.hid hzt
          clear hzt
          have hlast := hblk.cell (i := i + m) (by rw [Hzt.out]; omega)
          have hfz := hblk.frozen (i + m)
          have i1 : (0 : Int) ≤ (i : Int) := by omega
          have i5 : (0 : Int) ≤ (i : Int) + (m : Int) := by omega
          have i6 : (i : Int) + (m : Int) < (n : Int) + (m : Int) := by omega
          have hw2 : W32 (zs.take i ++ mid ++ zs.drop (i + m)) := ((hzw.take i).append hinv.w32).append (hzw.drop _)
          clear hk'
          go_wp2
          go_roundw
          case rel =>
            refine ⟨i + 1, _, by omega, by go_num, ?_, hw2.set (i + m) hcy, times_step hix (by rw [Hzl.out]; omega) Hm.out Hml.out Hzv.out (by have h := Hd.out; rw [Hm.out] at h; exact h), hblk.set (i + m) (by go_num), hext.setCell (Nat.le_refl _) _⟩
            rw [List.length_set]
            exact Hzt.out
          case measure => simp [intOf]; omega
    · have hk' : i = n := by omega
      have hrd := hblk.rd0 hzw
      have hfin : val zs = val xs * val ys := by
        have h := Hzv.out
        rw [List.take_of_length_le (by rw [Hzl.out]; omega), List.take_of_length_le (by rw [Hn.out]; omega)] at h
        exact h
      have Hfin := Lib.hid hfin
      clear hfin hk'
      go_wp2_with (go_at_call 51; refine (ref_trimN (xs := zs) Hzl.out hrd (Nat.le_refl _) (by unfold maxLen; omega)).mono ?_; rintro e w' ⟨rfl, rfl⟩)
      go_ret
      have hlen := trimL_len zs
      have hz := Hzl.out
      have hn := Hn.out
      have hm := Hm.out
      refine ⟨_, _, trimL zs, rfl, ?_, by omega, by unfold maxLen; omega, ⟨by rw [val_trimL, Hfin.out], Nrm.trimL _, by omega⟩, hext⟩
      rw [trimL_take]
      exact (Own.of_blk hblk hzw (Nat.le_refl _)).take _
end
end Go.Proofs.Ytmjmcinnbmjpdaa
