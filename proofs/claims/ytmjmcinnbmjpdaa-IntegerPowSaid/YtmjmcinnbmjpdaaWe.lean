/- Walks: products of words. -/
import Derived.Test.YtmjmcinnbmjpdaaWc
import Derived.Test.YtmjmcinnbmjpdaaNum2
namespace Go.Proofs.Ytmjmcinnbmjpdaa
open Go.RowKit
theorem Mod.alloc {a w : World} {g : Nat} (h : Mod a w g) (o : Obj) : Mod a (w.alloc o) g := h.trans (((Ext.refl w).alloc o).mod g)
theorem Mod.ext' {a b c : World} {g : Nat} (h : Mod a b g) (k : Ext b c) : Mod a c g := h.trans (k.mod g)
theorem split_mid (pre zs post : List Nat) (m : Nat) : pre ++ zs ++ post = (pre ++ zs.take m) ++ zs.drop m ++ post := by
  rw [List.append_assoc pre (zs.take m), List.take_append_drop]
section
variable {A B : Option Addr} {c d m : Nat} {xs ys : List Nat} {w : World}
set_option maxHeartbeats 1000000 in
theorem int_addMultiple {g off n cz : Nat} {pre zs0 post : List Nat} {q : Nat} (hblk0 : BlkN w g (pre ++ zs0 ++ post)) (hoff : pre.length = off) (hn : zs0.length = n) (hw : W32 zs0) (hx : Rd w A xs) (hm : xs.length = m) (hap : Apart A xs g)
    (hl : m ≤ n) (hq : q < 4294967296) (hf : val zs0 + val xs * q < 4294967296 ^ n) (h1 : n ≤ 1000000) (hcz : n ≤ cz) (hczm : cz ≤ maxLen) :
    Calls Try.prog 92 #[.slice (some ⟨g, off, none⟩) n cz, .slice A m c, .int .u32 (q : Int)] w (Turned w g pre n post fun zs => val zs = val zs0 + val xs * q) := by
  unfold maxLen at hczm
  have Hoff := Lib.hid hoff
  have Hn := Lib.hid hn
  have Hm := Lib.hid hm
  have Hf := Lib.hid hf
  clear hoff hn hm hf
  go_enter Try.func92, Try.ntmps92
  go_wp2
  go_loopw [6, 16] (fun cr i wr => ∃ (k : Nat) (zs : List Nat) (cy : Nat), k ≤ m ∧ i = .int .i64 (k : Int) ∧ cr = .int .u64 (cy : Int) ∧ MulInv zs0 xs q k zs cy ∧ BlkN wr g (pre ++ zs ++ post) ∧ Mod w wr g) (fun _ i _ => m - (intOf i).toNat)
  case atStart => exact ⟨0, zs0, 0, by omega, rfl, rfl, MulInv.start hw, hblk0, Mod.refl _ _⟩
  case round =>
    obtain ⟨k, zs, cy, hk, rfl, rfl, hinv, hblk, hmod⟩ := hrel
    have hcy := hinv.hcy
    have hzl : n ≤ zs.length := by rw [hinv.len, Hn.out]; omega
    have hzl2 : zs.length ≤ n := by rw [hinv.len, Hn.out]; omega
    have hxl : m ≤ xs.length := by rw [Hm.out]; omega
    have hxl2 : xs.length ≤ m := by rw [Hm.out]; omega
    by_cases hlt : k < m
    · obtain ⟨b, off', rfl, hb, hc1⟩ := (hx.mod hmod hap).at_ (i := k) (by omega)
      have hxk := hx.1.get (k := k) (by omega)
      obtain ⟨b2, off2, he, hb2, hc2⟩ := (hblk.mid hinv.w32 Hoff.out).at_ (i := k) (by omega)
      injection he with he
      injection he with he1 he2
      subst he1; subst he2
      have hzk := hinv.w32.get (k := k) (by omega)
      have hfz := hblk.frozen (off + k)
      have hmi := (mul_word_int hxk hq).1
      have hmj := (mul_word_int hxk hq).2
      go_wp2
      go_roundw
      case rel => exact ⟨k + 1, _, (cy + (xs[k] * q + zs[k])) / 4294967296, by omega, by go_num, u64_div _ (cast_mac _ _ _ _), hinv.step hx.1 hq (by omega) (by omega) (s := cy + (xs[k] * q + zs[k])) rfl, hblk.setMid Hoff.out (by omega) (u32_mod _ (cast_mac _ _ _ _)), hmod.setCell _ _⟩
      case measure => simp [intOf]; omega
    · have hk' : k = xs.length := by omega
      have hmx : xs.length ≤ zs.length := by omega
      subst hk'
      have Hd := Lib.hid (hinv.done hmx)
      by_cases hc0 : cy = 0
      · subst hc0
        go_wp2
        go_end0
        exact ⟨zs, rfl, by omega, hinv.w32, hblk, by have h := Hd.out; rw [Nat.mul_zero, Nat.add_zero] at h; exact h, hmod⟩
      · have hmn : m < n := by
          rcases Nat.lt_or_ge m n with h | h
          · exact h
          · exact absurd (no_carry (n := n) (by omega) Hd.out (by omega) Hf.out) hc0
        have hc1 : (((cy : Nat) : Int) == 0) = false := by rw [beq_eq_false_iff_ne]; omega
        have hc2 : (((cy : Nat) : Int) != 0) = true := by rw [bne_iff_ne]; omega
        have hcm : m < cz := by omega
        have hcm' : ¬ cz = m := by omega
        have hb1 := hblk.ext ((Ext.refl wr).alloc (.cells #[.int .u32 (cy : Int)] 46))
        have hsp := split_mid pre zs post m
        rw [hsp] at hb1
        have hnew := BlkN.lit wr [cy] #[.int .u32 (cy : Int)] rfl
        have hrd := hnew.rd0 (W32.one hcy)
        have hap2 : Apart (some ⟨wr.heap.size, 0, none⟩) [cy] g := by
          intro _ a ha
          injection ha with ha
          subst ha
          have := hblk.lt
          show wr.heap.size ≠ g
          omega
        have hmod1 := hmod.alloc (.cells #[.int .u32 (cy : Int)] 46)
        have Hsp := Lib.hid hsp
        clear hsp
        go_wp2_with (go_at_call 74; refine (int_addTo (n := n - m) (pre := pre ++ zs.take m) (zs0 := zs.drop m) (post := post) _ _ [cy] _ hb1 (by rw [List.length_append, Hoff.out, List.length_take]; omega) (by rw [List.length_drop]; omega) (hinv.w32.drop m) hrd rfl hap2 (by simp; omega) (by omega)).mono ?_; rintro e w2 ⟨zt, rfl, hzl, hzw, hzb, ⟨c2, hc2, hval⟩, hmod2⟩)
        go_end0
        have hm := Hm.out
        subst hm
        refine ⟨zs.take xs.length ++ zt, rfl, by rw [List.length_append, List.length_take, hzl]; omega, (hinv.w32.take _).append hzw, by rw [← List.append_assoc pre]; exact hzb, ?_, hmod1.trans hmod2⟩
        exact mul_tail (n := n) (c2 := c2) (by omega) Hd.out hl (by rw [hval, val_one]) Hf.out
set_option maxHeartbeats 1000000 in
theorem int_addProduct1 {g off n cz p : Nat} {pre zs0 post : List Nat} (hblk0 : BlkN w g (pre ++ zs0 ++ post)) (hoff : pre.length = off) (hn : zs0.length = n) (hw : W32 zs0) (hx : Rd w A xs) (hm : xs.length = m) (hap : Apart A xs g)
    (hy : Rd w B ys) (hp : ys.length = p) (hbp : Apart B ys g) (hpm : p ≤ m) (hp64 : p < 64) (hl : m + p ≤ n) (hf : val zs0 + val xs * val ys < 4294967296 ^ n) (h1 : n ≤ 1000000) (hcz : n ≤ cz) (hczm : cz ≤ maxLen) :
    Calls Try.prog 78 #[.slice (some ⟨g, off, none⟩) n cz, .slice A m c, .slice B p d] w (Turned w g pre n post fun zs => val zs = val zs0 + val xs * val ys) := by
  have Hczm := Lib.hid hczm
  unfold maxLen at hczm
  have Hoff := Lib.hid hoff
  have Hn := Lib.hid hn
  have Hm := Lib.hid hm
  have Hp := Lib.hid hp
  have Hf := Lib.hid hf
  clear hoff hn hm hp hf
  have ht1 : decide ((p : Int) < 64) = true := decide_eq_true (by omega)
  have ht2 : decide ((m : Int) < (p : Int)) = false := decide_eq_false (by omega)
  have ht3 : decide (m < p) = false := decide_eq_false (by omega)
  go_enter Try.func78, Try.ntmps78
  go_wp2
  go_loopw [26] (fun i wr => ∃ (k : Nat) (zs : List Nat), k ≤ p ∧ i = .int .i64 (k : Int) ∧ zs.length = n ∧ W32 zs ∧ val zs = val zs0 + val xs * val (ys.take k) ∧ BlkN wr g (pre ++ zs ++ post) ∧ Mod w wr g) (fun i _ => p - (intOf i).toNat)
  case atStart => exact ⟨0, zs0, by omega, rfl, Hn.out, hw, by simp [val], hblk0, Mod.refl _ _⟩
  case round =>
    obtain ⟨k, zs, hk, rfl, hzl, hzw, hzv, hblk, hmod⟩ := hrel
    have Hzl := Lib.hid hzl
    have Hzv := Lib.hid hzv
    clear hzl hzv
    have hyl : p ≤ ys.length := by rw [Hp.out]; omega
    have hyl2 : ys.length ≤ p := by rw [Hp.out]; omega
    by_cases hlt : k < p
    · obtain ⟨b, off', rfl, hb, hc1⟩ := (hy.mod hmod hbp).at_ (i := k) (by omega)
      have hyk := hy.1.get (k := k) (by omega)
      have hkc : k < cz := by omega
      have hkc' : ¬ cz = k := by omega
      have hb1 : BlkN wr g ((pre ++ zs.take k) ++ zs.drop k ++ post) := by rw [← split_mid]; exact hblk
      go_wp2_with (go_at_call 92; refine (int_addMultiple (n := n - k) (m := m) (pre := pre ++ zs.take k) (zs0 := zs.drop k) (post := post) (q := ys[k]) hb1 (by rw [List.length_append, Hoff.out, List.length_take, Hzl.out]; omega) (by rw [List.length_drop, Hzl.out]) (hzw.drop k) (hx.mod hmod hap) Hm.out hap (by omega) hyk (prod_fits (by omega) (by omega) Hzl.out Hzv.out Hf.out) (by omega) (by omega) (Nat.le_trans (Nat.sub_le _ _) Hczm.out)).mono ?_; rintro e w2 ⟨zt, rfl, hztl, hztw, hztb, hztv, hmod2⟩)
      go_roundw
      case rel =>
        refine ⟨k + 1, zs.take k ++ zt, by omega, by go_num, ?_, (hzw.take k).append hztw, prod_step (by omega) (by omega) Hzl.out Hzv.out hztv, by rw [← List.append_assoc pre]; exact hztb, hmod.trans hmod2⟩
        have := Hzl.out
        rw [List.length_append, List.length_take, hztl]; omega
      case measure => simp [intOf]; omega
    · have Hfin := Lib.hid (by rw [Hzv.out, List.take_of_length_le (by omega)] : val zs = val zs0 + val xs * val ys)
      go_wp2
      go_end0
      exact ⟨zs, rfl, Hzl.out, hzw, hblk, Hfin.out, hmod⟩
set_option maxHeartbeats 1000000 in
theorem int_addProduct2 {g off n cz p : Nat} {pre zs0 post : List Nat} (hblk0 : BlkN w g (pre ++ zs0 ++ post)) (hoff : pre.length = off) (hn : zs0.length = n) (hw : W32 zs0) (hx : Rd w A xs) (hm : xs.length = m) (hap : Apart A xs g)
    (hy : Rd w B ys) (hp : ys.length = p) (hbp : Apart B ys g) (hpm : m < p) (hp64 : m < 64) (hl : m + p ≤ n) (hf : val zs0 + val xs * val ys < 4294967296 ^ n) (h1 : n ≤ 1000000) (hcz : n ≤ cz) (hczm : cz ≤ maxLen) :
    Calls Try.prog 78 #[.slice (some ⟨g, off, none⟩) n cz, .slice A m c, .slice B p d] w (Turned w g pre n post fun zs => val zs = val zs0 + val xs * val ys) := by
  have Hczm := Lib.hid hczm
  unfold maxLen at hczm
  have Hoff := Lib.hid hoff
  have Hn := Lib.hid hn
  have Hm := Lib.hid hm
  have Hp := Lib.hid hp
  have Hf := Lib.hid hf
  clear hoff hn hm hp hf
  have ht1 : decide ((m : Int) < 64) = true := decide_eq_true (by omega)
  have ht2 : decide ((m : Int) < (p : Int)) = true := decide_eq_true (by omega)
  have ht3 : decide (m < p) = true := decide_eq_true (by omega)
  go_enter Try.func78, Try.ntmps78
  go_wp2
  go_loopw [26] (fun i wr => ∃ (k : Nat) (zs : List Nat), k ≤ m ∧ i = .int .i64 (k : Int) ∧ zs.length = n ∧ W32 zs ∧ val zs = val zs0 + val ys * val (xs.take k) ∧ BlkN wr g (pre ++ zs ++ post) ∧ Mod w wr g) (fun i _ => m - (intOf i).toNat)
  case atStart => exact ⟨0, zs0, by omega, rfl, Hn.out, hw, by simp [val], hblk0, Mod.refl _ _⟩
  case round =>
    obtain ⟨k, zs, hk, rfl, hzl, hzw, hzv, hblk, hmod⟩ := hrel
    have Hzl := Lib.hid hzl
    have Hzv := Lib.hid hzv
    clear hzl hzv
    have hyl : m ≤ xs.length := by rw [Hm.out]; omega
    have hyl2 : xs.length ≤ m := by rw [Hm.out]; omega
    by_cases hlt : k < m
    · obtain ⟨b, off', rfl, hb, hc1⟩ := (hx.mod hmod hap).at_ (i := k) (by omega)
      have hyk := hx.1.get (k := k) (by omega)
      have hkc : k < cz := by omega
      have hkc' : ¬ cz = k := by omega
      have hb1 : BlkN wr g ((pre ++ zs.take k) ++ zs.drop k ++ post) := by rw [← split_mid]; exact hblk
      go_wp2_with (go_at_call 92; refine (int_addMultiple (n := n - k) (m := p) (pre := pre ++ zs.take k) (zs0 := zs.drop k) (post := post) (q := xs[k]) hb1 (by rw [List.length_append, Hoff.out, List.length_take, Hzl.out]; omega) (by rw [List.length_drop, Hzl.out]) (hzw.drop k) (hy.mod hmod hbp) Hp.out hbp (by omega) hyk (prod_fits (by omega) (by omega) Hzl.out Hzv.out (by rw [Nat.mul_comm]; exact Hf.out)) (by omega) (by omega) (Nat.le_trans (Nat.sub_le _ _) Hczm.out)).mono ?_; rintro e w2 ⟨zt, rfl, hztl, hztw, hztb, hztv, hmod2⟩)
      go_roundw
      case rel =>
        refine ⟨k + 1, zs.take k ++ zt, by omega, by go_num, ?_, (hzw.take k).append hztw, prod_step (by omega) (by omega) Hzl.out Hzv.out hztv, by rw [← List.append_assoc pre]; exact hztb, hmod.trans hmod2⟩
        have := Hzl.out
        rw [List.length_append, List.length_take, hztl]; omega
      case measure => simp [intOf]; omega
    · have Hfin := Lib.hid (by rw [Hzv.out, List.take_of_length_le (by omega), Nat.mul_comm] : val zs = val zs0 + val xs * val ys)
      go_wp2
      go_end0
      exact ⟨zs, rfl, Hzl.out, hzw, hblk, Hfin.out, hmod⟩
theorem int_addProduct_s {g off n cz p : Nat} {pre zs0 post : List Nat} (hblk0 : BlkN w g (pre ++ zs0 ++ post)) (hoff : pre.length = off) (hn : zs0.length = n) (hw : W32 zs0) (hx : Rd w A xs) (hm : xs.length = m) (hap : Apart A xs g)
    (hy : Rd w B ys) (hp : ys.length = p) (hbp : Apart B ys g) (h64 : min m p < 64) (hl : m + p ≤ n) (hf : val zs0 + val xs * val ys < 4294967296 ^ n) (h1 : n ≤ 1000000) (hcz : n ≤ cz) (hczm : cz ≤ maxLen) :
    Calls Try.prog 78 #[.slice (some ⟨g, off, none⟩) n cz, .slice A m c, .slice B p d] w (Turned w g pre n post fun zs => val zs = val zs0 + val xs * val ys) := by
  by_cases h : p ≤ m
  · exact int_addProduct1 hblk0 hoff hn hw hx hm hap hy hp hbp h (by omega) hl hf h1 hcz hczm
  · exact int_addProduct2 hblk0 hoff hn hw hx hm hap hy hp hbp (by omega) (by omega) hl hf h1 hcz hczm
end
end Go.Proofs.Ytmjmcinnbmjpdaa
