/- Walks and laws, part 10. -/
import Derived.Test.YtmjmcinnbmjpdaaDoorMt6
import Derived.Test.YtmjmcinnbmjpdaaDoorMt8
import Derived.Test.YtmjmcinnbmjpdaaDoorMt9
import Derived.Lib.ItoaNum
namespace Go.Proofs.YtmjmcinnbmjpdaaDoor
open Go.RowKit
theorem bitLen_bounds {x : Nat} (h : x < 4294967296) (h0 : x ≠ 0) : 1 ≤ Lib.bitLen x ∧ Lib.bitLen x ≤ 32 ∧ 2 ^ (Lib.bitLen x - 1) ≤ x ∧ x < 2 ^ Lib.bitLen x := by
  obtain ⟨a, b, c⟩ := Lib.bitLenAux_bounds 64 x (by omega) h0
  exact ⟨a, Lib.bitLen_le x 32 (by omega) (by omega), b, c⟩
/-- the shift that lays the first digit of a word at its top. -/
theorem shift_top {x : Nat} (h : x < 4294967296) (h0 : x ≠ 0) : 2147483648 ≤ x * 2 ^ (32 - Lib.bitLen x) ∧ (x + 1) * 2 ^ (32 - Lib.bitLen x) ≤ 4294967296 ∧ Lib.bitLen x ≤ 32 ∧ 1 ≤ Lib.bitLen x := by
  obtain ⟨a, b, c, d⟩ := bitLen_bounds h h0
  refine ⟨?_, ?_, b, a⟩
  · have e : (2147483648 : Nat) = 2 ^ (Lib.bitLen x - 1) * 2 ^ (32 - Lib.bitLen x) := by
      rw [← Nat.pow_add, show Lib.bitLen x - 1 + (32 - Lib.bitLen x) = 31 by omega]
    rw [e]
    exact Nat.mul_le_mul_right _ c
  · have e : (4294967296 : Nat) = 2 ^ Lib.bitLen x * 2 ^ (32 - Lib.bitLen x) := by
      rw [← Nat.pow_add, show Lib.bitLen x + (32 - Lib.bitLen x) = 32 by omega]
    rw [e]
    exact Nat.mul_le_mul_right _ d
theorem div_norm {ys zs : List Nat} {m p : Nat} (hy : W32 ys) (hm : ys.length = m) (h0 : 0 < m) (h1 : 2147483648 ≤ ys[m - 1]'(by omega) * p) (h2 : (ys[m - 1]'(by omega) + 1) * p ≤ 4294967296) (hz : W32 zs) (hn : Nrm zs) (hv : val zs = val ys * p) :
    zs.length = m ∧ val zs < 4294967296 ^ m ∧ ∀ h : m - 1 < zs.length, 2147483648 ≤ zs[m - 1] := by
  obtain ⟨k, rfl⟩ : ∃ k, m = k + 1 := ⟨m - 1, by omega⟩
  simp only [Nat.add_sub_cancel] at h1 h2 ⊢
  have e := val_take_succ ys k (by omega)
  rw [List.take_of_length_le (by omega)] at e
  have hl := val_lt (hy.take k)
  rw [List.length_take, Nat.min_eq_left (by omega)] at hl
  generalize ys[k]'(by omega) = Y at *
  have lo : 4294967296 ^ k * 2147483648 ≤ val zs := by
    have a : 4294967296 ^ k * 2147483648 ≤ 4294967296 ^ k * (Y * p) := Nat.mul_le_mul_left _ h1
    rw [hv, e, Nat.add_mul, Nat.mul_assoc]
    omega
  have hi : val zs < 4294967296 ^ (k + 1) := by
    have hp : 0 < p := by
      rcases Nat.eq_zero_or_pos p with rfl | h
      · rw [Nat.mul_zero] at h1; omega
      · exact h
    have a : val ys < 4294967296 ^ k * (Y + 1) := by rw [e, Nat.mul_add]; omega
    have b : val ys * p < 4294967296 ^ k * (Y + 1) * p := Nat.mul_lt_mul_of_pos_right a hp
    have c : 4294967296 ^ k * ((Y + 1) * p) ≤ 4294967296 ^ k * 4294967296 := Nat.mul_le_mul_left _ h2
    rw [Nat.mul_assoc] at b
    rw [hv, Nat.pow_succ]
    omega
  have hpk : 0 < 4294967296 ^ k := Nat.pow_pos (by omega)
  have l1 : zs.length ≤ k + 1 := by
    rcases Nat.lt_or_ge (k + 1) zs.length with h | h
    · have g := hn.ge (by rintro rfl; simp at h)
      have : 4294967296 ^ (k + 1) ≤ 4294967296 ^ (zs.length - 1) := Nat.pow_le_pow_right (by omega) (by omega)
      omega
    · exact h
  have l2 : k + 1 ≤ zs.length := by
    rcases Nat.lt_or_ge zs.length (k + 1) with h | h
    · have g := val_lt hz
      have : 4294967296 ^ zs.length ≤ 4294967296 ^ k := Nat.pow_le_pow_right (by omega) (by omega)
      omega
    · exact h
  refine ⟨by omega, hi, fun h => ?_⟩
  have e3 := val_take_succ zs k h
  rw [List.take_of_length_le (by omega)] at e3
  have hl3 := val_lt (hz.take k)
  rw [List.length_take, Nat.min_eq_left (by omega)] at hl3
  rcases Nat.lt_or_ge zs[k] 2147483648 with h5 | h5
  · have a : 4294967296 ^ k * (zs[k] + 1) ≤ 4294967296 ^ k * 2147483648 := Nat.mul_le_mul_left _ h5
    rw [Nat.mul_add, Nat.mul_one] at a
    omega
  · exact h5
section
variable {A B : Option Addr} {c d n m : Nat} {xs ys : List Nat} {w : World} {s t : Bool}
set_option maxRecDepth 100000 in
set_option maxHeartbeats 8000000 in
theorem int_divideLong (hn : xs.length = n) (hm : ys.length = m) (hx : Rd w A xs) (hy : Rd w B ys) (hny : Nrm ys) (h2 : 2 ≤ m) (hmn : m ≤ n) (h1 : n ≤ 9000) :
    Calls Tryd.prog 57 #[.slice A n c, .slice B m d] w (Ret2 (fun qs rs => val qs = val xs / val ys ∧ val rs = val xs % val ys ∧ Nrm qs ∧ Nrm rs) w) := by
  have hl0 : ys[m - 1]'(by omega) ≠ 0 := by
    subst hm
    exact hny.last (by omega)
  obtain ⟨b1, o1, rfl, hb1, cy⟩ := hy.at_ (i := m - 1) (by omega)
  have hY := hy.1.get (k := m - 1) (by omega)
  obtain ⟨s1, s2, s3, s4⟩ := shift_top hY hl0
  have hnorm : ∀ zs, W32 zs → Nrm zs → val zs = val ys * 2 ^ (32 - Lib.bitLen (ys[m - 1]'(by omega))) → zs.length = m ∧ val zs < 4294967296 ^ m ∧ ∀ h : m - 1 < zs.length, 2147483648 ≤ zs[m - 1] := fun zs a b e => div_norm hy.1 hm (by omega) s1 s2 a b e
  have hlz : ∀ W : World, Calls Tryd.prog 77 #[.int .u32 ((ys[m - 1]'(by omega) : Nat) : Int)] W fun e w' => e = .returned (.int .i64 ((32 - Lib.bitLen (ys[m - 1]'(by omega)) : Nat) : Int)) ∧ W = w' := fun W => by
    refine (lz32 _ W (by omega) (by omega)).mono ?_
    rintro e w' ⟨rfl, h⟩
    exact ⟨ret_int (by simp only [Int.toNat_natCast]; omega), h⟩
  clear s1 s2
  generalize ys[m - 1]'(by omega) = Y at *
  have hS32 : 32 - Lib.bitLen Y < 32 := by omega
  generalize 32 - Lib.bitLen Y = S at *
  have Hnorm := Lib.hid hnorm
  have Hlz := Lib.hid hlz
  have Hn := Lib.hid hn
  have Hm := Lib.hid hm
  have Hb := Lib.hid (show 4294967296 ^ (m - 1) ≤ val ys by
    have := hny.ge (by rintro rfl; simp at hm; omega)
    rwa [hm] at this)
  have Ha := Lib.hid (show val xs < 4294967296 ^ n by have := val_lt hx.1; rwa [hn] at this)
  clear hnorm hlz s3 s4 hl0 hn hm
  have hmk1 : ∀ W : World, (Instr.makeSlice 48 (.int .i64 ((n : Int) + 1)) (.int .i64 ((n : Int) + 1))).run Tryd.prog W = .ok (.slice (some ⟨W.heap.size, 0, none⟩) (n + 1) (n + 1)) (W.alloc (.cells (madeCells #[.int .u32 0] (n + 1)) 43)) := fun W => by
    have h := mk_words 48 Tryd.underlying48 (n + 1) (by omega) W
    rwa [show ((n + 1 : Nat) : Int) = (n : Int) + 1 by omega] at h
  have hmk2 : ∀ W : World, (Instr.makeSlice 48 (.int .i64 ((n : Int) - (m : Int) + 1)) (.int .i64 ((n : Int) - (m : Int) + 1))).run Tryd.prog W = .ok (.slice (some ⟨W.heap.size, 0, none⟩) (n - m + 1) (n - m + 1)) (W.alloc (.cells (madeCells #[.int .u32 0] (n - m + 1)) 43)) := fun W => by
    have h := mk_words 48 Tryd.underlying48 (n - m + 1) (by omega) W
    rwa [show ((n - m + 1 : Nat) : Int) = (n : Int) - (m : Int) + 1 by omega] at h
  go_enter Tryd.func57, Tryd.ntmps57
  go_wp2_with (go_at_call 77; refine (Hlz.out _).mono ?_; rintro e w1 ⟨rfl, rfl⟩)
  refine (int_shiftLeft (k := S) Hm.out hy (by omega) (by omega)).mono ?_
  rintro e w2 ⟨A2, c2, ds, rfl, ho2, hc2, hm2, ⟨hv2, hn2, hl2⟩, hext2⟩
  obtain ⟨hdl, hdu, hdt⟩ := Hnorm.out ds ho2.rd.1 hn2 hv2
  rw [hdl]
  have Hdl := Lib.hid hdl
  have Hdu := Lib.hid hdu
  have Hdt := Lib.hid hdt
  have Hv2 := Lib.hid hv2
  clear hdl hdu hdt hv2 hl2 hn2 Hnorm Hlz
  go_wp2_with fail
  have hb0 := BlkN.new w2 (n + 1)
  refine (int_shiftInto (pre := []) (zs0 := List.replicate (xs.length + 1) 0) (post := []) (by rw [Hn.out]; simpa using hb0) rfl rfl (hx.ext (hext2.alloc _)) Hn.out (hx.apart hext2.size) (by omega) hS32 (by omega) (by omega) (by unfold maxLen; omega)).mono ?_
  rintro e w3 ⟨R0, rfl, hRl, hRw, hRb, hRv, hmod3⟩
  rw [List.nil_append, List.append_nil] at hRb
  have hext3 : Ext w2 w3 := hmod3.ext ((Ext.refl w2).alloc _) (Nat.le_refl _)
  have hd3 := ho2.rd.ext hext3
  have hap := ho2.rd.apart (Nat.le_refl _)
  have hL0 := LInv.start (a := val xs) (b := val ys) (s := S) (la := n) (lb := m) hRl hRw rfl hRv hmn (by omega) Ha.out Hb.out
  rw [← Hv2.out] at hL0
  have HL0 := Lib.hid hL0
  clear hL0 hRv hmod3 hRl hb0
  have hg12 := hRb.lt
  have hQb := BlkN.new w3 (n - m + 1)
  have hR4 := hRb.ext ((Ext.refl w3).alloc (.cells (madeCells #[.int .u32 0] (n - m + 1)) 43))
  have hd4 := hd3.ext ((Ext.refl w3).alloc (.cells (madeCells #[.int .u32 0] (n - m + 1)) 43))
  have ext4 := (hext2.trans hext3).alloc (.cells (madeCells #[.int .u32 0] (n - m + 1)) 43)
  have hap3 := hd3.apart (Nat.le_refl _)
  clear hRb hd3
  go_wp2_with fail
  go_loopw [10] (fun i wr => ∃ (k : Nat) (R Q : List Nat), k ≤ n - m + 1 ∧ i = .int .i64 ((k : Int) - 1) ∧ LInv (val ds) (val xs * 2 ^ S) (n + 1) (n - m + 1) k R Q ∧ BlkN wr w2.heap.size R ∧ BlkN wr w3.heap.size Q ∧ Rd wr A2 ds ∧ Ext w wr) (fun i _ => (intOf i + 1).toNat)
  case atStart => exact ⟨n - m + 1, R0, _, Nat.le_refl _, congrArg (Value.int .i64) (by omega), HL0.out, hR4, hQb, hd4, ext4⟩
  case round =>
    clear hR4 hQb hd4 ext4
    obtain ⟨k, R, Q, hk, rfl, hinv, hRb, hQb, hdr, hext⟩ := hrel
    have hrl := hinv.rl
    have hql := hinv.ql
    rcases k with _ | j
    · rw [show (((0 : Nat) : Int) - 1) = -1 from rfl]
      have Hinv := Lib.hid hinv
      have Hrl := Lib.hid hrl
      have Hql := Lib.hid hql
      clear hinv hrl hql
      go_wp2_with fail
      refine (int_trimN Hql.out (hQb.rd0 Hinv.out.qw) (Nat.le_refl _) (by unfold maxLen; omega)).mono ?_
      rintro e w4 ⟨rfl, rfl⟩
      go_wp2_with fail
      refine (int_trimN Hrl.out (hRb.rd0 Hinv.out.rw) (Nat.le_refl _) (by unfold maxLen; omega)).mono ?_
      rintro e w4 ⟨rfl, rfl⟩
      have hrl2 := trimL_len R
      rw [Hrl.out] at hrl2
      have hrt : Rd wr (some ⟨w2.heap.size, 0, none⟩) (trimL R) := by rw [trimL_take]; exact (hRb.rd0 Hinv.out.rw).take _
      go_wp2_with fail
      refine (int_shiftRight (k := S) rfl hrt hrl2 (by unfold maxLen; omega) (by omega) (by omega)).mono ?_
      rintro e w5 ⟨A5, c5, rs, rfl, ho5, hc5, hm5, ⟨hv5, hn5, hl5⟩, hext5⟩
      have Hv5 := Lib.hid hv5
      clear hv5
      go_wp2_with fail
      go_ret2
      have hi := Hinv.out
      rw [Hv2.out] at hi
      obtain ⟨d1, d2⟩ := hi.done
      have hql2 := trimL_len Q
      rw [Hql.out] at hql2
      refine ⟨_, _, trimL Q, A5, c5, rs, rfl, ?_, ho5.mono hext.size, hql2, by unfold maxLen; omega, hc5, hm5, ⟨by rw [val_trimL]; exact d1, by rw [Hv5.out, val_trimL]; exact d2, Nrm.trimL _, hn5⟩, hext.trans hext5⟩
      rw [trimL_take]
      exact (Own.of_blk (hQb.ext hext5) hi.qw (Nat.le_trans hext2.size (Nat.le_of_lt hg12))).take _
    · rw [show (((j + 1 : Nat) : Int) - 1) = (j : Int) by omega]
      have hj1 : j + m + 1 ≤ n + 1 := by omega
      have hj2 : j < n - m + 1 := by omega
      obtain ⟨p0, p1, p2⟩ := hinv.part hj2 (by omega) Hdu.out
      have hpd : Rd wr (some ⟨w2.heap.size, j, none⟩) ((R.drop j).take (m + 1)) := hRb.rd hinv.rw (by omega)
      have hpl : ((R.drop j).take (m + 1)).length = m + 1 := by rw [List.length_take, List.length_drop]; omega
      have hpw : W32 ((R.drop j).take (m + 1)) := (hinv.rw.drop _).take _
      have hRs : R = R.take j ++ (R.drop j).take (m + 1) ++ R.drop (j + m + 1) := by
        rw [List.append_assoc, show j + m + 1 = j + (m + 1) by omega, ← List.drop_drop, List.take_append_drop, List.take_append_drop]
      have htl : (R.take j).length = j := by rw [List.length_take]; omega
      have hst : ∀ (ps : List Nat) (u : Nat), ps.length = m + 1 → W32 ps → u < 4294967296 → val ps < val ds → val ps + u * val ds = val ((R.drop j).take (m + 1)) → LInv (val ds) (val xs * 2 ^ S) (n + 1) (n - m + 1) j (R.take j ++ ps ++ R.drop (j + m + 1)) (Q.set j u) := fun ps u a1 a2 a3 a4 a5 => hinv.step hj2 (by omega) Hdu.out a1 a2 a3 a4 a5
      rw [hRs] at hRb
      have Hst := Lib.hid hst
      have Hqw := Lib.hid hinv.qw
      clear hst hinv hRs p0 p1 hrl
      generalize R.take j = pre at *
      generalize (R.drop j).take (m + 1) = part at *
      generalize R.drop (j + m + 1) = post at *
      have Htl := Lib.hid htl
      have Hpl := Lib.hid hpl
      have Hql := Lib.hid hql
      have Hp2 := Lib.hid p2
      have hcc1 : m + 1 ≤ n + 1 - j := by omega
      have hcc2 : n + 1 - j ≤ 10000 := by omega
      clear htl hpl p2 hql
      go_wp2_with fail
      rw [show j + m + 1 - j = m + 1 by omega]
      refine (int_estimate Hpl.out Hdl.out h2 hpd hdr (Hdt.out _) Hp2.out (by omega)).mono ?_
      rintro e w4 ⟨q, rfl, hq32, hq1, hq2, hxt4⟩
      have Hq1 := Lib.hid hq1
      have Hq2 := Lib.hid hq2
      clear hq1 hq2
      go_wp2_with fail
      refine (int_subtractMultiple (hRb.ext hxt4) Htl.out Hpl.out hpw (hdr.ext hxt4) Hdl.out hap rfl hq32 (by omega) hcc1 (by unfold maxLen; omega)).mono ?_
      rintro e w5 ⟨ps, bb, rfl, hb1, hpsl, hpsw, hpsb, hpsv, hmod5⟩
      have hdr5 := (hdr.ext hxt4).mod hmod5 hap
      have hQ5 := (hQb.ext hxt4).mod hmod5 (Nat.ne_of_gt hg12)
      have ext5 := hmod5.ext (hext.trans hxt4) hext2.size
      have Hpsv := Lib.hid hpsv
      have Hpsl := Lib.hid hpsl
      clear hpsv hpsl hpd hRb hdr hQb hmod5
      rcases (show bb = 0 ∨ bb = 1 by omega) with rfl | rfl
      · have hcq := hQ5.cell (i := j) (by rw [Hql.out]; exact hj2)
        have hfq := hQ5.frozen j
        go_wp2_with fail
        go_roundw
        case rel =>
          obtain ⟨f1, f2⟩ := sub_fit Hq1.out (by have := Hpsv.out; rw [Nat.mul_zero, Nat.add_zero] at this; exact this)
          exact ⟨j, _, _, by omega, rfl, Hst.out ps q Hpsl.out hpsw hq32 f1 f2, hpsb.mod ((Mod.refl w5 w3.heap.size).setCell j _) (Nat.ne_of_lt hg12), hQ5.set j rfl, hdr5.mod ((Mod.refl w5 w3.heap.size).setCell j _) hap3, ext5.setCell (Nat.le_trans hext2.size (Nat.le_of_lt hg12)) _⟩
        case measure => simp [intOf]
      · have hpslt : val ps < 4294967296 ^ (m + 1) := by
          have := val_lt hpsw
          rwa [Hpsl.out] at this
        have h3 := Hpsv.out
        rw [Nat.mul_one] at h3
        have hPq : val part < q * val ds := by rw [Nat.mul_comm]; omega
        have hq0 : 0 < q := by
          rcases Nat.eq_zero_or_pos q with rfl | h
          · rw [Nat.zero_mul] at hPq; omega
          · exact h
        have HPq := Lib.hid hPq
        have H3 := Lib.hid h3
        clear hPq h3 hpslt
        have hq01 : (1 : Int) ≤ (q : Int) := by omega
        go_wp2_with fail
        refine (int_addTo _ _ _ _ hpsb Htl.out Hpsl.out hpsw hdr5 Hdl.out hap (by omega) (by omega)).mono ?_
        rintro e w6 ⟨zs, rfl, hzl, hzw, hzb, ⟨cy2, hcy, hcv⟩, hmod6⟩
        have Hf := Lib.hid (sub_back HPq.out Hq2.out H3.out hcv hcy (by have := val_lt hzw; rwa [hzl] at this))
        have hdr6 := hdr5.mod hmod6 hap
        have hQ6 := hQ5.mod hmod6 (Nat.ne_of_gt hg12)
        have ext6 := hmod6.ext ext5 hext2.size
        have Hzl := Lib.hid hzl
        clear hcv hzl hpsb hdr5 hQ5 hmod6
        have hcq := hQ6.cell (i := j) (by rw [Hql.out]; exact hj2)
        have hfq := hQ6.frozen j
        go_wp2_with fail
        go_roundw
        case rel =>
          obtain ⟨f0, f1, f2⟩ := Hf.out
          exact ⟨j, _, _, by omega, rfl, Hst.out zs (q - 1) Hzl.out hzw (by omega) f1 f2, hzb.mod ((Mod.refl w6 w3.heap.size).setCell j _) (Nat.ne_of_lt hg12), hQ6.set j (by omega), hdr6.mod ((Mod.refl w6 w3.heap.size).setCell j _) hap3, ext6.setCell (Nat.le_trans hext2.size (Nat.le_of_lt hg12)) _⟩
        case measure => simp [intOf]
end
end Go.Proofs.YtmjmcinnbmjpdaaDoor
namespace Go.Proofs.YtmjmcinnbmjpdaaDoor
open Go.RowKit
section
variable {A B : Option Addr} {c d n m : Nat} {xs ys : List Nat} {w : World} {s t : Bool}
set_option maxHeartbeats 2000000 in
theorem int_divide_word {y : Nat} (hn : xs.length = n) (hx : Rd w A xs) (hy : Rd w B [y]) (hnx : Nrm xs) (hy0 : y ≠ 0) (h2 : 2 < n) (h1 : n ≤ 100000) :
    Calls Tryd.prog 30 #[.slice A n c, .slice B 1 d] w (Ret2 (fun qs rs => val qs = val xs / y ∧ val rs = val xs % y ∧ Nrm qs ∧ Nrm rs) w) := by
  have hcm1 := Lib.hid (show cmpL xs [y] = 1 from cmpL_len_gt (by simp; omega))
  have hyl := hy.1 y (by simp)
  have hxl := Lib.hid (show xs ≠ [] by rintro rfl; simp at hn; omega)
  have hr32 : val xs % y < 4294967296 := by
    have := Nat.mod_lt (val xs) (show 0 < y by omega)
    omega
  go_enter Tryd.func30, Tryd.ntmps30
  go_wp2_with fail
  subst hn
  refine (int_compare A B c d xs [y] w hx hy (by unfold maxLen; omega) (by unfold maxLen; simp)).mono ?_
  rintro e w1 ⟨rfl, hext1⟩
  rw [hcm1.out]
  go_wp2_with fail
  refine (clone rfl (hx.ext hext1) (by omega)).mono ?_
  rintro e w2 ⟨A2, c2, zs, rfl, ho2, hc2, hm2, rfl, hext2⟩
  obtain ⟨g, rfl, hg, hblk⟩ : ∃ g, A2 = some ⟨g, 0, none⟩ ∧ w1.heap.size ≤ g ∧ BlkN w2 g zs := by
    rcases ho2.2 with h | h
    · exact absurd h hxl.out
    · exact h
  obtain ⟨b1, o1, rfl, hb1, cb⟩ := ((hy.ext hext1).ext hext2).at_ (i := 0) (by simp)
  simp only [Nat.add_zero, List.getElem_cons_zero] at cb
  go_wp2_with fail
  refine (int_divideByWord hblk rfl hx.1 (by omega) hyl (by omega)).mono ?_
  rintro e w3 ⟨qs, rfl, hql, hqw, hqb, hqv, hmod⟩
  have ext3 := hmod.ext hext2 hg
  have Hqv := Lib.hid hqv
  clear hqv cb
  go_wp2_with fail
  refine (int_trimN hql (hqb.rd0 hqw) hc2 hm2).mono ?_
  rintro e w4 ⟨rfl, rfl⟩
  go_wp2_with fail
  refine (int_fromUint (val zs % y) (by omega)).mono ?_
  rintro e w5 ⟨A5, c5, rs, rfl, ho5, hc5, hm5, ⟨hv5, hn5, hl5⟩, hext5⟩
  have Hv5 := Lib.hid hv5
  clear hv5
  go_wp2_with fail
  go_ret2
  have hl := trimL_len qs
  refine ⟨_, _, trimL qs, A5, c5, rs, rfl, ?_, ho5.mono (hext1.trans ext3).size, by omega, hm2, hc5, hm5, ⟨by rw [val_trimL]; exact Hqv.out, Hv5.out, Nrm.trimL _, hn5⟩, hext1.trans (ext3.trans hext5)⟩
  rw [trimL_take]
  exact (Own.of_blk (hqb.ext hext5) hqw (Nat.le_trans hext1.size hg)).take _
set_option maxHeartbeats 2000000 in
theorem int_divide_long (hn : xs.length = n) (hm : ys.length = m) (hx : Rd w A xs) (hy : Rd w B ys) (hnx : Nrm xs) (hny : Nrm ys) (hge : val ys ≤ val xs) (h2 : 2 < n) (hm2 : 2 ≤ m) (h1 : n ≤ 9000) :
    Calls Tryd.prog 30 #[.slice A n c, .slice B m d] w (Ret2 (fun qs rs => val qs = val xs / val ys ∧ val rs = val xs % val ys ∧ Nrm qs ∧ Nrm rs) w) := by
  have hml := len_le hx.1 hny hge
  have hcase : cmpL xs ys = 0 ∨ cmpL xs ys = 1 := by
    rw [cmpL_nrm hx.1 hy.1 hnx hny]
    rcases Nat.lt_or_ge (val ys) (val xs) with h | h
    · exact .inr (cmpI_of_gt h)
    · exact .inl (cmpI_of_eq (by omega))
  have Hml := Lib.hid (show m ≤ n by omega)
  subst hn
  subst hm
  clear hml hge
  rcases hcase with hcm | hcm
  all_goals
    have hcm1 := Lib.hid hcm
    clear hcm
    go_enter Tryd.func30, Tryd.ntmps30
    go_wp2_with fail
    refine (int_compare A B c d xs ys w hx hy (by unfold maxLen; omega) (by have := Hml.out; unfold maxLen; omega)).mono ?_
    rintro e w1 ⟨rfl, hext1⟩
    rw [hcm1.out]
    go_wp2_with fail
    refine (int_divideLong rfl rfl (hx.ext hext1) (hy.ext hext1) hny hm2 Hml.out h1).mono ?_
    rintro e w3 ⟨A3, c3, qs, A4, c4, rs, rfl, ho3, ho4, hc3, hm3, hc4, hm4, hP, hext3⟩
    have HP := Lib.hid hP
    clear hP
    go_wp2_with fail
    go_ret2
    exact ⟨A3, c3, qs, A4, c4, rs, rfl, ho3.mono hext1.size, ho4.mono hext1.size, hc3, hm3, hc4, hm4, HP.out, hext1.trans hext3⟩
theorem Ret2.len {e : Ending} {w' : World} (hx : W32 xs) (h : Ret2 (fun qs rs => val qs = val xs / val ys ∧ val rs = val xs % val ys ∧ Nrm qs ∧ Nrm rs) w e w') :
    Ret2 (fun qs rs => val qs = val xs / val ys ∧ val rs = val xs % val ys ∧ Nrm qs ∧ Nrm rs ∧ qs.length ≤ xs.length ∧ rs.length ≤ xs.length) w e w' := by
  obtain ⟨A3, c3, qs, A4, c4, rs, h0, ho3, ho4, hc3, hm3, hc4, hm4, ⟨p1, p2, p3, p4⟩, hext3⟩ := h
  exact ⟨A3, c3, qs, A4, c4, rs, h0, ho3, ho4, hc3, hm3, hc4, hm4, ⟨p1, p2, p3, p4, nrm_len_le hx p3 (by rw [p1]; exact Nat.div_le_self _ _), nrm_len_le hx p4 (by rw [p2]; exact Nat.mod_le _ _)⟩, hext3⟩
theorem divide_ok : DivideOK 9000 := by
  intro A B c d n m xs ys w hn hm hx hy _ _ _ _ hnx hny h0 h1 h2
  rcases Nat.lt_or_ge (val xs) (val ys) with h | h
  · exact int_divide_lt hn hm hx hy hnx hny h (by omega) h2
  · rcases Nat.lt_or_ge 2 n with h3 | h3
    · rcases Nat.lt_or_ge 1 m with h4 | h4
      · exact (int_divide_long hn hm hx hy hnx hny h h3 (by omega) h1).mono fun e w' hr => hr.len hx.1
      · obtain rfl : m = 1 := by omega
        obtain ⟨y, rfl⟩ : ∃ y, ys = [y] := by
          match ys, hm with
          | [y], _ => exact ⟨y, rfl⟩
        have hy0 : y ≠ 0 := by
          rintro rfl
          have := hny.last (by simp)
          simp at this
        have e := val_one y
        exact (int_divide_word (y := y) hn hx hy hnx hy0 h3 (by omega)).mono fun e w' hr => by
          rw [← val_one y] at hr
          exact hr.len hx.1
    · exact int_divide_two hn hm hx hy hnx hny h h0 h3
end
end Go.Proofs.YtmjmcinnbmjpdaaDoor
