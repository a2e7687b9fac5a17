/- Walks: long division. -/
import Derived.Test.YtmjmcinnbmjpdaaVa
import Derived.Test.YtmjmcinnbmjpdaaVb
import Derived.Test.YtmjmcinnbmjpdaaWu
import Derived.Test.YtmjmcinnbmjpdaaWj
import Derived.Lib.ItoaNum
namespace Go.Proofs.Ytmjmcinnbmjpdaa
open Go.RowKit
theorem bitLen_bounds {x : Nat} (h : x < 4294967296) (h0 : x ≠ 0) : 1 ≤ Lib.bitLen x ∧ Lib.bitLen x ≤ 32 ∧ 2 ^ (Lib.bitLen x - 1) ≤ x ∧ x < 2 ^ Lib.bitLen x := by
  obtain ⟨a, b, c⟩ := Lib.bitLenAux_bounds 64 x (by omega) h0
  exact ⟨a, Lib.bitLen_le x 32 (by omega) (by omega), b, c⟩
/-- the shift that lays the first digit of a word at its top. -/
theorem shift_top {x : Nat} (h : x < 4294967296) (h0 : x ≠ 0) : 2147483648 ≤ x * 2 ^ (32 - Lib.bitLen x) ∧ (x + 1) * 2 ^ (32 - Lib.bitLen x) ≤ 4294967296 ∧ Lib.bitLen x ≤ 32 ∧ 1 ≤ Lib.bitLen x := by
  obtain ⟨a, b, c, d⟩ := bitLen_bounds h h0
  refine ⟨?_, ?_, b, a⟩
  · have e : (2147483648 : Nat) = 2 ^ (Lib.bitLen x - 1) * 2 ^ (32 - Lib.bitLen x) := by
      rw [← Nat.pow_add, show Lib.bitLen x - 1 + (32 - Lib.bitLen x) = 31 by omega]
    rw [e]
    exact Nat.mul_le_mul_right _ c
  · have e : (4294967296 : Nat) = 2 ^ Lib.bitLen x * 2 ^ (32 - Lib.bitLen x) := by
      rw [← Nat.pow_add, show Lib.bitLen x + (32 - Lib.bitLen x) = 32 by omega]
    rw [e]
    exact Nat.mul_le_mul_right _ d
theorem div_norm {ys zs : List Nat} {m p : Nat} (hy : W32 ys) (hm : ys.length = m) (h0 : 0 < m) (h1 : 2147483648 ≤ ys[m - 1]'(by omega) * p) (h2 : (ys[m - 1]'(by omega) + 1) * p ≤ 4294967296) (hz : W32 zs) (hn : Nrm zs) (hv : val zs = val ys * p) :
    zs.length = m ∧ val zs < 4294967296 ^ m ∧ ∀ h : m - 1 < zs.length, 2147483648 ≤ zs[m - 1] := by
  obtain ⟨k, rfl⟩ : ∃ k, m = k + 1 := ⟨m - 1, by omega⟩
  simp only [Nat.add_sub_cancel] at h1 h2 ⊢
  have e := val_take_succ ys k (by omega)
  rw [List.take_of_length_le (by omega)] at e
  have hl := val_lt (hy.take k)
  rw [List.length_take, Nat.min_eq_left (by omega)] at hl
  generalize ys[k]'(by omega) = Y at *
  have lo : 4294967296 ^ k * 2147483648 ≤ val zs := by
    have a : 4294967296 ^ k * 2147483648 ≤ 4294967296 ^ k * (Y * p) := Nat.mul_le_mul_left _ h1
    rw [hv, e, Nat.add_mul, Nat.mul_assoc]
    omega
  have hi : val zs < 4294967296 ^ (k + 1) := by
    have hp : 0 < p := by
      rcases Nat.eq_zero_or_pos p with rfl | h
      · rw [Nat.mul_zero] at h1; omega
      · exact h
    have a : val ys < 4294967296 ^ k * (Y + 1) := by rw [e, Nat.mul_add]; omega
    have b : val ys * p < 4294967296 ^ k * (Y + 1) * p := Nat.mul_lt_mul_of_pos_right a hp
    have c : 4294967296 ^ k * ((Y + 1) * p) ≤ 4294967296 ^ k * 4294967296 := Nat.mul_le_mul_left _ h2
    rw [Nat.mul_assoc] at b
    rw [hv, Nat.pow_succ]
    omega
  have hpk : 0 < 4294967296 ^ k := Nat.pow_pos (by omega)
  have l1 : zs.length ≤ k + 1 := by
    rcases Nat.lt_or_ge (k + 1) zs.length with h | h
    · have g := hn.ge (by rintro rfl; simp at h)
      have : 4294967296 ^ (k + 1) ≤ 4294967296 ^ (zs.length - 1) := Nat.pow_le_pow_right (by omega) (by omega)
      omega
    · exact h
  have l2 : k + 1 ≤ zs.length := by
    rcases Nat.lt_or_ge zs.length (k + 1) with h | h
    · have g := val_lt hz
      have : 4294967296 ^ zs.length ≤ 4294967296 ^ k := Nat.pow_le_pow_right (by omega) (by omega)
      omega
    · exact h
  refine ⟨by omega, hi, fun h => ?_⟩
  have e3 := val_take_succ zs k h
  rw [List.take_of_length_le (by omega)] at e3
  have hl3 := val_lt (hz.take k)
  rw [List.length_take, Nat.min_eq_left (by omega)] at hl3
  rcases Nat.lt_or_ge zs[k] 2147483648 with h5 | h5
  · have a : 4294967296 ^ k * (zs[k] + 1) ≤ 4294967296 ^ k * 2147483648 := Nat.mul_le_mul_left _ h5
    rw [Nat.mul_add, Nat.mul_one] at a
    omega
  · exact h5
section
variable {A B : Option Addr} {c d n m : Nat} {xs ys : List Nat} {w : World} {s t : Bool}
set_option maxRecDepth 100000 in
set_option maxHeartbeats 8000000 in
theorem int_divideLong (hn : xs.length = n) (hm : ys.length = m) (hx : Rd w A xs) (hy : Rd w B ys) (hny : Nrm ys) (h2 : 2 ≤ m) (hmn : m ≤ n) (h1 : n ≤ 9000) :
    Calls Try.prog 80 #[.slice A n c, .slice B m d] w (Ret2 (fun qs rs => val qs = val xs / val ys ∧ val rs = val xs % val ys ∧ Nrm qs ∧ Nrm rs) w) := by
  have hl0 : ys[m - 1]'(by omega) ≠ 0 := by
    subst hm
    exact hny.last (by omega)
  obtain ⟨b1, o1, rfl, hb1, cy⟩ := hy.at_ (i := m - 1) (by omega)
  have hY := hy.1.get (k := m - 1) (by omega)
  obtain ⟨s1, s2, s3, s4⟩ := shift_top hY hl0
  have hnorm : ∀ zs, W32 zs → Nrm zs → val zs = val ys * 2 ^ (32 - Lib.bitLen (ys[m - 1]'(by omega))) → zs.length = m ∧ val zs < 4294967296 ^ m ∧ ∀ h : m - 1 < zs.length, 2147483648 ≤ zs[m - 1] := fun zs a b e => div_norm hy.1 hm (by omega) s1 s2 a b e
  have hlz : ∀ W : World, Calls Try.prog 94 #[.int .u32 ((ys[m - 1]'(by omega) : Nat) : Int)] W fun e w' => e = .returned (.int .i64 ((32 - Lib.bitLen (ys[m - 1]'(by omega)) : Nat) : Int)) ∧ W = w' := fun W => by
    refine (lz32 _ W (by omega) (by omega)).mono ?_
    rintro e w' ⟨rfl, h⟩
    exact ⟨ret_int (by simp only [Int.toNat_natCast]; omega), h⟩
  clear s1 s2
  generalize ys[m - 1]'(by omega) = Y at *
  have hS32 : 32 - Lib.bitLen Y < 32 := by omega
  generalize 32 - Lib.bitLen Y = S at *
  have Hnorm := Lib.hid hnorm
  have Hlz := Lib.hid hlz
  have Hn := Lib.hid hn
  have Hm := Lib.hid hm
  have Hb := Lib.hid (show 4294967296 ^ (m - 1) ≤ val ys by
    have := hny.ge (by rintro rfl; simp at hm; omega)
    rwa [hm] at this)
  have Ha := Lib.hid (show val xs < 4294967296 ^ n by have := val_lt hx.1; rwa [hn] at this)
  clear hnorm hlz s3 s4 hl0 hn hm
  have hmk1 : ∀ W : World, (Instr.makeSlice 48 (.int .i64 ((n : Int) + 1)) (.int .i64 ((n : Int) + 1))).run Try.prog W = .ok (.slice (some ⟨W.heap.size, 0, none⟩) (n + 1) (n + 1)) (W.alloc (.cells (madeCells #[.int .u32 0] (n + 1)) 46)) := fun W => by
    have h := mk_words 48 Try.underlying48 (n + 1) (by omega) W
    rwa [show ((n + 1 : Nat) : Int) = (n : Int) + 1 by omega] at h
  have hmk2 : ∀ W : World, (Instr.makeSlice 48 (.int .i64 ((n : Int) - (m : Int) + 1)) (.int .i64 ((n : Int) - (m : Int) + 1))).run Try.prog W = .ok (.slice (some ⟨W.heap.size, 0, none⟩) (n - m + 1) (n - m + 1)) (W.alloc (.cells (madeCells #[.int .u32 0] (n - m + 1)) 46)) := fun W => by
    have h := mk_words 48 Try.underlying48 (n - m + 1) (by omega) W
    rwa [show ((n - m + 1 : Nat) : Int) = (n : Int) - (m : Int) + 1 by omega] at h
  go_enter Try.func80, Try.ntmps80
  go_wp2_with (go_at_call 94; refine (Hlz.out _).mono ?_; rintro e w1 ⟨rfl, rfl⟩)
  refine (int_shiftLeft (k := S) Hm.out hy (by omega) (by omega)).mono ?_
  rintro e w2 ⟨A2, c2, ds, rfl, ho2, hc2, hm2, ⟨hv2, hn2, hl2⟩, hext2⟩
  obtain ⟨hdl, hdu, hdt⟩ := Hnorm.out ds ho2.rd.1 hn2 hv2
  rw [hdl]
  have Hdl := Lib.hid hdl
  have Hdu := Lib.hid hdu
  have Hdt := Lib.hid hdt
  have Hv2 := Lib.hid hv2
  clear hdl hdu hdt hv2 hl2 hn2 Hnorm Hlz
  go_wp2_with fail
  have hb0 := BlkN.new w2 (n + 1)
  refine (int_shiftInto (pre := []) (zs0 := List.replicate (xs.length + 1) 0) (post := []) (by rw [Hn.out]; simpa using hb0) rfl rfl (hx.ext (hext2.alloc _)) Hn.out (hx.apart hext2.size) (by omega) hS32 (by omega) (by omega) (by unfold maxLen; omega)).mono ?_
  rintro e w3 ⟨R0, rfl, hRl, hRw, hRb, hRv, hmod3⟩
  rw [List.nil_append, List.append_nil] at hRb
  have hext3 : Ext w2 w3 := hmod3.ext ((Ext.refl w2).alloc _) (Nat.le_refl _)
  have hd3 := ho2.rd.ext hext3
  have hap := ho2.rd.apart (Nat.le_refl _)
  have hL0 := LInv.start (a := val xs) (b := val ys) (s := S) (la := n) (lb := m) hRl hRw rfl hRv hmn (by omega) Ha.out Hb.out
  rw [← Hv2.out] at hL0
  have HL0 := Lib.hid hL0
  clear hL0 hRv hmod3 hRl hb0
  have hg12 := hRb.lt
  have hQb := BlkN.new w3 (n - m + 1)
  have hR4 := hRb.ext ((Ext.refl w3).alloc (.cells (madeCells #[.int .u32 0] (n - m + 1)) 46))
  have hd4 := hd3.ext ((Ext.refl w3).alloc (.cells (madeCells #[.int .u32 0] (n - m + 1)) 46))
  have ext4 := (hext2.trans hext3).alloc (.cells (madeCells #[.int .u32 0] (n - m + 1)) 46)
  have hap3 := hd3.apart (Nat.le_refl _)
  clear hRb hd3
  go_wp2_with fail
  go_loopw [10] (fun i wr => ∃ (k : Nat) (R Q : List Nat), k ≤ n - m + 1 ∧ i = .int .i64 ((k : Int) - 1) ∧ LInv (val ds) (val xs * 2 ^ S) (n + 1) (n - m + 1) k R Q ∧ BlkN wr w2.heap.size R ∧ BlkN wr w3.heap.size Q ∧ Rd wr A2 ds ∧ Ext w wr) (fun i _ => (intOf i + 1).toNat)
  case atStart => exact ⟨n - m + 1, R0, _, Nat.le_refl _, congrArg (Value.int .i64) (by omega), HL0.out, hR4, hQb, hd4, ext4⟩
  case round =>
    clear hR4 hQb hd4 ext4
    obtain ⟨k, R, Q, hk, rfl, hinv, hRb, hQb, hdr, hext⟩ := hrel
    have hrl := hinv.rl
    have hql := hinv.ql
    rcases k with _ | j
    · rw [show (((0 : Nat) : Int) - 1) = -1 from rfl]
      have Hinv := Lib.hid hinv
      have Hrl := Lib.hid hrl
      have Hql := Lib.hid hql
      clear hinv hrl hql
      go_wp2_with fail
      refine (int_trimN Hql.out (hQb.rd0 Hinv.out.qw) (Nat.le_refl _) (by unfold maxLen; omega)).mono ?_
      rintro e w4 ⟨rfl, rfl⟩
      go_wp2_with fail
      refine (int_trimN Hrl.out (hRb.rd0 Hinv.out.rw) (Nat.le_refl _) (by unfold maxLen; omega)).mono ?_
      rintro e w4 ⟨rfl, rfl⟩
      have hrl2 := trimL_len R
      rw [Hrl.out] at hrl2
      have hrt : Rd wr (some ⟨w2.heap.size, 0, none⟩) (trimL R) := by rw [trimL_take]; exact (hRb.rd0 Hinv.out.rw).take _
      go_wp2_with fail
      refine (int_shiftRight (k := S) rfl hrt hrl2 (by unfold maxLen; omega) (by omega) (by omega)).mono ?_
      rintro e w5 ⟨A5, c5, rs, rfl, ho5, hc5, hm5, ⟨hv5, hn5, hl5⟩, hext5⟩
      have Hv5 := Lib.hid hv5
      clear hv5
      go_wp2_with fail
      go_ret2
      have hi := Hinv.out
      rw [Hv2.out] at hi
      obtain ⟨d1, d2⟩ := hi.done
      have hql2 := trimL_len Q
      rw [Hql.out] at hql2
      refine ⟨_, _, trimL Q, A5, c5, rs, rfl, ?_, ho5.mono hext.size, hql2, by unfold maxLen; omega, hc5, hm5, ⟨by rw [val_trimL]; exact d1, by rw [Hv5.out, val_trimL]; exact d2, Nrm.trimL _, hn5⟩, hext.trans hext5⟩
      rw [trimL_take]
      exact (Own.of_blk (hQb.ext hext5) hi.qw (Nat.le_trans hext2.size (Nat.le_of_lt hg12))).take _
    · rw [show (((j + 1 : Nat) : Int) - 1) = (j : Int) by omega]
      have hj1 : j + m + 1 ≤ n + 1 := by omega
      have hj2 : j < n - m + 1 := by omega
      obtain ⟨p0, p1, p2⟩ := hinv.part hj2 (by omega) Hdu.out
      have hpd : Rd wr (some ⟨w2.heap.size, j, none⟩) ((R.drop j).take (m + 1)) := hRb.rd hinv.rw (by omega)
      have hpl : ((R.drop j).take (m + 1)).length = m + 1 := by rw [List.length_take, List.length_drop]; omega
      have hpw : W32 ((R.drop j).take (m + 1)) := (hinv.rw.drop _).take _
      have hRs : R = R.take j ++ (R.drop j).take (m + 1) ++ R.drop (j + m + 1) := by
        rw [List.append_assoc, show j + m + 1 = j + (m + 1) by omega, ← List.drop_drop, List.take_append_drop, List.take_append_drop]
      have htl : (R.take j).length = j := by rw [List.length_take]; omega
      have hst : ∀ (ps : List Nat) (u : Nat), ps.length = m + 1 → W32 ps → u < 4294967296 → val ps < val ds → val ps + u * val ds = val ((R.drop j).take (m + 1)) → LInv (val ds) (val xs * 2 ^ S) (n + 1) (n - m + 1) j (R.take j ++ ps ++ R.drop (j + m + 1)) (Q.set j u) := fun ps u a1 a2 a3 a4 a5 => hinv.step hj2 (by omega) Hdu.out a1 a2 a3 a4 a5
      rw [hRs] at hRb
      have Hst := Lib.hid hst
      have Hqw := Lib.hid hinv.qw
      clear hst hinv hRs p0 p1 hrl
      generalize R.take j = pre at *
      generalize (R.drop j).take (m + 1) = part at *
      generalize R.drop (j + m + 1) = post at *
      have Htl := Lib.hid htl
      have Hpl := Lib.hid hpl
      have Hql := Lib.hid hql
      have Hp2 := Lib.hid p2
      have hcc1 : m + 1 ≤ n + 1 - j := by omega
      have hcc2 : n + 1 - j ≤ 10000 := by omega
      clear htl hpl p2 hql
      go_wp2_with fail
      rw [show j + m + 1 - j = m + 1 by omega]
      refine (int_estimate Hpl.out Hdl.out h2 hpd hdr (Hdt.out _) Hp2.out (by omega)).mono ?_
      rintro e w4 ⟨q, rfl, hq32, hq1, hq2, hxt4⟩
      have Hq1 := Lib.hid hq1
      have Hq2 := Lib.hid hq2
      clear hq1 hq2
      go_wp2_with fail
      refine (int_subtractMultiple (hRb.ext hxt4) Htl.out Hpl.out hpw (hdr.ext hxt4) Hdl.out hap rfl hq32 (by omega) hcc1 (by unfold maxLen; omega)).mono ?_
      rintro e w5 ⟨ps, bb, rfl, hb1, hpsl, hpsw, hpsb, hpsv, hmod5⟩
      have hdr5 := (hdr.ext hxt4).mod hmod5 hap
      have hQ5 := (hQb.ext hxt4).mod hmod5 (Nat.ne_of_gt hg12)
      have ext5 := hmod5.ext (hext.trans hxt4) hext2.size
      have Hpsv := Lib.hid hpsv
      have Hpsl := Lib.hid hpsl
      clear hpsv hpsl hpd hRb hdr hQb hmod5
      rcases (show bb = 0 ∨ bb = 1 by omega) with rfl | rfl
      · have hcq := hQ5.cell (i := j) (by rw [Hql.out]; exact hj2)
        have hfq := hQ5.frozen j
        go_wp2_with fail
        go_roundw
        case rel =>
          obtain ⟨f1, f2⟩ := sub_fit Hq1.out (by have := Hpsv.out; rw [Nat.mul_zero, Nat.add_zero] at this; exact this)
          exact ⟨j, _, _, by omega, rfl, Hst.out ps q Hpsl.out hpsw hq32 f1 f2, hpsb.mod ((Mod.refl w5 w3.heap.size).setCell j _) (Nat.ne_of_lt hg12), hQ5.set j rfl, hdr5.mod ((Mod.refl w5 w3.heap.size).setCell j _) hap3, ext5.setCell (Nat.le_trans hext2.size (Nat.le_of_lt hg12)) _⟩
        case measure => simp [intOf]
      · have hpslt : val ps < 4294967296 ^ (m + 1) := by
          have := val_lt hpsw
          rwa [Hpsl.out] at this
        have h3 := Hpsv.out
        rw [Nat.mul_one] at h3
        have hPq : val part < q * val ds := by rw [Nat.mul_comm]; omega
        have hq0 : 0 < q := by
          rcases Nat.eq_zero_or_pos q with rfl | h
          · rw [Nat.zero_mul] at hPq; omega
          · exact h
        have HPq := Lib.hid hPq
        have H3 := Lib.hid h3
        clear hPq h3 hpslt
        have hq01 : (1 : Int) ≤ (q : Int) := by omega
        go_wp2_with fail
        refine (int_addTo _ _ _ _ hpsb Htl.out Hpsl.out hpsw hdr5 Hdl.out hap (by omega) (by omega)).mono ?_
        rintro e w6 ⟨zs, rfl, hzl, hzw, hzb, ⟨cy2, hcy, hcv⟩, hmod6⟩
        have Hf := Lib.hid (sub_back HPq.out Hq2.out H3.out hcv hcy (by have := val_lt hzw; rwa [hzl] at this))
        have hdr6 := hdr5.mod hmod6 hap
        have hQ6 := hQ5.mod hmod6 (Nat.ne_of_gt hg12)
        have ext6 := hmod6.ext ext5 hext2.size
        have Hzl := Lib.hid hzl
        clear hcv hzl hpsb hdr5 hQ5 hmod6
        have hcq := hQ6.cell (i := j) (by rw [Hql.out]; exact hj2)
        have hfq := hQ6.frozen j
        go_wp2_with fail
        go_roundw
        case rel =>
          obtain ⟨f0, f1, f2⟩ := Hf.out
          exact ⟨j, _, _, by omega, rfl, Hst.out zs (q - 1) Hzl.out hzw (by omega) f1 f2, hzb.mod ((Mod.refl w6 w3.heap.size).setCell j _) (Nat.ne_of_lt hg12), hQ6.set j (by omega), hdr6.mod ((Mod.refl w6 w3.heap.size).setCell j _) hap3, ext6.setCell (Nat.le_trans hext2.size (Nat.le_of_lt hg12)) _⟩
        case measure => simp [intOf]
end
end Go.Proofs.Ytmjmcinnbmjpdaa
