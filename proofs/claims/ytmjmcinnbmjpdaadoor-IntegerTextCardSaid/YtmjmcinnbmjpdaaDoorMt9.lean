/- Walks and laws, part 9. -/
import Derived.Test.YtmjmcinnbmjpdaaDoorMt4
import Derived.Test.YtmjmcinnbmjpdaaDoorMt6
import Derived.Test.YtmjmcinnbmjpdaaDoorMt7
namespace Go.Proofs.YtmjmcinnbmjpdaaDoor
open Go.RowKit
attribute [local go_sem ↓] Go.wp_at_zero Go.wp_at_succ
section
variable {A B : Option Addr} {c d n m : Nat} {xs ys : List Nat} {w : World} {s t : Bool}
end
end Go.Proofs.YtmjmcinnbmjpdaaDoor
namespace Go.Proofs.YtmjmcinnbmjpdaaDoor
open Go.RowKit
theorem mk_wordsA (T : TypeId) (hT : Tryd.prog.underlying T = some (.slice 43)) (n m : Nat) (hn : n + m ≤ 1000000) (W : World) :
    (Instr.makeSlice T (.int .i64 ((n : Int) + (m : Int))) (.int .i64 ((n : Int) + (m : Int)))).run Tryd.prog W = .ok (.slice (some ⟨W.heap.size, 0, none⟩) (n + m) (n + m)) (W.alloc (.cells (madeCells #[.int .u32 0] (n + m)) 43)) := by
  have := mk_words T hT (n + m) hn W
  rwa [Int.natCast_add] at this
section
variable {A B : Option Addr} {c d n m : Nat} {xs ys : List Nat} {w : World}
set_option maxHeartbeats 1000000 in
theorem int_multiply_s (hn : xs.length = n) (hm : ys.length = m) (hx : Rd w A xs) (hy : Rd w B ys) (h64 : min n m < 64) (h1 : n + m ≤ 1000000) :
    Calls Tryd.prog 61 #[.slice A n c, .slice B m d] w (RetN (fun zs => val zs = val xs * val ys ∧ Nrm zs ∧ zs.length ≤ xs.length + ys.length) w) := by
  have hmk := mk_wordsA 48 Tryd.underlying48 n m h1
  have hf : 0 + val xs * val ys < 4294967296 ^ (n + m) := by rw [Nat.zero_add, ← hn, ← hm]; exact prod_lt hx.1 hy.1
  have Hf := Lib.hid hf
  have Hn := Lib.hid hn
  have Hm := Lib.hid hm
  clear hf hn hm
  go_enter Tryd.func61, Tryd.ntmps61
  go_wp2_with fail
  refine (int_addProduct_s (pre := []) (zs0 := List.replicate (n + m) 0) (post := []) (by simpa using BlkN.new w (n + m)) rfl (by simp) (W32.replicate _) (hx.ext ((Ext.refl w).alloc _)) Hn.out (hx.apart (Nat.le_refl _)) (hy.ext ((Ext.refl w).alloc _)) Hm.out (hy.apart (Nat.le_refl _)) h64 (Nat.le_refl _) (by rw [val_replicate]; exact Hf.out) h1 (Nat.le_refl _) (by unfold maxLen; omega)).mono ?_
  rintro e w2 ⟨zs, rfl, hzl, hzw, hzb, hzv, hmod⟩
  have hext := hmod.ext ((Ext.refl w).alloc _) (Nat.le_refl _)
  simp only [List.nil_append, List.append_nil] at hzb
  have Hzl := Lib.hid hzl
  have Hzv := Lib.hid hzv
  clear hzl hzv hmod
  go_wp2_with fail
  refine (int_trimN (xs := zs) Hzl.out (hzb.rd0 hzw) (Nat.le_refl _) (by unfold maxLen; omega)).mono ?_
  rintro e w3 ⟨rfl, rfl⟩
  go_wp2_with fail
  go_ret
  have hlen := trimL_len zs
  have hz := Hzl.out
  have hn := Hn.out
  have hm := Hm.out
  refine ⟨_, _, trimL zs, rfl, ?_, by omega, by unfold maxLen; omega, ⟨by rw [val_trimL, Hzv.out, val_replicate, Nat.zero_add], Nrm.trimL _, by omega⟩, hext⟩
  rw [trimL_take]
  exact (Own.of_blk hzb hzw (Nat.le_refl _)).take _
set_option maxHeartbeats 1000000 in
theorem ref_times1 (hn : xs.length = n) (hm : ys.length = m) (hx : Rd w A xs) (hy : Rd w B ys) (h1 : n + m ≤ 1000000) :
    Calls Tryd.prog 23 #[.slice A n c, .slice B m d] w (RetN (fun zs => val zs = val xs * val ys ∧ Nrm zs ∧ zs.length ≤ xs.length + ys.length) w) := by
  have hmk := mk_wordsA 22 Tryd.underlying22 n m h1
  have Hn := Lib.hid hn
  have Hm := Lib.hid hm
  clear hn hm
  go_enter Tryd.func23, Tryd.ntmps23
  go_wp2
  go_loopw [6] (fun i wr => ∃ (k : Nat) (zs : List Nat), k ≤ n ∧ i = .int .i64 (k : Int) ∧ zs.length = n + m ∧ W32 zs ∧ val (zs.take (k + m)) = val (xs.take k) * val ys ∧ BlkN wr w.heap.size zs ∧ Ext w wr) (fun i _ => n - (intOf i).toNat)
  case atStart => exact ⟨0, List.replicate (n + m) 0, by omega, rfl, by simp, W32.replicate _, by have := times_start (zs := List.replicate (n + m) 0) (ys := ys) (m := m) (fun x hx => (List.mem_replicate.1 hx).2); simpa using this, BlkN.new w _, (Ext.refl w).alloc _⟩
  case round =>
    obtain ⟨i, zs, hi, rfl, hzl, hzw, hzv, hblk, hext⟩ := hrel
    have Hzl := Lib.hid hzl
    have Hzv := Lib.hid hzv
    clear hzl hzv
    by_cases hlt : i < n
    · have hb1 : BlkN wr w.heap.size (zs.take i ++ (zs.drop i).take m ++ zs.drop (i + m)) := by rw [mid_split]; exact hblk
      have hix : i < xs.length := by rw [Hn.out]; exact hlt
      have hxi := hx.1.get hix
      go_wp2
      go_loopw [7, 8] (fun cr j wk => ∃ (k : Nat) (mid : List Nat) (cy : Nat), k ≤ m ∧ j = .int .i64 (k : Int) ∧ cr = .int .u64 (cy : Int) ∧ MulInv ((zs.drop i).take m) ys xs[i] k mid cy ∧ BlkN wk w.heap.size (zs.take i ++ mid ++ zs.drop (i + m)) ∧ Ext w wk) (fun _ j _ => m - (intOf j).toNat)
      case atStart => exact ⟨0, _, 0, by omega, rfl, rfl, MulInv.start ((hzw.drop i).take m), hb1, hext⟩
      case round =>
        clear hb1 hblk hext
        obtain ⟨k, mid, cy, hk, rfl, rfl, hinv, hblk, hext⟩ := hrel
        have hcy := hinv.hcy
        have hml : mid.length = m := by rw [hinv.len, List.length_take, List.length_drop, Hzl.out]; omega
        have hml1 : m ≤ mid.length := by omega
        have hml2 : mid.length ≤ m := by omega
        have hli : (zs.take i).length = i := by rw [List.length_take, Hzl.out]; omega
        have Hml := Lib.hid hml
        have Hli := Lib.hid hli
        clear hml hli
        by_cases hlk : k < m
        · have hky : k < ys.length := by rw [Hm.out]; exact hlk
          obtain ⟨b, off, rfl, hb, hc1⟩ := (hx.ext hext).at_ hix
          obtain ⟨b', off', rfl, hb', hc2⟩ := (hy.ext hext).at_ (i := k) (by rw [Hm.out]; exact hlk)
          have hyk := hy.1.get (k := k) (by rw [Hm.out]; exact hlk)
          obtain ⟨b2, off2, he, hb2, hc3⟩ := (hblk.mid hinv.w32 Hli.out).at_ (i := k) (by omega)
          injection he with he
          injection he with he1 he2
          subst he1; subst he2
          have hzk := hinv.w32.get (k := k) (by omega)
          have hfz := hblk.frozen (i + k)
          have hmi := (mul_word_int hxi hyk).1
          have hmj := (mul_word_int hxi hyk).2
          have i1 : (0 : Int) ≤ (i : Int) := by omega
          have i2 : (i : Int) < (n : Int) := by omega
          have i3 : (0 : Int) ≤ (k : Int) := by omega
          have i4 : (k : Int) < (m : Int) := by omega
          have i5 : (0 : Int) ≤ (i : Int) + (k : Int) := by omega
          have i6 : (i : Int) + (k : Int) < (n : Int) + (m : Int) := by omega
          go_wp2
          go_quiet (fail)
          go_wp2
          go_roundw
          case rel => exact ⟨k + 1, _, (cy + (ys[k] * xs[i] + mid[k])) / 4294967296, by omega, by go_num, u64_div _ (cast_mac2 _ _ _ _), hinv.step hy.1 hxi (by omega) (by rw [Hm.out]; exact hlk) rfl, (hblk.drewN nq).setMid Hli.out (by omega) (u32_mod _ (cast_mac2 _ _ _ _)), (hext.drewN nq).setCell (Nat.le_refl _) _⟩
          case measure => simp [intOf]; omega
        · have hk' : k = m := by omega
          have hinv' : MulInv ((zs.drop i).take m) ys xs[i] ys.length mid cy := by
            have hk2 : k = ys.length := by rw [Hm.out]; exact hk'
            rw [← hk2]; exact hinv
          have Hd := Lib.hid (hinv'.done (by rw [Hm.out, Hml.out]; exact Nat.le_refl _))
          have hzt : (zs.take i ++ mid ++ zs.drop (i + m)).length = n + m := by
            rw [List.length_append, List.length_append, Hli.out, Hml.out, List.length_drop, Hzl.out]; omega
          have Hzt := Lib.hid hzt
          clear hzt
          have hlast := hblk.cell (i := i + m) (by rw [Hzt.out]; omega)
          have hfz := hblk.frozen (i + m)
          have i1 : (0 : Int) ≤ (i : Int) := by omega
          have i5 : (0 : Int) ≤ (i : Int) + (m : Int) := by omega
          have i6 : (i : Int) + (m : Int) < (n : Int) + (m : Int) := by omega
          have hw2 : W32 (zs.take i ++ mid ++ zs.drop (i + m)) := ((hzw.take i).append hinv.w32).append (hzw.drop _)
          clear hk'
          go_wp2
          go_roundw
          case rel =>
            refine ⟨i + 1, _, by omega, by go_num, ?_, hw2.set (i + m) hcy, times_step hix (by rw [Hzl.out]; omega) Hm.out Hml.out Hzv.out (by have h := Hd.out; rw [Hm.out] at h; exact h), hblk.set (i + m) (by go_num), hext.setCell (Nat.le_refl _) _⟩
            rw [List.length_set]
            exact Hzt.out
          case measure => simp [intOf]; omega
    · have hk' : i = n := by omega
      have hrd := hblk.rd0 hzw
      have hfin : val zs = val xs * val ys := by
        have h := Hzv.out
        rw [List.take_of_length_le (by rw [Hzl.out]; omega), List.take_of_length_le (by rw [Hn.out]; omega)] at h
        exact h
      have Hfin := Lib.hid hfin
      clear hfin hk'
      go_wp2_with (go_at_call 28; refine (ref_trimN (xs := zs) Hzl.out hrd (Nat.le_refl _) (by unfold maxLen; omega)).mono ?_; rintro e w' ⟨rfl, rfl⟩)
      go_ret
      have hlen := trimL_len zs
      have hz := Hzl.out
      have hn := Hn.out
      have hm := Hm.out
      refine ⟨_, _, trimL zs, rfl, ?_, by omega, by unfold maxLen; omega, ⟨by rw [val_trimL, Hfin.out], Nrm.trimL _, by omega⟩, hext⟩
      rw [trimL_take]
      exact (Own.of_blk hblk hzw (Nat.le_refl _)).take _
end
end Go.Proofs.YtmjmcinnbmjpdaaDoor
namespace Go.Proofs.YtmjmcinnbmjpdaaDoor
open Go.RowKit
attribute [local go_sem ↓] Go.wp_at_zero Go.wp_at_succ
theorem ival_mul {s t : Bool} {xs ys zs : List Nat} (h : val zs = val xs * val ys) : ival (!(s == t)) zs = ival s xs * ival t ys := by
  unfold ival
  rw [h]
  cases s <;> cases t <;> simp [Int.natCast_mul, Int.neg_mul, Int.mul_neg]
section
variable {A B : Option Addr} {c d n m : Nat} {xs ys : List Nat} {w : World} {s t : Bool}
set_option maxHeartbeats 1000000 in
theorem ref_Mul (hn : xs.length = n) (hm : ys.length = m) (hx : Rd w A xs) (hy : Rd w B ys) (hc : n ≤ c) (hcm : c ≤ maxLen) (hd : m ≤ d) (hdm : d ≤ maxLen) (h1 : n ≤ 100000) (h2 : m ≤ 100000) :
    Calls Tryd.prog 7 #[.agg #[.bool s, .slice A n c], .agg #[.bool t, .slice B m d]] w (RetI (ival s xs * ival t ys) (xs.length + ys.length) w) := by
  have Hn := Lib.hid hn
  have Hm := Lib.hid hm
  clear hn hm
  have lx := trimL_len xs
  have ly := trimL_len ys
  have hxt : Rd w A (trimL xs) := by rw [trimL_take]; exact hx.take _
  have hyt : Rd w B (trimL ys) := by rw [trimL_take]; exact hy.take _
  go_enter Tryd.func7, Tryd.ntmps7
  go_upto_region 1 with (fail)
  obtain ⟨W, hW, extW, bx, by_, bz, hz⟩ := box3 w 24 24 24 #[.bool s, .slice A n c] #[.bool t, .slice B m d] #[.bool false, .slice none 0 0]
  rw [← hW]
  clear hW
  have x0 := bx.cell 0 (.bool s) rfl
  have x1 := bx.cell 1 (.slice A n c) rfl
  have y0 := by_.cell 0 (.bool t) rfl
  have y1 := by_.cell 1 (.slice B m d) rfl
  have hf0 := bx.frozen 0
  have hf1 := bx.frozen 1
  have hg0 := by_.frozen 0
  have hg1 := by_.frozen 1
  go_cut [] (fun wx => TwoN w W (ival s xs) (ival t ys) xs.length ys.length (fun wx => Box wx (w.heap.size + 1 + 1) 24 #[.bool false, .slice none 0 0] ∧ w.heap.size + 3 ≤ wx.heap.size) wx)
  case first =>
    go_region_with (first | (go_at_call_of 18 A; refine (ref_Norm Hn.out (hx.ext (by first | exact extW | exact extW.drew | exact extW.drewN _ | exact (extW.drew).drew)) hc hcm h1).mono ?_; rintro e w3 ⟨b3, A3, c3, rs, rfl, hr3, hc3, hm3, hi3, hl3, hext3⟩; have e3 := (by first | exact hext3 | exact (Ext.refl W).drew.trans hext3 : Ext W w3); have y30 := (by_.ext e3).cell 0 (.bool t) rfl; have y31 := (by_.ext e3).cell 1 (.slice B m d) rfl) | (go_at_call_of 18 B; refine (ref_Norm Hm.out (hy.ext (extW.trans e3)) hd hdm h2).mono ?_; rintro e w4 ⟨b4, A4, c4, qs, rfl, hr4, hc4, hm4, hi4, hl4, hext4⟩; have e4 := e3.trans hext4; have x40 := (bx.ext e4).cell 0 (.bool s) rfl; have x41 := (bx.ext e4).cell 1 (.slice A n c) rfl; have y40 := (by_.ext e4).cell 0 (.bool t) rfl; have y41 := (by_.ext e4).cell 1 (.slice B m d) rfl; have k0 := (bx.ext e4).frozen 0; have k1 := (bx.ext e4).frozen 1; have k2 := (by_.ext e4).frozen 0; have k3 := (by_.ext e4).frozen 1))
    all_goals (go_wp2_with fail; go_meet; exact TwoN.mk' extW e4 bx by_ (hr3.ext hext4) hr4 hc3 hm3 hc4 hm4 hi3 hi4 hl3 hl4 (fun u v p q => ⟨(((((bz.ext e4).far (far_ne (by omega)) _).far (far_ne (by omega)) _).far (far_ne (by omega)) _).far (far_ne (by omega)) _), by have := e4.size; simp [World.setCell]; omega⟩))
  case rest =>
    clear bx by_ bz hz x0 x1 y0 y1 hf0 hf1 hg0 hg1 extW
    obtain ⟨b1, A1, c1, ps, b2, A2, c2, qs, extN, bx, by_, ⟨bz, hz⟩, hp, hq, hc1, hm1, hc2, hm2, hi1, hi2, hl1, hl2⟩ := hcut
    have hps : ps.length ≤ 100000 := by have := Hn.out; omega
    have hqs : qs.length ≤ 100000 := by have := Hm.out; omega
    have x0 := bx.cell 0 (.bool b1) rfl
    have x1 := bx.cell 1 (.slice A1 ps.length c1) rfl
    have y0 := by_.cell 0 (.bool b2) rfl
    have y1 := by_.cell 1 (.slice A2 qs.length c2) rfl
    go_wp2_with fail
    go_region_held3 (fun w' => w'.cell? ⟨w.heap.size, 0, none⟩ = some (.bool b1) ∧ w'.cell? ⟨w.heap.size, 1, none⟩ = some (.slice A1 ps.length c1) ∧ w'.cell? ⟨w.heap.size + 1, 0, none⟩ = some (.bool b2) ∧ w'.cell? ⟨w.heap.size + 1, 1, none⟩ = some (.slice A2 qs.length c2)) (first | (go_split_ands; refine ⟨?_, ?_, ?_, ?_⟩ <;> first | (exact Ext.cellv (by assumption) (by assumption)) | (refine (cell_far2 (by omega)).trans ?_; assumption)) | go_keep)
      (first | (go_at_call 23; refine (ref_times1 rfl rfl (hp.ext (by first | exact Ext.refl _ | exact (Ext.refl _).drew | exact (Ext.refl _).drewN _)) (hq.ext (by first | exact Ext.refl _ | exact (Ext.refl _).drew | exact (Ext.refl _).drewN _)) (by omega)).mono ?_; rintro e w5 ⟨A5, c5, zs, rfl, ho5, hc5, hm5, ⟨hv5, hn5, hl5⟩, hext5⟩; have Hv5 := Lib.hid hv5; clear hv5) | (go_at_call 22; refine (ref_signed rfl ho5.rd hc5 hm5).mono ?_; rintro e w3 ⟨b3, A3, c3, rs, rfl, hr3, hc3, hm3, hi3, hl3, hext3⟩; have ext3 := ((Ext.refl wc).drew.trans hext5).trans hext3; have bz3 := bz.ext ext3; have z0 := bz3.cell 0 (.bool false) rfl; have z1 := bz3.cell 1 (.slice none 0 0) rfl; have f0 := bz3.frozen 0; have f1 := bz3.frozen 1))
    go_wp2_with fail
    obtain ⟨r1, r2, r3, r4⟩ := fin_pair (b := b3) (n := rs.length) (c := c3) (extN.trans ext3) (by omega) bz3 hr3
    exact bodyPost_ret (v := .agg #[.bool b3, .slice A3 rs.length c3]) (by simp [results, Tryd.results7, go_sem, r3, r4]) rfl ⟨b3, A3, c3, rs, rfl, r1, hc3, hm3, by rw [ival_mul Hv5.out, hi1.eq, hi2.eq] at hi3; exact hi3, by omega, r2⟩

end
end Go.Proofs.YtmjmcinnbmjpdaaDoor
namespace Go.Proofs.YtmjmcinnbmjpdaaDoor
open Go.RowKit
attribute [local go_sem ↓] Go.wp_at_zero Go.wp_at_succ
/-- two slices of words in new memory. -/
def Ret2 (P : List Nat → List Nat → Prop) (w : World) (e : Ending) (w' : World) : Prop :=
  ∃ A c ys A' c' zs, e = .returned (.tuple #[.slice A (List.length ys) c, .slice A' (List.length zs) c']) ∧ Own w' w.heap.size A ys ∧ Own w' w.heap.size A' zs ∧ ys.length ≤ c ∧ c ≤ maxLen ∧ zs.length ≤ c' ∧ c' ≤ maxLen ∧ P ys zs ∧ Ext w w'
/-- divide is right for lists of at most L words. -/
def DivideOK (L : Nat) : Prop := ∀ (A B : Option Addr) (c d n m : Nat) (xs ys : List Nat) (w : World), xs.length = n → ys.length = m → Rd w A xs → Rd w B ys → n ≤ c → c ≤ maxLen → m ≤ d → d ≤ maxLen → Nrm xs → Nrm ys → 0 < m → n ≤ L → m ≤ 100000 →
    Calls Tryd.prog 30 #[.slice A n c, .slice B m d] w (Ret2 (fun qs rs => val qs = val xs / val ys ∧ val rs = val xs % val ys ∧ Nrm qs ∧ Nrm rs ∧ qs.length ≤ xs.length ∧ rs.length ≤ xs.length) w)
theorem val_lt_two {xs : List Nat} (h : W32 xs) (hl : xs.length ≤ 2) : val xs < 18446744073709551616 := by
  have := val_lt h
  have : 4294967296 ^ xs.length ≤ 4294967296 ^ 2 := Nat.pow_le_pow_right (by omega) hl
  omega
theorem nrm_len_le {zs xs : List Nat} (hx : W32 xs) (hz : Nrm zs) (h : val zs ≤ val xs) : zs.length ≤ xs.length := by
  rcases Nat.lt_or_ge xs.length zs.length with hl | hl
  · have := val_lt_of_len hx hz hl; omega
  · exact hl
theorem wrap_nat {a : Nat} (h : a < 18446744073709551616) : IntKind.u64.wrap (a : Int) = (a : Int) := by rw [IntKind.wrap_u64]; omega
theorem int_fromUintI {w : World} {X : Int} {x : Nat} (hX : X = x) (hx : x / 4294967296 < 4294967296) : Calls Tryd.prog 40 #[.int .u64 X] w (RetN (fun zs => val zs = x ∧ Nrm zs ∧ zs.length ≤ 2) w) := by
  subst hX
  exact int_fromUint x hx
section
variable {A B : Option Addr} {c d n m : Nat} {xs ys : List Nat} {w : World} {s t : Bool}
set_option maxHeartbeats 1000000 in
theorem int_divide_lt (hn : xs.length = n) (hm : ys.length = m) (hx : Rd w A xs) (hy : Rd w B ys) (hnx : Nrm xs) (hny : Nrm ys) (hlt : val xs < val ys) (h1 : n ≤ 100000) (h2 : m ≤ 100000) :
    Calls Tryd.prog 30 #[.slice A n c, .slice B m d] w (Ret2 (fun qs rs => val qs = val xs / val ys ∧ val rs = val xs % val ys ∧ Nrm qs ∧ Nrm rs ∧ qs.length ≤ xs.length ∧ rs.length ≤ xs.length) w) := by
  have hcm1 := Lib.hid (show cmpL xs ys = -1 by rw [cmpL_nrm hx.1 hy.1 hnx hny]; exact cmpI_of_lt hlt)
  have Hlt := Lib.hid hlt
  clear hlt
  go_enter Tryd.func30, Tryd.ntmps30
  go_wp2_with fail
  subst hn
  subst hm
  refine (int_compare A B c d xs ys w hx hy (by unfold maxLen; omega) (by unfold maxLen; omega)).mono ?_
  rintro e w1 ⟨rfl, hext1⟩
  rw [hcm1.out]
  go_wp2_with fail
  refine (clone rfl (hx.ext hext1) (by omega)).mono ?_
  rintro e w2 ⟨A2, c2, zs, rfl, ho2, hc2, hm2, rfl, hext2⟩
  go_wp2_with fail
  go_ret2
  have h := Hlt.out
  exact ⟨none, 0, [], A2, c2, zs, rfl, ⟨W32.nil, .inl rfl⟩, ho2.mono hext1.size, by simp, by unfold maxLen; omega, hc2, hm2, ⟨by rw [Nat.div_eq_of_lt h]; rfl, by rw [Nat.mod_eq_of_lt h], Nrm.nil, hnx, by simp, Nat.le_refl _⟩, hext1.trans hext2⟩
set_option maxRecDepth 100000 in
set_option maxHeartbeats 1000000 in
theorem int_divide_two (hn : xs.length = n) (hm : ys.length = m) (hx : Rd w A xs) (hy : Rd w B ys) (hnx : Nrm xs) (hny : Nrm ys) (hge : val ys ≤ val xs) (h0 : 0 < m) (h2 : n ≤ 2) :
    Calls Tryd.prog 30 #[.slice A n c, .slice B m d] w (Ret2 (fun qs rs => val qs = val xs / val ys ∧ val rs = val xs % val ys ∧ Nrm qs ∧ Nrm rs ∧ qs.length ≤ xs.length ∧ rs.length ≤ xs.length) w) := by
  have hml := len_le hx.1 hny hge
  have hpos : val ys ≠ 0 := fun h => by
    have := hny.zero.1 h
    subst this
    simp at hm
    omega
  have hcase : cmpL xs ys = 0 ∨ cmpL xs ys = 1 := by
    rw [cmpL_nrm hx.1 hy.1 hnx hny]
    rcases Nat.lt_or_ge (val ys) (val xs) with h | h
    · exact .inr (cmpI_of_gt h)
    · exact .inl (cmpI_of_eq (by omega))
  have hvx := val_lt_two hx.1 (by omega)
  have hvy := val_lt_two hy.1 (by omega)
  have q1 : val xs / val ys ≤ val xs := Nat.div_le_self _ _
  have q2 : val xs % val ys < val ys := Nat.mod_lt _ (by omega)
  have e1 : val xs / val ys / 4294967296 < 4294967296 := by omega
  have e2 : val xs % val ys / 4294967296 < 4294967296 := by omega
  have Hvx := Lib.hid hvx
  have Hvy := Lib.hid hvy
  have Hq1 := Lib.hid q1
  have Hq2 := Lib.hid q2
  have E1 := Lib.hid e1
  have E2 := Lib.hid e2
  have Hge := Lib.hid hge
  subst hn
  subst hm
  have Hml := Lib.hid hml
  have hz : ((val ys : Nat) : Int) ≠ 0 := by omega
  have hz0 : (((val ys : Nat) : Int) == 0) = false := by rw [beq_eq_false_iff_ne]; exact hz
  have hp1 : (1 : Int) ≤ ((val ys : Nat) : Int) := by omega
  clear hvx hvy q1 q2 e1 e2 hml hge hz
  rcases hcase with hcm | hcm
  all_goals
    have hcm1 := Lib.hid hcm
    clear hcm
    go_enter Tryd.func30, Tryd.ntmps30
    go_wp2_with fail
    refine (int_compare A B c d xs ys w hx hy (by unfold maxLen; omega) (by have := Hml.out; unfold maxLen; omega)).mono ?_
    rintro e w1 ⟨rfl, hext1⟩
    rw [hcm1.out]
    go_wp2_with fail
    refine (int_toUint rfl (hx.ext hext1) h2).mono ?_
    rintro e w2 ⟨rfl, rfl⟩
    go_wp2_with fail
    refine (int_toUint rfl (hy.ext hext1) (by have := Hml.out; omega)).mono ?_
    rintro e w2 ⟨rfl, rfl⟩
    clear hp1 hz0
    generalize hX : val xs = X at *
    generalize hY : val ys = Y at *
    have HX := Lib.hid hX
    have HY := Lib.hid hY
    clear hX hY
    have hz0 : ((Y : Int) == 0) = false := by rw [beq_eq_false_iff_ne]; omega
    have hp1 : (1 : Int) ≤ (Y : Int) := by omega
    have hp0 : (0 : Int) ≤ (X : Int) := by omega
    go_wp2_with fail
    have hq : (X : Int) / (Y : Int) = ((X / Y : Nat) : Int) := (Int.natCast_ediv _ _).symm
    have hr : (X : Int) % (Y : Int) = ((X % Y : Nat) : Int) := (Int.natCast_emod _ _).symm
    have hq' : (X : Int).tdiv (Y : Int) = ((X / Y : Nat) : Int) := rfl
    have hr' : (X : Int).tmod (Y : Int) = ((X % Y : Nat) : Int) := rfl
    have hw1 : IntKind.u64.wrap ((X / Y : Nat) : Int) = ((X / Y : Nat) : Int) := wrap_nat (Nat.lt_of_le_of_lt Hq1.out Hvx.out)
    have hw2 : IntKind.u64.wrap ((X % Y : Nat) : Int) = ((X % Y : Nat) : Int) := wrap_nat (Nat.lt_trans Hq2.out Hvy.out)
    generalize hU : X / Y = U at *
    generalize hV : X % Y = V at *
    have HU := Lib.hid hU
    have HV := Lib.hid hV
    clear hp0 hp1 hU hV
    go_region_with (first | (go_at_call_of 40 U; refine (int_fromUint U E1.out).mono ?_; rintro e w3 ⟨A3, c3, qs, rfl, ho3, hc3, hm3, ⟨hv3, hn3, hl3⟩, hext3⟩; have Hv3 := Lib.hid hv3; clear hv3) | (go_at_call_of 40 V; refine (int_fromUint V E2.out).mono ?_; rintro e w4 ⟨A4, c4, rs, rfl, ho4, hc4, hm4, ⟨hv4, hn4, hl4⟩, hext4⟩; have Hv4 := Lib.hid hv4; clear hv4))
    all_goals
      go_wp2_with fail
      go_ret2
      have ext3 := (Ext.refl w1).drew.trans hext3
      have e3 := Hv3.out
      have e4 := Hv4.out
      have hX := HX.out
      have hY := HY.out
      exact ⟨A3, c3, qs, A4, c4, rs, rfl, (ho3.ext hext4).mono hext1.size, ho4.mono (hext1.trans ext3).size, hc3, hm3, hc4, hm4, ⟨by rw [e3, hX, hY, HU.out], by rw [e4, hX, hY, HV.out], hn3, hn4, nrm_len_le hx.1 hn3 (by rw [e3, hX]; exact Hq1.out), nrm_len_le hx.1 hn4 (by rw [e4, hX]; have := Hq2.out; have := Hge.out; omega)⟩, hext1.trans (ext3.trans hext4)⟩
theorem divide_two : DivideOK 2 := by
  intro A B c d n m xs ys w hn hm hx hy _ _ _ _ hnx hny h0 h1 h2
  rcases Nat.lt_or_ge (val xs) (val ys) with h | h
  · exact int_divide_lt hn hm hx hy hnx hny h (by omega) h2
  · exact int_divide_two hn hm hx hy hnx hny h h0 h1
end
end Go.Proofs.YtmjmcinnbmjpdaaDoor
