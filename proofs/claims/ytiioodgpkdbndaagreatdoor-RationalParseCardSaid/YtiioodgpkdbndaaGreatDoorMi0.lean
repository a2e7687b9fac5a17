/- Walks and laws, a part. -/
import Derived.Test.YtiioodgpkdbndaaGreatDoorM0
import Derived.Test.YtiioodgpkdbndaaGreatDoorM1
import Derived.Test.YtiioodgpkdbndaaGreatDoorM2
import Derived.Test.YtiioodgpkdbndaaGreatDoorM3
import Derived.Test.YtiioodgpkdbndaaGreatDoorM4
import Derived.Test.YtiioodgpkdbndaaGreatDoorM5
import Derived.Test.YtiioodgpkdbndaaGreatDoorM6
import Derived.Test.YtiioodgpkdbndaaGreatDoorM7
import Derived.Test.YtiioodgpkdbndaaGreatDoorM8
import Derived.Test.YtiioodgpkdbndaaGreatDoorM9
import Derived.Deep.RegionHeld
import Derived.Deep.DeepCutAuto
import Derived.Lib.ItoaNum
import Derived.Lib.Strings
import Derived.Laws.BytesArg
namespace Go.Proofs.YtiioodgpkdbndaaGreatDoor
open Go.RowKit
section
variable {P : Program} {ops : Array Oper} {Q : Exit → Act → World → Prop} {md : Region.Mode} {S : World → Prop} {W0 : World}
end
/-- what a store of an integer (a sign and a slice of words) into a box does. -/
theorem put_box {w : World} {g p q n c : Nat} {t : TypeId} {x b : Bool} {y A : Option Addr} (hb : Box w g t #[.bool x, .slice y p q]) :
    Box ((w.setCell ⟨g, 0, none⟩ (.bool b)).setCell ⟨g, 1, none⟩ (.slice A n c)) g t #[.bool b, .slice A n c] ∧
    (∀ g' t' cs', g' ≠ g → Box w g' t' cs' → Box ((w.setCell ⟨g, 0, none⟩ (.bool b)).setCell ⟨g, 1, none⟩ (.slice A n c)) g' t' cs') ∧
    (∀ A' xs, Rd w A' xs → Rd ((w.setCell ⟨g, 0, none⟩ (.bool b)).setCell ⟨g, 1, none⟩ (.slice A n c)) A' xs) ∧
    ∀ W0, Ext W0 w → W0.heap.size ≤ g → Ext W0 ((w.setCell ⟨g, 0, none⟩ (.bool b)).setCell ⟨g, 1, none⟩ (.slice A n c)) :=
  ⟨(hb.setA _).setB _, fun _ _ _ hne h => (h.far (p := ⟨g, 0, none⟩) hne _).far (p := ⟨g, 1, none⟩) hne _, fun _ _ h => (h.setBox hb NoWord.two 0 _).setBox (hb.setA _) NoWord.two 1 _, fun _ e hg => (e.setCell hg _).setCell hg _⟩
end Go.Proofs.YtiioodgpkdbndaaGreatDoor
namespace Go.Proofs.YtiioodgpkdbndaaGreatDoor
open Go.RowKit
section
variable (A B : Option Addr) (c d : Nat) (xs ys : List Nat) (w : World)
set_option maxHeartbeats 400000 in
theorem ref_plus1 (hx : Rd w A xs) (hy : Rd w B ys) (hl : ys.length ≤ xs.length) (hm : xs.length ≤ 100000) :
    Calls Tryz.prog 103 #[.slice A xs.length c, .slice B ys.length d] w (RetN (fun zs => val zs = val xs + val ys ∧ Nrm zs ∧ zs.length ≤ xs.length + 1) w) := by
  have hmk := mk_words1 22 Tryz.underlying22 xs.length hm
  go_enter Tryz.func103, Tryz.ntmps103
  go_wp2
  go_loopw [6, 7] (fun cr i wr => ∃ (k : Nat) (zs : List Nat) (cy : Nat), k ≤ xs.length ∧ i = .int .i64 (k : Int) ∧ cr = .int .u64 (cy : Int) ∧ PlusInv xs ys k zs cy ∧ BlkN wr w.heap.size zs ∧ Ext w wr) (fun _ i _ => xs.length - (intOf i).toNat)
  case atStart => exact ⟨0, List.replicate (xs.length + 1) 0, 0, by omega, rfl, rfl, PlusInv.start xs ys, BlkN.new w _, (Ext.refl w).alloc _⟩
  case round =>
    obtain ⟨k, zs, cy, hk, rfl, rfl, hinv, hblk, hext⟩ := hrel
    have hcy := hinv.hcy
    have hzl := hinv.len1
    have hzl2 := hinv.len2
    by_cases hlt : k < xs.length
    · obtain ⟨b, off, rfl, hb, hc1⟩ := (hx.ext hext).at_ hlt
      have hxk := hx.1.get hlt
      have hzk := hblk.cell (i := k) (by omega)
      have hfz := hblk.frozen k
      by_cases hly : k < ys.length
      · obtain ⟨b', off', rfl, hb', hc2⟩ := (hy.ext hext).at_ hly
        have hyk := hy.1.get hly
        go_wp2
        go_roundw
        case rel => exact ⟨k + 1, _, _, by omega, by go_num, by go_num, hinv.step hx.1 hy.1 hlt (s := cy + xs[k] + ys[k]) (by rw [getD_at hlt, getD_at hly]), hblk.set k (by go_num), hext.setCell (Nat.le_refl _) _⟩
        case measure => simp [intOf]; omega
      · go_wp2
        go_roundw
        case rel => exact ⟨k + 1, _, _, by omega, by go_num, by go_num, hinv.step hx.1 hy.1 hlt (s := cy + xs[k]) (by rw [getD_at hlt, getD_out hly]; rfl), hblk.set k (by go_num), hext.setCell (Nat.le_refl _) _⟩
        case measure => simp [intOf]; omega
    · have hzk := hblk.cell (i := xs.length) (by omega)
      have hfz := hblk.frozen xs.length
      have hk' : k = xs.length := by omega
      subst hk'
      have hb2 := hblk.set xs.length (v := (cy : Int)) rfl
      have hw := hinv.w32.set xs.length (v := cy) (by omega)
      have hrd := hb2.rd0 hw
      have hdn := hinv.done hl
      have Hd := Lib.hid hdn
      clear hdn
      go_wp2_with (go_at_call 79; refine (ref_trimN (xs := zs.set xs.length cy) (by simp; omega) hrd (by omega) (by unfold maxLen; omega)).mono ?_; rintro e w' ⟨rfl, rfl⟩)
      go_ret
      have hlen := trimL_len (zs.set xs.length cy)
      rw [List.length_set] at hlen
      refine ⟨_, _, trimL (zs.set xs.length cy), rfl, ?_, by omega, by unfold maxLen; omega, ⟨Hd.out, Nrm.trimL _, by omega⟩, hext.setCell (Nat.le_refl _) _⟩
      rw [trimL_take]
      exact (Own.of_blk hb2 hw (Nat.le_refl _)).take _
set_option maxHeartbeats 400000 in
theorem ref_plus2 (hx : Rd w A xs) (hy : Rd w B ys) (hl : xs.length < ys.length) (hm : ys.length ≤ 100000) :
    Calls Tryz.prog 103 #[.slice A xs.length c, .slice B ys.length d] w (RetN (fun zs => val zs = val xs + val ys ∧ Nrm zs ∧ zs.length ≤ ys.length + 1) w) := by
  have hmk := mk_words1 22 Tryz.underlying22 ys.length hm
  go_enter Tryz.func103, Tryz.ntmps103
  go_wp2
  go_loopw [6, 7] (fun cr i wr => ∃ (k : Nat) (zs : List Nat) (cy : Nat), k ≤ ys.length ∧ i = .int .i64 (k : Int) ∧ cr = .int .u64 (cy : Int) ∧ PlusInv ys xs k zs cy ∧ BlkN wr w.heap.size zs ∧ Ext w wr) (fun _ i _ => ys.length - (intOf i).toNat)
  case atStart => exact ⟨0, List.replicate (ys.length + 1) 0, 0, by omega, rfl, rfl, PlusInv.start ys xs, BlkN.new w _, (Ext.refl w).alloc _⟩
  case round =>
    obtain ⟨k, zs, cy, hk, rfl, rfl, hinv, hblk, hext⟩ := hrel
    have hcy := hinv.hcy
    have hzl := hinv.len1
    have hzl2 := hinv.len2
    by_cases hlt : k < ys.length
    · obtain ⟨b, off, rfl, hb, hc1⟩ := (hy.ext hext).at_ hlt
      have hyk := hy.1.get hlt
      have hzk := hblk.cell (i := k) (by omega)
      have hfz := hblk.frozen k
      by_cases hly : k < xs.length
      · obtain ⟨b', off', rfl, hb', hc2⟩ := (hx.ext hext).at_ hly
        have hxk := hx.1.get hly
        go_wp2
        go_roundw
        case rel => exact ⟨k + 1, _, _, by omega, by go_num, by go_num, hinv.step hy.1 hx.1 hlt (s := cy + ys[k] + xs[k]) (by rw [getD_at hlt, getD_at hly]), hblk.set k (by go_num), hext.setCell (Nat.le_refl _) _⟩
        case measure => simp [intOf]; omega
      · go_wp2
        go_roundw
        case rel => exact ⟨k + 1, _, _, by omega, by go_num, by go_num, hinv.step hy.1 hx.1 hlt (s := cy + ys[k]) (by rw [getD_at hlt, getD_out hly]; rfl), hblk.set k (by go_num), hext.setCell (Nat.le_refl _) _⟩
        case measure => simp [intOf]; omega
    · have hzk := hblk.cell (i := ys.length) (by omega)
      have hfz := hblk.frozen ys.length
      have hk' : k = ys.length := by omega
      subst hk'
      have hb2 := hblk.set ys.length (v := (cy : Int)) rfl
      have hw := hinv.w32.set ys.length (v := cy) (by omega)
      have hrd := hb2.rd0 hw
      have hdn := hinv.done (by omega)
      have Hd := Lib.hid hdn
      clear hdn
      go_wp2_with (go_at_call 79; refine (ref_trimN (xs := zs.set ys.length cy) (by simp; omega) hrd (by omega) (by unfold maxLen; omega)).mono ?_; rintro e w' ⟨rfl, rfl⟩)
      go_ret
      have hlen := trimL_len (zs.set ys.length cy)
      rw [List.length_set] at hlen
      refine ⟨_, _, trimL (zs.set ys.length cy), rfl, ?_, by omega, by unfold maxLen; omega, ⟨by rw [Hd.out]; omega, Nrm.trimL _, by omega⟩, hext.setCell (Nat.le_refl _) _⟩
      rw [trimL_take]
      exact (Own.of_blk hb2 hw (Nat.le_refl _)).take _
theorem ref_plus {A B : Option Addr} {c d n m : Nat} {xs ys : List Nat} {w : World} (hn : xs.length = n) (hm : ys.length = m) (hx : Rd w A xs) (hy : Rd w B ys) (h1 : n ≤ 100000) (h2 : m ≤ 100000) :
    Calls Tryz.prog 103 #[.slice A n c, .slice B m d] w (RetN (fun zs => val zs = val xs + val ys ∧ Nrm zs ∧ zs.length ≤ max xs.length ys.length + 1) w) := by
  subst hn; subst hm
  by_cases h : ys.length ≤ xs.length
  · exact (ref_plus1 A B c d xs ys w hx hy h h1).mono fun e w' ⟨A', c', zs, h1, h2, h3, h4, ⟨h5, h6, h7⟩, h8⟩ => ⟨A', c', zs, h1, h2, h3, h4, ⟨h5, h6, by omega⟩, h8⟩
  · exact (ref_plus2 A B c d xs ys w hx hy (by omega) h2).mono fun e w' ⟨A', c', zs, h1, h2, h3, h4, ⟨h5, h6, h7⟩, h8⟩ => ⟨A', c', zs, h1, h2, h3, h4, ⟨h5, h6, by omega⟩, h8⟩
end
end Go.Proofs.YtiioodgpkdbndaaGreatDoor
namespace Go.Proofs.YtiioodgpkdbndaaGreatDoor
open Go.RowKit
section
variable {A B : Option Addr} {c d n m : Nat} {xs ys : List Nat} {w : World} {s t : Bool}
set_option maxHeartbeats 400000 in
theorem ref_FromInt (k : Int) (h0 : -9223372036854775808 ≤ k) (h1 : k < 9223372036854775808) : Calls Tryz.prog 44 #[.int .i64 k] w (RetI k 2 w) := by
  by_cases hk : k < 0
  · skip
    obtain ⟨j, hj⟩ : ∃ j : Nat, k = -(j : Int) := ⟨k.natAbs, by omega⟩
    have hneg := neg_wrap (j := j) (by omega)
    have hj2 : j / 4294967296 < 4294967296 := by omega
    subst hj
    skip
    have Hneg := Lib.hid hneg
    clear hneg
    go_enter Tryz.func44, Tryz.ntmps44
    go_wp2_with fail
    rw [Hneg.out]
    refine (ref_words (w := w.alloc (.cells #[.bool false, .slice none 0 0] 24)) j hj2).mono ?_
    rintro e w2 ⟨A2, c2, zs, rfl, ho2, hc2, hm2, ⟨hv2, hn2, hl2⟩, hext2⟩
    have Hv2 := Lib.hid hv2
    clear hv2
    go_wp2_with fail
    refine (ref_signed rfl ho2.rd hc2 hm2).mono ?_
    rintro e w3 ⟨b3, A3, c3, rs, rfl, hr3, hc3, hm3, hi3, hl3, hext3⟩
    have ext3 := hext2.trans hext3
    have bz := Box.new w 24 #[.bool false, .slice none 0 0]
    have bz3 := bz.ext ext3
    have z0 := bz3.cell 0 (.bool false) rfl
    have z1 := bz3.cell 1 (.slice none 0 0) rfl
    have f0 := bz3.frozen 0
    have f1 := bz3.frozen 1
    go_wp2_with fail
    obtain ⟨r1, r2, r3, r4⟩ := fin_pair (b := b3) (n := rs.length) (c := c3) (((Ext.refl w).alloc _).trans ext3) (Nat.le_refl _) bz3 hr3
    exact bodyPost_ret (v := .agg #[.bool b3, .slice A3 rs.length c3]) (by simp [results, Tryz.results44, go_sem, r3, r4]) rfl ⟨b3, A3, c3, rs, rfl, r1, hc3, hm3, by have h := Hv2.out; unfold ival at hi3; rw [h] at hi3; simpa using hi3, by omega, r2⟩
  · skip
    obtain ⟨j, hj⟩ : ∃ j : Nat, k = (j : Int) := ⟨k.toNat, by omega⟩
    have hj2 : j / 4294967296 < 4294967296 := by omega
    subst hj
    skip
    skip
    skip
    go_enter Tryz.func44, Tryz.ntmps44
    go_wp2_with fail
    skip
    refine (ref_words (w := w.alloc (.cells #[.bool false, .slice none 0 0] 24)) j hj2).mono ?_
    rintro e w2 ⟨A2, c2, zs, rfl, ho2, hc2, hm2, ⟨hv2, hn2, hl2⟩, hext2⟩
    have Hv2 := Lib.hid hv2
    clear hv2
    go_wp2_with fail
    refine (ref_signed rfl ho2.rd hc2 hm2).mono ?_
    rintro e w3 ⟨b3, A3, c3, rs, rfl, hr3, hc3, hm3, hi3, hl3, hext3⟩
    have ext3 := hext2.trans hext3
    have bz := Box.new w 24 #[.bool false, .slice none 0 0]
    have bz3 := bz.ext ext3
    have z0 := bz3.cell 0 (.bool false) rfl
    have z1 := bz3.cell 1 (.slice none 0 0) rfl
    have f0 := bz3.frozen 0
    have f1 := bz3.frozen 1
    go_wp2_with fail
    obtain ⟨r1, r2, r3, r4⟩ := fin_pair (b := b3) (n := rs.length) (c := c3) (((Ext.refl w).alloc _).trans ext3) (Nat.le_refl _) bz3 hr3
    exact bodyPost_ret (v := .agg #[.bool b3, .slice A3 rs.length c3]) (by simp [results, Tryz.results44, go_sem, r3, r4]) rfl ⟨b3, A3, c3, rs, rfl, r1, hc3, hm3, by have h := Hv2.out; unfold ival at hi3; rw [h] at hi3; simpa using hi3, by omega, r2⟩
end
end Go.Proofs.YtiioodgpkdbndaaGreatDoor
namespace Go.Proofs.YtiioodgpkdbndaaGreatDoor
open Go.RowKit
attribute [local go_sem ↓] Go.wp_at_zero Go.wp_at_succ
section
variable {A B : Option Addr} {c d n m : Nat} {xs ys : List Nat} {w : World} {s t : Bool}
set_option maxHeartbeats 1000000 in
theorem ref_Neg (hn : xs.length = n) (hx : Rd w A xs) (hc : n ≤ c) (hcm : c ≤ maxLen) (_h1 : n ≤ 100000) :
    Calls Tryz.prog 61 #[.agg #[.bool s, .slice A n c]] w (RetI (-(ival s xs)) xs.length w) := by
  have Hn := Lib.hid hn
  clear hn
  have lx := trimL_len xs
  have hxt : Rd w A (trimL xs) := by rw [trimL_take]; exact hx.take _
  go_enter Tryz.func61, Tryz.ntmps61
  go_upto_region 1 with (fail)
  obtain ⟨W, hW, extW, bx, bz, hz⟩ := box2 w 24 24 #[.bool s, .slice A n c] #[.bool false, .slice none 0 0]
  rw [← hW]
  clear hW
  have x0 := bx.cell 0 (.bool s) rfl
  have x1 := bx.cell 1 (.slice A n c) rfl
  go_wp2_with (go_at_call 58; refine (ref_signed Hn.out (hx.ext extW) hc hcm).mono ?_; rintro e w3 ⟨b3, A3, c3, rs, rfl, hr3, hc3, hm3, hi3, hl3, hext3⟩; have ext3 := hext3; have bz3 := bz.ext ext3; have z0 := bz3.cell 0 (.bool false) rfl; have z1 := bz3.cell 1 (.slice none 0 0) rfl; have f0 := bz3.frozen 0; have f1 := bz3.frozen 1)
  go_wp2_with fail
  obtain ⟨r1, r2, r3, r4⟩ := fin_pair (b := b3) (n := rs.length) (c := c3) (extW.trans ext3) (by omega) bz3 hr3
  exact bodyPost_ret (v := .agg #[.bool b3, .slice A3 rs.length c3]) (by simp [results, Tryz.results61, go_sem, r3, r4]) rfl ⟨b3, A3, c3, rs, rfl, r1, hc3, hm3, by rw [ival_not] at hi3; exact hi3, by omega, r2⟩
end
end Go.Proofs.YtiioodgpkdbndaaGreatDoor
namespace Go.Proofs.YtiioodgpkdbndaaGreatDoor
open Go.RowKit
attribute [local go_sem ↓] Go.wp_at_zero Go.wp_at_succ
/-- behind 'a, b = Norm(a), Norm(b)': both boxes hold normal forms. -/
def TwoN (w _W : World) (x y : Int) (lx ly : Nat) (R : World → Prop) (wx : World) : Prop :=
  ∃ b3 A3 c3 rs b4 A4 c4 qs, Ext w wx ∧ Box wx w.heap.size 24 #[.bool b3, .slice A3 (List.length rs) c3] ∧ Box wx (w.heap.size + 1) 24 #[.bool b4, .slice A4 (List.length qs) c4] ∧ R wx ∧ Rd wx A3 rs ∧ Rd wx A4 qs ∧
    rs.length ≤ c3 ∧ c3 ≤ maxLen ∧ qs.length ≤ c4 ∧ c4 ≤ maxLen ∧ IsInt x b3 rs ∧ IsInt y b4 qs ∧ rs.length ≤ lx ∧ qs.length ≤ ly
theorem TwoN.mk' {w W w4 : World} {x y : Int} {lx ly : Nat} {R : World → Prop} {s t b3 b4 : Bool} {A A3 B A4 : Option Addr} {n c m d c3 c4 : Nat} {rs qs : List Nat} (extW : Ext w W) (e4 : Ext W w4)
    (bx : Box W w.heap.size 24 #[.bool s, .slice A n c]) (by_ : Box W (w.heap.size + 1) 24 #[.bool t, .slice B m d]) (hr3 : Rd w4 A3 rs) (hr4 : Rd w4 A4 qs)
    (h1 : rs.length ≤ c3) (h2 : c3 ≤ maxLen) (h3 : qs.length ≤ c4) (h4 : c4 ≤ maxLen) (hi3 : IsInt x b3 rs) (hi4 : IsInt y b4 qs) (h5 : rs.length ≤ lx) (h6 : qs.length ≤ ly)
    (hR : ∀ u v p q, R ((((w4.setCell ⟨w.heap.size, 0, none⟩ u).setCell ⟨w.heap.size, 1, none⟩ v).setCell ⟨w.heap.size + 1, 0, none⟩ p).setCell ⟨w.heap.size + 1, 1, none⟩ q)) :
    TwoN w W x y lx ly R ((((w4.setCell ⟨w.heap.size, 0, none⟩ (.bool b3)).setCell ⟨w.heap.size, 1, none⟩ (.slice A3 rs.length c3)).setCell ⟨w.heap.size + 1, 0, none⟩ (.bool b4)).setCell ⟨w.heap.size + 1, 1, none⟩ (.slice A4 qs.length c4)) := by
  have k1 := bx.ext e4
  have k2 := by_.ext e4
  obtain ⟨r1, r2, _, _⟩ := fin_pair (b := b3) (n := rs.length) (c := c3) (extW.trans e4) (Nat.le_refl _) k1 hr3
  have q1 := (hr4.setBox k1 NoWord.two 0 (.bool b3)).setBox (k1.setA (.bool b3)) NoWord.two 1 (.slice A3 rs.length c3)
  have j1 := (k1.setA (.bool b3)).setB (.slice A3 rs.length c3)
  have j2 := ((k2.far (p := ⟨w.heap.size, 0, none⟩) (by simp) (.bool b3)).far (p := ⟨w.heap.size, 1, none⟩) (by simp) (.slice A3 rs.length c3))
  have j20 := j2.setA (.bool b4)
  have j3 := j20.setB (.slice A4 qs.length c4)
  have j4 := ((j1.far (p := ⟨w.heap.size + 1, 0, none⟩) (by simp) (.bool b4)).far (p := ⟨w.heap.size + 1, 1, none⟩) (by simp) (.slice A4 qs.length c4))
  have hE := (r2.setCell (p := ⟨w.heap.size + 1, 0, none⟩) (Nat.le_succ _) (.bool b4)).setCell (p := ⟨w.heap.size + 1, 1, none⟩) (Nat.le_succ _) (.slice A4 qs.length c4)
  have r3 := (r1.setBox j2 NoWord.two 0 (.bool b4)).setBox j20 NoWord.two 1 (.slice A4 qs.length c4)
  have q3 := (q1.setBox j2 NoWord.two 0 (.bool b4)).setBox j20 NoWord.two 1 (.slice A4 qs.length c4)
  have hRR := hR (.bool b3) (.slice A3 rs.length c3) (.bool b4) (.slice A4 qs.length c4)
  exact ⟨b3, A3, c3, rs, b4, A4, c4, qs, hE, j4, j3, hRR, r3, q3, h1, h2, h3, h4, hi3, hi4, h5, h6⟩
theorem isint_val {z : Int} {b : Bool} {ys : List Nat} (h : IsInt z b ys) : (val ys : Int) = if b then -z else z := by
  have := h.eq
  unfold ival at this
  cases b <;> simp at this ⊢ <;> omega
section
variable {A B : Option Addr} {c d n m : Nat} {xs ys : List Nat} {w : World} {s t : Bool}
end
end Go.Proofs.YtiioodgpkdbndaaGreatDoor
namespace Go.Proofs.YtiioodgpkdbndaaGreatDoor
open Go.RowKit
attribute [local go_sem ↓] Go.wp_at_zero Go.wp_at_succ
section
variable {A B : Option Addr} {c d n m : Nat} {xs ys : List Nat} {w : World} {s t : Bool}
set_option maxHeartbeats 1000000 in
theorem ref_Add (hn : xs.length = n) (hm : ys.length = m) (hx : Rd w A xs) (hy : Rd w B ys) (hc : n ≤ c) (hcm : c ≤ maxLen) (hd : m ≤ d) (hdm : d ≤ maxLen) (h1 : n ≤ 100000) (h2 : m ≤ 100000) :
    Calls Tryz.prog 73 #[.agg #[.bool s, .slice A n c], .agg #[.bool t, .slice B m d]] w (RetI (ival s xs + ival t ys) (max xs.length ys.length + 1) w) := by
  have Hn := Lib.hid hn
  have Hm := Lib.hid hm
  clear hn hm
  have lx := trimL_len xs
  have ly := trimL_len ys
  have hxt : Rd w A (trimL xs) := by rw [trimL_take]; exact hx.take _
  have hyt : Rd w B (trimL ys) := by rw [trimL_take]; exact hy.take _
  go_enter Tryz.func73, Tryz.ntmps73
  go_upto_region 1 with (fail)
  obtain ⟨W, hW, extW, bx, by_, bz, hz⟩ := box3 w 24 24 24 #[.bool s, .slice A n c] #[.bool t, .slice B m d] #[.bool false, .slice none 0 0]
  rw [← hW]
  clear hW
  have x0 := bx.cell 0 (.bool s) rfl
  have x1 := bx.cell 1 (.slice A n c) rfl
  have y0 := by_.cell 0 (.bool t) rfl
  have y1 := by_.cell 1 (.slice B m d) rfl
  have hf0 := bx.frozen 0
  have hf1 := bx.frozen 1
  have hg0 := by_.frozen 0
  have hg1 := by_.frozen 1
  go_cut [] (fun wx => TwoN w W (ival s xs) (ival t ys) xs.length ys.length (fun wx => Box wx (w.heap.size + 1 + 1) 24 #[.bool false, .slice none 0 0] ∧ w.heap.size + 3 ≤ wx.heap.size) wx)
  case first =>
    go_region_with (first | (go_at_call_of 15 A; refine (ref_Norm Hn.out (hx.ext (by first | exact extW | exact extW.drew | exact extW.drewN _ | exact (extW.drew).drew)) hc hcm h1).mono ?_; rintro e w3 ⟨b3, A3, c3, rs, rfl, hr3, hc3, hm3, hi3, hl3, hext3⟩; have e3 := (by first | exact hext3 | exact (Ext.refl W).drew.trans hext3 : Ext W w3); have y30 := (by_.ext e3).cell 0 (.bool t) rfl; have y31 := (by_.ext e3).cell 1 (.slice B m d) rfl) | (go_at_call_of 15 B; refine (ref_Norm Hm.out (hy.ext (extW.trans e3)) hd hdm h2).mono ?_; rintro e w4 ⟨b4, A4, c4, qs, rfl, hr4, hc4, hm4, hi4, hl4, hext4⟩; have e4 := e3.trans hext4; have x40 := (bx.ext e4).cell 0 (.bool s) rfl; have x41 := (bx.ext e4).cell 1 (.slice A n c) rfl; have y40 := (by_.ext e4).cell 0 (.bool t) rfl; have y41 := (by_.ext e4).cell 1 (.slice B m d) rfl; have k0 := (bx.ext e4).frozen 0; have k1 := (bx.ext e4).frozen 1; have k2 := (by_.ext e4).frozen 0; have k3 := (by_.ext e4).frozen 1))
    all_goals (go_wp2_with fail; go_meet; exact TwoN.mk' extW e4 bx by_ (hr3.ext hext4) hr4 hc3 hm3 hc4 hm4 hi3 hi4 hl3 hl4 (fun u v p q => ⟨(((((bz.ext e4).far (far_ne (by omega)) _).far (far_ne (by omega)) _).far (far_ne (by omega)) _).far (far_ne (by omega)) _), by have := e4.size; simp [World.setCell]; omega⟩))
  case rest =>
    clear bx by_ bz hz x0 x1 y0 y1 hf0 hf1 hg0 hg1 extW
    obtain ⟨b1, A1, c1, ps, b2, A2, c2, qs, extN, bx, by_, ⟨bz, hz⟩, hp, hq, hc1, hm1, hc2, hm2, hi1, hi2, hl1, hl2⟩ := hcut
    have x0 := bx.cell 0 (.bool b1) rfl
    have x1 := bx.cell 1 (.slice A1 ps.length c1) rfl
    have y0 := by_.cell 0 (.bool b2) rfl
    have y1 := by_.cell 1 (.slice A2 qs.length c2) rfl
    have hps : ps.length ≤ 100000 := by have := Hn.out; omega
    have hqs : qs.length ≤ 100000 := by have := Hm.out; omega
    have hv1 := isint_val hi1
    have hv2 := isint_val hi2
    have Hv1 := Lib.hid hv1
    have Hv2 := Lib.hid hv2
    clear hv1 hv2
    cases hst : (b1 == b2) with
    | true =>
      go_wp2_with fail
      go_region_held3 (fun w' => w'.cell? ⟨w.heap.size, 0, none⟩ = some (.bool b1) ∧ w'.cell? ⟨w.heap.size, 1, none⟩ = some (.slice A1 ps.length c1) ∧ w'.cell? ⟨w.heap.size + 1, 0, none⟩ = some (.bool b2) ∧ w'.cell? ⟨w.heap.size + 1, 1, none⟩ = some (.slice A2 qs.length c2)) (first | (go_split_ands; refine ⟨?_, ?_, ?_, ?_⟩ <;> first | (exact Ext.cellv (by assumption) (by assumption)) | (refine (cell_far2 (by omega)).trans ?_; assumption)) | go_keep)
        (first | (go_at_call 103; refine (ref_plus rfl rfl (hp.ext (by first | exact Ext.refl _ | exact (Ext.refl _).drew | exact (Ext.refl _).drewN _)) (hq.ext (by first | exact Ext.refl _ | exact (Ext.refl _).drew | exact (Ext.refl _).drewN _)) (by omega) (by omega)).mono ?_; rintro e w5 ⟨A5, c5, zs, rfl, ho5, hc5, hm5, ⟨hv5, hn5, hl5⟩, hext5⟩; have Hv5 := Lib.hid hv5; clear hv5) | (go_at_call 58; refine (ref_signed rfl ho5.rd hc5 hm5).mono ?_; rintro e w3 ⟨b3, A3, c3, rs, rfl, hr3, hc3, hm3, hi3, hl3, hext3⟩; have ext3 := ((Ext.refl wc).drew.trans hext5).trans hext3; have bz3 := bz.ext ext3; have z0 := bz3.cell 0 (.bool false) rfl; have z1 := bz3.cell 1 (.slice none 0 0) rfl; have f0 := bz3.frozen 0; have f1 := bz3.frozen 1))
      go_wp2_with fail
      obtain ⟨r1, r2, r3, r4⟩ := fin_pair (b := b3) (n := rs.length) (c := c3) (extN.trans ext3) (by omega) bz3 hr3
      refine bodyPost_ret (v := .agg #[.bool b3, .slice A3 rs.length c3]) (by simp [results, Tryz.results73, go_sem, r3, r4]) rfl ⟨b3, A3, c3, rs, rfl, r1, hc3, hm3, ?_, by omega, r2⟩
      have h := Hv5.out
      have g1 := Hv1.out
      have g2 := Hv2.out
      have hst' : b1 = b2 := by simpa using hst
      subst hst'
      have e : ival b1 zs = ival s xs + ival t ys := by
        unfold ival at *
        cases b1 <;> simp at g1 g2 ⊢ <;> omega
      rw [← e]
      exact hi3
    | false =>
      rcases Nat.lt_trichotomy (val ps) (val qs) with hlt | hlt | hlt
      · have hcm := Lib.hid (show cmpL ps qs = (-1) by rw [cmpL_nrm hp.1 hq.1 hi1.nrm hi2.nrm]; exact cmpI_of_lt hlt)
        have hle := len_le hq.1 hi1.nrm (Nat.le_of_lt hlt)
        have Hlt := Lib.hid hlt
        clear hlt
        go_wp2_with fail
        refine (ref_compare A1 A2 c1 c2 ps qs wc hp hq (by unfold maxLen; omega) (by unfold maxLen; omega)).mono ?_
        rintro e w1 ⟨rfl, hext1⟩
        rw [hcm.out]
        replace extN := extN.trans hext1
        replace hp := hp.ext hext1
        replace hq := hq.ext hext1
        replace bx := bx.ext hext1
        replace by_ := by_.ext hext1
        replace bz := bz.ext hext1
        clear x0 x1 y0 y1 hext1
        have x0 := bx.cell 0 (.bool b1) rfl
        have x1 := bx.cell 1 (.slice A1 ps.length c1) rfl
        have y0 := by_.cell 0 (.bool b2) rfl
        have y1 := by_.cell 1 (.slice A2 qs.length c2) rfl
        go_wp2_with fail
        go_region_held3 (fun w' => w'.cell? ⟨w.heap.size + 1, 0, none⟩ = some (.bool b2) ∧ w'.cell? ⟨w.heap.size + 1, 1, none⟩ = some (.slice A2 qs.length c2) ∧ w'.cell? ⟨w.heap.size, 1, none⟩ = some (.slice A1 ps.length c1)) (first | (go_split_ands; refine ⟨?_, ?_, ?_⟩ <;> first | (exact Ext.cellv (by assumption) (by assumption)) | (refine (cell_far2 (by omega)).trans ?_; assumption)) | go_keep)
          (first | (go_at_call 105; refine (ref_minus rfl rfl (hq.ext (by first | exact Ext.refl _ | exact (Ext.refl _).drew | exact (Ext.refl _).drewN _)) (hp.ext (by first | exact Ext.refl _ | exact (Ext.refl _).drew | exact (Ext.refl _).drewN _)) hle (Nat.le_of_lt Hlt.out) (by omega)).mono ?_; rintro e w5 ⟨A5, c5, zs, rfl, ho5, hc5, hm5, ⟨hv5, hn5, hl5⟩, hext5⟩; have Hv5 := Lib.hid hv5; clear hv5) | (go_at_call 58; refine (ref_signed rfl ho5.rd hc5 hm5).mono ?_; rintro e w3 ⟨b3, A3, c3, rs, rfl, hr3, hc3, hm3, hi3, hl3, hext3⟩; have ext3 := ((Ext.refl w1).drew.trans hext5).trans hext3; have bz3 := bz.ext ext3; have z0 := bz3.cell 0 (.bool false) rfl; have z1 := bz3.cell 1 (.slice none 0 0) rfl; have f0 := bz3.frozen 0; have f1 := bz3.frozen 1))
        go_wp2_with fail
        obtain ⟨r1, r2, r3, r4⟩ := fin_pair (b := b3) (n := rs.length) (c := c3) (extN.trans ext3) (by omega) bz3 hr3
        refine bodyPost_ret (v := .agg #[.bool b3, .slice A3 rs.length c3]) (by simp [results, Tryz.results73, go_sem, r3, r4]) rfl ⟨b3, A3, c3, rs, rfl, r1, hc3, hm3, ?_, by omega, r2⟩
        have h := Hv5.out
        have g1 := Hv1.out
        have g2 := Hv2.out
        have h' := Hlt.out
        have e : ival b2 zs = ival s xs + ival t ys := by
          unfold ival at *
          cases b1 <;> cases b2 <;> simp at hst <;> simp at g1 g2 ⊢ <;> omega
        rw [← e]
        exact hi3
      · have hcm := Lib.hid (show cmpL ps qs = 0 by rw [cmpL_nrm hp.1 hq.1 hi1.nrm hi2.nrm]; exact cmpI_of_eq hlt)
        have hle := len_le hp.1 hi2.nrm (by omega)
        have Hlt := Lib.hid hlt
        clear hlt
        go_wp2_with fail
        refine (ref_compare A1 A2 c1 c2 ps qs wc hp hq (by unfold maxLen; omega) (by unfold maxLen; omega)).mono ?_
        rintro e w1 ⟨rfl, hext1⟩
        rw [hcm.out]
        replace extN := extN.trans hext1
        replace hp := hp.ext hext1
        replace hq := hq.ext hext1
        replace bx := bx.ext hext1
        replace by_ := by_.ext hext1
        replace bz := bz.ext hext1
        clear x0 x1 y0 y1 hext1
        have x0 := bx.cell 0 (.bool b1) rfl
        have x1 := bx.cell 1 (.slice A1 ps.length c1) rfl
        have y0 := by_.cell 0 (.bool b2) rfl
        have y1 := by_.cell 1 (.slice A2 qs.length c2) rfl
        go_wp2_with fail
        go_region_held3 (fun w' => w'.cell? ⟨w.heap.size, 0, none⟩ = some (.bool b1) ∧ w'.cell? ⟨w.heap.size, 1, none⟩ = some (.slice A1 ps.length c1) ∧ w'.cell? ⟨w.heap.size + 1, 1, none⟩ = some (.slice A2 qs.length c2)) (first | (go_split_ands; refine ⟨?_, ?_, ?_⟩ <;> first | (exact Ext.cellv (by assumption) (by assumption)) | (refine (cell_far2 (by omega)).trans ?_; assumption)) | go_keep)
          (first | (go_at_call 105; refine (ref_minus rfl rfl (hp.ext (by first | exact Ext.refl _ | exact (Ext.refl _).drew | exact (Ext.refl _).drewN _)) (hq.ext (by first | exact Ext.refl _ | exact (Ext.refl _).drew | exact (Ext.refl _).drewN _)) hle (by have := Hlt.out; omega) (by omega)).mono ?_; rintro e w5 ⟨A5, c5, zs, rfl, ho5, hc5, hm5, ⟨hv5, hn5, hl5⟩, hext5⟩; have Hv5 := Lib.hid hv5; clear hv5) | (go_at_call 58; refine (ref_signed rfl ho5.rd hc5 hm5).mono ?_; rintro e w3 ⟨b3, A3, c3, rs, rfl, hr3, hc3, hm3, hi3, hl3, hext3⟩; have ext3 := ((Ext.refl w1).drew.trans hext5).trans hext3; have bz3 := bz.ext ext3; have z0 := bz3.cell 0 (.bool false) rfl; have z1 := bz3.cell 1 (.slice none 0 0) rfl; have f0 := bz3.frozen 0; have f1 := bz3.frozen 1))
        go_wp2_with fail
        obtain ⟨r1, r2, r3, r4⟩ := fin_pair (b := b3) (n := rs.length) (c := c3) (extN.trans ext3) (by omega) bz3 hr3
        refine bodyPost_ret (v := .agg #[.bool b3, .slice A3 rs.length c3]) (by simp [results, Tryz.results73, go_sem, r3, r4]) rfl ⟨b3, A3, c3, rs, rfl, r1, hc3, hm3, ?_, by omega, r2⟩
        have h := Hv5.out
        have g1 := Hv1.out
        have g2 := Hv2.out
        have h' := Hlt.out
        have e : ival b1 zs = ival s xs + ival t ys := by
          unfold ival at *
          cases b1 <;> cases b2 <;> simp at hst <;> simp at g1 g2 ⊢ <;> omega
        rw [← e]
        exact hi3
      · have hcm := Lib.hid (show cmpL ps qs = 1 by rw [cmpL_nrm hp.1 hq.1 hi1.nrm hi2.nrm]; exact cmpI_of_gt hlt)
        have hle := len_le hp.1 hi2.nrm (by omega)
        have Hlt := Lib.hid hlt
        clear hlt
        go_wp2_with fail
        refine (ref_compare A1 A2 c1 c2 ps qs wc hp hq (by unfold maxLen; omega) (by unfold maxLen; omega)).mono ?_
        rintro e w1 ⟨rfl, hext1⟩
        rw [hcm.out]
        replace extN := extN.trans hext1
        replace hp := hp.ext hext1
        replace hq := hq.ext hext1
        replace bx := bx.ext hext1
        replace by_ := by_.ext hext1
        replace bz := bz.ext hext1
        clear x0 x1 y0 y1 hext1
        have x0 := bx.cell 0 (.bool b1) rfl
        have x1 := bx.cell 1 (.slice A1 ps.length c1) rfl
        have y0 := by_.cell 0 (.bool b2) rfl
        have y1 := by_.cell 1 (.slice A2 qs.length c2) rfl
        go_wp2_with fail
        go_region_held3 (fun w' => w'.cell? ⟨w.heap.size, 0, none⟩ = some (.bool b1) ∧ w'.cell? ⟨w.heap.size, 1, none⟩ = some (.slice A1 ps.length c1) ∧ w'.cell? ⟨w.heap.size + 1, 1, none⟩ = some (.slice A2 qs.length c2)) (first | (go_split_ands; refine ⟨?_, ?_, ?_⟩ <;> first | (exact Ext.cellv (by assumption) (by assumption)) | (refine (cell_far2 (by omega)).trans ?_; assumption)) | go_keep)
          (first | (go_at_call 105; refine (ref_minus rfl rfl (hp.ext (by first | exact Ext.refl _ | exact (Ext.refl _).drew | exact (Ext.refl _).drewN _)) (hq.ext (by first | exact Ext.refl _ | exact (Ext.refl _).drew | exact (Ext.refl _).drewN _)) hle (by have := Hlt.out; omega) (by omega)).mono ?_; rintro e w5 ⟨A5, c5, zs, rfl, ho5, hc5, hm5, ⟨hv5, hn5, hl5⟩, hext5⟩; have Hv5 := Lib.hid hv5; clear hv5) | (go_at_call 58; refine (ref_signed rfl ho5.rd hc5 hm5).mono ?_; rintro e w3 ⟨b3, A3, c3, rs, rfl, hr3, hc3, hm3, hi3, hl3, hext3⟩; have ext3 := ((Ext.refl w1).drew.trans hext5).trans hext3; have bz3 := bz.ext ext3; have z0 := bz3.cell 0 (.bool false) rfl; have z1 := bz3.cell 1 (.slice none 0 0) rfl; have f0 := bz3.frozen 0; have f1 := bz3.frozen 1))
        go_wp2_with fail
        obtain ⟨r1, r2, r3, r4⟩ := fin_pair (b := b3) (n := rs.length) (c := c3) (extN.trans ext3) (by omega) bz3 hr3
        refine bodyPost_ret (v := .agg #[.bool b3, .slice A3 rs.length c3]) (by simp [results, Tryz.results73, go_sem, r3, r4]) rfl ⟨b3, A3, c3, rs, rfl, r1, hc3, hm3, ?_, by omega, r2⟩
        have h := Hv5.out
        have g1 := Hv1.out
        have g2 := Hv2.out
        have h' := Hlt.out
        have e : ival b1 zs = ival s xs + ival t ys := by
          unfold ival at *
          cases b1 <;> cases b2 <;> simp at hst <;> simp at g1 g2 ⊢ <;> omega
        rw [← e]
        exact hi3
end
end Go.Proofs.YtiioodgpkdbndaaGreatDoor
namespace Go.Proofs.YtiioodgpkdbndaaGreatDoor
open Go.RowKit
attribute [local go_sem ↓] Go.wp_at_zero Go.wp_at_succ
section
variable {A B : Option Addr} {c d n m : Nat} {xs ys : List Nat} {w : World} {s t : Bool}
set_option maxHeartbeats 1000000 in
theorem ref_Mul (hn : xs.length = n) (hm : ys.length = m) (hx : Rd w A xs) (hy : Rd w B ys) (hc : n ≤ c) (hcm : c ≤ maxLen) (hd : m ≤ d) (hdm : d ≤ maxLen) (h1 : n ≤ 100000) (h2 : m ≤ 100000) :
    Calls Tryz.prog 74 #[.agg #[.bool s, .slice A n c], .agg #[.bool t, .slice B m d]] w (RetI (ival s xs * ival t ys) (xs.length + ys.length) w) := by
  have Hn := Lib.hid hn
  have Hm := Lib.hid hm
  clear hn hm
  have lx := trimL_len xs
  have ly := trimL_len ys
  have hxt : Rd w A (trimL xs) := by rw [trimL_take]; exact hx.take _
  have hyt : Rd w B (trimL ys) := by rw [trimL_take]; exact hy.take _
  go_enter Tryz.func74, Tryz.ntmps74
  go_upto_region 1 with (fail)
  obtain ⟨W, hW, extW, bx, by_, bz, hz⟩ := box3 w 24 24 24 #[.bool s, .slice A n c] #[.bool t, .slice B m d] #[.bool false, .slice none 0 0]
  rw [← hW]
  clear hW
  have x0 := bx.cell 0 (.bool s) rfl
  have x1 := bx.cell 1 (.slice A n c) rfl
  have y0 := by_.cell 0 (.bool t) rfl
  have y1 := by_.cell 1 (.slice B m d) rfl
  have hf0 := bx.frozen 0
  have hf1 := bx.frozen 1
  have hg0 := by_.frozen 0
  have hg1 := by_.frozen 1
  go_cut [] (fun wx => TwoN w W (ival s xs) (ival t ys) xs.length ys.length (fun wx => Box wx (w.heap.size + 1 + 1) 24 #[.bool false, .slice none 0 0] ∧ w.heap.size + 3 ≤ wx.heap.size) wx)
  case first =>
    go_region_with (first | (go_at_call_of 15 A; refine (ref_Norm Hn.out (hx.ext (by first | exact extW | exact extW.drew | exact extW.drewN _ | exact (extW.drew).drew)) hc hcm h1).mono ?_; rintro e w3 ⟨b3, A3, c3, rs, rfl, hr3, hc3, hm3, hi3, hl3, hext3⟩; have e3 := (by first | exact hext3 | exact (Ext.refl W).drew.trans hext3 : Ext W w3); have y30 := (by_.ext e3).cell 0 (.bool t) rfl; have y31 := (by_.ext e3).cell 1 (.slice B m d) rfl) | (go_at_call_of 15 B; refine (ref_Norm Hm.out (hy.ext (extW.trans e3)) hd hdm h2).mono ?_; rintro e w4 ⟨b4, A4, c4, qs, rfl, hr4, hc4, hm4, hi4, hl4, hext4⟩; have e4 := e3.trans hext4; have x40 := (bx.ext e4).cell 0 (.bool s) rfl; have x41 := (bx.ext e4).cell 1 (.slice A n c) rfl; have y40 := (by_.ext e4).cell 0 (.bool t) rfl; have y41 := (by_.ext e4).cell 1 (.slice B m d) rfl; have k0 := (bx.ext e4).frozen 0; have k1 := (bx.ext e4).frozen 1; have k2 := (by_.ext e4).frozen 0; have k3 := (by_.ext e4).frozen 1))
    all_goals (go_wp2_with fail; go_meet; exact TwoN.mk' extW e4 bx by_ (hr3.ext hext4) hr4 hc3 hm3 hc4 hm4 hi3 hi4 hl3 hl4 (fun u v p q => ⟨(((((bz.ext e4).far (far_ne (by omega)) _).far (far_ne (by omega)) _).far (far_ne (by omega)) _).far (far_ne (by omega)) _), by have := e4.size; simp [World.setCell]; omega⟩))
  case rest =>
    clear bx by_ bz hz x0 x1 y0 y1 hf0 hf1 hg0 hg1 extW
    obtain ⟨b1, A1, c1, ps, b2, A2, c2, qs, extN, bx, by_, ⟨bz, hz⟩, hp, hq, hc1, hm1, hc2, hm2, hi1, hi2, hl1, hl2⟩ := hcut
    have hps : ps.length ≤ 100000 := by have := Hn.out; omega
    have hqs : qs.length ≤ 100000 := by have := Hm.out; omega
    have x0 := bx.cell 0 (.bool b1) rfl
    have x1 := bx.cell 1 (.slice A1 ps.length c1) rfl
    have y0 := by_.cell 0 (.bool b2) rfl
    have y1 := by_.cell 1 (.slice A2 qs.length c2) rfl
    go_wp2_with fail
    go_region_held3 (fun w' => w'.cell? ⟨w.heap.size, 0, none⟩ = some (.bool b1) ∧ w'.cell? ⟨w.heap.size, 1, none⟩ = some (.slice A1 ps.length c1) ∧ w'.cell? ⟨w.heap.size + 1, 0, none⟩ = some (.bool b2) ∧ w'.cell? ⟨w.heap.size + 1, 1, none⟩ = some (.slice A2 qs.length c2)) (first | (go_split_ands; refine ⟨?_, ?_, ?_, ?_⟩ <;> first | (exact Ext.cellv (by assumption) (by assumption)) | (refine (cell_far2 (by omega)).trans ?_; assumption)) | go_keep)
      (first | (go_at_call 106; refine (ref_times1 rfl rfl (hp.ext (by first | exact Ext.refl _ | exact (Ext.refl _).drew | exact (Ext.refl _).drewN _)) (hq.ext (by first | exact Ext.refl _ | exact (Ext.refl _).drew | exact (Ext.refl _).drewN _)) (by omega)).mono ?_; rintro e w5 ⟨A5, c5, zs, rfl, ho5, hc5, hm5, ⟨hv5, hn5, hl5⟩, hext5⟩; have Hv5 := Lib.hid hv5; clear hv5) | (go_at_call 58; refine (ref_signed rfl ho5.rd hc5 hm5).mono ?_; rintro e w3 ⟨b3, A3, c3, rs, rfl, hr3, hc3, hm3, hi3, hl3, hext3⟩; have ext3 := ((Ext.refl wc).drew.trans hext5).trans hext3; have bz3 := bz.ext ext3; have z0 := bz3.cell 0 (.bool false) rfl; have z1 := bz3.cell 1 (.slice none 0 0) rfl; have f0 := bz3.frozen 0; have f1 := bz3.frozen 1))
    go_wp2_with fail
    obtain ⟨r1, r2, r3, r4⟩ := fin_pair (b := b3) (n := rs.length) (c := c3) (extN.trans ext3) (by omega) bz3 hr3
    exact bodyPost_ret (v := .agg #[.bool b3, .slice A3 rs.length c3]) (by simp [results, Tryz.results74, go_sem, r3, r4]) rfl ⟨b3, A3, c3, rs, rfl, r1, hc3, hm3, by rw [ival_mul Hv5.out, hi1.eq, hi2.eq] at hi3; exact hi3, by omega, r2⟩
end
end Go.Proofs.YtiioodgpkdbndaaGreatDoor
namespace Go.Proofs.YtiioodgpkdbndaaGreatDoor
open Go.RowKit
attribute [local go_sem ↓] Go.wp_at_zero Go.wp_at_succ
section
variable {A B : Option Addr} {c d n m : Nat} {xs ys : List Nat} {w : World} {s t : Bool}
set_option maxHeartbeats 1000000 in
theorem ref_Sub (hn : xs.length = n) (hm : ys.length = m) (hx : Rd w A xs) (hy : Rd w B ys) (hc : n ≤ c) (hcm : c ≤ maxLen) (hd : m ≤ d) (hdm : d ≤ maxLen) (h1 : n ≤ 100000) (h2 : m ≤ 100000) :
    Calls Tryz.prog 107 #[.agg #[.bool s, .slice A n c], .agg #[.bool t, .slice B m d]] w (RetI (ival s xs - ival t ys) (max xs.length ys.length + 1) w) := by
  have Hn := Lib.hid hn
  have Hm := Lib.hid hm
  clear hn hm
  have lx := trimL_len xs
  have ly := trimL_len ys
  have hxt : Rd w A (trimL xs) := by rw [trimL_take]; exact hx.take _
  have hyt : Rd w B (trimL ys) := by rw [trimL_take]; exact hy.take _
  go_enter Tryz.func107, Tryz.ntmps107
  go_upto_region 1 with (fail)
  obtain ⟨W, hW, extW, bx, by_, bz, hz⟩ := box3 w 24 24 24 #[.bool s, .slice A n c] #[.bool t, .slice B m d] #[.bool false, .slice none 0 0]
  rw [← hW]
  clear hW
  have x0 := bx.cell 0 (.bool s) rfl
  have x1 := bx.cell 1 (.slice A n c) rfl
  have y0 := by_.cell 0 (.bool t) rfl
  have y1 := by_.cell 1 (.slice B m d) rfl
  go_region_held3 (fun w' => w'.cell? ⟨w.heap.size, 0, none⟩ = some (.bool s) ∧ w'.cell? ⟨w.heap.size, 1, none⟩ = some (.slice A n c) ∧ w'.cell? ⟨w.heap.size + 1, 0, none⟩ = some (.bool t) ∧ w'.cell? ⟨w.heap.size + 1, 1, none⟩ = some (.slice B m d)) (first | (go_split_ands; refine ⟨?_, ?_, ?_, ?_⟩ <;> first | (exact Ext.cellv (by assumption) (by assumption)) | (refine (cell_far2 (by omega)).trans ?_; assumption)) | go_keep)
    (first | (go_at_call 61; refine (ref_Neg Hm.out (hy.ext (by first | exact extW | exact extW.drew | exact extW.drewN _ | exact (extW.drew).drew)) hd hdm h2).mono ?_; rintro e w4 ⟨b4, A4, c4, qs, rfl, hr4, hc4, hm4, hi4, hl4, hext4⟩) | (go_at_call 73; refine (ref_Add Hn.out rfl (hx.ext (extW.trans ((Ext.refl W).drew.trans hext4))) hr4 hc hcm hc4 hm4 h1 (by have := Hm.out; omega)).mono ?_; rintro e w3 ⟨b3, A3, c3, rs, rfl, hr3, hc3, hm3, hi3, hl3, hext3⟩; have ext3 := ((Ext.refl W).drew.trans hext4).trans hext3; have bz3 := bz.ext ext3; have z0 := bz3.cell 0 (.bool false) rfl; have z1 := bz3.cell 1 (.slice none 0 0) rfl; have f0 := bz3.frozen 0; have f1 := bz3.frozen 1))
  go_wp2_with fail
  obtain ⟨r1, r2, r3, r4⟩ := fin_pair (b := b3) (n := rs.length) (c := c3) (extW.trans ext3) (by omega) bz3 hr3
  exact bodyPost_ret (v := .agg #[.bool b3, .slice A3 rs.length c3]) (by simp [results, Tryz.results107, go_sem, r3, r4]) rfl ⟨b3, A3, c3, rs, rfl, r1, hc3, hm3, by rw [hi4.eq] at hi3; exact hi3, by omega, r2⟩
end
end Go.Proofs.YtiioodgpkdbndaaGreatDoor
namespace Go.Proofs.YtiioodgpkdbndaaGreatDoor
open Go.RowKit
attribute [local go_sem ↓] Go.wp_at_zero Go.wp_at_succ
theorem dm_rest {b1 b2 : Bool} {x y q r : Nat} (h : x = q * y + r) : (if b1 then -(x : Int) else (x : Int)) - (if (!(b1 == b2)) = true then -(q : Int) else (q : Int)) * (if b2 then -(y : Int) else (y : Int)) = if b1 then -(r : Int) else (r : Int) := by
  have e : (x : Int) = (q : Int) * (y : Int) + (r : Int) := by rw [h, Int.natCast_add, Int.natCast_mul]
  rw [e]
  cases b1 <;> cases b2 <;> simp <;> grind
theorem dm_abs {a b : Int} {b1 b2 bq : Bool} {ps qs us qq : List Nat} (h1 : IsInt a b1 ps) (h2 : IsInt b b2 qs) (hq : 0 < qs.length) (hu : val us = val ps / val qs) (h3 : IsInt (ival (!(b1 == b2)) us) bq qq) :
    b ≠ 0 ∧ -(b.natAbs : Int) < a - ival bq qq * b ∧ a - ival bq qq * b < (b.natAbs : Int) := by
  have hv : 0 < val qs := by
    rcases Nat.eq_zero_or_pos (val qs) with h | h
    · rw [h2.nrm.zero.1 h] at hq; simp at hq
    · exact h
  have e := dm_rest (b1 := b1) (b2 := b2) (x := val ps) (y := val qs) (q := val us) (r := val ps % val qs) (by rw [hu, Nat.mul_comm]; exact (Nat.div_add_mod _ _).symm)
  have hl := Nat.mod_lt (val ps) hv
  have i1 : ival b1 ps = if b1 then -(val ps : Int) else (val ps : Int) := rfl
  have i2 : ival b2 qs = if b2 then -(val qs : Int) else (val qs : Int) := rfl
  have i3 : ival (!(b1 == b2)) us = if (!(b1 == b2)) = true then -(val us : Int) else (val us : Int) := rfl
  rw [← i1, ← i2, ← i3, h1.eq, h2.eq, ← h3.eq] at e
  have hb := h2.eq
  rw [i2] at hb
  generalize val ps % val qs = r at *
  refine ⟨?_, ?_, ?_⟩
  · cases b2 <;> simp at hb <;> omega
  · rw [e]; cases b1 <;> cases b2 <;> simp at hb ⊢ <;> omega
  · rw [e]; cases b1 <;> cases b2 <;> simp at hb ⊢ <;> omega
/-- the rest has the other sign than the divisor. -/
def negB (r b : Int) : Bool := decide ((0 < b ∧ r < 0) ∨ (b < 0 ∧ 0 < r))
theorem dm_fin {a b q : Int} (hb : b ≠ 0) (hr : -(b.natAbs : Int) < a - q * b ∧ a - q * b < (b.natAbs : Int)) :
    b ≠ 0 ∧ (negB (a - q * b) b = true → IsDM a b (q - 1) (a - q * b + b)) ∧ (negB (a - q * b) b = false → IsDM a b q (a - q * b)) := by
  refine ⟨hb, fun h => ?_, fun h => ?_⟩
  · have h := of_decide_eq_true h
    refine ⟨by grind, ?_⟩
    omega
  · have h := of_decide_eq_false h
    refine ⟨by grind, ?_⟩
    omega
theorem dm_signs {b r : Int} (hb : b ≠ 0) : ∃ SR SB : Int, r.sign = SR ∧ b.sign = SB ∧ ((SR = 1 ∧ SB = 1 ∧ negB r b = false) ∨ (SR = 0 ∧ SB = 1 ∧ negB r b = false) ∨ (SR = -1 ∧ SB = 1 ∧ negB r b = true) ∨ (SR = 1 ∧ SB = -1 ∧ negB r b = true) ∨ (SR = 0 ∧ SB = -1 ∧ negB r b = false) ∨ (SR = -1 ∧ SB = -1 ∧ negB r b = false)) := by
  refine ⟨_, _, rfl, rfl, ?_⟩
  unfold negB
  rcases Int.lt_trichotomy b 0 with h | h | h
  · rw [Int.sign_eq_neg_one_of_neg h]
    rcases Int.lt_trichotomy r 0 with k | k | k
    · rw [Int.sign_eq_neg_one_of_neg k]; exact .inr (.inr (.inr (.inr (.inr ⟨rfl, rfl, decide_eq_false (by omega)⟩))))
    · subst k; exact .inr (.inr (.inr (.inr (.inl ⟨rfl, rfl, decide_eq_false (by omega)⟩))))
    · rw [Int.sign_eq_one_of_pos k]; exact .inr (.inr (.inr (.inl ⟨rfl, rfl, decide_eq_true (by omega)⟩)))
  · exact absurd h hb
  · rw [Int.sign_eq_one_of_pos h]
    rcases Int.lt_trichotomy r 0 with k | k | k
    · rw [Int.sign_eq_neg_one_of_neg k]; exact .inr (.inr (.inl ⟨rfl, rfl, decide_eq_true (by omega)⟩))
    · subst k; exact .inr (.inl ⟨rfl, rfl, decide_eq_false (by omega)⟩)
    · rw [Int.sign_eq_one_of_pos k]; exact .inl ⟨rfl, rfl, decide_eq_false (by omega)⟩
section
variable {A B : Option Addr} {c d n m : Nat} {xs ys : List Nat} {w : World} {s t : Bool}
set_option maxHeartbeats 16000000 in
theorem ref_DivMod_nz (hn : xs.length = n) (hm : ys.length = m) (hx : Rd w A xs) (hy : Rd w B ys) (hc : n ≤ c) (hcm : c ≤ maxLen) (hd : m ≤ d) (hdm : d ≤ maxLen) (h1 : n ≤ 9000) (h2 : m ≤ 9000) (h0 : val ys ≠ 0) :
    Calls Tryz.prog 95 #[.agg #[.bool s, .slice A n c], .agg #[.bool t, .slice B m d]] w (RetDM (ival s xs) (ival t ys) 60000 60000 w) := by
  have Hn := Lib.hid hn
  have Hm := Lib.hid hm
  clear hn hm
  go_enter Tryz.func95, Tryz.ntmps95
  go_upto_region 1 with (fail)
  obtain ⟨W, hW, extW, bx, by_, bz, bu, hz⟩ := box4 w 24 24 24 24 #[.bool s, .slice A n c] #[.bool t, .slice B m d] #[.bool false, .slice none 0 0] #[.bool false, .slice none 0 0]
  rw [← hW]
  clear hW
  have x0 := bx.cell 0 (.bool s) rfl
  have x1 := bx.cell 1 (.slice A n c) rfl
  have y0 := by_.cell 0 (.bool t) rfl
  have y1 := by_.cell 1 (.slice B m d) rfl
  have hf0 := bx.frozen 0
  have hf1 := bx.frozen 1
  have hg0 := by_.frozen 0
  have hg1 := by_.frozen 1
  go_cut [] (fun wx => TwoN w W (ival s xs) (ival t ys) xs.length ys.length (fun wx => Box wx (w.heap.size + 1 + 1) 24 #[.bool false, .slice none 0 0] ∧ Box wx (w.heap.size + 1 + 1 + 1) 24 #[.bool false, .slice none 0 0] ∧ w.heap.size + 4 ≤ wx.heap.size) wx)
  case first =>
    go_region_with (first | (go_at_call_of 15 A; refine (ref_Norm Hn.out (hx.ext (by first | exact extW | exact extW.drew | exact extW.drewN _ | exact (extW.drew).drew)) hc hcm (by omega)).mono ?_; rintro e w3 ⟨b3, A3, c3, rs, rfl, hr3, hc3, hm3, hi3, hl3, hext3⟩; have e3 := (by first | exact hext3 | exact (Ext.refl W).drew.trans hext3 : Ext W w3); have y30 := (by_.ext e3).cell 0 (.bool t) rfl; have y31 := (by_.ext e3).cell 1 (.slice B m d) rfl) | (go_at_call_of 15 B; refine (ref_Norm Hm.out (hy.ext (extW.trans e3)) hd hdm (by omega)).mono ?_; rintro e w4 ⟨b4, A4, c4, qs, rfl, hr4, hc4, hm4, hi4, hl4, hext4⟩; have e4 := e3.trans hext4; have x40 := (bx.ext e4).cell 0 (.bool s) rfl; have x41 := (bx.ext e4).cell 1 (.slice A n c) rfl; have y40 := (by_.ext e4).cell 0 (.bool t) rfl; have y41 := (by_.ext e4).cell 1 (.slice B m d) rfl; have f40 := (bx.ext e4).frozen 0; have f41 := (bx.ext e4).frozen 1; have g40 := (by_.ext e4).frozen 0; have g41 := (by_.ext e4).frozen 1))
    all_goals (go_wp2_with fail; go_meet; exact TwoN.mk' extW e4 bx by_ (hr3.ext hext4) hr4 hc3 hm3 hc4 hm4 hi3 hi4 hl3 hl4 (fun u v p q => ⟨(((((bz.ext e4).far (far_ne (by omega)) _).far (far_ne (by omega)) _).far (far_ne (by omega)) _).far (far_ne (by omega)) _), (((((bu.ext e4).far (far_ne (by omega)) _).far (far_ne (by omega)) _).far (far_ne (by omega)) _).far (far_ne (by omega)) _), by have := e4.size; simp [World.setCell]; omega⟩))
  case rest =>
    clear bx by_ bz bu hz x0 x1 y0 y1 hf0 hf1 hg0 hg1 extW
    obtain ⟨b1, A1, c1, ps, b2, A2, c2, qs, extN, bx, by_, ⟨bz, bu, hz⟩, hp, hq, hc1, hm1, hc2, hm2, hi1, hi2, hl1, hl2⟩ := hcut
    have hps : ps.length ≤ 9000 := by have := Hn.out; omega
    have hqs : qs.length ≤ 9000 := by have := Hm.out; omega
    have x0 := bx.cell 0 (.bool b1) rfl
    have x1 := bx.cell 1 (.slice A1 ps.length c1) rfl
    have y0 := by_.cell 0 (.bool b2) rfl
    have y1 := by_.cell 1 (.slice A2 qs.length c2) rfl
    have hqpos : 0 < qs.length := by
      rcases Nat.eq_zero_or_pos qs.length with h | h
      · exfalso
        apply h0
        have hz0 := hi2.zero.1 (List.length_eq_zero_iff.1 h)
        unfold ival at hz0
        cases t <;> simp at hz0 <;> omega
      · exact h
    have hqne : ((qs.length : Int) == 0) = false := by rw [beq_eq_false_iff_ne]; omega
    go_wp2_with fail
    refine (ref_divide rfl rfl hp hq hc1 hm1 hi1.nrm hi2.nrm hqpos (by omega) (by omega)).mono ?_
    rintro e w5 ⟨A5, c5, us, A6, c6, rs6, rfl, hr5, hr6, hc5, hm5, hc6, hm6, huv, hrv, hun, hrn, hxt5⟩
    have hul : us.length ≤ ps.length := nrm_len_le hp.1 hun (by rw [huv]; exact Nat.div_le_self _ _)
    have Huv := Lib.hid huv
    clear huv hrv hr6 x0 x1 y0 y1
    have x0 := (bx.ext hxt5).cell 0 (.bool b1) rfl
    have x1 := (bx.ext hxt5).cell 1 (.slice A1 ps.length c1) rfl
    have y0 := (by_.ext hxt5).cell 0 (.bool b2) rfl
    have y1 := (by_.ext hxt5).cell 1 (.slice A2 qs.length c2) rfl
    go_wp2_with fail
    refine (ref_signed rfl hr5 hc5 hm5).mono ?_
    rintro e w6 ⟨bq, Aq, cq, qq, rfl, hrq, hcq, hmq, hiq, hlq, hxt6⟩
    have E6 := hxt5.trans hxt6
    go_upto_region 6 with (fail)
    refine at_world (fun V => Ext wc V ∧ Box V w6.heap.size 24 #[.bool bq, .slice Aq qq.length cq] ∧ Rd V Aq qq) ⟨E6.alloc _, Box.new w6 _ _, hrq.ext ((Ext.refl w6).alloc _)⟩ ?_
    have hgq := E6.size
    generalize w6.heap.size = gq at *
    clear hrq E6 hxt5 hxt6 hr5 x0 x1 y0 y1
    rintro V ⟨EV, xq, hrq⟩
    have xa := bx.ext EV
    have xb := by_.ext EV
    have xz := bz.ext EV
    have xu := bu.ext EV
    have hpV := hp.ext EV
    have hqV := hq.ext EV
    have EW := extN.trans EV
    clear bx by_ bz bu hp hq EV
    have x0 := xa.cell 0 (.bool b1) rfl
    have x1 := xa.cell 1 (.slice A1 ps.length c1) rfl
    have y0 := xb.cell 0 (.bool b2) rfl
    have y1 := xb.cell 1 (.slice A2 qs.length c2) rfl
    have q0 := xq.cell 0 (.bool bq) rfl
    have q1 := xq.cell 1 (.slice Aq qq.length cq) rfl
    have hql : qq.length ≤ 9000 := by omega
    go_cut [10] (fun p X => ∃ gr b7 A7 c7 rr, p = .pointer (some ⟨gr, 0, none⟩) ∧ V.heap.size ≤ gr ∧ Ext V X ∧ Box X gr 24 #[.bool b7, .slice A7 (List.length rr) c7] ∧ Rd X A7 rr ∧ rr.length ≤ c7 ∧ c7 ≤ maxLen ∧ IsInt (ival s xs - ival bq qq * ival t ys) b7 rr ∧ rr.length ≤ 30000)
    case first =>
      have ET := Ext.refl V
      have hsz5 : V.heap.size ≤ V.heap.size := Nat.le_refl _
      go_region_held3 (fun w' => w'.cell? ⟨w.heap.size, 0, none⟩ = some (.bool b1) ∧ w'.cell? ⟨w.heap.size, 1, none⟩ = some (.slice A1 ps.length c1) ∧ w'.cell? ⟨(w.heap.size + 1), 0, none⟩ = some (.bool b2) ∧ w'.cell? ⟨(w.heap.size + 1), 1, none⟩ = some (.slice A2 qs.length c2) ∧ w'.cell? ⟨gq, 0, none⟩ = some (.bool bq) ∧ w'.cell? ⟨gq, 1, none⟩ = some (.slice Aq qq.length cq)) (first | exact ⟨(xa.ext ET).cell 0 _ rfl, (xa.ext ET).cell 1 _ rfl, (xb.ext ET).cell 0 _ rfl, (xb.ext ET).cell 1 _ rfl, (xq.ext ET).cell 0 _ rfl, (xq.ext ET).cell 1 _ rfl⟩ | exact ⟨(xa.ext ET.drew).cell 0 _ rfl, (xa.ext ET.drew).cell 1 _ rfl, (xb.ext ET.drew).cell 0 _ rfl, (xb.ext ET.drew).cell 1 _ rfl, (xq.ext ET.drew).cell 0 _ rfl, (xq.ext ET.drew).cell 1 _ rfl⟩ | exact ⟨(xa.ext (ET.alloc _)).cell 0 _ rfl, (xa.ext (ET.alloc _)).cell 1 _ rfl, (xb.ext (ET.alloc _)).cell 0 _ rfl, (xb.ext (ET.alloc _)).cell 1 _ rfl, (xq.ext (ET.alloc _)).cell 0 _ rfl, (xq.ext (ET.alloc _)).cell 1 _ rfl⟩ | exact ⟨(xa.ext (ET.drew.alloc _)).cell 0 _ rfl, (xa.ext (ET.drew.alloc _)).cell 1 _ rfl, (xb.ext (ET.drew.alloc _)).cell 0 _ rfl, (xb.ext (ET.drew.alloc _)).cell 1 _ rfl, (xq.ext (ET.drew.alloc _)).cell 0 _ rfl, (xq.ext (ET.drew.alloc _)).cell 1 _ rfl⟩ | exact ⟨(xa.ext ((ET.setCell (p := ⟨wk.heap.size, 0, none⟩) hsz _).setCell (p := ⟨wk.heap.size, 1, none⟩) hsz _)).cell 0 _ rfl, (xa.ext ((ET.setCell (p := ⟨wk.heap.size, 0, none⟩) hsz _).setCell (p := ⟨wk.heap.size, 1, none⟩) hsz _)).cell 1 _ rfl, (xb.ext ((ET.setCell (p := ⟨wk.heap.size, 0, none⟩) hsz _).setCell (p := ⟨wk.heap.size, 1, none⟩) hsz _)).cell 0 _ rfl, (xb.ext ((ET.setCell (p := ⟨wk.heap.size, 0, none⟩) hsz _).setCell (p := ⟨wk.heap.size, 1, none⟩) hsz _)).cell 1 _ rfl, (xq.ext ((ET.setCell (p := ⟨wk.heap.size, 0, none⟩) hsz _).setCell (p := ⟨wk.heap.size, 1, none⟩) hsz _)).cell 0 _ rfl, (xq.ext ((ET.setCell (p := ⟨wk.heap.size, 0, none⟩) hsz _).setCell (p := ⟨wk.heap.size, 1, none⟩) hsz _)).cell 1 _ rfl⟩ | exact ⟨(xa.ext ((ET.setCell (p := ⟨V.heap.size, 0, none⟩) hsz5 _).setCell (p := ⟨V.heap.size, 1, none⟩) hsz5 _)).cell 0 _ rfl, (xa.ext ((ET.setCell (p := ⟨V.heap.size, 0, none⟩) hsz5 _).setCell (p := ⟨V.heap.size, 1, none⟩) hsz5 _)).cell 1 _ rfl, (xb.ext ((ET.setCell (p := ⟨V.heap.size, 0, none⟩) hsz5 _).setCell (p := ⟨V.heap.size, 1, none⟩) hsz5 _)).cell 0 _ rfl, (xb.ext ((ET.setCell (p := ⟨V.heap.size, 0, none⟩) hsz5 _).setCell (p := ⟨V.heap.size, 1, none⟩) hsz5 _)).cell 1 _ rfl, (xq.ext ((ET.setCell (p := ⟨V.heap.size, 0, none⟩) hsz5 _).setCell (p := ⟨V.heap.size, 1, none⟩) hsz5 _)).cell 0 _ rfl, (xq.ext ((ET.setCell (p := ⟨V.heap.size, 0, none⟩) hsz5 _).setCell (p := ⟨V.heap.size, 1, none⟩) hsz5 _)).cell 1 _ rfl⟩)
        (first | (go_at_call 74; refine (ref_Mul rfl rfl (hrq.ext (by first | exact ET | exact ET.drew | exact ET.alloc _ | exact ET.drew.alloc _ | exact (ET.alloc _).drew)) (hqV.ext (by first | exact ET | exact ET.drew | exact ET.alloc _ | exact ET.drew.alloc _ | exact (ET.alloc _).drew)) hcq hmq hc2 hm2 (by omega) (by omega)).mono ?_; rintro e wk ⟨b4, A4, c4, ms, rfl, hr4, hc4, hm4, hi4, hl4, hxt⟩; replace ET := (by first | exact ET.trans hxt | exact ET.drew.trans hxt | exact (ET.alloc _).trans hxt | exact (ET.drew.alloc _).trans hxt : Ext V _); have hsz := ET.size; first | (have xnb : Box wk V.heap.size 24 #[Value.bool false, Value.slice none 0 0] := Box.ext (Box.new V 24 #[Value.bool false, Value.slice none 0 0]) hxt; have n0 := xnb.cell 0 (Value.bool false) rfl; have n1 := xnb.cell 1 (Value.slice none 0 0) rfl; have nf0 := xnb.frozen 0; have nf1 := xnb.frozen 1) | (have xnb : Box wk V.heap.size 24 #[Value.bool false, Value.slice none 0 0] := Box.ext (Box.new V.drew 24 #[Value.bool false, Value.slice none 0 0]) hxt; have n0 := xnb.cell 0 (Value.bool false) rfl; have n1 := xnb.cell 1 (Value.slice none 0 0) rfl; have nf0 := xnb.frozen 0; have nf1 := xnb.frozen 1) | skip) | (go_at_call 107; refine (ref_Sub rfl rfl (hpV.ext (by first | exact ET | exact ET.drew | exact ET.alloc _ | exact ET.drew.alloc _ | exact (ET.alloc _).drew)) (by first | exact hr4 | exact hr4.ext ((Ext.refl _).alloc _)) hc1 hm1 hc4 hm4 (by omega) (by omega)).mono ?_; rintro e wk2 ⟨b5, A5, c5, ns, rfl, hr5, hc5, hm5, hi5, hl5, hxt⟩; replace ET := (by first | exact ET.trans hxt | exact ET.drew.trans hxt | exact (ET.alloc _).trans hxt | exact (ET.drew.alloc _).trans hxt : Ext V _); first | (replace xnb := Box.ext xnb hxt; have n0 := xnb.cell 0 (Value.bool false) rfl; have n1 := xnb.cell 1 (Value.slice none 0 0) rfl; have nf0 := xnb.frozen 0; have nf1 := xnb.frozen 1) | (have xnb : Box wk2 wk.heap.size 24 #[Value.bool false, Value.slice none 0 0] := Box.ext (Box.new wk 24 #[Value.bool false, Value.slice none 0 0]) hxt; have n0 := xnb.cell 0 (Value.bool false) rfl; have n1 := xnb.cell 1 (Value.slice none 0 0) rfl; have nf0 := xnb.frozen 0; have nf1 := xnb.frozen 1) | skip))
      all_goals (go_wp2_with fail; go_meet; rw [hi4.eq, hi1.eq, hi2.eq] at hi5; first | exact ⟨_, b5, A5, c5, ns, rfl, ET.size, ET.alloc _, Box.new _ _ _, hr5.ext ((Ext.refl _).alloc _), hc5, hm5, hi5, by omega⟩ | exact ⟨_, b5, A5, c5, ns, rfl, ET.size, ET.drew.alloc _, Box.new _ _ _, hr5.ext ((Ext.refl _).drew.alloc _), hc5, hm5, hi5, by omega⟩ | exact ⟨wk.heap.size, b5, A5, c5, ns, rfl, hsz, ((ET.setCell (p := ⟨wk.heap.size, 0, none⟩) hsz _).setCell (p := ⟨wk.heap.size, 1, none⟩) hsz _), (xnb.setA _).setB _, (fin_pair ET hsz xnb hr5).1, hc5, hm5, hi5, by omega⟩ | exact ⟨V.heap.size, b5, A5, c5, ns, rfl, hsz5, ((ET.setCell (p := ⟨V.heap.size, 0, none⟩) hsz5 _).setCell (p := ⟨V.heap.size, 1, none⟩) hsz5 _), (xnb.setA _).setB _, (fin_pair ET hsz5 xnb hr5).1, hc5, hm5, hi5, by omega⟩)
    case rest =>
      clear x0 x1 y0 y1 q0 q1
      obtain ⟨gr, b7, A7, c7, rr, rfl, hgr, EX, xr, hrr, hc7, hm7, hi7, hl7⟩ := hcut
      have EWX := EW.trans EX
      have xqX := xq.ext EX
      have xbX := xb.ext EX
      have xzX := xz.ext EX
      have xuX := xu.ext EX
      have hqqX := hrq.ext EX
      have hqsX := hqV.ext EX
      have hgqV := xq.lt
      have hgrX := xr.lt
      have hsz4 : w.heap.size + 4 ≤ gq := by omega
      have hgqr : gq < gr := by omega
      clear xq xb xz xu hrq hqV xa hpV EW EX extN
      have hdm := dm_abs hi1 hi2 hqpos Huv.out hiq
      obtain ⟨db, hfin⟩ := dm_fin hdm.1 hdm.2
      have Hfin := Lib.hid hfin
      clear hdm hfin
      have R0 := xr.cell 0 (.bool b7) rfl
      have R1 := xr.cell 1 (.slice A7 rr.length c7) rfl
      have y0 := xbX.cell 0 (.bool b2) rfl
      have y1 := xbX.cell 1 (.slice A2 qs.length c2) rfl
      go_wp2_with fail
      go_cut [46] (fun p X => p = .bool (negB (ival s xs - ival bq qq * ival t ys) (ival t ys)) ∧ Ext wc X)
      case first =>
        obtain ⟨SR, SB, hs1, hs2, hs3⟩ := dm_signs db (r := ival s xs - ival bq qq * ival t ys)
        rw [← hi7.eq] at hs1
        rw [← hi2.eq] at hs2
        rcases hs3 with ⟨rfl, rfl, hs3⟩ | ⟨rfl, rfl, hs3⟩ | ⟨rfl, rfl, hs3⟩ | ⟨rfl, rfl, hs3⟩ | ⟨rfl, rfl, hs3⟩ | ⟨rfl, rfl, hs3⟩
        all_goals
          have Hs1 := Lib.hid hs1
          have Hs2 := Lib.hid hs2
          have Hs3 := Lib.hid hs3
          clear hs1 hs2 hs3
          have ET := Ext.refl wc
          go_region_held3 (fun w' => w'.cell? ⟨gr, 0, none⟩ = some (.bool b7) ∧ w'.cell? ⟨gr, 1, none⟩ = some (.slice A7 rr.length c7) ∧ w'.cell? ⟨(w.heap.size + 1), 0, none⟩ = some (.bool b2) ∧ w'.cell? ⟨(w.heap.size + 1), 1, none⟩ = some (.slice A2 qs.length c2)) (first | exact ⟨(xr.ext ET).cell 0 _ rfl, (xr.ext ET).cell 1 _ rfl, (xbX.ext ET).cell 0 _ rfl, (xbX.ext ET).cell 1 _ rfl⟩ | exact ⟨(xr.ext ET.drew).cell 0 _ rfl, (xr.ext ET.drew).cell 1 _ rfl, (xbX.ext ET.drew).cell 0 _ rfl, (xbX.ext ET.drew).cell 1 _ rfl⟩ | exact ⟨(xr.ext (ET.alloc _)).cell 0 _ rfl, (xr.ext (ET.alloc _)).cell 1 _ rfl, (xbX.ext (ET.alloc _)).cell 0 _ rfl, (xbX.ext (ET.alloc _)).cell 1 _ rfl⟩ | exact ⟨(xr.ext (ET.drew.alloc _)).cell 0 _ rfl, (xr.ext (ET.drew.alloc _)).cell 1 _ rfl, (xbX.ext (ET.drew.alloc _)).cell 0 _ rfl, (xbX.ext (ET.drew.alloc _)).cell 1 _ rfl⟩)
            (first | (go_at_call_of 60 A7; refine (ref_Sign rfl (hrr.ext (by first | exact ET | exact ET.drew | exact ET.drewN _)) hc7 hm7 (by omega)).mono ?_; rintro e wk ⟨rfl, hxt⟩; rw [Hs1.out]; replace ET := (by first | exact ET.trans hxt | exact ET.drew.trans hxt : Ext wc _)) | (go_at_call_of 60 A2; refine (ref_Sign rfl (hqsX.ext (by first | exact ET | exact ET.drew | exact ET.drewN _)) hc2 hm2 (by omega)).mono ?_; rintro e wk ⟨rfl, hxt⟩; rw [Hs2.out]; replace ET := (by first | exact ET.trans hxt | exact ET.drew.trans hxt : Ext wc _)))
          go_wp2_with fail
          go_meet
          exact ⟨by rw [Hs3.out]; rfl, by first | exact ET | exact ET.drew | exact ET.drewN _⟩
      case rest =>
        clear R0 R1 y0 y1
        obtain ⟨rfl, EX⟩ := hcut
        have EWX := EWX.trans EX
        have xqX := xqX.ext EX
        have xr := xr.ext EX
        have xbX := xbX.ext EX
        have xzX := xzX.ext EX
        have xuX := xuX.ext EX
        have hqqX := hqqX.ext EX
        have hqsX := hqsX.ext EX
        have hrrX := hrr.ext EX
        have hqq2 : qq.length ≤ 30000 := by omega
        go_upto_if 46 with fail
        go_cut [] (fun X => ∃ b9 A9 c9 q9 b0 A0 c0 r9 Q R, Ext w X ∧ Box X gq 24 #[.bool b9, .slice A9 (List.length q9) c9] ∧ Box X gr 24 #[.bool b0, .slice A0 (List.length r9) c0] ∧ Box X (w.heap.size + 1 + 1) 24 #[.bool false, .slice none 0 0] ∧ Box X (w.heap.size + 1 + 1 + 1) 24 #[.bool false, .slice none 0 0] ∧ Rd X A9 q9 ∧ Rd X A0 r9 ∧ q9.length ≤ c9 ∧ c9 ≤ maxLen ∧ r9.length ≤ c0 ∧ c0 ≤ maxLen ∧ IsInt Q b9 q9 ∧ IsInt R b0 r9 ∧ IsDM (ival s xs) (ival t ys) Q R ∧ q9.length ≤ 60000 ∧ r9.length ≤ 60000)
        case first =>
          cases hng : negB (ival s xs - ival bq qq * ival t ys) (ival t ys) with
          | false =>
            have Hdm := Lib.hid (Hfin.out.2 hng)
            clear hng
            go_wp2_with fail
            go_meet
            exact ⟨bq, Aq, cq, qq, b7, A7, c7, rr, _, _, EWX, xqX, xr, xzX, xuX, hqqX, hrrX, hcq, hmq, hc7, hm7, ⟨hiq.w32, hiq.nrm, hiq.sgn, rfl⟩, hi7, Hdm.out, by omega, by omega⟩
          | true =>
            have Hdm := Lib.hid (Hfin.out.1 hng)
            clear hng
            have q0 := xqX.cell 0 (.bool bq) rfl
            have q1 := xqX.cell 1 (.slice Aq qq.length cq) rfl
            go_upto_region 8 with fail
            go_cut [] (fun X => ∃ b9 A9 c9 q9, Ext w X ∧ Box X gq 24 #[.bool b9, .slice A9 (List.length q9) c9] ∧ Box X gr 24 #[.bool b7, .slice A7 rr.length c7] ∧ Box X (w.heap.size + 1) 24 #[.bool b2, .slice A2 qs.length c2] ∧ Box X (w.heap.size + 1 + 1) 24 #[.bool false, .slice none 0 0] ∧ Box X (w.heap.size + 1 + 1 + 1) 24 #[.bool false, .slice none 0 0] ∧ Rd X A9 q9 ∧ Rd X A7 rr ∧ Rd X A2 qs ∧ q9.length ≤ c9 ∧ c9 ≤ maxLen ∧ IsInt (ival bq qq - 1) b9 q9 ∧ q9.length ≤ 40000)
            case first =>
              go_region_with (first | (go_at_call 44; refine (ref_FromInt 1 (by omega) (by omega)).mono ?_; rintro e wk ⟨b4, A4, c4, ms, rfl, hr4, hc4, hm4, hi4, hl4, hxt⟩; have ET := (by first | exact hxt | exact (Ext.refl wc).drew.trans hxt : Ext wc wk); have qk0 := (xqX.ext ET).cell 0 (.bool bq) rfl; have qk1 := (xqX.ext ET).cell 1 (.slice Aq qq.length cq) rfl) | (go_at_call 107; refine (ref_Sub rfl rfl (hqqX.ext ET) hr4 hcq hmq hc4 hm4 (by omega) (by omega)).mono ?_; rintro e wk2 ⟨b5, A5, c5, ns, rfl, hr5, hc5, hm5, hi5, hl5, hxt2⟩; have ET2 := ET.trans hxt2; have xq2 := xqX.ext ET2; have qq0 := xq2.cell 0 (.bool bq) rfl; have qq1 := xq2.cell 1 (.slice Aq qq.length cq) rfl; have qf0 := xq2.frozen 0; have qf1 := xq2.frozen 1))
              all_goals (go_wp2_with fail; go_meet; rw [hi4.eq] at hi5; exact ⟨b5, A5, c5, ns, ((EWX.trans ET2).setCell (p := ⟨gq, 0, none⟩) (by show w.heap.size ≤ gq; omega) _).setCell (p := ⟨gq, 1, none⟩) (by show w.heap.size ≤ gq; omega) _, (xq2.setA _).setB _, ((xr.ext ET2).far (far_ne (by omega)) _).far (far_ne (by omega)) _, ((xbX.ext ET2).far (far_ne (by omega)) _).far (far_ne (by omega)) _, ((xzX.ext ET2).far (far_ne (by omega)) _).far (far_ne (by omega)) _, ((xuX.ext ET2).far (far_ne (by omega)) _).far (far_ne (by omega)) _, (fin_pair (w := w) (EWX.trans ET2) (by omega) xq2 hr5).1, ((hrrX.ext ET2).setBox xq2 NoWord.two 0 _).setBox (xq2.setA _) NoWord.two 1 _, ((hqsX.ext ET2).setBox xq2 NoWord.two 0 _).setBox (xq2.setA _) NoWord.two 1 _, hc5, hm5, hi5, by omega⟩)
            case rest =>
              clear EWX xqX xr xbX xzX xuX hqqX hqsX hrrX q0 q1
              obtain ⟨b9, A9, c9, q9, EWX, xqX, xr, xbX, xzX, xuX, hq9, hrrX, hqsX, hc9, hm9, hi9, hl9⟩ := hcut
              have R0 := xr.cell 0 (.bool b7) rfl
              have R1 := xr.cell 1 (.slice A7 rr.length c7) rfl
              have y0 := xbX.cell 0 (.bool b2) rfl
              have y1 := xbX.cell 1 (.slice A2 qs.length c2) rfl
              go_wp2_with fail
              refine (ref_Add rfl rfl hrrX hqsX hc7 hm7 hc2 hm2 (by omega) (by omega)).mono ?_
              rintro e wk ⟨b0, A0, c0, r9, rfl, hr0, hc0, hm0, hi0, hl0, hxt⟩
              have xr2 := xr.ext hxt
              have R0 := xr2.cell 0 (.bool b7) rfl
              have R1 := xr2.cell 1 (.slice A7 rr.length c7) rfl
              have F0 := xr2.frozen 0
              have F1 := xr2.frozen 1
              go_wp2_with fail
              go_meet
              rw [hi7.eq, hi2.eq] at hi0
              exact ⟨b9, A9, c9, q9, b0, A0, c0, r9, _, _, ((EWX.trans hxt).setCell (p := ⟨gr, 0, none⟩) (by show w.heap.size ≤ gr; omega) _).setCell (p := ⟨gr, 1, none⟩) (by show w.heap.size ≤ gr; omega) _, ((xqX.ext hxt).far (far_ne (by omega)) _).far (far_ne (by omega)) _, (xr2.setA _).setB _, ((xzX.ext hxt).far (far_ne (by omega)) _).far (far_ne (by omega)) _, ((xuX.ext hxt).far (far_ne (by omega)) _).far (far_ne (by omega)) _, ((hq9.ext hxt).setBox xr2 NoWord.two 0 _).setBox (xr2.setA _) NoWord.two 1 _, (fin_pair (w := w) (EWX.trans hxt) (by omega) xr2 hr0).1, hc9, hm9, hc0, hm0, hi9, hi0, Hdm.out, by omega, by omega⟩
        case rest =>
          clear EWX xqX xr xbX xzX xuX hqqX hqsX hrrX
          obtain ⟨b9, A9, c9, q9, b0, A0, c0, r9, Q, R, EWX, xqX, xr, xzX, xuX, hq9, hr9, hc9, hm9, hc0, hm0, hi9, hi0, hdm, hl9, hl0⟩ := hcut
          have q0 := xqX.cell 0 (.bool b9) rfl
          have q1 := xqX.cell 1 (.slice A9 q9.length c9) rfl
          have R0 := xr.cell 0 (.bool b0) rfl
          have R1 := xr.cell 1 (.slice A0 r9.length c0) rfl
          have z0 := xzX.cell 0 (.bool false) rfl
          have z1 := xzX.cell 1 (.slice none 0 0) rfl
          have f0 := xzX.frozen 0
          have f1 := xzX.frozen 1
          have u0 := xuX.cell 0 (.bool false) rfl
          have u1 := xuX.cell 1 (.slice none 0 0) rfl
          have g0 := xuX.frozen 0
          have g1 := xuX.frozen 1
          have Hdm := Lib.hid hdm
          clear hdm
          go_upto_region 10 with fail
          go_region
          all_goals
            go_wp2_with fail
            obtain ⟨W', hW', r1, r2, r3, r4, r5, r6, r7⟩ := fin_two (b := b9) (A := A9) (n := q9.length) (c := c9) (b' := b0) (A' := A0) (n' := r9.length) (c' := c0) (by first | exact EWX | exact EWX.drew | exact EWX.drewN _) (show w.heap.size ≤ w.heap.size + 1 + 1 by omega) (show w.heap.size ≤ w.heap.size + 1 + 1 + 1 by omega) (by omega) (by first | exact xzX | exact xzX.ext ((Ext.refl _).drew) | exact xzX.ext ((Ext.refl _).drewN _)) (by first | exact xuX | exact xuX.ext ((Ext.refl _).drew) | exact xuX.ext ((Ext.refl _).drewN _)) (by first | exact hq9 | exact hq9.ext ((Ext.refl _).drew) | exact hq9.ext ((Ext.refl _).drewN _)) (by first | exact hr9 | exact hr9.ext ((Ext.refl _).drew) | exact hr9.ext ((Ext.refl _).drewN _)) _ _ _ _ rfl rfl rfl rfl
            rw [← hW']
            exact bodyPost_ret (v := .tuple #[.agg #[.bool b9, .slice A9 q9.length c9], .agg #[.bool b0, .slice A0 r9.length c0], .int .i64 0]) (by simp [results, Tryz.results95, go_sem, r4, r5, r6, r7]) rfl ⟨b9, A9, c9, q9, b0, A0, c0, r9, Q, R, rfl, r1, r2, hc9, hm9, hc0, hm0, hi9, hi0, Hdm.out, hl9, hl0, by first | exact r3 | exact r3.drew | exact r3.drewN _⟩
end
end Go.Proofs.YtiioodgpkdbndaaGreatDoor
namespace Go.Proofs.YtiioodgpkdbndaaGreatDoor
open Go.RowKit
section
variable {w w' : World} {z y : Int} {L L' M : Nat} {s t : Bool} {A B : Option Addr} {n c m d : Nat}
theorem q_Neg (h : NI w z L s A n c) (hL : L ≤ 100000) : Calls Tryz.prog 61 #[.agg #[.bool s, .slice A n c]] w (RetNI (-z) L w) := by
  obtain ⟨xs, hn, hx, hc, hcm, hi, hl⟩ := h.out
  refine (ref_Neg hn hx hc hcm (by omega)).mono fun e w' hr => ?_
  rw [hi.eq] at hr
  exact hr.ni (by omega)
theorem q_Add (h : NI w z L s A n c) (k : NI w y M t B m d) (hL : L ≤ 50000) (hM : M ≤ 50000) : Calls Tryz.prog 73 #[.agg #[.bool s, .slice A n c], .agg #[.bool t, .slice B m d]] w (RetNI (z + y) (max L M + 1) w) := by
  obtain ⟨xs, hn, hx, hc, hcm, hi, hl⟩ := h.out
  obtain ⟨ys, hm, hy, hd, hdm, hj, hk⟩ := k.out
  refine (ref_Add hn hm hx hy hc hcm hd hdm (by omega) (by omega)).mono fun e w' hr => ?_
  rw [hi.eq, hj.eq] at hr
  exact hr.ni (by omega)
theorem q_Mul (h : NI w z L s A n c) (k : NI w y M t B m d) (hL : L ≤ 50000) (hM : M ≤ 50000) : Calls Tryz.prog 74 #[.agg #[.bool s, .slice A n c], .agg #[.bool t, .slice B m d]] w (RetNI (z * y) (L + M) w) := by
  obtain ⟨xs, hn, hx, hc, hcm, hi, hl⟩ := h.out
  obtain ⟨ys, hm, hy, hd, hdm, hj, hk⟩ := k.out
  refine (ref_Mul hn hm hx hy hc hcm hd hdm (by omega) (by omega)).mono fun e w' hr => ?_
  rw [hi.eq, hj.eq] at hr
  exact hr.ni (by omega)
theorem q_FromInt (k : Int) (h0 : -9223372036854775808 ≤ k) (h1 : k < 9223372036854775808) : Calls Tryz.prog 44 #[.int .i64 k] w (RetNI k 2 w) :=
  (ref_FromInt k h0 h1).mono fun _ _ h => h.ni (Nat.le_refl _)
theorem q_DivMod (h : NI w z L s A n c) (k : NI w y M t B m d) (hL : L ≤ 9000) (hM : M ≤ 9000) (h0 : y ≠ 0) : Calls Tryz.prog 95 #[.agg #[.bool s, .slice A n c], .agg #[.bool t, .slice B m d]] w (RetND z y 60000 M w) := by
  obtain ⟨xs, hn, hx, hc, hcm, hi, hl⟩ := h.out
  obtain ⟨ys, hm, hy, hd, hdm, hj, hk⟩ := k.out
  refine (ref_DivMod_nz hn hm hx hy hc hcm hd hdm (by omega) (by omega) (by rw [hj.abs]; omega)).mono ?_
  rintro e w' ⟨b3, A3, c3, qs, b4, A4, c4, rs, q, r, rfl, hr3, hr4, hc3, hm3, hc4, hm4, hi3, hi4, hdm, hl3, hl4, hxt⟩
  rw [hi.eq, hj.eq] at hdm
  have hr : NI w' r 60000 b4 A4 rs.length c4 := ⟨rs, rfl, hr4, hc4, hm4, hi4, hl4⟩
  exact ⟨b3, A3, qs.length, c3, b4, A4, rs.length, c4, q, r, rfl, ⟨qs, rfl, hr3, hc3, hm3, hi3, hl3⟩, hr.tight k (dm_q_le hdm h0).2.1, hdm, hxt⟩
end
end Go.Proofs.YtiioodgpkdbndaaGreatDoor
namespace Go.Proofs.YtiioodgpkdbndaaGreatDoor
open Go.RowKit
attribute [local go_sem ↓] Go.wp_at_zero Go.wp_at_succ
section
variable {w w' : World} {z y : Int} {q p : Rat} {L M : Nat} {s t s' t' : Bool} {A B A' B' : Option Addr} {n c m d n' c' m' d' : Nat}
set_option maxHeartbeats 1000000 in
theorem q_one (h : NI w z L s A n c) : Calls Tryz.prog 66 #[.agg #[.bool s, .slice A n c]] w fun e w' => e = .returned (.bool (decide (z = 1))) ∧ Ext w w' := by
  have h1 := h.one_iff
  by_cases hn : n = 1
  · subst hn
    obtain ⟨xs, hl, hx, _⟩ := h.out
    obtain ⟨b, off, rfl, hb, hc⟩ := hx.at_ (i := 0) (by omega)
    simp only [Nat.add_zero] at hc
    cases s with
    | true =>
      have hd : decide (z = 1) = false := decide_eq_false fun hz => by have := (h1.1 hz).1; cases this
      rw [hd]
      generalize (xs[0]'(by omega) : Nat) = k at hc
      have hc2 := ((Ext.refl w).alloc (.cells #[.bool true, .slice (some ⟨b, off, none⟩) 1 c] 24)).cellv hc
      clear h1 h hx hl
      by_cases hk : (k : Int) = 1
      · have hb1 : ((k : Int) == 1) = true := beq_iff_eq.2 hk
        go_enter Tryz.func66, Tryz.ntmps66
        go_wp2
        all_goals (go_ret; exact ⟨rfl, (Ext.refl w).alloc _⟩)
      · have hb1 : ((k : Int) == 1) = false := beq_eq_false_iff_ne.2 hk
        go_enter Tryz.func66, Tryz.ntmps66
        go_wp2
        all_goals (go_ret; exact ⟨rfl, (Ext.refl w).alloc _⟩)
    | false =>
      have hv : (decide (z = 1)) = (((xs[0]'(by omega) : Nat) : Int) == 1) := by
        by_cases hz : z = 1
        · obtain ⟨_, _, b', off', hA, hc'⟩ := h1.1 hz
          injection hA with hA
          injection hA with e1 e2
          subst e1; subst e2
          rw [hc] at hc'
          injection hc' with hc'
          injection hc' with _ hc'
          rw [hc']
          simp [hz]
        · have : ¬ ((xs[0]'(by omega) : Nat) : Int) = 1 := fun h2 => hz (h1.2 ⟨rfl, rfl, b, off, rfl, by rw [hc, h2]⟩)
          rw [decide_eq_false hz]
          exact (beq_eq_false_iff_ne.2 this).symm
      rw [hv]
      generalize (xs[0]'(by omega) : Nat) = k at hc
      have hc2 := ((Ext.refl w).alloc (.cells #[.bool false, .slice (some ⟨b, off, none⟩) 1 c] 24)).cellv hc
      clear h1 h hv hx hl
      by_cases hk : (k : Int) = 1
      · have hb1 : ((k : Int) == 1) = true := beq_iff_eq.2 hk
        rw [hb1]
        go_enter Tryz.func66, Tryz.ntmps66
        go_wp2
        all_goals (go_ret; exact ⟨rfl, (Ext.refl w).alloc _⟩)
      · have hb1 : ((k : Int) == 1) = false := beq_eq_false_iff_ne.2 hk
        rw [hb1]
        go_enter Tryz.func66, Tryz.ntmps66
        go_wp2
        all_goals (go_ret; exact ⟨rfl, (Ext.refl w).alloc _⟩)
  · have hd : decide (z = 1) = false := decide_eq_false fun hz => hn (h1.1 hz).2.1
    have hn2 : ((n : Int) == 1) = false := by rw [beq_eq_false_iff_ne]; omega
    rw [hd]
    go_enter Tryz.func66, Tryz.ntmps66
    go_wp2
    all_goals (go_ret; exact ⟨rfl, (Ext.refl w).alloc _⟩)
set_option maxHeartbeats 1000000 in
theorem q_quo_dm (h : NI w z L s A n c) (k : NI w y M t B m d) (hL : L ≤ 9000) (hM : M ≤ 9000) (h0 : y ≠ 0) : Calls Tryz.prog 62 #[.agg #[.bool s, .slice A n c], .agg #[.bool t, .slice B m d]] w fun e w' => ∃ q r : Int, IsDM z y q r ∧ RetNI q 60000 w e w' := by
  go_enter Tryz.func62, Tryz.ntmps62
  go_upto_region 1 with (fail)
  obtain ⟨W, hW, extW, bx, by_, bz, hz⟩ := box3 w 24 24 24 #[.bool s, .slice A n c] #[.bool t, .slice B m d] #[Value.bool false, Value.slice none 0 0]
  rw [← hW]
  clear hW
  have x0 := bx.cell 0 (.bool s) rfl
  have x1 := bx.cell 1 (.slice A n c) rfl
  have y2 := by_.cell 0 (.bool t) rfl
  have y3 := by_.cell 1 (.slice B m d) rfl
  go_wp2_with fail
  refine (q_DivMod (h.ext extW) (k.ext extW) (by omega) (by omega) h0).mono ?_
  rintro e wb ⟨s1, A1, n1, c1, s2, A2, n2, c2, q, r, rfl, hq, hr, hdm, hx1⟩
  clear x0 x1 y2 y3
  go_upto_region 2 with (fail)
  refine at_world (fun V => Ext W V ∧ Box V wb.heap.size 24 #[.bool s1, .slice A1 n1 c1] ∧ NI V q 60000 s1 A1 n1 c1) ?_ ?_
  · obtain ⟨e1, e2, e3⟩ := two_new wb 24 #[.bool s1, .slice A1 n1 c1] #[.bool s2, .slice A2 n2 c2]
    exact ⟨hx1.trans e1, e2, hq.ext e1⟩
  generalize wb.heap.size = g5
  rintro V ⟨EV, b5, hqV⟩
  have x0 := b5.cell 0 _ rfl
  have x1 := b5.cell 1 _ rfl
  have z0 := (bz.ext EV).cell 0 _ rfl
  have z1 := (bz.ext EV).cell 1 _ rfl
  have f0 := (bz.ext EV).frozen 0
  have f1 := (bz.ext EV).frozen 1
  go_wp2_with fail
  obtain ⟨b1, b2, b3, b4⟩ := fin_dual (s := s1) (A := A1) (n := n1) (c := c1) (bz.ext EV)
  have r0 := b1.cell 0 (.bool s1) rfl
  have r1 := b1.cell 1 (.slice A1 n1 c1) rfl
  unfold set2 at r0 r1
  refine bodyPost_ret (v := .agg #[.bool s1, .slice A1 n1 c1]) (by simp [results, Tryz.results62, go_sem, r0, r1]) rfl ⟨q, r, hdm, s1, A1, n1, c1, rfl, ?_, b3 _ (extW.trans EV) (by omega)⟩
  exact b2 _ _ _ _ _ _ hqV
theorem q_quo (h : NI w z L s A n c) (k : NI w y M t B m d) (hL : L ≤ 9000) (hM : M ≤ 9000) (h0 : y ≠ 0) (hd : y ∣ z) : Calls Tryz.prog 62 #[.agg #[.bool s, .slice A n c], .agg #[.bool t, .slice B m d]] w (RetNI (z / y) L w) := by
  refine (q_quo_dm h k hL hM h0).mono ?_
  rintro e w' ⟨q, r, hdm, s1, A1, n1, c1, rfl, hq, hx⟩
  obtain ⟨_, hqe, hql⟩ := (dm_q_le hdm h0).2.2 hd
  rw [hqe] at hq hql
  exact ⟨s1, A1, n1, c1, rfl, hq.tight (h.ext hx) (by simpa using hql), hx⟩
end
end Go.Proofs.YtiioodgpkdbndaaGreatDoor
namespace Go.Proofs.YtiioodgpkdbndaaGreatDoor
open Go.RowKit
attribute [local go_sem ↓] Go.wp_at_zero Go.wp_at_succ
section
variable {w w' : World} {z y : Int} {q p : Rat} {L M : Nat} {s t s' t' : Bool} {A B A' B' : Option Addr} {n c m d n' c' m' d' : Nat}
set_option maxHeartbeats 2000000 in
theorem q_SameInt (h : NI w z L s A n c) (k : NI w z M t B m d) : Calls Tryz.prog 42 #[.agg #[.bool s, .slice A n c], .agg #[.bool t, .slice B m d]] w fun e w' => e = .returned (.bool true) ∧ Ext w w' := by
  obtain ⟨xs, hn, hx, hc, hcm, hi, hl⟩ := h.out
  obtain ⟨ys, hm, hy, hd, hdm, hj, hk⟩ := k.out
  obtain ⟨rfl, rfl⟩ := hi.unique hj
  obtain rfl : n = m := by omega
  have hN9 : n ≤ 9223372036854775807 := by unfold maxLen at hcm; omega
  have Hn := Lib.hid hn
  clear h k hi hj hl hk hn hm
  go_enter Tryz.func42, Tryz.ntmps42
  go_upto_region 1 with (fail)
  obtain ⟨W, hW, extW, bx, by_, hz⟩ := box2 w 24 24 #[.bool s, .slice A n c] #[.bool s, .slice B n d]
  rw [← hW]
  clear hW
  replace hx := hx.ext extW
  replace hy := hy.ext extW
  have x0 := bx.cell 0 (.bool s) rfl
  have x1 := bx.cell 1 (.slice A n c) rfl
  have y0 := by_.cell 0 (.bool s) rfl
  have y1 := by_.cell 1 (.slice B n d) rfl
  have hss : (s != s) = false := by simp
  have hnn : ((n : Int) != (n : Int)) = false := by simp
  go_wp2
  clear x0 x1 y0 y1 hss hnn
  go_loopw [5] (fun i V => ∃ k : Nat, i = .int .i64 (k : Int) ∧ k ≤ n ∧ Ext W V) (fun i _ => n - (intOf i).toNat)
  case atStart => exact ⟨0, rfl, by omega, Ext.refl _⟩
  case round =>
    obtain ⟨k, rfl, hk, hext⟩ := hrel
    have x1 := (bx.ext hext).cell 1 (.slice A n c) rfl
    have y1 := (by_.ext hext).cell 1 (.slice B n d) rfl
    by_cases hlt : k < n
    · have hlx : k < xs.length := by rw [Hn.out]; exact hlt
      obtain ⟨b1, o1, rfl, hb1, hc1⟩ := (hx.ext hext).at_ hlx
      obtain ⟨b2, o2, rfl, hb2, hc2⟩ := (hy.ext hext).at_ hlx
      generalize xs[k] = v at hc1 hc2
      have hne : ((v : Int) != (v : Int)) = false := by simp
      have i1 : (k : Int) < (n : Int) := by omega
      go_upto_region 6 with (fail)
      go_quiet (fail)
      go_wp2_with fail
      go_roundw
      case rel => exact ⟨k + 1, by go_num, by omega, hext.drewN _⟩
      case measure => simp [intOf]; omega
    · have hlt2 : decide ((k : Int) < (n : Int)) = false := decide_eq_false (by omega)
      go_wp2
      go_ret
      exact ⟨rfl, extW.trans hext⟩
set_option maxHeartbeats 2000000 in
theorem q_Same (h : NR w q L s A n c t B m d) (k : NR w q M s' A' n' c' t' B' m' d') : Calls Tryz.prog 16 #[.agg #[.bool s, .slice A n c, .bool t, .slice B m d], .agg #[.bool s', .slice A' n' c', .bool t', .slice B' m' d']] w fun e w' => e = .returned (.bool true) ∧ Ext w w' := by
  go_enter Tryz.func16, Tryz.ntmps16
  go_upto_region 1 with (fail)
  obtain ⟨W, hW, extW, bx, by_, hz⟩ := box2 w 27 27 #[.bool s, .slice A n c, .bool t, .slice B m d] #[.bool s', .slice A' n' c', .bool t', .slice B' m' d']
  rw [← hW]
  clear hW
  replace h := h.ext extW
  replace k := k.ext extW
  have x0 := bx.cell 0 (.bool s) rfl
  have x1 := bx.cell 1 (.slice A n c) rfl
  have x2 := bx.cell 2 (.bool t) rfl
  have x3 := bx.cell 3 (.slice B m d) rfl
  have y0 := by_.cell 0 (.bool s') rfl
  have y1 := by_.cell 1 (.slice A' n' c') rfl
  have y2 := by_.cell 2 (.bool t') rfl
  have y3 := by_.cell 3 (.slice B' m' d') rfl
  go_wp2_with fail
  refine (q_SameInt h.num k.num).mono ?_
  rintro e wb ⟨rfl, hxb⟩
  replace bx := bx.ext hxb
  replace by_ := by_.ext hxb
  replace h := h.ext hxb
  replace k := k.ext hxb
  replace extW := extW.trans hxb
  clear hxb x0 x1 x2 x3 y0 y1 y2 y3
  have x0 := bx.cell 0 (.bool s) rfl
  have x1 := bx.cell 1 (.slice A n c) rfl
  have x2 := bx.cell 2 (.bool t) rfl
  have x3 := bx.cell 3 (.slice B m d) rfl
  have y0 := by_.cell 0 (.bool s') rfl
  have y1 := by_.cell 1 (.slice A' n' c') rfl
  have y2 := by_.cell 2 (.bool t') rfl
  have y3 := by_.cell 3 (.slice B' m' d') rfl
  go_wp2_with fail
  refine (q_SameInt h.den k.den).mono ?_
  rintro e wc ⟨rfl, hxc⟩
  go_wp2_with fail
  go_ret
  exact ⟨rfl, extW.trans hxc⟩
end
end Go.Proofs.YtiioodgpkdbndaaGreatDoor
namespace Go.Proofs.YtiioodgpkdbndaaGreatDoor
open Go.RowKit
attribute [local go_sem ↓] Go.wp_at_zero Go.wp_at_succ
section
variable {w w' : World} {z y : Int} {q p : Rat} {L M : Nat} {s t s' t' : Bool} {A B A' B' : Option Addr} {n c m d n' c' m' d' : Nat} {xs ys xs' ys' : List Nat}
set_option maxHeartbeats 4000000 in
theorem q_Make_pos (h : NI w z L s A n c) (k : NI w y M t B m d) (hL : L ≤ 3000) (hM : M ≤ 3000) (hy : 0 < y) : Calls Tryz.prog 17 #[.agg #[.bool s, .slice A n c], .agg #[.bool t, .slice B m d]] w (RetNR (mkQ z y) (max L M) w) := by
  have hs : y.sign = 1 := Int.sign_eq_one_of_pos hy
  have hq : mkQ z y = mkRat z y.natAbs := if_neg (by omega)
  rw [hq]
  clear hq
  go_enter Tryz.func17, Tryz.ntmps17
  go_upto_region 1 with (fail)
  obtain ⟨W, hW, extW, bx, by_, bz, hz⟩ := box3 w 24 24 27 #[.bool s, .slice A n c] #[.bool t, .slice B m d] #[Value.bool false, Value.slice none 0 0, Value.bool false, Value.slice none 0 0]
  rw [← hW]
  clear hW
  replace h := h.ext extW
  replace k := k.ext extW
  have x0 := bx.cell 0 (.bool s) rfl
  have x1 := bx.cell 1 (.slice A n c) rfl
  have y0 := by_.cell 0 (.bool t) rfl
  have y1 := by_.cell 1 (.slice B m d) rfl
  go_wp2_with fail
  refine (q_GCD h k (by omega) (by omega)).mono ?_
  rintro e we ⟨s4, A4, n4, c4, rfl, hg, hxe⟩
  obtain ⟨g, hge⟩ : ∃ g, Nat.gcd z.natAbs y.natAbs = g := ⟨_, rfl⟩
  rw [hge] at hg
  have hgz : g ∣ z.natAbs := by rw [← hge]; exact Nat.gcd_dvd_left _ _
  have hgy : g ∣ y.natAbs := by rw [← hge]; exact Nat.gcd_dvd_right _ _
  have hg0 : (g : Int) ≠ 0 := by
    intro h0
    have : g = 0 := by omega
    rw [this] at hgy
    have := Nat.eq_zero_of_zero_dvd hgy
    omega
  clear x0 x1 y0 y1
  go_upto_region 2 with (fail)
  refine at_world (fun V => Ext W V ∧ Box V we.heap.size 24 #[.bool s4, .slice A4 n4 c4] ∧ NI V (g : Int) (max L M) s4 A4 n4 c4) ⟨hxe.alloc _, Box.new we _ _, hg.ext ((Ext.refl we).alloc _)⟩ ?_
  have hsz : W.heap.size ≤ we.heap.size := hxe.size
  generalize we.heap.size = g8 at *
  clear hxe hg
  rintro V ⟨EV, b8, hg⟩
  replace bx := bx.ext EV
  replace by_ := by_.ext EV
  replace bz := bz.ext EV
  replace h := h.ext EV
  replace k := k.ext EV
  replace extW := extW.trans EV
  clear EV
  have y0 := by_.cell 0 (.bool t) rfl
  have y1 := by_.cell 1 (.slice B m d) rfl
  go_wp2_with fail
  refine (q_Sign k (by omega)).mono ?_
  rintro e V2 ⟨rfl, hxa⟩
  replace bx := bx.ext hxa
  replace by_ := by_.ext hxa
  replace bz := bz.ext hxa
  replace b8 := b8.ext hxa
  replace h := h.ext hxa
  replace k := k.ext hxa
  replace hg := hg.ext hxa
  replace extW := extW.trans hxa
  clear hxa y0 y1
  rw [hs]
  obtain ⟨m1, m2⟩ := mkRat_parts z (D := y.natAbs) (by omega)
  rw [hge] at m1 m2
  have Hm1 := Lib.hid m1
  have Hm2 := Lib.hid m2
  have Hg0 := Lib.hid hg0
  have Hgz := Lib.hid (Int.ofNat_dvd_left.2 hgz)
  have Hgy := Lib.hid (Int.ofNat_dvd_left.2 hgy)
  have Hya := Lib.hid (show ((y.natAbs : Nat) : Int) = y from Int.natAbs_of_nonneg (by omega))
  clear hge hg0 hgz hgy m1 m2 hs
  go_upto_region 4 with (fail)
  refine wpL.start 7 (by kernel_rfl) (fun _ _ _ _ _ => ⟨fun h => h, fun h => h⟩) (fun hQ ES => ?_)
  refine wpL.take (i := 0) (d := some 14) (v := ?v0_124) rfl rfl (by kernel_rfl) (by kernel_rfl) (by kernel_rfl) (by kernel_rfl) hQ (Or.inl ⟨by rfl, ?y0_124⟩) ES ?r0_124
  case y0_124 =>
    intro w' hSw
    have k00 := (bx.ext hSw).c2
    have k10 := (by_.ext hSw).c2
    have k20 := (b8.ext hSw).c2
    go_simp
    try with_reducible rfl
  try simp only [Act.put]
  try simp only [List.setIfInBounds_toArray]
  try simp only [List.set_cons_succ]
  try simp only [List.set_cons_zero]
  refine wpL.take (i := 1) (d := some 15) (v := ?v1_125) rfl rfl (by kernel_rfl) (by kernel_rfl) (by kernel_rfl) (by kernel_rfl) hQ (Or.inl ⟨by rfl, ?y1_125⟩) ES ?r1_125
  case y1_125 =>
    intro w' hSw
    have k00 := (bx.ext hSw).c2
    have k10 := (by_.ext hSw).c2
    have k20 := (b8.ext hSw).c2
    go_simp
    try with_reducible rfl
  try simp only [Act.put]
  try simp only [List.setIfInBounds_toArray]
  try simp only [List.set_cons_succ]
  try simp only [List.set_cons_zero]
  refine wpL.take (i := 3) (d := some 17) (v := ?v3_126) rfl rfl (by kernel_rfl) (by kernel_rfl) (by kernel_rfl) (by kernel_rfl) hQ (Or.inl ⟨by rfl, ?y3_126⟩) ES ?r3_126
  case y3_126 =>
    intro w' hSw
    have k00 := (bx.ext hSw).c2
    have k10 := (by_.ext hSw).c2
    have k20 := (b8.ext hSw).c2
    go_simp
    try with_reducible rfl
  try simp only [Act.put]
  try simp only [List.setIfInBounds_toArray]
  try simp only [List.set_cons_succ]
  try simp only [List.set_cons_zero]
  refine wpL.take (i := 4) (d := some 18) (v := ?v4_127) rfl rfl (by kernel_rfl) (by kernel_rfl) (by kernel_rfl) (by kernel_rfl) hQ (Or.inl ⟨by rfl, ?y4_127⟩) ES ?r4_127
  case y4_127 =>
    intro w' hSw
    have k00 := (bx.ext hSw).c2
    have k10 := (by_.ext hSw).c2
    have k20 := (b8.ext hSw).c2
    go_simp
    try with_reducible rfl
  try simp only [Act.put]
  try simp only [List.setIfInBounds_toArray]
  try simp only [List.set_cons_succ]
  try simp only [List.set_cons_zero]
  refine wpL.call (i := 2) rfl (by kernel_rfl) (fun K hK => ?_)
  go_simp
  (go_at_call 62; refine (q_quo (h.ext ES) (hg.ext ES) (by omega) (by omega) Hg0.out Hgz.out).mono ?_; rintro e wk5 ⟨s5, A5, n5, c5, rfl, h5, hx0⟩; have E0_4 := Ext.trans ES hx0)
  refine hK.out _ _ E0_4 ?_
  clear hK K
  try simp only [Act.put]
  try simp only [List.setIfInBounds_toArray]
  try simp only [List.set_cons_succ]
  try simp only [List.set_cons_zero]
  refine wpL.call (i := 5) rfl (by kernel_rfl) (fun K hK => ?_)
  go_simp
  (go_at_call 62; refine (q_quo (k.ext E0_4) (hg.ext E0_4) (by omega) (by omega) Hg0.out Hgy.out).mono ?_; rintro e wk6 ⟨s6, A6, n6, c6, rfl, h6, hx1⟩; have E1_4 := Ext.trans E0_4 hx1)
  refine hK.out _ _ E1_4 ?_
  clear hK K
  try simp only [Act.put]
  try simp only [List.setIfInBounds_toArray]
  try simp only [List.set_cons_succ]
  try simp only [List.set_cons_zero]
  refine wpL.take (i := 6) (d := some 20) (v := ?v6_128) rfl rfl (by kernel_rfl) (by kernel_rfl) (by kernel_rfl) (by kernel_rfl) hQ (Or.inl ⟨by rfl, ?y6_128⟩) E1_4 ?r6_128
  case y6_128 =>
    intro w' hSw
    have k00 := (bx.ext hSw).c2
    have k10 := (by_.ext hSw).c2
    have k20 := (b8.ext hSw).c2
    go_simp
    try with_reducible rfl
  try simp only [Act.put]
  try simp only [List.setIfInBounds_toArray]
  try simp only [List.set_cons_succ]
  try simp only [List.set_cons_zero]
  have z0 := (bz.ext E1_4).cell 0 _ rfl
  have z1 := (bz.ext E1_4).cell 1 _ rfl
  have z2 := (bz.ext E1_4).cell 2 _ rfl
  have z3 := (bz.ext E1_4).cell 3 _ rfl
  have f0 := (bz.ext E1_4).frozen 0
  have f1 := (bz.ext E1_4).frozen 1
  have f2 := (bz.ext E1_4).frozen 2
  have f3 := (bz.ext E1_4).frozen 3
  refine wpL.tail (i := 7) rfl (by kernel_rfl) (by kernel_rfl) (fun K hK => ?_)
  go_simp
  refine hK.out _ _ ?_
  clear hK K
  try simp only [Act.put]
  try simp only [List.setIfInBounds_toArray]
  try simp only [List.set_cons_succ]
  try simp only [List.set_cons_zero]
  refine wpL.done (by kernel_rfl) ?_ _
  clear hQ
  go_wp2_with fail
  have hk1 : y / (g : Int) = ((mkRat z y.natAbs).den : Int) := by rw [Hm2.out, Int.natCast_ediv, Hya.out]
  rw [hk1] at h6
  rw [← Hm1.out] at h5
  obtain ⟨b1, b2, b3, b4⟩ := fin_quad (s := s5) (A := A5) (n := n5) (c := c5) (t := s6) (B := A6) (m := n6) (d := c6) (bz.ext E1_4)
  have r0 := b1.cell 0 (.bool s5) rfl
  have r1 := b1.cell 1 (.slice A5 n5 c5) rfl
  have r2 := b1.cell 2 (.bool s6) rfl
  have r3 := b1.cell 3 (.slice A6 n6 c6) rfl
  unfold set4 at r0 r1 r2 r3
  refine bodyPost_ret (v := .agg #[.bool s5, .slice A5 n5 c5, .bool s6, .slice A6 n6 c6]) (by simp [results, Tryz.results17, go_sem, r0, r1, r2, r3]) rfl ⟨s5, A5, n5, c5, s6, A6, n6, c6, rfl, ⟨?_, ?_⟩, b3 _ (extW.trans E1_4) (by omega)⟩
  · exact (b2 _ _ _ _ _ _ (h5.ext hx1)).le (by omega)
  · exact (b2 _ _ _ _ _ _ h6).le (by omega)
set_option maxHeartbeats 4000000 in
theorem q_Make_neg (h : NI w z L s A n c) (k : NI w y M t B m d) (hL : L ≤ 3000) (hM : M ≤ 3000) (hy : y < 0) : Calls Tryz.prog 17 #[.agg #[.bool s, .slice A n c], .agg #[.bool t, .slice B m d]] w (RetNR (mkQ z y) (max L M) w) := by
  have hs : y.sign = -1 := Int.sign_eq_neg_one_of_neg hy
  have hq : mkQ z y = mkRat (-z) (-y).natAbs := if_pos hy
  rw [hq, Int.natAbs_neg]
  clear hq
  go_enter Tryz.func17, Tryz.ntmps17
  go_upto_region 1 with (fail)
  obtain ⟨W, hW, extW, bx, by_, bz, hz⟩ := box3 w 24 24 27 #[.bool s, .slice A n c] #[.bool t, .slice B m d] #[Value.bool false, Value.slice none 0 0, Value.bool false, Value.slice none 0 0]
  rw [← hW]
  clear hW
  replace h := h.ext extW
  replace k := k.ext extW
  have x0 := bx.cell 0 (.bool s) rfl
  have x1 := bx.cell 1 (.slice A n c) rfl
  have y0 := by_.cell 0 (.bool t) rfl
  have y1 := by_.cell 1 (.slice B m d) rfl
  go_wp2_with fail
  refine (q_GCD h k (by omega) (by omega)).mono ?_
  rintro e we ⟨s4, A4, n4, c4, rfl, hg, hxe⟩
  obtain ⟨g, hge⟩ : ∃ g, Nat.gcd z.natAbs y.natAbs = g := ⟨_, rfl⟩
  rw [hge] at hg
  have hgz : g ∣ z.natAbs := by rw [← hge]; exact Nat.gcd_dvd_left _ _
  have hgy : g ∣ y.natAbs := by rw [← hge]; exact Nat.gcd_dvd_right _ _
  have hg0 : (g : Int) ≠ 0 := by
    intro h0
    have : g = 0 := by omega
    rw [this] at hgy
    have := Nat.eq_zero_of_zero_dvd hgy
    omega
  clear x0 x1 y0 y1
  go_upto_region 2 with (fail)
  refine at_world (fun V => Ext W V ∧ Box V we.heap.size 24 #[.bool s4, .slice A4 n4 c4] ∧ NI V (g : Int) (max L M) s4 A4 n4 c4) ⟨hxe.alloc _, Box.new we _ _, hg.ext ((Ext.refl we).alloc _)⟩ ?_
  have hsz : W.heap.size ≤ we.heap.size := hxe.size
  generalize we.heap.size = g8 at *
  clear hxe hg
  rintro V ⟨EV, b8, hg⟩
  replace bx := bx.ext EV
  replace by_ := by_.ext EV
  replace bz := bz.ext EV
  replace h := h.ext EV
  replace k := k.ext EV
  replace extW := extW.trans EV
  clear EV
  have y0 := by_.cell 0 (.bool t) rfl
  have y1 := by_.cell 1 (.slice B m d) rfl
  go_wp2_with fail
  refine (q_Sign k (by omega)).mono ?_
  rintro e V2 ⟨rfl, hxa⟩
  replace bx := bx.ext hxa
  replace by_ := by_.ext hxa
  replace bz := bz.ext hxa
  replace b8 := b8.ext hxa
  replace h := h.ext hxa
  replace k := k.ext hxa
  replace hg := hg.ext hxa
  replace extW := extW.trans hxa
  clear hxa y0 y1
  rw [hs]
  obtain ⟨m1, m2⟩ := mkRat_parts (-z) (D := (-y).natAbs) (by omega)
  rw [Int.natAbs_neg, Int.natAbs_neg, hge] at m1 m2
  have e1 : z / (-(g : Int)) = (-z) / (g : Int) := by rw [Int.ediv_neg, Int.neg_ediv_of_dvd (Int.ofNat_dvd_left.2 hgz)]
  have e2 : y / (-(g : Int)) = (-y) / (g : Int) := by rw [Int.ediv_neg, Int.neg_ediv_of_dvd (Int.ofNat_dvd_left.2 hgy)]
  have He1 := Lib.hid (show z / (-(g : Int)) = (mkRat (-z) y.natAbs).num by rw [e1, m1])
  have He2 := Lib.hid (show y / (-(g : Int)) = ((mkRat (-z) y.natAbs).den : Int) by rw [e2, m2, Int.natCast_ediv]; congr 1; omega)
  have Hg0 := Lib.hid (show -(g : Int) ≠ 0 by omega)
  have Hgz := Lib.hid (Int.neg_dvd.2 (Int.ofNat_dvd_left.2 hgz))
  have Hgy := Lib.hid (Int.neg_dvd.2 (Int.ofNat_dvd_left.2 hgy))
  clear hge hg0 hgz hgy m1 m2 hs e1 e2
  have x0 := b8.cell 0 (.bool s4) rfl
  have x1 := b8.cell 1 (.slice A4 n4 c4) rfl
  go_wp2_with fail
  refine (q_Neg hg (by omega)).mono ?_
  rintro e V3 ⟨s3, A3, n3, c3, rfl, hg2, hxb⟩
  replace bx := bx.ext hxb
  replace by_ := by_.ext hxb
  replace bz := bz.ext hxb
  replace b8 := b8.ext hxb
  replace h := h.ext hxb
  replace k := k.ext hxb
  replace extW := extW.trans hxb
  clear x0 x1 hg
  have z0 := b8.cell 0 _ rfl
  have z1 := b8.cell 1 _ rfl
  have f0 := b8.frozen 0
  have f1 := b8.frozen 1
  go_upto_region 4 with (fail)
  refine at_world (fun U => Ext w U ∧ Box U w.heap.size 24 #[.bool s, .slice A n c] ∧ Box U (w.heap.size + 1) 24 #[.bool t, .slice B m d] ∧ Box U (w.heap.size + 1 + 1) 27 #[Value.bool false, Value.slice none 0 0, Value.bool false, Value.slice none 0 0] ∧ Box U g8 24 #[.bool s3, .slice A3 n3 c3] ∧ NI U z L s A n c ∧ NI U y M t B m d ∧ NI U (-(g : Int)) (max L M) s3 A3 n3 c3) ?_ ?_
  · have q1 := fin_dual (s := s3) (A := A3) (n := n3) (c := c3) b8
    exact ⟨q1.2.2.1 _ extW (by omega), q1.2.2.2 _ _ _ (by omega) bx, q1.2.2.2 _ _ _ (by omega) by_, q1.2.2.2 _ _ _ (by omega) bz, q1.1, q1.2.1 _ _ _ _ _ _ h, q1.2.1 _ _ _ _ _ _ k, q1.2.1 _ _ _ _ _ _ hg2⟩
  clear extW bx by_ bz b8 h k hg2 z0 z1 f0 f1
  rintro U ⟨extW, bx, by_, bz, b8, h, k, hg⟩
  refine wpL.start 7 (by kernel_rfl) (fun _ _ _ _ _ => ⟨fun h => h, fun h => h⟩) (fun hQ ES => ?_)
  refine wpL.take (i := 0) (d := some 14) (v := ?v0_129) rfl rfl (by kernel_rfl) (by kernel_rfl) (by kernel_rfl) (by kernel_rfl) hQ (Or.inl ⟨by rfl, ?y0_129⟩) ES ?r0_129
  case y0_129 =>
    intro w' hSw
    have k00 := (bx.ext hSw).c2
    have k10 := (by_.ext hSw).c2
    have k20 := (b8.ext hSw).c2
    go_simp
    try with_reducible rfl
  try simp only [Act.put]
  try simp only [List.setIfInBounds_toArray]
  try simp only [List.set_cons_succ]
  try simp only [List.set_cons_zero]
  refine wpL.take (i := 1) (d := some 15) (v := ?v1_130) rfl rfl (by kernel_rfl) (by kernel_rfl) (by kernel_rfl) (by kernel_rfl) hQ (Or.inl ⟨by rfl, ?y1_130⟩) ES ?r1_130
  case y1_130 =>
    intro w' hSw
    have k00 := (bx.ext hSw).c2
    have k10 := (by_.ext hSw).c2
    have k20 := (b8.ext hSw).c2
    go_simp
    try with_reducible rfl
  try simp only [Act.put]
  try simp only [List.setIfInBounds_toArray]
  try simp only [List.set_cons_succ]
  try simp only [List.set_cons_zero]
  refine wpL.take (i := 3) (d := some 17) (v := ?v3_131) rfl rfl (by kernel_rfl) (by kernel_rfl) (by kernel_rfl) (by kernel_rfl) hQ (Or.inl ⟨by rfl, ?y3_131⟩) ES ?r3_131
  case y3_131 =>
    intro w' hSw
    have k00 := (bx.ext hSw).c2
    have k10 := (by_.ext hSw).c2
    have k20 := (b8.ext hSw).c2
    go_simp
    try with_reducible rfl
  try simp only [Act.put]
  try simp only [List.setIfInBounds_toArray]
  try simp only [List.set_cons_succ]
  try simp only [List.set_cons_zero]
  refine wpL.take (i := 4) (d := some 18) (v := ?v4_132) rfl rfl (by kernel_rfl) (by kernel_rfl) (by kernel_rfl) (by kernel_rfl) hQ (Or.inl ⟨by rfl, ?y4_132⟩) ES ?r4_132
  case y4_132 =>
    intro w' hSw
    have k00 := (bx.ext hSw).c2
    have k10 := (by_.ext hSw).c2
    have k20 := (b8.ext hSw).c2
    go_simp
    try with_reducible rfl
  try simp only [Act.put]
  try simp only [List.setIfInBounds_toArray]
  try simp only [List.set_cons_succ]
  try simp only [List.set_cons_zero]
  refine wpL.call (i := 2) rfl (by kernel_rfl) (fun K hK => ?_)
  go_simp
  (go_at_call 62; refine (q_quo (h.ext ES) (hg.ext ES) (by omega) (by omega) Hg0.out Hgz.out).mono ?_; rintro e wk5 ⟨s5, A5, n5, c5, rfl, h5, hx0⟩; have E0_4 := Ext.trans ES hx0)
  refine hK.out _ _ E0_4 ?_
  clear hK K
  try simp only [Act.put]
  try simp only [List.setIfInBounds_toArray]
  try simp only [List.set_cons_succ]
  try simp only [List.set_cons_zero]
  refine wpL.call (i := 5) rfl (by kernel_rfl) (fun K hK => ?_)
  go_simp
  (go_at_call 62; refine (q_quo (k.ext E0_4) (hg.ext E0_4) (by omega) (by omega) Hg0.out Hgy.out).mono ?_; rintro e wk6 ⟨s6, A6, n6, c6, rfl, h6, hx1⟩; have E1_4 := Ext.trans E0_4 hx1)
  refine hK.out _ _ E1_4 ?_
  clear hK K
  try simp only [Act.put]
  try simp only [List.setIfInBounds_toArray]
  try simp only [List.set_cons_succ]
  try simp only [List.set_cons_zero]
  refine wpL.take (i := 6) (d := some 20) (v := ?v6_133) rfl rfl (by kernel_rfl) (by kernel_rfl) (by kernel_rfl) (by kernel_rfl) hQ (Or.inl ⟨by rfl, ?y6_133⟩) E1_4 ?r6_133
  case y6_133 =>
    intro w' hSw
    have k00 := (bx.ext hSw).c2
    have k10 := (by_.ext hSw).c2
    have k20 := (b8.ext hSw).c2
    go_simp
    try with_reducible rfl
  try simp only [Act.put]
  try simp only [List.setIfInBounds_toArray]
  try simp only [List.set_cons_succ]
  try simp only [List.set_cons_zero]
  have z0 := (bz.ext E1_4).cell 0 _ rfl
  have z1 := (bz.ext E1_4).cell 1 _ rfl
  have z2 := (bz.ext E1_4).cell 2 _ rfl
  have z3 := (bz.ext E1_4).cell 3 _ rfl
  have f0 := (bz.ext E1_4).frozen 0
  have f1 := (bz.ext E1_4).frozen 1
  have f2 := (bz.ext E1_4).frozen 2
  have f3 := (bz.ext E1_4).frozen 3
  refine wpL.tail (i := 7) rfl (by kernel_rfl) (by kernel_rfl) (fun K hK => ?_)
  go_simp
  refine hK.out _ _ ?_
  clear hK K
  try simp only [Act.put]
  try simp only [List.setIfInBounds_toArray]
  try simp only [List.set_cons_succ]
  try simp only [List.set_cons_zero]
  refine wpL.done (by kernel_rfl) ?_ _
  clear hQ
  go_wp2_with fail
  rw [He2.out] at h6
  rw [He1.out] at h5
  obtain ⟨b1, b2, b3, b4⟩ := fin_quad (s := s5) (A := A5) (n := n5) (c := c5) (t := s6) (B := A6) (m := n6) (d := c6) (bz.ext E1_4)
  have r0 := b1.cell 0 (.bool s5) rfl
  have r1 := b1.cell 1 (.slice A5 n5 c5) rfl
  have r2 := b1.cell 2 (.bool s6) rfl
  have r3 := b1.cell 3 (.slice A6 n6 c6) rfl
  unfold set4 at r0 r1 r2 r3
  refine bodyPost_ret (v := .agg #[.bool s5, .slice A5 n5 c5, .bool s6, .slice A6 n6 c6]) (by simp [results, Tryz.results17, go_sem, r0, r1, r2, r3]) rfl ⟨s5, A5, n5, c5, s6, A6, n6, c6, rfl, ⟨?_, ?_⟩, b3 _ (extW.trans E1_4) (by omega)⟩
  · exact (b2 _ _ _ _ _ _ (h5.ext hx1)).le (by omega)
  · exact (b2 _ _ _ _ _ _ h6).le (by omega)
theorem q_Make_nz (h : NI w z L s A n c) (k : NI w y M t B m d) (hL : L ≤ 3000) (hM : M ≤ 3000) (hy : y ≠ 0) : Calls Tryz.prog 17 #[.agg #[.bool s, .slice A n c], .agg #[.bool t, .slice B m d]] w (RetNR (mkQ z y) (max L M) w) := by
  rcases Int.lt_trichotomy y 0 with h1 | h1 | h1
  · exact q_Make_neg h k hL hM h1
  · exact absurd h1 hy
  · exact q_Make_pos h k hL hM h1
end
end Go.Proofs.YtiioodgpkdbndaaGreatDoor
namespace Go.Proofs.YtiioodgpkdbndaaGreatDoor
open Go.RowKit
theorem Digs.left {l m : List UInt8} (h : Digs (l ++ m)) : Digs l := fun c hc => h c (List.mem_append.2 (.inl hc))
theorem Digs.right {l m : List UInt8} (h : Digs (l ++ m)) : Digs m := fun c hc => h c (List.mem_append.2 (.inr hc))
theorem snoc_ind8 {P : List UInt8 → Prop} (h0 : P []) (h1 : ∀ xs x, P xs → P (xs ++ [x])) (xs : List UInt8) : P xs := by
  have key : ∀ ys : List UInt8, P ys.reverse := by
    intro ys
    induction ys with
    | nil => exact h0
    | cons y ys ih => rw [List.reverse_cons]; exact h1 _ _ ih
  simpa using key xs.reverse
theorem dv_lt {l : List UInt8} (h : Digs l) : dv l < 10 ^ l.length := by
  induction l using snoc_ind8 with
  | h0 => simp [dv]
  | h1 xs x ih =>
    have h1 := ih h.left
    have h2 := h.right x (by simp)
    obtain ⟨h3, h4⟩ := h2
    rw [dv_snoc, List.length_append, List.length_singleton, Nat.pow_succ]
    omega
theorem ofNat_dig {c : UInt8} (h : Dig c) : UInt8.ofNat (48 + (c.toNat - 48)) = c := by
  have e : 48 + (c.toNat - 48) = c.toNat := by have := h.1; omega
  rw [e]
  exact UInt8.ofNat_toNat
theorem dec_step {v d : Nat} (hv : 0 < v) (hd : d < 10) : Lib.decDigits (10 * v + d) = Lib.decDigits v ++ [UInt8.ofNat (48 + d)] := by
  rw [Lib.decDigits, dif_neg (by omega)]
  rw [show (10 * v + d) / 10 = v by omega, show (10 * v + d) % 10 = d by omega]
theorem dv_pos {c : UInt8} {t : List UInt8} (h : Digs (c :: t)) (hc : c ≠ 48) : 0 < dv (c :: t) := by
  induction t using snoc_ind8 with
  | h0 =>
    have h1 := h c (by simp)
    have : c.toNat ≠ 48 := fun e => hc (u8_48 e)
    have h2 := h1.1
    simp [dv]
    omega
  | h1 xs x ih =>
    rw [← List.cons_append, dv_snoc]
    have := ih (Digs.left (m := [x]) (by simpa using h))
    omega
theorem dec_dv {c : UInt8} {t : List UInt8} (h : Digs (c :: t)) (hc : c ≠ 48) : Lib.decDigits (dv (c :: t)) = c :: t := by
  induction t using snoc_ind8 with
  | h0 =>
    have h1 := h c (by simp)
    have h2 := h1.2
    rw [show dv [c] = c.toNat - 48 by simp [dv], Lib.decDigits, dif_pos (by omega), ofNat_dig h1]
  | h1 xs x ih =>
    have hl : Digs (c :: xs) := Digs.left (m := [x]) (by simpa using h)
    have hx : Dig x := h x (by simp)
    have hp := dv_pos hl hc
    have hx2 := hx.2
    rw [← List.cons_append, dv_snoc, dec_step hp (by omega), ih hl, ofNat_dig hx]
theorem dec_canon {l : List UInt8} (h : Digs l) (hc : Canon l) : Lib.decDigits (dv l) = l := by
  rcases hc with rfl | ⟨c, t, rfl, hc⟩
  · rw [show dv [48] = 0 by rfl, Lib.decDigits]; rfl
  · exact dec_dv h hc
theorem canon_dec (u : Nat) : Canon (Lib.decDigits u) := by
  induction u using Nat.strongRecOn with
  | ind u ih =>
    by_cases hu : u < 10
    · rw [Lib.decDigits, dif_pos hu]
      by_cases h0 : u = 0
      · subst h0; exact .inl rfl
      · refine .inr ⟨_, [], rfl, fun e => ?_⟩
        have := congrArg UInt8.toNat e
        rw [UInt8.toNat_ofNat_of_lt' (by show 48 + u < 256; omega)] at this
        have h48 : (48 : UInt8).toNat = 48 := rfl
        omega
    · rw [Lib.decDigits, dif_neg hu]
      rcases ih (u / 10) (by omega) with h | ⟨c, t, h, hc⟩
      · have hl := congrArg dv h
        exfalso
        have h1 : 0 < u / 10 := by omega
        have key : ∀ v, 0 < v → Lib.decDigits v ≠ [48] := by
          intro v hv e
          by_cases h10 : v < 10
          · rw [Lib.decDigits, dif_pos h10] at e
            injection e with e
            have := congrArg UInt8.toNat e
            rw [UInt8.toNat_ofNat_of_lt' (by show 48 + v < 256; omega)] at this
            have h48 : (48 : UInt8).toNat = 48 := rfl
            omega
          · rw [Lib.decDigits, dif_neg h10] at e
            have := congrArg List.length e
            rw [List.length_append] at this
            have h2 := Lib.decDigits_length (v / 10)
            have h3 := Lib.nDigits_pos (v / 10)
            simp at this
            rw [this] at h2
            simp at h2
            omega
        exact key _ h1 h
      · rw [h]
        exact .inr ⟨c, t ++ _, rfl, hc⟩
theorem dec_iff {l : List UInt8} (h : Digs l) : Lib.decDigits (dv l) = l ↔ Canon l := ⟨fun e => e ▸ canon_dec (dv l), dec_canon h⟩
theorem dv_zero_canon {l : List UInt8} (h : Digs l) (hc : Canon l) (h0 : dv l = 0) : l = [48] := by
  rcases hc with rfl | ⟨c, t, rfl, hc⟩
  · rfl
  · have := dv_pos h hc; omega
end Go.Proofs.YtiioodgpkdbndaaGreatDoor
namespace Go.Proofs.YtiioodgpkdbndaaGreatDoor
open Go.RowKit
attribute [local go_sem ↓] Go.wp_at_zero Go.wp_at_succ
theorem conv_byte (w : World) (d : Nat) (v : Int) (hv : v = 48 + (d : Int)) : (convert 108 9 (.slice (some ⟨w.heap.size, 0, none⟩) 1 1)).run Tryz.prog (w.alloc (.cells #[.int .u8 v] 5)) = .ok (.string (strOfNums [v])) (w.alloc (.cells #[.int .u8 v] 5)) := by
  subst hv
  refine run_convert_bytes_arg _ 108 5 Tryz.underlying108 Tryz.underlying5 w.heap.size 0 1 1 [48 + (d : Int)] rfl (fun i hi => ?_) 9 Tryz.underlying9
  obtain rfl : i = 0 := by omega
  exact new_cell w _ _ 0
def strSize : Value → Nat | .string b => b.size | _ => 0
section
variable {A : Option Addr} {c n : Nat} {xs : List Nat} {w : World} {s : Bool}
set_option maxRecDepth 100000 in
set_option maxHeartbeats 2000000 in
theorem ref_Format (hn : xs.length = n) (hx : Rd w A xs) (hc : n ≤ c) (hcm : c ≤ maxLen) (h1 : n ≤ 10000) :
    Calls Tryz.prog 86 #[.agg #[.bool s, .slice A n c]] w fun e w' => ∃ str : ByteArray, e = .returned (.string str) ∧ str.data.toList = Lib.itoa (ival s xs) ∧ Ext w w' := by
  have Hn := Lib.hid hn
  clear hn
  go_enter Tryz.func86, Tryz.ntmps86
  go_upto_region 1 with (fail)
  obtain ⟨W, hW, extW, bx, hz⟩ := box1 w 24 #[.bool s, .slice A n c]
  rw [← hW]
  clear hW
  have x0 := bx.cell 0 (.bool s) rfl
  have x1 := bx.cell 1 (.slice A n c) rfl
  go_wp2_with fail
  refine (ref_Norm Hn.out (hx.ext extW) hc hcm (by omega)).mono ?_
  rintro e w1 ⟨b1, A1, c1, ps, rfl, hr1, hc1, hm1, hi1, hl1, hx1⟩
  have bx1 := bx.ext hx1
  clear x0 x1
  have x0 := bx1.cell 0 (.bool s) rfl
  have x1 := bx1.cell 1 (.slice A n c) rfl
  have f0 := bx1.frozen 0
  have f1 := bx1.frozen 1
  have hp := put_box (b := b1) (A := A1) (n := ps.length) (c := c1) bx1
  have hrp := hp.2.2.1 A1 ps hr1
  have hep := hp.2.2.2 _ (extW.trans hx1) (Nat.le_refl _)
  have hbp := hp.1
  clear hp
  go_upto_region 2 with (fail)
  refine at_world (fun Y => Ext w Y ∧ Box Y w.heap.size 24 #[.bool b1, .slice A1 ps.length c1] ∧ Rd Y A1 ps) ⟨hep, hbp, hrp⟩ ?_
  clear hep hbp hrp x0 x1 f0 f1 hr1 hx1 bx bx1
  rintro Y ⟨EY, bx, hr1⟩
  have x0 := bx.cell 0 (.bool b1) rfl
  have x1 := bx.cell 1 (.slice A1 ps.length c1) rfl
  have hpl : ps.length ≤ 10000 := by have := Hn.out; omega
  go_wp2
  go_loopw [3, 4] (fun st m wr => ∃ (acc : ByteArray) (A' : Option Addr) (c' : Nat) (ys : List Nat), st = .string acc ∧ m = .slice A' ys.length c' ∧ Rd wr A' ys ∧ Nrm ys ∧ ys.length ≤ c' ∧ c' ≤ maxLen ∧ ys.length ≤ ps.length ∧ fd (val ps) = fd (val ys) ++ acc.data.toList ∧ Ext Y wr) (fun st _ _ => (fd (val ps)).length - strSize st)
  case atStart => exact ⟨⟨#[]⟩, A1, c1, ps, rfl, rfl, hr1, hi1.nrm, hc1, hm1, Nat.le_refl _, by simp, Ext.refl _⟩
  case round =>
    obtain ⟨acc, A', c', ys, rfl, rfl, hr, hnr, hyc, hycm, hyl, hfd, hext⟩ := hrel
    have hacc : acc.size ≤ 100000 := by
      have h1 := congrArg List.length hfd
      rw [List.length_append, ← Lib.size_eq] at h1
      have h2 := fd_len_words hi1.w32
      omega
    have Hfd := Lib.hid hfd
    clear hfd
    by_cases h0 : ys = []
    · subst h0
      have hf := Hfd.out
      rw [show val [] = 0 by rfl, fd_zero, List.nil_append] at hf
      have bxr := bx.ext hext
      have y0 := bxr.cell 0 (.bool b1) rfl
      have y1 := bxr.cell 1 (.slice A1 ps.length c1) rfl
      have hz1 := itoa_fd (ival s xs)
      rw [← hi1.eq] at hz1
      have Hi := Lib.hid hi1
      by_cases hv0 : ps = []
      · subst hv0
        have ha : acc.data.toList = [] := by rw [← hf]; rfl
        have t1 : acc.toList.isEmpty = true := by rw [Lib.toList_data, ha]; rfl
        have hzz : ival b1 [] = 0 := by unfold ival; cases b1 <;> rfl
        rw [if_pos hzz] at hz1
        rw [hi1.eq] at hz1
        have Hz1 := Lib.hid hz1
        clear hz1 hf ha hi1 hzz
        go_wp2_with fail
        go_ret
        exact ⟨_, rfl, Hz1.out.symm, EY.trans hext⟩
      · have hvp : val ps ≠ 0 := fun h => hv0 (hi1.nrm.zero.1 h)
        have hfd : fd (val ps) = Lib.decDigits (val ps) := by unfold fd; rw [if_neg hvp]
        have ha : acc.data.toList ≠ [] := by
          rw [← hf, hfd]
          intro h
          have h1 := congrArg List.length h
          have h2 := Lib.decDigits_length (val ps)
          have h3 := Lib.nDigits_pos (val ps)
          rw [h2] at h1
          simp at h1
          omega
        have t1 : acc.toList.isEmpty = false := by
          rw [Lib.toList_data]
          cases hh : acc.data.toList with
          | nil => exact absurd hh ha
          | cons c t => rfl
        cases b1 with
        | true =>
          have hzz : ival true ps = -(val ps : Int) := rfl
          rw [hzz, if_neg (by omega), if_pos (by omega), show (-(val ps : Int)).natAbs = val ps by omega, hf, ← hzz, hi1.eq] at hz1
          have Hz1 := Lib.hid hz1
          clear hz1 hf ha hi1 hzz hfd hvp
          go_wp2_with fail
          go_ret
          exact ⟨_, rfl, by rw [append_toList, Hz1.out]; rfl, EY.trans hext⟩
        | false =>
          have hzz : ival false ps = (val ps : Int) := rfl
          rw [hzz, if_neg (by omega), if_neg (by omega), show ((val ps : Int)).natAbs = val ps by omega, hf, ← hzz, hi1.eq] at hz1
          have Hz1 := Lib.hid hz1
          clear hz1 hf ha hi1 hzz hfd hvp
          go_wp2_with fail
          go_ret
          exact ⟨_, rfl, Hz1.out.symm, EY.trans hext⟩
    · have hpos : 0 < ys.length := List.length_pos_iff.2 h0
      have hvp : 0 < val ys := by
        have : val ys ≠ 0 := fun h => h0 (hnr.zero.1 h)
        omega
      have Hnr := Lib.hid hnr
      clear hnr
      go_wp2_with fail
      refine (ref_by (v := 10) rfl hr (by omega) (by omega) (by omega)).mono ?_
      rintro e w2 ⟨A2, c2, zs, rfl, ho2, hc2, hm2, hv2, hn2, hl2, hx2⟩
      have Hv2 := Lib.hid hv2
      have Hn2 := Lib.hid hn2
      clear hv2 hn2
      have hd10 : val ys % 10 < 10 := Nat.mod_lt _ (by omega)
      have hfs := fd_step hvp
      generalize hdd : val ys % 10 = d at *
      have hcv := conv_byte w2 d (48 + (d : Int)) rfl
      have hsl : (strOfNums [48 + (d : Int)]).data.toList = [UInt8.ofNat (48 + d)] := by
        rw [strOfNums_data]
        simp only [List.map_cons, List.map_nil]
        congr 2
      have hss : (strOfNums [48 + (d : Int)]).size ≤ 1 := by rw [strOfNums_size]; simp
      have hs1 : 1 ≤ (strOfNums [48 + (d : Int)]).size := by rw [strOfNums_size]; simp
      generalize strOfNums [48 + (d : Int)] = st at *
      have hall : fd (val ps) = fd (val zs) ++ (st ++ acc).data.toList := by rw [Hfd.out, hfs, Hv2.out, append_toList, hsl, List.append_assoc]
      have hsz : (st ++ acc).size = st.size + acc.size := by rw [Lib.size_eq, append_toList, List.length_append, ← Lib.size_eq, ← Lib.size_eq]
      have hmeas : (fd (val ps)).length - (st ++ acc).size < (fd (val ps)).length - acc.size := by
        have h1 := congrArg List.length hall
        rw [List.length_append, ← Lib.size_eq, hsz] at h1
        rw [hsz]
        omega
      have Hall := Lib.hid hall
      have Hmeas := Lib.hid hmeas
      clear hdd hfs hsl hall hsz hmeas
      go_wp2_with fail
      go_roundw
      case rel => exact ⟨st ++ acc, A2, c2, zs, rfl, rfl, ho2.rd.ext ((Ext.refl w2).alloc _), Hn2.out, hc2, hm2, by omega, Hall.out, (hext.trans hx2).alloc _⟩
      case measure => exact Hmeas.out
end
end Go.Proofs.YtiioodgpkdbndaaGreatDoor
namespace Go.Proofs.YtiioodgpkdbndaaGreatDoor
open Go.RowKit
/-- the integer of a text. -/
def PS (l : List UInt8) (z : Int) : Prop := (∃ t, l = 45 :: t ∧ Digs t ∧ Canon t ∧ t ≠ [48] ∧ z = -(dv t : Int)) ∨ (Digs l ∧ Canon l ∧ z = (dv l : Int))
section
variable {s : ByteArray} {w : World}
end
end Go.Proofs.YtiioodgpkdbndaaGreatDoor
namespace Go.Proofs.YtiioodgpkdbndaaGreatDoor
/-- the digits at the beginning, and what follows. -/
theorem ups_other {a b : List UInt8} {c : UInt8} {q : Rat} (ha : Digs a) (hc : ¬ Dig c) (h1 : c ≠ 46) (h2 : c ≠ 47) : ¬ UPS (a ++ c :: b) q := by
  have key : ∀ {d : UInt8} {a' b' : List UInt8}, Digs a' → ¬ Dig d → c ≠ d → a ++ c :: b ≠ a' ++ d :: b' := by
    intro d a' b' h1 h2 h3 he
    rcases List.append_eq_append_iff.1 he with ⟨m, e1, e2⟩ | ⟨m, e1, e2⟩
    · match m with
      | [] => injection e2 with e2 _; exact h3 e2
      | x :: m =>
        injection e2 with e2 _
        exact hc (h1 c (by rw [e1, e2]; exact List.mem_append.2 (.inr (List.mem_cons_self ..))))
    · match m with
      | [] => injection e2 with e2 _; exact h3 e2.symm
      | x :: m =>
        injection e2 with e2 _
        exact h2 (ha d (by rw [e1, e2]; exact List.mem_append.2 (.inr (List.mem_cons_self ..))))
  rintro (⟨h1', _⟩ | ⟨a', b', he, h1', _⟩ | ⟨a', b', he, h1', _⟩)
  · exact hc (h1' c (List.mem_append.2 (.inr (List.mem_cons_self ..))))
  · exact key h1' not_dig46 h1 he
  · exact key h1' not_dig47 h2 he
/-- the digits at the beginning of a text. -/
theorem digits_split : ∀ l : List UInt8, ∃ a r, l = a ++ r ∧ Digs a ∧ (r = [] ∨ ∃ c b, r = c :: b ∧ ¬ Dig c)
  | [] => ⟨[], [], rfl, (fun c h => by cases h), .inl rfl⟩
  | x :: l => by
    by_cases hx : Dig x
    · obtain ⟨a, r, rfl, ha, hr⟩ := digits_split l
      refine ⟨x :: a, r, rfl, fun c h => ?_, hr⟩
      rcases List.mem_cons.1 h with rfl | h
      · exact hx
      · exact ha c h
    · exact ⟨[], x :: l, rfl, (fun c h => by cases h), .inr ⟨x, l, rfl, hx⟩⟩
end Go.Proofs.YtiioodgpkdbndaaGreatDoor
