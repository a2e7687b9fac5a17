/- Walks and laws, a part. -/
import Derived.Test.YtiioodgpkdbndaaGreatDoorM0
import Derived.Test.YtiioodgpkdbndaaGreatDoorM1
import Derived.Test.YtiioodgpkdbndaaGreatDoorM2
import Derived.Test.YtiioodgpkdbndaaGreatDoorM3
import Derived.Test.YtiioodgpkdbndaaGreatDoorM4
import Derived.Test.YtiioodgpkdbndaaGreatDoorM5
import Derived.Test.YtiioodgpkdbndaaGreatDoorM6
import Derived.Test.YtiioodgpkdbndaaGreatDoorM7
import Derived.Test.YtiioodgpkdbndaaGreatDoorM8
import Derived.Test.YtiioodgpkdbndaaGreatDoorM9
import Derived.Deep.RegionHeld
import Derived.Deep.DeepCutAuto
import Derived.BigQuiet
namespace Go.Proofs.YtiioodgpkdbndaaGreatDoor
/-- the product by way of the common parts of numerators and denominators. -/
theorem rat_mul (a b : Rat) {g h : Nat} (hg : g = a.num.natAbs.gcd b.den) (hh : h = b.num.natAbs.gcd a.den) :
    (a * b).num = a.num / (g : Int) * (b.num / (h : Int)) ∧ (a * b).den = a.den / h * (b.den / g) := by
  subst hg
  subst hh
  show (Rat.mul a b).num = _ ∧ (Rat.mul a b).den = _
  delta Rat.mul
  exact ⟨rfl, rfl⟩
end Go.Proofs.YtiioodgpkdbndaaGreatDoor
namespace Go.Proofs.YtiioodgpkdbndaaGreatDoor
open Go.RowKit
section
variable {P : Program} {ops : Array Oper} {Q : Exit → Act → World → Prop} {md : Region.Mode} {S : World → Prop} {W0 : World}
theorem Late.finish2 {x y : Al} {n : Nat} {L : Array Bool} {a : Act} {w : World} (hx : IsAl P ops x) (hy : IsAl P ops y) (hne : x.i ≠ y.i) (hd : x.d ≠ y.d)
    (hrx : Region.ready md ops (L.setIfInBounds y.i true) = [x.i]) (hry : Region.ready md ops (L.setIfInBounds x.i true) = [y.i])
    (hr : ((Region.ready md ops L).contains x.i && (Region.ready md ops L).contains y.i) = true)
    (h : ∀ w' g k, Ext w w' → Ext W0 w' → W0.heap.size ≤ g → W0.heap.size ≤ k → g ≠ k → Box w' g x.t x.cs → Box w' k y.t y.cs →
      wpAnyH P md ops Q (Ext W0) n ((L.setIfInBounds x.i true).setIfInBounds y.i true) ((a.put (some x.d) (.pointer (some ⟨g, 0, none⟩))).put (some y.d) (.pointer (some ⟨k, 0, none⟩))) w') :
    Late P md ops Q W0 [x, y] n L a w := by
  have hne' : (y.i == x.i) = false := by simpa using Ne.symm hne
  have hne2 : (x.i == y.i) = false := by simpa using hne
  refine Late.finish (by simp [hne]) (by simp [hx, hy]) ?_ (by simpa using hr) ?_
  · intro z hz j hj
    rcases List.mem_cons.1 hz with rfl | hz
    · simp [bne, hne', allMarks] at hj
      simpa [hrx] using hj
    · rw [List.mem_singleton] at hz
      subst hz
      simp [bne, hne2, allMarks] at hj
      simpa [hry] using hj
  · intro w' e hS D hD hl
    match D, hl with
    | [(u, g), (v, k)], _ =>
      have hu := hD.mem (u, g) (by simp)
      have hv := hD.mem (v, k) (by simp)
      have hnd := hD.nd
      have hng := hD.ng
      simp only [List.map_cons, List.map_nil, List.nodup_cons, List.mem_singleton, List.not_mem_nil, not_false_eq_true, List.nodup_nil, and_true] at hnd hng
      have bu := hD.box (u, g) (by simp)
      have bv := hD.box (v, k) (by simp)
      have gu := hD.ge (u, g) (by simp)
      have gv := hD.ge (v, k) (by simp)
      rcases List.mem_cons.1 hu with rfl | hu
      · rcases List.mem_cons.1 hv with rfl | hv
        · exact absurd rfl hnd
        · rw [List.mem_singleton] at hv
          subst hv
          exact h w' g k e hS gu gv hng bu bv
      · rw [List.mem_singleton] at hu
        subst hu
        rcases List.mem_cons.1 hv with rfl | hv
        · have := h w' k g e hS gv gu (Ne.symm hng) bv bu
          rw [Act.put_comm a _ _ (fun d h1 h2 => by injection h1 with h1; injection h2 with h2; exact hd (h1.trans h2.symm)), Array.setIfInBounds_comm _ _ hne] at this
          exact this
        · rw [List.mem_singleton] at hv
          subst hv
          exact absurd rfl hnd
end
end Go.Proofs.YtiioodgpkdbndaaGreatDoor
namespace Go.Proofs.YtiioodgpkdbndaaGreatDoor
open Go.RowKit
section
variable (A B : Option Addr) (c d : Nat) (xs ys : List Nat) (w : World)
set_option maxHeartbeats 400000 in
theorem ref_plus1 (hx : Rd w A xs) (hy : Rd w B ys) (hl : ys.length ≤ xs.length) (hm : xs.length ≤ 100000) :
    Calls Tryz.prog 103 #[.slice A xs.length c, .slice B ys.length d] w (RetN (fun zs => val zs = val xs + val ys ∧ Nrm zs ∧ zs.length ≤ xs.length + 1) w) := by
  have hmk := mk_words1 22 Tryz.underlying22 xs.length hm
  go_enter Tryz.func103, Tryz.ntmps103
  go_wp2
  go_loopw [6, 7] (fun cr i wr => ∃ (k : Nat) (zs : List Nat) (cy : Nat), k ≤ xs.length ∧ i = .int .i64 (k : Int) ∧ cr = .int .u64 (cy : Int) ∧ PlusInv xs ys k zs cy ∧ BlkN wr w.heap.size zs ∧ Ext w wr) (fun _ i _ => xs.length - (intOf i).toNat)
  case atStart => exact ⟨0, List.replicate (xs.length + 1) 0, 0, by omega, rfl, rfl, PlusInv.start xs ys, BlkN.new w _, (Ext.refl w).alloc _⟩
  case round =>
    obtain ⟨k, zs, cy, hk, rfl, rfl, hinv, hblk, hext⟩ := hrel
    have hcy := hinv.hcy
    have hzl := hinv.len1
    have hzl2 := hinv.len2
    by_cases hlt : k < xs.length
    · obtain ⟨b, off, rfl, hb, hc1⟩ := (hx.ext hext).at_ hlt
      have hxk := hx.1.get hlt
      have hzk := hblk.cell (i := k) (by omega)
      have hfz := hblk.frozen k
      by_cases hly : k < ys.length
      · obtain ⟨b', off', rfl, hb', hc2⟩ := (hy.ext hext).at_ hly
        have hyk := hy.1.get hly
        go_wp2
        go_roundw
        case rel => exact ⟨k + 1, _, _, by omega, by go_num, by go_num, hinv.step hx.1 hy.1 hlt (s := cy + xs[k] + ys[k]) (by rw [getD_at hlt, getD_at hly]), hblk.set k (by go_num), hext.setCell (Nat.le_refl _) _⟩
        case measure => simp [intOf]; omega
      · go_wp2
        go_roundw
        case rel => exact ⟨k + 1, _, _, by omega, by go_num, by go_num, hinv.step hx.1 hy.1 hlt (s := cy + xs[k]) (by rw [getD_at hlt, getD_out hly]; rfl), hblk.set k (by go_num), hext.setCell (Nat.le_refl _) _⟩
        case measure => simp [intOf]; omega
    · have hzk := hblk.cell (i := xs.length) (by omega)
      have hfz := hblk.frozen xs.length
      have hk' : k = xs.length := by omega
      subst hk'
      have hb2 := hblk.set xs.length (v := (cy : Int)) rfl
      have hw := hinv.w32.set xs.length (v := cy) (by omega)
      have hrd := hb2.rd0 hw
      have hdn := hinv.done hl
      have Hd := Lib.hid hdn
      clear hdn
      go_wp2_with (go_at_call 79; refine (ref_trimN (xs := zs.set xs.length cy) (by simp; omega) hrd (by omega) (by unfold maxLen; omega)).mono ?_; rintro e w' ⟨rfl, rfl⟩)
      go_ret
      have hlen := trimL_len (zs.set xs.length cy)
      rw [List.length_set] at hlen
      refine ⟨_, _, trimL (zs.set xs.length cy), rfl, ?_, by omega, by unfold maxLen; omega, ⟨Hd.out, Nrm.trimL _, by omega⟩, hext.setCell (Nat.le_refl _) _⟩
      rw [trimL_take]
      exact (Own.of_blk hb2 hw (Nat.le_refl _)).take _
set_option maxHeartbeats 400000 in
theorem ref_plus2 (hx : Rd w A xs) (hy : Rd w B ys) (hl : xs.length < ys.length) (hm : ys.length ≤ 100000) :
    Calls Tryz.prog 103 #[.slice A xs.length c, .slice B ys.length d] w (RetN (fun zs => val zs = val xs + val ys ∧ Nrm zs ∧ zs.length ≤ ys.length + 1) w) := by
  have hmk := mk_words1 22 Tryz.underlying22 ys.length hm
  go_enter Tryz.func103, Tryz.ntmps103
  go_wp2
  go_loopw [6, 7] (fun cr i wr => ∃ (k : Nat) (zs : List Nat) (cy : Nat), k ≤ ys.length ∧ i = .int .i64 (k : Int) ∧ cr = .int .u64 (cy : Int) ∧ PlusInv ys xs k zs cy ∧ BlkN wr w.heap.size zs ∧ Ext w wr) (fun _ i _ => ys.length - (intOf i).toNat)
  case atStart => exact ⟨0, List.replicate (ys.length + 1) 0, 0, by omega, rfl, rfl, PlusInv.start ys xs, BlkN.new w _, (Ext.refl w).alloc _⟩
  case round =>
    obtain ⟨k, zs, cy, hk, rfl, rfl, hinv, hblk, hext⟩ := hrel
    have hcy := hinv.hcy
    have hzl := hinv.len1
    have hzl2 := hinv.len2
    by_cases hlt : k < ys.length
    · obtain ⟨b, off, rfl, hb, hc1⟩ := (hy.ext hext).at_ hlt
      have hyk := hy.1.get hlt
      have hzk := hblk.cell (i := k) (by omega)
      have hfz := hblk.frozen k
      by_cases hly : k < xs.length
      · obtain ⟨b', off', rfl, hb', hc2⟩ := (hx.ext hext).at_ hly
        have hxk := hx.1.get hly
        go_wp2
        go_roundw
        case rel => exact ⟨k + 1, _, _, by omega, by go_num, by go_num, hinv.step hy.1 hx.1 hlt (s := cy + ys[k] + xs[k]) (by rw [getD_at hlt, getD_at hly]), hblk.set k (by go_num), hext.setCell (Nat.le_refl _) _⟩
        case measure => simp [intOf]; omega
      · go_wp2
        go_roundw
        case rel => exact ⟨k + 1, _, _, by omega, by go_num, by go_num, hinv.step hy.1 hx.1 hlt (s := cy + ys[k]) (by rw [getD_at hlt, getD_out hly]; rfl), hblk.set k (by go_num), hext.setCell (Nat.le_refl _) _⟩
        case measure => simp [intOf]; omega
    · have hzk := hblk.cell (i := ys.length) (by omega)
      have hfz := hblk.frozen ys.length
      have hk' : k = ys.length := by omega
      subst hk'
      have hb2 := hblk.set ys.length (v := (cy : Int)) rfl
      have hw := hinv.w32.set ys.length (v := cy) (by omega)
      have hrd := hb2.rd0 hw
      have hdn := hinv.done (by omega)
      have Hd := Lib.hid hdn
      clear hdn
      go_wp2_with (go_at_call 79; refine (ref_trimN (xs := zs.set ys.length cy) (by simp; omega) hrd (by omega) (by unfold maxLen; omega)).mono ?_; rintro e w' ⟨rfl, rfl⟩)
      go_ret
      have hlen := trimL_len (zs.set ys.length cy)
      rw [List.length_set] at hlen
      refine ⟨_, _, trimL (zs.set ys.length cy), rfl, ?_, by omega, by unfold maxLen; omega, ⟨by rw [Hd.out]; omega, Nrm.trimL _, by omega⟩, hext.setCell (Nat.le_refl _) _⟩
      rw [trimL_take]
      exact (Own.of_blk hb2 hw (Nat.le_refl _)).take _
theorem ref_plus {A B : Option Addr} {c d n m : Nat} {xs ys : List Nat} {w : World} (hn : xs.length = n) (hm : ys.length = m) (hx : Rd w A xs) (hy : Rd w B ys) (h1 : n ≤ 100000) (h2 : m ≤ 100000) :
    Calls Tryz.prog 103 #[.slice A n c, .slice B m d] w (RetN (fun zs => val zs = val xs + val ys ∧ Nrm zs ∧ zs.length ≤ max xs.length ys.length + 1) w) := by
  subst hn; subst hm
  by_cases h : ys.length ≤ xs.length
  · exact (ref_plus1 A B c d xs ys w hx hy h h1).mono fun e w' ⟨A', c', zs, h1, h2, h3, h4, ⟨h5, h6, h7⟩, h8⟩ => ⟨A', c', zs, h1, h2, h3, h4, ⟨h5, h6, by omega⟩, h8⟩
  · exact (ref_plus2 A B c d xs ys w hx hy (by omega) h2).mono fun e w' ⟨A', c', zs, h1, h2, h3, h4, ⟨h5, h6, h7⟩, h8⟩ => ⟨A', c', zs, h1, h2, h3, h4, ⟨h5, h6, by omega⟩, h8⟩
end
end Go.Proofs.YtiioodgpkdbndaaGreatDoor
namespace Go.Proofs.YtiioodgpkdbndaaGreatDoor
open Go.RowKit
section
variable {A B : Option Addr} {c d n m : Nat} {xs ys : List Nat} {w : World} {s t : Bool}
set_option maxHeartbeats 400000 in
theorem ref_FromInt (k : Int) (h0 : -9223372036854775808 ≤ k) (h1 : k < 9223372036854775808) : Calls Tryz.prog 44 #[.int .i64 k] w (RetI k 2 w) := by
  by_cases hk : k < 0
  · skip
    obtain ⟨j, hj⟩ : ∃ j : Nat, k = -(j : Int) := ⟨k.natAbs, by omega⟩
    have hneg := neg_wrap (j := j) (by omega)
    have hj2 : j / 4294967296 < 4294967296 := by omega
    subst hj
    skip
    have Hneg := Lib.hid hneg
    clear hneg
    go_enter Tryz.func44, Tryz.ntmps44
    go_wp2_with fail
    rw [Hneg.out]
    refine (ref_words (w := w.alloc (.cells #[.bool false, .slice none 0 0] 24)) j hj2).mono ?_
    rintro e w2 ⟨A2, c2, zs, rfl, ho2, hc2, hm2, ⟨hv2, hn2, hl2⟩, hext2⟩
    have Hv2 := Lib.hid hv2
    clear hv2
    go_wp2_with fail
    refine (ref_signed rfl ho2.rd hc2 hm2).mono ?_
    rintro e w3 ⟨b3, A3, c3, rs, rfl, hr3, hc3, hm3, hi3, hl3, hext3⟩
    have ext3 := hext2.trans hext3
    have bz := Box.new w 24 #[.bool false, .slice none 0 0]
    have bz3 := bz.ext ext3
    have z0 := bz3.cell 0 (.bool false) rfl
    have z1 := bz3.cell 1 (.slice none 0 0) rfl
    have f0 := bz3.frozen 0
    have f1 := bz3.frozen 1
    go_wp2_with fail
    obtain ⟨r1, r2, r3, r4⟩ := fin_pair (b := b3) (n := rs.length) (c := c3) (((Ext.refl w).alloc _).trans ext3) (Nat.le_refl _) bz3 hr3
    exact bodyPost_ret (v := .agg #[.bool b3, .slice A3 rs.length c3]) (by simp [results, Tryz.results44, go_sem, r3, r4]) rfl ⟨b3, A3, c3, rs, rfl, r1, hc3, hm3, by have h := Hv2.out; unfold ival at hi3; rw [h] at hi3; simpa using hi3, by omega, r2⟩
  · skip
    obtain ⟨j, hj⟩ : ∃ j : Nat, k = (j : Int) := ⟨k.toNat, by omega⟩
    have hj2 : j / 4294967296 < 4294967296 := by omega
    subst hj
    skip
    skip
    skip
    go_enter Tryz.func44, Tryz.ntmps44
    go_wp2_with fail
    skip
    refine (ref_words (w := w.alloc (.cells #[.bool false, .slice none 0 0] 24)) j hj2).mono ?_
    rintro e w2 ⟨A2, c2, zs, rfl, ho2, hc2, hm2, ⟨hv2, hn2, hl2⟩, hext2⟩
    have Hv2 := Lib.hid hv2
    clear hv2
    go_wp2_with fail
    refine (ref_signed rfl ho2.rd hc2 hm2).mono ?_
    rintro e w3 ⟨b3, A3, c3, rs, rfl, hr3, hc3, hm3, hi3, hl3, hext3⟩
    have ext3 := hext2.trans hext3
    have bz := Box.new w 24 #[.bool false, .slice none 0 0]
    have bz3 := bz.ext ext3
    have z0 := bz3.cell 0 (.bool false) rfl
    have z1 := bz3.cell 1 (.slice none 0 0) rfl
    have f0 := bz3.frozen 0
    have f1 := bz3.frozen 1
    go_wp2_with fail
    obtain ⟨r1, r2, r3, r4⟩ := fin_pair (b := b3) (n := rs.length) (c := c3) (((Ext.refl w).alloc _).trans ext3) (Nat.le_refl _) bz3 hr3
    exact bodyPost_ret (v := .agg #[.bool b3, .slice A3 rs.length c3]) (by simp [results, Tryz.results44, go_sem, r3, r4]) rfl ⟨b3, A3, c3, rs, rfl, r1, hc3, hm3, by have h := Hv2.out; unfold ival at hi3; rw [h] at hi3; simpa using hi3, by omega, r2⟩
end
end Go.Proofs.YtiioodgpkdbndaaGreatDoor
namespace Go.Proofs.YtiioodgpkdbndaaGreatDoor
open Go.RowKit
attribute [local go_sem ↓] Go.wp_at_zero Go.wp_at_succ
section
variable {A B : Option Addr} {c d n m : Nat} {xs ys : List Nat} {w : World} {s t : Bool}
set_option maxHeartbeats 1000000 in
theorem ref_Neg (hn : xs.length = n) (hx : Rd w A xs) (hc : n ≤ c) (hcm : c ≤ maxLen) (_h1 : n ≤ 100000) :
    Calls Tryz.prog 61 #[.agg #[.bool s, .slice A n c]] w (RetI (-(ival s xs)) xs.length w) := by
  have Hn := Lib.hid hn
  clear hn
  have lx := trimL_len xs
  have hxt : Rd w A (trimL xs) := by rw [trimL_take]; exact hx.take _
  go_enter Tryz.func61, Tryz.ntmps61
  go_upto_region 1 with (fail)
  obtain ⟨W, hW, extW, bx, bz, hz⟩ := box2 w 24 24 #[.bool s, .slice A n c] #[.bool false, .slice none 0 0]
  rw [← hW]
  clear hW
  have x0 := bx.cell 0 (.bool s) rfl
  have x1 := bx.cell 1 (.slice A n c) rfl
  go_wp2_with (go_at_call 58; refine (ref_signed Hn.out (hx.ext extW) hc hcm).mono ?_; rintro e w3 ⟨b3, A3, c3, rs, rfl, hr3, hc3, hm3, hi3, hl3, hext3⟩; have ext3 := hext3; have bz3 := bz.ext ext3; have z0 := bz3.cell 0 (.bool false) rfl; have z1 := bz3.cell 1 (.slice none 0 0) rfl; have f0 := bz3.frozen 0; have f1 := bz3.frozen 1)
  go_wp2_with fail
  obtain ⟨r1, r2, r3, r4⟩ := fin_pair (b := b3) (n := rs.length) (c := c3) (extW.trans ext3) (by omega) bz3 hr3
  exact bodyPost_ret (v := .agg #[.bool b3, .slice A3 rs.length c3]) (by simp [results, Tryz.results61, go_sem, r3, r4]) rfl ⟨b3, A3, c3, rs, rfl, r1, hc3, hm3, by rw [ival_not] at hi3; exact hi3, by omega, r2⟩
end
end Go.Proofs.YtiioodgpkdbndaaGreatDoor
namespace Go.Proofs.YtiioodgpkdbndaaGreatDoor
open Go.RowKit
attribute [local go_sem ↓] Go.wp_at_zero Go.wp_at_succ
/-- behind 'a, b = Norm(a), Norm(b)': both boxes hold normal forms. -/
def TwoN (w _W : World) (x y : Int) (lx ly : Nat) (R : World → Prop) (wx : World) : Prop :=
  ∃ b3 A3 c3 rs b4 A4 c4 qs, Ext w wx ∧ Box wx w.heap.size 24 #[.bool b3, .slice A3 (List.length rs) c3] ∧ Box wx (w.heap.size + 1) 24 #[.bool b4, .slice A4 (List.length qs) c4] ∧ R wx ∧ Rd wx A3 rs ∧ Rd wx A4 qs ∧
    rs.length ≤ c3 ∧ c3 ≤ maxLen ∧ qs.length ≤ c4 ∧ c4 ≤ maxLen ∧ IsInt x b3 rs ∧ IsInt y b4 qs ∧ rs.length ≤ lx ∧ qs.length ≤ ly
theorem TwoN.mk' {w W w4 : World} {x y : Int} {lx ly : Nat} {R : World → Prop} {s t b3 b4 : Bool} {A A3 B A4 : Option Addr} {n c m d c3 c4 : Nat} {rs qs : List Nat} (extW : Ext w W) (e4 : Ext W w4)
    (bx : Box W w.heap.size 24 #[.bool s, .slice A n c]) (by_ : Box W (w.heap.size + 1) 24 #[.bool t, .slice B m d]) (hr3 : Rd w4 A3 rs) (hr4 : Rd w4 A4 qs)
    (h1 : rs.length ≤ c3) (h2 : c3 ≤ maxLen) (h3 : qs.length ≤ c4) (h4 : c4 ≤ maxLen) (hi3 : IsInt x b3 rs) (hi4 : IsInt y b4 qs) (h5 : rs.length ≤ lx) (h6 : qs.length ≤ ly)
    (hR : ∀ u v p q, R ((((w4.setCell ⟨w.heap.size, 0, none⟩ u).setCell ⟨w.heap.size, 1, none⟩ v).setCell ⟨w.heap.size + 1, 0, none⟩ p).setCell ⟨w.heap.size + 1, 1, none⟩ q)) :
    TwoN w W x y lx ly R ((((w4.setCell ⟨w.heap.size, 0, none⟩ (.bool b3)).setCell ⟨w.heap.size, 1, none⟩ (.slice A3 rs.length c3)).setCell ⟨w.heap.size + 1, 0, none⟩ (.bool b4)).setCell ⟨w.heap.size + 1, 1, none⟩ (.slice A4 qs.length c4)) := by
  have k1 := bx.ext e4
  have k2 := by_.ext e4
  obtain ⟨r1, r2, _, _⟩ := fin_pair (b := b3) (n := rs.length) (c := c3) (extW.trans e4) (Nat.le_refl _) k1 hr3
  have q1 := (hr4.setBox k1 NoWord.two 0 (.bool b3)).setBox (k1.setA (.bool b3)) NoWord.two 1 (.slice A3 rs.length c3)
  have j1 := (k1.setA (.bool b3)).setB (.slice A3 rs.length c3)
  have j2 := ((k2.far (p := ⟨w.heap.size, 0, none⟩) (by simp) (.bool b3)).far (p := ⟨w.heap.size, 1, none⟩) (by simp) (.slice A3 rs.length c3))
  have j20 := j2.setA (.bool b4)
  have j3 := j20.setB (.slice A4 qs.length c4)
  have j4 := ((j1.far (p := ⟨w.heap.size + 1, 0, none⟩) (by simp) (.bool b4)).far (p := ⟨w.heap.size + 1, 1, none⟩) (by simp) (.slice A4 qs.length c4))
  have hE := (r2.setCell (p := ⟨w.heap.size + 1, 0, none⟩) (Nat.le_succ _) (.bool b4)).setCell (p := ⟨w.heap.size + 1, 1, none⟩) (Nat.le_succ _) (.slice A4 qs.length c4)
  have r3 := (r1.setBox j2 NoWord.two 0 (.bool b4)).setBox j20 NoWord.two 1 (.slice A4 qs.length c4)
  have q3 := (q1.setBox j2 NoWord.two 0 (.bool b4)).setBox j20 NoWord.two 1 (.slice A4 qs.length c4)
  have hRR := hR (.bool b3) (.slice A3 rs.length c3) (.bool b4) (.slice A4 qs.length c4)
  exact ⟨b3, A3, c3, rs, b4, A4, c4, qs, hE, j4, j3, hRR, r3, q3, h1, h2, h3, h4, hi3, hi4, h5, h6⟩
theorem isint_val {z : Int} {b : Bool} {ys : List Nat} (h : IsInt z b ys) : (val ys : Int) = if b then -z else z := by
  have := h.eq
  unfold ival at this
  cases b <;> simp at this ⊢ <;> omega
section
variable {A B : Option Addr} {c d n m : Nat} {xs ys : List Nat} {w : World} {s t : Bool}
end
end Go.Proofs.YtiioodgpkdbndaaGreatDoor
namespace Go.Proofs.YtiioodgpkdbndaaGreatDoor
open Go.RowKit
attribute [local go_sem ↓] Go.wp_at_zero Go.wp_at_succ
section
variable {A B : Option Addr} {c d n m : Nat} {xs ys : List Nat} {w : World} {s t : Bool}
set_option maxHeartbeats 1000000 in
theorem ref_Add (hn : xs.length = n) (hm : ys.length = m) (hx : Rd w A xs) (hy : Rd w B ys) (hc : n ≤ c) (hcm : c ≤ maxLen) (hd : m ≤ d) (hdm : d ≤ maxLen) (h1 : n ≤ 100000) (h2 : m ≤ 100000) :
    Calls Tryz.prog 73 #[.agg #[.bool s, .slice A n c], .agg #[.bool t, .slice B m d]] w (RetI (ival s xs + ival t ys) (max xs.length ys.length + 1) w) := by
  have Hn := Lib.hid hn
  have Hm := Lib.hid hm
  clear hn hm
  have lx := trimL_len xs
  have ly := trimL_len ys
  have hxt : Rd w A (trimL xs) := by rw [trimL_take]; exact hx.take _
  have hyt : Rd w B (trimL ys) := by rw [trimL_take]; exact hy.take _
  go_enter Tryz.func73, Tryz.ntmps73
  go_upto_region 1 with (fail)
  obtain ⟨W, hW, extW, bx, by_, bz, hz⟩ := box3 w 24 24 24 #[.bool s, .slice A n c] #[.bool t, .slice B m d] #[.bool false, .slice none 0 0]
  rw [← hW]
  clear hW
  have x0 := bx.cell 0 (.bool s) rfl
  have x1 := bx.cell 1 (.slice A n c) rfl
  have y0 := by_.cell 0 (.bool t) rfl
  have y1 := by_.cell 1 (.slice B m d) rfl
  have hf0 := bx.frozen 0
  have hf1 := bx.frozen 1
  have hg0 := by_.frozen 0
  have hg1 := by_.frozen 1
  go_cut [] (fun wx => TwoN w W (ival s xs) (ival t ys) xs.length ys.length (fun wx => Box wx (w.heap.size + 1 + 1) 24 #[.bool false, .slice none 0 0] ∧ w.heap.size + 3 ≤ wx.heap.size) wx)
  case first =>
    go_region_with (first | (go_at_call_of 15 A; refine (ref_Norm Hn.out (hx.ext (by first | exact extW | exact extW.drew | exact extW.drewN _ | exact (extW.drew).drew)) hc hcm h1).mono ?_; rintro e w3 ⟨b3, A3, c3, rs, rfl, hr3, hc3, hm3, hi3, hl3, hext3⟩; have e3 := (by first | exact hext3 | exact (Ext.refl W).drew.trans hext3 : Ext W w3); have y30 := (by_.ext e3).cell 0 (.bool t) rfl; have y31 := (by_.ext e3).cell 1 (.slice B m d) rfl) | (go_at_call_of 15 B; refine (ref_Norm Hm.out (hy.ext (extW.trans e3)) hd hdm h2).mono ?_; rintro e w4 ⟨b4, A4, c4, qs, rfl, hr4, hc4, hm4, hi4, hl4, hext4⟩; have e4 := e3.trans hext4; have x40 := (bx.ext e4).cell 0 (.bool s) rfl; have x41 := (bx.ext e4).cell 1 (.slice A n c) rfl; have y40 := (by_.ext e4).cell 0 (.bool t) rfl; have y41 := (by_.ext e4).cell 1 (.slice B m d) rfl; have k0 := (bx.ext e4).frozen 0; have k1 := (bx.ext e4).frozen 1; have k2 := (by_.ext e4).frozen 0; have k3 := (by_.ext e4).frozen 1))
    all_goals (go_wp2_with fail; go_meet; exact TwoN.mk' extW e4 bx by_ (hr3.ext hext4) hr4 hc3 hm3 hc4 hm4 hi3 hi4 hl3 hl4 (fun u v p q => ⟨(((((bz.ext e4).far (far_ne (by omega)) _).far (far_ne (by omega)) _).far (far_ne (by omega)) _).far (far_ne (by omega)) _), by have := e4.size; simp [World.setCell]; omega⟩))
  case rest =>
    clear bx by_ bz hz x0 x1 y0 y1 hf0 hf1 hg0 hg1 extW
    obtain ⟨b1, A1, c1, ps, b2, A2, c2, qs, extN, bx, by_, ⟨bz, hz⟩, hp, hq, hc1, hm1, hc2, hm2, hi1, hi2, hl1, hl2⟩ := hcut
    have x0 := bx.cell 0 (.bool b1) rfl
    have x1 := bx.cell 1 (.slice A1 ps.length c1) rfl
    have y0 := by_.cell 0 (.bool b2) rfl
    have y1 := by_.cell 1 (.slice A2 qs.length c2) rfl
    have hps : ps.length ≤ 100000 := by have := Hn.out; omega
    have hqs : qs.length ≤ 100000 := by have := Hm.out; omega
    have hv1 := isint_val hi1
    have hv2 := isint_val hi2
    have Hv1 := Lib.hid hv1
    have Hv2 := Lib.hid hv2
    clear hv1 hv2
    cases hst : (b1 == b2) with
    | true =>
      go_wp2_with fail
      go_region_held3 (fun w' => w'.cell? ⟨w.heap.size, 0, none⟩ = some (.bool b1) ∧ w'.cell? ⟨w.heap.size, 1, none⟩ = some (.slice A1 ps.length c1) ∧ w'.cell? ⟨w.heap.size + 1, 0, none⟩ = some (.bool b2) ∧ w'.cell? ⟨w.heap.size + 1, 1, none⟩ = some (.slice A2 qs.length c2)) (first | (go_split_ands; refine ⟨?_, ?_, ?_, ?_⟩ <;> first | (exact Ext.cellv (by assumption) (by assumption)) | (refine (cell_far2 (by omega)).trans ?_; assumption)) | go_keep)
        (first | (go_at_call 103; refine (ref_plus rfl rfl (hp.ext (by first | exact Ext.refl _ | exact (Ext.refl _).drew | exact (Ext.refl _).drewN _)) (hq.ext (by first | exact Ext.refl _ | exact (Ext.refl _).drew | exact (Ext.refl _).drewN _)) (by omega) (by omega)).mono ?_; rintro e w5 ⟨A5, c5, zs, rfl, ho5, hc5, hm5, ⟨hv5, hn5, hl5⟩, hext5⟩; have Hv5 := Lib.hid hv5; clear hv5) | (go_at_call 58; refine (ref_signed rfl ho5.rd hc5 hm5).mono ?_; rintro e w3 ⟨b3, A3, c3, rs, rfl, hr3, hc3, hm3, hi3, hl3, hext3⟩; have ext3 := ((Ext.refl wc).drew.trans hext5).trans hext3; have bz3 := bz.ext ext3; have z0 := bz3.cell 0 (.bool false) rfl; have z1 := bz3.cell 1 (.slice none 0 0) rfl; have f0 := bz3.frozen 0; have f1 := bz3.frozen 1))
      go_wp2_with fail
      obtain ⟨r1, r2, r3, r4⟩ := fin_pair (b := b3) (n := rs.length) (c := c3) (extN.trans ext3) (by omega) bz3 hr3
      refine bodyPost_ret (v := .agg #[.bool b3, .slice A3 rs.length c3]) (by simp [results, Tryz.results73, go_sem, r3, r4]) rfl ⟨b3, A3, c3, rs, rfl, r1, hc3, hm3, ?_, by omega, r2⟩
      have h := Hv5.out
      have g1 := Hv1.out
      have g2 := Hv2.out
      have hst' : b1 = b2 := by simpa using hst
      subst hst'
      have e : ival b1 zs = ival s xs + ival t ys := by
        unfold ival at *
        cases b1 <;> simp at g1 g2 ⊢ <;> omega
      rw [← e]
      exact hi3
    | false =>
      rcases Nat.lt_trichotomy (val ps) (val qs) with hlt | hlt | hlt
      · have hcm := Lib.hid (show cmpL ps qs = (-1) by rw [cmpL_nrm hp.1 hq.1 hi1.nrm hi2.nrm]; exact cmpI_of_lt hlt)
        have hle := len_le hq.1 hi1.nrm (Nat.le_of_lt hlt)
        have Hlt := Lib.hid hlt
        clear hlt
        go_wp2_with fail
        refine (ref_compare A1 A2 c1 c2 ps qs wc hp hq (by unfold maxLen; omega) (by unfold maxLen; omega)).mono ?_
        rintro e w1 ⟨rfl, hext1⟩
        rw [hcm.out]
        replace extN := extN.trans hext1
        replace hp := hp.ext hext1
        replace hq := hq.ext hext1
        replace bx := bx.ext hext1
        replace by_ := by_.ext hext1
        replace bz := bz.ext hext1
        clear x0 x1 y0 y1 hext1
        have x0 := bx.cell 0 (.bool b1) rfl
        have x1 := bx.cell 1 (.slice A1 ps.length c1) rfl
        have y0 := by_.cell 0 (.bool b2) rfl
        have y1 := by_.cell 1 (.slice A2 qs.length c2) rfl
        go_wp2_with fail
        go_region_held3 (fun w' => w'.cell? ⟨w.heap.size + 1, 0, none⟩ = some (.bool b2) ∧ w'.cell? ⟨w.heap.size + 1, 1, none⟩ = some (.slice A2 qs.length c2) ∧ w'.cell? ⟨w.heap.size, 1, none⟩ = some (.slice A1 ps.length c1)) (first | (go_split_ands; refine ⟨?_, ?_, ?_⟩ <;> first | (exact Ext.cellv (by assumption) (by assumption)) | (refine (cell_far2 (by omega)).trans ?_; assumption)) | go_keep)
          (first | (go_at_call 105; refine (ref_minus rfl rfl (hq.ext (by first | exact Ext.refl _ | exact (Ext.refl _).drew | exact (Ext.refl _).drewN _)) (hp.ext (by first | exact Ext.refl _ | exact (Ext.refl _).drew | exact (Ext.refl _).drewN _)) hle (Nat.le_of_lt Hlt.out) (by omega)).mono ?_; rintro e w5 ⟨A5, c5, zs, rfl, ho5, hc5, hm5, ⟨hv5, hn5, hl5⟩, hext5⟩; have Hv5 := Lib.hid hv5; clear hv5) | (go_at_call 58; refine (ref_signed rfl ho5.rd hc5 hm5).mono ?_; rintro e w3 ⟨b3, A3, c3, rs, rfl, hr3, hc3, hm3, hi3, hl3, hext3⟩; have ext3 := ((Ext.refl w1).drew.trans hext5).trans hext3; have bz3 := bz.ext ext3; have z0 := bz3.cell 0 (.bool false) rfl; have z1 := bz3.cell 1 (.slice none 0 0) rfl; have f0 := bz3.frozen 0; have f1 := bz3.frozen 1))
        go_wp2_with fail
        obtain ⟨r1, r2, r3, r4⟩ := fin_pair (b := b3) (n := rs.length) (c := c3) (extN.trans ext3) (by omega) bz3 hr3
        refine bodyPost_ret (v := .agg #[.bool b3, .slice A3 rs.length c3]) (by simp [results, Tryz.results73, go_sem, r3, r4]) rfl ⟨b3, A3, c3, rs, rfl, r1, hc3, hm3, ?_, by omega, r2⟩
        have h := Hv5.out
        have g1 := Hv1.out
        have g2 := Hv2.out
        have h' := Hlt.out
        have e : ival b2 zs = ival s xs + ival t ys := by
          unfold ival at *
          cases b1 <;> cases b2 <;> simp at hst <;> simp at g1 g2 ⊢ <;> omega
        rw [← e]
        exact hi3
      · have hcm := Lib.hid (show cmpL ps qs = 0 by rw [cmpL_nrm hp.1 hq.1 hi1.nrm hi2.nrm]; exact cmpI_of_eq hlt)
        have hle := len_le hp.1 hi2.nrm (by omega)
        have Hlt := Lib.hid hlt
        clear hlt
        go_wp2_with fail
        refine (ref_compare A1 A2 c1 c2 ps qs wc hp hq (by unfold maxLen; omega) (by unfold maxLen; omega)).mono ?_
        rintro e w1 ⟨rfl, hext1⟩
        rw [hcm.out]
        replace extN := extN.trans hext1
        replace hp := hp.ext hext1
        replace hq := hq.ext hext1
        replace bx := bx.ext hext1
        replace by_ := by_.ext hext1
        replace bz := bz.ext hext1
        clear x0 x1 y0 y1 hext1
        have x0 := bx.cell 0 (.bool b1) rfl
        have x1 := bx.cell 1 (.slice A1 ps.length c1) rfl
        have y0 := by_.cell 0 (.bool b2) rfl
        have y1 := by_.cell 1 (.slice A2 qs.length c2) rfl
        go_wp2_with fail
        go_region_held3 (fun w' => w'.cell? ⟨w.heap.size, 0, none⟩ = some (.bool b1) ∧ w'.cell? ⟨w.heap.size, 1, none⟩ = some (.slice A1 ps.length c1) ∧ w'.cell? ⟨w.heap.size + 1, 1, none⟩ = some (.slice A2 qs.length c2)) (first | (go_split_ands; refine ⟨?_, ?_, ?_⟩ <;> first | (exact Ext.cellv (by assumption) (by assumption)) | (refine (cell_far2 (by omega)).trans ?_; assumption)) | go_keep)
          (first | (go_at_call 105; refine (ref_minus rfl rfl (hp.ext (by first | exact Ext.refl _ | exact (Ext.refl _).drew | exact (Ext.refl _).drewN _)) (hq.ext (by first | exact Ext.refl _ | exact (Ext.refl _).drew | exact (Ext.refl _).drewN _)) hle (by have := Hlt.out; omega) (by omega)).mono ?_; rintro e w5 ⟨A5, c5, zs, rfl, ho5, hc5, hm5, ⟨hv5, hn5, hl5⟩, hext5⟩; have Hv5 := Lib.hid hv5; clear hv5) | (go_at_call 58; refine (ref_signed rfl ho5.rd hc5 hm5).mono ?_; rintro e w3 ⟨b3, A3, c3, rs, rfl, hr3, hc3, hm3, hi3, hl3, hext3⟩; have ext3 := ((Ext.refl w1).drew.trans hext5).trans hext3; have bz3 := bz.ext ext3; have z0 := bz3.cell 0 (.bool false) rfl; have z1 := bz3.cell 1 (.slice none 0 0) rfl; have f0 := bz3.frozen 0; have f1 := bz3.frozen 1))
        go_wp2_with fail
        obtain ⟨r1, r2, r3, r4⟩ := fin_pair (b := b3) (n := rs.length) (c := c3) (extN.trans ext3) (by omega) bz3 hr3
        refine bodyPost_ret (v := .agg #[.bool b3, .slice A3 rs.length c3]) (by simp [results, Tryz.results73, go_sem, r3, r4]) rfl ⟨b3, A3, c3, rs, rfl, r1, hc3, hm3, ?_, by omega, r2⟩
        have h := Hv5.out
        have g1 := Hv1.out
        have g2 := Hv2.out
        have h' := Hlt.out
        have e : ival b1 zs = ival s xs + ival t ys := by
          unfold ival at *
          cases b1 <;> cases b2 <;> simp at hst <;> simp at g1 g2 ⊢ <;> omega
        rw [← e]
        exact hi3
      · have hcm := Lib.hid (show cmpL ps qs = 1 by rw [cmpL_nrm hp.1 hq.1 hi1.nrm hi2.nrm]; exact cmpI_of_gt hlt)
        have hle := len_le hp.1 hi2.nrm (by omega)
        have Hlt := Lib.hid hlt
        clear hlt
        go_wp2_with fail
        refine (ref_compare A1 A2 c1 c2 ps qs wc hp hq (by unfold maxLen; omega) (by unfold maxLen; omega)).mono ?_
        rintro e w1 ⟨rfl, hext1⟩
        rw [hcm.out]
        replace extN := extN.trans hext1
        replace hp := hp.ext hext1
        replace hq := hq.ext hext1
        replace bx := bx.ext hext1
        replace by_ := by_.ext hext1
        replace bz := bz.ext hext1
        clear x0 x1 y0 y1 hext1
        have x0 := bx.cell 0 (.bool b1) rfl
        have x1 := bx.cell 1 (.slice A1 ps.length c1) rfl
        have y0 := by_.cell 0 (.bool b2) rfl
        have y1 := by_.cell 1 (.slice A2 qs.length c2) rfl
        go_wp2_with fail
        go_region_held3 (fun w' => w'.cell? ⟨w.heap.size, 0, none⟩ = some (.bool b1) ∧ w'.cell? ⟨w.heap.size, 1, none⟩ = some (.slice A1 ps.length c1) ∧ w'.cell? ⟨w.heap.size + 1, 1, none⟩ = some (.slice A2 qs.length c2)) (first | (go_split_ands; refine ⟨?_, ?_, ?_⟩ <;> first | (exact Ext.cellv (by assumption) (by assumption)) | (refine (cell_far2 (by omega)).trans ?_; assumption)) | go_keep)
          (first | (go_at_call 105; refine (ref_minus rfl rfl (hp.ext (by first | exact Ext.refl _ | exact (Ext.refl _).drew | exact (Ext.refl _).drewN _)) (hq.ext (by first | exact Ext.refl _ | exact (Ext.refl _).drew | exact (Ext.refl _).drewN _)) hle (by have := Hlt.out; omega) (by omega)).mono ?_; rintro e w5 ⟨A5, c5, zs, rfl, ho5, hc5, hm5, ⟨hv5, hn5, hl5⟩, hext5⟩; have Hv5 := Lib.hid hv5; clear hv5) | (go_at_call 58; refine (ref_signed rfl ho5.rd hc5 hm5).mono ?_; rintro e w3 ⟨b3, A3, c3, rs, rfl, hr3, hc3, hm3, hi3, hl3, hext3⟩; have ext3 := ((Ext.refl w1).drew.trans hext5).trans hext3; have bz3 := bz.ext ext3; have z0 := bz3.cell 0 (.bool false) rfl; have z1 := bz3.cell 1 (.slice none 0 0) rfl; have f0 := bz3.frozen 0; have f1 := bz3.frozen 1))
        go_wp2_with fail
        obtain ⟨r1, r2, r3, r4⟩ := fin_pair (b := b3) (n := rs.length) (c := c3) (extN.trans ext3) (by omega) bz3 hr3
        refine bodyPost_ret (v := .agg #[.bool b3, .slice A3 rs.length c3]) (by simp [results, Tryz.results73, go_sem, r3, r4]) rfl ⟨b3, A3, c3, rs, rfl, r1, hc3, hm3, ?_, by omega, r2⟩
        have h := Hv5.out
        have g1 := Hv1.out
        have g2 := Hv2.out
        have h' := Hlt.out
        have e : ival b1 zs = ival s xs + ival t ys := by
          unfold ival at *
          cases b1 <;> cases b2 <;> simp at hst <;> simp at g1 g2 ⊢ <;> omega
        rw [← e]
        exact hi3
end
end Go.Proofs.YtiioodgpkdbndaaGreatDoor
namespace Go.Proofs.YtiioodgpkdbndaaGreatDoor
open Go.RowKit
attribute [local go_sem ↓] Go.wp_at_zero Go.wp_at_succ
section
variable {A B : Option Addr} {c d n m : Nat} {xs ys : List Nat} {w : World} {s t : Bool}
set_option maxHeartbeats 1000000 in
theorem ref_Mul (hn : xs.length = n) (hm : ys.length = m) (hx : Rd w A xs) (hy : Rd w B ys) (hc : n ≤ c) (hcm : c ≤ maxLen) (hd : m ≤ d) (hdm : d ≤ maxLen) (h1 : n ≤ 100000) (h2 : m ≤ 100000) :
    Calls Tryz.prog 74 #[.agg #[.bool s, .slice A n c], .agg #[.bool t, .slice B m d]] w (RetI (ival s xs * ival t ys) (xs.length + ys.length) w) := by
  have Hn := Lib.hid hn
  have Hm := Lib.hid hm
  clear hn hm
  have lx := trimL_len xs
  have ly := trimL_len ys
  have hxt : Rd w A (trimL xs) := by rw [trimL_take]; exact hx.take _
  have hyt : Rd w B (trimL ys) := by rw [trimL_take]; exact hy.take _
  go_enter Tryz.func74, Tryz.ntmps74
  go_upto_region 1 with (fail)
  obtain ⟨W, hW, extW, bx, by_, bz, hz⟩ := box3 w 24 24 24 #[.bool s, .slice A n c] #[.bool t, .slice B m d] #[.bool false, .slice none 0 0]
  rw [← hW]
  clear hW
  have x0 := bx.cell 0 (.bool s) rfl
  have x1 := bx.cell 1 (.slice A n c) rfl
  have y0 := by_.cell 0 (.bool t) rfl
  have y1 := by_.cell 1 (.slice B m d) rfl
  have hf0 := bx.frozen 0
  have hf1 := bx.frozen 1
  have hg0 := by_.frozen 0
  have hg1 := by_.frozen 1
  go_cut [] (fun wx => TwoN w W (ival s xs) (ival t ys) xs.length ys.length (fun wx => Box wx (w.heap.size + 1 + 1) 24 #[.bool false, .slice none 0 0] ∧ w.heap.size + 3 ≤ wx.heap.size) wx)
  case first =>
    go_region_with (first | (go_at_call_of 15 A; refine (ref_Norm Hn.out (hx.ext (by first | exact extW | exact extW.drew | exact extW.drewN _ | exact (extW.drew).drew)) hc hcm h1).mono ?_; rintro e w3 ⟨b3, A3, c3, rs, rfl, hr3, hc3, hm3, hi3, hl3, hext3⟩; have e3 := (by first | exact hext3 | exact (Ext.refl W).drew.trans hext3 : Ext W w3); have y30 := (by_.ext e3).cell 0 (.bool t) rfl; have y31 := (by_.ext e3).cell 1 (.slice B m d) rfl) | (go_at_call_of 15 B; refine (ref_Norm Hm.out (hy.ext (extW.trans e3)) hd hdm h2).mono ?_; rintro e w4 ⟨b4, A4, c4, qs, rfl, hr4, hc4, hm4, hi4, hl4, hext4⟩; have e4 := e3.trans hext4; have x40 := (bx.ext e4).cell 0 (.bool s) rfl; have x41 := (bx.ext e4).cell 1 (.slice A n c) rfl; have y40 := (by_.ext e4).cell 0 (.bool t) rfl; have y41 := (by_.ext e4).cell 1 (.slice B m d) rfl; have k0 := (bx.ext e4).frozen 0; have k1 := (bx.ext e4).frozen 1; have k2 := (by_.ext e4).frozen 0; have k3 := (by_.ext e4).frozen 1))
    all_goals (go_wp2_with fail; go_meet; exact TwoN.mk' extW e4 bx by_ (hr3.ext hext4) hr4 hc3 hm3 hc4 hm4 hi3 hi4 hl3 hl4 (fun u v p q => ⟨(((((bz.ext e4).far (far_ne (by omega)) _).far (far_ne (by omega)) _).far (far_ne (by omega)) _).far (far_ne (by omega)) _), by have := e4.size; simp [World.setCell]; omega⟩))
  case rest =>
    clear bx by_ bz hz x0 x1 y0 y1 hf0 hf1 hg0 hg1 extW
    obtain ⟨b1, A1, c1, ps, b2, A2, c2, qs, extN, bx, by_, ⟨bz, hz⟩, hp, hq, hc1, hm1, hc2, hm2, hi1, hi2, hl1, hl2⟩ := hcut
    have hps : ps.length ≤ 100000 := by have := Hn.out; omega
    have hqs : qs.length ≤ 100000 := by have := Hm.out; omega
    have x0 := bx.cell 0 (.bool b1) rfl
    have x1 := bx.cell 1 (.slice A1 ps.length c1) rfl
    have y0 := by_.cell 0 (.bool b2) rfl
    have y1 := by_.cell 1 (.slice A2 qs.length c2) rfl
    go_wp2_with fail
    go_region_held3 (fun w' => w'.cell? ⟨w.heap.size, 0, none⟩ = some (.bool b1) ∧ w'.cell? ⟨w.heap.size, 1, none⟩ = some (.slice A1 ps.length c1) ∧ w'.cell? ⟨w.heap.size + 1, 0, none⟩ = some (.bool b2) ∧ w'.cell? ⟨w.heap.size + 1, 1, none⟩ = some (.slice A2 qs.length c2)) (first | (go_split_ands; refine ⟨?_, ?_, ?_, ?_⟩ <;> first | (exact Ext.cellv (by assumption) (by assumption)) | (refine (cell_far2 (by omega)).trans ?_; assumption)) | go_keep)
      (first | (go_at_call 106; refine (ref_times1 rfl rfl (hp.ext (by first | exact Ext.refl _ | exact (Ext.refl _).drew | exact (Ext.refl _).drewN _)) (hq.ext (by first | exact Ext.refl _ | exact (Ext.refl _).drew | exact (Ext.refl _).drewN _)) (by omega)).mono ?_; rintro e w5 ⟨A5, c5, zs, rfl, ho5, hc5, hm5, ⟨hv5, hn5, hl5⟩, hext5⟩; have Hv5 := Lib.hid hv5; clear hv5) | (go_at_call 58; refine (ref_signed rfl ho5.rd hc5 hm5).mono ?_; rintro e w3 ⟨b3, A3, c3, rs, rfl, hr3, hc3, hm3, hi3, hl3, hext3⟩; have ext3 := ((Ext.refl wc).drew.trans hext5).trans hext3; have bz3 := bz.ext ext3; have z0 := bz3.cell 0 (.bool false) rfl; have z1 := bz3.cell 1 (.slice none 0 0) rfl; have f0 := bz3.frozen 0; have f1 := bz3.frozen 1))
    go_wp2_with fail
    obtain ⟨r1, r2, r3, r4⟩ := fin_pair (b := b3) (n := rs.length) (c := c3) (extN.trans ext3) (by omega) bz3 hr3
    exact bodyPost_ret (v := .agg #[.bool b3, .slice A3 rs.length c3]) (by simp [results, Tryz.results74, go_sem, r3, r4]) rfl ⟨b3, A3, c3, rs, rfl, r1, hc3, hm3, by rw [ival_mul Hv5.out, hi1.eq, hi2.eq] at hi3; exact hi3, by omega, r2⟩
end
end Go.Proofs.YtiioodgpkdbndaaGreatDoor
namespace Go.Proofs.YtiioodgpkdbndaaGreatDoor
open Go.RowKit
attribute [local go_sem ↓] Go.wp_at_zero Go.wp_at_succ
section
variable {A B : Option Addr} {c d n m : Nat} {xs ys : List Nat} {w : World} {s t : Bool}
set_option maxHeartbeats 1000000 in
theorem ref_Sub (hn : xs.length = n) (hm : ys.length = m) (hx : Rd w A xs) (hy : Rd w B ys) (hc : n ≤ c) (hcm : c ≤ maxLen) (hd : m ≤ d) (hdm : d ≤ maxLen) (h1 : n ≤ 100000) (h2 : m ≤ 100000) :
    Calls Tryz.prog 107 #[.agg #[.bool s, .slice A n c], .agg #[.bool t, .slice B m d]] w (RetI (ival s xs - ival t ys) (max xs.length ys.length + 1) w) := by
  have Hn := Lib.hid hn
  have Hm := Lib.hid hm
  clear hn hm
  have lx := trimL_len xs
  have ly := trimL_len ys
  have hxt : Rd w A (trimL xs) := by rw [trimL_take]; exact hx.take _
  have hyt : Rd w B (trimL ys) := by rw [trimL_take]; exact hy.take _
  go_enter Tryz.func107, Tryz.ntmps107
  go_upto_region 1 with (fail)
  obtain ⟨W, hW, extW, bx, by_, bz, hz⟩ := box3 w 24 24 24 #[.bool s, .slice A n c] #[.bool t, .slice B m d] #[.bool false, .slice none 0 0]
  rw [← hW]
  clear hW
  have x0 := bx.cell 0 (.bool s) rfl
  have x1 := bx.cell 1 (.slice A n c) rfl
  have y0 := by_.cell 0 (.bool t) rfl
  have y1 := by_.cell 1 (.slice B m d) rfl
  go_region_held3 (fun w' => w'.cell? ⟨w.heap.size, 0, none⟩ = some (.bool s) ∧ w'.cell? ⟨w.heap.size, 1, none⟩ = some (.slice A n c) ∧ w'.cell? ⟨w.heap.size + 1, 0, none⟩ = some (.bool t) ∧ w'.cell? ⟨w.heap.size + 1, 1, none⟩ = some (.slice B m d)) (first | (go_split_ands; refine ⟨?_, ?_, ?_, ?_⟩ <;> first | (exact Ext.cellv (by assumption) (by assumption)) | (refine (cell_far2 (by omega)).trans ?_; assumption)) | go_keep)
    (first | (go_at_call 61; refine (ref_Neg Hm.out (hy.ext (by first | exact extW | exact extW.drew | exact extW.drewN _ | exact (extW.drew).drew)) hd hdm h2).mono ?_; rintro e w4 ⟨b4, A4, c4, qs, rfl, hr4, hc4, hm4, hi4, hl4, hext4⟩) | (go_at_call 73; refine (ref_Add Hn.out rfl (hx.ext (extW.trans ((Ext.refl W).drew.trans hext4))) hr4 hc hcm hc4 hm4 h1 (by have := Hm.out; omega)).mono ?_; rintro e w3 ⟨b3, A3, c3, rs, rfl, hr3, hc3, hm3, hi3, hl3, hext3⟩; have ext3 := ((Ext.refl W).drew.trans hext4).trans hext3; have bz3 := bz.ext ext3; have z0 := bz3.cell 0 (.bool false) rfl; have z1 := bz3.cell 1 (.slice none 0 0) rfl; have f0 := bz3.frozen 0; have f1 := bz3.frozen 1))
  go_wp2_with fail
  obtain ⟨r1, r2, r3, r4⟩ := fin_pair (b := b3) (n := rs.length) (c := c3) (extW.trans ext3) (by omega) bz3 hr3
  exact bodyPost_ret (v := .agg #[.bool b3, .slice A3 rs.length c3]) (by simp [results, Tryz.results107, go_sem, r3, r4]) rfl ⟨b3, A3, c3, rs, rfl, r1, hc3, hm3, by rw [hi4.eq] at hi3; exact hi3, by omega, r2⟩
end
end Go.Proofs.YtiioodgpkdbndaaGreatDoor
namespace Go.Proofs.YtiioodgpkdbndaaGreatDoor
open Go.RowKit
attribute [local go_sem ↓] Go.wp_at_zero Go.wp_at_succ
theorem step_append_words {w0 w : World} {ops : Array Oper} {o : Oper} {a : Act} {K : Act → World → Prop} {Q : Exit → Act → World → Prop} {E : Prop} (hgd : o.guard = none) (s x : Operand) (t : TypeId)
    (ho : o.op = .call { callee := .builtin .append, args := #[s, x], argTypes := #[t, t] }) (ht : Tryz.prog.underlying t = some (.slice 71))
    (he : Ext w0 w) (g : Nat) (hs : a.eval s = .slice (some ⟨g, 0, none⟩) 0 0) (hg : w.heap[g]? = some (.cells #[] 71 (0, 0))) (hg0 : w0.heap.size ≤ g)
    {A : Option Addr} {n : Nat} {xs : List Nat} {c : Nat} (hx : a.eval x = .slice A n c) (hn : xs.length = n) (hr : Rd w A xs) (hl : n ≤ 1000000)
    (h : ∀ A' c' w', Own w' w0.heap.size A' xs → n ≤ c' → c' ≤ maxLen → Ext w0 w' → K (a.put o.dst (.slice A' n c')) w') :
    if Region.wanted o (yielded ops a.tmps) = true then Oper.wp Tryz.prog o a w K Q else E := by
  have hw : Region.wanted o (yielded ops a.tmps) = true := by simp [Region.wanted, hgd]
  rw [if_pos hw]
  subst hn
  obtain ⟨i0, hi, hz0, hz1, hz2⟩ := info_parts Tryz.infoW
  obtain ⟨A', c', w', hrun, h1, h2, h3, h4⟩ := run_append_words (P := Tryz.prog) t o.type i0 ht hi hz0 hz1 hz2 he g hg hg0 (c := c) hr hl
  unfold Oper.wp execOp
  simp only [ho, resolve, invoke, builtin, Sem.run_bind, Sem.run_pure, Result.andThen_ok, List.map_toArray, List.map_cons, List.map_nil, hs, hx, hrun]
  exact h A' c' w' h1 h2 h3 h4
section
variable {A B : Option Addr} {c d n m L : Nat} {xs ys : List Nat} {w : World} {s t : Bool}
end
end Go.Proofs.YtiioodgpkdbndaaGreatDoor
namespace Go.Proofs.YtiioodgpkdbndaaGreatDoor
open Go.RowKit
section
variable {A B : Option Addr} {c d n m : Nat} {xs ys : List Nat} {w : World} {s t : Bool}
set_option maxHeartbeats 2000000 in
theorem ref_Valid (hn : xs.length = n) (hx : Rd w A xs) (hc : n ≤ c) (hcm : c ≤ maxLen) (h1 : n ≤ 100000) :
    Calls Tryz.prog 41 #[.agg #[.bool s, .slice A n c]] w fun e w' => e = .returned (.bool (validB s xs)) ∧ Ext w w' := by
  obtain ⟨W, hW, extW, bx, hz⟩ := box1 w 24 #[.bool s, .slice A n c]
  have x0 := bx.cell 0 (.bool s) rfl
  have x1 := bx.cell 1 (.slice A n c) rfl
  have Hn := Lib.hid hn
  have Hv := Lib.hid (show validB s xs = (decide ((trimL xs).length = n) && (!s || decide (0 < n))) by unfold validB; rw [hn])
  clear hn
  by_cases ht : (trimL xs).length = n
  · have t1 : (((trimL xs).length : Int) == (n : Int)) = true := by rw [beq_iff_eq]; omega
    have t2 : decide ((trimL xs).length = n) = true := decide_eq_true ht
    rw [t2] at Hv
    cases s
    · have Hv2 := Lib.hid (show validB false xs = true by rw [Hv.out]; rfl)
      go_enter Tryz.func41, Tryz.ntmps41
      go_upto_region 1 with (fail)
      rw [← hW]
      clear hW
      go_quiet ((go_at_call 79; exact quiet_left (ref_trimN Hn.out (hx.ext (extW.drewN _)) hc hcm)))
      go_wp2_with fail
      go_ret
      exact ⟨by rw [Hv2.out]; rfl, by first | exact extW | exact extW.drew | exact extW.drewN _⟩
    · by_cases h0 : 0 < n
      · have Hv2 := Lib.hid (show validB true xs = true by rw [Hv.out, decide_eq_true h0]; rfl)
        have t3 : decide ((0 : Int) < (n : Int)) = true := decide_eq_true (by omega)
        go_enter Tryz.func41, Tryz.ntmps41
        go_upto_region 1 with (fail)
        rw [← hW]
        clear hW
        go_quiet ((go_at_call 79; exact quiet_left (ref_trimN Hn.out (hx.ext (extW.drewN _)) hc hcm)))
        go_wp2_with fail
        go_ret
        exact ⟨by rw [Hv2.out]; rfl, by first | exact extW | exact extW.drew | exact extW.drewN _⟩
      · have Hv2 := Lib.hid (show validB true xs = false by rw [Hv.out, decide_eq_false h0]; rfl)
        have t3 : decide ((0 : Int) < (n : Int)) = false := decide_eq_false (by omega)
        go_enter Tryz.func41, Tryz.ntmps41
        go_upto_region 1 with (fail)
        rw [← hW]
        clear hW
        go_quiet ((go_at_call 79; exact quiet_left (ref_trimN Hn.out (hx.ext (extW.drewN _)) hc hcm)))
        go_wp2_with fail
        go_ret
        exact ⟨by rw [Hv2.out]; rfl, by first | exact extW | exact extW.drew | exact extW.drewN _⟩
  · have t1 : (((trimL xs).length : Int) == (n : Int)) = false := by rw [beq_eq_false_iff_ne]; omega
    have Hv2 := Lib.hid (show validB s xs = false by rw [Hv.out, decide_eq_false ht]; rfl)
    go_enter Tryz.func41, Tryz.ntmps41
    go_upto_region 1 with (fail)
    rw [← hW]
    clear hW
    go_quiet ((go_at_call 79; exact quiet_left (ref_trimN Hn.out (hx.ext (extW.drewN _)) hc hcm)))
    go_wp2_with fail
    go_ret
    exact ⟨by rw [Hv2.out]; rfl, by first | exact extW | exact extW.drew | exact extW.drewN _⟩
end
end Go.Proofs.YtiioodgpkdbndaaGreatDoor
namespace Go.Proofs.YtiioodgpkdbndaaGreatDoor
open Go.RowKit
attribute [local go_sem ↓] Go.wp_at_zero Go.wp_at_succ
theorem dm_rest {b1 b2 : Bool} {x y q r : Nat} (h : x = q * y + r) : (if b1 then -(x : Int) else (x : Int)) - (if (!(b1 == b2)) = true then -(q : Int) else (q : Int)) * (if b2 then -(y : Int) else (y : Int)) = if b1 then -(r : Int) else (r : Int) := by
  have e : (x : Int) = (q : Int) * (y : Int) + (r : Int) := by rw [h, Int.natCast_add, Int.natCast_mul]
  rw [e]
  cases b1 <;> cases b2 <;> simp <;> grind
theorem dm_abs {a b : Int} {b1 b2 bq : Bool} {ps qs us qq : List Nat} (h1 : IsInt a b1 ps) (h2 : IsInt b b2 qs) (hq : 0 < qs.length) (hu : val us = val ps / val qs) (h3 : IsInt (ival (!(b1 == b2)) us) bq qq) :
    b ≠ 0 ∧ -(b.natAbs : Int) < a - ival bq qq * b ∧ a - ival bq qq * b < (b.natAbs : Int) := by
  have hv : 0 < val qs := by
    rcases Nat.eq_zero_or_pos (val qs) with h | h
    · rw [h2.nrm.zero.1 h] at hq; simp at hq
    · exact h
  have e := dm_rest (b1 := b1) (b2 := b2) (x := val ps) (y := val qs) (q := val us) (r := val ps % val qs) (by rw [hu, Nat.mul_comm]; exact (Nat.div_add_mod _ _).symm)
  have hl := Nat.mod_lt (val ps) hv
  have i1 : ival b1 ps = if b1 then -(val ps : Int) else (val ps : Int) := rfl
  have i2 : ival b2 qs = if b2 then -(val qs : Int) else (val qs : Int) := rfl
  have i3 : ival (!(b1 == b2)) us = if (!(b1 == b2)) = true then -(val us : Int) else (val us : Int) := rfl
  rw [← i1, ← i2, ← i3, h1.eq, h2.eq, ← h3.eq] at e
  have hb := h2.eq
  rw [i2] at hb
  generalize val ps % val qs = r at *
  refine ⟨?_, ?_, ?_⟩
  · cases b2 <;> simp at hb <;> omega
  · rw [e]; cases b1 <;> cases b2 <;> simp at hb ⊢ <;> omega
  · rw [e]; cases b1 <;> cases b2 <;> simp at hb ⊢ <;> omega
/-- the rest has the other sign than the divisor. -/
def negB (r b : Int) : Bool := decide ((0 < b ∧ r < 0) ∨ (b < 0 ∧ 0 < r))
theorem dm_fin {a b q : Int} (hb : b ≠ 0) (hr : -(b.natAbs : Int) < a - q * b ∧ a - q * b < (b.natAbs : Int)) :
    b ≠ 0 ∧ (negB (a - q * b) b = true → IsDM a b (q - 1) (a - q * b + b)) ∧ (negB (a - q * b) b = false → IsDM a b q (a - q * b)) := by
  refine ⟨hb, fun h => ?_, fun h => ?_⟩
  · have h := of_decide_eq_true h
    refine ⟨by grind, ?_⟩
    omega
  · have h := of_decide_eq_false h
    refine ⟨by grind, ?_⟩
    omega
theorem dm_signs {b r : Int} (hb : b ≠ 0) : ∃ SR SB : Int, r.sign = SR ∧ b.sign = SB ∧ ((SR = 1 ∧ SB = 1 ∧ negB r b = false) ∨ (SR = 0 ∧ SB = 1 ∧ negB r b = false) ∨ (SR = -1 ∧ SB = 1 ∧ negB r b = true) ∨ (SR = 1 ∧ SB = -1 ∧ negB r b = true) ∨ (SR = 0 ∧ SB = -1 ∧ negB r b = false) ∨ (SR = -1 ∧ SB = -1 ∧ negB r b = false)) := by
  refine ⟨_, _, rfl, rfl, ?_⟩
  unfold negB
  rcases Int.lt_trichotomy b 0 with h | h | h
  · rw [Int.sign_eq_neg_one_of_neg h]
    rcases Int.lt_trichotomy r 0 with k | k | k
    · rw [Int.sign_eq_neg_one_of_neg k]; exact .inr (.inr (.inr (.inr (.inr ⟨rfl, rfl, decide_eq_false (by omega)⟩))))
    · subst k; exact .inr (.inr (.inr (.inr (.inl ⟨rfl, rfl, decide_eq_false (by omega)⟩))))
    · rw [Int.sign_eq_one_of_pos k]; exact .inr (.inr (.inr (.inl ⟨rfl, rfl, decide_eq_true (by omega)⟩)))
  · exact absurd h hb
  · rw [Int.sign_eq_one_of_pos h]
    rcases Int.lt_trichotomy r 0 with k | k | k
    · rw [Int.sign_eq_neg_one_of_neg k]; exact .inr (.inr (.inl ⟨rfl, rfl, decide_eq_true (by omega)⟩))
    · subst k; exact .inr (.inl ⟨rfl, rfl, decide_eq_false (by omega)⟩)
    · rw [Int.sign_eq_one_of_pos k]; exact .inl ⟨rfl, rfl, decide_eq_false (by omega)⟩
section
variable {A B : Option Addr} {c d n m : Nat} {xs ys : List Nat} {w : World} {s t : Bool}
set_option maxHeartbeats 16000000 in
theorem ref_DivMod_nz (hn : xs.length = n) (hm : ys.length = m) (hx : Rd w A xs) (hy : Rd w B ys) (hc : n ≤ c) (hcm : c ≤ maxLen) (hd : m ≤ d) (hdm : d ≤ maxLen) (h1 : n ≤ 9000) (h2 : m ≤ 9000) (h0 : val ys ≠ 0) :
    Calls Tryz.prog 95 #[.agg #[.bool s, .slice A n c], .agg #[.bool t, .slice B m d]] w (RetDM (ival s xs) (ival t ys) 60000 60000 w) := by
  have Hn := Lib.hid hn
  have Hm := Lib.hid hm
  clear hn hm
  go_enter Tryz.func95, Tryz.ntmps95
  go_upto_region 1 with (fail)
  obtain ⟨W, hW, extW, bx, by_, bz, bu, hz⟩ := box4 w 24 24 24 24 #[.bool s, .slice A n c] #[.bool t, .slice B m d] #[.bool false, .slice none 0 0] #[.bool false, .slice none 0 0]
  rw [← hW]
  clear hW
  have x0 := bx.cell 0 (.bool s) rfl
  have x1 := bx.cell 1 (.slice A n c) rfl
  have y0 := by_.cell 0 (.bool t) rfl
  have y1 := by_.cell 1 (.slice B m d) rfl
  have hf0 := bx.frozen 0
  have hf1 := bx.frozen 1
  have hg0 := by_.frozen 0
  have hg1 := by_.frozen 1
  go_cut [] (fun wx => TwoN w W (ival s xs) (ival t ys) xs.length ys.length (fun wx => Box wx (w.heap.size + 1 + 1) 24 #[.bool false, .slice none 0 0] ∧ Box wx (w.heap.size + 1 + 1 + 1) 24 #[.bool false, .slice none 0 0] ∧ w.heap.size + 4 ≤ wx.heap.size) wx)
  case first =>
    go_region_with (first | (go_at_call_of 15 A; refine (ref_Norm Hn.out (hx.ext (by first | exact extW | exact extW.drew | exact extW.drewN _ | exact (extW.drew).drew)) hc hcm (by omega)).mono ?_; rintro e w3 ⟨b3, A3, c3, rs, rfl, hr3, hc3, hm3, hi3, hl3, hext3⟩; have e3 := (by first | exact hext3 | exact (Ext.refl W).drew.trans hext3 : Ext W w3); have y30 := (by_.ext e3).cell 0 (.bool t) rfl; have y31 := (by_.ext e3).cell 1 (.slice B m d) rfl) | (go_at_call_of 15 B; refine (ref_Norm Hm.out (hy.ext (extW.trans e3)) hd hdm (by omega)).mono ?_; rintro e w4 ⟨b4, A4, c4, qs, rfl, hr4, hc4, hm4, hi4, hl4, hext4⟩; have e4 := e3.trans hext4; have x40 := (bx.ext e4).cell 0 (.bool s) rfl; have x41 := (bx.ext e4).cell 1 (.slice A n c) rfl; have y40 := (by_.ext e4).cell 0 (.bool t) rfl; have y41 := (by_.ext e4).cell 1 (.slice B m d) rfl; have f40 := (bx.ext e4).frozen 0; have f41 := (bx.ext e4).frozen 1; have g40 := (by_.ext e4).frozen 0; have g41 := (by_.ext e4).frozen 1))
    all_goals (go_wp2_with fail; go_meet; exact TwoN.mk' extW e4 bx by_ (hr3.ext hext4) hr4 hc3 hm3 hc4 hm4 hi3 hi4 hl3 hl4 (fun u v p q => ⟨(((((bz.ext e4).far (far_ne (by omega)) _).far (far_ne (by omega)) _).far (far_ne (by omega)) _).far (far_ne (by omega)) _), (((((bu.ext e4).far (far_ne (by omega)) _).far (far_ne (by omega)) _).far (far_ne (by omega)) _).far (far_ne (by omega)) _), by have := e4.size; simp [World.setCell]; omega⟩))
  case rest =>
    clear bx by_ bz bu hz x0 x1 y0 y1 hf0 hf1 hg0 hg1 extW
    obtain ⟨b1, A1, c1, ps, b2, A2, c2, qs, extN, bx, by_, ⟨bz, bu, hz⟩, hp, hq, hc1, hm1, hc2, hm2, hi1, hi2, hl1, hl2⟩ := hcut
    have hps : ps.length ≤ 9000 := by have := Hn.out; omega
    have hqs : qs.length ≤ 9000 := by have := Hm.out; omega
    have x0 := bx.cell 0 (.bool b1) rfl
    have x1 := bx.cell 1 (.slice A1 ps.length c1) rfl
    have y0 := by_.cell 0 (.bool b2) rfl
    have y1 := by_.cell 1 (.slice A2 qs.length c2) rfl
    have hqpos : 0 < qs.length := by
      rcases Nat.eq_zero_or_pos qs.length with h | h
      · exfalso
        apply h0
        have hz0 := hi2.zero.1 (List.length_eq_zero_iff.1 h)
        unfold ival at hz0
        cases t <;> simp at hz0 <;> omega
      · exact h
    have hqne : ((qs.length : Int) == 0) = false := by rw [beq_eq_false_iff_ne]; omega
    go_wp2_with fail
    refine (ref_divide rfl rfl hp hq hc1 hm1 hi1.nrm hi2.nrm hqpos (by omega) (by omega)).mono ?_
    rintro e w5 ⟨A5, c5, us, A6, c6, rs6, rfl, hr5, hr6, hc5, hm5, hc6, hm6, huv, hrv, hun, hrn, hxt5⟩
    have hul : us.length ≤ ps.length := nrm_len_le hp.1 hun (by rw [huv]; exact Nat.div_le_self _ _)
    have Huv := Lib.hid huv
    clear huv hrv hr6 x0 x1 y0 y1
    have x0 := (bx.ext hxt5).cell 0 (.bool b1) rfl
    have x1 := (bx.ext hxt5).cell 1 (.slice A1 ps.length c1) rfl
    have y0 := (by_.ext hxt5).cell 0 (.bool b2) rfl
    have y1 := (by_.ext hxt5).cell 1 (.slice A2 qs.length c2) rfl
    go_wp2_with fail
    refine (ref_signed rfl hr5 hc5 hm5).mono ?_
    rintro e w6 ⟨bq, Aq, cq, qq, rfl, hrq, hcq, hmq, hiq, hlq, hxt6⟩
    have E6 := hxt5.trans hxt6
    go_upto_region 6 with (fail)
    refine at_world (fun V => Ext wc V ∧ Box V w6.heap.size 24 #[.bool bq, .slice Aq qq.length cq] ∧ Rd V Aq qq) ⟨E6.alloc _, Box.new w6 _ _, hrq.ext ((Ext.refl w6).alloc _)⟩ ?_
    have hgq := E6.size
    generalize w6.heap.size = gq at *
    clear hrq E6 hxt5 hxt6 hr5 x0 x1 y0 y1
    rintro V ⟨EV, xq, hrq⟩
    have xa := bx.ext EV
    have xb := by_.ext EV
    have xz := bz.ext EV
    have xu := bu.ext EV
    have hpV := hp.ext EV
    have hqV := hq.ext EV
    have EW := extN.trans EV
    clear bx by_ bz bu hp hq EV
    have x0 := xa.cell 0 (.bool b1) rfl
    have x1 := xa.cell 1 (.slice A1 ps.length c1) rfl
    have y0 := xb.cell 0 (.bool b2) rfl
    have y1 := xb.cell 1 (.slice A2 qs.length c2) rfl
    have q0 := xq.cell 0 (.bool bq) rfl
    have q1 := xq.cell 1 (.slice Aq qq.length cq) rfl
    have hql : qq.length ≤ 9000 := by omega
    go_cut [10] (fun p X => ∃ gr b7 A7 c7 rr, p = .pointer (some ⟨gr, 0, none⟩) ∧ V.heap.size ≤ gr ∧ Ext V X ∧ Box X gr 24 #[.bool b7, .slice A7 (List.length rr) c7] ∧ Rd X A7 rr ∧ rr.length ≤ c7 ∧ c7 ≤ maxLen ∧ IsInt (ival s xs - ival bq qq * ival t ys) b7 rr ∧ rr.length ≤ 30000)
    case first =>
      have ET := Ext.refl V
      have hsz5 : V.heap.size ≤ V.heap.size := Nat.le_refl _
      go_region_held3 (fun w' => w'.cell? ⟨w.heap.size, 0, none⟩ = some (.bool b1) ∧ w'.cell? ⟨w.heap.size, 1, none⟩ = some (.slice A1 ps.length c1) ∧ w'.cell? ⟨(w.heap.size + 1), 0, none⟩ = some (.bool b2) ∧ w'.cell? ⟨(w.heap.size + 1), 1, none⟩ = some (.slice A2 qs.length c2) ∧ w'.cell? ⟨gq, 0, none⟩ = some (.bool bq) ∧ w'.cell? ⟨gq, 1, none⟩ = some (.slice Aq qq.length cq)) (first | exact ⟨(xa.ext ET).cell 0 _ rfl, (xa.ext ET).cell 1 _ rfl, (xb.ext ET).cell 0 _ rfl, (xb.ext ET).cell 1 _ rfl, (xq.ext ET).cell 0 _ rfl, (xq.ext ET).cell 1 _ rfl⟩ | exact ⟨(xa.ext ET.drew).cell 0 _ rfl, (xa.ext ET.drew).cell 1 _ rfl, (xb.ext ET.drew).cell 0 _ rfl, (xb.ext ET.drew).cell 1 _ rfl, (xq.ext ET.drew).cell 0 _ rfl, (xq.ext ET.drew).cell 1 _ rfl⟩ | exact ⟨(xa.ext (ET.alloc _)).cell 0 _ rfl, (xa.ext (ET.alloc _)).cell 1 _ rfl, (xb.ext (ET.alloc _)).cell 0 _ rfl, (xb.ext (ET.alloc _)).cell 1 _ rfl, (xq.ext (ET.alloc _)).cell 0 _ rfl, (xq.ext (ET.alloc _)).cell 1 _ rfl⟩ | exact ⟨(xa.ext (ET.drew.alloc _)).cell 0 _ rfl, (xa.ext (ET.drew.alloc _)).cell 1 _ rfl, (xb.ext (ET.drew.alloc _)).cell 0 _ rfl, (xb.ext (ET.drew.alloc _)).cell 1 _ rfl, (xq.ext (ET.drew.alloc _)).cell 0 _ rfl, (xq.ext (ET.drew.alloc _)).cell 1 _ rfl⟩ | exact ⟨(xa.ext ((ET.setCell (p := ⟨wk.heap.size, 0, none⟩) hsz _).setCell (p := ⟨wk.heap.size, 1, none⟩) hsz _)).cell 0 _ rfl, (xa.ext ((ET.setCell (p := ⟨wk.heap.size, 0, none⟩) hsz _).setCell (p := ⟨wk.heap.size, 1, none⟩) hsz _)).cell 1 _ rfl, (xb.ext ((ET.setCell (p := ⟨wk.heap.size, 0, none⟩) hsz _).setCell (p := ⟨wk.heap.size, 1, none⟩) hsz _)).cell 0 _ rfl, (xb.ext ((ET.setCell (p := ⟨wk.heap.size, 0, none⟩) hsz _).setCell (p := ⟨wk.heap.size, 1, none⟩) hsz _)).cell 1 _ rfl, (xq.ext ((ET.setCell (p := ⟨wk.heap.size, 0, none⟩) hsz _).setCell (p := ⟨wk.heap.size, 1, none⟩) hsz _)).cell 0 _ rfl, (xq.ext ((ET.setCell (p := ⟨wk.heap.size, 0, none⟩) hsz _).setCell (p := ⟨wk.heap.size, 1, none⟩) hsz _)).cell 1 _ rfl⟩ | exact ⟨(xa.ext ((ET.setCell (p := ⟨V.heap.size, 0, none⟩) hsz5 _).setCell (p := ⟨V.heap.size, 1, none⟩) hsz5 _)).cell 0 _ rfl, (xa.ext ((ET.setCell (p := ⟨V.heap.size, 0, none⟩) hsz5 _).setCell (p := ⟨V.heap.size, 1, none⟩) hsz5 _)).cell 1 _ rfl, (xb.ext ((ET.setCell (p := ⟨V.heap.size, 0, none⟩) hsz5 _).setCell (p := ⟨V.heap.size, 1, none⟩) hsz5 _)).cell 0 _ rfl, (xb.ext ((ET.setCell (p := ⟨V.heap.size, 0, none⟩) hsz5 _).setCell (p := ⟨V.heap.size, 1, none⟩) hsz5 _)).cell 1 _ rfl, (xq.ext ((ET.setCell (p := ⟨V.heap.size, 0, none⟩) hsz5 _).setCell (p := ⟨V.heap.size, 1, none⟩) hsz5 _)).cell 0 _ rfl, (xq.ext ((ET.setCell (p := ⟨V.heap.size, 0, none⟩) hsz5 _).setCell (p := ⟨V.heap.size, 1, none⟩) hsz5 _)).cell 1 _ rfl⟩)
        (first | (go_at_call 74; refine (ref_Mul rfl rfl (hrq.ext (by first | exact ET | exact ET.drew | exact ET.alloc _ | exact ET.drew.alloc _ | exact (ET.alloc _).drew)) (hqV.ext (by first | exact ET | exact ET.drew | exact ET.alloc _ | exact ET.drew.alloc _ | exact (ET.alloc _).drew)) hcq hmq hc2 hm2 (by omega) (by omega)).mono ?_; rintro e wk ⟨b4, A4, c4, ms, rfl, hr4, hc4, hm4, hi4, hl4, hxt⟩; replace ET := (by first | exact ET.trans hxt | exact ET.drew.trans hxt | exact (ET.alloc _).trans hxt | exact (ET.drew.alloc _).trans hxt : Ext V _); have hsz := ET.size; first | (have xnb : Box wk V.heap.size 24 #[Value.bool false, Value.slice none 0 0] := Box.ext (Box.new V 24 #[Value.bool false, Value.slice none 0 0]) hxt; have n0 := xnb.cell 0 (Value.bool false) rfl; have n1 := xnb.cell 1 (Value.slice none 0 0) rfl; have nf0 := xnb.frozen 0; have nf1 := xnb.frozen 1) | (have xnb : Box wk V.heap.size 24 #[Value.bool false, Value.slice none 0 0] := Box.ext (Box.new V.drew 24 #[Value.bool false, Value.slice none 0 0]) hxt; have n0 := xnb.cell 0 (Value.bool false) rfl; have n1 := xnb.cell 1 (Value.slice none 0 0) rfl; have nf0 := xnb.frozen 0; have nf1 := xnb.frozen 1) | skip) | (go_at_call 107; refine (ref_Sub rfl rfl (hpV.ext (by first | exact ET | exact ET.drew | exact ET.alloc _ | exact ET.drew.alloc _ | exact (ET.alloc _).drew)) (by first | exact hr4 | exact hr4.ext ((Ext.refl _).alloc _)) hc1 hm1 hc4 hm4 (by omega) (by omega)).mono ?_; rintro e wk2 ⟨b5, A5, c5, ns, rfl, hr5, hc5, hm5, hi5, hl5, hxt⟩; replace ET := (by first | exact ET.trans hxt | exact ET.drew.trans hxt | exact (ET.alloc _).trans hxt | exact (ET.drew.alloc _).trans hxt : Ext V _); first | (replace xnb := Box.ext xnb hxt; have n0 := xnb.cell 0 (Value.bool false) rfl; have n1 := xnb.cell 1 (Value.slice none 0 0) rfl; have nf0 := xnb.frozen 0; have nf1 := xnb.frozen 1) | (have xnb : Box wk2 wk.heap.size 24 #[Value.bool false, Value.slice none 0 0] := Box.ext (Box.new wk 24 #[Value.bool false, Value.slice none 0 0]) hxt; have n0 := xnb.cell 0 (Value.bool false) rfl; have n1 := xnb.cell 1 (Value.slice none 0 0) rfl; have nf0 := xnb.frozen 0; have nf1 := xnb.frozen 1) | skip))
      all_goals (go_wp2_with fail; go_meet; rw [hi4.eq, hi1.eq, hi2.eq] at hi5; first | exact ⟨_, b5, A5, c5, ns, rfl, ET.size, ET.alloc _, Box.new _ _ _, hr5.ext ((Ext.refl _).alloc _), hc5, hm5, hi5, by omega⟩ | exact ⟨_, b5, A5, c5, ns, rfl, ET.size, ET.drew.alloc _, Box.new _ _ _, hr5.ext ((Ext.refl _).drew.alloc _), hc5, hm5, hi5, by omega⟩ | exact ⟨wk.heap.size, b5, A5, c5, ns, rfl, hsz, ((ET.setCell (p := ⟨wk.heap.size, 0, none⟩) hsz _).setCell (p := ⟨wk.heap.size, 1, none⟩) hsz _), (xnb.setA _).setB _, (fin_pair ET hsz xnb hr5).1, hc5, hm5, hi5, by omega⟩ | exact ⟨V.heap.size, b5, A5, c5, ns, rfl, hsz5, ((ET.setCell (p := ⟨V.heap.size, 0, none⟩) hsz5 _).setCell (p := ⟨V.heap.size, 1, none⟩) hsz5 _), (xnb.setA _).setB _, (fin_pair ET hsz5 xnb hr5).1, hc5, hm5, hi5, by omega⟩)
    case rest =>
      clear x0 x1 y0 y1 q0 q1
      obtain ⟨gr, b7, A7, c7, rr, rfl, hgr, EX, xr, hrr, hc7, hm7, hi7, hl7⟩ := hcut
      have EWX := EW.trans EX
      have xqX := xq.ext EX
      have xbX := xb.ext EX
      have xzX := xz.ext EX
      have xuX := xu.ext EX
      have hqqX := hrq.ext EX
      have hqsX := hqV.ext EX
      have hgqV := xq.lt
      have hgrX := xr.lt
      have hsz4 : w.heap.size + 4 ≤ gq := by omega
      have hgqr : gq < gr := by omega
      clear xq xb xz xu hrq hqV xa hpV EW EX extN
      have hdm := dm_abs hi1 hi2 hqpos Huv.out hiq
      obtain ⟨db, hfin⟩ := dm_fin hdm.1 hdm.2
      have Hfin := Lib.hid hfin
      clear hdm hfin
      have R0 := xr.cell 0 (.bool b7) rfl
      have R1 := xr.cell 1 (.slice A7 rr.length c7) rfl
      have y0 := xbX.cell 0 (.bool b2) rfl
      have y1 := xbX.cell 1 (.slice A2 qs.length c2) rfl
      go_wp2_with fail
      go_cut [46] (fun p X => p = .bool (negB (ival s xs - ival bq qq * ival t ys) (ival t ys)) ∧ Ext wc X)
      case first =>
        obtain ⟨SR, SB, hs1, hs2, hs3⟩ := dm_signs db (r := ival s xs - ival bq qq * ival t ys)
        rw [← hi7.eq] at hs1
        rw [← hi2.eq] at hs2
        rcases hs3 with ⟨rfl, rfl, hs3⟩ | ⟨rfl, rfl, hs3⟩ | ⟨rfl, rfl, hs3⟩ | ⟨rfl, rfl, hs3⟩ | ⟨rfl, rfl, hs3⟩ | ⟨rfl, rfl, hs3⟩
        all_goals
          have Hs1 := Lib.hid hs1
          have Hs2 := Lib.hid hs2
          have Hs3 := Lib.hid hs3
          clear hs1 hs2 hs3
          have ET := Ext.refl wc
          go_region_held3 (fun w' => w'.cell? ⟨gr, 0, none⟩ = some (.bool b7) ∧ w'.cell? ⟨gr, 1, none⟩ = some (.slice A7 rr.length c7) ∧ w'.cell? ⟨(w.heap.size + 1), 0, none⟩ = some (.bool b2) ∧ w'.cell? ⟨(w.heap.size + 1), 1, none⟩ = some (.slice A2 qs.length c2)) (first | exact ⟨(xr.ext ET).cell 0 _ rfl, (xr.ext ET).cell 1 _ rfl, (xbX.ext ET).cell 0 _ rfl, (xbX.ext ET).cell 1 _ rfl⟩ | exact ⟨(xr.ext ET.drew).cell 0 _ rfl, (xr.ext ET.drew).cell 1 _ rfl, (xbX.ext ET.drew).cell 0 _ rfl, (xbX.ext ET.drew).cell 1 _ rfl⟩ | exact ⟨(xr.ext (ET.alloc _)).cell 0 _ rfl, (xr.ext (ET.alloc _)).cell 1 _ rfl, (xbX.ext (ET.alloc _)).cell 0 _ rfl, (xbX.ext (ET.alloc _)).cell 1 _ rfl⟩ | exact ⟨(xr.ext (ET.drew.alloc _)).cell 0 _ rfl, (xr.ext (ET.drew.alloc _)).cell 1 _ rfl, (xbX.ext (ET.drew.alloc _)).cell 0 _ rfl, (xbX.ext (ET.drew.alloc _)).cell 1 _ rfl⟩)
            (first | (go_at_call_of 60 A7; refine (ref_Sign rfl (hrr.ext (by first | exact ET | exact ET.drew | exact ET.drewN _)) hc7 hm7 (by omega)).mono ?_; rintro e wk ⟨rfl, hxt⟩; rw [Hs1.out]; replace ET := (by first | exact ET.trans hxt | exact ET.drew.trans hxt : Ext wc _)) | (go_at_call_of 60 A2; refine (ref_Sign rfl (hqsX.ext (by first | exact ET | exact ET.drew | exact ET.drewN _)) hc2 hm2 (by omega)).mono ?_; rintro e wk ⟨rfl, hxt⟩; rw [Hs2.out]; replace ET := (by first | exact ET.trans hxt | exact ET.drew.trans hxt : Ext wc _)))
          go_wp2_with fail
          go_meet
          exact ⟨by rw [Hs3.out]; rfl, by first | exact ET | exact ET.drew | exact ET.drewN _⟩
      case rest =>
        clear R0 R1 y0 y1
        obtain ⟨rfl, EX⟩ := hcut
        have EWX := EWX.trans EX
        have xqX := xqX.ext EX
        have xr := xr.ext EX
        have xbX := xbX.ext EX
        have xzX := xzX.ext EX
        have xuX := xuX.ext EX
        have hqqX := hqqX.ext EX
        have hqsX := hqsX.ext EX
        have hrrX := hrr.ext EX
        have hqq2 : qq.length ≤ 30000 := by omega
        go_upto_if 46 with fail
        go_cut [] (fun X => ∃ b9 A9 c9 q9 b0 A0 c0 r9 Q R, Ext w X ∧ Box X gq 24 #[.bool b9, .slice A9 (List.length q9) c9] ∧ Box X gr 24 #[.bool b0, .slice A0 (List.length r9) c0] ∧ Box X (w.heap.size + 1 + 1) 24 #[.bool false, .slice none 0 0] ∧ Box X (w.heap.size + 1 + 1 + 1) 24 #[.bool false, .slice none 0 0] ∧ Rd X A9 q9 ∧ Rd X A0 r9 ∧ q9.length ≤ c9 ∧ c9 ≤ maxLen ∧ r9.length ≤ c0 ∧ c0 ≤ maxLen ∧ IsInt Q b9 q9 ∧ IsInt R b0 r9 ∧ IsDM (ival s xs) (ival t ys) Q R ∧ q9.length ≤ 60000 ∧ r9.length ≤ 60000)
        case first =>
          cases hng : negB (ival s xs - ival bq qq * ival t ys) (ival t ys) with
          | false =>
            have Hdm := Lib.hid (Hfin.out.2 hng)
            clear hng
            go_wp2_with fail
            go_meet
            exact ⟨bq, Aq, cq, qq, b7, A7, c7, rr, _, _, EWX, xqX, xr, xzX, xuX, hqqX, hrrX, hcq, hmq, hc7, hm7, ⟨hiq.w32, hiq.nrm, hiq.sgn, rfl⟩, hi7, Hdm.out, by omega, by omega⟩
          | true =>
            have Hdm := Lib.hid (Hfin.out.1 hng)
            clear hng
            have q0 := xqX.cell 0 (.bool bq) rfl
            have q1 := xqX.cell 1 (.slice Aq qq.length cq) rfl
            go_upto_region 8 with fail
            go_cut [] (fun X => ∃ b9 A9 c9 q9, Ext w X ∧ Box X gq 24 #[.bool b9, .slice A9 (List.length q9) c9] ∧ Box X gr 24 #[.bool b7, .slice A7 rr.length c7] ∧ Box X (w.heap.size + 1) 24 #[.bool b2, .slice A2 qs.length c2] ∧ Box X (w.heap.size + 1 + 1) 24 #[.bool false, .slice none 0 0] ∧ Box X (w.heap.size + 1 + 1 + 1) 24 #[.bool false, .slice none 0 0] ∧ Rd X A9 q9 ∧ Rd X A7 rr ∧ Rd X A2 qs ∧ q9.length ≤ c9 ∧ c9 ≤ maxLen ∧ IsInt (ival bq qq - 1) b9 q9 ∧ q9.length ≤ 40000)
            case first =>
              go_region_with (first | (go_at_call 44; refine (ref_FromInt 1 (by omega) (by omega)).mono ?_; rintro e wk ⟨b4, A4, c4, ms, rfl, hr4, hc4, hm4, hi4, hl4, hxt⟩; have ET := (by first | exact hxt | exact (Ext.refl wc).drew.trans hxt : Ext wc wk); have qk0 := (xqX.ext ET).cell 0 (.bool bq) rfl; have qk1 := (xqX.ext ET).cell 1 (.slice Aq qq.length cq) rfl) | (go_at_call 107; refine (ref_Sub rfl rfl (hqqX.ext ET) hr4 hcq hmq hc4 hm4 (by omega) (by omega)).mono ?_; rintro e wk2 ⟨b5, A5, c5, ns, rfl, hr5, hc5, hm5, hi5, hl5, hxt2⟩; have ET2 := ET.trans hxt2; have xq2 := xqX.ext ET2; have qq0 := xq2.cell 0 (.bool bq) rfl; have qq1 := xq2.cell 1 (.slice Aq qq.length cq) rfl; have qf0 := xq2.frozen 0; have qf1 := xq2.frozen 1))
              all_goals (go_wp2_with fail; go_meet; rw [hi4.eq] at hi5; exact ⟨b5, A5, c5, ns, ((EWX.trans ET2).setCell (p := ⟨gq, 0, none⟩) (by show w.heap.size ≤ gq; omega) _).setCell (p := ⟨gq, 1, none⟩) (by show w.heap.size ≤ gq; omega) _, (xq2.setA _).setB _, ((xr.ext ET2).far (far_ne (by omega)) _).far (far_ne (by omega)) _, ((xbX.ext ET2).far (far_ne (by omega)) _).far (far_ne (by omega)) _, ((xzX.ext ET2).far (far_ne (by omega)) _).far (far_ne (by omega)) _, ((xuX.ext ET2).far (far_ne (by omega)) _).far (far_ne (by omega)) _, (fin_pair (w := w) (EWX.trans ET2) (by omega) xq2 hr5).1, ((hrrX.ext ET2).setBox xq2 NoWord.two 0 _).setBox (xq2.setA _) NoWord.two 1 _, ((hqsX.ext ET2).setBox xq2 NoWord.two 0 _).setBox (xq2.setA _) NoWord.two 1 _, hc5, hm5, hi5, by omega⟩)
            case rest =>
              clear EWX xqX xr xbX xzX xuX hqqX hqsX hrrX q0 q1
              obtain ⟨b9, A9, c9, q9, EWX, xqX, xr, xbX, xzX, xuX, hq9, hrrX, hqsX, hc9, hm9, hi9, hl9⟩ := hcut
              have R0 := xr.cell 0 (.bool b7) rfl
              have R1 := xr.cell 1 (.slice A7 rr.length c7) rfl
              have y0 := xbX.cell 0 (.bool b2) rfl
              have y1 := xbX.cell 1 (.slice A2 qs.length c2) rfl
              go_wp2_with fail
              refine (ref_Add rfl rfl hrrX hqsX hc7 hm7 hc2 hm2 (by omega) (by omega)).mono ?_
              rintro e wk ⟨b0, A0, c0, r9, rfl, hr0, hc0, hm0, hi0, hl0, hxt⟩
              have xr2 := xr.ext hxt
              have R0 := xr2.cell 0 (.bool b7) rfl
              have R1 := xr2.cell 1 (.slice A7 rr.length c7) rfl
              have F0 := xr2.frozen 0
              have F1 := xr2.frozen 1
              go_wp2_with fail
              go_meet
              rw [hi7.eq, hi2.eq] at hi0
              exact ⟨b9, A9, c9, q9, b0, A0, c0, r9, _, _, ((EWX.trans hxt).setCell (p := ⟨gr, 0, none⟩) (by show w.heap.size ≤ gr; omega) _).setCell (p := ⟨gr, 1, none⟩) (by show w.heap.size ≤ gr; omega) _, ((xqX.ext hxt).far (far_ne (by omega)) _).far (far_ne (by omega)) _, (xr2.setA _).setB _, ((xzX.ext hxt).far (far_ne (by omega)) _).far (far_ne (by omega)) _, ((xuX.ext hxt).far (far_ne (by omega)) _).far (far_ne (by omega)) _, ((hq9.ext hxt).setBox xr2 NoWord.two 0 _).setBox (xr2.setA _) NoWord.two 1 _, (fin_pair (w := w) (EWX.trans hxt) (by omega) xr2 hr0).1, hc9, hm9, hc0, hm0, hi9, hi0, Hdm.out, by omega, by omega⟩
        case rest =>
          clear EWX xqX xr xbX xzX xuX hqqX hqsX hrrX
          obtain ⟨b9, A9, c9, q9, b0, A0, c0, r9, Q, R, EWX, xqX, xr, xzX, xuX, hq9, hr9, hc9, hm9, hc0, hm0, hi9, hi0, hdm, hl9, hl0⟩ := hcut
          have q0 := xqX.cell 0 (.bool b9) rfl
          have q1 := xqX.cell 1 (.slice A9 q9.length c9) rfl
          have R0 := xr.cell 0 (.bool b0) rfl
          have R1 := xr.cell 1 (.slice A0 r9.length c0) rfl
          have z0 := xzX.cell 0 (.bool false) rfl
          have z1 := xzX.cell 1 (.slice none 0 0) rfl
          have f0 := xzX.frozen 0
          have f1 := xzX.frozen 1
          have u0 := xuX.cell 0 (.bool false) rfl
          have u1 := xuX.cell 1 (.slice none 0 0) rfl
          have g0 := xuX.frozen 0
          have g1 := xuX.frozen 1
          have Hdm := Lib.hid hdm
          clear hdm
          go_upto_region 10 with fail
          go_region
          all_goals
            go_wp2_with fail
            obtain ⟨W', hW', r1, r2, r3, r4, r5, r6, r7⟩ := fin_two (b := b9) (A := A9) (n := q9.length) (c := c9) (b' := b0) (A' := A0) (n' := r9.length) (c' := c0) (by first | exact EWX | exact EWX.drew | exact EWX.drewN _) (show w.heap.size ≤ w.heap.size + 1 + 1 by omega) (show w.heap.size ≤ w.heap.size + 1 + 1 + 1 by omega) (by omega) (by first | exact xzX | exact xzX.ext ((Ext.refl _).drew) | exact xzX.ext ((Ext.refl _).drewN _)) (by first | exact xuX | exact xuX.ext ((Ext.refl _).drew) | exact xuX.ext ((Ext.refl _).drewN _)) (by first | exact hq9 | exact hq9.ext ((Ext.refl _).drew) | exact hq9.ext ((Ext.refl _).drewN _)) (by first | exact hr9 | exact hr9.ext ((Ext.refl _).drew) | exact hr9.ext ((Ext.refl _).drewN _)) _ _ _ _ rfl rfl rfl rfl
            rw [← hW']
            exact bodyPost_ret (v := .tuple #[.agg #[.bool b9, .slice A9 q9.length c9], .agg #[.bool b0, .slice A0 r9.length c0], .int .i64 0]) (by simp [results, Tryz.results95, go_sem, r4, r5, r6, r7]) rfl ⟨b9, A9, c9, q9, b0, A0, c0, r9, Q, R, rfl, r1, r2, hc9, hm9, hc0, hm0, hi9, hi0, Hdm.out, hl9, hl0, by first | exact r3 | exact r3.drew | exact r3.drewN _⟩
end
end Go.Proofs.YtiioodgpkdbndaaGreatDoor
namespace Go.Proofs.YtiioodgpkdbndaaGreatDoor
open Go.RowKit
section
variable {w w' : World} {z y : Int} {L L' M : Nat} {s t : Bool} {A B : Option Addr} {n c m d : Nat}
theorem NI.neg (h : NI w z L s A n c) : s = decide (z < 0) := by
  obtain ⟨_, _, _, _, _, h5, _⟩ := h.out
  exact h5.neg
theorem q_Neg (h : NI w z L s A n c) (hL : L ≤ 100000) : Calls Tryz.prog 61 #[.agg #[.bool s, .slice A n c]] w (RetNI (-z) L w) := by
  obtain ⟨xs, hn, hx, hc, hcm, hi, hl⟩ := h.out
  refine (ref_Neg hn hx hc hcm (by omega)).mono fun e w' hr => ?_
  rw [hi.eq] at hr
  exact hr.ni (by omega)
theorem q_Add (h : NI w z L s A n c) (k : NI w y M t B m d) (hL : L ≤ 50000) (hM : M ≤ 50000) : Calls Tryz.prog 73 #[.agg #[.bool s, .slice A n c], .agg #[.bool t, .slice B m d]] w (RetNI (z + y) (max L M + 1) w) := by
  obtain ⟨xs, hn, hx, hc, hcm, hi, hl⟩ := h.out
  obtain ⟨ys, hm, hy, hd, hdm, hj, hk⟩ := k.out
  refine (ref_Add hn hm hx hy hc hcm hd hdm (by omega) (by omega)).mono fun e w' hr => ?_
  rw [hi.eq, hj.eq] at hr
  exact hr.ni (by omega)
theorem q_Mul (h : NI w z L s A n c) (k : NI w y M t B m d) (hL : L ≤ 50000) (hM : M ≤ 50000) : Calls Tryz.prog 74 #[.agg #[.bool s, .slice A n c], .agg #[.bool t, .slice B m d]] w (RetNI (z * y) (L + M) w) := by
  obtain ⟨xs, hn, hx, hc, hcm, hi, hl⟩ := h.out
  obtain ⟨ys, hm, hy, hd, hdm, hj, hk⟩ := k.out
  refine (ref_Mul hn hm hx hy hc hcm hd hdm (by omega) (by omega)).mono fun e w' hr => ?_
  rw [hi.eq, hj.eq] at hr
  exact hr.ni (by omega)
theorem q_FromInt (k : Int) (h0 : -9223372036854775808 ≤ k) (h1 : k < 9223372036854775808) : Calls Tryz.prog 44 #[.int .i64 k] w (RetNI k 2 w) :=
  (ref_FromInt k h0 h1).mono fun _ _ h => h.ni (Nat.le_refl _)
theorem q_DivMod (h : NI w z L s A n c) (k : NI w y M t B m d) (hL : L ≤ 9000) (hM : M ≤ 9000) (h0 : y ≠ 0) : Calls Tryz.prog 95 #[.agg #[.bool s, .slice A n c], .agg #[.bool t, .slice B m d]] w (RetND z y 60000 M w) := by
  obtain ⟨xs, hn, hx, hc, hcm, hi, hl⟩ := h.out
  obtain ⟨ys, hm, hy, hd, hdm, hj, hk⟩ := k.out
  refine (ref_DivMod_nz hn hm hx hy hc hcm hd hdm (by omega) (by omega) (by rw [hj.abs]; omega)).mono ?_
  rintro e w' ⟨b3, A3, c3, qs, b4, A4, c4, rs, q, r, rfl, hr3, hr4, hc3, hm3, hc4, hm4, hi3, hi4, hdm, hl3, hl4, hxt⟩
  rw [hi.eq, hj.eq] at hdm
  have hr : NI w' r 60000 b4 A4 rs.length c4 := ⟨rs, rfl, hr4, hc4, hm4, hi4, hl4⟩
  exact ⟨b3, A3, qs.length, c3, b4, A4, rs.length, c4, q, r, rfl, ⟨qs, rfl, hr3, hc3, hm3, hi3, hl3⟩, hr.tight k (dm_q_le hdm h0).2.1, hdm, hxt⟩
end
end Go.Proofs.YtiioodgpkdbndaaGreatDoor
namespace Go.Proofs.YtiioodgpkdbndaaGreatDoor
open Go.RowKit
attribute [local go_sem ↓] Go.wp_at_zero Go.wp_at_succ
section
variable {w w' : World} {z y : Int} {q p : Rat} {L M : Nat} {s t s' t' : Bool} {A B A' B' : Option Addr} {n c m d n' c' m' d' : Nat}
set_option maxHeartbeats 1000000 in
theorem p_times {a b a' b' : Int} (h : Sm q a b) (k : Sm p a' b') : Calls Tryz.prog 75 #[.agg #[.int .i64 a, .int .i64 b], .agg #[.int .i64 a', .int .i64 b']] w (RetNR (q * p) 2 w) := by
  obtain ⟨h1, h2, h3, h4⟩ := h
  obtain ⟨k1, k2, k3, k4⟩ := k
  have hb0 : 0 < b := by have := q.den_pos; omega
  have hb0' : 0 < b' := by have := p.den_pos; omega
  have m1 := mul31 h3 k4
  have m2 := mul31 k3 h4
  have m3 := mul31 h4 k4
  have m4 := mul31 h3 k3
  have hpos : 0 < b * b' := Int.mul_pos hb0 hb0'
  have hval : mkRat (a * a') (b * b').natAbs = q * p := by
    rw [Rat.mul_def', Int.natAbs_mul, h1, h2, k1, k2, Int.natAbs_natCast, Int.natAbs_natCast]
  have Hval := Lib.hid hval
  clear hval h1 h2 k1 k2
  obtain ⟨u1, hu1⟩ : ∃ u, a * b' = u := ⟨_, rfl⟩
  obtain ⟨u2, hu2⟩ : ∃ u, a' * b = u := ⟨_, rfl⟩
  obtain ⟨u3, hu3⟩ : ∃ u, b * b' = u := ⟨_, rfl⟩
  obtain ⟨u4, hu4⟩ : ∃ u, a * a' = u := ⟨_, rfl⟩
  rw [hu1] at m1
  rw [hu2] at m2
  rw [hu3] at m3 hpos
  rw [hu4] at m4
  have Hu1 := Lib.hid hu1
  have Hu2 := Lib.hid hu2
  have Hu3 := Lib.hid hu3
  have Hu4 := Lib.hid hu4
  have w1 : IntKind.i64.wrap u1 = u1 := IntWalk.i64_in _ (by omega)
  have w2 : IntKind.i64.wrap u2 = u2 := IntWalk.i64_in _ (by omega)
  have w3 : IntKind.i64.wrap u3 = u3 := IntWalk.i64_in _ (by omega)
  have w4 : IntKind.i64.wrap u4 = u4 := IntWalk.i64_in _ (by omega)
  have v1 : wrap64 u1 = u1 := IntWalk.wrap64_in _ (by omega)
  have v2 : wrap64 u2 = u2 := IntWalk.wrap64_in _ (by omega)
  have v3 : wrap64 u3 = u3 := IntWalk.wrap64_in _ (by omega)
  have v4 : wrap64 u4 = u4 := IntWalk.wrap64_in _ (by omega)
  have w5 : IntKind.i64.wrap (u1 + u2) = u1 + u2 := IntWalk.i64_in _ (by omega)
  have v5 : wrap64 (u1 + u2) = u1 + u2 := IntWalk.wrap64_in _ (by omega)
  go_enter Tryz.func75, Tryz.ntmps75
  go_upto_region 1 with (fail)
  obtain ⟨W, hW, extW, bx, by_, bz, hz⟩ := box3 w 63 63 27 #[.int .i64 a, .int .i64 b] #[.int .i64 a', .int .i64 b'] #[Value.bool false, Value.slice none 0 0, Value.bool false, Value.slice none 0 0]
  rw [← hW]
  clear hW
  have x0 := bx.cell 0 (.int .i64 a) rfl
  have x1 := bx.cell 1 (.int .i64 b) rfl
  have y0 := by_.cell 0 (.int .i64 a') rfl
  have y1 := by_.cell 1 (.int .i64 b') rfl
  go_wp2_with fail
  refine (p_lowest _ _ hpos (by omega) (by omega)).mono ?_
  rintro e wa ⟨s, A, n, c, t, B, m, d, rfl, hr, hxa⟩
  rw [← Hu3.out] at hr
  have z0 := (bz.ext hxa).cell 0 _ rfl
  have z1 := (bz.ext hxa).cell 1 _ rfl
  have z2 := (bz.ext hxa).cell 2 _ rfl
  have z3 := (bz.ext hxa).cell 3 _ rfl
  have f0 := (bz.ext hxa).frozen 0
  have f1 := (bz.ext hxa).frozen 1
  have f2 := (bz.ext hxa).frozen 2
  have f3 := (bz.ext hxa).frozen 3
  go_wp2_with fail
  rw [← Hu4.out, Hval.out] at hr
  obtain ⟨b1, b2, b3, b4⟩ := fin_quad (s := s) (A := A) (n := n) (c := c) (t := t) (B := B) (m := m) (d := d) (bz.ext hxa)
  have r0 := b1.cell 0 (.bool s) rfl
  have r1 := b1.cell 1 (.slice A n c) rfl
  have r2 := b1.cell 2 (.bool t) rfl
  have r3 := b1.cell 3 (.slice B m d) rfl
  unfold set4 at r0 r1 r2 r3
  refine bodyPost_ret (v := .agg #[.bool s, .slice A n c, .bool t, .slice B m d]) (by simp [results, Tryz.results75, go_sem, r0, r1, r2, r3]) rfl ⟨s, A, n, c, t, B, m, d, rfl, ⟨?_, ?_⟩, b3 _ (extW.trans hxa) (by omega)⟩
  · exact b2 _ _ _ _ _ _ hr.num
  · exact b2 _ _ _ _ _ _ hr.den
end
end Go.Proofs.YtiioodgpkdbndaaGreatDoor
namespace Go.Proofs.YtiioodgpkdbndaaGreatDoor
open Go.RowKit
attribute [local go_sem ↓] Go.wp_at_zero Go.wp_at_succ
section
variable {w w' : World} {z y : Int} {q p : Rat} {L M : Nat} {s t s' t' : Bool} {A B A' B' : Option Addr} {n c m d n' c' m' d' : Nat}
set_option maxHeartbeats 2000000 in
theorem p_SubR (h : NR w q L s A n c t B m d) (k : NR w p M s' A' n' c' t' B' m' d') (hL : L ≤ 1000) (hM : M ≤ 1000) (h64 : min L M < 64) (hT : Tab w) : Calls Tryz.prog 30 #[.agg #[.bool s, .slice A n c, .bool t, .slice B m d], .agg #[.bool s', .slice A' n' c', .bool t', .slice B' m' d']] w (RetNR (q - p) (L + M + 1) w) := by
  go_enter Tryz.func30, Tryz.ntmps30
  go_upto_region 1 with (fail)
  obtain ⟨W, hW, extW, bx, by_, bz, hz⟩ := box3 w 27 27 27 #[.bool s, .slice A n c, .bool t, .slice B m d] #[.bool s', .slice A' n' c', .bool t', .slice B' m' d'] #[Value.bool false, Value.slice none 0 0, Value.bool false, Value.slice none 0 0]
  rw [← hW]
  clear hW
  refine wpL.start 4 (by kernel_rfl) (fun _ _ _ _ _ => ⟨fun h => h, fun h => h⟩) (fun hQ ES => ?_)
  refine wpL.take (i := 0) (d := some 5) (v := ?v0_29) rfl rfl (by kernel_rfl) (by kernel_rfl) (by kernel_rfl) (by kernel_rfl) hQ (Or.inl ⟨by rfl, ?y0_29⟩) ES ?r0_29
  case y0_29 =>
    intro w' hSw
    have k00 := (bx.ext hSw).c4
    have k10 := (by_.ext hSw).c4
    go_simp
    try with_reducible rfl
  try simp only [Act.put]
  try simp only [List.setIfInBounds_toArray]
  try simp only [List.set_cons_succ]
  try simp only [List.set_cons_zero]
  refine wpL.take (i := 1) (d := some 6) (v := ?v1_30) rfl rfl (by kernel_rfl) (by kernel_rfl) (by kernel_rfl) (by kernel_rfl) hQ (Or.inl ⟨by rfl, ?y1_30⟩) ES ?r1_30
  case y1_30 =>
    intro w' hSw
    have k00 := (bx.ext hSw).c4
    have k10 := (by_.ext hSw).c4
    go_simp
    try with_reducible rfl
  try simp only [Act.put]
  try simp only [List.setIfInBounds_toArray]
  try simp only [List.set_cons_succ]
  try simp only [List.set_cons_zero]
  refine wpL.call (i := 2) rfl (by kernel_rfl) (fun K hK => ?_)
  go_simp
  (go_at_call 32; refine (p_NegR (k.ext (extW.trans ES)) (by omega)).mono ?_; rintro e wa ⟨s1, A1, n1, c1, t1, B1, m1, d1, rfl, h1, hx0⟩; have E0_1 := Ext.trans ES hx0)
  refine hK.out _ _ E0_1 ?_
  clear hK K
  try simp only [Act.put]
  try simp only [List.setIfInBounds_toArray]
  try simp only [List.set_cons_succ]
  try simp only [List.set_cons_zero]
  refine wpL.call (i := 3) rfl (by kernel_rfl) (fun K hK => ?_)
  go_simp
  (go_at_call 28; refine (p_AddR (h.ext (extW.trans E0_1)) h1 hL hM h64 (hT.ext (extW.trans E0_1))).mono ?_; rintro e wb ⟨s2, A2, n2, c2, t2, B2, m2, d2, rfl, hr, hx1⟩; have E1_1 := Ext.trans E0_1 hx1)
  refine hK.out _ _ E1_1 ?_
  clear hK K
  try simp only [Act.put]
  try simp only [List.setIfInBounds_toArray]
  try simp only [List.set_cons_succ]
  try simp only [List.set_cons_zero]
  have z0 := (bz.ext E1_1).cell 0 _ rfl
  have z1 := (bz.ext E1_1).cell 1 _ rfl
  have z2 := (bz.ext E1_1).cell 2 _ rfl
  have z3 := (bz.ext E1_1).cell 3 _ rfl
  have f0 := (bz.ext E1_1).frozen 0
  have f1 := (bz.ext E1_1).frozen 1
  have f2 := (bz.ext E1_1).frozen 2
  have f3 := (bz.ext E1_1).frozen 3
  refine wpL.tail (i := 4) rfl (by kernel_rfl) (by kernel_rfl) (fun K hK => ?_)
  go_simp
  refine hK.out _ _ ?_
  clear hK K
  try simp only [Act.put]
  try simp only [List.setIfInBounds_toArray]
  try simp only [List.set_cons_succ]
  try simp only [List.set_cons_zero]
  refine wpL.done (by kernel_rfl) ?_ _
  clear hQ
  go_wp2_with fail
  rw [← Rat.sub_eq_add_neg] at hr
  obtain ⟨b1, b2, b3, b4⟩ := fin_quad (s := s2) (A := A2) (n := n2) (c := c2) (t := t2) (B := B2) (m := m2) (d := d2) (bz.ext E1_1)
  have r0 := b1.cell 0 (.bool s2) rfl
  have r1 := b1.cell 1 (.slice A2 n2 c2) rfl
  have r2 := b1.cell 2 (.bool t2) rfl
  have r3 := b1.cell 3 (.slice B2 m2 d2) rfl
  unfold set4 at r0 r1 r2 r3
  refine bodyPost_ret (v := .agg #[.bool s2, .slice A2 n2 c2, .bool t2, .slice B2 m2 d2]) (by simp [results, Tryz.results30, go_sem, r0, r1, r2, r3]) rfl ⟨s2, A2, n2, c2, t2, B2, m2, d2, rfl, ⟨?_, ?_⟩, b3 _ (extW.trans E1_1) (by omega)⟩
  · exact b2 _ _ _ _ _ _ hr.num
  · exact b2 _ _ _ _ _ _ hr.den
set_option maxHeartbeats 16000000 in
set_option maxRecDepth 100000 in
theorem p_MulR (h : NR w q L s A n c t B m d) (k : NR w p M s' A' n' c' t' B' m' d') (hL : L ≤ 1000) (hM : M ≤ 1000) (h64 : min L M < 64) (hT : Tab w) : Calls Tryz.prog 34 #[.agg #[.bool s, .slice A n c, .bool t, .slice B m d], .agg #[.bool s', .slice A' n' c', .bool t', .slice B' m' d']] w (RetNR (q * p) (L + M) w) := by
  have hL1 := h.pos
  have hM1 := k.pos
  go_enter Tryz.func34, Tryz.ntmps34
  go_upto_region 1 with (fail)
  obtain ⟨W, hW, extW, bx, by_, bz, hz⟩ := box3 w 27 27 27 #[.bool s, .slice A n c, .bool t, .slice B m d] #[.bool s', .slice A' n' c', .bool t', .slice B' m' d'] #[Value.bool false, Value.slice none 0 0, Value.bool false, Value.slice none 0 0]
  rw [← hW]
  clear hW
  replace h := h.ext extW
  replace k := k.ext extW
  have x0 := bx.cell 0 (.bool s) rfl
  have x1 := bx.cell 1 (.slice A n c) rfl
  have x2 := bx.cell 2 (.bool t) rfl
  have x3 := bx.cell 3 (.slice B m d) rfl
  have y0 := by_.cell 0 (.bool s') rfl
  have y1 := by_.cell 1 (.slice A' n' c') rfl
  have y2 := by_.cell 2 (.bool t') rfl
  have y3 := by_.cell 3 (.slice B' m' d') rfl
  go_wp2_with fail
  refine (p_smallPair h k (by omega) (by omega)).mono ?_
  rintro e wa ⟨a1, a2, c1, c2, ok, rfl, hok, hxa⟩
  have Hok := Lib.hid hok
  clear hok
  clear x0 x1 x2 x3
  clear y0 y1 y2 y3
  go_upto_region 2 with (fail)
  refine at_world (fun V => Ext W V ∧ Box V wa.heap.size 63 #[.int .i64 a1, .int .i64 a2] ∧ Box V (wa.heap.size + 1) 63 #[.int .i64 c1, .int .i64 c2]) ?_ ?_
  · obtain ⟨e1, e2, e3⟩ := two_new wa 63 #[.int .i64 a1, .int .i64 a2] #[.int .i64 c1, .int .i64 c2]
    exact ⟨hxa.trans e1, e2, e3⟩
  generalize wa.heap.size = g5
  clear hxa
  rintro V ⟨EV, b5, b6⟩
  replace bx := bx.ext EV
  replace by_ := by_.ext EV
  replace bz := bz.ext EV
  replace h := h.ext EV
  replace k := k.ext EV
  replace extW := extW.trans EV
  clear EV
  cases ok with
  | true =>
    obtain ⟨sm1, sm2⟩ := Hok.out (by first | rfl | trivial)
    have j0 := b5.cell 0 (.int .i64 a1) rfl
    have j1 := b5.cell 1 (.int .i64 a2) rfl
    have j2 := b6.cell 0 (.int .i64 c1) rfl
    have j3 := b6.cell 1 (.int .i64 c2) rfl
    go_wp2_with fail
    refine (p_times sm1 sm2).mono ?_
    rintro e wb ⟨s1, A1, n1, c1', t1, B1, m1, d1, rfl, hr, hxb⟩
    have z0 := (bz.ext hxb).cell 0 _ rfl
    have z1 := (bz.ext hxb).cell 1 _ rfl
    have z2 := (bz.ext hxb).cell 2 _ rfl
    have z3 := (bz.ext hxb).cell 3 _ rfl
    have f0 := (bz.ext hxb).frozen 0
    have f1 := (bz.ext hxb).frozen 1
    have f2 := (bz.ext hxb).frozen 2
    have f3 := (bz.ext hxb).frozen 3
    go_wp2_with fail
    obtain ⟨b1, b2, b3, b4⟩ := fin_quad (s := s1) (A := A1) (n := n1) (c := c1') (t := t1) (B := B1) (m := m1) (d := d1) (bz.ext hxb)
    have r0 := b1.cell 0 (.bool s1) rfl
    have r1 := b1.cell 1 (.slice A1 n1 c1') rfl
    have r2 := b1.cell 2 (.bool t1) rfl
    have r3 := b1.cell 3 (.slice B1 m1 d1) rfl
    unfold set4 at r0 r1 r2 r3
    refine bodyPost_ret (v := .agg #[.bool s1, .slice A1 n1 c1', .bool t1, .slice B1 m1 d1]) (by simp [results, Tryz.results34, go_sem, r0, r1, r2, r3]) rfl ⟨s1, A1, n1, c1', t1, B1, m1, d1, rfl, ⟨?_, ?_⟩, b3 _ (extW.trans hxb) (by omega)⟩
    · exact (b2 _ _ _ _ _ _ hr.num).le (by omega)
    · exact (b2 _ _ _ _ _ _ hr.den).le (by omega)
  | false =>
    go_wp2_with fail
    have ES0 := Ext.refl V
    refine wp_region_held_drew (S := Ext V) (by kernel_rfl) ES0.drew (fun ES => ?_)
    clear ES0
    refine Late.start2 (x := ⟨10, 8, 24, #[Value.bool false, Value.slice none 0 0]⟩) (y := ⟨11, 9, 24, #[Value.bool false, Value.slice none 0 0]⟩) (n := 12) ⟨_, rfl, rfl, rfl, fun a w => by go_simp⟩ ⟨_, rfl, rfl, rfl, fun a w => by go_simp⟩ (fun _ _ _ _ _ => ⟨fun h => h, fun h => h⟩) ES rfl (fun hAl hQ => ?_)
    refine Late.take (i := 0) (d := some 21) (v := ?v0_31) rfl rfl (by kernel_rfl) (by kernel_rfl) (by kernel_rfl) (by kernel_rfl) hQ (Or.inl ⟨by rfl, ?y0_31⟩) ?r0_31
    case y0_31 =>
      intro w' hSw
      have k00 := (bx.ext hSw).c4
      have k10 := (by_.ext hSw).c4
      go_simp
      try with_reducible rfl
    try simp only [Act.put]
    try simp only [List.setIfInBounds_toArray]
    try simp only [List.set_cons_succ]
    try simp only [List.set_cons_zero]
    refine Late.take (i := 2) (d := some 23) (v := ?v2_32) rfl rfl (by kernel_rfl) (by kernel_rfl) (by kernel_rfl) (by kernel_rfl) hQ (Or.inl ⟨by rfl, ?y2_32⟩) ?r2_32
    case y2_32 =>
      intro w' hSw
      have k00 := (bx.ext hSw).c4
      have k10 := (by_.ext hSw).c4
      go_simp
      try with_reducible rfl
    try simp only [Act.put]
    try simp only [List.setIfInBounds_toArray]
    try simp only [List.set_cons_succ]
    try simp only [List.set_cons_zero]
    refine Late.take (i := 5) (d := some 26) (v := ?v5_33) rfl rfl (by kernel_rfl) (by kernel_rfl) (by kernel_rfl) (by kernel_rfl) hQ (Or.inl ⟨by rfl, ?y5_33⟩) ?r5_33
    case y5_33 =>
      intro w' hSw
      have k00 := (bx.ext hSw).c4
      have k10 := (by_.ext hSw).c4
      go_simp
      try with_reducible rfl
    try simp only [Act.put]
    try simp only [List.setIfInBounds_toArray]
    try simp only [List.set_cons_succ]
    try simp only [List.set_cons_zero]
    refine Late.take (i := 7) (d := some 28) (v := ?v7_34) rfl rfl (by kernel_rfl) (by kernel_rfl) (by kernel_rfl) (by kernel_rfl) hQ (Or.inl ⟨by rfl, ?y7_34⟩) ?r7_34
    case y7_34 =>
      intro w' hSw
      have k00 := (bx.ext hSw).c4
      have k10 := (by_.ext hSw).c4
      go_simp
      try with_reducible rfl
    try simp only [Act.put]
    try simp only [List.setIfInBounds_toArray]
    try simp only [List.set_cons_succ]
    try simp only [List.set_cons_zero]
    refine Late.take (i := 1) (d := some 22) (v := ?v1_35) rfl rfl (by kernel_rfl) (by kernel_rfl) (by kernel_rfl) (by kernel_rfl) hQ (Or.inl ⟨by rfl, ?y1_35⟩) ?r1_35
    case y1_35 =>
      intro w' hSw
      have k00 := (bx.ext hSw).c4
      have k10 := (by_.ext hSw).c4
      go_simp
      try with_reducible rfl
    try simp only [Act.put]
    try simp only [List.setIfInBounds_toArray]
    try simp only [List.set_cons_succ]
    try simp only [List.set_cons_zero]
    refine Late.take (i := 3) (d := some 24) (v := ?v3_36) rfl rfl (by kernel_rfl) (by kernel_rfl) (by kernel_rfl) (by kernel_rfl) hQ (Or.inl ⟨by rfl, ?y3_36⟩) ?r3_36
    case y3_36 =>
      intro w' hSw
      have k00 := (bx.ext hSw).c4
      have k10 := (by_.ext hSw).c4
      go_simp
      try with_reducible rfl
    try simp only [Act.put]
    try simp only [List.setIfInBounds_toArray]
    try simp only [List.set_cons_succ]
    try simp only [List.set_cons_zero]
    refine Late.take (i := 6) (d := some 27) (v := ?v6_37) rfl rfl (by kernel_rfl) (by kernel_rfl) (by kernel_rfl) (by kernel_rfl) hQ (Or.inl ⟨by rfl, ?y6_37⟩) ?r6_37
    case y6_37 =>
      intro w' hSw
      have k00 := (bx.ext hSw).c4
      have k10 := (by_.ext hSw).c4
      go_simp
      try with_reducible rfl
    try simp only [Act.put]
    try simp only [List.setIfInBounds_toArray]
    try simp only [List.set_cons_succ]
    try simp only [List.set_cons_zero]
    refine Late.take (i := 8) (d := some 29) (v := ?v8_38) rfl rfl (by kernel_rfl) (by kernel_rfl) (by kernel_rfl) (by kernel_rfl) hQ (Or.inl ⟨by rfl, ?y8_38⟩) ?r8_38
    case y8_38 =>
      intro w' hSw
      have k00 := (bx.ext hSw).c4
      have k10 := (by_.ext hSw).c4
      go_simp
      try with_reducible rfl
    try simp only [Act.put]
    try simp only [List.setIfInBounds_toArray]
    try simp only [List.set_cons_succ]
    try simp only [List.set_cons_zero]
    refine Late.call (i := 4) rfl (by kernel_rfl) hAl (by kernel_rfl) (by kernel_rfl) (by kernel_rfl) hQ (fun w4 e4 E4 K hK => ?_)
    go_simp
    (go_at_call 56; refine (p_GCD (h.num.ext E4) (k.den.ext E4) (by omega) (by omega) (hT.ext (extW.trans E4))).mono ?_; rintro e wk1 ⟨s1, A1, n1, c1', rfl, h1, hx4⟩; rw [Int.natAbs_natCast] at h1)
    refine hK.out _ _ hx4 ?_
    clear hK K
    try simp only [Act.put]
    try simp only [List.setIfInBounds_toArray]
    try simp only [List.set_cons_succ]
    try simp only [List.set_cons_zero]
    refine Late.call (i := 9) rfl (by kernel_rfl) hAl (by kernel_rfl) (by kernel_rfl) (by kernel_rfl) hQ (fun w9 e9 E9 K hK => ?_)
    go_simp
    (go_at_call 56; refine (p_GCD (k.num.ext E9) (h.den.ext E9) (by omega) (by omega) (hT.ext (extW.trans E9))).mono ?_; rintro e wk2 ⟨s2, A2, n2, c2', rfl, h2, hx9⟩; rw [Int.natAbs_natCast] at h2)
    refine hK.out _ _ hx9 ?_
    clear hK K
    try simp only [Act.put]
    try simp only [List.setIfInBounds_toArray]
    try simp only [List.set_cons_succ]
    try simp only [List.set_cons_zero]
    refine Late.finish2 (hAl _ (by simp)) (hAl _ (by simp)) (by decide) (by decide) (by kernel_rfl) (by kernel_rfl) (by kernel_rfl) (fun wz g5 g6 ez Ez lg5 lg6 hne xb1 xb2 => ?_)
    clear hAl hQ ES
    have p10 := xb1.cell 0 (Value.bool false) rfl
    have p11 := xb1.cell 1 (Value.slice none 0 0) rfl
    have f10 := xb1.frozen 0
    have f11 := xb1.frozen 1
    have e4 := fin_dual (s := s1) (A := A1) (n := n1) (c := c1') xb1
    try simp only [Act.put]
    try simp only [List.setIfInBounds_toArray]
    try simp only [List.set_cons_succ]
    try simp only [List.set_cons_zero]
    refine wpAnyH_ready (rs := [12]) (by kernel_rfl) (by simp) (AllReadyH.cons rfl (fun K hK => ?_) AllReadyH.nil)
    go_simp
    refine hK.out _ _ (e4.2.2.1 _ Ez lg5) (fun _ => ?_)
    clear hK K
    try simp only [Act.put]
    try simp only [List.setIfInBounds_toArray]
    try simp only [List.set_cons_succ]
    try simp only [List.set_cons_zero]
    have e5 := e4.2.2.2 _ _ _ (Ne.symm hne) xb2
    refine any_world (fun U => Ext V U ∧ Box U g5 24 #[.bool s1, .slice A1 n1 c1'] ∧ Box U g6 24 #[Value.bool false, Value.slice none 0 0] ∧ NI U ((q.num.natAbs.gcd p.den : Nat) : Int) (max L M) s1 A1 n1 c1' ∧ NI U ((p.num.natAbs.gcd q.den : Nat) : Int) (max M L) s2 A2 n2 c2') ⟨e4.2.2.1 _ Ez lg5, e4.1, e5, e4.2.1 _ _ _ _ _ _ (h1.ext (e9.trans (hx9.trans ez))), e4.2.1 _ _ _ _ _ _ (h2.ext ez)⟩ ?_
    clear e4 e5 p10 p11 f10 f11 xb1 xb2
    rintro U ⟨EU, b8, xb2, h1, h2⟩
    have p10 := xb2.cell 0 (Value.bool false) rfl
    have p11 := xb2.cell 1 (Value.slice none 0 0) rfl
    have f10 := xb2.frozen 0
    have f11 := xb2.frozen 1
    have e4 := fin_dual (s := s2) (A := A2) (n := n2) (c := c2') xb2
    refine wpAnyH_ready (rs := [13]) (by kernel_rfl) (by simp) (AllReadyH.cons rfl (fun K hK => ?_) AllReadyH.nil)
    go_simp
    refine hK.out _ _ (e4.2.2.1 _ EU lg6) (fun _ => ?_)
    clear hK K
    try simp only [Act.put]
    try simp only [List.setIfInBounds_toArray]
    try simp only [List.set_cons_succ]
    try simp only [List.set_cons_zero]
    refine any_world (fun U2 => Ext V U2 ∧ Box U2 g5 24 #[.bool s1, .slice A1 n1 c1'] ∧ Box U2 g6 24 #[.bool s2, .slice A2 n2 c2'] ∧ NI U2 ((q.num.natAbs.gcd p.den : Nat) : Int) (max L M) s1 A1 n1 c1' ∧ NI U2 ((p.num.natAbs.gcd q.den : Nat) : Int) (max M L) s2 A2 n2 c2') ⟨e4.2.2.1 _ EU lg6, e4.2.2.2 _ _ _ hne b8, e4.1, e4.2.1 _ _ _ _ _ _ h1, e4.2.1 _ _ _ _ _ _ h2⟩ ?_
    clear e4 p10 p11 f10 f11 xb2 b8 h1 h2 lg5 lg6
    rintro U2 ⟨EU2, b8, b9, h1, h2⟩
    refine wpAnyH_done (by kernel_rfl) ?_ _
    replace bx := bx.ext EU2
    replace by_ := by_.ext EU2
    replace bz := bz.ext EU2
    replace h := h.ext EU2
    replace k := k.ext EU2
    replace extW := extW.trans EU2
    clear EU EU2 Ez ez
    obtain ⟨g, hge⟩ : ∃ g, q.num.natAbs.gcd p.den = g := ⟨_, rfl⟩
    obtain ⟨hq, hhe⟩ : ∃ g, p.num.natAbs.gcd q.den = g := ⟨_, rfl⟩
    rw [hge] at h1
    rw [hhe] at h2
    obtain ⟨q1, q2⟩ := rat_mul q p hge.symm hhe.symm
    have Hq1 := Lib.hid q1
    have Hq2 := Lib.hid q2
    have hgq : g ∣ q.num.natAbs := by rw [← hge]; exact Nat.gcd_dvd_left _ _
    have hgp : g ∣ p.den := by rw [← hge]; exact Nat.gcd_dvd_right _ _
    have hhp : hq ∣ p.num.natAbs := by rw [← hhe]; exact Nat.gcd_dvd_left _ _
    have hhq : hq ∣ q.den := by rw [← hhe]; exact Nat.gcd_dvd_right _ _
    have hg0 : (g : Int) ≠ 0 := by
      intro h0
      have : g = 0 := by omega
      rw [this] at hgp
      exact p.den_nz (Nat.eq_zero_of_zero_dvd hgp)
    have hh0 : (hq : Int) ≠ 0 := by
      intro h0
      have : hq = 0 := by omega
      rw [this] at hhq
      exact q.den_nz (Nat.eq_zero_of_zero_dvd hhq)
    have Hg0 := Lib.hid hg0
    have Hh0 := Lib.hid hh0
    have Hgq := Lib.hid (Int.ofNat_dvd_left.2 hgq)
    have Hgp := Lib.hid (Int.ofNat_dvd.2 hgp)
    have Hhp := Lib.hid (Int.ofNat_dvd_left.2 hhp)
    have Hhq := Lib.hid (Int.ofNat_dvd.2 hhq)
    have hg := h1
    have hh := h2
    clear hge hhe q1 q2 hgq hgp hhp hhq hg0 hh0 h1 h2
    go_wp2_with fail
    refine wpL.start 19 (by kernel_rfl) (fun _ _ _ _ _ => ⟨fun h => h, fun h => h⟩) (fun hQ ES => ?_)
    refine wpL.take (i := 0) (d := some 31) (v := ?v0_39) rfl rfl (by kernel_rfl) (by kernel_rfl) (by kernel_rfl) (by kernel_rfl) hQ (Or.inl ⟨by rfl, ?y0_39⟩) ES ?r0_39
    case y0_39 =>
      intro w' hSw
      have k00 := (bx.ext hSw).c4
      have k10 := (by_.ext hSw).c4
      have k20 := (b8.ext hSw).c2
      have k30 := (b9.ext hSw).c2
      go_simp
      try with_reducible rfl
    try simp only [Act.put]
    try simp only [List.setIfInBounds_toArray]
    try simp only [List.set_cons_succ]
    try simp only [List.set_cons_zero]
    refine wpL.take (i := 2) (d := some 33) (v := ?v2_40) rfl rfl (by kernel_rfl) (by kernel_rfl) (by kernel_rfl) (by kernel_rfl) hQ (Or.inl ⟨by rfl, ?y2_40⟩) ES ?r2_40
    case y2_40 =>
      intro w' hSw
      have k00 := (bx.ext hSw).c4
      have k10 := (by_.ext hSw).c4
      have k20 := (b8.ext hSw).c2
      have k30 := (b9.ext hSw).c2
      go_simp
      try with_reducible rfl
    try simp only [Act.put]
    try simp only [List.setIfInBounds_toArray]
    try simp only [List.set_cons_succ]
    try simp only [List.set_cons_zero]
    refine wpL.take (i := 4) (d := some 35) (v := ?v4_41) rfl rfl (by kernel_rfl) (by kernel_rfl) (by kernel_rfl) (by kernel_rfl) hQ (Or.inl ⟨by rfl, ?y4_41⟩) ES ?r4_41
    case y4_41 =>
      intro w' hSw
      have k00 := (bx.ext hSw).c4
      have k10 := (by_.ext hSw).c4
      have k20 := (b8.ext hSw).c2
      have k30 := (b9.ext hSw).c2
      go_simp
      try with_reducible rfl
    try simp only [Act.put]
    try simp only [List.setIfInBounds_toArray]
    try simp only [List.set_cons_succ]
    try simp only [List.set_cons_zero]
    refine wpL.take (i := 6) (d := some 37) (v := ?v6_42) rfl rfl (by kernel_rfl) (by kernel_rfl) (by kernel_rfl) (by kernel_rfl) hQ (Or.inl ⟨by rfl, ?y6_42⟩) ES ?r6_42
    case y6_42 =>
      intro w' hSw
      have k00 := (bx.ext hSw).c4
      have k10 := (by_.ext hSw).c4
      have k20 := (b8.ext hSw).c2
      have k30 := (b9.ext hSw).c2
      go_simp
      try with_reducible rfl
    try simp only [Act.put]
    try simp only [List.setIfInBounds_toArray]
    try simp only [List.set_cons_succ]
    try simp only [List.set_cons_zero]
    refine wpL.take (i := 9) (d := some 40) (v := ?v9_43) rfl rfl (by kernel_rfl) (by kernel_rfl) (by kernel_rfl) (by kernel_rfl) hQ (Or.inl ⟨by rfl, ?y9_43⟩) ES ?r9_43
    case y9_43 =>
      intro w' hSw
      have k00 := (bx.ext hSw).c4
      have k10 := (by_.ext hSw).c4
      have k20 := (b8.ext hSw).c2
      have k30 := (b9.ext hSw).c2
      go_simp
      try with_reducible rfl
    try simp only [Act.put]
    try simp only [List.setIfInBounds_toArray]
    try simp only [List.set_cons_succ]
    try simp only [List.set_cons_zero]
    refine wpL.take (i := 11) (d := some 42) (v := ?v11_44) rfl rfl (by kernel_rfl) (by kernel_rfl) (by kernel_rfl) (by kernel_rfl) hQ (Or.inl ⟨by rfl, ?y11_44⟩) ES ?r11_44
    case y11_44 =>
      intro w' hSw
      have k00 := (bx.ext hSw).c4
      have k10 := (by_.ext hSw).c4
      have k20 := (b8.ext hSw).c2
      have k30 := (b9.ext hSw).c2
      go_simp
      try with_reducible rfl
    try simp only [Act.put]
    try simp only [List.setIfInBounds_toArray]
    try simp only [List.set_cons_succ]
    try simp only [List.set_cons_zero]
    refine wpL.take (i := 13) (d := some 44) (v := ?v13_45) rfl rfl (by kernel_rfl) (by kernel_rfl) (by kernel_rfl) (by kernel_rfl) hQ (Or.inl ⟨by rfl, ?y13_45⟩) ES ?r13_45
    case y13_45 =>
      intro w' hSw
      have k00 := (bx.ext hSw).c4
      have k10 := (by_.ext hSw).c4
      have k20 := (b8.ext hSw).c2
      have k30 := (b9.ext hSw).c2
      go_simp
      try with_reducible rfl
    try simp only [Act.put]
    try simp only [List.setIfInBounds_toArray]
    try simp only [List.set_cons_succ]
    try simp only [List.set_cons_zero]
    refine wpL.take (i := 15) (d := some 46) (v := ?v15_46) rfl rfl (by kernel_rfl) (by kernel_rfl) (by kernel_rfl) (by kernel_rfl) hQ (Or.inl ⟨by rfl, ?y15_46⟩) ES ?r15_46
    case y15_46 =>
      intro w' hSw
      have k00 := (bx.ext hSw).c4
      have k10 := (by_.ext hSw).c4
      have k20 := (b8.ext hSw).c2
      have k30 := (b9.ext hSw).c2
      go_simp
      try with_reducible rfl
    try simp only [Act.put]
    try simp only [List.setIfInBounds_toArray]
    try simp only [List.set_cons_succ]
    try simp only [List.set_cons_zero]
    refine wpL.take (i := 1) (d := some 32) (v := ?v1_47) rfl rfl (by kernel_rfl) (by kernel_rfl) (by kernel_rfl) (by kernel_rfl) hQ (Or.inl ⟨by rfl, ?y1_47⟩) ES ?r1_47
    case y1_47 =>
      intro w' hSw
      have k00 := (bx.ext hSw).c4
      have k10 := (by_.ext hSw).c4
      have k20 := (b8.ext hSw).c2
      have k30 := (b9.ext hSw).c2
      go_simp
      try with_reducible rfl
    try simp only [Act.put]
    try simp only [List.setIfInBounds_toArray]
    try simp only [List.set_cons_succ]
    try simp only [List.set_cons_zero]
    refine wpL.take (i := 5) (d := some 36) (v := ?v5_48) rfl rfl (by kernel_rfl) (by kernel_rfl) (by kernel_rfl) (by kernel_rfl) hQ (Or.inl ⟨by rfl, ?y5_48⟩) ES ?r5_48
    case y5_48 =>
      intro w' hSw
      have k00 := (bx.ext hSw).c4
      have k10 := (by_.ext hSw).c4
      have k20 := (b8.ext hSw).c2
      have k30 := (b9.ext hSw).c2
      go_simp
      try with_reducible rfl
    try simp only [Act.put]
    try simp only [List.setIfInBounds_toArray]
    try simp only [List.set_cons_succ]
    try simp only [List.set_cons_zero]
    refine wpL.take (i := 10) (d := some 41) (v := ?v10_49) rfl rfl (by kernel_rfl) (by kernel_rfl) (by kernel_rfl) (by kernel_rfl) hQ (Or.inl ⟨by rfl, ?y10_49⟩) ES ?r10_49
    case y10_49 =>
      intro w' hSw
      have k00 := (bx.ext hSw).c4
      have k10 := (by_.ext hSw).c4
      have k20 := (b8.ext hSw).c2
      have k30 := (b9.ext hSw).c2
      go_simp
      try with_reducible rfl
    try simp only [Act.put]
    try simp only [List.setIfInBounds_toArray]
    try simp only [List.set_cons_succ]
    try simp only [List.set_cons_zero]
    refine wpL.take (i := 14) (d := some 45) (v := ?v14_50) rfl rfl (by kernel_rfl) (by kernel_rfl) (by kernel_rfl) (by kernel_rfl) hQ (Or.inl ⟨by rfl, ?y14_50⟩) ES ?r14_50
    case y14_50 =>
      intro w' hSw
      have k00 := (bx.ext hSw).c4
      have k10 := (by_.ext hSw).c4
      have k20 := (b8.ext hSw).c2
      have k30 := (b9.ext hSw).c2
      go_simp
      try with_reducible rfl
    try simp only [Act.put]
    try simp only [List.setIfInBounds_toArray]
    try simp only [List.set_cons_succ]
    try simp only [List.set_cons_zero]
    refine wpL.call (i := 3) rfl (by kernel_rfl) (fun K hK => ?_)
    go_simp
    (go_at_call 57; refine (p_divide (h.num.ext ES) (hg.ext ES) (by omega) (by omega) Hg0.out Hgq.out).mono ?_; rintro e wk1 ⟨s3, A3, n3, c3, rfl, h3, hx0⟩; have E0_5 := Ext.trans ES hx0)
    refine hK.out _ _ E0_5 ?_
    clear hK K
    try simp only [Act.put]
    try simp only [List.setIfInBounds_toArray]
    try simp only [List.set_cons_succ]
    try simp only [List.set_cons_zero]
    refine wpL.call (i := 7) rfl (by kernel_rfl) (fun K hK => ?_)
    go_simp
    (go_at_call 57; refine (p_divide (k.num.ext E0_5) (hh.ext E0_5) (by omega) (by omega) Hh0.out Hhp.out).mono ?_; rintro e wk2 ⟨s4, A4, n4, c4, rfl, h4, hx1⟩; have E1_5 := Ext.trans E0_5 hx1)
    refine hK.out _ _ E1_5 ?_
    clear hK K
    try simp only [Act.put]
    try simp only [List.setIfInBounds_toArray]
    try simp only [List.set_cons_succ]
    try simp only [List.set_cons_zero]
    refine wpL.call (i := 8) rfl (by kernel_rfl) (fun K hK => ?_)
    go_simp
    (go_at_call 72; refine (p_Mul (h3.ext hx1) h4 (by omega) (by omega) h64).mono ?_; rintro e wk3 ⟨s5, A5, n5, c5, rfl, h5, hx2⟩; have E2_5 := Ext.trans E1_5 hx2)
    refine hK.out _ _ E2_5 ?_
    clear hK K
    try simp only [Act.put]
    try simp only [List.setIfInBounds_toArray]
    try simp only [List.set_cons_succ]
    try simp only [List.set_cons_zero]
    refine wpL.call (i := 12) rfl (by kernel_rfl) (fun K hK => ?_)
    go_simp
    (go_at_call 57; refine (p_divide (h.den.ext E2_5) (hh.ext E2_5) (by omega) (by omega) Hh0.out Hhq.out).mono ?_; rintro e wk4 ⟨s6, A6, n6, c6, rfl, h6, hx3⟩; have E3_5 := Ext.trans E2_5 hx3)
    refine hK.out _ _ E3_5 ?_
    clear hK K
    try simp only [Act.put]
    try simp only [List.setIfInBounds_toArray]
    try simp only [List.set_cons_succ]
    try simp only [List.set_cons_zero]
    refine wpL.call (i := 16) rfl (by kernel_rfl) (fun K hK => ?_)
    go_simp
    (go_at_call 57; refine (p_divide (k.den.ext E3_5) (hg.ext E3_5) (by omega) (by omega) Hg0.out Hgp.out).mono ?_; rintro e wk5 ⟨s7, A7, n7, c7, rfl, h7, hx4⟩; have E4_5 := Ext.trans E3_5 hx4)
    refine hK.out _ _ E4_5 ?_
    clear hK K
    try simp only [Act.put]
    try simp only [List.setIfInBounds_toArray]
    try simp only [List.set_cons_succ]
    try simp only [List.set_cons_zero]
    refine wpL.call (i := 17) rfl (by kernel_rfl) (fun K hK => ?_)
    go_simp
    (go_at_call 72; refine (p_Mul (h6.ext hx4) h7 (by omega) (by omega) h64).mono ?_; rintro e wk6 ⟨s8, A8, n8, c8, rfl, h8, hx5⟩; have E5_5 := Ext.trans E4_5 hx5)
    refine hK.out _ _ E5_5 ?_
    clear hK K
    try simp only [Act.put]
    try simp only [List.setIfInBounds_toArray]
    try simp only [List.set_cons_succ]
    try simp only [List.set_cons_zero]
    refine wpL.take (i := 18) (d := some 49) (v := ?v18_51) rfl rfl (by kernel_rfl) (by kernel_rfl) (by kernel_rfl) (by kernel_rfl) hQ (Or.inl ⟨by rfl, ?y18_51⟩) E5_5 ?r18_51
    case y18_51 =>
      intro w' hSw
      have k00 := (bx.ext hSw).c4
      have k10 := (by_.ext hSw).c4
      have k20 := (b8.ext hSw).c2
      have k30 := (b9.ext hSw).c2
      go_simp
      try with_reducible rfl
    try simp only [Act.put]
    try simp only [List.setIfInBounds_toArray]
    try simp only [List.set_cons_succ]
    try simp only [List.set_cons_zero]
    have z0 := (bz.ext E5_5).cell 0 _ rfl
    have z1 := (bz.ext E5_5).cell 1 _ rfl
    have z2 := (bz.ext E5_5).cell 2 _ rfl
    have z3 := (bz.ext E5_5).cell 3 _ rfl
    have f0 := (bz.ext E5_5).frozen 0
    have f1 := (bz.ext E5_5).frozen 1
    have f2 := (bz.ext E5_5).frozen 2
    have f3 := (bz.ext E5_5).frozen 3
    refine wpL.tail (i := 19) rfl (by kernel_rfl) (by kernel_rfl) (fun K hK => ?_)
    go_simp
    refine hK.out _ _ ?_
    clear hK K
    try simp only [Act.put]
    try simp only [List.setIfInBounds_toArray]
    try simp only [List.set_cons_succ]
    try simp only [List.set_cons_zero]
    refine wpL.done (by kernel_rfl) ?_ _
    clear hQ
    go_wp2_with fail
    have hk1 : ((q.den : Int) / (hq : Int)) * ((p.den : Int) / (g : Int)) = ((q * p).den : Int) := by rw [Hq2.out]; simp
    rw [hk1] at h8
    rw [← Hq1.out] at h5
    obtain ⟨b1, b2, b3, b4⟩ := fin_quad (s := s5) (A := A5) (n := n5) (c := c5) (t := s8) (B := A8) (m := n8) (d := c8) (bz.ext E5_5)
    have r0 := b1.cell 0 (.bool s5) rfl
    have r1 := b1.cell 1 (.slice A5 n5 c5) rfl
    have r2 := b1.cell 2 (.bool s8) rfl
    have r3 := b1.cell 3 (.slice A8 n8 c8) rfl
    unfold set4 at r0 r1 r2 r3
    refine bodyPost_ret (v := .agg #[.bool s5, .slice A5 n5 c5, .bool s8, .slice A8 n8 c8]) (by simp [results, Tryz.results34, go_sem, r0, r1, r2, r3]) rfl ⟨s5, A5, n5, c5, s8, A8, n8, c8, rfl, ⟨?_, ?_⟩, b3 _ (extW.trans E5_5) (by omega)⟩
    · exact b2 _ _ _ _ _ _ (h5.ext (hx3.trans (hx4.trans hx5)))
    · exact b2 _ _ _ _ _ _ h8
end
end Go.Proofs.YtiioodgpkdbndaaGreatDoor
namespace Go.Proofs.YtiioodgpkdbndaaGreatDoor
open Go.RowKit
attribute [local go_sem ↓] Go.wp_at_zero Go.wp_at_succ
section
variable {w w' : World} {z y : Int} {q p : Rat} {L M : Nat} {s t s' t' : Bool} {A B A' B' : Option Addr} {n c m d n' c' m' d' : Nat}
theorem NR.inv (h : NR w p M s A n c t B m d) (hp : 0 < p.num) : NR w p⁻¹ M t B m d s A n c := by
  refine ⟨?_, ?_⟩
  · rw [Rat.num_inv, Int.sign_eq_one_of_pos hp, Int.one_mul]; exact h.den
  · rw [Rat.den_inv, if_neg (by omega)]
    have : ((p.num.natAbs : Nat) : Int) = p.num := Int.natAbs_of_nonneg (by omega)
    rw [this]; exact h.num
theorem rat_neg_div (q p : Rat) (hp : p ≠ 0) : -q * (-p)⁻¹ = q / p := by
  have h1 : (-p)⁻¹ = -(p⁻¹) := by
    refine Rat.inv_eq_of_mul_eq_one ?_
    rw [Rat.neg_mul, Rat.mul_neg, Rat.neg_neg, Rat.mul_inv_cancel _ hp]
  rw [h1, Rat.neg_mul, Rat.mul_neg, Rat.neg_neg, Rat.div_def]
set_option maxHeartbeats 4000000 in
theorem p_Div_0 (h : NR w q L s A n c t B m d) (k : NR w p M s' A' n' c' t' B' m' d') (_hL : L ≤ 1000) (hM : M ≤ 1000) (hp : p = 0) : Calls Tryz.prog 26 #[.agg #[.bool s, .slice A n c, .bool t, .slice B m d], .agg #[.bool s', .slice A' n' c', .bool t', .slice B' m' d']] w (RetZE 6 w) := by
  have hs : p.num.sign = 0 := by rw [hp]; rfl
  go_enter Tryz.func26, Tryz.ntmps26
  go_upto_region 1 with (fail)
  obtain ⟨W, hW, extW, bx, by_, bz, hz⟩ := box3 w 27 27 27 #[.bool s, .slice A n c, .bool t, .slice B m d] #[.bool s', .slice A' n' c', .bool t', .slice B' m' d'] #[Value.bool false, Value.slice none 0 0, Value.bool false, Value.slice none 0 0]
  rw [← hW]
  clear hW
  replace h := h.ext extW
  replace k := k.ext extW
  have y0 := by_.cell 0 (.bool s') rfl
  have y1 := by_.cell 1 (.slice A' n' c') rfl
  have y2 := by_.cell 2 (.bool t') rfl
  have y3 := by_.cell 3 (.slice B' m' d') rfl
  go_wp2_with fail
  refine (p_SignR k (by omega)).mono ?_
  rintro e V ⟨rfl, hxa⟩
  rw [hs]
  replace bx := bx.ext hxa
  replace by_ := by_.ext hxa
  replace bz := bz.ext hxa
  replace h := h.ext hxa
  replace k := k.ext hxa
  replace extW := extW.trans hxa
  clear hxa y0 y1 y2 y3
  have hE := Ext.refl V
  have z0 := (bz.ext hE).cell 0 _ rfl
  have z1 := (bz.ext hE).cell 1 _ rfl
  have z2 := (bz.ext hE).cell 2 _ rfl
  have z3 := (bz.ext hE).cell 3 _ rfl
  have f0 := (bz.ext hE).frozen 0
  have f1 := (bz.ext hE).frozen 1
  have f2 := (bz.ext hE).frozen 2
  have f3 := (bz.ext hE).frozen 3
  go_wp2_with fail
  obtain ⟨b1, b2, b3, b4⟩ := fin_quad (s := false) (A := none) (n := 0) (c := 0) (t := false) (B := none) (m := 0) (d := 0) (bz.ext hE)
  have r0 := b1.cell 0 (.bool false) rfl
  have r1 := b1.cell 1 (.slice none 0 0) rfl
  have r2 := b1.cell 2 (.bool false) rfl
  have r3 := b1.cell 3 (.slice none 0 0) rfl
  unfold set4 at r0 r1 r2 r3
  refine bodyPost_ret (v := .tuple #[.agg #[.bool false, .slice none 0 0, .bool false, .slice none 0 0], .int .i64 6]) (by simp [results, Tryz.results26, go_sem, r0, r1, r2, r3]) rfl ⟨rfl, b3 _ (extW.trans hE) (by omega)⟩
set_option maxHeartbeats 4000000 in
theorem p_Div_pos (h : NR w q L s A n c t B m d) (k : NR w p M s' A' n' c' t' B' m' d') (hL : L ≤ 1000) (hM : M ≤ 1000) (h64 : min L M < 64) (hT : Tab w) (hp : 0 < p.num) : Calls Tryz.prog 26 #[.agg #[.bool s, .slice A n c, .bool t, .slice B m d], .agg #[.bool s', .slice A' n' c', .bool t', .slice B' m' d']] w (RetNRE (q / p) (L + M) w) := by
  have hs : p.num.sign = 1 := Int.sign_eq_one_of_pos hp
  go_enter Tryz.func26, Tryz.ntmps26
  go_upto_region 1 with (fail)
  obtain ⟨W, hW, extW, bx, by_, bz, hz⟩ := box3 w 27 27 27 #[.bool s, .slice A n c, .bool t, .slice B m d] #[.bool s', .slice A' n' c', .bool t', .slice B' m' d'] #[Value.bool false, Value.slice none 0 0, Value.bool false, Value.slice none 0 0]
  rw [← hW]
  clear hW
  replace h := h.ext extW
  replace k := k.ext extW
  have y0 := by_.cell 0 (.bool s') rfl
  have y1 := by_.cell 1 (.slice A' n' c') rfl
  have y2 := by_.cell 2 (.bool t') rfl
  have y3 := by_.cell 3 (.slice B' m' d') rfl
  go_wp2_with fail
  refine (p_SignR k (by omega)).mono ?_
  rintro e V ⟨rfl, hxa⟩
  rw [hs]
  replace bx := bx.ext hxa
  replace by_ := by_.ext hxa
  replace bz := bz.ext hxa
  replace h := h.ext hxa
  replace k := k.ext hxa
  replace extW := extW.trans hxa
  clear hxa y0 y1 y2 y3
  have x0 := bx.cell 0 (.bool s) rfl
  have x1 := bx.cell 1 (.slice A n c) rfl
  have x2 := bx.cell 2 (.bool t) rfl
  have x3 := bx.cell 3 (.slice B m d) rfl
  have y0 := by_.cell 0 (.bool s') rfl
  have y1 := by_.cell 1 (.slice A' n' c') rfl
  have y2 := by_.cell 2 (.bool t') rfl
  have y3 := by_.cell 3 (.slice B' m' d') rfl
  go_wp2_with fail
  refine (p_MulR h (k.inv (by exact hp)) (by omega) (by omega) h64 (hT.ext extW)).mono ?_
  rintro e wm ⟨s9, A9, n9, c9, t9, B9, m9, d9, rfl, hr, hxm⟩
  have z0 := (bz.ext hxm).cell 0 _ rfl
  have z1 := (bz.ext hxm).cell 1 _ rfl
  have z2 := (bz.ext hxm).cell 2 _ rfl
  have z3 := (bz.ext hxm).cell 3 _ rfl
  have f0 := (bz.ext hxm).frozen 0
  have f1 := (bz.ext hxm).frozen 1
  have f2 := (bz.ext hxm).frozen 2
  have f3 := (bz.ext hxm).frozen 3
  go_wp2_with fail
  rw [← Rat.div_def] at hr
  obtain ⟨b1, b2, b3, b4⟩ := fin_quad (s := s9) (A := A9) (n := n9) (c := c9) (t := t9) (B := B9) (m := m9) (d := d9) (bz.ext hxm)
  have r0 := b1.cell 0 (.bool s9) rfl
  have r1 := b1.cell 1 (.slice A9 n9 c9) rfl
  have r2 := b1.cell 2 (.bool t9) rfl
  have r3 := b1.cell 3 (.slice B9 m9 d9) rfl
  unfold set4 at r0 r1 r2 r3
  refine bodyPost_ret (v := .tuple #[.agg #[.bool s9, .slice A9 n9 c9, .bool t9, .slice B9 m9 d9], .int .i64 0]) (by simp [results, Tryz.results26, go_sem, r0, r1, r2, r3]) rfl ⟨s9, A9, n9, c9, t9, B9, m9, d9, rfl, ⟨b2 _ _ _ _ _ _ hr.num, b2 _ _ _ _ _ _ hr.den⟩, b3 _ (extW.trans hxm) (by omega)⟩
set_option maxHeartbeats 8000000 in
theorem p_Div_neg (h : NR w q L s A n c t B m d) (k : NR w p M s' A' n' c' t' B' m' d') (hL : L ≤ 1000) (hM : M ≤ 1000) (h64 : min L M < 64) (hT : Tab w) (hp : p.num < 0) : Calls Tryz.prog 26 #[.agg #[.bool s, .slice A n c, .bool t, .slice B m d], .agg #[.bool s', .slice A' n' c', .bool t', .slice B' m' d']] w (RetNRE (q / p) (L + M) w) := by
  have hs : p.num.sign = -1 := Int.sign_eq_neg_one_of_neg hp
  have hp0 : p ≠ 0 := by rintro rfl; simp at hp
  go_enter Tryz.func26, Tryz.ntmps26
  go_upto_region 1 with (fail)
  obtain ⟨W, hW, extW, bx, by_, bz, hz⟩ := box3 w 27 27 27 #[.bool s, .slice A n c, .bool t, .slice B m d] #[.bool s', .slice A' n' c', .bool t', .slice B' m' d'] #[Value.bool false, Value.slice none 0 0, Value.bool false, Value.slice none 0 0]
  rw [← hW]
  clear hW
  replace h := h.ext extW
  replace k := k.ext extW
  have y0 := by_.cell 0 (.bool s') rfl
  have y1 := by_.cell 1 (.slice A' n' c') rfl
  have y2 := by_.cell 2 (.bool t') rfl
  have y3 := by_.cell 3 (.slice B' m' d') rfl
  go_wp2_with fail
  refine (p_SignR k (by omega)).mono ?_
  rintro e V ⟨rfl, hxa⟩
  rw [hs]
  replace bx := bx.ext hxa
  replace by_ := by_.ext hxa
  replace bz := bz.ext hxa
  replace h := h.ext hxa
  replace k := k.ext hxa
  replace extW := extW.trans hxa
  clear hxa y0 y1 y2 y3
  go_upto_region 5 with (fail)
  refine wpL.start 4 (by kernel_rfl) (fun _ _ _ _ _ => ⟨fun h => h, fun h => h⟩) (fun hQ ES => ?_)
  refine wpL.take (i := 0) (d := some 13) (v := ?v0_52) rfl rfl (by kernel_rfl) (by kernel_rfl) (by kernel_rfl) (by kernel_rfl) hQ (Or.inl ⟨by rfl, ?y0_52⟩) ES ?r0_52
  case y0_52 =>
    intro w' hSw
    have k00 := (bx.ext hSw).c4
    have k10 := (by_.ext hSw).c4
    go_simp
    try with_reducible rfl
  try simp only [Act.put]
  try simp only [List.setIfInBounds_toArray]
  try simp only [List.set_cons_succ]
  try simp only [List.set_cons_zero]
  refine wpL.take2 3 (i := 2) (d := some 15) (v := ?v2_53) rfl rfl (by kernel_rfl) (by kernel_rfl) (by kernel_rfl) (by kernel_rfl) hQ (Or.inl ⟨by rfl, ?y2_53⟩) ES ?r2_53
  case y2_53 =>
    intro w' hSw
    have k00 := (bx.ext hSw).c4
    have k10 := (by_.ext hSw).c4
    go_simp
    try with_reducible rfl
  try simp only [Act.put]
  try simp only [List.setIfInBounds_toArray]
  try simp only [List.set_cons_succ]
  try simp only [List.set_cons_zero]
  refine wpL.call (i := 1) rfl (by kernel_rfl) (fun K hK => ?_)
  go_simp
  (go_at_call 32; refine (p_NegR (h.ext ES) (by omega)).mono ?_; rintro e wk1 ⟨s1, A1, n1, c1, t1, B1, m1, d1, rfl, h1, hx0⟩; have E0_5 := Ext.trans ES hx0)
  refine hK.out _ _ E0_5 ?_
  clear hK K
  try simp only [Act.put]
  try simp only [List.setIfInBounds_toArray]
  try simp only [List.set_cons_succ]
  try simp only [List.set_cons_zero]
  refine wpL.call (i := 3) rfl (by kernel_rfl) (fun K hK => ?_)
  go_simp
  (go_at_call 32; refine (p_NegR (k.ext E0_5) (by omega)).mono ?_; rintro e wk2 ⟨s2, A2, n2, c2, t2, B2, m2, d2, rfl, h2, hx1⟩; have E1_5 := Ext.trans E0_5 hx1)
  refine hK.out _ _ E1_5 ?_
  clear hK K
  try simp only [Act.put]
  try simp only [List.setIfInBounds_toArray]
  try simp only [List.set_cons_succ]
  try simp only [List.set_cons_zero]
  have z0 := (bx.ext E1_5).cell 0 _ rfl
  have z1 := (bx.ext E1_5).cell 1 _ rfl
  have z2 := (bx.ext E1_5).cell 2 _ rfl
  have z3 := (bx.ext E1_5).cell 3 _ rfl
  have f0 := (bx.ext E1_5).frozen 0
  have f1 := (bx.ext E1_5).frozen 1
  have f2 := (bx.ext E1_5).frozen 2
  have f3 := (bx.ext E1_5).frozen 3
  have u0 := (by_.ext E1_5).cell 0 _ rfl
  have u1 := (by_.ext E1_5).cell 1 _ rfl
  have u2 := (by_.ext E1_5).cell 2 _ rfl
  have u3 := (by_.ext E1_5).cell 3 _ rfl
  have v0 := (by_.ext E1_5).frozen 0
  have v1 := (by_.ext E1_5).frozen 1
  have v2 := (by_.ext E1_5).frozen 2
  have v3 := (by_.ext E1_5).frozen 3
  refine wpL.tail (i := 4) rfl (by kernel_rfl) (by kernel_rfl) (fun K hK => ?_)
  go_simp
  refine hK.out _ _ ?_
  clear hK K
  try simp only [Act.put]
  try simp only [List.setIfInBounds_toArray]
  try simp only [List.set_cons_succ]
  try simp only [List.set_cons_zero]
  refine wpL.tail (i := 5) rfl (by kernel_rfl) (by kernel_rfl) (fun K hK => ?_)
  go_simp
  refine hK.out _ _ ?_
  clear hK K
  try simp only [Act.put]
  try simp only [List.setIfInBounds_toArray]
  try simp only [List.set_cons_succ]
  try simp only [List.set_cons_zero]
  refine wpL.done (by kernel_rfl) ?_ _
  clear hQ
  refine at_exit (fun U => Ext w U ∧ Box U w.heap.size 27 #[.bool s1, .slice A1 n1 c1, .bool t1, .slice B1 m1 d1] ∧ Box U (w.heap.size + 1) 27 #[.bool s2, .slice A2 n2 c2, .bool t2, .slice B2 m2 d2] ∧ Box U (w.heap.size + 1 + 1) 27 #[Value.bool false, Value.slice none 0 0, Value.bool false, Value.slice none 0 0] ∧ NR U (-q) L s1 A1 n1 c1 t1 B1 m1 d1 ∧ NR U (-p) M s2 A2 n2 c2 t2 B2 m2 d2) ?_ ?_
  · have q1 := fin_quad (s := s1) (A := A1) (n := n1) (c := c1) (t := t1) (B := B1) (m := m1) (d := d1) (bx.ext E1_5)
    have q2 := fin_quad (s := s2) (A := A2) (n := n2) (c := c2) (t := t2) (B := B2) (m := m2) (d := d2) (q1.2.2.2 _ _ _ (by omega) (by_.ext E1_5))
    have hn1 : NR wk2 (-q) L s1 A1 n1 c1 t1 B1 m1 d1 := h1.ext hx1
    exact ⟨q2.2.2.1 _ (q1.2.2.1 _ (extW.trans E1_5) (by omega)) (by omega), q2.2.2.2 _ _ _ (by omega) q1.1, q2.1, q2.2.2.2 _ _ _ (by omega) (q1.2.2.2 _ _ _ (by omega) (bz.ext E1_5)), ⟨q2.2.1 _ _ _ _ _ _ (q1.2.1 _ _ _ _ _ _ hn1.num), q2.2.1 _ _ _ _ _ _ (q1.2.1 _ _ _ _ _ _ hn1.den)⟩, ⟨q2.2.1 _ _ _ _ _ _ (q1.2.1 _ _ _ _ _ _ h2.num), q2.2.1 _ _ _ _ _ _ (q1.2.1 _ _ _ _ _ _ h2.den)⟩⟩
  clear extW bx by_ bz h k
  rintro U ⟨extW, bx, by_, bz, h, k⟩
  have x0 := bx.cell 0 (.bool s1) rfl
  have x1 := bx.cell 1 (.slice A1 n1 c1) rfl
  have x2 := bx.cell 2 (.bool t1) rfl
  have x3 := bx.cell 3 (.slice B1 m1 d1) rfl
  have y0 := by_.cell 0 (.bool s2) rfl
  have y1 := by_.cell 1 (.slice A2 n2 c2) rfl
  have y2 := by_.cell 2 (.bool t2) rfl
  have y3 := by_.cell 3 (.slice B2 m2 d2) rfl
  go_wp2_with fail
  refine (p_MulR h (k.inv (by rw [Rat.neg_num]; omega)) (by omega) (by omega) h64 (hT.ext extW)).mono ?_
  rintro e wm ⟨s9, A9, n9, c9, t9, B9, m9, d9, rfl, hr, hxm⟩
  have z0 := (bz.ext hxm).cell 0 _ rfl
  have z1 := (bz.ext hxm).cell 1 _ rfl
  have z2 := (bz.ext hxm).cell 2 _ rfl
  have z3 := (bz.ext hxm).cell 3 _ rfl
  have f0 := (bz.ext hxm).frozen 0
  have f1 := (bz.ext hxm).frozen 1
  have f2 := (bz.ext hxm).frozen 2
  have f3 := (bz.ext hxm).frozen 3
  go_wp2_with fail
  rw [rat_neg_div q p hp0] at hr
  obtain ⟨b1, b2, b3, b4⟩ := fin_quad (s := s9) (A := A9) (n := n9) (c := c9) (t := t9) (B := B9) (m := m9) (d := d9) (bz.ext hxm)
  have r0 := b1.cell 0 (.bool s9) rfl
  have r1 := b1.cell 1 (.slice A9 n9 c9) rfl
  have r2 := b1.cell 2 (.bool t9) rfl
  have r3 := b1.cell 3 (.slice B9 m9 d9) rfl
  unfold set4 at r0 r1 r2 r3
  refine bodyPost_ret (v := .tuple #[.agg #[.bool s9, .slice A9 n9 c9, .bool t9, .slice B9 m9 d9], .int .i64 0]) (by simp [results, Tryz.results26, go_sem, r0, r1, r2, r3]) rfl ⟨s9, A9, n9, c9, t9, B9, m9, d9, rfl, ⟨b2 _ _ _ _ _ _ hr.num, b2 _ _ _ _ _ _ hr.den⟩, b3 _ (extW.trans hxm) (by omega)⟩
end
end Go.Proofs.YtiioodgpkdbndaaGreatDoor
namespace Go.Proofs.YtiioodgpkdbndaaGreatDoor
open Go.RowKit
attribute [local go_sem ↓] Go.wp_at_zero Go.wp_at_succ
section
variable {w w' : World} {z y : Int} {q p : Rat} {L M : Nat} {s t s' t' : Bool} {A B A' B' : Option Addr} {n c m d n' c' m' d' : Nat}
set_option maxHeartbeats 1000000 in
theorem q_one (h : NI w z L s A n c) : Calls Tryz.prog 66 #[.agg #[.bool s, .slice A n c]] w fun e w' => e = .returned (.bool (decide (z = 1))) ∧ Ext w w' := by
  have h1 := h.one_iff
  by_cases hn : n = 1
  · subst hn
    obtain ⟨xs, hl, hx, _⟩ := h.out
    obtain ⟨b, off, rfl, hb, hc⟩ := hx.at_ (i := 0) (by omega)
    simp only [Nat.add_zero] at hc
    cases s with
    | true =>
      have hd : decide (z = 1) = false := decide_eq_false fun hz => by have := (h1.1 hz).1; cases this
      rw [hd]
      generalize (xs[0]'(by omega) : Nat) = k at hc
      have hc2 := ((Ext.refl w).alloc (.cells #[.bool true, .slice (some ⟨b, off, none⟩) 1 c] 24)).cellv hc
      clear h1 h hx hl
      by_cases hk : (k : Int) = 1
      · have hb1 : ((k : Int) == 1) = true := beq_iff_eq.2 hk
        go_enter Tryz.func66, Tryz.ntmps66
        go_wp2
        all_goals (go_ret; exact ⟨rfl, (Ext.refl w).alloc _⟩)
      · have hb1 : ((k : Int) == 1) = false := beq_eq_false_iff_ne.2 hk
        go_enter Tryz.func66, Tryz.ntmps66
        go_wp2
        all_goals (go_ret; exact ⟨rfl, (Ext.refl w).alloc _⟩)
    | false =>
      have hv : (decide (z = 1)) = (((xs[0]'(by omega) : Nat) : Int) == 1) := by
        by_cases hz : z = 1
        · obtain ⟨_, _, b', off', hA, hc'⟩ := h1.1 hz
          injection hA with hA
          injection hA with e1 e2
          subst e1; subst e2
          rw [hc] at hc'
          injection hc' with hc'
          injection hc' with _ hc'
          rw [hc']
          simp [hz]
        · have : ¬ ((xs[0]'(by omega) : Nat) : Int) = 1 := fun h2 => hz (h1.2 ⟨rfl, rfl, b, off, rfl, by rw [hc, h2]⟩)
          rw [decide_eq_false hz]
          exact (beq_eq_false_iff_ne.2 this).symm
      rw [hv]
      generalize (xs[0]'(by omega) : Nat) = k at hc
      have hc2 := ((Ext.refl w).alloc (.cells #[.bool false, .slice (some ⟨b, off, none⟩) 1 c] 24)).cellv hc
      clear h1 h hv hx hl
      by_cases hk : (k : Int) = 1
      · have hb1 : ((k : Int) == 1) = true := beq_iff_eq.2 hk
        rw [hb1]
        go_enter Tryz.func66, Tryz.ntmps66
        go_wp2
        all_goals (go_ret; exact ⟨rfl, (Ext.refl w).alloc _⟩)
      · have hb1 : ((k : Int) == 1) = false := beq_eq_false_iff_ne.2 hk
        rw [hb1]
        go_enter Tryz.func66, Tryz.ntmps66
        go_wp2
        all_goals (go_ret; exact ⟨rfl, (Ext.refl w).alloc _⟩)
  · have hd : decide (z = 1) = false := decide_eq_false fun hz => hn (h1.1 hz).2.1
    have hn2 : ((n : Int) == 1) = false := by rw [beq_eq_false_iff_ne]; omega
    rw [hd]
    go_enter Tryz.func66, Tryz.ntmps66
    go_wp2
    all_goals (go_ret; exact ⟨rfl, (Ext.refl w).alloc _⟩)
set_option maxHeartbeats 1000000 in
theorem q_quo_dm (h : NI w z L s A n c) (k : NI w y M t B m d) (hL : L ≤ 9000) (hM : M ≤ 9000) (h0 : y ≠ 0) : Calls Tryz.prog 62 #[.agg #[.bool s, .slice A n c], .agg #[.bool t, .slice B m d]] w fun e w' => ∃ q r : Int, IsDM z y q r ∧ RetNI q 60000 w e w' := by
  go_enter Tryz.func62, Tryz.ntmps62
  go_upto_region 1 with (fail)
  obtain ⟨W, hW, extW, bx, by_, bz, hz⟩ := box3 w 24 24 24 #[.bool s, .slice A n c] #[.bool t, .slice B m d] #[Value.bool false, Value.slice none 0 0]
  rw [← hW]
  clear hW
  have x0 := bx.cell 0 (.bool s) rfl
  have x1 := bx.cell 1 (.slice A n c) rfl
  have y2 := by_.cell 0 (.bool t) rfl
  have y3 := by_.cell 1 (.slice B m d) rfl
  go_wp2_with fail
  refine (q_DivMod (h.ext extW) (k.ext extW) (by omega) (by omega) h0).mono ?_
  rintro e wb ⟨s1, A1, n1, c1, s2, A2, n2, c2, q, r, rfl, hq, hr, hdm, hx1⟩
  clear x0 x1 y2 y3
  go_upto_region 2 with (fail)
  refine at_world (fun V => Ext W V ∧ Box V wb.heap.size 24 #[.bool s1, .slice A1 n1 c1] ∧ NI V q 60000 s1 A1 n1 c1) ?_ ?_
  · obtain ⟨e1, e2, e3⟩ := two_new wb 24 #[.bool s1, .slice A1 n1 c1] #[.bool s2, .slice A2 n2 c2]
    exact ⟨hx1.trans e1, e2, hq.ext e1⟩
  generalize wb.heap.size = g5
  rintro V ⟨EV, b5, hqV⟩
  have x0 := b5.cell 0 _ rfl
  have x1 := b5.cell 1 _ rfl
  have z0 := (bz.ext EV).cell 0 _ rfl
  have z1 := (bz.ext EV).cell 1 _ rfl
  have f0 := (bz.ext EV).frozen 0
  have f1 := (bz.ext EV).frozen 1
  go_wp2_with fail
  obtain ⟨b1, b2, b3, b4⟩ := fin_dual (s := s1) (A := A1) (n := n1) (c := c1) (bz.ext EV)
  have r0 := b1.cell 0 (.bool s1) rfl
  have r1 := b1.cell 1 (.slice A1 n1 c1) rfl
  unfold set2 at r0 r1
  refine bodyPost_ret (v := .agg #[.bool s1, .slice A1 n1 c1]) (by simp [results, Tryz.results62, go_sem, r0, r1]) rfl ⟨q, r, hdm, s1, A1, n1, c1, rfl, ?_, b3 _ (extW.trans EV) (by omega)⟩
  exact b2 _ _ _ _ _ _ hqV
theorem q_quo (h : NI w z L s A n c) (k : NI w y M t B m d) (hL : L ≤ 9000) (hM : M ≤ 9000) (h0 : y ≠ 0) (hd : y ∣ z) : Calls Tryz.prog 62 #[.agg #[.bool s, .slice A n c], .agg #[.bool t, .slice B m d]] w (RetNI (z / y) L w) := by
  refine (q_quo_dm h k hL hM h0).mono ?_
  rintro e w' ⟨q, r, hdm, s1, A1, n1, c1, rfl, hq, hx⟩
  obtain ⟨_, hqe, hql⟩ := (dm_q_le hdm h0).2.2 hd
  rw [hqe] at hq hql
  exact ⟨s1, A1, n1, c1, rfl, hq.tight (h.ext hx) (by simpa using hql), hx⟩
end
end Go.Proofs.YtiioodgpkdbndaaGreatDoor
namespace Go.Proofs.YtiioodgpkdbndaaGreatDoor
open Go.RowKit
attribute [local go_sem ↓] Go.wp_at_zero Go.wp_at_succ
section
variable {w w' : World} {z y : Int} {q p : Rat} {L M : Nat} {s t s' t' : Bool} {A B A' B' : Option Addr} {n c m d n' c' m' d' : Nat}
set_option maxHeartbeats 1000000 in
theorem q_NegR (h : NR w q L s A n c t B m d) (hL : L ≤ 1000) : Calls Tryz.prog 33 #[.agg #[.bool s, .slice A n c, .bool t, .slice B m d]] w (RetNR (-q) L w) := by
  go_enter Tryz.func33, Tryz.ntmps33
  go_upto_region 1 with (fail)
  obtain ⟨W, hW, extW, bx, bz, hz⟩ := box2 w 27 27 #[.bool s, .slice A n c, .bool t, .slice B m d] #[Value.bool false, Value.slice none 0 0, Value.bool false, Value.slice none 0 0]
  rw [← hW]
  clear hW
  refine wpL.start 6 (by kernel_rfl) (fun _ _ _ _ _ => ⟨fun h => h, fun h => h⟩) (fun hQ ES => ?_)
  refine wpL.take (i := 0) (d := some 3) (v := ?v0_29) rfl rfl (by kernel_rfl) (by kernel_rfl) (by kernel_rfl) (by kernel_rfl) hQ (Or.inl ⟨by rfl, ?y0_29⟩) ES ?r0_29
  case y0_29 =>
    intro w' hSw
    have k00 := (bx.ext hSw).c4
    go_simp
    try with_reducible rfl
  try simp only [Act.put]
  try simp only [List.setIfInBounds_toArray]
  try simp only [List.set_cons_succ]
  try simp only [List.set_cons_zero]
  refine wpL.take (i := 3) (d := some 6) (v := ?v3_30) rfl rfl (by kernel_rfl) (by kernel_rfl) (by kernel_rfl) (by kernel_rfl) hQ (Or.inl ⟨by rfl, ?y3_30⟩) ES ?r3_30
  case y3_30 =>
    intro w' hSw
    have k00 := (bx.ext hSw).c4
    go_simp
    try with_reducible rfl
  try simp only [Act.put]
  try simp only [List.setIfInBounds_toArray]
  try simp only [List.set_cons_succ]
  try simp only [List.set_cons_zero]
  refine wpL.take (i := 1) (d := some 4) (v := ?v1_31) rfl rfl (by kernel_rfl) (by kernel_rfl) (by kernel_rfl) (by kernel_rfl) hQ (Or.inl ⟨by rfl, ?y1_31⟩) ES ?r1_31
  case y1_31 =>
    intro w' hSw
    have k00 := (bx.ext hSw).c4
    go_simp
    try with_reducible rfl
  try simp only [Act.put]
  try simp only [List.setIfInBounds_toArray]
  try simp only [List.set_cons_succ]
  try simp only [List.set_cons_zero]
  refine wpL.take (i := 4) (d := some 7) (v := ?v4_32) rfl rfl (by kernel_rfl) (by kernel_rfl) (by kernel_rfl) (by kernel_rfl) hQ (Or.inl ⟨by rfl, ?y4_32⟩) ES ?r4_32
  case y4_32 =>
    intro w' hSw
    have k00 := (bx.ext hSw).c4
    go_simp
    try with_reducible rfl
  try simp only [Act.put]
  try simp only [List.setIfInBounds_toArray]
  try simp only [List.set_cons_succ]
  try simp only [List.set_cons_zero]
  refine wpL.call (i := 2) rfl (by kernel_rfl) (fun K hK => ?_)
  go_simp
  (go_at_call 61; refine (q_Neg (h.num.ext (extW.trans ES)) (by omega)).mono ?_; rintro e wa ⟨s1, A1, n1, c1, rfl, h1, hx0⟩; have E0_1 := Ext.trans ES hx0)
  refine hK.out _ _ E0_1 ?_
  clear hK K
  try simp only [Act.put]
  try simp only [List.setIfInBounds_toArray]
  try simp only [List.set_cons_succ]
  try simp only [List.set_cons_zero]
  refine wpL.take (i := 5) (d := some 8) (v := ?v5_33) rfl rfl (by kernel_rfl) (by kernel_rfl) (by kernel_rfl) (by kernel_rfl) hQ (Or.inl ⟨by rfl, ?y5_33⟩) E0_1 ?r5_33
  case y5_33 =>
    intro w' hSw
    have k00 := (bx.ext hSw).c4
    go_simp
    try with_reducible rfl
  try simp only [Act.put]
  try simp only [List.setIfInBounds_toArray]
  try simp only [List.set_cons_succ]
  try simp only [List.set_cons_zero]
  have z0 := (bz.ext E0_1).cell 0 _ rfl
  have z1 := (bz.ext E0_1).cell 1 _ rfl
  have z2 := (bz.ext E0_1).cell 2 _ rfl
  have z3 := (bz.ext E0_1).cell 3 _ rfl
  have f0 := (bz.ext E0_1).frozen 0
  have f1 := (bz.ext E0_1).frozen 1
  have f2 := (bz.ext E0_1).frozen 2
  have f3 := (bz.ext E0_1).frozen 3
  refine wpL.tail (i := 6) rfl (by kernel_rfl) (by kernel_rfl) (fun K hK => ?_)
  go_simp
  refine hK.out _ _ ?_
  clear hK K
  try simp only [Act.put]
  try simp only [List.setIfInBounds_toArray]
  try simp only [List.set_cons_succ]
  try simp only [List.set_cons_zero]
  refine wpL.done (by kernel_rfl) ?_ _
  clear hQ
  go_wp2_with fail
  obtain ⟨b1, b2, b3, b4⟩ := fin_quad (s := s1) (A := A1) (n := n1) (c := c1) (t := t) (B := B) (m := m) (d := d) (bz.ext E0_1)
  have r0 := b1.cell 0 (.bool s1) rfl
  have r1 := b1.cell 1 (.slice A1 n1 c1) rfl
  have r2 := b1.cell 2 (.bool t) rfl
  have r3 := b1.cell 3 (.slice B m d) rfl
  unfold set4 at r0 r1 r2 r3
  refine bodyPost_ret (v := .agg #[.bool s1, .slice A1 n1 c1, .bool t, .slice B m d]) (by simp [results, Tryz.results33, go_sem, r0, r1, r2, r3]) rfl ⟨s1, A1, n1, c1, t, B, m, d, rfl, ⟨?_, ?_⟩, b3 _ (extW.trans E0_1) (by omega)⟩
  · exact b2 _ _ _ _ _ _ h1
  · exact b2 _ _ _ _ _ _ (h.den.ext (extW.trans E0_1))
set_option maxHeartbeats 1000000 in
theorem q_FromIntR (k : Int) (h0 : -9223372036854775808 ≤ k) (h1 : k < 9223372036854775808) : Calls Tryz.prog 20 #[.int .i64 k] w (RetNR (k : Rat) 2 w) := by
  go_enter Tryz.func20, Tryz.ntmps20
  go_upto_region 1 with (fail)
  obtain ⟨W, hW, extW, bz, hz⟩ := box1 w 27 #[Value.bool false, Value.slice none 0 0, Value.bool false, Value.slice none 0 0]
  rw [← hW]
  clear hW
  go_wp2_with fail
  refine (q_FromInt k h0 h1).mono ?_
  rintro e wa ⟨s1, A1, n1, c1, rfl, hk, hx0⟩
  go_wp2_with fail
  refine (q_FromInt 1 (by omega) (by omega)).mono ?_
  rintro e wb ⟨s2, A2, n2, c2, rfl, hr, hx1⟩
  have hE := hx0.trans hx1
  have z0 := (bz.ext hE).cell 0 _ rfl
  have z1 := (bz.ext hE).cell 1 _ rfl
  have z2 := (bz.ext hE).cell 2 _ rfl
  have z3 := (bz.ext hE).cell 3 _ rfl
  have f0 := (bz.ext hE).frozen 0
  have f1 := (bz.ext hE).frozen 1
  have f2 := (bz.ext hE).frozen 2
  have f3 := (bz.ext hE).frozen 3
  go_wp2_with fail
  obtain ⟨b1, b2, b3, b4⟩ := fin_quad (s := s1) (A := A1) (n := n1) (c := c1) (t := s2) (B := A2) (m := n2) (d := c2) (bz.ext hE)
  have r0 := b1.cell 0 (.bool s1) rfl
  have r1 := b1.cell 1 (.slice A1 n1 c1) rfl
  have r2 := b1.cell 2 (.bool s2) rfl
  have r3 := b1.cell 3 (.slice A2 n2 c2) rfl
  unfold set4 at r0 r1 r2 r3
  refine bodyPost_ret (v := .agg #[.bool s1, .slice A1 n1 c1, .bool s2, .slice A2 n2 c2]) (by simp [results, Tryz.results20, go_sem, r0, r1, r2, r3]) rfl ⟨s1, A1, n1, c1, s2, A2, n2, c2, rfl, ⟨?_, ?_⟩, b3 _ (extW.trans hE) (by omega)⟩
  · exact b2 _ _ _ _ _ _ (hk.ext hx1)
  · exact b2 _ _ _ _ _ _ hr
theorem inv_parts {q : Rat} (hq : q ≠ 0) : (q.num < 0 → (q⁻¹).num = -(q.den : Int) ∧ ((q⁻¹).den : Int) = -q.num) ∧ (0 ≤ q.num → (q⁻¹).num = (q.den : Int) ∧ ((q⁻¹).den : Int) = q.num) := by
  have h0 : q.num ≠ 0 := fun h => hq (Rat.num_eq_zero.1 h)
  refine ⟨fun h => ⟨?_, ?_⟩, fun h => ⟨?_, ?_⟩⟩
  · rw [Rat.num_inv, Int.sign_eq_neg_one_of_neg h]; omega
  · rw [Rat.den_inv, if_neg h0]; omega
  · rw [Rat.num_inv, Int.sign_eq_one_of_pos (by omega)]; omega
  · rw [Rat.den_inv, if_neg h0]; omega
set_option maxHeartbeats 2000000 in
theorem q_Inv (h : NR w q L s A n c t B m d) (hL : L ≤ 1000) (hq : q ≠ 0) : Calls Tryz.prog 68 #[.agg #[.bool s, .slice A n c, .bool t, .slice B m d]] w (RetNR (q⁻¹) L w) := by
  obtain ⟨e1, e2⟩ := inv_parts hq
  by_cases hn : q.num < 0
  · obtain ⟨e3, e4⟩ := e1 hn
    have He3 := Lib.hid e3
    have He4 := Lib.hid e4
    obtain rfl : s = true := by rw [h.num.neg]; exact decide_eq_true hn
    clear e1 e2 e3 e4 hn
    go_enter Tryz.func68, Tryz.ntmps68
    go_upto_region 1 with (fail)
    obtain ⟨W, hW, extW, bx, bz, hz⟩ := box2 w 27 27 #[.bool true, .slice A n c, .bool t, .slice B m d] #[Value.bool false, Value.slice none 0 0, Value.bool false, Value.slice none 0 0]
    rw [← hW]
    clear hW
    have x0 := bx.cell 0 (.bool true) rfl
    go_upto_region 2 with (fail)
    refine wpL.start 7 (by kernel_rfl) (fun _ _ _ _ _ => ⟨fun h => h, fun h => h⟩) (fun hQ ES => ?_)
    refine wpL.take (i := 0) (d := some 6) (v := ?v0_34) rfl rfl (by kernel_rfl) (by kernel_rfl) (by kernel_rfl) (by kernel_rfl) hQ (Or.inl ⟨by rfl, ?y0_34⟩) ES ?r0_34
    case y0_34 =>
      intro w' hSw
      have k00 := (bx.ext hSw).c4
      go_simp
      try with_reducible rfl
    try simp only [Act.put]
    try simp only [List.setIfInBounds_toArray]
    try simp only [List.set_cons_succ]
    try simp only [List.set_cons_zero]
    refine wpL.take (i := 3) (d := some 9) (v := ?v3_35) rfl rfl (by kernel_rfl) (by kernel_rfl) (by kernel_rfl) (by kernel_rfl) hQ (Or.inl ⟨by rfl, ?y3_35⟩) ES ?r3_35
    case y3_35 =>
      intro w' hSw
      have k00 := (bx.ext hSw).c4
      go_simp
      try with_reducible rfl
    try simp only [Act.put]
    try simp only [List.setIfInBounds_toArray]
    try simp only [List.set_cons_succ]
    try simp only [List.set_cons_zero]
    refine wpL.take (i := 1) (d := some 7) (v := ?v1_36) rfl rfl (by kernel_rfl) (by kernel_rfl) (by kernel_rfl) (by kernel_rfl) hQ (Or.inl ⟨by rfl, ?y1_36⟩) ES ?r1_36
    case y1_36 =>
      intro w' hSw
      have k00 := (bx.ext hSw).c4
      go_simp
      try with_reducible rfl
    try simp only [Act.put]
    try simp only [List.setIfInBounds_toArray]
    try simp only [List.set_cons_succ]
    try simp only [List.set_cons_zero]
    refine wpL.take (i := 4) (d := some 10) (v := ?v4_37) rfl rfl (by kernel_rfl) (by kernel_rfl) (by kernel_rfl) (by kernel_rfl) hQ (Or.inl ⟨by rfl, ?y4_37⟩) ES ?r4_37
    case y4_37 =>
      intro w' hSw
      have k00 := (bx.ext hSw).c4
      go_simp
      try with_reducible rfl
    try simp only [Act.put]
    try simp only [List.setIfInBounds_toArray]
    try simp only [List.set_cons_succ]
    try simp only [List.set_cons_zero]
    refine wpL.call (i := 2) rfl (by kernel_rfl) (fun K hK => ?_)
    go_simp
    (go_at_call 61; refine (q_Neg (h.den.ext (extW.trans ES)) (by omega)).mono ?_; rintro e wa ⟨s1, A1, n1, c1, rfl, h1, hx0⟩; have E0_2 := Ext.trans ES hx0)
    refine hK.out _ _ E0_2 ?_
    clear hK K
    try simp only [Act.put]
    try simp only [List.setIfInBounds_toArray]
    try simp only [List.set_cons_succ]
    try simp only [List.set_cons_zero]
    refine wpL.call (i := 5) rfl (by kernel_rfl) (fun K hK => ?_)
    go_simp
    (go_at_call 61; refine (q_Neg (h.num.ext (extW.trans E0_2)) (by omega)).mono ?_; rintro e wb ⟨s2, A2, n2, c2, rfl, h2, hx1⟩; have E1_2 := Ext.trans E0_2 hx1)
    refine hK.out _ _ E1_2 ?_
    clear hK K
    try simp only [Act.put]
    try simp only [List.setIfInBounds_toArray]
    try simp only [List.set_cons_succ]
    try simp only [List.set_cons_zero]
    refine wpL.take (i := 6) (d := some 12) (v := ?v6_38) rfl rfl (by kernel_rfl) (by kernel_rfl) (by kernel_rfl) (by kernel_rfl) hQ (Or.inl ⟨by rfl, ?y6_38⟩) E1_2 ?r6_38
    case y6_38 =>
      intro w' hSw
      have k00 := (bx.ext hSw).c4
      go_simp
      try with_reducible rfl
    try simp only [Act.put]
    try simp only [List.setIfInBounds_toArray]
    try simp only [List.set_cons_succ]
    try simp only [List.set_cons_zero]
    have z0 := (bz.ext E1_2).cell 0 _ rfl
    have z1 := (bz.ext E1_2).cell 1 _ rfl
    have z2 := (bz.ext E1_2).cell 2 _ rfl
    have z3 := (bz.ext E1_2).cell 3 _ rfl
    have f0 := (bz.ext E1_2).frozen 0
    have f1 := (bz.ext E1_2).frozen 1
    have f2 := (bz.ext E1_2).frozen 2
    have f3 := (bz.ext E1_2).frozen 3
    refine wpL.tail (i := 7) rfl (by kernel_rfl) (by kernel_rfl) (fun K hK => ?_)
    go_simp
    refine hK.out _ _ ?_
    clear hK K
    try simp only [Act.put]
    try simp only [List.setIfInBounds_toArray]
    try simp only [List.set_cons_succ]
    try simp only [List.set_cons_zero]
    refine wpL.done (by kernel_rfl) ?_ _
    clear hQ
    go_wp2_with fail
    obtain ⟨b1, b2, b3, b4⟩ := fin_quad (s := s1) (A := A1) (n := n1) (c := c1) (t := s2) (B := A2) (m := n2) (d := c2) (bz.ext E1_2)
    have r0 := b1.cell 0 (.bool s1) rfl
    have r1 := b1.cell 1 (.slice A1 n1 c1) rfl
    have r2 := b1.cell 2 (.bool s2) rfl
    have r3 := b1.cell 3 (.slice A2 n2 c2) rfl
    unfold set4 at r0 r1 r2 r3
    refine bodyPost_ret (v := .agg #[.bool s1, .slice A1 n1 c1, .bool s2, .slice A2 n2 c2]) (by simp [results, Tryz.results68, go_sem, r0, r1, r2, r3]) rfl ⟨s1, A1, n1, c1, s2, A2, n2, c2, rfl, ⟨?_, ?_⟩, b3 _ (extW.trans E1_2) (by omega)⟩
    · rw [He3.out]; exact b2 _ _ _ _ _ _ (h1.ext hx1)
    · rw [He4.out]; exact b2 _ _ _ _ _ _ h2
  · obtain ⟨e3, e4⟩ := e2 (by omega)
    have He3 := Lib.hid e3
    have He4 := Lib.hid e4
    obtain rfl : s = false := by rw [h.num.neg]; exact decide_eq_false hn
    clear e1 e2 e3 e4 hn
    go_enter Tryz.func68, Tryz.ntmps68
    go_upto_region 1 with (fail)
    obtain ⟨W, hW, extW, bx, bz, hz⟩ := box2 w 27 27 #[.bool false, .slice A n c, .bool t, .slice B m d] #[Value.bool false, Value.slice none 0 0, Value.bool false, Value.slice none 0 0]
    rw [← hW]
    clear hW
    have x0 := bx.cell 0 (.bool false) rfl
    have x1 := bx.cell 1 (.slice A n c) rfl
    have x2 := bx.cell 2 (.bool t) rfl
    have x3 := bx.cell 3 (.slice B m d) rfl
    have hE := Ext.refl W
    have z0 := (bz.ext hE).cell 0 _ rfl
    have z1 := (bz.ext hE).cell 1 _ rfl
    have z2 := (bz.ext hE).cell 2 _ rfl
    have z3 := (bz.ext hE).cell 3 _ rfl
    have f0 := (bz.ext hE).frozen 0
    have f1 := (bz.ext hE).frozen 1
    have f2 := (bz.ext hE).frozen 2
    have f3 := (bz.ext hE).frozen 3
    go_wp2_with fail
    obtain ⟨b1, b2, b3, b4⟩ := fin_quad (s := t) (A := B) (n := m) (c := d) (t := false) (B := A) (m := n) (d := c) (bz.ext hE)
    have r0 := b1.cell 0 (.bool t) rfl
    have r1 := b1.cell 1 (.slice B m d) rfl
    have r2 := b1.cell 2 (.bool false) rfl
    have r3 := b1.cell 3 (.slice A n c) rfl
    unfold set4 at r0 r1 r2 r3
    refine bodyPost_ret (v := .agg #[.bool t, .slice B m d, .bool false, .slice A n c]) (by simp [results, Tryz.results68, go_sem, r0, r1, r2, r3]) rfl ⟨t, B, m, d, false, A, n, c, rfl, ⟨?_, ?_⟩, b3 _ (extW.trans hE) (by omega)⟩
    · rw [He3.out]; exact b2 _ _ _ _ _ _ (h.den.ext extW)
    · rw [He4.out]; exact b2 _ _ _ _ _ _ (h.num.ext extW)
end
end Go.Proofs.YtiioodgpkdbndaaGreatDoor
namespace Go.Proofs.YtiioodgpkdbndaaGreatDoor
open Go.RowKit
attribute [local go_sem ↓] Go.wp_at_zero Go.wp_at_succ
section
variable {w w' : World} {z y : Int} {q p : Rat} {L M : Nat} {s t s' t' : Bool} {A B A' B' : Option Addr} {n c m d n' c' m' d' : Nat}
theorem rat_mul_one {q p : Rat} (h1 : (q.den : Int) = 1) (h2 : (p.den : Int) = 1) : (q * p).num = q.num * p.num ∧ ((q * p).den : Int) = (q.den : Int) := by
  have e1 : q.den = 1 := by omega
  have e2 : p.den = 1 := by omega
  obtain ⟨a, b⟩ := rat_mul q p (g := 1) (h := 1) (by rw [e2]; simp) (by rw [e1]; simp)
  rw [a, b, e1, e2]
  simp
set_option maxHeartbeats 16000000 in
set_option maxRecDepth 100000 in
theorem q_MulR (h : NR w q L s A n c t B m d) (k : NR w p M s' A' n' c' t' B' m' d') (hL : L ≤ 1000) (hM : M ≤ 1000) : Calls Tryz.prog 35 #[.agg #[.bool s, .slice A n c, .bool t, .slice B m d], .agg #[.bool s', .slice A' n' c', .bool t', .slice B' m' d']] w (RetNR (q * p) (L + M) w) := by
  have hL1 := h.pos
  have hM1 := k.pos
  go_enter Tryz.func35, Tryz.ntmps35
  go_upto_region 1 with (fail)
  obtain ⟨W, hW, extW, bx, by_, bz, hz⟩ := box3 w 27 27 27 #[.bool s, .slice A n c, .bool t, .slice B m d] #[.bool s', .slice A' n' c', .bool t', .slice B' m' d'] #[Value.bool false, Value.slice none 0 0, Value.bool false, Value.slice none 0 0]
  rw [← hW]
  clear hW
  replace h := h.ext extW
  replace k := k.ext extW
  have hz1 := h.num.zero
  have hz2 := k.num.zero
  by_cases hq0 : q.num = 0
  · have hn2 : ((n : Int) == 0) = true := by rw [beq_iff_eq]; have := hz1.2 hq0; omega
    have hqp : q * p = ((0 : Int) : Rat) := by rw [Rat.num_eq_zero.1 hq0, Rat.zero_mul]; rfl
    clear hz1 hz2 hq0
    have x1 := bx.cell 1 (.slice A n c) rfl
    have y1 := by_.cell 1 (.slice A' n' c') rfl
    go_wp2_with fail
    refine (q_FromIntR 0 (by omega) (by omega)).mono ?_
    rintro e wb ⟨s1, A1, n1, c1', t1, B1, m1, d1, rfl, hr, hxb⟩
    have z0 := (bz.ext hxb).cell 0 _ rfl
    have z1 := (bz.ext hxb).cell 1 _ rfl
    have z2 := (bz.ext hxb).cell 2 _ rfl
    have z3 := (bz.ext hxb).cell 3 _ rfl
    have f0 := (bz.ext hxb).frozen 0
    have f1 := (bz.ext hxb).frozen 1
    have f2 := (bz.ext hxb).frozen 2
    have f3 := (bz.ext hxb).frozen 3
    go_wp2_with fail
    obtain ⟨b1, b2, b3, b4⟩ := fin_quad (s := s1) (A := A1) (n := n1) (c := c1') (t := t1) (B := B1) (m := m1) (d := d1) (bz.ext hxb)
    have r0 := b1.cell 0 (.bool s1) rfl
    have r1 := b1.cell 1 (.slice A1 n1 c1') rfl
    have r2 := b1.cell 2 (.bool t1) rfl
    have r3 := b1.cell 3 (.slice B1 m1 d1) rfl
    unfold set4 at r0 r1 r2 r3
    refine bodyPost_ret (v := .agg #[.bool s1, .slice A1 n1 c1', .bool t1, .slice B1 m1 d1]) (by simp [results, Tryz.results35, go_sem, r0, r1, r2, r3]) rfl ⟨s1, A1, n1, c1', t1, B1, m1, d1, rfl, ⟨?_, ?_⟩, b3 _ (extW.trans hxb) (by omega)⟩
    · rw [hqp]; exact (b2 _ _ _ _ _ _ hr.num).le (by omega)
    · rw [hqp]; exact (b2 _ _ _ _ _ _ hr.den).le (by omega)
  · have hn2 : ((n : Int) == 0) = false := by rw [beq_eq_false_iff_ne]; intro h0; exact hq0 (hz1.1 (by omega))
    by_cases hp0 : p.num = 0
    · have hm2 : ((n' : Int) == 0) = true := by rw [beq_iff_eq]; have := hz2.2 hp0; omega
      have hqp : q * p = ((0 : Int) : Rat) := by rw [Rat.num_eq_zero.1 hp0, Rat.mul_zero]; rfl
      clear hz1 hz2 hq0 hp0
      have x1 := bx.cell 1 (.slice A n c) rfl
      have y1 := by_.cell 1 (.slice A' n' c') rfl
      go_wp2_with fail
      refine (q_FromIntR 0 (by omega) (by omega)).mono ?_
      rintro e wb ⟨s1, A1, n1, c1', t1, B1, m1, d1, rfl, hr, hxb⟩
      have z0 := (bz.ext hxb).cell 0 _ rfl
      have z1 := (bz.ext hxb).cell 1 _ rfl
      have z2 := (bz.ext hxb).cell 2 _ rfl
      have z3 := (bz.ext hxb).cell 3 _ rfl
      have f0 := (bz.ext hxb).frozen 0
      have f1 := (bz.ext hxb).frozen 1
      have f2 := (bz.ext hxb).frozen 2
      have f3 := (bz.ext hxb).frozen 3
      go_wp2_with fail
      obtain ⟨b1, b2, b3, b4⟩ := fin_quad (s := s1) (A := A1) (n := n1) (c := c1') (t := t1) (B := B1) (m := m1) (d := d1) (bz.ext hxb)
      have r0 := b1.cell 0 (.bool s1) rfl
      have r1 := b1.cell 1 (.slice A1 n1 c1') rfl
      have r2 := b1.cell 2 (.bool t1) rfl
      have r3 := b1.cell 3 (.slice B1 m1 d1) rfl
      unfold set4 at r0 r1 r2 r3
      refine bodyPost_ret (v := .agg #[.bool s1, .slice A1 n1 c1', .bool t1, .slice B1 m1 d1]) (by simp [results, Tryz.results35, go_sem, r0, r1, r2, r3]) rfl ⟨s1, A1, n1, c1', t1, B1, m1, d1, rfl, ⟨?_, ?_⟩, b3 _ (extW.trans hxb) (by omega)⟩
      · rw [hqp]; exact (b2 _ _ _ _ _ _ hr.num).le (by omega)
      · rw [hqp]; exact (b2 _ _ _ _ _ _ hr.den).le (by omega)
    · have hm2 : ((n' : Int) == 0) = false := by rw [beq_eq_false_iff_ne]; intro h0; exact hp0 (hz2.1 (by omega))
      clear hz1 hz2 hq0 hp0
      have x1 := bx.cell 1 (.slice A n c) rfl
      have y1 := by_.cell 1 (.slice A' n' c') rfl
      go_upto_region 3 with (fail)
      clear x1 y1
      have x0 := bx.cell 0 (.bool s) rfl
      have x1 := bx.cell 1 (.slice A n c) rfl
      have x2 := bx.cell 2 (.bool t) rfl
      have x3 := bx.cell 3 (.slice B m d) rfl
      go_wp2_with fail
      refine (q_one h.den).mono ?_
      rintro e wb ⟨rfl, hxb⟩
      replace bx := bx.ext hxb
      replace by_ := by_.ext hxb
      replace bz := bz.ext hxb
      replace h := h.ext hxb
      replace k := k.ext hxb
      replace extW := extW.trans hxb
      clear hxb
      clear x0 x1 x2 x3
      by_cases h1 : (q.den : Int) = 1
      · rw [decide_eq_true h1]
        have H1 := Lib.hid h1
        clear h1
        have y2 := by_.cell 2 (.bool t') rfl
        have y3 := by_.cell 3 (.slice B' m' d') rfl
        go_wp2_with fail
        refine (q_one k.den).mono ?_
        rintro e V ⟨rfl, hxc⟩
        replace bx := bx.ext hxc
        replace by_ := by_.ext hxc
        replace bz := bz.ext hxc
        replace h := h.ext hxc
        replace k := k.ext hxc
        replace extW := extW.trans hxc
        clear hxc y2 y3
        by_cases h2 : (p.den : Int) = 1
        · rw [decide_eq_true h2]
          have H2 := Lib.hid h2
          clear h2
          go_wp2_with fail
          refine wpL.start 8 (by kernel_rfl) (fun _ _ _ _ _ => ⟨fun h => h, fun h => h⟩) (fun hQ ES => ?_)
          refine wpL.take (i := 0) (d := some 28) (v := ?v0_48) rfl rfl (by kernel_rfl) (by kernel_rfl) (by kernel_rfl) (by kernel_rfl) hQ (Or.inl ⟨by rfl, ?y0_48⟩) ES ?r0_48
          case y0_48 =>
            intro w' hSw
            have k00 := (bx.ext hSw).c4
            have k10 := (by_.ext hSw).c4
            go_simp
            try with_reducible rfl
          try simp only [Act.put]
          try simp only [List.setIfInBounds_toArray]
          try simp only [List.set_cons_succ]
          try simp only [List.set_cons_zero]
          refine wpL.take (i := 2) (d := some 30) (v := ?v2_49) rfl rfl (by kernel_rfl) (by kernel_rfl) (by kernel_rfl) (by kernel_rfl) hQ (Or.inl ⟨by rfl, ?y2_49⟩) ES ?r2_49
          case y2_49 =>
            intro w' hSw
            have k00 := (bx.ext hSw).c4
            have k10 := (by_.ext hSw).c4
            go_simp
            try with_reducible rfl
          try simp only [Act.put]
          try simp only [List.setIfInBounds_toArray]
          try simp only [List.set_cons_succ]
          try simp only [List.set_cons_zero]
          refine wpL.take (i := 5) (d := some 33) (v := ?v5_50) rfl rfl (by kernel_rfl) (by kernel_rfl) (by kernel_rfl) (by kernel_rfl) hQ (Or.inl ⟨by rfl, ?y5_50⟩) ES ?r5_50
          case y5_50 =>
            intro w' hSw
            have k00 := (bx.ext hSw).c4
            have k10 := (by_.ext hSw).c4
            go_simp
            try with_reducible rfl
          try simp only [Act.put]
          try simp only [List.setIfInBounds_toArray]
          try simp only [List.set_cons_succ]
          try simp only [List.set_cons_zero]
          refine wpL.take (i := 1) (d := some 29) (v := ?v1_51) rfl rfl (by kernel_rfl) (by kernel_rfl) (by kernel_rfl) (by kernel_rfl) hQ (Or.inl ⟨by rfl, ?y1_51⟩) ES ?r1_51
          case y1_51 =>
            intro w' hSw
            have k00 := (bx.ext hSw).c4
            have k10 := (by_.ext hSw).c4
            go_simp
            try with_reducible rfl
          try simp only [Act.put]
          try simp only [List.setIfInBounds_toArray]
          try simp only [List.set_cons_succ]
          try simp only [List.set_cons_zero]
          refine wpL.take (i := 3) (d := some 31) (v := ?v3_52) rfl rfl (by kernel_rfl) (by kernel_rfl) (by kernel_rfl) (by kernel_rfl) hQ (Or.inl ⟨by rfl, ?y3_52⟩) ES ?r3_52
          case y3_52 =>
            intro w' hSw
            have k00 := (bx.ext hSw).c4
            have k10 := (by_.ext hSw).c4
            go_simp
            try with_reducible rfl
          try simp only [Act.put]
          try simp only [List.setIfInBounds_toArray]
          try simp only [List.set_cons_succ]
          try simp only [List.set_cons_zero]
          refine wpL.take (i := 6) (d := some 34) (v := ?v6_53) rfl rfl (by kernel_rfl) (by kernel_rfl) (by kernel_rfl) (by kernel_rfl) hQ (Or.inl ⟨by rfl, ?y6_53⟩) ES ?r6_53
          case y6_53 =>
            intro w' hSw
            have k00 := (bx.ext hSw).c4
            have k10 := (by_.ext hSw).c4
            go_simp
            try with_reducible rfl
          try simp only [Act.put]
          try simp only [List.setIfInBounds_toArray]
          try simp only [List.set_cons_succ]
          try simp only [List.set_cons_zero]
          refine wpL.call (i := 4) rfl (by kernel_rfl) (fun K hK => ?_)
          go_simp
          (go_at_call 74; refine (q_Mul (h.num.ext ES) (k.num.ext ES) (by omega) (by omega)).mono ?_; rintro e wk1 ⟨s5, A5, n5, c5, rfl, h5, hx0⟩; have E0_4 := Ext.trans ES hx0)
          refine hK.out _ _ E0_4 ?_
          clear hK K
          try simp only [Act.put]
          try simp only [List.setIfInBounds_toArray]
          try simp only [List.set_cons_succ]
          try simp only [List.set_cons_zero]
          refine wpL.take (i := 7) (d := some 35) (v := ?v7_54) rfl rfl (by kernel_rfl) (by kernel_rfl) (by kernel_rfl) (by kernel_rfl) hQ (Or.inl ⟨by rfl, ?y7_54⟩) E0_4 ?r7_54
          case y7_54 =>
            intro w' hSw
            have k00 := (bx.ext hSw).c4
            have k10 := (by_.ext hSw).c4
            go_simp
            try with_reducible rfl
          try simp only [Act.put]
          try simp only [List.setIfInBounds_toArray]
          try simp only [List.set_cons_succ]
          try simp only [List.set_cons_zero]
          have z0 := (bz.ext E0_4).cell 0 _ rfl
          have z1 := (bz.ext E0_4).cell 1 _ rfl
          have z2 := (bz.ext E0_4).cell 2 _ rfl
          have z3 := (bz.ext E0_4).cell 3 _ rfl
          have f0 := (bz.ext E0_4).frozen 0
          have f1 := (bz.ext E0_4).frozen 1
          have f2 := (bz.ext E0_4).frozen 2
          have f3 := (bz.ext E0_4).frozen 3
          refine wpL.tail (i := 8) rfl (by kernel_rfl) (by kernel_rfl) (fun K hK => ?_)
          go_simp
          refine hK.out _ _ ?_
          clear hK K
          try simp only [Act.put]
          try simp only [List.setIfInBounds_toArray]
          try simp only [List.set_cons_succ]
          try simp only [List.set_cons_zero]
          refine wpL.done (by kernel_rfl) ?_ _
          clear hQ
          go_wp2_with fail
          obtain ⟨e5, e6⟩ := rat_mul_one H1.out H2.out
          obtain ⟨b1, b2, b3, b4⟩ := fin_quad (s := s5) (A := A5) (n := n5) (c := c5) (t := t) (B := B) (m := m) (d := d) (bz.ext E0_4)
          have r0 := b1.cell 0 (.bool s5) rfl
          have r1 := b1.cell 1 (.slice A5 n5 c5) rfl
          have r2 := b1.cell 2 (.bool t) rfl
          have r3 := b1.cell 3 (.slice B m d) rfl
          unfold set4 at r0 r1 r2 r3
          refine bodyPost_ret (v := .agg #[.bool s5, .slice A5 n5 c5, .bool t, .slice B m d]) (by simp [results, Tryz.results35, go_sem, r0, r1, r2, r3]) rfl ⟨s5, A5, n5, c5, t, B, m, d, rfl, ⟨?_, ?_⟩, b3 _ (extW.trans E0_4) (by omega)⟩
          · rw [e5]; exact b2 _ _ _ _ _ _ h5
          · rw [e6]; exact (b2 _ _ _ _ _ _ (h.den.ext E0_4)).le (by omega)
        · rw [decide_eq_false h2]
          clear h2
          go_wp2_with fail
          have ES0 := Ext.refl V
          refine wp_region_held_drew (S := Ext V) (by kernel_rfl) ES0.drew (fun ES => ?_)
          clear ES0
          refine Late.start2 (x := ⟨10, 5, 24, #[Value.bool false, Value.slice none 0 0]⟩) (y := ⟨11, 6, 24, #[Value.bool false, Value.slice none 0 0]⟩) (n := 12) ⟨_, rfl, rfl, rfl, fun a w => by go_simp⟩ ⟨_, rfl, rfl, rfl, fun a w => by go_simp⟩ (fun _ _ _ _ _ => ⟨fun h => h, fun h => h⟩) ES rfl (fun hAl hQ => ?_)
          refine Late.take (i := 0) (d := some 36) (v := ?v0_55a) rfl rfl (by kernel_rfl) (by kernel_rfl) (by kernel_rfl) (by kernel_rfl) hQ (Or.inl ⟨by rfl, ?y0_55a⟩) ?r0_55a
          case y0_55a =>
            intro w' hSw
            have k00 := (bx.ext hSw).c4
            have k10 := (by_.ext hSw).c4
            go_simp
            try with_reducible rfl
          try simp only [Act.put]
          try simp only [List.setIfInBounds_toArray]
          try simp only [List.set_cons_succ]
          try simp only [List.set_cons_zero]
          refine Late.take (i := 2) (d := some 38) (v := ?v2_56a) rfl rfl (by kernel_rfl) (by kernel_rfl) (by kernel_rfl) (by kernel_rfl) hQ (Or.inl ⟨by rfl, ?y2_56a⟩) ?r2_56a
          case y2_56a =>
            intro w' hSw
            have k00 := (bx.ext hSw).c4
            have k10 := (by_.ext hSw).c4
            go_simp
            try with_reducible rfl
          try simp only [Act.put]
          try simp only [List.setIfInBounds_toArray]
          try simp only [List.set_cons_succ]
          try simp only [List.set_cons_zero]
          refine Late.take (i := 5) (d := some 41) (v := ?v5_57a) rfl rfl (by kernel_rfl) (by kernel_rfl) (by kernel_rfl) (by kernel_rfl) hQ (Or.inl ⟨by rfl, ?y5_57a⟩) ?r5_57a
          case y5_57a =>
            intro w' hSw
            have k00 := (bx.ext hSw).c4
            have k10 := (by_.ext hSw).c4
            go_simp
            try with_reducible rfl
          try simp only [Act.put]
          try simp only [List.setIfInBounds_toArray]
          try simp only [List.set_cons_succ]
          try simp only [List.set_cons_zero]
          refine Late.take (i := 7) (d := some 43) (v := ?v7_58a) rfl rfl (by kernel_rfl) (by kernel_rfl) (by kernel_rfl) (by kernel_rfl) hQ (Or.inl ⟨by rfl, ?y7_58a⟩) ?r7_58a
          case y7_58a =>
            intro w' hSw
            have k00 := (bx.ext hSw).c4
            have k10 := (by_.ext hSw).c4
            go_simp
            try with_reducible rfl
          try simp only [Act.put]
          try simp only [List.setIfInBounds_toArray]
          try simp only [List.set_cons_succ]
          try simp only [List.set_cons_zero]
          refine Late.take (i := 1) (d := some 37) (v := ?v1_59a) rfl rfl (by kernel_rfl) (by kernel_rfl) (by kernel_rfl) (by kernel_rfl) hQ (Or.inl ⟨by rfl, ?y1_59a⟩) ?r1_59a
          case y1_59a =>
            intro w' hSw
            have k00 := (bx.ext hSw).c4
            have k10 := (by_.ext hSw).c4
            go_simp
            try with_reducible rfl
          try simp only [Act.put]
          try simp only [List.setIfInBounds_toArray]
          try simp only [List.set_cons_succ]
          try simp only [List.set_cons_zero]
          refine Late.take (i := 3) (d := some 39) (v := ?v3_60a) rfl rfl (by kernel_rfl) (by kernel_rfl) (by kernel_rfl) (by kernel_rfl) hQ (Or.inl ⟨by rfl, ?y3_60a⟩) ?r3_60a
          case y3_60a =>
            intro w' hSw
            have k00 := (bx.ext hSw).c4
            have k10 := (by_.ext hSw).c4
            go_simp
            try with_reducible rfl
          try simp only [Act.put]
          try simp only [List.setIfInBounds_toArray]
          try simp only [List.set_cons_succ]
          try simp only [List.set_cons_zero]
          refine Late.take (i := 6) (d := some 42) (v := ?v6_61a) rfl rfl (by kernel_rfl) (by kernel_rfl) (by kernel_rfl) (by kernel_rfl) hQ (Or.inl ⟨by rfl, ?y6_61a⟩) ?r6_61a
          case y6_61a =>
            intro w' hSw
            have k00 := (bx.ext hSw).c4
            have k10 := (by_.ext hSw).c4
            go_simp
            try with_reducible rfl
          try simp only [Act.put]
          try simp only [List.setIfInBounds_toArray]
          try simp only [List.set_cons_succ]
          try simp only [List.set_cons_zero]
          refine Late.take (i := 8) (d := some 44) (v := ?v8_62a) rfl rfl (by kernel_rfl) (by kernel_rfl) (by kernel_rfl) (by kernel_rfl) hQ (Or.inl ⟨by rfl, ?y8_62a⟩) ?r8_62a
          case y8_62a =>
            intro w' hSw
            have k00 := (bx.ext hSw).c4
            have k10 := (by_.ext hSw).c4
            go_simp
            try with_reducible rfl
          try simp only [Act.put]
          try simp only [List.setIfInBounds_toArray]
          try simp only [List.set_cons_succ]
          try simp only [List.set_cons_zero]
          refine Late.call (i := 4) rfl (by kernel_rfl) hAl (by kernel_rfl) (by kernel_rfl) (by kernel_rfl) hQ (fun w4 e4 E4 K hK => ?_)
          go_simp
          (go_at_call 59; refine (q_GCD (h.num.ext E4) (k.den.ext E4) (by omega) (by omega)).mono ?_; rintro e wk1 ⟨s1, A1, n1, c1', rfl, h1, hx4⟩; rw [Int.natAbs_natCast] at h1)
          refine hK.out _ _ hx4 ?_
          clear hK K
          try simp only [Act.put]
          try simp only [List.setIfInBounds_toArray]
          try simp only [List.set_cons_succ]
          try simp only [List.set_cons_zero]
          refine Late.call (i := 9) rfl (by kernel_rfl) hAl (by kernel_rfl) (by kernel_rfl) (by kernel_rfl) hQ (fun w9 e9 E9 K hK => ?_)
          go_simp
          (go_at_call 59; refine (q_GCD (k.num.ext E9) (h.den.ext E9) (by omega) (by omega)).mono ?_; rintro e wk2 ⟨s2, A2, n2, c2', rfl, h2, hx9⟩; rw [Int.natAbs_natCast] at h2)
          refine hK.out _ _ hx9 ?_
          clear hK K
          try simp only [Act.put]
          try simp only [List.setIfInBounds_toArray]
          try simp only [List.set_cons_succ]
          try simp only [List.set_cons_zero]
          refine Late.finish2 (hAl _ (by simp)) (hAl _ (by simp)) (by decide) (by decide) (by kernel_rfl) (by kernel_rfl) (by kernel_rfl) (fun wz g5 g6 ez Ez lg5 lg6 hne xb1 xb2 => ?_)
          clear hAl hQ ES
          have p10 := xb1.cell 0 (Value.bool false) rfl
          have p11 := xb1.cell 1 (Value.slice none 0 0) rfl
          have f10 := xb1.frozen 0
          have f11 := xb1.frozen 1
          have e4 := fin_dual (s := s1) (A := A1) (n := n1) (c := c1') xb1
          try simp only [Act.put]
          try simp only [List.setIfInBounds_toArray]
          try simp only [List.set_cons_succ]
          try simp only [List.set_cons_zero]
          refine wpAnyH_ready (rs := [12]) (by kernel_rfl) (by simp) (AllReadyH.cons rfl (fun K hK => ?_) AllReadyH.nil)
          go_simp
          refine hK.out _ _ (e4.2.2.1 _ Ez lg5) (fun _ => ?_)
          clear hK K
          try simp only [Act.put]
          try simp only [List.setIfInBounds_toArray]
          try simp only [List.set_cons_succ]
          try simp only [List.set_cons_zero]
          have e5 := e4.2.2.2 _ _ _ (Ne.symm hne) xb2
          refine any_world (fun U => Ext V U ∧ Box U g5 24 #[.bool s1, .slice A1 n1 c1'] ∧ Box U g6 24 #[Value.bool false, Value.slice none 0 0] ∧ NI U ((q.num.natAbs.gcd p.den : Nat) : Int) (max L M) s1 A1 n1 c1' ∧ NI U ((p.num.natAbs.gcd q.den : Nat) : Int) (max M L) s2 A2 n2 c2') ⟨e4.2.2.1 _ Ez lg5, e4.1, e5, e4.2.1 _ _ _ _ _ _ (h1.ext (e9.trans (hx9.trans ez))), e4.2.1 _ _ _ _ _ _ (h2.ext ez)⟩ ?_
          clear e4 e5 p10 p11 f10 f11 xb1 xb2
          rintro U ⟨EU, b8, xb2, h1, h2⟩
          have p10 := xb2.cell 0 (Value.bool false) rfl
          have p11 := xb2.cell 1 (Value.slice none 0 0) rfl
          have f10 := xb2.frozen 0
          have f11 := xb2.frozen 1
          have e4 := fin_dual (s := s2) (A := A2) (n := n2) (c := c2') xb2
          refine wpAnyH_ready (rs := [13]) (by kernel_rfl) (by simp) (AllReadyH.cons rfl (fun K hK => ?_) AllReadyH.nil)
          go_simp
          refine hK.out _ _ (e4.2.2.1 _ EU lg6) (fun _ => ?_)
          clear hK K
          try simp only [Act.put]
          try simp only [List.setIfInBounds_toArray]
          try simp only [List.set_cons_succ]
          try simp only [List.set_cons_zero]
          refine any_world (fun U2 => Ext V U2 ∧ Box U2 g5 24 #[.bool s1, .slice A1 n1 c1'] ∧ Box U2 g6 24 #[.bool s2, .slice A2 n2 c2'] ∧ NI U2 ((q.num.natAbs.gcd p.den : Nat) : Int) (max L M) s1 A1 n1 c1' ∧ NI U2 ((p.num.natAbs.gcd q.den : Nat) : Int) (max M L) s2 A2 n2 c2') ⟨e4.2.2.1 _ EU lg6, e4.2.2.2 _ _ _ hne b8, e4.1, e4.2.1 _ _ _ _ _ _ h1, e4.2.1 _ _ _ _ _ _ h2⟩ ?_
          clear e4 p10 p11 f10 f11 xb2 b8 h1 h2 lg5 lg6
          rintro U2 ⟨EU2, b8, b9, h1, h2⟩
          refine wpAnyH_done (by kernel_rfl) ?_ _
          replace bx := bx.ext EU2
          replace by_ := by_.ext EU2
          replace bz := bz.ext EU2
          replace h := h.ext EU2
          replace k := k.ext EU2
          replace extW := extW.trans EU2
          clear EU EU2 Ez ez
          obtain ⟨g, hge⟩ : ∃ g, q.num.natAbs.gcd p.den = g := ⟨_, rfl⟩
          obtain ⟨hq, hhe⟩ : ∃ g, p.num.natAbs.gcd q.den = g := ⟨_, rfl⟩
          rw [hge] at h1
          rw [hhe] at h2
          obtain ⟨q1, q2⟩ := rat_mul q p hge.symm hhe.symm
          have Hq1 := Lib.hid q1
          have Hq2 := Lib.hid q2
          have hgq : g ∣ q.num.natAbs := by rw [← hge]; exact Nat.gcd_dvd_left _ _
          have hgp : g ∣ p.den := by rw [← hge]; exact Nat.gcd_dvd_right _ _
          have hhp : hq ∣ p.num.natAbs := by rw [← hhe]; exact Nat.gcd_dvd_left _ _
          have hhq : hq ∣ q.den := by rw [← hhe]; exact Nat.gcd_dvd_right _ _
          have hg0 : (g : Int) ≠ 0 := by
            intro h0
            have : g = 0 := by omega
            rw [this] at hgp
            exact p.den_nz (Nat.eq_zero_of_zero_dvd hgp)
          have hh0 : (hq : Int) ≠ 0 := by
            intro h0
            have : hq = 0 := by omega
            rw [this] at hhq
            exact q.den_nz (Nat.eq_zero_of_zero_dvd hhq)
          have Hg0 := Lib.hid hg0
          have Hh0 := Lib.hid hh0
          have Hgq := Lib.hid (Int.ofNat_dvd_left.2 hgq)
          have Hgp := Lib.hid (Int.ofNat_dvd.2 hgp)
          have Hhp := Lib.hid (Int.ofNat_dvd_left.2 hhp)
          have Hhq := Lib.hid (Int.ofNat_dvd.2 hhq)
          have hg := h1
          have hh := h2
          clear hge hhe q1 q2 hgq hgp hhp hhq hg0 hh0 h1 h2
          go_wp2_with fail
          refine wpL.start 19 (by kernel_rfl) (fun _ _ _ _ _ => ⟨fun h => h, fun h => h⟩) (fun hQ ES => ?_)
          refine wpL.take (i := 0) (d := some 46) (v := ?v0_63a) rfl rfl (by kernel_rfl) (by kernel_rfl) (by kernel_rfl) (by kernel_rfl) hQ (Or.inl ⟨by rfl, ?y0_63a⟩) ES ?r0_63a
          case y0_63a =>
            intro w' hSw
            have k00 := (bx.ext hSw).c4
            have k10 := (by_.ext hSw).c4
            have k20 := (b8.ext hSw).c2
            have k30 := (b9.ext hSw).c2
            go_simp
            try with_reducible rfl
          try simp only [Act.put]
          try simp only [List.setIfInBounds_toArray]
          try simp only [List.set_cons_succ]
          try simp only [List.set_cons_zero]
          refine wpL.take (i := 2) (d := some 48) (v := ?v2_64a) rfl rfl (by kernel_rfl) (by kernel_rfl) (by kernel_rfl) (by kernel_rfl) hQ (Or.inl ⟨by rfl, ?y2_64a⟩) ES ?r2_64a
          case y2_64a =>
            intro w' hSw
            have k00 := (bx.ext hSw).c4
            have k10 := (by_.ext hSw).c4
            have k20 := (b8.ext hSw).c2
            have k30 := (b9.ext hSw).c2
            go_simp
            try with_reducible rfl
          try simp only [Act.put]
          try simp only [List.setIfInBounds_toArray]
          try simp only [List.set_cons_succ]
          try simp only [List.set_cons_zero]
          refine wpL.take (i := 4) (d := some 50) (v := ?v4_65a) rfl rfl (by kernel_rfl) (by kernel_rfl) (by kernel_rfl) (by kernel_rfl) hQ (Or.inl ⟨by rfl, ?y4_65a⟩) ES ?r4_65a
          case y4_65a =>
            intro w' hSw
            have k00 := (bx.ext hSw).c4
            have k10 := (by_.ext hSw).c4
            have k20 := (b8.ext hSw).c2
            have k30 := (b9.ext hSw).c2
            go_simp
            try with_reducible rfl
          try simp only [Act.put]
          try simp only [List.setIfInBounds_toArray]
          try simp only [List.set_cons_succ]
          try simp only [List.set_cons_zero]
          refine wpL.take (i := 6) (d := some 52) (v := ?v6_66a) rfl rfl (by kernel_rfl) (by kernel_rfl) (by kernel_rfl) (by kernel_rfl) hQ (Or.inl ⟨by rfl, ?y6_66a⟩) ES ?r6_66a
          case y6_66a =>
            intro w' hSw
            have k00 := (bx.ext hSw).c4
            have k10 := (by_.ext hSw).c4
            have k20 := (b8.ext hSw).c2
            have k30 := (b9.ext hSw).c2
            go_simp
            try with_reducible rfl
          try simp only [Act.put]
          try simp only [List.setIfInBounds_toArray]
          try simp only [List.set_cons_succ]
          try simp only [List.set_cons_zero]
          refine wpL.take (i := 9) (d := some 55) (v := ?v9_67a) rfl rfl (by kernel_rfl) (by kernel_rfl) (by kernel_rfl) (by kernel_rfl) hQ (Or.inl ⟨by rfl, ?y9_67a⟩) ES ?r9_67a
          case y9_67a =>
            intro w' hSw
            have k00 := (bx.ext hSw).c4
            have k10 := (by_.ext hSw).c4
            have k20 := (b8.ext hSw).c2
            have k30 := (b9.ext hSw).c2
            go_simp
            try with_reducible rfl
          try simp only [Act.put]
          try simp only [List.setIfInBounds_toArray]
          try simp only [List.set_cons_succ]
          try simp only [List.set_cons_zero]
          refine wpL.take (i := 11) (d := some 57) (v := ?v11_68a) rfl rfl (by kernel_rfl) (by kernel_rfl) (by kernel_rfl) (by kernel_rfl) hQ (Or.inl ⟨by rfl, ?y11_68a⟩) ES ?r11_68a
          case y11_68a =>
            intro w' hSw
            have k00 := (bx.ext hSw).c4
            have k10 := (by_.ext hSw).c4
            have k20 := (b8.ext hSw).c2
            have k30 := (b9.ext hSw).c2
            go_simp
            try with_reducible rfl
          try simp only [Act.put]
          try simp only [List.setIfInBounds_toArray]
          try simp only [List.set_cons_succ]
          try simp only [List.set_cons_zero]
          refine wpL.take (i := 13) (d := some 59) (v := ?v13_69a) rfl rfl (by kernel_rfl) (by kernel_rfl) (by kernel_rfl) (by kernel_rfl) hQ (Or.inl ⟨by rfl, ?y13_69a⟩) ES ?r13_69a
          case y13_69a =>
            intro w' hSw
            have k00 := (bx.ext hSw).c4
            have k10 := (by_.ext hSw).c4
            have k20 := (b8.ext hSw).c2
            have k30 := (b9.ext hSw).c2
            go_simp
            try with_reducible rfl
          try simp only [Act.put]
          try simp only [List.setIfInBounds_toArray]
          try simp only [List.set_cons_succ]
          try simp only [List.set_cons_zero]
          refine wpL.take (i := 15) (d := some 61) (v := ?v15_70a) rfl rfl (by kernel_rfl) (by kernel_rfl) (by kernel_rfl) (by kernel_rfl) hQ (Or.inl ⟨by rfl, ?y15_70a⟩) ES ?r15_70a
          case y15_70a =>
            intro w' hSw
            have k00 := (bx.ext hSw).c4
            have k10 := (by_.ext hSw).c4
            have k20 := (b8.ext hSw).c2
            have k30 := (b9.ext hSw).c2
            go_simp
            try with_reducible rfl
          try simp only [Act.put]
          try simp only [List.setIfInBounds_toArray]
          try simp only [List.set_cons_succ]
          try simp only [List.set_cons_zero]
          refine wpL.take (i := 1) (d := some 47) (v := ?v1_71a) rfl rfl (by kernel_rfl) (by kernel_rfl) (by kernel_rfl) (by kernel_rfl) hQ (Or.inl ⟨by rfl, ?y1_71a⟩) ES ?r1_71a
          case y1_71a =>
            intro w' hSw
            have k00 := (bx.ext hSw).c4
            have k10 := (by_.ext hSw).c4
            have k20 := (b8.ext hSw).c2
            have k30 := (b9.ext hSw).c2
            go_simp
            try with_reducible rfl
          try simp only [Act.put]
          try simp only [List.setIfInBounds_toArray]
          try simp only [List.set_cons_succ]
          try simp only [List.set_cons_zero]
          refine wpL.take (i := 5) (d := some 51) (v := ?v5_72a) rfl rfl (by kernel_rfl) (by kernel_rfl) (by kernel_rfl) (by kernel_rfl) hQ (Or.inl ⟨by rfl, ?y5_72a⟩) ES ?r5_72a
          case y5_72a =>
            intro w' hSw
            have k00 := (bx.ext hSw).c4
            have k10 := (by_.ext hSw).c4
            have k20 := (b8.ext hSw).c2
            have k30 := (b9.ext hSw).c2
            go_simp
            try with_reducible rfl
          try simp only [Act.put]
          try simp only [List.setIfInBounds_toArray]
          try simp only [List.set_cons_succ]
          try simp only [List.set_cons_zero]
          refine wpL.take (i := 10) (d := some 56) (v := ?v10_73a) rfl rfl (by kernel_rfl) (by kernel_rfl) (by kernel_rfl) (by kernel_rfl) hQ (Or.inl ⟨by rfl, ?y10_73a⟩) ES ?r10_73a
          case y10_73a =>
            intro w' hSw
            have k00 := (bx.ext hSw).c4
            have k10 := (by_.ext hSw).c4
            have k20 := (b8.ext hSw).c2
            have k30 := (b9.ext hSw).c2
            go_simp
            try with_reducible rfl
          try simp only [Act.put]
          try simp only [List.setIfInBounds_toArray]
          try simp only [List.set_cons_succ]
          try simp only [List.set_cons_zero]
          refine wpL.take (i := 14) (d := some 60) (v := ?v14_74a) rfl rfl (by kernel_rfl) (by kernel_rfl) (by kernel_rfl) (by kernel_rfl) hQ (Or.inl ⟨by rfl, ?y14_74a⟩) ES ?r14_74a
          case y14_74a =>
            intro w' hSw
            have k00 := (bx.ext hSw).c4
            have k10 := (by_.ext hSw).c4
            have k20 := (b8.ext hSw).c2
            have k30 := (b9.ext hSw).c2
            go_simp
            try with_reducible rfl
          try simp only [Act.put]
          try simp only [List.setIfInBounds_toArray]
          try simp only [List.set_cons_succ]
          try simp only [List.set_cons_zero]
          refine wpL.call (i := 3) rfl (by kernel_rfl) (fun K hK => ?_)
          go_simp
          (go_at_call 62; refine (q_quo (h.num.ext ES) (hg.ext ES) (by omega) (by omega) Hg0.out Hgq.out).mono ?_; rintro e wk1 ⟨s3, A3, n3, c3, rfl, h3, hx0⟩; have E0_6 := Ext.trans ES hx0)
          refine hK.out _ _ E0_6 ?_
          clear hK K
          try simp only [Act.put]
          try simp only [List.setIfInBounds_toArray]
          try simp only [List.set_cons_succ]
          try simp only [List.set_cons_zero]
          refine wpL.call (i := 7) rfl (by kernel_rfl) (fun K hK => ?_)
          go_simp
          (go_at_call 62; refine (q_quo (k.num.ext E0_6) (hh.ext E0_6) (by omega) (by omega) Hh0.out Hhp.out).mono ?_; rintro e wk2 ⟨s4, A4, n4, c4, rfl, h4, hx1⟩; have E1_6 := Ext.trans E0_6 hx1)
          refine hK.out _ _ E1_6 ?_
          clear hK K
          try simp only [Act.put]
          try simp only [List.setIfInBounds_toArray]
          try simp only [List.set_cons_succ]
          try simp only [List.set_cons_zero]
          refine wpL.call (i := 8) rfl (by kernel_rfl) (fun K hK => ?_)
          go_simp
          (go_at_call 74; refine (q_Mul (h3.ext hx1) h4 (by omega) (by omega)).mono ?_; rintro e wk3 ⟨s5, A5, n5, c5, rfl, h5, hx2⟩; have E2_6 := Ext.trans E1_6 hx2)
          refine hK.out _ _ E2_6 ?_
          clear hK K
          try simp only [Act.put]
          try simp only [List.setIfInBounds_toArray]
          try simp only [List.set_cons_succ]
          try simp only [List.set_cons_zero]
          refine wpL.call (i := 12) rfl (by kernel_rfl) (fun K hK => ?_)
          go_simp
          (go_at_call 62; refine (q_quo (h.den.ext E2_6) (hh.ext E2_6) (by omega) (by omega) Hh0.out Hhq.out).mono ?_; rintro e wk4 ⟨s6, A6, n6, c6, rfl, h6, hx3⟩; have E3_6 := Ext.trans E2_6 hx3)
          refine hK.out _ _ E3_6 ?_
          clear hK K
          try simp only [Act.put]
          try simp only [List.setIfInBounds_toArray]
          try simp only [List.set_cons_succ]
          try simp only [List.set_cons_zero]
          refine wpL.call (i := 16) rfl (by kernel_rfl) (fun K hK => ?_)
          go_simp
          (go_at_call 62; refine (q_quo (k.den.ext E3_6) (hg.ext E3_6) (by omega) (by omega) Hg0.out Hgp.out).mono ?_; rintro e wk5 ⟨s7, A7, n7, c7, rfl, h7, hx4⟩; have E4_6 := Ext.trans E3_6 hx4)
          refine hK.out _ _ E4_6 ?_
          clear hK K
          try simp only [Act.put]
          try simp only [List.setIfInBounds_toArray]
          try simp only [List.set_cons_succ]
          try simp only [List.set_cons_zero]
          refine wpL.call (i := 17) rfl (by kernel_rfl) (fun K hK => ?_)
          go_simp
          (go_at_call 74; refine (q_Mul (h6.ext hx4) h7 (by omega) (by omega)).mono ?_; rintro e wk6 ⟨s8, A8, n8, c8, rfl, h8, hx5⟩; have E5_6 := Ext.trans E4_6 hx5)
          refine hK.out _ _ E5_6 ?_
          clear hK K
          try simp only [Act.put]
          try simp only [List.setIfInBounds_toArray]
          try simp only [List.set_cons_succ]
          try simp only [List.set_cons_zero]
          refine wpL.take (i := 18) (d := some 64) (v := ?v18_75a) rfl rfl (by kernel_rfl) (by kernel_rfl) (by kernel_rfl) (by kernel_rfl) hQ (Or.inl ⟨by rfl, ?y18_75a⟩) E5_6 ?r18_75a
          case y18_75a =>
            intro w' hSw
            have k00 := (bx.ext hSw).c4
            have k10 := (by_.ext hSw).c4
            have k20 := (b8.ext hSw).c2
            have k30 := (b9.ext hSw).c2
            go_simp
            try with_reducible rfl
          try simp only [Act.put]
          try simp only [List.setIfInBounds_toArray]
          try simp only [List.set_cons_succ]
          try simp only [List.set_cons_zero]
          have z0 := (bz.ext E5_6).cell 0 _ rfl
          have z1 := (bz.ext E5_6).cell 1 _ rfl
          have z2 := (bz.ext E5_6).cell 2 _ rfl
          have z3 := (bz.ext E5_6).cell 3 _ rfl
          have f0 := (bz.ext E5_6).frozen 0
          have f1 := (bz.ext E5_6).frozen 1
          have f2 := (bz.ext E5_6).frozen 2
          have f3 := (bz.ext E5_6).frozen 3
          refine wpL.tail (i := 19) rfl (by kernel_rfl) (by kernel_rfl) (fun K hK => ?_)
          go_simp
          refine hK.out _ _ ?_
          clear hK K
          try simp only [Act.put]
          try simp only [List.setIfInBounds_toArray]
          try simp only [List.set_cons_succ]
          try simp only [List.set_cons_zero]
          refine wpL.done (by kernel_rfl) ?_ _
          clear hQ
          go_wp2_with fail
          have hk1 : ((q.den : Int) / (hq : Int)) * ((p.den : Int) / (g : Int)) = ((q * p).den : Int) := by rw [Hq2.out]; simp
          rw [hk1] at h8
          rw [← Hq1.out] at h5
          obtain ⟨b1, b2, b3, b4⟩ := fin_quad (s := s5) (A := A5) (n := n5) (c := c5) (t := s8) (B := A8) (m := n8) (d := c8) (bz.ext E5_6)
          have r0 := b1.cell 0 (.bool s5) rfl
          have r1 := b1.cell 1 (.slice A5 n5 c5) rfl
          have r2 := b1.cell 2 (.bool s8) rfl
          have r3 := b1.cell 3 (.slice A8 n8 c8) rfl
          unfold set4 at r0 r1 r2 r3
          refine bodyPost_ret (v := .agg #[.bool s5, .slice A5 n5 c5, .bool s8, .slice A8 n8 c8]) (by simp [results, Tryz.results35, go_sem, r0, r1, r2, r3]) rfl ⟨s5, A5, n5, c5, s8, A8, n8, c8, rfl, ⟨?_, ?_⟩, b3 _ (extW.trans E5_6) (by omega)⟩
          · exact b2 _ _ _ _ _ _ (h5.ext (hx3.trans (hx4.trans hx5)))
          · exact b2 _ _ _ _ _ _ h8
      · rw [decide_eq_false h1]
        clear h1
        go_wp2_with fail
        have ES0 := Ext.refl wb
        refine wp_region_held_drew (S := Ext wb) (by kernel_rfl) ES0.drew (fun ES => ?_)
        clear ES0
        refine Late.start2 (x := ⟨10, 5, 24, #[Value.bool false, Value.slice none 0 0]⟩) (y := ⟨11, 6, 24, #[Value.bool false, Value.slice none 0 0]⟩) (n := 12) ⟨_, rfl, rfl, rfl, fun a w => by go_simp⟩ ⟨_, rfl, rfl, rfl, fun a w => by go_simp⟩ (fun _ _ _ _ _ => ⟨fun h => h, fun h => h⟩) ES rfl (fun hAl hQ => ?_)
        refine Late.take (i := 0) (d := some 36) (v := ?v0_55b) rfl rfl (by kernel_rfl) (by kernel_rfl) (by kernel_rfl) (by kernel_rfl) hQ (Or.inl ⟨by rfl, ?y0_55b⟩) ?r0_55b
        case y0_55b =>
          intro w' hSw
          have k00 := (bx.ext hSw).c4
          have k10 := (by_.ext hSw).c4
          go_simp
          try with_reducible rfl
        try simp only [Act.put]
        try simp only [List.setIfInBounds_toArray]
        try simp only [List.set_cons_succ]
        try simp only [List.set_cons_zero]
        refine Late.take (i := 2) (d := some 38) (v := ?v2_56b) rfl rfl (by kernel_rfl) (by kernel_rfl) (by kernel_rfl) (by kernel_rfl) hQ (Or.inl ⟨by rfl, ?y2_56b⟩) ?r2_56b
        case y2_56b =>
          intro w' hSw
          have k00 := (bx.ext hSw).c4
          have k10 := (by_.ext hSw).c4
          go_simp
          try with_reducible rfl
        try simp only [Act.put]
        try simp only [List.setIfInBounds_toArray]
        try simp only [List.set_cons_succ]
        try simp only [List.set_cons_zero]
        refine Late.take (i := 5) (d := some 41) (v := ?v5_57b) rfl rfl (by kernel_rfl) (by kernel_rfl) (by kernel_rfl) (by kernel_rfl) hQ (Or.inl ⟨by rfl, ?y5_57b⟩) ?r5_57b
        case y5_57b =>
          intro w' hSw
          have k00 := (bx.ext hSw).c4
          have k10 := (by_.ext hSw).c4
          go_simp
          try with_reducible rfl
        try simp only [Act.put]
        try simp only [List.setIfInBounds_toArray]
        try simp only [List.set_cons_succ]
        try simp only [List.set_cons_zero]
        refine Late.take (i := 7) (d := some 43) (v := ?v7_58b) rfl rfl (by kernel_rfl) (by kernel_rfl) (by kernel_rfl) (by kernel_rfl) hQ (Or.inl ⟨by rfl, ?y7_58b⟩) ?r7_58b
        case y7_58b =>
          intro w' hSw
          have k00 := (bx.ext hSw).c4
          have k10 := (by_.ext hSw).c4
          go_simp
          try with_reducible rfl
        try simp only [Act.put]
        try simp only [List.setIfInBounds_toArray]
        try simp only [List.set_cons_succ]
        try simp only [List.set_cons_zero]
        refine Late.take (i := 1) (d := some 37) (v := ?v1_59b) rfl rfl (by kernel_rfl) (by kernel_rfl) (by kernel_rfl) (by kernel_rfl) hQ (Or.inl ⟨by rfl, ?y1_59b⟩) ?r1_59b
        case y1_59b =>
          intro w' hSw
          have k00 := (bx.ext hSw).c4
          have k10 := (by_.ext hSw).c4
          go_simp
          try with_reducible rfl
        try simp only [Act.put]
        try simp only [List.setIfInBounds_toArray]
        try simp only [List.set_cons_succ]
        try simp only [List.set_cons_zero]
        refine Late.take (i := 3) (d := some 39) (v := ?v3_60b) rfl rfl (by kernel_rfl) (by kernel_rfl) (by kernel_rfl) (by kernel_rfl) hQ (Or.inl ⟨by rfl, ?y3_60b⟩) ?r3_60b
        case y3_60b =>
          intro w' hSw
          have k00 := (bx.ext hSw).c4
          have k10 := (by_.ext hSw).c4
          go_simp
          try with_reducible rfl
        try simp only [Act.put]
        try simp only [List.setIfInBounds_toArray]
        try simp only [List.set_cons_succ]
        try simp only [List.set_cons_zero]
        refine Late.take (i := 6) (d := some 42) (v := ?v6_61b) rfl rfl (by kernel_rfl) (by kernel_rfl) (by kernel_rfl) (by kernel_rfl) hQ (Or.inl ⟨by rfl, ?y6_61b⟩) ?r6_61b
        case y6_61b =>
          intro w' hSw
          have k00 := (bx.ext hSw).c4
          have k10 := (by_.ext hSw).c4
          go_simp
          try with_reducible rfl
        try simp only [Act.put]
        try simp only [List.setIfInBounds_toArray]
        try simp only [List.set_cons_succ]
        try simp only [List.set_cons_zero]
        refine Late.take (i := 8) (d := some 44) (v := ?v8_62b) rfl rfl (by kernel_rfl) (by kernel_rfl) (by kernel_rfl) (by kernel_rfl) hQ (Or.inl ⟨by rfl, ?y8_62b⟩) ?r8_62b
        case y8_62b =>
          intro w' hSw
          have k00 := (bx.ext hSw).c4
          have k10 := (by_.ext hSw).c4
          go_simp
          try with_reducible rfl
        try simp only [Act.put]
        try simp only [List.setIfInBounds_toArray]
        try simp only [List.set_cons_succ]
        try simp only [List.set_cons_zero]
        refine Late.call (i := 4) rfl (by kernel_rfl) hAl (by kernel_rfl) (by kernel_rfl) (by kernel_rfl) hQ (fun w4 e4 E4 K hK => ?_)
        go_simp
        (go_at_call 59; refine (q_GCD (h.num.ext E4) (k.den.ext E4) (by omega) (by omega)).mono ?_; rintro e wk1 ⟨s1, A1, n1, c1', rfl, h1, hx4⟩; rw [Int.natAbs_natCast] at h1)
        refine hK.out _ _ hx4 ?_
        clear hK K
        try simp only [Act.put]
        try simp only [List.setIfInBounds_toArray]
        try simp only [List.set_cons_succ]
        try simp only [List.set_cons_zero]
        refine Late.call (i := 9) rfl (by kernel_rfl) hAl (by kernel_rfl) (by kernel_rfl) (by kernel_rfl) hQ (fun w9 e9 E9 K hK => ?_)
        go_simp
        (go_at_call 59; refine (q_GCD (k.num.ext E9) (h.den.ext E9) (by omega) (by omega)).mono ?_; rintro e wk2 ⟨s2, A2, n2, c2', rfl, h2, hx9⟩; rw [Int.natAbs_natCast] at h2)
        refine hK.out _ _ hx9 ?_
        clear hK K
        try simp only [Act.put]
        try simp only [List.setIfInBounds_toArray]
        try simp only [List.set_cons_succ]
        try simp only [List.set_cons_zero]
        refine Late.finish2 (hAl _ (by simp)) (hAl _ (by simp)) (by decide) (by decide) (by kernel_rfl) (by kernel_rfl) (by kernel_rfl) (fun wz g5 g6 ez Ez lg5 lg6 hne xb1 xb2 => ?_)
        clear hAl hQ ES
        have p10 := xb1.cell 0 (Value.bool false) rfl
        have p11 := xb1.cell 1 (Value.slice none 0 0) rfl
        have f10 := xb1.frozen 0
        have f11 := xb1.frozen 1
        have e4 := fin_dual (s := s1) (A := A1) (n := n1) (c := c1') xb1
        try simp only [Act.put]
        try simp only [List.setIfInBounds_toArray]
        try simp only [List.set_cons_succ]
        try simp only [List.set_cons_zero]
        refine wpAnyH_ready (rs := [12]) (by kernel_rfl) (by simp) (AllReadyH.cons rfl (fun K hK => ?_) AllReadyH.nil)
        go_simp
        refine hK.out _ _ (e4.2.2.1 _ Ez lg5) (fun _ => ?_)
        clear hK K
        try simp only [Act.put]
        try simp only [List.setIfInBounds_toArray]
        try simp only [List.set_cons_succ]
        try simp only [List.set_cons_zero]
        have e5 := e4.2.2.2 _ _ _ (Ne.symm hne) xb2
        refine any_world (fun U => Ext wb U ∧ Box U g5 24 #[.bool s1, .slice A1 n1 c1'] ∧ Box U g6 24 #[Value.bool false, Value.slice none 0 0] ∧ NI U ((q.num.natAbs.gcd p.den : Nat) : Int) (max L M) s1 A1 n1 c1' ∧ NI U ((p.num.natAbs.gcd q.den : Nat) : Int) (max M L) s2 A2 n2 c2') ⟨e4.2.2.1 _ Ez lg5, e4.1, e5, e4.2.1 _ _ _ _ _ _ (h1.ext (e9.trans (hx9.trans ez))), e4.2.1 _ _ _ _ _ _ (h2.ext ez)⟩ ?_
        clear e4 e5 p10 p11 f10 f11 xb1 xb2
        rintro U ⟨EU, b8, xb2, h1, h2⟩
        have p10 := xb2.cell 0 (Value.bool false) rfl
        have p11 := xb2.cell 1 (Value.slice none 0 0) rfl
        have f10 := xb2.frozen 0
        have f11 := xb2.frozen 1
        have e4 := fin_dual (s := s2) (A := A2) (n := n2) (c := c2') xb2
        refine wpAnyH_ready (rs := [13]) (by kernel_rfl) (by simp) (AllReadyH.cons rfl (fun K hK => ?_) AllReadyH.nil)
        go_simp
        refine hK.out _ _ (e4.2.2.1 _ EU lg6) (fun _ => ?_)
        clear hK K
        try simp only [Act.put]
        try simp only [List.setIfInBounds_toArray]
        try simp only [List.set_cons_succ]
        try simp only [List.set_cons_zero]
        refine any_world (fun U2 => Ext wb U2 ∧ Box U2 g5 24 #[.bool s1, .slice A1 n1 c1'] ∧ Box U2 g6 24 #[.bool s2, .slice A2 n2 c2'] ∧ NI U2 ((q.num.natAbs.gcd p.den : Nat) : Int) (max L M) s1 A1 n1 c1' ∧ NI U2 ((p.num.natAbs.gcd q.den : Nat) : Int) (max M L) s2 A2 n2 c2') ⟨e4.2.2.1 _ EU lg6, e4.2.2.2 _ _ _ hne b8, e4.1, e4.2.1 _ _ _ _ _ _ h1, e4.2.1 _ _ _ _ _ _ h2⟩ ?_
        clear e4 p10 p11 f10 f11 xb2 b8 h1 h2 lg5 lg6
        rintro U2 ⟨EU2, b8, b9, h1, h2⟩
        refine wpAnyH_done (by kernel_rfl) ?_ _
        replace bx := bx.ext EU2
        replace by_ := by_.ext EU2
        replace bz := bz.ext EU2
        replace h := h.ext EU2
        replace k := k.ext EU2
        replace extW := extW.trans EU2
        clear EU EU2 Ez ez
        obtain ⟨g, hge⟩ : ∃ g, q.num.natAbs.gcd p.den = g := ⟨_, rfl⟩
        obtain ⟨hq, hhe⟩ : ∃ g, p.num.natAbs.gcd q.den = g := ⟨_, rfl⟩
        rw [hge] at h1
        rw [hhe] at h2
        obtain ⟨q1, q2⟩ := rat_mul q p hge.symm hhe.symm
        have Hq1 := Lib.hid q1
        have Hq2 := Lib.hid q2
        have hgq : g ∣ q.num.natAbs := by rw [← hge]; exact Nat.gcd_dvd_left _ _
        have hgp : g ∣ p.den := by rw [← hge]; exact Nat.gcd_dvd_right _ _
        have hhp : hq ∣ p.num.natAbs := by rw [← hhe]; exact Nat.gcd_dvd_left _ _
        have hhq : hq ∣ q.den := by rw [← hhe]; exact Nat.gcd_dvd_right _ _
        have hg0 : (g : Int) ≠ 0 := by
          intro h0
          have : g = 0 := by omega
          rw [this] at hgp
          exact p.den_nz (Nat.eq_zero_of_zero_dvd hgp)
        have hh0 : (hq : Int) ≠ 0 := by
          intro h0
          have : hq = 0 := by omega
          rw [this] at hhq
          exact q.den_nz (Nat.eq_zero_of_zero_dvd hhq)
        have Hg0 := Lib.hid hg0
        have Hh0 := Lib.hid hh0
        have Hgq := Lib.hid (Int.ofNat_dvd_left.2 hgq)
        have Hgp := Lib.hid (Int.ofNat_dvd.2 hgp)
        have Hhp := Lib.hid (Int.ofNat_dvd_left.2 hhp)
        have Hhq := Lib.hid (Int.ofNat_dvd.2 hhq)
        have hg := h1
        have hh := h2
        clear hge hhe q1 q2 hgq hgp hhp hhq hg0 hh0 h1 h2
        go_wp2_with fail
        refine wpL.start 19 (by kernel_rfl) (fun _ _ _ _ _ => ⟨fun h => h, fun h => h⟩) (fun hQ ES => ?_)
        refine wpL.take (i := 0) (d := some 46) (v := ?v0_63b) rfl rfl (by kernel_rfl) (by kernel_rfl) (by kernel_rfl) (by kernel_rfl) hQ (Or.inl ⟨by rfl, ?y0_63b⟩) ES ?r0_63b
        case y0_63b =>
          intro w' hSw
          have k00 := (bx.ext hSw).c4
          have k10 := (by_.ext hSw).c4
          have k20 := (b8.ext hSw).c2
          have k30 := (b9.ext hSw).c2
          go_simp
          try with_reducible rfl
        try simp only [Act.put]
        try simp only [List.setIfInBounds_toArray]
        try simp only [List.set_cons_succ]
        try simp only [List.set_cons_zero]
        refine wpL.take (i := 2) (d := some 48) (v := ?v2_64b) rfl rfl (by kernel_rfl) (by kernel_rfl) (by kernel_rfl) (by kernel_rfl) hQ (Or.inl ⟨by rfl, ?y2_64b⟩) ES ?r2_64b
        case y2_64b =>
          intro w' hSw
          have k00 := (bx.ext hSw).c4
          have k10 := (by_.ext hSw).c4
          have k20 := (b8.ext hSw).c2
          have k30 := (b9.ext hSw).c2
          go_simp
          try with_reducible rfl
        try simp only [Act.put]
        try simp only [List.setIfInBounds_toArray]
        try simp only [List.set_cons_succ]
        try simp only [List.set_cons_zero]
        refine wpL.take (i := 4) (d := some 50) (v := ?v4_65b) rfl rfl (by kernel_rfl) (by kernel_rfl) (by kernel_rfl) (by kernel_rfl) hQ (Or.inl ⟨by rfl, ?y4_65b⟩) ES ?r4_65b
        case y4_65b =>
          intro w' hSw
          have k00 := (bx.ext hSw).c4
          have k10 := (by_.ext hSw).c4
          have k20 := (b8.ext hSw).c2
          have k30 := (b9.ext hSw).c2
          go_simp
          try with_reducible rfl
        try simp only [Act.put]
        try simp only [List.setIfInBounds_toArray]
        try simp only [List.set_cons_succ]
        try simp only [List.set_cons_zero]
        refine wpL.take (i := 6) (d := some 52) (v := ?v6_66b) rfl rfl (by kernel_rfl) (by kernel_rfl) (by kernel_rfl) (by kernel_rfl) hQ (Or.inl ⟨by rfl, ?y6_66b⟩) ES ?r6_66b
        case y6_66b =>
          intro w' hSw
          have k00 := (bx.ext hSw).c4
          have k10 := (by_.ext hSw).c4
          have k20 := (b8.ext hSw).c2
          have k30 := (b9.ext hSw).c2
          go_simp
          try with_reducible rfl
        try simp only [Act.put]
        try simp only [List.setIfInBounds_toArray]
        try simp only [List.set_cons_succ]
        try simp only [List.set_cons_zero]
        refine wpL.take (i := 9) (d := some 55) (v := ?v9_67b) rfl rfl (by kernel_rfl) (by kernel_rfl) (by kernel_rfl) (by kernel_rfl) hQ (Or.inl ⟨by rfl, ?y9_67b⟩) ES ?r9_67b
        case y9_67b =>
          intro w' hSw
          have k00 := (bx.ext hSw).c4
          have k10 := (by_.ext hSw).c4
          have k20 := (b8.ext hSw).c2
          have k30 := (b9.ext hSw).c2
          go_simp
          try with_reducible rfl
        try simp only [Act.put]
        try simp only [List.setIfInBounds_toArray]
        try simp only [List.set_cons_succ]
        try simp only [List.set_cons_zero]
        refine wpL.take (i := 11) (d := some 57) (v := ?v11_68b) rfl rfl (by kernel_rfl) (by kernel_rfl) (by kernel_rfl) (by kernel_rfl) hQ (Or.inl ⟨by rfl, ?y11_68b⟩) ES ?r11_68b
        case y11_68b =>
          intro w' hSw
          have k00 := (bx.ext hSw).c4
          have k10 := (by_.ext hSw).c4
          have k20 := (b8.ext hSw).c2
          have k30 := (b9.ext hSw).c2
          go_simp
          try with_reducible rfl
        try simp only [Act.put]
        try simp only [List.setIfInBounds_toArray]
        try simp only [List.set_cons_succ]
        try simp only [List.set_cons_zero]
        refine wpL.take (i := 13) (d := some 59) (v := ?v13_69b) rfl rfl (by kernel_rfl) (by kernel_rfl) (by kernel_rfl) (by kernel_rfl) hQ (Or.inl ⟨by rfl, ?y13_69b⟩) ES ?r13_69b
        case y13_69b =>
          intro w' hSw
          have k00 := (bx.ext hSw).c4
          have k10 := (by_.ext hSw).c4
          have k20 := (b8.ext hSw).c2
          have k30 := (b9.ext hSw).c2
          go_simp
          try with_reducible rfl
        try simp only [Act.put]
        try simp only [List.setIfInBounds_toArray]
        try simp only [List.set_cons_succ]
        try simp only [List.set_cons_zero]
        refine wpL.take (i := 15) (d := some 61) (v := ?v15_70b) rfl rfl (by kernel_rfl) (by kernel_rfl) (by kernel_rfl) (by kernel_rfl) hQ (Or.inl ⟨by rfl, ?y15_70b⟩) ES ?r15_70b
        case y15_70b =>
          intro w' hSw
          have k00 := (bx.ext hSw).c4
          have k10 := (by_.ext hSw).c4
          have k20 := (b8.ext hSw).c2
          have k30 := (b9.ext hSw).c2
          go_simp
          try with_reducible rfl
        try simp only [Act.put]
        try simp only [List.setIfInBounds_toArray]
        try simp only [List.set_cons_succ]
        try simp only [List.set_cons_zero]
        refine wpL.take (i := 1) (d := some 47) (v := ?v1_71b) rfl rfl (by kernel_rfl) (by kernel_rfl) (by kernel_rfl) (by kernel_rfl) hQ (Or.inl ⟨by rfl, ?y1_71b⟩) ES ?r1_71b
        case y1_71b =>
          intro w' hSw
          have k00 := (bx.ext hSw).c4
          have k10 := (by_.ext hSw).c4
          have k20 := (b8.ext hSw).c2
          have k30 := (b9.ext hSw).c2
          go_simp
          try with_reducible rfl
        try simp only [Act.put]
        try simp only [List.setIfInBounds_toArray]
        try simp only [List.set_cons_succ]
        try simp only [List.set_cons_zero]
        refine wpL.take (i := 5) (d := some 51) (v := ?v5_72b) rfl rfl (by kernel_rfl) (by kernel_rfl) (by kernel_rfl) (by kernel_rfl) hQ (Or.inl ⟨by rfl, ?y5_72b⟩) ES ?r5_72b
        case y5_72b =>
          intro w' hSw
          have k00 := (bx.ext hSw).c4
          have k10 := (by_.ext hSw).c4
          have k20 := (b8.ext hSw).c2
          have k30 := (b9.ext hSw).c2
          go_simp
          try with_reducible rfl
        try simp only [Act.put]
        try simp only [List.setIfInBounds_toArray]
        try simp only [List.set_cons_succ]
        try simp only [List.set_cons_zero]
        refine wpL.take (i := 10) (d := some 56) (v := ?v10_73b) rfl rfl (by kernel_rfl) (by kernel_rfl) (by kernel_rfl) (by kernel_rfl) hQ (Or.inl ⟨by rfl, ?y10_73b⟩) ES ?r10_73b
        case y10_73b =>
          intro w' hSw
          have k00 := (bx.ext hSw).c4
          have k10 := (by_.ext hSw).c4
          have k20 := (b8.ext hSw).c2
          have k30 := (b9.ext hSw).c2
          go_simp
          try with_reducible rfl
        try simp only [Act.put]
        try simp only [List.setIfInBounds_toArray]
        try simp only [List.set_cons_succ]
        try simp only [List.set_cons_zero]
        refine wpL.take (i := 14) (d := some 60) (v := ?v14_74b) rfl rfl (by kernel_rfl) (by kernel_rfl) (by kernel_rfl) (by kernel_rfl) hQ (Or.inl ⟨by rfl, ?y14_74b⟩) ES ?r14_74b
        case y14_74b =>
          intro w' hSw
          have k00 := (bx.ext hSw).c4
          have k10 := (by_.ext hSw).c4
          have k20 := (b8.ext hSw).c2
          have k30 := (b9.ext hSw).c2
          go_simp
          try with_reducible rfl
        try simp only [Act.put]
        try simp only [List.setIfInBounds_toArray]
        try simp only [List.set_cons_succ]
        try simp only [List.set_cons_zero]
        refine wpL.call (i := 3) rfl (by kernel_rfl) (fun K hK => ?_)
        go_simp
        (go_at_call 62; refine (q_quo (h.num.ext ES) (hg.ext ES) (by omega) (by omega) Hg0.out Hgq.out).mono ?_; rintro e wk1 ⟨s3, A3, n3, c3, rfl, h3, hx0⟩; have E0_6 := Ext.trans ES hx0)
        refine hK.out _ _ E0_6 ?_
        clear hK K
        try simp only [Act.put]
        try simp only [List.setIfInBounds_toArray]
        try simp only [List.set_cons_succ]
        try simp only [List.set_cons_zero]
        refine wpL.call (i := 7) rfl (by kernel_rfl) (fun K hK => ?_)
        go_simp
        (go_at_call 62; refine (q_quo (k.num.ext E0_6) (hh.ext E0_6) (by omega) (by omega) Hh0.out Hhp.out).mono ?_; rintro e wk2 ⟨s4, A4, n4, c4, rfl, h4, hx1⟩; have E1_6 := Ext.trans E0_6 hx1)
        refine hK.out _ _ E1_6 ?_
        clear hK K
        try simp only [Act.put]
        try simp only [List.setIfInBounds_toArray]
        try simp only [List.set_cons_succ]
        try simp only [List.set_cons_zero]
        refine wpL.call (i := 8) rfl (by kernel_rfl) (fun K hK => ?_)
        go_simp
        (go_at_call 74; refine (q_Mul (h3.ext hx1) h4 (by omega) (by omega)).mono ?_; rintro e wk3 ⟨s5, A5, n5, c5, rfl, h5, hx2⟩; have E2_6 := Ext.trans E1_6 hx2)
        refine hK.out _ _ E2_6 ?_
        clear hK K
        try simp only [Act.put]
        try simp only [List.setIfInBounds_toArray]
        try simp only [List.set_cons_succ]
        try simp only [List.set_cons_zero]
        refine wpL.call (i := 12) rfl (by kernel_rfl) (fun K hK => ?_)
        go_simp
        (go_at_call 62; refine (q_quo (h.den.ext E2_6) (hh.ext E2_6) (by omega) (by omega) Hh0.out Hhq.out).mono ?_; rintro e wk4 ⟨s6, A6, n6, c6, rfl, h6, hx3⟩; have E3_6 := Ext.trans E2_6 hx3)
        refine hK.out _ _ E3_6 ?_
        clear hK K
        try simp only [Act.put]
        try simp only [List.setIfInBounds_toArray]
        try simp only [List.set_cons_succ]
        try simp only [List.set_cons_zero]
        refine wpL.call (i := 16) rfl (by kernel_rfl) (fun K hK => ?_)
        go_simp
        (go_at_call 62; refine (q_quo (k.den.ext E3_6) (hg.ext E3_6) (by omega) (by omega) Hg0.out Hgp.out).mono ?_; rintro e wk5 ⟨s7, A7, n7, c7, rfl, h7, hx4⟩; have E4_6 := Ext.trans E3_6 hx4)
        refine hK.out _ _ E4_6 ?_
        clear hK K
        try simp only [Act.put]
        try simp only [List.setIfInBounds_toArray]
        try simp only [List.set_cons_succ]
        try simp only [List.set_cons_zero]
        refine wpL.call (i := 17) rfl (by kernel_rfl) (fun K hK => ?_)
        go_simp
        (go_at_call 74; refine (q_Mul (h6.ext hx4) h7 (by omega) (by omega)).mono ?_; rintro e wk6 ⟨s8, A8, n8, c8, rfl, h8, hx5⟩; have E5_6 := Ext.trans E4_6 hx5)
        refine hK.out _ _ E5_6 ?_
        clear hK K
        try simp only [Act.put]
        try simp only [List.setIfInBounds_toArray]
        try simp only [List.set_cons_succ]
        try simp only [List.set_cons_zero]
        refine wpL.take (i := 18) (d := some 64) (v := ?v18_75b) rfl rfl (by kernel_rfl) (by kernel_rfl) (by kernel_rfl) (by kernel_rfl) hQ (Or.inl ⟨by rfl, ?y18_75b⟩) E5_6 ?r18_75b
        case y18_75b =>
          intro w' hSw
          have k00 := (bx.ext hSw).c4
          have k10 := (by_.ext hSw).c4
          have k20 := (b8.ext hSw).c2
          have k30 := (b9.ext hSw).c2
          go_simp
          try with_reducible rfl
        try simp only [Act.put]
        try simp only [List.setIfInBounds_toArray]
        try simp only [List.set_cons_succ]
        try simp only [List.set_cons_zero]
        have z0 := (bz.ext E5_6).cell 0 _ rfl
        have z1 := (bz.ext E5_6).cell 1 _ rfl
        have z2 := (bz.ext E5_6).cell 2 _ rfl
        have z3 := (bz.ext E5_6).cell 3 _ rfl
        have f0 := (bz.ext E5_6).frozen 0
        have f1 := (bz.ext E5_6).frozen 1
        have f2 := (bz.ext E5_6).frozen 2
        have f3 := (bz.ext E5_6).frozen 3
        refine wpL.tail (i := 19) rfl (by kernel_rfl) (by kernel_rfl) (fun K hK => ?_)
        go_simp
        refine hK.out _ _ ?_
        clear hK K
        try simp only [Act.put]
        try simp only [List.setIfInBounds_toArray]
        try simp only [List.set_cons_succ]
        try simp only [List.set_cons_zero]
        refine wpL.done (by kernel_rfl) ?_ _
        clear hQ
        go_wp2_with fail
        have hk1 : ((q.den : Int) / (hq : Int)) * ((p.den : Int) / (g : Int)) = ((q * p).den : Int) := by rw [Hq2.out]; simp
        rw [hk1] at h8
        rw [← Hq1.out] at h5
        obtain ⟨b1, b2, b3, b4⟩ := fin_quad (s := s5) (A := A5) (n := n5) (c := c5) (t := s8) (B := A8) (m := n8) (d := c8) (bz.ext E5_6)
        have r0 := b1.cell 0 (.bool s5) rfl
        have r1 := b1.cell 1 (.slice A5 n5 c5) rfl
        have r2 := b1.cell 2 (.bool s8) rfl
        have r3 := b1.cell 3 (.slice A8 n8 c8) rfl
        unfold set4 at r0 r1 r2 r3
        refine bodyPost_ret (v := .agg #[.bool s5, .slice A5 n5 c5, .bool s8, .slice A8 n8 c8]) (by simp [results, Tryz.results35, go_sem, r0, r1, r2, r3]) rfl ⟨s5, A5, n5, c5, s8, A8, n8, c8, rfl, ⟨?_, ?_⟩, b3 _ (extW.trans E5_6) (by omega)⟩
        · exact b2 _ _ _ _ _ _ (h5.ext (hx3.trans (hx4.trans hx5)))
        · exact b2 _ _ _ _ _ _ h8
end
end Go.Proofs.YtiioodgpkdbndaaGreatDoor
