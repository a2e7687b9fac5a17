/- Walks and laws, a part. -/
import Derived.Test.YtiioodgpkdbndaaGreatDoorM0
import Derived.Test.YtiioodgpkdbndaaGreatDoorM1
import Derived.Test.YtiioodgpkdbndaaGreatDoorM2
import Derived.Test.YtiioodgpkdbndaaGreatDoorM3
import Derived.Test.YtiioodgpkdbndaaGreatDoorM4
import Derived.Test.YtiioodgpkdbndaaGreatDoorM5
import Derived.Test.YtiioodgpkdbndaaGreatDoorM6
import Derived.Test.YtiioodgpkdbndaaGreatDoorM7
import Derived.Test.YtiioodgpkdbndaaGreatDoorM8
import Derived.Test.YtiioodgpkdbndaaGreatDoorM9
import Derived.Deep.RegionHeld
import Derived.Deep.DeepCutAuto
import Derived.BigQuiet
namespace Go.Proofs.YtiioodgpkdbndaaGreatDoor
/-- the product by way of the common parts of numerators and denominators. -/
theorem rat_mul (a b : Rat) {g h : Nat} (hg : g = a.num.natAbs.gcd b.den) (hh : h = b.num.natAbs.gcd a.den) :
    (a * b).num = a.num / (g : Int) * (b.num / (h : Int)) ∧ (a * b).den = a.den / h * (b.den / g) := by
  subst hg
  subst hh
  show (Rat.mul a b).num = _ ∧ (Rat.mul a b).den = _
  delta Rat.mul
  exact ⟨rfl, rfl⟩
end Go.Proofs.YtiioodgpkdbndaaGreatDoor
namespace Go.Proofs.YtiioodgpkdbndaaGreatDoor
open Go.RowKit
section
variable {P : Program} {ops : Array Oper} {Q : Exit → Act → World → Prop} {md : Region.Mode} {S : World → Prop} {W0 : World}
theorem Late.finish2 {x y : Al} {n : Nat} {L : Array Bool} {a : Act} {w : World} (hx : IsAl P ops x) (hy : IsAl P ops y) (hne : x.i ≠ y.i) (hd : x.d ≠ y.d)
    (hrx : Region.ready md ops (L.setIfInBounds y.i true) = [x.i]) (hry : Region.ready md ops (L.setIfInBounds x.i true) = [y.i])
    (hr : ((Region.ready md ops L).contains x.i && (Region.ready md ops L).contains y.i) = true)
    (h : ∀ w' g k, Ext w w' → Ext W0 w' → W0.heap.size ≤ g → W0.heap.size ≤ k → g ≠ k → Box w' g x.t x.cs → Box w' k y.t y.cs →
      wpAnyH P md ops Q (Ext W0) n ((L.setIfInBounds x.i true).setIfInBounds y.i true) ((a.put (some x.d) (.pointer (some ⟨g, 0, none⟩))).put (some y.d) (.pointer (some ⟨k, 0, none⟩))) w') :
    Late P md ops Q W0 [x, y] n L a w := by
  have hne' : (y.i == x.i) = false := by simpa using Ne.symm hne
  have hne2 : (x.i == y.i) = false := by simpa using hne
  refine Late.finish (by simp [hne]) (by simp [hx, hy]) ?_ (by simpa using hr) ?_
  · intro z hz j hj
    rcases List.mem_cons.1 hz with rfl | hz
    · simp [bne, hne', allMarks] at hj
      simpa [hrx] using hj
    · rw [List.mem_singleton] at hz
      subst hz
      simp [bne, hne2, allMarks] at hj
      simpa [hry] using hj
  · intro w' e hS D hD hl
    match D, hl with
    | [(u, g), (v, k)], _ =>
      have hu := hD.mem (u, g) (by simp)
      have hv := hD.mem (v, k) (by simp)
      have hnd := hD.nd
      have hng := hD.ng
      simp only [List.map_cons, List.map_nil, List.nodup_cons, List.mem_singleton, List.not_mem_nil, not_false_eq_true, List.nodup_nil, and_true] at hnd hng
      have bu := hD.box (u, g) (by simp)
      have bv := hD.box (v, k) (by simp)
      have gu := hD.ge (u, g) (by simp)
      have gv := hD.ge (v, k) (by simp)
      rcases List.mem_cons.1 hu with rfl | hu
      · rcases List.mem_cons.1 hv with rfl | hv
        · exact absurd rfl hnd
        · rw [List.mem_singleton] at hv
          subst hv
          exact h w' g k e hS gu gv hng bu bv
      · rw [List.mem_singleton] at hu
        subst hu
        rcases List.mem_cons.1 hv with rfl | hv
        · have := h w' k g e hS gv gu (Ne.symm hng) bv bu
          rw [Act.put_comm a _ _ (fun d h1 h2 => by injection h1 with h1; injection h2 with h2; exact hd (h1.trans h2.symm)), Array.setIfInBounds_comm _ _ hne] at this
          exact this
        · rw [List.mem_singleton] at hv
          subst hv
          exact absurd rfl hnd
end
end Go.Proofs.YtiioodgpkdbndaaGreatDoor
namespace Go.Proofs.YtiioodgpkdbndaaGreatDoor
open Go.RowKit
section
variable (A B : Option Addr) (c d : Nat) (xs ys : List Nat) (w : World)
set_option maxHeartbeats 400000 in
theorem ref_plus1 (hx : Rd w A xs) (hy : Rd w B ys) (hl : ys.length ≤ xs.length) (hm : xs.length ≤ 100000) :
    Calls Tryz.prog 103 #[.slice A xs.length c, .slice B ys.length d] w (RetN (fun zs => val zs = val xs + val ys ∧ Nrm zs ∧ zs.length ≤ xs.length + 1) w) := by
  have hmk := mk_words1 22 Tryz.underlying22 xs.length hm
  go_enter Tryz.func103, Tryz.ntmps103
  go_wp2
  go_loopw [6, 7] (fun cr i wr => ∃ (k : Nat) (zs : List Nat) (cy : Nat), k ≤ xs.length ∧ i = .int .i64 (k : Int) ∧ cr = .int .u64 (cy : Int) ∧ PlusInv xs ys k zs cy ∧ BlkN wr w.heap.size zs ∧ Ext w wr) (fun _ i _ => xs.length - (intOf i).toNat)
  case atStart => exact ⟨0, List.replicate (xs.length + 1) 0, 0, by omega, rfl, rfl, PlusInv.start xs ys, BlkN.new w _, (Ext.refl w).alloc _⟩
  case round =>
    obtain ⟨k, zs, cy, hk, rfl, rfl, hinv, hblk, hext⟩ := hrel
    have hcy := hinv.hcy
    have hzl := hinv.len1
    have hzl2 := hinv.len2
    by_cases hlt : k < xs.length
    · obtain ⟨b, off, rfl, hb, hc1⟩ := (hx.ext hext).at_ hlt
      have hxk := hx.1.get hlt
      have hzk := hblk.cell (i := k) (by omega)
      have hfz := hblk.frozen k
      by_cases hly : k < ys.length
      · obtain ⟨b', off', rfl, hb', hc2⟩ := (hy.ext hext).at_ hly
        have hyk := hy.1.get hly
        go_wp2
        go_roundw
        case rel => exact ⟨k + 1, _, _, by omega, by go_num, by go_num, hinv.step hx.1 hy.1 hlt (s := cy + xs[k] + ys[k]) (by rw [getD_at hlt, getD_at hly]), hblk.set k (by go_num), hext.setCell (Nat.le_refl _) _⟩
        case measure => simp [intOf]; omega
      · go_wp2
        go_roundw
        case rel => exact ⟨k + 1, _, _, by omega, by go_num, by go_num, hinv.step hx.1 hy.1 hlt (s := cy + xs[k]) (by rw [getD_at hlt, getD_out hly]; rfl), hblk.set k (by go_num), hext.setCell (Nat.le_refl _) _⟩
        case measure => simp [intOf]; omega
    · have hzk := hblk.cell (i := xs.length) (by omega)
      have hfz := hblk.frozen xs.length
      have hk' : k = xs.length := by omega
      subst hk'
      have hb2 := hblk.set xs.length (v := (cy : Int)) rfl
      have hw := hinv.w32.set xs.length (v := cy) (by omega)
      have hrd := hb2.rd0 hw
      have hdn := hinv.done hl
      have Hd := Lib.hid hdn
      clear hdn
      go_wp2_with (go_at_call 79; refine (ref_trimN (xs := zs.set xs.length cy) (by simp; omega) hrd (by omega) (by unfold maxLen; omega)).mono ?_; rintro e w' ⟨rfl, rfl⟩)
      go_ret
      have hlen := trimL_len (zs.set xs.length cy)
      rw [List.length_set] at hlen
      refine ⟨_, _, trimL (zs.set xs.length cy), rfl, ?_, by omega, by unfold maxLen; omega, ⟨Hd.out, Nrm.trimL _, by omega⟩, hext.setCell (Nat.le_refl _) _⟩
      rw [trimL_take]
      exact (Own.of_blk hb2 hw (Nat.le_refl _)).take _
set_option maxHeartbeats 400000 in
theorem ref_plus2 (hx : Rd w A xs) (hy : Rd w B ys) (hl : xs.length < ys.length) (hm : ys.length ≤ 100000) :
    Calls Tryz.prog 103 #[.slice A xs.length c, .slice B ys.length d] w (RetN (fun zs => val zs = val xs + val ys ∧ Nrm zs ∧ zs.length ≤ ys.length + 1) w) := by
  have hmk := mk_words1 22 Tryz.underlying22 ys.length hm
  go_enter Tryz.func103, Tryz.ntmps103
  go_wp2
  go_loopw [6, 7] (fun cr i wr => ∃ (k : Nat) (zs : List Nat) (cy : Nat), k ≤ ys.length ∧ i = .int .i64 (k : Int) ∧ cr = .int .u64 (cy : Int) ∧ PlusInv ys xs k zs cy ∧ BlkN wr w.heap.size zs ∧ Ext w wr) (fun _ i _ => ys.length - (intOf i).toNat)
  case atStart => exact ⟨0, List.replicate (ys.length + 1) 0, 0, by omega, rfl, rfl, PlusInv.start ys xs, BlkN.new w _, (Ext.refl w).alloc _⟩
  case round =>
    obtain ⟨k, zs, cy, hk, rfl, rfl, hinv, hblk, hext⟩ := hrel
    have hcy := hinv.hcy
    have hzl := hinv.len1
    have hzl2 := hinv.len2
    by_cases hlt : k < ys.length
    · obtain ⟨b, off, rfl, hb, hc1⟩ := (hy.ext hext).at_ hlt
      have hyk := hy.1.get hlt
      have hzk := hblk.cell (i := k) (by omega)
      have hfz := hblk.frozen k
      by_cases hly : k < xs.length
      · obtain ⟨b', off', rfl, hb', hc2⟩ := (hx.ext hext).at_ hly
        have hxk := hx.1.get hly
        go_wp2
        go_roundw
        case rel => exact ⟨k + 1, _, _, by omega, by go_num, by go_num, hinv.step hy.1 hx.1 hlt (s := cy + ys[k] + xs[k]) (by rw [getD_at hlt, getD_at hly]), hblk.set k (by go_num), hext.setCell (Nat.le_refl _) _⟩
        case measure => simp [intOf]; omega
      · go_wp2
        go_roundw
        case rel => exact ⟨k + 1, _, _, by omega, by go_num, by go_num, hinv.step hy.1 hx.1 hlt (s := cy + ys[k]) (by rw [getD_at hlt, getD_out hly]; rfl), hblk.set k (by go_num), hext.setCell (Nat.le_refl _) _⟩
        case measure => simp [intOf]; omega
    · have hzk := hblk.cell (i := ys.length) (by omega)
      have hfz := hblk.frozen ys.length
      have hk' : k = ys.length := by omega
      subst hk'
      have hb2 := hblk.set ys.length (v := (cy : Int)) rfl
      have hw := hinv.w32.set ys.length (v := cy) (by omega)
      have hrd := hb2.rd0 hw
      have hdn := hinv.done (by omega)
      have Hd := Lib.hid hdn
      clear hdn
      go_wp2_with (go_at_call 79; refine (ref_trimN (xs := zs.set ys.length cy) (by simp; omega) hrd (by omega) (by unfold maxLen; omega)).mono ?_; rintro e w' ⟨rfl, rfl⟩)
      go_ret
      have hlen := trimL_len (zs.set ys.length cy)
      rw [List.length_set] at hlen
      refine ⟨_, _, trimL (zs.set ys.length cy), rfl, ?_, by omega, by unfold maxLen; omega, ⟨by rw [Hd.out]; omega, Nrm.trimL _, by omega⟩, hext.setCell (Nat.le_refl _) _⟩
      rw [trimL_take]
      exact (Own.of_blk hb2 hw (Nat.le_refl _)).take _
theorem ref_plus {A B : Option Addr} {c d n m : Nat} {xs ys : List Nat} {w : World} (hn : xs.length = n) (hm : ys.length = m) (hx : Rd w A xs) (hy : Rd w B ys) (h1 : n ≤ 100000) (h2 : m ≤ 100000) :
    Calls Tryz.prog 103 #[.slice A n c, .slice B m d] w (RetN (fun zs => val zs = val xs + val ys ∧ Nrm zs ∧ zs.length ≤ max xs.length ys.length + 1) w) := by
  subst hn; subst hm
  by_cases h : ys.length ≤ xs.length
  · exact (ref_plus1 A B c d xs ys w hx hy h h1).mono fun e w' ⟨A', c', zs, h1, h2, h3, h4, ⟨h5, h6, h7⟩, h8⟩ => ⟨A', c', zs, h1, h2, h3, h4, ⟨h5, h6, by omega⟩, h8⟩
  · exact (ref_plus2 A B c d xs ys w hx hy (by omega) h2).mono fun e w' ⟨A', c', zs, h1, h2, h3, h4, ⟨h5, h6, h7⟩, h8⟩ => ⟨A', c', zs, h1, h2, h3, h4, ⟨h5, h6, by omega⟩, h8⟩
end
end Go.Proofs.YtiioodgpkdbndaaGreatDoor
namespace Go.Proofs.YtiioodgpkdbndaaGreatDoor
open Go.RowKit
attribute [local go_sem ↓] Go.wp_at_zero Go.wp_at_succ
section
variable {A B : Option Addr} {c d n m : Nat} {xs ys : List Nat} {w : World} {s t : Bool}
set_option maxHeartbeats 1000000 in
theorem ref_Neg (hn : xs.length = n) (hx : Rd w A xs) (hc : n ≤ c) (hcm : c ≤ maxLen) (_h1 : n ≤ 100000) :
    Calls Tryz.prog 61 #[.agg #[.bool s, .slice A n c]] w (RetI (-(ival s xs)) xs.length w) := by
  have Hn := Lib.hid hn
  clear hn
  have lx := trimL_len xs
  have hxt : Rd w A (trimL xs) := by rw [trimL_take]; exact hx.take _
  go_enter Tryz.func61, Tryz.ntmps61
  go_upto_region 1 with (fail)
  obtain ⟨W, hW, extW, bx, bz, hz⟩ := box2 w 24 24 #[.bool s, .slice A n c] #[.bool false, .slice none 0 0]
  rw [← hW]
  clear hW
  have x0 := bx.cell 0 (.bool s) rfl
  have x1 := bx.cell 1 (.slice A n c) rfl
  go_wp2_with (go_at_call 58; refine (ref_signed Hn.out (hx.ext extW) hc hcm).mono ?_; rintro e w3 ⟨b3, A3, c3, rs, rfl, hr3, hc3, hm3, hi3, hl3, hext3⟩; have ext3 := hext3; have bz3 := bz.ext ext3; have z0 := bz3.cell 0 (.bool false) rfl; have z1 := bz3.cell 1 (.slice none 0 0) rfl; have f0 := bz3.frozen 0; have f1 := bz3.frozen 1)
  go_wp2_with fail
  obtain ⟨r1, r2, r3, r4⟩ := fin_pair (b := b3) (n := rs.length) (c := c3) (extW.trans ext3) (by omega) bz3 hr3
  exact bodyPost_ret (v := .agg #[.bool b3, .slice A3 rs.length c3]) (by simp [results, Tryz.results61, go_sem, r3, r4]) rfl ⟨b3, A3, c3, rs, rfl, r1, hc3, hm3, by rw [ival_not] at hi3; exact hi3, by omega, r2⟩
end
end Go.Proofs.YtiioodgpkdbndaaGreatDoor
namespace Go.Proofs.YtiioodgpkdbndaaGreatDoor
open Go.RowKit
attribute [local go_sem ↓] Go.wp_at_zero Go.wp_at_succ
/-- behind 'a, b = Norm(a), Norm(b)': both boxes hold normal forms. -/
def TwoN (w _W : World) (x y : Int) (lx ly : Nat) (R : World → Prop) (wx : World) : Prop :=
  ∃ b3 A3 c3 rs b4 A4 c4 qs, Ext w wx ∧ Box wx w.heap.size 24 #[.bool b3, .slice A3 (List.length rs) c3] ∧ Box wx (w.heap.size + 1) 24 #[.bool b4, .slice A4 (List.length qs) c4] ∧ R wx ∧ Rd wx A3 rs ∧ Rd wx A4 qs ∧
    rs.length ≤ c3 ∧ c3 ≤ maxLen ∧ qs.length ≤ c4 ∧ c4 ≤ maxLen ∧ IsInt x b3 rs ∧ IsInt y b4 qs ∧ rs.length ≤ lx ∧ qs.length ≤ ly
theorem TwoN.mk' {w W w4 : World} {x y : Int} {lx ly : Nat} {R : World → Prop} {s t b3 b4 : Bool} {A A3 B A4 : Option Addr} {n c m d c3 c4 : Nat} {rs qs : List Nat} (extW : Ext w W) (e4 : Ext W w4)
    (bx : Box W w.heap.size 24 #[.bool s, .slice A n c]) (by_ : Box W (w.heap.size + 1) 24 #[.bool t, .slice B m d]) (hr3 : Rd w4 A3 rs) (hr4 : Rd w4 A4 qs)
    (h1 : rs.length ≤ c3) (h2 : c3 ≤ maxLen) (h3 : qs.length ≤ c4) (h4 : c4 ≤ maxLen) (hi3 : IsInt x b3 rs) (hi4 : IsInt y b4 qs) (h5 : rs.length ≤ lx) (h6 : qs.length ≤ ly)
    (hR : ∀ u v p q, R ((((w4.setCell ⟨w.heap.size, 0, none⟩ u).setCell ⟨w.heap.size, 1, none⟩ v).setCell ⟨w.heap.size + 1, 0, none⟩ p).setCell ⟨w.heap.size + 1, 1, none⟩ q)) :
    TwoN w W x y lx ly R ((((w4.setCell ⟨w.heap.size, 0, none⟩ (.bool b3)).setCell ⟨w.heap.size, 1, none⟩ (.slice A3 rs.length c3)).setCell ⟨w.heap.size + 1, 0, none⟩ (.bool b4)).setCell ⟨w.heap.size + 1, 1, none⟩ (.slice A4 qs.length c4)) := by
  have k1 := bx.ext e4
  have k2 := by_.ext e4
  obtain ⟨r1, r2, _, _⟩ := fin_pair (b := b3) (n := rs.length) (c := c3) (extW.trans e4) (Nat.le_refl _) k1 hr3
  have q1 := (hr4.setBox k1 NoWord.two 0 (.bool b3)).setBox (k1.setA (.bool b3)) NoWord.two 1 (.slice A3 rs.length c3)
  have j1 := (k1.setA (.bool b3)).setB (.slice A3 rs.length c3)
  have j2 := ((k2.far (p := ⟨w.heap.size, 0, none⟩) (by simp) (.bool b3)).far (p := ⟨w.heap.size, 1, none⟩) (by simp) (.slice A3 rs.length c3))
  have j20 := j2.setA (.bool b4)
  have j3 := j20.setB (.slice A4 qs.length c4)
  have j4 := ((j1.far (p := ⟨w.heap.size + 1, 0, none⟩) (by simp) (.bool b4)).far (p := ⟨w.heap.size + 1, 1, none⟩) (by simp) (.slice A4 qs.length c4))
  have hE := (r2.setCell (p := ⟨w.heap.size + 1, 0, none⟩) (Nat.le_succ _) (.bool b4)).setCell (p := ⟨w.heap.size + 1, 1, none⟩) (Nat.le_succ _) (.slice A4 qs.length c4)
  have r3 := (r1.setBox j2 NoWord.two 0 (.bool b4)).setBox j20 NoWord.two 1 (.slice A4 qs.length c4)
  have q3 := (q1.setBox j2 NoWord.two 0 (.bool b4)).setBox j20 NoWord.two 1 (.slice A4 qs.length c4)
  have hRR := hR (.bool b3) (.slice A3 rs.length c3) (.bool b4) (.slice A4 qs.length c4)
  exact ⟨b3, A3, c3, rs, b4, A4, c4, qs, hE, j4, j3, hRR, r3, q3, h1, h2, h3, h4, hi3, hi4, h5, h6⟩
theorem isint_val {z : Int} {b : Bool} {ys : List Nat} (h : IsInt z b ys) : (val ys : Int) = if b then -z else z := by
  have := h.eq
  unfold ival at this
  cases b <;> simp at this ⊢ <;> omega
section
variable {A B : Option Addr} {c d n m : Nat} {xs ys : List Nat} {w : World} {s t : Bool}
end
end Go.Proofs.YtiioodgpkdbndaaGreatDoor
namespace Go.Proofs.YtiioodgpkdbndaaGreatDoor
open Go.RowKit
attribute [local go_sem ↓] Go.wp_at_zero Go.wp_at_succ
section
variable {A B : Option Addr} {c d n m : Nat} {xs ys : List Nat} {w : World} {s t : Bool}
set_option maxHeartbeats 1000000 in
theorem ref_Add (hn : xs.length = n) (hm : ys.length = m) (hx : Rd w A xs) (hy : Rd w B ys) (hc : n ≤ c) (hcm : c ≤ maxLen) (hd : m ≤ d) (hdm : d ≤ maxLen) (h1 : n ≤ 100000) (h2 : m ≤ 100000) :
    Calls Tryz.prog 73 #[.agg #[.bool s, .slice A n c], .agg #[.bool t, .slice B m d]] w (RetI (ival s xs + ival t ys) (max xs.length ys.length + 1) w) := by
  have Hn := Lib.hid hn
  have Hm := Lib.hid hm
  clear hn hm
  have lx := trimL_len xs
  have ly := trimL_len ys
  have hxt : Rd w A (trimL xs) := by rw [trimL_take]; exact hx.take _
  have hyt : Rd w B (trimL ys) := by rw [trimL_take]; exact hy.take _
  go_enter Tryz.func73, Tryz.ntmps73
  go_upto_region 1 with (fail)
  obtain ⟨W, hW, extW, bx, by_, bz, hz⟩ := box3 w 24 24 24 #[.bool s, .slice A n c] #[.bool t, .slice B m d] #[.bool false, .slice none 0 0]
  rw [← hW]
  clear hW
  have x0 := bx.cell 0 (.bool s) rfl
  have x1 := bx.cell 1 (.slice A n c) rfl
  have y0 := by_.cell 0 (.bool t) rfl
  have y1 := by_.cell 1 (.slice B m d) rfl
  have hf0 := bx.frozen 0
  have hf1 := bx.frozen 1
  have hg0 := by_.frozen 0
  have hg1 := by_.frozen 1
  go_cut [] (fun wx => TwoN w W (ival s xs) (ival t ys) xs.length ys.length (fun wx => Box wx (w.heap.size + 1 + 1) 24 #[.bool false, .slice none 0 0] ∧ w.heap.size + 3 ≤ wx.heap.size) wx)
  case first =>
    go_region_with (first | (go_at_call_of 15 A; refine (ref_Norm Hn.out (hx.ext (by first | exact extW | exact extW.drew | exact extW.drewN _ | exact (extW.drew).drew)) hc hcm h1).mono ?_; rintro e w3 ⟨b3, A3, c3, rs, rfl, hr3, hc3, hm3, hi3, hl3, hext3⟩; have e3 := (by first | exact hext3 | exact (Ext.refl W).drew.trans hext3 : Ext W w3); have y30 := (by_.ext e3).cell 0 (.bool t) rfl; have y31 := (by_.ext e3).cell 1 (.slice B m d) rfl) | (go_at_call_of 15 B; refine (ref_Norm Hm.out (hy.ext (extW.trans e3)) hd hdm h2).mono ?_; rintro e w4 ⟨b4, A4, c4, qs, rfl, hr4, hc4, hm4, hi4, hl4, hext4⟩; have e4 := e3.trans hext4; have x40 := (bx.ext e4).cell 0 (.bool s) rfl; have x41 := (bx.ext e4).cell 1 (.slice A n c) rfl; have y40 := (by_.ext e4).cell 0 (.bool t) rfl; have y41 := (by_.ext e4).cell 1 (.slice B m d) rfl; have k0 := (bx.ext e4).frozen 0; have k1 := (bx.ext e4).frozen 1; have k2 := (by_.ext e4).frozen 0; have k3 := (by_.ext e4).frozen 1))
    all_goals (go_wp2_with fail; go_meet; exact TwoN.mk' extW e4 bx by_ (hr3.ext hext4) hr4 hc3 hm3 hc4 hm4 hi3 hi4 hl3 hl4 (fun u v p q => ⟨(((((bz.ext e4).far (far_ne (by omega)) _).far (far_ne (by omega)) _).far (far_ne (by omega)) _).far (far_ne (by omega)) _), by have := e4.size; simp [World.setCell]; omega⟩))
  case rest =>
    clear bx by_ bz hz x0 x1 y0 y1 hf0 hf1 hg0 hg1 extW
    obtain ⟨b1, A1, c1, ps, b2, A2, c2, qs, extN, bx, by_, ⟨bz, hz⟩, hp, hq, hc1, hm1, hc2, hm2, hi1, hi2, hl1, hl2⟩ := hcut
    have x0 := bx.cell 0 (.bool b1) rfl
    have x1 := bx.cell 1 (.slice A1 ps.length c1) rfl
    have y0 := by_.cell 0 (.bool b2) rfl
    have y1 := by_.cell 1 (.slice A2 qs.length c2) rfl
    have hps : ps.length ≤ 100000 := by have := Hn.out; omega
    have hqs : qs.length ≤ 100000 := by have := Hm.out; omega
    have hv1 := isint_val hi1
    have hv2 := isint_val hi2
    have Hv1 := Lib.hid hv1
    have Hv2 := Lib.hid hv2
    clear hv1 hv2
    cases hst : (b1 == b2) with
    | true =>
      go_wp2_with fail
      go_region_held3 (fun w' => w'.cell? ⟨w.heap.size, 0, none⟩ = some (.bool b1) ∧ w'.cell? ⟨w.heap.size, 1, none⟩ = some (.slice A1 ps.length c1) ∧ w'.cell? ⟨w.heap.size + 1, 0, none⟩ = some (.bool b2) ∧ w'.cell? ⟨w.heap.size + 1, 1, none⟩ = some (.slice A2 qs.length c2)) (first | (go_split_ands; refine ⟨?_, ?_, ?_, ?_⟩ <;> first | (exact Ext.cellv (by assumption) (by assumption)) | (refine (cell_far2 (by omega)).trans ?_; assumption)) | go_keep)
        (first | (go_at_call 103; refine (ref_plus rfl rfl (hp.ext (by first | exact Ext.refl _ | exact (Ext.refl _).drew | exact (Ext.refl _).drewN _)) (hq.ext (by first | exact Ext.refl _ | exact (Ext.refl _).drew | exact (Ext.refl _).drewN _)) (by omega) (by omega)).mono ?_; rintro e w5 ⟨A5, c5, zs, rfl, ho5, hc5, hm5, ⟨hv5, hn5, hl5⟩, hext5⟩; have Hv5 := Lib.hid hv5; clear hv5) | (go_at_call 58; refine (ref_signed rfl ho5.rd hc5 hm5).mono ?_; rintro e w3 ⟨b3, A3, c3, rs, rfl, hr3, hc3, hm3, hi3, hl3, hext3⟩; have ext3 := ((Ext.refl wc).drew.trans hext5).trans hext3; have bz3 := bz.ext ext3; have z0 := bz3.cell 0 (.bool false) rfl; have z1 := bz3.cell 1 (.slice none 0 0) rfl; have f0 := bz3.frozen 0; have f1 := bz3.frozen 1))
      go_wp2_with fail
      obtain ⟨r1, r2, r3, r4⟩ := fin_pair (b := b3) (n := rs.length) (c := c3) (extN.trans ext3) (by omega) bz3 hr3
      refine bodyPost_ret (v := .agg #[.bool b3, .slice A3 rs.length c3]) (by simp [results, Tryz.results73, go_sem, r3, r4]) rfl ⟨b3, A3, c3, rs, rfl, r1, hc3, hm3, ?_, by omega, r2⟩
      have h := Hv5.out
      have g1 := Hv1.out
      have g2 := Hv2.out
      have hst' : b1 = b2 := by simpa using hst
      subst hst'
      have e : ival b1 zs = ival s xs + ival t ys := by
        unfold ival at *
        cases b1 <;> simp at g1 g2 ⊢ <;> omega
      rw [← e]
      exact hi3
    | false =>
      rcases Nat.lt_trichotomy (val ps) (val qs) with hlt | hlt | hlt
      · have hcm := Lib.hid (show cmpL ps qs = (-1) by rw [cmpL_nrm hp.1 hq.1 hi1.nrm hi2.nrm]; exact cmpI_of_lt hlt)
        have hle := len_le hq.1 hi1.nrm (Nat.le_of_lt hlt)
        have Hlt := Lib.hid hlt
        clear hlt
        go_wp2_with fail
        refine (ref_compare A1 A2 c1 c2 ps qs wc hp hq (by unfold maxLen; omega) (by unfold maxLen; omega)).mono ?_
        rintro e w1 ⟨rfl, hext1⟩
        rw [hcm.out]
        replace extN := extN.trans hext1
        replace hp := hp.ext hext1
        replace hq := hq.ext hext1
        replace bx := bx.ext hext1
        replace by_ := by_.ext hext1
        replace bz := bz.ext hext1
        clear x0 x1 y0 y1 hext1
        have x0 := bx.cell 0 (.bool b1) rfl
        have x1 := bx.cell 1 (.slice A1 ps.length c1) rfl
        have y0 := by_.cell 0 (.bool b2) rfl
        have y1 := by_.cell 1 (.slice A2 qs.length c2) rfl
        go_wp2_with fail
        go_region_held3 (fun w' => w'.cell? ⟨w.heap.size + 1, 0, none⟩ = some (.bool b2) ∧ w'.cell? ⟨w.heap.size + 1, 1, none⟩ = some (.slice A2 qs.length c2) ∧ w'.cell? ⟨w.heap.size, 1, none⟩ = some (.slice A1 ps.length c1)) (first | (go_split_ands; refine ⟨?_, ?_, ?_⟩ <;> first | (exact Ext.cellv (by assumption) (by assumption)) | (refine (cell_far2 (by omega)).trans ?_; assumption)) | go_keep)
          (first | (go_at_call 105; refine (ref_minus rfl rfl (hq.ext (by first | exact Ext.refl _ | exact (Ext.refl _).drew | exact (Ext.refl _).drewN _)) (hp.ext (by first | exact Ext.refl _ | exact (Ext.refl _).drew | exact (Ext.refl _).drewN _)) hle (Nat.le_of_lt Hlt.out) (by omega)).mono ?_; rintro e w5 ⟨A5, c5, zs, rfl, ho5, hc5, hm5, ⟨hv5, hn5, hl5⟩, hext5⟩; have Hv5 := Lib.hid hv5; clear hv5) | (go_at_call 58; refine (ref_signed rfl ho5.rd hc5 hm5).mono ?_; rintro e w3 ⟨b3, A3, c3, rs, rfl, hr3, hc3, hm3, hi3, hl3, hext3⟩; have ext3 := ((Ext.refl w1).drew.trans hext5).trans hext3; have bz3 := bz.ext ext3; have z0 := bz3.cell 0 (.bool false) rfl; have z1 := bz3.cell 1 (.slice none 0 0) rfl; have f0 := bz3.frozen 0; have f1 := bz3.frozen 1))
        go_wp2_with fail
        obtain ⟨r1, r2, r3, r4⟩ := fin_pair (b := b3) (n := rs.length) (c := c3) (extN.trans ext3) (by omega) bz3 hr3
        refine bodyPost_ret (v := .agg #[.bool b3, .slice A3 rs.length c3]) (by simp [results, Tryz.results73, go_sem, r3, r4]) rfl ⟨b3, A3, c3, rs, rfl, r1, hc3, hm3, ?_, by omega, r2⟩
        have h := Hv5.out
        have g1 := Hv1.out
        have g2 := Hv2.out
        have h' := Hlt.out
        have e : ival b2 zs = ival s xs + ival t ys := by
          unfold ival at *
          cases b1 <;> cases b2 <;> simp at hst <;> simp at g1 g2 ⊢ <;> omega
        rw [← e]
        exact hi3
      · have hcm := Lib.hid (show cmpL ps qs = 0 by rw [cmpL_nrm hp.1 hq.1 hi1.nrm hi2.nrm]; exact cmpI_of_eq hlt)
        have hle := len_le hp.1 hi2.nrm (by omega)
        have Hlt := Lib.hid hlt
        clear hlt
        go_wp2_with fail
        refine (ref_compare A1 A2 c1 c2 ps qs wc hp hq (by unfold maxLen; omega) (by unfold maxLen; omega)).mono ?_
        rintro e w1 ⟨rfl, hext1⟩
        rw [hcm.out]
        replace extN := extN.trans hext1
        replace hp := hp.ext hext1
        replace hq := hq.ext hext1
        replace bx := bx.ext hext1
        replace by_ := by_.ext hext1
        replace bz := bz.ext hext1
        clear x0 x1 y0 y1 hext1
        have x0 := bx.cell 0 (.bool b1) rfl
        have x1 := bx.cell 1 (.slice A1 ps.length c1) rfl
        have y0 := by_.cell 0 (.bool b2) rfl
        have y1 := by_.cell 1 (.slice A2 qs.length c2) rfl
        go_wp2_with fail
        go_region_held3 (fun w' => w'.cell? ⟨w.heap.size, 0, none⟩ = some (.bool b1) ∧ w'.cell? ⟨w.heap.size, 1, none⟩ = some (.slice A1 ps.length c1) ∧ w'.cell? ⟨w.heap.size + 1, 1, none⟩ = some (.slice A2 qs.length c2)) (first | (go_split_ands; refine ⟨?_, ?_, ?_⟩ <;> first | (exact Ext.cellv (by assumption) (by assumption)) | (refine (cell_far2 (by omega)).trans ?_; assumption)) | go_keep)
          (first | (go_at_call 105; refine (ref_minus rfl rfl (hp.ext (by first | exact Ext.refl _ | exact (Ext.refl _).drew | exact (Ext.refl _).drewN _)) (hq.ext (by first | exact Ext.refl _ | exact (Ext.refl _).drew | exact (Ext.refl _).drewN _)) hle (by have := Hlt.out; omega) (by omega)).mono ?_; rintro e w5 ⟨A5, c5, zs, rfl, ho5, hc5, hm5, ⟨hv5, hn5, hl5⟩, hext5⟩; have Hv5 := Lib.hid hv5; clear hv5) | (go_at_call 58; refine (ref_signed rfl ho5.rd hc5 hm5).mono ?_; rintro e w3 ⟨b3, A3, c3, rs, rfl, hr3, hc3, hm3, hi3, hl3, hext3⟩; have ext3 := ((Ext.refl w1).drew.trans hext5).trans hext3; have bz3 := bz.ext ext3; have z0 := bz3.cell 0 (.bool false) rfl; have z1 := bz3.cell 1 (.slice none 0 0) rfl; have f0 := bz3.frozen 0; have f1 := bz3.frozen 1))
        go_wp2_with fail
        obtain ⟨r1, r2, r3, r4⟩ := fin_pair (b := b3) (n := rs.length) (c := c3) (extN.trans ext3) (by omega) bz3 hr3
        refine bodyPost_ret (v := .agg #[.bool b3, .slice A3 rs.length c3]) (by simp [results, Tryz.results73, go_sem, r3, r4]) rfl ⟨b3, A3, c3, rs, rfl, r1, hc3, hm3, ?_, by omega, r2⟩
        have h := Hv5.out
        have g1 := Hv1.out
        have g2 := Hv2.out
        have h' := Hlt.out
        have e : ival b1 zs = ival s xs + ival t ys := by
          unfold ival at *
          cases b1 <;> cases b2 <;> simp at hst <;> simp at g1 g2 ⊢ <;> omega
        rw [← e]
        exact hi3
      · have hcm := Lib.hid (show cmpL ps qs = 1 by rw [cmpL_nrm hp.1 hq.1 hi1.nrm hi2.nrm]; exact cmpI_of_gt hlt)
        have hle := len_le hp.1 hi2.nrm (by omega)
        have Hlt := Lib.hid hlt
        clear hlt
        go_wp2_with fail
        refine (ref_compare A1 A2 c1 c2 ps qs wc hp hq (by unfold maxLen; omega) (by unfold maxLen; omega)).mono ?_
        rintro e w1 ⟨rfl, hext1⟩
        rw [hcm.out]
        replace extN := extN.trans hext1
        replace hp := hp.ext hext1
        replace hq := hq.ext hext1
        replace bx := bx.ext hext1
        replace by_ := by_.ext hext1
        replace bz := bz.ext hext1
        clear x0 x1 y0 y1 hext1
        have x0 := bx.cell 0 (.bool b1) rfl
        have x1 := bx.cell 1 (.slice A1 ps.length c1) rfl
        have y0 := by_.cell 0 (.bool b2) rfl
        have y1 := by_.cell 1 (.slice A2 qs.length c2) rfl
        go_wp2_with fail
        go_region_held3 (fun w' => w'.cell? ⟨w.heap.size, 0, none⟩ = some (.bool b1) ∧ w'.cell? ⟨w.heap.size, 1, none⟩ = some (.slice A1 ps.length c1) ∧ w'.cell? ⟨w.heap.size + 1, 1, none⟩ = some (.slice A2 qs.length c2)) (first | (go_split_ands; refine ⟨?_, ?_, ?_⟩ <;> first | (exact Ext.cellv (by assumption) (by assumption)) | (refine (cell_far2 (by omega)).trans ?_; assumption)) | go_keep)
          (first | (go_at_call 105; refine (ref_minus rfl rfl (hp.ext (by first | exact Ext.refl _ | exact (Ext.refl _).drew | exact (Ext.refl _).drewN _)) (hq.ext (by first | exact Ext.refl _ | exact (Ext.refl _).drew | exact (Ext.refl _).drewN _)) hle (by have := Hlt.out; omega) (by omega)).mono ?_; rintro e w5 ⟨A5, c5, zs, rfl, ho5, hc5, hm5, ⟨hv5, hn5, hl5⟩, hext5⟩; have Hv5 := Lib.hid hv5; clear hv5) | (go_at_call 58; refine (ref_signed rfl ho5.rd hc5 hm5).mono ?_; rintro e w3 ⟨b3, A3, c3, rs, rfl, hr3, hc3, hm3, hi3, hl3, hext3⟩; have ext3 := ((Ext.refl w1).drew.trans hext5).trans hext3; have bz3 := bz.ext ext3; have z0 := bz3.cell 0 (.bool false) rfl; have z1 := bz3.cell 1 (.slice none 0 0) rfl; have f0 := bz3.frozen 0; have f1 := bz3.frozen 1))
        go_wp2_with fail
        obtain ⟨r1, r2, r3, r4⟩ := fin_pair (b := b3) (n := rs.length) (c := c3) (extN.trans ext3) (by omega) bz3 hr3
        refine bodyPost_ret (v := .agg #[.bool b3, .slice A3 rs.length c3]) (by simp [results, Tryz.results73, go_sem, r3, r4]) rfl ⟨b3, A3, c3, rs, rfl, r1, hc3, hm3, ?_, by omega, r2⟩
        have h := Hv5.out
        have g1 := Hv1.out
        have g2 := Hv2.out
        have h' := Hlt.out
        have e : ival b1 zs = ival s xs + ival t ys := by
          unfold ival at *
          cases b1 <;> cases b2 <;> simp at hst <;> simp at g1 g2 ⊢ <;> omega
        rw [← e]
        exact hi3
end
end Go.Proofs.YtiioodgpkdbndaaGreatDoor
namespace Go.Proofs.YtiioodgpkdbndaaGreatDoor
open Go.RowKit
attribute [local go_sem ↓] Go.wp_at_zero Go.wp_at_succ
section
variable {A B : Option Addr} {c d n m : Nat} {xs ys : List Nat} {w : World} {s t : Bool}
set_option maxHeartbeats 1000000 in
theorem ref_Mul (hn : xs.length = n) (hm : ys.length = m) (hx : Rd w A xs) (hy : Rd w B ys) (hc : n ≤ c) (hcm : c ≤ maxLen) (hd : m ≤ d) (hdm : d ≤ maxLen) (h1 : n ≤ 100000) (h2 : m ≤ 100000) :
    Calls Tryz.prog 74 #[.agg #[.bool s, .slice A n c], .agg #[.bool t, .slice B m d]] w (RetI (ival s xs * ival t ys) (xs.length + ys.length) w) := by
  have Hn := Lib.hid hn
  have Hm := Lib.hid hm
  clear hn hm
  have lx := trimL_len xs
  have ly := trimL_len ys
  have hxt : Rd w A (trimL xs) := by rw [trimL_take]; exact hx.take _
  have hyt : Rd w B (trimL ys) := by rw [trimL_take]; exact hy.take _
  go_enter Tryz.func74, Tryz.ntmps74
  go_upto_region 1 with (fail)
  obtain ⟨W, hW, extW, bx, by_, bz, hz⟩ := box3 w 24 24 24 #[.bool s, .slice A n c] #[.bool t, .slice B m d] #[.bool false, .slice none 0 0]
  rw [← hW]
  clear hW
  have x0 := bx.cell 0 (.bool s) rfl
  have x1 := bx.cell 1 (.slice A n c) rfl
  have y0 := by_.cell 0 (.bool t) rfl
  have y1 := by_.cell 1 (.slice B m d) rfl
  have hf0 := bx.frozen 0
  have hf1 := bx.frozen 1
  have hg0 := by_.frozen 0
  have hg1 := by_.frozen 1
  go_cut [] (fun wx => TwoN w W (ival s xs) (ival t ys) xs.length ys.length (fun wx => Box wx (w.heap.size + 1 + 1) 24 #[.bool false, .slice none 0 0] ∧ w.heap.size + 3 ≤ wx.heap.size) wx)
  case first =>
    go_region_with (first | (go_at_call_of 15 A; refine (ref_Norm Hn.out (hx.ext (by first | exact extW | exact extW.drew | exact extW.drewN _ | exact (extW.drew).drew)) hc hcm h1).mono ?_; rintro e w3 ⟨b3, A3, c3, rs, rfl, hr3, hc3, hm3, hi3, hl3, hext3⟩; have e3 := (by first | exact hext3 | exact (Ext.refl W).drew.trans hext3 : Ext W w3); have y30 := (by_.ext e3).cell 0 (.bool t) rfl; have y31 := (by_.ext e3).cell 1 (.slice B m d) rfl) | (go_at_call_of 15 B; refine (ref_Norm Hm.out (hy.ext (extW.trans e3)) hd hdm h2).mono ?_; rintro e w4 ⟨b4, A4, c4, qs, rfl, hr4, hc4, hm4, hi4, hl4, hext4⟩; have e4 := e3.trans hext4; have x40 := (bx.ext e4).cell 0 (.bool s) rfl; have x41 := (bx.ext e4).cell 1 (.slice A n c) rfl; have y40 := (by_.ext e4).cell 0 (.bool t) rfl; have y41 := (by_.ext e4).cell 1 (.slice B m d) rfl; have k0 := (bx.ext e4).frozen 0; have k1 := (bx.ext e4).frozen 1; have k2 := (by_.ext e4).frozen 0; have k3 := (by_.ext e4).frozen 1))
    all_goals (go_wp2_with fail; go_meet; exact TwoN.mk' extW e4 bx by_ (hr3.ext hext4) hr4 hc3 hm3 hc4 hm4 hi3 hi4 hl3 hl4 (fun u v p q => ⟨(((((bz.ext e4).far (far_ne (by omega)) _).far (far_ne (by omega)) _).far (far_ne (by omega)) _).far (far_ne (by omega)) _), by have := e4.size; simp [World.setCell]; omega⟩))
  case rest =>
    clear bx by_ bz hz x0 x1 y0 y1 hf0 hf1 hg0 hg1 extW
    obtain ⟨b1, A1, c1, ps, b2, A2, c2, qs, extN, bx, by_, ⟨bz, hz⟩, hp, hq, hc1, hm1, hc2, hm2, hi1, hi2, hl1, hl2⟩ := hcut
    have hps : ps.length ≤ 100000 := by have := Hn.out; omega
    have hqs : qs.length ≤ 100000 := by have := Hm.out; omega
    have x0 := bx.cell 0 (.bool b1) rfl
    have x1 := bx.cell 1 (.slice A1 ps.length c1) rfl
    have y0 := by_.cell 0 (.bool b2) rfl
    have y1 := by_.cell 1 (.slice A2 qs.length c2) rfl
    go_wp2_with fail
    go_region_held3 (fun w' => w'.cell? ⟨w.heap.size, 0, none⟩ = some (.bool b1) ∧ w'.cell? ⟨w.heap.size, 1, none⟩ = some (.slice A1 ps.length c1) ∧ w'.cell? ⟨w.heap.size + 1, 0, none⟩ = some (.bool b2) ∧ w'.cell? ⟨w.heap.size + 1, 1, none⟩ = some (.slice A2 qs.length c2)) (first | (go_split_ands; refine ⟨?_, ?_, ?_, ?_⟩ <;> first | (exact Ext.cellv (by assumption) (by assumption)) | (refine (cell_far2 (by omega)).trans ?_; assumption)) | go_keep)
      (first | (go_at_call 106; refine (ref_times1 rfl rfl (hp.ext (by first | exact Ext.refl _ | exact (Ext.refl _).drew | exact (Ext.refl _).drewN _)) (hq.ext (by first | exact Ext.refl _ | exact (Ext.refl _).drew | exact (Ext.refl _).drewN _)) (by omega)).mono ?_; rintro e w5 ⟨A5, c5, zs, rfl, ho5, hc5, hm5, ⟨hv5, hn5, hl5⟩, hext5⟩; have Hv5 := Lib.hid hv5; clear hv5) | (go_at_call 58; refine (ref_signed rfl ho5.rd hc5 hm5).mono ?_; rintro e w3 ⟨b3, A3, c3, rs, rfl, hr3, hc3, hm3, hi3, hl3, hext3⟩; have ext3 := ((Ext.refl wc).drew.trans hext5).trans hext3; have bz3 := bz.ext ext3; have z0 := bz3.cell 0 (.bool false) rfl; have z1 := bz3.cell 1 (.slice none 0 0) rfl; have f0 := bz3.frozen 0; have f1 := bz3.frozen 1))
    go_wp2_with fail
    obtain ⟨r1, r2, r3, r4⟩ := fin_pair (b := b3) (n := rs.length) (c := c3) (extN.trans ext3) (by omega) bz3 hr3
    exact bodyPost_ret (v := .agg #[.bool b3, .slice A3 rs.length c3]) (by simp [results, Tryz.results74, go_sem, r3, r4]) rfl ⟨b3, A3, c3, rs, rfl, r1, hc3, hm3, by rw [ival_mul Hv5.out, hi1.eq, hi2.eq] at hi3; exact hi3, by omega, r2⟩
end
end Go.Proofs.YtiioodgpkdbndaaGreatDoor
namespace Go.Proofs.YtiioodgpkdbndaaGreatDoor
open Go.RowKit
attribute [local go_sem ↓] Go.wp_at_zero Go.wp_at_succ
section
variable {A B : Option Addr} {c d n m : Nat} {xs ys : List Nat} {w : World} {s t : Bool}
set_option maxHeartbeats 1000000 in
theorem ref_Sub (hn : xs.length = n) (hm : ys.length = m) (hx : Rd w A xs) (hy : Rd w B ys) (hc : n ≤ c) (hcm : c ≤ maxLen) (hd : m ≤ d) (hdm : d ≤ maxLen) (h1 : n ≤ 100000) (h2 : m ≤ 100000) :
    Calls Tryz.prog 107 #[.agg #[.bool s, .slice A n c], .agg #[.bool t, .slice B m d]] w (RetI (ival s xs - ival t ys) (max xs.length ys.length + 1) w) := by
  have Hn := Lib.hid hn
  have Hm := Lib.hid hm
  clear hn hm
  have lx := trimL_len xs
  have ly := trimL_len ys
  have hxt : Rd w A (trimL xs) := by rw [trimL_take]; exact hx.take _
  have hyt : Rd w B (trimL ys) := by rw [trimL_take]; exact hy.take _
  go_enter Tryz.func107, Tryz.ntmps107
  go_upto_region 1 with (fail)
  obtain ⟨W, hW, extW, bx, by_, bz, hz⟩ := box3 w 24 24 24 #[.bool s, .slice A n c] #[.bool t, .slice B m d] #[.bool false, .slice none 0 0]
  rw [← hW]
  clear hW
  have x0 := bx.cell 0 (.bool s) rfl
  have x1 := bx.cell 1 (.slice A n c) rfl
  have y0 := by_.cell 0 (.bool t) rfl
  have y1 := by_.cell 1 (.slice B m d) rfl
  go_region_held3 (fun w' => w'.cell? ⟨w.heap.size, 0, none⟩ = some (.bool s) ∧ w'.cell? ⟨w.heap.size, 1, none⟩ = some (.slice A n c) ∧ w'.cell? ⟨w.heap.size + 1, 0, none⟩ = some (.bool t) ∧ w'.cell? ⟨w.heap.size + 1, 1, none⟩ = some (.slice B m d)) (first | (go_split_ands; refine ⟨?_, ?_, ?_, ?_⟩ <;> first | (exact Ext.cellv (by assumption) (by assumption)) | (refine (cell_far2 (by omega)).trans ?_; assumption)) | go_keep)
    (first | (go_at_call 61; refine (ref_Neg Hm.out (hy.ext (by first | exact extW | exact extW.drew | exact extW.drewN _ | exact (extW.drew).drew)) hd hdm h2).mono ?_; rintro e w4 ⟨b4, A4, c4, qs, rfl, hr4, hc4, hm4, hi4, hl4, hext4⟩) | (go_at_call 73; refine (ref_Add Hn.out rfl (hx.ext (extW.trans ((Ext.refl W).drew.trans hext4))) hr4 hc hcm hc4 hm4 h1 (by have := Hm.out; omega)).mono ?_; rintro e w3 ⟨b3, A3, c3, rs, rfl, hr3, hc3, hm3, hi3, hl3, hext3⟩; have ext3 := ((Ext.refl W).drew.trans hext4).trans hext3; have bz3 := bz.ext ext3; have z0 := bz3.cell 0 (.bool false) rfl; have z1 := bz3.cell 1 (.slice none 0 0) rfl; have f0 := bz3.frozen 0; have f1 := bz3.frozen 1))
  go_wp2_with fail
  obtain ⟨r1, r2, r3, r4⟩ := fin_pair (b := b3) (n := rs.length) (c := c3) (extW.trans ext3) (by omega) bz3 hr3
  exact bodyPost_ret (v := .agg #[.bool b3, .slice A3 rs.length c3]) (by simp [results, Tryz.results107, go_sem, r3, r4]) rfl ⟨b3, A3, c3, rs, rfl, r1, hc3, hm3, by rw [hi4.eq] at hi3; exact hi3, by omega, r2⟩
set_option maxHeartbeats 1000000 in
theorem ref_Cmp (hn : xs.length = n) (hm : ys.length = m) (hx : Rd w A xs) (hy : Rd w B ys) (hc : n ≤ c) (hcm : c ≤ maxLen) (hd : m ≤ d) (hdm : d ≤ maxLen) (h1 : n ≤ 50000) (h2 : m ≤ 50000) :
    Calls Tryz.prog 77 #[.agg #[.bool s, .slice A n c], .agg #[.bool t, .slice B m d]] w fun e w' => e = .returned (.int .i64 (ival s xs - ival t ys).sign) ∧ Ext w w' := by
  go_enter Tryz.func77, Tryz.ntmps77
  go_upto_region 1 with (fail)
  obtain ⟨W, hW, extW, bx, by_, hz⟩ := box2 w 24 24 #[.bool s, .slice A n c] #[.bool t, .slice B m d]
  rw [← hW]
  clear hW
  have x0 := bx.cell 0 (.bool s) rfl
  have x1 := bx.cell 1 (.slice A n c) rfl
  have y0 := by_.cell 0 (.bool t) rfl
  have y1 := by_.cell 1 (.slice B m d) rfl
  go_wp2_with fail
  refine (ref_Sub hn hm (hx.ext extW) (hy.ext extW) hc hcm hd hdm (by omega) (by omega)).mono ?_
  rintro e w3 ⟨b3, A3, c3, rs, rfl, hr3, hc3, hm3, hi3, hl3, hext3⟩
  go_wp2_with fail
  refine (ref_Sign rfl hr3 hc3 hm3 (by omega)).mono ?_
  rintro e w4 ⟨rfl, hext4⟩
  go_wp2_with fail
  go_ret
  exact ⟨ret_int (by rw [hi3.eq]), (extW.trans hext3).trans hext4⟩
end
end Go.Proofs.YtiioodgpkdbndaaGreatDoor
namespace Go.Proofs.YtiioodgpkdbndaaGreatDoor
open Go.RowKit
section
variable {A B : Option Addr} {c d n m : Nat} {xs ys : List Nat} {w : World} {s t : Bool}
set_option maxHeartbeats 2000000 in
theorem ref_Valid (hn : xs.length = n) (hx : Rd w A xs) (hc : n ≤ c) (hcm : c ≤ maxLen) (h1 : n ≤ 100000) :
    Calls Tryz.prog 41 #[.agg #[.bool s, .slice A n c]] w fun e w' => e = .returned (.bool (validB s xs)) ∧ Ext w w' := by
  obtain ⟨W, hW, extW, bx, hz⟩ := box1 w 24 #[.bool s, .slice A n c]
  have x0 := bx.cell 0 (.bool s) rfl
  have x1 := bx.cell 1 (.slice A n c) rfl
  have Hn := Lib.hid hn
  have Hv := Lib.hid (show validB s xs = (decide ((trimL xs).length = n) && (!s || decide (0 < n))) by unfold validB; rw [hn])
  clear hn
  by_cases ht : (trimL xs).length = n
  · have t1 : (((trimL xs).length : Int) == (n : Int)) = true := by rw [beq_iff_eq]; omega
    have t2 : decide ((trimL xs).length = n) = true := decide_eq_true ht
    rw [t2] at Hv
    cases s
    · have Hv2 := Lib.hid (show validB false xs = true by rw [Hv.out]; rfl)
      go_enter Tryz.func41, Tryz.ntmps41
      go_upto_region 1 with (fail)
      rw [← hW]
      clear hW
      go_quiet ((go_at_call 79; exact quiet_left (ref_trimN Hn.out (hx.ext (extW.drewN _)) hc hcm)))
      go_wp2_with fail
      go_ret
      exact ⟨by rw [Hv2.out]; rfl, by first | exact extW | exact extW.drew | exact extW.drewN _⟩
    · by_cases h0 : 0 < n
      · have Hv2 := Lib.hid (show validB true xs = true by rw [Hv.out, decide_eq_true h0]; rfl)
        have t3 : decide ((0 : Int) < (n : Int)) = true := decide_eq_true (by omega)
        go_enter Tryz.func41, Tryz.ntmps41
        go_upto_region 1 with (fail)
        rw [← hW]
        clear hW
        go_quiet ((go_at_call 79; exact quiet_left (ref_trimN Hn.out (hx.ext (extW.drewN _)) hc hcm)))
        go_wp2_with fail
        go_ret
        exact ⟨by rw [Hv2.out]; rfl, by first | exact extW | exact extW.drew | exact extW.drewN _⟩
      · have Hv2 := Lib.hid (show validB true xs = false by rw [Hv.out, decide_eq_false h0]; rfl)
        have t3 : decide ((0 : Int) < (n : Int)) = false := decide_eq_false (by omega)
        go_enter Tryz.func41, Tryz.ntmps41
        go_upto_region 1 with (fail)
        rw [← hW]
        clear hW
        go_quiet ((go_at_call 79; exact quiet_left (ref_trimN Hn.out (hx.ext (extW.drewN _)) hc hcm)))
        go_wp2_with fail
        go_ret
        exact ⟨by rw [Hv2.out]; rfl, by first | exact extW | exact extW.drew | exact extW.drewN _⟩
  · have t1 : (((trimL xs).length : Int) == (n : Int)) = false := by rw [beq_eq_false_iff_ne]; omega
    have Hv2 := Lib.hid (show validB s xs = false by rw [Hv.out, decide_eq_false ht]; rfl)
    go_enter Tryz.func41, Tryz.ntmps41
    go_upto_region 1 with (fail)
    rw [← hW]
    clear hW
    go_quiet ((go_at_call 79; exact quiet_left (ref_trimN Hn.out (hx.ext (extW.drewN _)) hc hcm)))
    go_wp2_with fail
    go_ret
    exact ⟨by rw [Hv2.out]; rfl, by first | exact extW | exact extW.drew | exact extW.drewN _⟩
end
end Go.Proofs.YtiioodgpkdbndaaGreatDoor
namespace Go.Proofs.YtiioodgpkdbndaaGreatDoor
open Go.RowKit
section
variable {w w' : World} {z y : Int} {L L' M : Nat} {s t : Bool} {A B : Option Addr} {n c m d : Nat}
theorem q_Mul (h : NI w z L s A n c) (k : NI w y M t B m d) (hL : L ≤ 50000) (hM : M ≤ 50000) : Calls Tryz.prog 74 #[.agg #[.bool s, .slice A n c], .agg #[.bool t, .slice B m d]] w (RetNI (z * y) (L + M) w) := by
  obtain ⟨xs, hn, hx, hc, hcm, hi, hl⟩ := h.out
  obtain ⟨ys, hm, hy, hd, hdm, hj, hk⟩ := k.out
  refine (ref_Mul hn hm hx hy hc hcm hd hdm (by omega) (by omega)).mono fun e w' hr => ?_
  rw [hi.eq, hj.eq] at hr
  exact hr.ni (by omega)
theorem q_Cmp (h : NI w z L s A n c) (k : NI w y M t B m d) (hL : L ≤ 50000) (hM : M ≤ 50000) : Calls Tryz.prog 77 #[.agg #[.bool s, .slice A n c], .agg #[.bool t, .slice B m d]] w fun e w' => e = .returned (.int .i64 (z - y).sign) ∧ Ext w w' := by
  obtain ⟨xs, hn, hx, hc, hcm, hi, hl⟩ := h.out
  obtain ⟨ys, hm, hy, hd, hdm, hj, hk⟩ := k.out
  refine (ref_Cmp hn hm hx hy hc hcm hd hdm (by omega) (by omega)).mono ?_
  rw [hi.eq, hj.eq]
  exact fun _ _ h => h
end
end Go.Proofs.YtiioodgpkdbndaaGreatDoor
namespace Go.Proofs.YtiioodgpkdbndaaGreatDoor
open Go.RowKit
attribute [local go_sem ↓] Go.wp_at_zero Go.wp_at_succ
section
variable {w w' : World} {z y : Int} {q p : Rat} {L M : Nat} {s t s' t' : Bool} {A B A' B' : Option Addr} {n c m d n' c' m' d' : Nat}
theorem cmp_signs (a b d e : Int) (hd : 0 < d) (he : 0 < e) (h : a.sign ≠ b.sign) : (a - b).sign = (a * e - b * d).sign := by
  rcases Int.lt_trichotomy a 0 with ha | ha | ha <;> rcases Int.lt_trichotomy b 0 with hb | hb | hb
  · exact absurd (by rw [Int.sign_eq_neg_one_of_neg ha, Int.sign_eq_neg_one_of_neg hb]) h
  · have := Int.mul_neg_of_neg_of_pos ha he
    subst hb
    rw [Int.sign_eq_neg_one_of_neg (by omega), Int.sign_eq_neg_one_of_neg (by omega)]
  · have := Int.mul_neg_of_neg_of_pos ha he
    have := Int.mul_pos hb hd
    rw [Int.sign_eq_neg_one_of_neg (by omega), Int.sign_eq_neg_one_of_neg (by omega)]
  · have := Int.mul_neg_of_neg_of_pos hb hd
    subst ha
    rw [Int.sign_eq_one_of_pos (by omega), Int.sign_eq_one_of_pos (by omega)]
  · subst ha; subst hb; simp
  · have := Int.mul_pos hb hd
    subst ha
    rw [Int.sign_eq_neg_one_of_neg (by omega), Int.sign_eq_neg_one_of_neg (by omega)]
  · have := Int.mul_pos ha he
    have := Int.mul_neg_of_neg_of_pos hb hd
    rw [Int.sign_eq_one_of_pos (by omega), Int.sign_eq_one_of_pos (by omega)]
  · have := Int.mul_pos ha he
    subst hb
    rw [Int.sign_eq_one_of_pos (by omega), Int.sign_eq_one_of_pos (by omega)]
  · exact absurd (by rw [Int.sign_eq_one_of_pos ha, Int.sign_eq_one_of_pos hb]) h
def ratCmp (q p : Rat) : Int := (q.num * (p.den : Int) - p.num * (q.den : Int)).sign
set_option maxHeartbeats 4000000 in
set_option maxRecDepth 100000 in
theorem p_CmpR (h : NR w q L s A n c t B m d) (k : NR w p M s' A' n' c' t' B' m' d') (hL : L ≤ 20000) (hM : M ≤ 20000) (h64 : min L M < 64) : Calls Tryz.prog 36 #[.agg #[.bool s, .slice A n c, .bool t, .slice B m d], .agg #[.bool s', .slice A' n' c', .bool t', .slice B' m' d']] w fun e w' => e = .returned (.int .i64 (ratCmp q p)) ∧ Ext w w' := by
  go_enter Tryz.func36, Tryz.ntmps36
  go_upto_region 1 with (fail)
  obtain ⟨W, hW, extW, bx, by_, hz⟩ := box2 w 27 27 #[.bool s, .slice A n c, .bool t, .slice B m d] #[.bool s', .slice A' n' c', .bool t', .slice B' m' d']
  rw [← hW]
  clear hW
  by_cases hs : q.num.sign = p.num.sign
  · have Hs := Lib.hid hs
    by_cases h1 : (q.den : Int) = 1
    · have ho1 : decide ((q.den : Int) = 1) = true := decide_eq_true h1
      have H1 := Lib.hid h1
      clear h1
      by_cases h2 : (p.den : Int) = 1
      · have ho2 : decide ((p.den : Int) = 1) = true := decide_eq_true h2
        have H2 := Lib.hid h2
        clear hs h2
        have ES0 := Ext.refl W
        refine wp_region_held_drew (S := Ext W) (by kernel_rfl) ES0.drew (fun ES => ?_)
        clear ES0
        refine Late.start0 (fun _ _ _ _ _ => ⟨fun h => h, fun h => h⟩) ES (fun hAl hQ => ?_)
        refine Late.take (i := 0) (d := some 5) (v := ?v0_22) rfl rfl (by kernel_rfl) (by kernel_rfl) (by kernel_rfl) (by kernel_rfl) hQ (Or.inl ⟨by rfl, ?y0_22⟩) ?r0_22
        case y0_22 =>
          intro w' hSw
          have k00 := (bx.ext hSw).c4
          have k10 := (by_.ext hSw).c4
          go_simp
          try with_reducible rfl
        try simp only [Act.put]
        try simp only [List.setIfInBounds_toArray]
        try simp only [List.set_cons_succ]
        try simp only [List.set_cons_zero]
        refine Late.take (i := 2) (d := some 7) (v := ?v2_23) rfl rfl (by kernel_rfl) (by kernel_rfl) (by kernel_rfl) (by kernel_rfl) hQ (Or.inl ⟨by rfl, ?y2_23⟩) ?r2_23
        case y2_23 =>
          intro w' hSw
          have k00 := (bx.ext hSw).c4
          have k10 := (by_.ext hSw).c4
          go_simp
          try with_reducible rfl
        try simp only [Act.put]
        try simp only [List.setIfInBounds_toArray]
        try simp only [List.set_cons_succ]
        try simp only [List.set_cons_zero]
        refine Late.call (i := 1) rfl (by kernel_rfl) hAl (by kernel_rfl) (by kernel_rfl) (by kernel_rfl) hQ (fun w1 e1 E1 K hK => ?_)
        go_simp
        (go_at_call 37; refine (p_SignR (h.ext (extW.trans E1)) (by omega)).mono ?_; rintro e wk1 ⟨rfl, hx1⟩)
        refine hK.out _ _ hx1 ?_
        clear hK K
        try simp only [Act.put]
        try simp only [List.setIfInBounds_toArray]
        try simp only [List.set_cons_succ]
        try simp only [List.set_cons_zero]
        refine Late.call (i := 3) rfl (by kernel_rfl) hAl (by kernel_rfl) (by kernel_rfl) (by kernel_rfl) hQ (fun w3 e3 E3 K hK => ?_)
        go_simp
        (go_at_call 37; refine (p_SignR (k.ext (extW.trans E3)) (by omega)).mono ?_; rintro e wk2 ⟨rfl, hx3⟩)
        refine hK.out _ _ hx3 ?_
        clear hK K
        try simp only [Act.put]
        try simp only [List.setIfInBounds_toArray]
        try simp only [List.set_cons_succ]
        try simp only [List.set_cons_zero]
        have hne : (q.num.sign != p.num.sign) = false := by simp [Hs.out]
        refine Late.take (i := 4) (d := some 9) (v := ?v4_24) rfl rfl (by kernel_rfl) (by kernel_rfl) (by kernel_rfl) (by kernel_rfl) hQ (Or.inl ⟨by rfl, ?y4_24⟩) ?r4_24
        case y4_24 =>
          intro w' hSw
          have k00 := (bx.ext hSw).c4
          have k10 := (by_.ext hSw).c4
          go_simp
          try with_reducible rfl
        try simp only [Act.put]
        try simp only [List.setIfInBounds_toArray]
        try simp only [List.set_cons_succ]
        try simp only [List.set_cons_zero]
        refine Late.take (i := 5) (d := some 10) (v := ?v5_25) rfl rfl (by kernel_rfl) (by kernel_rfl) (by kernel_rfl) (by kernel_rfl) hQ (Or.inl ⟨by rfl, ?y5_25⟩) ?r5_25
        case y5_25 =>
          intro w' hSw
          have k00 := (bx.ext hSw).c4
          have k10 := (by_.ext hSw).c4
          go_simp
          try with_reducible rfl
        try simp only [Act.put]
        try simp only [List.setIfInBounds_toArray]
        try simp only [List.set_cons_succ]
        try simp only [List.set_cons_zero]
        refine Late.take (i := 6) (d := some 11) (v := ?v6_26) rfl rfl (by kernel_rfl) (by kernel_rfl) (by kernel_rfl) (by kernel_rfl) hQ (Or.inl ⟨by rfl, ?y6_26⟩) ?r6_26
        case y6_26 =>
          intro w' hSw
          have k00 := (bx.ext hSw).c4
          have k10 := (by_.ext hSw).c4
          go_simp
          try with_reducible rfl
        try simp only [Act.put]
        try simp only [List.setIfInBounds_toArray]
        try simp only [List.set_cons_succ]
        try simp only [List.set_cons_zero]
        refine Late.take (i := 7) (d := some 12) (v := ?v7_27) rfl rfl (by kernel_rfl) (by kernel_rfl) (by kernel_rfl) (by kernel_rfl) hQ (Or.inl ⟨by rfl, ?y7_27⟩) ?r7_27
        case y7_27 =>
          intro w' hSw
          have k00 := (bx.ext hSw).c4
          have k10 := (by_.ext hSw).c4
          go_simp
          try with_reducible rfl
        try simp only [Act.put]
        try simp only [List.setIfInBounds_toArray]
        try simp only [List.set_cons_succ]
        try simp only [List.set_cons_zero]
        refine Late.call (i := 8) rfl (by kernel_rfl) hAl (by kernel_rfl) (by kernel_rfl) (by kernel_rfl) hQ (fun w8 e8 E8 K hK => ?_)
        go_simp
        (go_at_call 55; refine (p_isOne (h.den.ext (extW.trans E8))).mono ?_; rintro e wk3 ⟨rfl, hx8⟩; rw [ho1])
        refine hK.out _ _ hx8 ?_
        clear hK K
        try simp only [Act.put]
        try simp only [List.setIfInBounds_toArray]
        try simp only [List.set_cons_succ]
        try simp only [List.set_cons_zero]
        refine Late.take (i := 9) (d := some 14) (v := ?v9_28) rfl rfl (by kernel_rfl) (by kernel_rfl) (by kernel_rfl) (by kernel_rfl) hQ (Or.inl ⟨by rfl, ?y9_28⟩) ?r9_28
        case y9_28 =>
          intro w' hSw
          have k00 := (bx.ext hSw).c4
          have k10 := (by_.ext hSw).c4
          go_simp
          try with_reducible rfl
        try simp only [Act.put]
        try simp only [List.setIfInBounds_toArray]
        try simp only [List.set_cons_succ]
        try simp only [List.set_cons_zero]
        refine Late.take (i := 10) (d := some 15) (v := ?v10_29) rfl rfl (by kernel_rfl) (by kernel_rfl) (by kernel_rfl) (by kernel_rfl) hQ (Or.inl ⟨by rfl, ?y10_29⟩) ?r10_29
        case y10_29 =>
          intro w' hSw
          have k00 := (bx.ext hSw).c4
          have k10 := (by_.ext hSw).c4
          go_simp
          try with_reducible rfl
        try simp only [Act.put]
        try simp only [List.setIfInBounds_toArray]
        try simp only [List.set_cons_succ]
        try simp only [List.set_cons_zero]
        refine Late.take (i := 11) (d := some 16) (v := ?v11_30) rfl rfl (by kernel_rfl) (by kernel_rfl) (by kernel_rfl) (by kernel_rfl) hQ (Or.inl ⟨by rfl, ?y11_30⟩) ?r11_30
        case y11_30 =>
          intro w' hSw
          have k00 := (bx.ext hSw).c4
          have k10 := (by_.ext hSw).c4
          go_simp
          try with_reducible rfl
        try simp only [Act.put]
        try simp only [List.setIfInBounds_toArray]
        try simp only [List.set_cons_succ]
        try simp only [List.set_cons_zero]
        refine Late.call (i := 12) rfl (by kernel_rfl) hAl (by kernel_rfl) (by kernel_rfl) (by kernel_rfl) hQ (fun w12 e12 E12 K hK => ?_)
        go_simp
        (go_at_call 55; refine (p_isOne (k.den.ext (extW.trans E12))).mono ?_; rintro e wk4 ⟨rfl, hx12⟩; rw [ho2])
        refine hK.out _ _ hx12 ?_
        clear hK K
        try simp only [Act.put]
        try simp only [List.setIfInBounds_toArray]
        try simp only [List.set_cons_succ]
        try simp only [List.set_cons_zero]
        refine Late.take (i := 13) (d := some 18) (v := ?v13_31) rfl rfl (by kernel_rfl) (by kernel_rfl) (by kernel_rfl) (by kernel_rfl) hQ (Or.inl ⟨by rfl, ?y13_31⟩) ?r13_31
        case y13_31 =>
          intro w' hSw
          have k00 := (bx.ext hSw).c4
          have k10 := (by_.ext hSw).c4
          go_simp
          try with_reducible rfl
        try simp only [Act.put]
        try simp only [List.setIfInBounds_toArray]
        try simp only [List.set_cons_succ]
        try simp only [List.set_cons_zero]
        refine Late.take (i := 14) (d := some 19) (v := ?v14_32) rfl rfl (by kernel_rfl) (by kernel_rfl) (by kernel_rfl) (by kernel_rfl) hQ (Or.inl ⟨by rfl, ?y14_32⟩) ?r14_32
        case y14_32 =>
          intro w' hSw
          have k00 := (bx.ext hSw).c4
          have k10 := (by_.ext hSw).c4
          go_simp
          try with_reducible rfl
        try simp only [Act.put]
        try simp only [List.setIfInBounds_toArray]
        try simp only [List.set_cons_succ]
        try simp only [List.set_cons_zero]
        refine Late.done0 (by kernel_rfl) (fun wz ez Ez => ?_)
        clear hAl hQ ES
        replace extW := extW.trans Ez
        replace bx := bx.ext Ez
        replace by_ := by_.ext Ez
        clear Ez ez
        have x0 := bx.cell 0 (.bool s) rfl
        have x1 := bx.cell 1 (.slice A n c) rfl
        have y0 := by_.cell 0 (.bool s') rfl
        have y1 := by_.cell 1 (.slice A' n' c') rfl
        go_wp2_with fail
        refine (p_Cmp (h.num.ext extW) (k.num.ext extW) (by omega) (by omega)).mono ?_
        rintro e wm ⟨rfl, hxm⟩
        go_wp2_with fail
        go_ret
        refine ⟨?_, extW.trans hxm⟩
        unfold ratCmp
        rw [H1.out, H2.out, Int.mul_one, Int.mul_one]
        rfl
      · have ho2 : decide ((p.den : Int) = 1) = false := decide_eq_false h2
        clear hs h2
        have ES0 := Ext.refl W
        refine wp_region_held_drew (S := Ext W) (by kernel_rfl) ES0.drew (fun ES => ?_)
        clear ES0
        refine Late.start0 (fun _ _ _ _ _ => ⟨fun h => h, fun h => h⟩) ES (fun hAl hQ => ?_)
        refine Late.take (i := 0) (d := some 5) (v := ?v0_33) rfl rfl (by kernel_rfl) (by kernel_rfl) (by kernel_rfl) (by kernel_rfl) hQ (Or.inl ⟨by rfl, ?y0_33⟩) ?r0_33
        case y0_33 =>
          intro w' hSw
          have k00 := (bx.ext hSw).c4
          have k10 := (by_.ext hSw).c4
          go_simp
          try with_reducible rfl
        try simp only [Act.put]
        try simp only [List.setIfInBounds_toArray]
        try simp only [List.set_cons_succ]
        try simp only [List.set_cons_zero]
        refine Late.take (i := 2) (d := some 7) (v := ?v2_34) rfl rfl (by kernel_rfl) (by kernel_rfl) (by kernel_rfl) (by kernel_rfl) hQ (Or.inl ⟨by rfl, ?y2_34⟩) ?r2_34
        case y2_34 =>
          intro w' hSw
          have k00 := (bx.ext hSw).c4
          have k10 := (by_.ext hSw).c4
          go_simp
          try with_reducible rfl
        try simp only [Act.put]
        try simp only [List.setIfInBounds_toArray]
        try simp only [List.set_cons_succ]
        try simp only [List.set_cons_zero]
        refine Late.call (i := 1) rfl (by kernel_rfl) hAl (by kernel_rfl) (by kernel_rfl) (by kernel_rfl) hQ (fun w1 e1 E1 K hK => ?_)
        go_simp
        (go_at_call 37; refine (p_SignR (h.ext (extW.trans E1)) (by omega)).mono ?_; rintro e wk1 ⟨rfl, hx1⟩)
        refine hK.out _ _ hx1 ?_
        clear hK K
        try simp only [Act.put]
        try simp only [List.setIfInBounds_toArray]
        try simp only [List.set_cons_succ]
        try simp only [List.set_cons_zero]
        refine Late.call (i := 3) rfl (by kernel_rfl) hAl (by kernel_rfl) (by kernel_rfl) (by kernel_rfl) hQ (fun w3 e3 E3 K hK => ?_)
        go_simp
        (go_at_call 37; refine (p_SignR (k.ext (extW.trans E3)) (by omega)).mono ?_; rintro e wk2 ⟨rfl, hx3⟩)
        refine hK.out _ _ hx3 ?_
        clear hK K
        try simp only [Act.put]
        try simp only [List.setIfInBounds_toArray]
        try simp only [List.set_cons_succ]
        try simp only [List.set_cons_zero]
        have hne : (q.num.sign != p.num.sign) = false := by simp [Hs.out]
        refine Late.take (i := 4) (d := some 9) (v := ?v4_35) rfl rfl (by kernel_rfl) (by kernel_rfl) (by kernel_rfl) (by kernel_rfl) hQ (Or.inl ⟨by rfl, ?y4_35⟩) ?r4_35
        case y4_35 =>
          intro w' hSw
          have k00 := (bx.ext hSw).c4
          have k10 := (by_.ext hSw).c4
          go_simp
          try with_reducible rfl
        try simp only [Act.put]
        try simp only [List.setIfInBounds_toArray]
        try simp only [List.set_cons_succ]
        try simp only [List.set_cons_zero]
        refine Late.take (i := 5) (d := some 10) (v := ?v5_36) rfl rfl (by kernel_rfl) (by kernel_rfl) (by kernel_rfl) (by kernel_rfl) hQ (Or.inl ⟨by rfl, ?y5_36⟩) ?r5_36
        case y5_36 =>
          intro w' hSw
          have k00 := (bx.ext hSw).c4
          have k10 := (by_.ext hSw).c4
          go_simp
          try with_reducible rfl
        try simp only [Act.put]
        try simp only [List.setIfInBounds_toArray]
        try simp only [List.set_cons_succ]
        try simp only [List.set_cons_zero]
        refine Late.take (i := 6) (d := some 11) (v := ?v6_37) rfl rfl (by kernel_rfl) (by kernel_rfl) (by kernel_rfl) (by kernel_rfl) hQ (Or.inl ⟨by rfl, ?y6_37⟩) ?r6_37
        case y6_37 =>
          intro w' hSw
          have k00 := (bx.ext hSw).c4
          have k10 := (by_.ext hSw).c4
          go_simp
          try with_reducible rfl
        try simp only [Act.put]
        try simp only [List.setIfInBounds_toArray]
        try simp only [List.set_cons_succ]
        try simp only [List.set_cons_zero]
        refine Late.take (i := 7) (d := some 12) (v := ?v7_38) rfl rfl (by kernel_rfl) (by kernel_rfl) (by kernel_rfl) (by kernel_rfl) hQ (Or.inl ⟨by rfl, ?y7_38⟩) ?r7_38
        case y7_38 =>
          intro w' hSw
          have k00 := (bx.ext hSw).c4
          have k10 := (by_.ext hSw).c4
          go_simp
          try with_reducible rfl
        try simp only [Act.put]
        try simp only [List.setIfInBounds_toArray]
        try simp only [List.set_cons_succ]
        try simp only [List.set_cons_zero]
        refine Late.call (i := 8) rfl (by kernel_rfl) hAl (by kernel_rfl) (by kernel_rfl) (by kernel_rfl) hQ (fun w8 e8 E8 K hK => ?_)
        go_simp
        (go_at_call 55; refine (p_isOne (h.den.ext (extW.trans E8))).mono ?_; rintro e wk3 ⟨rfl, hx8⟩; rw [ho1])
        refine hK.out _ _ hx8 ?_
        clear hK K
        try simp only [Act.put]
        try simp only [List.setIfInBounds_toArray]
        try simp only [List.set_cons_succ]
        try simp only [List.set_cons_zero]
        refine Late.take (i := 9) (d := some 14) (v := ?v9_39) rfl rfl (by kernel_rfl) (by kernel_rfl) (by kernel_rfl) (by kernel_rfl) hQ (Or.inl ⟨by rfl, ?y9_39⟩) ?r9_39
        case y9_39 =>
          intro w' hSw
          have k00 := (bx.ext hSw).c4
          have k10 := (by_.ext hSw).c4
          go_simp
          try with_reducible rfl
        try simp only [Act.put]
        try simp only [List.setIfInBounds_toArray]
        try simp only [List.set_cons_succ]
        try simp only [List.set_cons_zero]
        refine Late.take (i := 10) (d := some 15) (v := ?v10_40) rfl rfl (by kernel_rfl) (by kernel_rfl) (by kernel_rfl) (by kernel_rfl) hQ (Or.inl ⟨by rfl, ?y10_40⟩) ?r10_40
        case y10_40 =>
          intro w' hSw
          have k00 := (bx.ext hSw).c4
          have k10 := (by_.ext hSw).c4
          go_simp
          try with_reducible rfl
        try simp only [Act.put]
        try simp only [List.setIfInBounds_toArray]
        try simp only [List.set_cons_succ]
        try simp only [List.set_cons_zero]
        refine Late.take (i := 11) (d := some 16) (v := ?v11_41) rfl rfl (by kernel_rfl) (by kernel_rfl) (by kernel_rfl) (by kernel_rfl) hQ (Or.inl ⟨by rfl, ?y11_41⟩) ?r11_41
        case y11_41 =>
          intro w' hSw
          have k00 := (bx.ext hSw).c4
          have k10 := (by_.ext hSw).c4
          go_simp
          try with_reducible rfl
        try simp only [Act.put]
        try simp only [List.setIfInBounds_toArray]
        try simp only [List.set_cons_succ]
        try simp only [List.set_cons_zero]
        refine Late.call (i := 12) rfl (by kernel_rfl) hAl (by kernel_rfl) (by kernel_rfl) (by kernel_rfl) hQ (fun w12 e12 E12 K hK => ?_)
        go_simp
        (go_at_call 55; refine (p_isOne (k.den.ext (extW.trans E12))).mono ?_; rintro e wk4 ⟨rfl, hx12⟩; rw [ho2])
        refine hK.out _ _ hx12 ?_
        clear hK K
        try simp only [Act.put]
        try simp only [List.setIfInBounds_toArray]
        try simp only [List.set_cons_succ]
        try simp only [List.set_cons_zero]
        refine Late.take (i := 13) (d := some 18) (v := ?v13_42) rfl rfl (by kernel_rfl) (by kernel_rfl) (by kernel_rfl) (by kernel_rfl) hQ (Or.inl ⟨by rfl, ?y13_42⟩) ?r13_42
        case y13_42 =>
          intro w' hSw
          have k00 := (bx.ext hSw).c4
          have k10 := (by_.ext hSw).c4
          go_simp
          try with_reducible rfl
        try simp only [Act.put]
        try simp only [List.setIfInBounds_toArray]
        try simp only [List.set_cons_succ]
        try simp only [List.set_cons_zero]
        refine Late.take (i := 14) (d := some 19) (v := ?v14_43) rfl rfl (by kernel_rfl) (by kernel_rfl) (by kernel_rfl) (by kernel_rfl) hQ (Or.inl ⟨by rfl, ?y14_43⟩) ?r14_43
        case y14_43 =>
          intro w' hSw
          have k00 := (bx.ext hSw).c4
          have k10 := (by_.ext hSw).c4
          go_simp
          try with_reducible rfl
        try simp only [Act.put]
        try simp only [List.setIfInBounds_toArray]
        try simp only [List.set_cons_succ]
        try simp only [List.set_cons_zero]
        refine Late.done0 (by kernel_rfl) (fun wz ez Ez => ?_)
        clear hAl hQ ES
        replace extW := extW.trans Ez
        replace bx := bx.ext Ez
        replace by_ := by_.ext Ez
        clear Ez ez
        go_wp2_with fail
        have ES0 := Ext.refl wz
        refine wp_region_held_drew (S := Ext wz) (by kernel_rfl) ES0.drew (fun ES => ?_)
        clear ES0
        refine Late.start0 (fun _ _ _ _ _ => ⟨fun h => h, fun h => h⟩) ES (fun hAl hQ => ?_)
        refine Late.take (i := 0) (d := some 25) (v := ?v0_44) rfl rfl (by kernel_rfl) (by kernel_rfl) (by kernel_rfl) (by kernel_rfl) hQ (Or.inl ⟨by rfl, ?y0_44⟩) ?r0_44
        case y0_44 =>
          intro w' hSw
          have k00 := (bx.ext hSw).c4
          have k10 := (by_.ext hSw).c4
          go_simp
          try with_reducible rfl
        try simp only [Act.put]
        try simp only [List.setIfInBounds_toArray]
        try simp only [List.set_cons_succ]
        try simp only [List.set_cons_zero]
        refine Late.take (i := 2) (d := some 27) (v := ?v2_45) rfl rfl (by kernel_rfl) (by kernel_rfl) (by kernel_rfl) (by kernel_rfl) hQ (Or.inl ⟨by rfl, ?y2_45⟩) ?r2_45
        case y2_45 =>
          intro w' hSw
          have k00 := (bx.ext hSw).c4
          have k10 := (by_.ext hSw).c4
          go_simp
          try with_reducible rfl
        try simp only [Act.put]
        try simp only [List.setIfInBounds_toArray]
        try simp only [List.set_cons_succ]
        try simp only [List.set_cons_zero]
        refine Late.take (i := 5) (d := some 30) (v := ?v5_46) rfl rfl (by kernel_rfl) (by kernel_rfl) (by kernel_rfl) (by kernel_rfl) hQ (Or.inl ⟨by rfl, ?y5_46⟩) ?r5_46
        case y5_46 =>
          intro w' hSw
          have k00 := (bx.ext hSw).c4
          have k10 := (by_.ext hSw).c4
          go_simp
          try with_reducible rfl
        try simp only [Act.put]
        try simp only [List.setIfInBounds_toArray]
        try simp only [List.set_cons_succ]
        try simp only [List.set_cons_zero]
        refine Late.take (i := 7) (d := some 32) (v := ?v7_47) rfl rfl (by kernel_rfl) (by kernel_rfl) (by kernel_rfl) (by kernel_rfl) hQ (Or.inl ⟨by rfl, ?y7_47⟩) ?r7_47
        case y7_47 =>
          intro w' hSw
          have k00 := (bx.ext hSw).c4
          have k10 := (by_.ext hSw).c4
          go_simp
          try with_reducible rfl
        try simp only [Act.put]
        try simp only [List.setIfInBounds_toArray]
        try simp only [List.set_cons_succ]
        try simp only [List.set_cons_zero]
        refine Late.take (i := 1) (d := some 26) (v := ?v1_48) rfl rfl (by kernel_rfl) (by kernel_rfl) (by kernel_rfl) (by kernel_rfl) hQ (Or.inl ⟨by rfl, ?y1_48⟩) ?r1_48
        case y1_48 =>
          intro w' hSw
          have k00 := (bx.ext hSw).c4
          have k10 := (by_.ext hSw).c4
          go_simp
          try with_reducible rfl
        try simp only [Act.put]
        try simp only [List.setIfInBounds_toArray]
        try simp only [List.set_cons_succ]
        try simp only [List.set_cons_zero]
        refine Late.take (i := 3) (d := some 28) (v := ?v3_49) rfl rfl (by kernel_rfl) (by kernel_rfl) (by kernel_rfl) (by kernel_rfl) hQ (Or.inl ⟨by rfl, ?y3_49⟩) ?r3_49
        case y3_49 =>
          intro w' hSw
          have k00 := (bx.ext hSw).c4
          have k10 := (by_.ext hSw).c4
          go_simp
          try with_reducible rfl
        try simp only [Act.put]
        try simp only [List.setIfInBounds_toArray]
        try simp only [List.set_cons_succ]
        try simp only [List.set_cons_zero]
        refine Late.take (i := 6) (d := some 31) (v := ?v6_50) rfl rfl (by kernel_rfl) (by kernel_rfl) (by kernel_rfl) (by kernel_rfl) hQ (Or.inl ⟨by rfl, ?y6_50⟩) ?r6_50
        case y6_50 =>
          intro w' hSw
          have k00 := (bx.ext hSw).c4
          have k10 := (by_.ext hSw).c4
          go_simp
          try with_reducible rfl
        try simp only [Act.put]
        try simp only [List.setIfInBounds_toArray]
        try simp only [List.set_cons_succ]
        try simp only [List.set_cons_zero]
        refine Late.take (i := 8) (d := some 33) (v := ?v8_51) rfl rfl (by kernel_rfl) (by kernel_rfl) (by kernel_rfl) (by kernel_rfl) hQ (Or.inl ⟨by rfl, ?y8_51⟩) ?r8_51
        case y8_51 =>
          intro w' hSw
          have k00 := (bx.ext hSw).c4
          have k10 := (by_.ext hSw).c4
          go_simp
          try with_reducible rfl
        try simp only [Act.put]
        try simp only [List.setIfInBounds_toArray]
        try simp only [List.set_cons_succ]
        try simp only [List.set_cons_zero]
        refine Late.call (i := 4) rfl (by kernel_rfl) hAl (by kernel_rfl) (by kernel_rfl) (by kernel_rfl) hQ (fun w4 e4 E4 K hK => ?_)
        go_simp
        (go_at_call 72; refine (p_Mul (h.num.ext (extW.trans E4)) (k.den.ext (extW.trans E4)) (by omega) (by omega) h64).mono ?_; rintro e m1 ⟨s1, A1, n1, c1, rfl, h1, hx4⟩)
        refine hK.out _ _ hx4 ?_
        clear hK K
        try simp only [Act.put]
        try simp only [List.setIfInBounds_toArray]
        try simp only [List.set_cons_succ]
        try simp only [List.set_cons_zero]
        refine Late.call (i := 9) rfl (by kernel_rfl) hAl (by kernel_rfl) (by kernel_rfl) (by kernel_rfl) hQ (fun w9 e9 E9 K hK => ?_)
        go_simp
        (go_at_call 72; refine (p_Mul (k.num.ext (extW.trans E9)) (h.den.ext (extW.trans E9)) (by omega) (by omega) (by omega)).mono ?_; rintro e m2 ⟨s2, A2, n2, c2, rfl, h2, hx9⟩)
        refine hK.out _ _ hx9 ?_
        clear hK K
        try simp only [Act.put]
        try simp only [List.setIfInBounds_toArray]
        try simp only [List.set_cons_succ]
        try simp only [List.set_cons_zero]
        refine Late.call (i := 10) rfl (by kernel_rfl) hAl (by kernel_rfl) (by kernel_rfl) (by kernel_rfl) hQ (fun w10 e10 E10 K hK => ?_)
        go_simp
        (go_at_call 76; refine (p_Cmp (h1.ext (e9.trans (hx9.trans e10))) (h2.ext e10) (by omega) (by omega)).mono ?_; rintro e m3 ⟨rfl, hx10⟩)
        refine hK.out _ _ hx10 ?_
        clear hK K
        try simp only [Act.put]
        try simp only [List.setIfInBounds_toArray]
        try simp only [List.set_cons_succ]
        try simp only [List.set_cons_zero]
        refine Late.take (i := 11) (d := some 4) (v := ?v11_52) rfl rfl (by kernel_rfl) (by kernel_rfl) (by kernel_rfl) (by kernel_rfl) hQ (Or.inl ⟨by rfl, ?y11_52⟩) ?r11_52
        case y11_52 =>
          intro w' hSw
          have k00 := (bx.ext hSw).c4
          have k10 := (by_.ext hSw).c4
          go_simp
          try with_reducible rfl
        try simp only [Act.put]
        try simp only [List.setIfInBounds_toArray]
        try simp only [List.set_cons_succ]
        try simp only [List.set_cons_zero]
        refine Late.done0 (by kernel_rfl) (fun wz ez Ez => ?_)
        clear hAl hQ ES
        go_wp2_with fail
        go_ret
        exact ⟨rfl, extW.trans Ez⟩
    · have ho1 : decide ((q.den : Int) = 1) = false := decide_eq_false h1
      clear hs h1
      have ES0 := Ext.refl W
      refine wp_region_held_drew (S := Ext W) (by kernel_rfl) ES0.drew (fun ES => ?_)
      clear ES0
      refine Late.start0 (fun _ _ _ _ _ => ⟨fun h => h, fun h => h⟩) ES (fun hAl hQ => ?_)
      refine Late.take (i := 0) (d := some 5) (v := ?v0_13) rfl rfl (by kernel_rfl) (by kernel_rfl) (by kernel_rfl) (by kernel_rfl) hQ (Or.inl ⟨by rfl, ?y0_13⟩) ?r0_13
      case y0_13 =>
        intro w' hSw
        have k00 := (bx.ext hSw).c4
        have k10 := (by_.ext hSw).c4
        go_simp
        try with_reducible rfl
      try simp only [Act.put]
      try simp only [List.setIfInBounds_toArray]
      try simp only [List.set_cons_succ]
      try simp only [List.set_cons_zero]
      refine Late.take (i := 2) (d := some 7) (v := ?v2_14) rfl rfl (by kernel_rfl) (by kernel_rfl) (by kernel_rfl) (by kernel_rfl) hQ (Or.inl ⟨by rfl, ?y2_14⟩) ?r2_14
      case y2_14 =>
        intro w' hSw
        have k00 := (bx.ext hSw).c4
        have k10 := (by_.ext hSw).c4
        go_simp
        try with_reducible rfl
      try simp only [Act.put]
      try simp only [List.setIfInBounds_toArray]
      try simp only [List.set_cons_succ]
      try simp only [List.set_cons_zero]
      refine Late.call (i := 1) rfl (by kernel_rfl) hAl (by kernel_rfl) (by kernel_rfl) (by kernel_rfl) hQ (fun w1 e1 E1 K hK => ?_)
      go_simp
      (go_at_call 37; refine (p_SignR (h.ext (extW.trans E1)) (by omega)).mono ?_; rintro e wk1 ⟨rfl, hx1⟩)
      refine hK.out _ _ hx1 ?_
      clear hK K
      try simp only [Act.put]
      try simp only [List.setIfInBounds_toArray]
      try simp only [List.set_cons_succ]
      try simp only [List.set_cons_zero]
      refine Late.call (i := 3) rfl (by kernel_rfl) hAl (by kernel_rfl) (by kernel_rfl) (by kernel_rfl) hQ (fun w3 e3 E3 K hK => ?_)
      go_simp
      (go_at_call 37; refine (p_SignR (k.ext (extW.trans E3)) (by omega)).mono ?_; rintro e wk2 ⟨rfl, hx3⟩)
      refine hK.out _ _ hx3 ?_
      clear hK K
      try simp only [Act.put]
      try simp only [List.setIfInBounds_toArray]
      try simp only [List.set_cons_succ]
      try simp only [List.set_cons_zero]
      have hne : (q.num.sign != p.num.sign) = false := by simp [Hs.out]
      refine Late.take (i := 4) (d := some 9) (v := ?v4_15) rfl rfl (by kernel_rfl) (by kernel_rfl) (by kernel_rfl) (by kernel_rfl) hQ (Or.inl ⟨by rfl, ?y4_15⟩) ?r4_15
      case y4_15 =>
        intro w' hSw
        have k00 := (bx.ext hSw).c4
        have k10 := (by_.ext hSw).c4
        go_simp
        try with_reducible rfl
      try simp only [Act.put]
      try simp only [List.setIfInBounds_toArray]
      try simp only [List.set_cons_succ]
      try simp only [List.set_cons_zero]
      refine Late.take (i := 5) (d := some 10) (v := ?v5_16) rfl rfl (by kernel_rfl) (by kernel_rfl) (by kernel_rfl) (by kernel_rfl) hQ (Or.inl ⟨by rfl, ?y5_16⟩) ?r5_16
      case y5_16 =>
        intro w' hSw
        have k00 := (bx.ext hSw).c4
        have k10 := (by_.ext hSw).c4
        go_simp
        try with_reducible rfl
      try simp only [Act.put]
      try simp only [List.setIfInBounds_toArray]
      try simp only [List.set_cons_succ]
      try simp only [List.set_cons_zero]
      refine Late.take (i := 6) (d := some 11) (v := ?v6_17) rfl rfl (by kernel_rfl) (by kernel_rfl) (by kernel_rfl) (by kernel_rfl) hQ (Or.inl ⟨by rfl, ?y6_17⟩) ?r6_17
      case y6_17 =>
        intro w' hSw
        have k00 := (bx.ext hSw).c4
        have k10 := (by_.ext hSw).c4
        go_simp
        try with_reducible rfl
      try simp only [Act.put]
      try simp only [List.setIfInBounds_toArray]
      try simp only [List.set_cons_succ]
      try simp only [List.set_cons_zero]
      refine Late.take (i := 7) (d := some 12) (v := ?v7_18) rfl rfl (by kernel_rfl) (by kernel_rfl) (by kernel_rfl) (by kernel_rfl) hQ (Or.inl ⟨by rfl, ?y7_18⟩) ?r7_18
      case y7_18 =>
        intro w' hSw
        have k00 := (bx.ext hSw).c4
        have k10 := (by_.ext hSw).c4
        go_simp
        try with_reducible rfl
      try simp only [Act.put]
      try simp only [List.setIfInBounds_toArray]
      try simp only [List.set_cons_succ]
      try simp only [List.set_cons_zero]
      refine Late.call (i := 8) rfl (by kernel_rfl) hAl (by kernel_rfl) (by kernel_rfl) (by kernel_rfl) hQ (fun w8 e8 E8 K hK => ?_)
      go_simp
      (go_at_call 55; refine (p_isOne (h.den.ext (extW.trans E8))).mono ?_; rintro e wk3 ⟨rfl, hx8⟩; rw [ho1])
      refine hK.out _ _ hx8 ?_
      clear hK K
      try simp only [Act.put]
      try simp only [List.setIfInBounds_toArray]
      try simp only [List.set_cons_succ]
      try simp only [List.set_cons_zero]
      refine Late.take (i := 9) (d := some 14) (v := ?v9_19) rfl rfl (by kernel_rfl) (by kernel_rfl) (by kernel_rfl) (by kernel_rfl) hQ (Or.inl ⟨by rfl, ?y9_19⟩) ?r9_19
      case y9_19 =>
        intro w' hSw
        have k00 := (bx.ext hSw).c4
        have k10 := (by_.ext hSw).c4
        go_simp
        try with_reducible rfl
      try simp only [Act.put]
      try simp only [List.setIfInBounds_toArray]
      try simp only [List.set_cons_succ]
      try simp only [List.set_cons_zero]
      refine Late.take (i := 10) (d := some 15) (v := undef) rfl rfl (by kernel_rfl) (by kernel_rfl) (by kernel_rfl) (by kernel_rfl) hQ (Or.inr ⟨by kernel_rfl, rfl⟩) ?_
      try simp only [Act.put]
      try simp only [List.setIfInBounds_toArray]
      try simp only [List.set_cons_succ]
      try simp only [List.set_cons_zero]
      refine Late.take (i := 11) (d := some 16) (v := undef) rfl rfl (by kernel_rfl) (by kernel_rfl) (by kernel_rfl) (by kernel_rfl) hQ (Or.inr ⟨by kernel_rfl, rfl⟩) ?_
      try simp only [Act.put]
      try simp only [List.setIfInBounds_toArray]
      try simp only [List.set_cons_succ]
      try simp only [List.set_cons_zero]
      refine Late.take (i := 12) (d := some 17) (v := undef) rfl rfl (by kernel_rfl) (by kernel_rfl) (by kernel_rfl) (by kernel_rfl) hQ (Or.inr ⟨by kernel_rfl, rfl⟩) ?_
      try simp only [Act.put]
      try simp only [List.setIfInBounds_toArray]
      try simp only [List.set_cons_succ]
      try simp only [List.set_cons_zero]
      refine Late.take (i := 13) (d := some 18) (v := ?v13_20) rfl rfl (by kernel_rfl) (by kernel_rfl) (by kernel_rfl) (by kernel_rfl) hQ (Or.inl ⟨by rfl, ?y13_20⟩) ?r13_20
      case y13_20 =>
        intro w' hSw
        have k00 := (bx.ext hSw).c4
        have k10 := (by_.ext hSw).c4
        go_simp
        try with_reducible rfl
      try simp only [Act.put]
      try simp only [List.setIfInBounds_toArray]
      try simp only [List.set_cons_succ]
      try simp only [List.set_cons_zero]
      refine Late.take (i := 14) (d := some 19) (v := ?v14_21) rfl rfl (by kernel_rfl) (by kernel_rfl) (by kernel_rfl) (by kernel_rfl) hQ (Or.inl ⟨by rfl, ?y14_21⟩) ?r14_21
      case y14_21 =>
        intro w' hSw
        have k00 := (bx.ext hSw).c4
        have k10 := (by_.ext hSw).c4
        go_simp
        try with_reducible rfl
      try simp only [Act.put]
      try simp only [List.setIfInBounds_toArray]
      try simp only [List.set_cons_succ]
      try simp only [List.set_cons_zero]
      refine Late.done0 (by kernel_rfl) (fun wz ez Ez => ?_)
      clear hAl hQ ES
      replace extW := extW.trans Ez
      replace bx := bx.ext Ez
      replace by_ := by_.ext Ez
      clear Ez ez
      go_wp2_with fail
      have ES0 := Ext.refl wz
      refine wp_region_held_drew (S := Ext wz) (by kernel_rfl) ES0.drew (fun ES => ?_)
      clear ES0
      refine Late.start0 (fun _ _ _ _ _ => ⟨fun h => h, fun h => h⟩) ES (fun hAl hQ => ?_)
      refine Late.take (i := 0) (d := some 25) (v := ?v0_53) rfl rfl (by kernel_rfl) (by kernel_rfl) (by kernel_rfl) (by kernel_rfl) hQ (Or.inl ⟨by rfl, ?y0_53⟩) ?r0_53
      case y0_53 =>
        intro w' hSw
        have k00 := (bx.ext hSw).c4
        have k10 := (by_.ext hSw).c4
        go_simp
        try with_reducible rfl
      try simp only [Act.put]
      try simp only [List.setIfInBounds_toArray]
      try simp only [List.set_cons_succ]
      try simp only [List.set_cons_zero]
      refine Late.take (i := 2) (d := some 27) (v := ?v2_54) rfl rfl (by kernel_rfl) (by kernel_rfl) (by kernel_rfl) (by kernel_rfl) hQ (Or.inl ⟨by rfl, ?y2_54⟩) ?r2_54
      case y2_54 =>
        intro w' hSw
        have k00 := (bx.ext hSw).c4
        have k10 := (by_.ext hSw).c4
        go_simp
        try with_reducible rfl
      try simp only [Act.put]
      try simp only [List.setIfInBounds_toArray]
      try simp only [List.set_cons_succ]
      try simp only [List.set_cons_zero]
      refine Late.take (i := 5) (d := some 30) (v := ?v5_55) rfl rfl (by kernel_rfl) (by kernel_rfl) (by kernel_rfl) (by kernel_rfl) hQ (Or.inl ⟨by rfl, ?y5_55⟩) ?r5_55
      case y5_55 =>
        intro w' hSw
        have k00 := (bx.ext hSw).c4
        have k10 := (by_.ext hSw).c4
        go_simp
        try with_reducible rfl
      try simp only [Act.put]
      try simp only [List.setIfInBounds_toArray]
      try simp only [List.set_cons_succ]
      try simp only [List.set_cons_zero]
      refine Late.take (i := 7) (d := some 32) (v := ?v7_56) rfl rfl (by kernel_rfl) (by kernel_rfl) (by kernel_rfl) (by kernel_rfl) hQ (Or.inl ⟨by rfl, ?y7_56⟩) ?r7_56
      case y7_56 =>
        intro w' hSw
        have k00 := (bx.ext hSw).c4
        have k10 := (by_.ext hSw).c4
        go_simp
        try with_reducible rfl
      try simp only [Act.put]
      try simp only [List.setIfInBounds_toArray]
      try simp only [List.set_cons_succ]
      try simp only [List.set_cons_zero]
      refine Late.take (i := 1) (d := some 26) (v := ?v1_57) rfl rfl (by kernel_rfl) (by kernel_rfl) (by kernel_rfl) (by kernel_rfl) hQ (Or.inl ⟨by rfl, ?y1_57⟩) ?r1_57
      case y1_57 =>
        intro w' hSw
        have k00 := (bx.ext hSw).c4
        have k10 := (by_.ext hSw).c4
        go_simp
        try with_reducible rfl
      try simp only [Act.put]
      try simp only [List.setIfInBounds_toArray]
      try simp only [List.set_cons_succ]
      try simp only [List.set_cons_zero]
      refine Late.take (i := 3) (d := some 28) (v := ?v3_58) rfl rfl (by kernel_rfl) (by kernel_rfl) (by kernel_rfl) (by kernel_rfl) hQ (Or.inl ⟨by rfl, ?y3_58⟩) ?r3_58
      case y3_58 =>
        intro w' hSw
        have k00 := (bx.ext hSw).c4
        have k10 := (by_.ext hSw).c4
        go_simp
        try with_reducible rfl
      try simp only [Act.put]
      try simp only [List.setIfInBounds_toArray]
      try simp only [List.set_cons_succ]
      try simp only [List.set_cons_zero]
      refine Late.take (i := 6) (d := some 31) (v := ?v6_59) rfl rfl (by kernel_rfl) (by kernel_rfl) (by kernel_rfl) (by kernel_rfl) hQ (Or.inl ⟨by rfl, ?y6_59⟩) ?r6_59
      case y6_59 =>
        intro w' hSw
        have k00 := (bx.ext hSw).c4
        have k10 := (by_.ext hSw).c4
        go_simp
        try with_reducible rfl
      try simp only [Act.put]
      try simp only [List.setIfInBounds_toArray]
      try simp only [List.set_cons_succ]
      try simp only [List.set_cons_zero]
      refine Late.take (i := 8) (d := some 33) (v := ?v8_60) rfl rfl (by kernel_rfl) (by kernel_rfl) (by kernel_rfl) (by kernel_rfl) hQ (Or.inl ⟨by rfl, ?y8_60⟩) ?r8_60
      case y8_60 =>
        intro w' hSw
        have k00 := (bx.ext hSw).c4
        have k10 := (by_.ext hSw).c4
        go_simp
        try with_reducible rfl
      try simp only [Act.put]
      try simp only [List.setIfInBounds_toArray]
      try simp only [List.set_cons_succ]
      try simp only [List.set_cons_zero]
      refine Late.call (i := 4) rfl (by kernel_rfl) hAl (by kernel_rfl) (by kernel_rfl) (by kernel_rfl) hQ (fun w4 e4 E4 K hK => ?_)
      go_simp
      (go_at_call 72; refine (p_Mul (h.num.ext (extW.trans E4)) (k.den.ext (extW.trans E4)) (by omega) (by omega) h64).mono ?_; rintro e m1 ⟨s1, A1, n1, c1, rfl, h1, hx4⟩)
      refine hK.out _ _ hx4 ?_
      clear hK K
      try simp only [Act.put]
      try simp only [List.setIfInBounds_toArray]
      try simp only [List.set_cons_succ]
      try simp only [List.set_cons_zero]
      refine Late.call (i := 9) rfl (by kernel_rfl) hAl (by kernel_rfl) (by kernel_rfl) (by kernel_rfl) hQ (fun w9 e9 E9 K hK => ?_)
      go_simp
      (go_at_call 72; refine (p_Mul (k.num.ext (extW.trans E9)) (h.den.ext (extW.trans E9)) (by omega) (by omega) (by omega)).mono ?_; rintro e m2 ⟨s2, A2, n2, c2, rfl, h2, hx9⟩)
      refine hK.out _ _ hx9 ?_
      clear hK K
      try simp only [Act.put]
      try simp only [List.setIfInBounds_toArray]
      try simp only [List.set_cons_succ]
      try simp only [List.set_cons_zero]
      refine Late.call (i := 10) rfl (by kernel_rfl) hAl (by kernel_rfl) (by kernel_rfl) (by kernel_rfl) hQ (fun w10 e10 E10 K hK => ?_)
      go_simp
      (go_at_call 76; refine (p_Cmp (h1.ext (e9.trans (hx9.trans e10))) (h2.ext e10) (by omega) (by omega)).mono ?_; rintro e m3 ⟨rfl, hx10⟩)
      refine hK.out _ _ hx10 ?_
      clear hK K
      try simp only [Act.put]
      try simp only [List.setIfInBounds_toArray]
      try simp only [List.set_cons_succ]
      try simp only [List.set_cons_zero]
      refine Late.take (i := 11) (d := some 4) (v := ?v11_61) rfl rfl (by kernel_rfl) (by kernel_rfl) (by kernel_rfl) (by kernel_rfl) hQ (Or.inl ⟨by rfl, ?y11_61⟩) ?r11_61
      case y11_61 =>
        intro w' hSw
        have k00 := (bx.ext hSw).c4
        have k10 := (by_.ext hSw).c4
        go_simp
        try with_reducible rfl
      try simp only [Act.put]
      try simp only [List.setIfInBounds_toArray]
      try simp only [List.set_cons_succ]
      try simp only [List.set_cons_zero]
      refine Late.done0 (by kernel_rfl) (fun wz ez Ez => ?_)
      clear hAl hQ ES
      go_wp2_with fail
      go_ret
      exact ⟨rfl, extW.trans Ez⟩
  · have Hs := Lib.hid hs
    have ES0 := Ext.refl W
    refine wp_region_held_drew (S := Ext W) (by kernel_rfl) ES0.drew (fun ES => ?_)
    clear ES0
    refine Late.start0 (fun _ _ _ _ _ => ⟨fun h => h, fun h => h⟩) ES (fun hAl hQ => ?_)
    refine Late.take (i := 0) (d := some 5) (v := ?v0_8) rfl rfl (by kernel_rfl) (by kernel_rfl) (by kernel_rfl) (by kernel_rfl) hQ (Or.inl ⟨by rfl, ?y0_8⟩) ?r0_8
    case y0_8 =>
      intro w' hSw
      have k00 := (bx.ext hSw).c4
      have k10 := (by_.ext hSw).c4
      go_simp
      try with_reducible rfl
    try simp only [Act.put]
    try simp only [List.setIfInBounds_toArray]
    try simp only [List.set_cons_succ]
    try simp only [List.set_cons_zero]
    refine Late.take (i := 2) (d := some 7) (v := ?v2_9) rfl rfl (by kernel_rfl) (by kernel_rfl) (by kernel_rfl) (by kernel_rfl) hQ (Or.inl ⟨by rfl, ?y2_9⟩) ?r2_9
    case y2_9 =>
      intro w' hSw
      have k00 := (bx.ext hSw).c4
      have k10 := (by_.ext hSw).c4
      go_simp
      try with_reducible rfl
    try simp only [Act.put]
    try simp only [List.setIfInBounds_toArray]
    try simp only [List.set_cons_succ]
    try simp only [List.set_cons_zero]
    refine Late.call (i := 1) rfl (by kernel_rfl) hAl (by kernel_rfl) (by kernel_rfl) (by kernel_rfl) hQ (fun w1 e1 E1 K hK => ?_)
    go_simp
    (go_at_call 37; refine (p_SignR (h.ext (extW.trans E1)) (by omega)).mono ?_; rintro e wk1 ⟨rfl, hx1⟩)
    refine hK.out _ _ hx1 ?_
    clear hK K
    try simp only [Act.put]
    try simp only [List.setIfInBounds_toArray]
    try simp only [List.set_cons_succ]
    try simp only [List.set_cons_zero]
    refine Late.call (i := 3) rfl (by kernel_rfl) hAl (by kernel_rfl) (by kernel_rfl) (by kernel_rfl) hQ (fun w3 e3 E3 K hK => ?_)
    go_simp
    (go_at_call 37; refine (p_SignR (k.ext (extW.trans E3)) (by omega)).mono ?_; rintro e wk2 ⟨rfl, hx3⟩)
    refine hK.out _ _ hx3 ?_
    clear hK K
    try simp only [Act.put]
    try simp only [List.setIfInBounds_toArray]
    try simp only [List.set_cons_succ]
    try simp only [List.set_cons_zero]
    have hne : (q.num.sign != p.num.sign) = true := bne_iff_ne.2 Hs.out
    refine Late.take (i := 4) (d := some 9) (v := ?v4_10) rfl rfl (by kernel_rfl) (by kernel_rfl) (by kernel_rfl) (by kernel_rfl) hQ (Or.inl ⟨by rfl, ?y4_10⟩) ?r4_10
    case y4_10 =>
      intro w' hSw
      have k00 := (bx.ext hSw).c4
      have k10 := (by_.ext hSw).c4
      go_simp
      try with_reducible rfl
    try simp only [Act.put]
    try simp only [List.setIfInBounds_toArray]
    try simp only [List.set_cons_succ]
    try simp only [List.set_cons_zero]
    refine Late.take (i := 5) (d := some 10) (v := ?v5_11) rfl rfl (by kernel_rfl) (by kernel_rfl) (by kernel_rfl) (by kernel_rfl) hQ (Or.inl ⟨by rfl, ?y5_11⟩) ?r5_11
    case y5_11 =>
      intro w' hSw
      have k00 := (bx.ext hSw).c4
      have k10 := (by_.ext hSw).c4
      go_simp
      try with_reducible rfl
    try simp only [Act.put]
    try simp only [List.setIfInBounds_toArray]
    try simp only [List.set_cons_succ]
    try simp only [List.set_cons_zero]
    refine Late.take (i := 6) (d := some 11) (v := undef) rfl rfl (by kernel_rfl) (by kernel_rfl) (by kernel_rfl) (by kernel_rfl) hQ (Or.inr ⟨by kernel_rfl, rfl⟩) ?_
    try simp only [Act.put]
    try simp only [List.setIfInBounds_toArray]
    try simp only [List.set_cons_succ]
    try simp only [List.set_cons_zero]
    refine Late.take (i := 7) (d := some 12) (v := undef) rfl rfl (by kernel_rfl) (by kernel_rfl) (by kernel_rfl) (by kernel_rfl) hQ (Or.inr ⟨by kernel_rfl, rfl⟩) ?_
    try simp only [Act.put]
    try simp only [List.setIfInBounds_toArray]
    try simp only [List.set_cons_succ]
    try simp only [List.set_cons_zero]
    refine Late.take (i := 8) (d := some 13) (v := undef) rfl rfl (by kernel_rfl) (by kernel_rfl) (by kernel_rfl) (by kernel_rfl) hQ (Or.inr ⟨by kernel_rfl, rfl⟩) ?_
    try simp only [Act.put]
    try simp only [List.setIfInBounds_toArray]
    try simp only [List.set_cons_succ]
    try simp only [List.set_cons_zero]
    refine Late.take (i := 9) (d := some 14) (v := undef) rfl rfl (by kernel_rfl) (by kernel_rfl) (by kernel_rfl) (by kernel_rfl) hQ (Or.inr ⟨by kernel_rfl, rfl⟩) ?_
    try simp only [Act.put]
    try simp only [List.setIfInBounds_toArray]
    try simp only [List.set_cons_succ]
    try simp only [List.set_cons_zero]
    refine Late.take (i := 10) (d := some 15) (v := undef) rfl rfl (by kernel_rfl) (by kernel_rfl) (by kernel_rfl) (by kernel_rfl) hQ (Or.inr ⟨by kernel_rfl, rfl⟩) ?_
    try simp only [Act.put]
    try simp only [List.setIfInBounds_toArray]
    try simp only [List.set_cons_succ]
    try simp only [List.set_cons_zero]
    refine Late.take (i := 11) (d := some 16) (v := undef) rfl rfl (by kernel_rfl) (by kernel_rfl) (by kernel_rfl) (by kernel_rfl) hQ (Or.inr ⟨by kernel_rfl, rfl⟩) ?_
    try simp only [Act.put]
    try simp only [List.setIfInBounds_toArray]
    try simp only [List.set_cons_succ]
    try simp only [List.set_cons_zero]
    refine Late.take (i := 12) (d := some 17) (v := undef) rfl rfl (by kernel_rfl) (by kernel_rfl) (by kernel_rfl) (by kernel_rfl) hQ (Or.inr ⟨by kernel_rfl, rfl⟩) ?_
    try simp only [Act.put]
    try simp only [List.setIfInBounds_toArray]
    try simp only [List.set_cons_succ]
    try simp only [List.set_cons_zero]
    refine Late.take (i := 13) (d := some 18) (v := undef) rfl rfl (by kernel_rfl) (by kernel_rfl) (by kernel_rfl) (by kernel_rfl) hQ (Or.inr ⟨by kernel_rfl, rfl⟩) ?_
    try simp only [Act.put]
    try simp only [List.setIfInBounds_toArray]
    try simp only [List.set_cons_succ]
    try simp only [List.set_cons_zero]
    refine Late.take (i := 14) (d := some 19) (v := ?v14_12) rfl rfl (by kernel_rfl) (by kernel_rfl) (by kernel_rfl) (by kernel_rfl) hQ (Or.inl ⟨by rfl, ?y14_12⟩) ?r14_12
    case y14_12 =>
      intro w' hSw
      have k00 := (bx.ext hSw).c4
      have k10 := (by_.ext hSw).c4
      go_simp
      try with_reducible rfl
    try simp only [Act.put]
    try simp only [List.setIfInBounds_toArray]
    try simp only [List.set_cons_succ]
    try simp only [List.set_cons_zero]
    refine Late.done0 (by kernel_rfl) (fun wz ez Ez => ?_)
    clear hAl hQ ES
    replace extW := extW.trans Ez
    replace bx := bx.ext Ez
    replace by_ := by_.ext Ez
    clear Ez ez
    have x0 := bx.cell 0 (.bool s) rfl
    have x1 := bx.cell 1 (.slice A n c) rfl
    have y0 := by_.cell 0 (.bool s') rfl
    have y1 := by_.cell 1 (.slice A' n' c') rfl
    go_wp2_with fail
    refine (p_Cmp (h.num.ext extW) (k.num.ext extW) (by omega) (by omega)).mono ?_
    rintro e wm ⟨rfl, hxm⟩
    go_wp2_with fail
    go_ret
    refine ⟨?_, extW.trans hxm⟩
    unfold ratCmp
    rw [cmp_signs _ _ (q.den : Int) (p.den : Int) (by have := q.den_pos; omega) (by have := p.den_pos; omega) Hs.out]
    rfl
end
end Go.Proofs.YtiioodgpkdbndaaGreatDoor
namespace Go.Proofs.YtiioodgpkdbndaaGreatDoor
open Go.RowKit
attribute [local go_sem ↓] Go.wp_at_zero Go.wp_at_succ
section
variable {w w' : World} {z y : Int} {q p : Rat} {L M : Nat} {s t s' t' : Bool} {A B A' B' : Option Addr} {n c m d n' c' m' d' : Nat}
set_option maxHeartbeats 1000000 in
theorem p_times {a b a' b' : Int} (h : Sm q a b) (k : Sm p a' b') : Calls Tryz.prog 75 #[.agg #[.int .i64 a, .int .i64 b], .agg #[.int .i64 a', .int .i64 b']] w (RetNR (q * p) 2 w) := by
  obtain ⟨h1, h2, h3, h4⟩ := h
  obtain ⟨k1, k2, k3, k4⟩ := k
  have hb0 : 0 < b := by have := q.den_pos; omega
  have hb0' : 0 < b' := by have := p.den_pos; omega
  have m1 := mul31 h3 k4
  have m2 := mul31 k3 h4
  have m3 := mul31 h4 k4
  have m4 := mul31 h3 k3
  have hpos : 0 < b * b' := Int.mul_pos hb0 hb0'
  have hval : mkRat (a * a') (b * b').natAbs = q * p := by
    rw [Rat.mul_def', Int.natAbs_mul, h1, h2, k1, k2, Int.natAbs_natCast, Int.natAbs_natCast]
  have Hval := Lib.hid hval
  clear hval h1 h2 k1 k2
  obtain ⟨u1, hu1⟩ : ∃ u, a * b' = u := ⟨_, rfl⟩
  obtain ⟨u2, hu2⟩ : ∃ u, a' * b = u := ⟨_, rfl⟩
  obtain ⟨u3, hu3⟩ : ∃ u, b * b' = u := ⟨_, rfl⟩
  obtain ⟨u4, hu4⟩ : ∃ u, a * a' = u := ⟨_, rfl⟩
  rw [hu1] at m1
  rw [hu2] at m2
  rw [hu3] at m3 hpos
  rw [hu4] at m4
  have Hu1 := Lib.hid hu1
  have Hu2 := Lib.hid hu2
  have Hu3 := Lib.hid hu3
  have Hu4 := Lib.hid hu4
  have w1 : IntKind.i64.wrap u1 = u1 := IntWalk.i64_in _ (by omega)
  have w2 : IntKind.i64.wrap u2 = u2 := IntWalk.i64_in _ (by omega)
  have w3 : IntKind.i64.wrap u3 = u3 := IntWalk.i64_in _ (by omega)
  have w4 : IntKind.i64.wrap u4 = u4 := IntWalk.i64_in _ (by omega)
  have v1 : wrap64 u1 = u1 := IntWalk.wrap64_in _ (by omega)
  have v2 : wrap64 u2 = u2 := IntWalk.wrap64_in _ (by omega)
  have v3 : wrap64 u3 = u3 := IntWalk.wrap64_in _ (by omega)
  have v4 : wrap64 u4 = u4 := IntWalk.wrap64_in _ (by omega)
  have w5 : IntKind.i64.wrap (u1 + u2) = u1 + u2 := IntWalk.i64_in _ (by omega)
  have v5 : wrap64 (u1 + u2) = u1 + u2 := IntWalk.wrap64_in _ (by omega)
  go_enter Tryz.func75, Tryz.ntmps75
  go_upto_region 1 with (fail)
  obtain ⟨W, hW, extW, bx, by_, bz, hz⟩ := box3 w 63 63 27 #[.int .i64 a, .int .i64 b] #[.int .i64 a', .int .i64 b'] #[Value.bool false, Value.slice none 0 0, Value.bool false, Value.slice none 0 0]
  rw [← hW]
  clear hW
  have x0 := bx.cell 0 (.int .i64 a) rfl
  have x1 := bx.cell 1 (.int .i64 b) rfl
  have y0 := by_.cell 0 (.int .i64 a') rfl
  have y1 := by_.cell 1 (.int .i64 b') rfl
  go_wp2_with fail
  refine (p_lowest _ _ hpos (by omega) (by omega)).mono ?_
  rintro e wa ⟨s, A, n, c, t, B, m, d, rfl, hr, hxa⟩
  rw [← Hu3.out] at hr
  have z0 := (bz.ext hxa).cell 0 _ rfl
  have z1 := (bz.ext hxa).cell 1 _ rfl
  have z2 := (bz.ext hxa).cell 2 _ rfl
  have z3 := (bz.ext hxa).cell 3 _ rfl
  have f0 := (bz.ext hxa).frozen 0
  have f1 := (bz.ext hxa).frozen 1
  have f2 := (bz.ext hxa).frozen 2
  have f3 := (bz.ext hxa).frozen 3
  go_wp2_with fail
  rw [← Hu4.out, Hval.out] at hr
  obtain ⟨b1, b2, b3, b4⟩ := fin_quad (s := s) (A := A) (n := n) (c := c) (t := t) (B := B) (m := m) (d := d) (bz.ext hxa)
  have r0 := b1.cell 0 (.bool s) rfl
  have r1 := b1.cell 1 (.slice A n c) rfl
  have r2 := b1.cell 2 (.bool t) rfl
  have r3 := b1.cell 3 (.slice B m d) rfl
  unfold set4 at r0 r1 r2 r3
  refine bodyPost_ret (v := .agg #[.bool s, .slice A n c, .bool t, .slice B m d]) (by simp [results, Tryz.results75, go_sem, r0, r1, r2, r3]) rfl ⟨s, A, n, c, t, B, m, d, rfl, ⟨?_, ?_⟩, b3 _ (extW.trans hxa) (by omega)⟩
  · exact b2 _ _ _ _ _ _ hr.num
  · exact b2 _ _ _ _ _ _ hr.den
end
end Go.Proofs.YtiioodgpkdbndaaGreatDoor
namespace Go.Proofs.YtiioodgpkdbndaaGreatDoor
open Go.RowKit
attribute [local go_sem ↓] Go.wp_at_zero Go.wp_at_succ
section
variable {w w' : World} {z y : Int} {q p : Rat} {L M : Nat} {s t s' t' : Bool} {A B A' B' : Option Addr} {n c m d n' c' m' d' : Nat}
set_option maxHeartbeats 2000000 in
theorem p_SubR (h : NR w q L s A n c t B m d) (k : NR w p M s' A' n' c' t' B' m' d') (hL : L ≤ 1000) (hM : M ≤ 1000) (h64 : min L M < 64) (hT : Tab w) : Calls Tryz.prog 30 #[.agg #[.bool s, .slice A n c, .bool t, .slice B m d], .agg #[.bool s', .slice A' n' c', .bool t', .slice B' m' d']] w (RetNR (q - p) (L + M + 1) w) := by
  go_enter Tryz.func30, Tryz.ntmps30
  go_upto_region 1 with (fail)
  obtain ⟨W, hW, extW, bx, by_, bz, hz⟩ := box3 w 27 27 27 #[.bool s, .slice A n c, .bool t, .slice B m d] #[.bool s', .slice A' n' c', .bool t', .slice B' m' d'] #[Value.bool false, Value.slice none 0 0, Value.bool false, Value.slice none 0 0]
  rw [← hW]
  clear hW
  refine wpL.start 4 (by kernel_rfl) (fun _ _ _ _ _ => ⟨fun h => h, fun h => h⟩) (fun hQ ES => ?_)
  refine wpL.take (i := 0) (d := some 5) (v := ?v0_29) rfl rfl (by kernel_rfl) (by kernel_rfl) (by kernel_rfl) (by kernel_rfl) hQ (Or.inl ⟨by rfl, ?y0_29⟩) ES ?r0_29
  case y0_29 =>
    intro w' hSw
    have k00 := (bx.ext hSw).c4
    have k10 := (by_.ext hSw).c4
    go_simp
    try with_reducible rfl
  try simp only [Act.put]
  try simp only [List.setIfInBounds_toArray]
  try simp only [List.set_cons_succ]
  try simp only [List.set_cons_zero]
  refine wpL.take (i := 1) (d := some 6) (v := ?v1_30) rfl rfl (by kernel_rfl) (by kernel_rfl) (by kernel_rfl) (by kernel_rfl) hQ (Or.inl ⟨by rfl, ?y1_30⟩) ES ?r1_30
  case y1_30 =>
    intro w' hSw
    have k00 := (bx.ext hSw).c4
    have k10 := (by_.ext hSw).c4
    go_simp
    try with_reducible rfl
  try simp only [Act.put]
  try simp only [List.setIfInBounds_toArray]
  try simp only [List.set_cons_succ]
  try simp only [List.set_cons_zero]
  refine wpL.call (i := 2) rfl (by kernel_rfl) (fun K hK => ?_)
  go_simp
  (go_at_call 32; refine (p_NegR (k.ext (extW.trans ES)) (by omega)).mono ?_; rintro e wa ⟨s1, A1, n1, c1, t1, B1, m1, d1, rfl, h1, hx0⟩; have E0_1 := Ext.trans ES hx0)
  refine hK.out _ _ E0_1 ?_
  clear hK K
  try simp only [Act.put]
  try simp only [List.setIfInBounds_toArray]
  try simp only [List.set_cons_succ]
  try simp only [List.set_cons_zero]
  refine wpL.call (i := 3) rfl (by kernel_rfl) (fun K hK => ?_)
  go_simp
  (go_at_call 28; refine (p_AddR (h.ext (extW.trans E0_1)) h1 hL hM h64 (hT.ext (extW.trans E0_1))).mono ?_; rintro e wb ⟨s2, A2, n2, c2, t2, B2, m2, d2, rfl, hr, hx1⟩; have E1_1 := Ext.trans E0_1 hx1)
  refine hK.out _ _ E1_1 ?_
  clear hK K
  try simp only [Act.put]
  try simp only [List.setIfInBounds_toArray]
  try simp only [List.set_cons_succ]
  try simp only [List.set_cons_zero]
  have z0 := (bz.ext E1_1).cell 0 _ rfl
  have z1 := (bz.ext E1_1).cell 1 _ rfl
  have z2 := (bz.ext E1_1).cell 2 _ rfl
  have z3 := (bz.ext E1_1).cell 3 _ rfl
  have f0 := (bz.ext E1_1).frozen 0
  have f1 := (bz.ext E1_1).frozen 1
  have f2 := (bz.ext E1_1).frozen 2
  have f3 := (bz.ext E1_1).frozen 3
  refine wpL.tail (i := 4) rfl (by kernel_rfl) (by kernel_rfl) (fun K hK => ?_)
  go_simp
  refine hK.out _ _ ?_
  clear hK K
  try simp only [Act.put]
  try simp only [List.setIfInBounds_toArray]
  try simp only [List.set_cons_succ]
  try simp only [List.set_cons_zero]
  refine wpL.done (by kernel_rfl) ?_ _
  clear hQ
  go_wp2_with fail
  rw [← Rat.sub_eq_add_neg] at hr
  obtain ⟨b1, b2, b3, b4⟩ := fin_quad (s := s2) (A := A2) (n := n2) (c := c2) (t := t2) (B := B2) (m := m2) (d := d2) (bz.ext E1_1)
  have r0 := b1.cell 0 (.bool s2) rfl
  have r1 := b1.cell 1 (.slice A2 n2 c2) rfl
  have r2 := b1.cell 2 (.bool t2) rfl
  have r3 := b1.cell 3 (.slice B2 m2 d2) rfl
  unfold set4 at r0 r1 r2 r3
  refine bodyPost_ret (v := .agg #[.bool s2, .slice A2 n2 c2, .bool t2, .slice B2 m2 d2]) (by simp [results, Tryz.results30, go_sem, r0, r1, r2, r3]) rfl ⟨s2, A2, n2, c2, t2, B2, m2, d2, rfl, ⟨?_, ?_⟩, b3 _ (extW.trans E1_1) (by omega)⟩
  · exact b2 _ _ _ _ _ _ hr.num
  · exact b2 _ _ _ _ _ _ hr.den
set_option maxHeartbeats 16000000 in
set_option maxRecDepth 100000 in
theorem p_MulR (h : NR w q L s A n c t B m d) (k : NR w p M s' A' n' c' t' B' m' d') (hL : L ≤ 1000) (hM : M ≤ 1000) (h64 : min L M < 64) (hT : Tab w) : Calls Tryz.prog 34 #[.agg #[.bool s, .slice A n c, .bool t, .slice B m d], .agg #[.bool s', .slice A' n' c', .bool t', .slice B' m' d']] w (RetNR (q * p) (L + M) w) := by
  have hL1 := h.pos
  have hM1 := k.pos
  go_enter Tryz.func34, Tryz.ntmps34
  go_upto_region 1 with (fail)
  obtain ⟨W, hW, extW, bx, by_, bz, hz⟩ := box3 w 27 27 27 #[.bool s, .slice A n c, .bool t, .slice B m d] #[.bool s', .slice A' n' c', .bool t', .slice B' m' d'] #[Value.bool false, Value.slice none 0 0, Value.bool false, Value.slice none 0 0]
  rw [← hW]
  clear hW
  replace h := h.ext extW
  replace k := k.ext extW
  have x0 := bx.cell 0 (.bool s) rfl
  have x1 := bx.cell 1 (.slice A n c) rfl
  have x2 := bx.cell 2 (.bool t) rfl
  have x3 := bx.cell 3 (.slice B m d) rfl
  have y0 := by_.cell 0 (.bool s') rfl
  have y1 := by_.cell 1 (.slice A' n' c') rfl
  have y2 := by_.cell 2 (.bool t') rfl
  have y3 := by_.cell 3 (.slice B' m' d') rfl
  go_wp2_with fail
  refine (p_smallPair h k (by omega) (by omega)).mono ?_
  rintro e wa ⟨a1, a2, c1, c2, ok, rfl, hok, hxa⟩
  have Hok := Lib.hid hok
  clear hok
  clear x0 x1 x2 x3
  clear y0 y1 y2 y3
  go_upto_region 2 with (fail)
  refine at_world (fun V => Ext W V ∧ Box V wa.heap.size 63 #[.int .i64 a1, .int .i64 a2] ∧ Box V (wa.heap.size + 1) 63 #[.int .i64 c1, .int .i64 c2]) ?_ ?_
  · obtain ⟨e1, e2, e3⟩ := two_new wa 63 #[.int .i64 a1, .int .i64 a2] #[.int .i64 c1, .int .i64 c2]
    exact ⟨hxa.trans e1, e2, e3⟩
  generalize wa.heap.size = g5
  clear hxa
  rintro V ⟨EV, b5, b6⟩
  replace bx := bx.ext EV
  replace by_ := by_.ext EV
  replace bz := bz.ext EV
  replace h := h.ext EV
  replace k := k.ext EV
  replace extW := extW.trans EV
  clear EV
  cases ok with
  | true =>
    obtain ⟨sm1, sm2⟩ := Hok.out (by first | rfl | trivial)
    have j0 := b5.cell 0 (.int .i64 a1) rfl
    have j1 := b5.cell 1 (.int .i64 a2) rfl
    have j2 := b6.cell 0 (.int .i64 c1) rfl
    have j3 := b6.cell 1 (.int .i64 c2) rfl
    go_wp2_with fail
    refine (p_times sm1 sm2).mono ?_
    rintro e wb ⟨s1, A1, n1, c1', t1, B1, m1, d1, rfl, hr, hxb⟩
    have z0 := (bz.ext hxb).cell 0 _ rfl
    have z1 := (bz.ext hxb).cell 1 _ rfl
    have z2 := (bz.ext hxb).cell 2 _ rfl
    have z3 := (bz.ext hxb).cell 3 _ rfl
    have f0 := (bz.ext hxb).frozen 0
    have f1 := (bz.ext hxb).frozen 1
    have f2 := (bz.ext hxb).frozen 2
    have f3 := (bz.ext hxb).frozen 3
    go_wp2_with fail
    obtain ⟨b1, b2, b3, b4⟩ := fin_quad (s := s1) (A := A1) (n := n1) (c := c1') (t := t1) (B := B1) (m := m1) (d := d1) (bz.ext hxb)
    have r0 := b1.cell 0 (.bool s1) rfl
    have r1 := b1.cell 1 (.slice A1 n1 c1') rfl
    have r2 := b1.cell 2 (.bool t1) rfl
    have r3 := b1.cell 3 (.slice B1 m1 d1) rfl
    unfold set4 at r0 r1 r2 r3
    refine bodyPost_ret (v := .agg #[.bool s1, .slice A1 n1 c1', .bool t1, .slice B1 m1 d1]) (by simp [results, Tryz.results34, go_sem, r0, r1, r2, r3]) rfl ⟨s1, A1, n1, c1', t1, B1, m1, d1, rfl, ⟨?_, ?_⟩, b3 _ (extW.trans hxb) (by omega)⟩
    · exact (b2 _ _ _ _ _ _ hr.num).le (by omega)
    · exact (b2 _ _ _ _ _ _ hr.den).le (by omega)
  | false =>
    go_wp2_with fail
    have ES0 := Ext.refl V
    refine wp_region_held_drew (S := Ext V) (by kernel_rfl) ES0.drew (fun ES => ?_)
    clear ES0
    refine Late.start2 (x := ⟨10, 8, 24, #[Value.bool false, Value.slice none 0 0]⟩) (y := ⟨11, 9, 24, #[Value.bool false, Value.slice none 0 0]⟩) (n := 12) ⟨_, rfl, rfl, rfl, fun a w => by go_simp⟩ ⟨_, rfl, rfl, rfl, fun a w => by go_simp⟩ (fun _ _ _ _ _ => ⟨fun h => h, fun h => h⟩) ES rfl (fun hAl hQ => ?_)
    refine Late.take (i := 0) (d := some 21) (v := ?v0_31) rfl rfl (by kernel_rfl) (by kernel_rfl) (by kernel_rfl) (by kernel_rfl) hQ (Or.inl ⟨by rfl, ?y0_31⟩) ?r0_31
    case y0_31 =>
      intro w' hSw
      have k00 := (bx.ext hSw).c4
      have k10 := (by_.ext hSw).c4
      go_simp
      try with_reducible rfl
    try simp only [Act.put]
    try simp only [List.setIfInBounds_toArray]
    try simp only [List.set_cons_succ]
    try simp only [List.set_cons_zero]
    refine Late.take (i := 2) (d := some 23) (v := ?v2_32) rfl rfl (by kernel_rfl) (by kernel_rfl) (by kernel_rfl) (by kernel_rfl) hQ (Or.inl ⟨by rfl, ?y2_32⟩) ?r2_32
    case y2_32 =>
      intro w' hSw
      have k00 := (bx.ext hSw).c4
      have k10 := (by_.ext hSw).c4
      go_simp
      try with_reducible rfl
    try simp only [Act.put]
    try simp only [List.setIfInBounds_toArray]
    try simp only [List.set_cons_succ]
    try simp only [List.set_cons_zero]
    refine Late.take (i := 5) (d := some 26) (v := ?v5_33) rfl rfl (by kernel_rfl) (by kernel_rfl) (by kernel_rfl) (by kernel_rfl) hQ (Or.inl ⟨by rfl, ?y5_33⟩) ?r5_33
    case y5_33 =>
      intro w' hSw
      have k00 := (bx.ext hSw).c4
      have k10 := (by_.ext hSw).c4
      go_simp
      try with_reducible rfl
    try simp only [Act.put]
    try simp only [List.setIfInBounds_toArray]
    try simp only [List.set_cons_succ]
    try simp only [List.set_cons_zero]
    refine Late.take (i := 7) (d := some 28) (v := ?v7_34) rfl rfl (by kernel_rfl) (by kernel_rfl) (by kernel_rfl) (by kernel_rfl) hQ (Or.inl ⟨by rfl, ?y7_34⟩) ?r7_34
    case y7_34 =>
      intro w' hSw
      have k00 := (bx.ext hSw).c4
      have k10 := (by_.ext hSw).c4
      go_simp
      try with_reducible rfl
    try simp only [Act.put]
    try simp only [List.setIfInBounds_toArray]
    try simp only [List.set_cons_succ]
    try simp only [List.set_cons_zero]
    refine Late.take (i := 1) (d := some 22) (v := ?v1_35) rfl rfl (by kernel_rfl) (by kernel_rfl) (by kernel_rfl) (by kernel_rfl) hQ (Or.inl ⟨by rfl, ?y1_35⟩) ?r1_35
    case y1_35 =>
      intro w' hSw
      have k00 := (bx.ext hSw).c4
      have k10 := (by_.ext hSw).c4
      go_simp
      try with_reducible rfl
    try simp only [Act.put]
    try simp only [List.setIfInBounds_toArray]
    try simp only [List.set_cons_succ]
    try simp only [List.set_cons_zero]
    refine Late.take (i := 3) (d := some 24) (v := ?v3_36) rfl rfl (by kernel_rfl) (by kernel_rfl) (by kernel_rfl) (by kernel_rfl) hQ (Or.inl ⟨by rfl, ?y3_36⟩) ?r3_36
    case y3_36 =>
      intro w' hSw
      have k00 := (bx.ext hSw).c4
      have k10 := (by_.ext hSw).c4
      go_simp
      try with_reducible rfl
    try simp only [Act.put]
    try simp only [List.setIfInBounds_toArray]
    try simp only [List.set_cons_succ]
    try simp only [List.set_cons_zero]
    refine Late.take (i := 6) (d := some 27) (v := ?v6_37) rfl rfl (by kernel_rfl) (by kernel_rfl) (by kernel_rfl) (by kernel_rfl) hQ (Or.inl ⟨by rfl, ?y6_37⟩) ?r6_37
    case y6_37 =>
      intro w' hSw
      have k00 := (bx.ext hSw).c4
      have k10 := (by_.ext hSw).c4
      go_simp
      try with_reducible rfl
    try simp only [Act.put]
    try simp only [List.setIfInBounds_toArray]
    try simp only [List.set_cons_succ]
    try simp only [List.set_cons_zero]
    refine Late.take (i := 8) (d := some 29) (v := ?v8_38) rfl rfl (by kernel_rfl) (by kernel_rfl) (by kernel_rfl) (by kernel_rfl) hQ (Or.inl ⟨by rfl, ?y8_38⟩) ?r8_38
    case y8_38 =>
      intro w' hSw
      have k00 := (bx.ext hSw).c4
      have k10 := (by_.ext hSw).c4
      go_simp
      try with_reducible rfl
    try simp only [Act.put]
    try simp only [List.setIfInBounds_toArray]
    try simp only [List.set_cons_succ]
    try simp only [List.set_cons_zero]
    refine Late.call (i := 4) rfl (by kernel_rfl) hAl (by kernel_rfl) (by kernel_rfl) (by kernel_rfl) hQ (fun w4 e4 E4 K hK => ?_)
    go_simp
    (go_at_call 56; refine (p_GCD (h.num.ext E4) (k.den.ext E4) (by omega) (by omega) (hT.ext (extW.trans E4))).mono ?_; rintro e wk1 ⟨s1, A1, n1, c1', rfl, h1, hx4⟩; rw [Int.natAbs_natCast] at h1)
    refine hK.out _ _ hx4 ?_
    clear hK K
    try simp only [Act.put]
    try simp only [List.setIfInBounds_toArray]
    try simp only [List.set_cons_succ]
    try simp only [List.set_cons_zero]
    refine Late.call (i := 9) rfl (by kernel_rfl) hAl (by kernel_rfl) (by kernel_rfl) (by kernel_rfl) hQ (fun w9 e9 E9 K hK => ?_)
    go_simp
    (go_at_call 56; refine (p_GCD (k.num.ext E9) (h.den.ext E9) (by omega) (by omega) (hT.ext (extW.trans E9))).mono ?_; rintro e wk2 ⟨s2, A2, n2, c2', rfl, h2, hx9⟩; rw [Int.natAbs_natCast] at h2)
    refine hK.out _ _ hx9 ?_
    clear hK K
    try simp only [Act.put]
    try simp only [List.setIfInBounds_toArray]
    try simp only [List.set_cons_succ]
    try simp only [List.set_cons_zero]
    refine Late.finish2 (hAl _ (by simp)) (hAl _ (by simp)) (by decide) (by decide) (by kernel_rfl) (by kernel_rfl) (by kernel_rfl) (fun wz g5 g6 ez Ez lg5 lg6 hne xb1 xb2 => ?_)
    clear hAl hQ ES
    have p10 := xb1.cell 0 (Value.bool false) rfl
    have p11 := xb1.cell 1 (Value.slice none 0 0) rfl
    have f10 := xb1.frozen 0
    have f11 := xb1.frozen 1
    have e4 := fin_dual (s := s1) (A := A1) (n := n1) (c := c1') xb1
    try simp only [Act.put]
    try simp only [List.setIfInBounds_toArray]
    try simp only [List.set_cons_succ]
    try simp only [List.set_cons_zero]
    refine wpAnyH_ready (rs := [12]) (by kernel_rfl) (by simp) (AllReadyH.cons rfl (fun K hK => ?_) AllReadyH.nil)
    go_simp
    refine hK.out _ _ (e4.2.2.1 _ Ez lg5) (fun _ => ?_)
    clear hK K
    try simp only [Act.put]
    try simp only [List.setIfInBounds_toArray]
    try simp only [List.set_cons_succ]
    try simp only [List.set_cons_zero]
    have e5 := e4.2.2.2 _ _ _ (Ne.symm hne) xb2
    refine any_world (fun U => Ext V U ∧ Box U g5 24 #[.bool s1, .slice A1 n1 c1'] ∧ Box U g6 24 #[Value.bool false, Value.slice none 0 0] ∧ NI U ((q.num.natAbs.gcd p.den : Nat) : Int) (max L M) s1 A1 n1 c1' ∧ NI U ((p.num.natAbs.gcd q.den : Nat) : Int) (max M L) s2 A2 n2 c2') ⟨e4.2.2.1 _ Ez lg5, e4.1, e5, e4.2.1 _ _ _ _ _ _ (h1.ext (e9.trans (hx9.trans ez))), e4.2.1 _ _ _ _ _ _ (h2.ext ez)⟩ ?_
    clear e4 e5 p10 p11 f10 f11 xb1 xb2
    rintro U ⟨EU, b8, xb2, h1, h2⟩
    have p10 := xb2.cell 0 (Value.bool false) rfl
    have p11 := xb2.cell 1 (Value.slice none 0 0) rfl
    have f10 := xb2.frozen 0
    have f11 := xb2.frozen 1
    have e4 := fin_dual (s := s2) (A := A2) (n := n2) (c := c2') xb2
    refine wpAnyH_ready (rs := [13]) (by kernel_rfl) (by simp) (AllReadyH.cons rfl (fun K hK => ?_) AllReadyH.nil)
    go_simp
    refine hK.out _ _ (e4.2.2.1 _ EU lg6) (fun _ => ?_)
    clear hK K
    try simp only [Act.put]
    try simp only [List.setIfInBounds_toArray]
    try simp only [List.set_cons_succ]
    try simp only [List.set_cons_zero]
    refine any_world (fun U2 => Ext V U2 ∧ Box U2 g5 24 #[.bool s1, .slice A1 n1 c1'] ∧ Box U2 g6 24 #[.bool s2, .slice A2 n2 c2'] ∧ NI U2 ((q.num.natAbs.gcd p.den : Nat) : Int) (max L M) s1 A1 n1 c1' ∧ NI U2 ((p.num.natAbs.gcd q.den : Nat) : Int) (max M L) s2 A2 n2 c2') ⟨e4.2.2.1 _ EU lg6, e4.2.2.2 _ _ _ hne b8, e4.1, e4.2.1 _ _ _ _ _ _ h1, e4.2.1 _ _ _ _ _ _ h2⟩ ?_
    clear e4 p10 p11 f10 f11 xb2 b8 h1 h2 lg5 lg6
    rintro U2 ⟨EU2, b8, b9, h1, h2⟩
    refine wpAnyH_done (by kernel_rfl) ?_ _
    replace bx := bx.ext EU2
    replace by_ := by_.ext EU2
    replace bz := bz.ext EU2
    replace h := h.ext EU2
    replace k := k.ext EU2
    replace extW := extW.trans EU2
    clear EU EU2 Ez ez
    obtain ⟨g, hge⟩ : ∃ g, q.num.natAbs.gcd p.den = g := ⟨_, rfl⟩
    obtain ⟨hq, hhe⟩ : ∃ g, p.num.natAbs.gcd q.den = g := ⟨_, rfl⟩
    rw [hge] at h1
    rw [hhe] at h2
    obtain ⟨q1, q2⟩ := rat_mul q p hge.symm hhe.symm
    have Hq1 := Lib.hid q1
    have Hq2 := Lib.hid q2
    have hgq : g ∣ q.num.natAbs := by rw [← hge]; exact Nat.gcd_dvd_left _ _
    have hgp : g ∣ p.den := by rw [← hge]; exact Nat.gcd_dvd_right _ _
    have hhp : hq ∣ p.num.natAbs := by rw [← hhe]; exact Nat.gcd_dvd_left _ _
    have hhq : hq ∣ q.den := by rw [← hhe]; exact Nat.gcd_dvd_right _ _
    have hg0 : (g : Int) ≠ 0 := by
      intro h0
      have : g = 0 := by omega
      rw [this] at hgp
      exact p.den_nz (Nat.eq_zero_of_zero_dvd hgp)
    have hh0 : (hq : Int) ≠ 0 := by
      intro h0
      have : hq = 0 := by omega
      rw [this] at hhq
      exact q.den_nz (Nat.eq_zero_of_zero_dvd hhq)
    have Hg0 := Lib.hid hg0
    have Hh0 := Lib.hid hh0
    have Hgq := Lib.hid (Int.ofNat_dvd_left.2 hgq)
    have Hgp := Lib.hid (Int.ofNat_dvd.2 hgp)
    have Hhp := Lib.hid (Int.ofNat_dvd_left.2 hhp)
    have Hhq := Lib.hid (Int.ofNat_dvd.2 hhq)
    have hg := h1
    have hh := h2
    clear hge hhe q1 q2 hgq hgp hhp hhq hg0 hh0 h1 h2
    go_wp2_with fail
    refine wpL.start 19 (by kernel_rfl) (fun _ _ _ _ _ => ⟨fun h => h, fun h => h⟩) (fun hQ ES => ?_)
    refine wpL.take (i := 0) (d := some 31) (v := ?v0_39) rfl rfl (by kernel_rfl) (by kernel_rfl) (by kernel_rfl) (by kernel_rfl) hQ (Or.inl ⟨by rfl, ?y0_39⟩) ES ?r0_39
    case y0_39 =>
      intro w' hSw
      have k00 := (bx.ext hSw).c4
      have k10 := (by_.ext hSw).c4
      have k20 := (b8.ext hSw).c2
      have k30 := (b9.ext hSw).c2
      go_simp
      try with_reducible rfl
    try simp only [Act.put]
    try simp only [List.setIfInBounds_toArray]
    try simp only [List.set_cons_succ]
    try simp only [List.set_cons_zero]
    refine wpL.take (i := 2) (d := some 33) (v := ?v2_40) rfl rfl (by kernel_rfl) (by kernel_rfl) (by kernel_rfl) (by kernel_rfl) hQ (Or.inl ⟨by rfl, ?y2_40⟩) ES ?r2_40
    case y2_40 =>
      intro w' hSw
      have k00 := (bx.ext hSw).c4
      have k10 := (by_.ext hSw).c4
      have k20 := (b8.ext hSw).c2
      have k30 := (b9.ext hSw).c2
      go_simp
      try with_reducible rfl
    try simp only [Act.put]
    try simp only [List.setIfInBounds_toArray]
    try simp only [List.set_cons_succ]
    try simp only [List.set_cons_zero]
    refine wpL.take (i := 4) (d := some 35) (v := ?v4_41) rfl rfl (by kernel_rfl) (by kernel_rfl) (by kernel_rfl) (by kernel_rfl) hQ (Or.inl ⟨by rfl, ?y4_41⟩) ES ?r4_41
    case y4_41 =>
      intro w' hSw
      have k00 := (bx.ext hSw).c4
      have k10 := (by_.ext hSw).c4
      have k20 := (b8.ext hSw).c2
      have k30 := (b9.ext hSw).c2
      go_simp
      try with_reducible rfl
    try simp only [Act.put]
    try simp only [List.setIfInBounds_toArray]
    try simp only [List.set_cons_succ]
    try simp only [List.set_cons_zero]
    refine wpL.take (i := 6) (d := some 37) (v := ?v6_42) rfl rfl (by kernel_rfl) (by kernel_rfl) (by kernel_rfl) (by kernel_rfl) hQ (Or.inl ⟨by rfl, ?y6_42⟩) ES ?r6_42
    case y6_42 =>
      intro w' hSw
      have k00 := (bx.ext hSw).c4
      have k10 := (by_.ext hSw).c4
      have k20 := (b8.ext hSw).c2
      have k30 := (b9.ext hSw).c2
      go_simp
      try with_reducible rfl
    try simp only [Act.put]
    try simp only [List.setIfInBounds_toArray]
    try simp only [List.set_cons_succ]
    try simp only [List.set_cons_zero]
    refine wpL.take (i := 9) (d := some 40) (v := ?v9_43) rfl rfl (by kernel_rfl) (by kernel_rfl) (by kernel_rfl) (by kernel_rfl) hQ (Or.inl ⟨by rfl, ?y9_43⟩) ES ?r9_43
    case y9_43 =>
      intro w' hSw
      have k00 := (bx.ext hSw).c4
      have k10 := (by_.ext hSw).c4
      have k20 := (b8.ext hSw).c2
      have k30 := (b9.ext hSw).c2
      go_simp
      try with_reducible rfl
    try simp only [Act.put]
    try simp only [List.setIfInBounds_toArray]
    try simp only [List.set_cons_succ]
    try simp only [List.set_cons_zero]
    refine wpL.take (i := 11) (d := some 42) (v := ?v11_44) rfl rfl (by kernel_rfl) (by kernel_rfl) (by kernel_rfl) (by kernel_rfl) hQ (Or.inl ⟨by rfl, ?y11_44⟩) ES ?r11_44
    case y11_44 =>
      intro w' hSw
      have k00 := (bx.ext hSw).c4
      have k10 := (by_.ext hSw).c4
      have k20 := (b8.ext hSw).c2
      have k30 := (b9.ext hSw).c2
      go_simp
      try with_reducible rfl
    try simp only [Act.put]
    try simp only [List.setIfInBounds_toArray]
    try simp only [List.set_cons_succ]
    try simp only [List.set_cons_zero]
    refine wpL.take (i := 13) (d := some 44) (v := ?v13_45) rfl rfl (by kernel_rfl) (by kernel_rfl) (by kernel_rfl) (by kernel_rfl) hQ (Or.inl ⟨by rfl, ?y13_45⟩) ES ?r13_45
    case y13_45 =>
      intro w' hSw
      have k00 := (bx.ext hSw).c4
      have k10 := (by_.ext hSw).c4
      have k20 := (b8.ext hSw).c2
      have k30 := (b9.ext hSw).c2
      go_simp
      try with_reducible rfl
    try simp only [Act.put]
    try simp only [List.setIfInBounds_toArray]
    try simp only [List.set_cons_succ]
    try simp only [List.set_cons_zero]
    refine wpL.take (i := 15) (d := some 46) (v := ?v15_46) rfl rfl (by kernel_rfl) (by kernel_rfl) (by kernel_rfl) (by kernel_rfl) hQ (Or.inl ⟨by rfl, ?y15_46⟩) ES ?r15_46
    case y15_46 =>
      intro w' hSw
      have k00 := (bx.ext hSw).c4
      have k10 := (by_.ext hSw).c4
      have k20 := (b8.ext hSw).c2
      have k30 := (b9.ext hSw).c2
      go_simp
      try with_reducible rfl
    try simp only [Act.put]
    try simp only [List.setIfInBounds_toArray]
    try simp only [List.set_cons_succ]
    try simp only [List.set_cons_zero]
    refine wpL.take (i := 1) (d := some 32) (v := ?v1_47) rfl rfl (by kernel_rfl) (by kernel_rfl) (by kernel_rfl) (by kernel_rfl) hQ (Or.inl ⟨by rfl, ?y1_47⟩) ES ?r1_47
    case y1_47 =>
      intro w' hSw
      have k00 := (bx.ext hSw).c4
      have k10 := (by_.ext hSw).c4
      have k20 := (b8.ext hSw).c2
      have k30 := (b9.ext hSw).c2
      go_simp
      try with_reducible rfl
    try simp only [Act.put]
    try simp only [List.setIfInBounds_toArray]
    try simp only [List.set_cons_succ]
    try simp only [List.set_cons_zero]
    refine wpL.take (i := 5) (d := some 36) (v := ?v5_48) rfl rfl (by kernel_rfl) (by kernel_rfl) (by kernel_rfl) (by kernel_rfl) hQ (Or.inl ⟨by rfl, ?y5_48⟩) ES ?r5_48
    case y5_48 =>
      intro w' hSw
      have k00 := (bx.ext hSw).c4
      have k10 := (by_.ext hSw).c4
      have k20 := (b8.ext hSw).c2
      have k30 := (b9.ext hSw).c2
      go_simp
      try with_reducible rfl
    try simp only [Act.put]
    try simp only [List.setIfInBounds_toArray]
    try simp only [List.set_cons_succ]
    try simp only [List.set_cons_zero]
    refine wpL.take (i := 10) (d := some 41) (v := ?v10_49) rfl rfl (by kernel_rfl) (by kernel_rfl) (by kernel_rfl) (by kernel_rfl) hQ (Or.inl ⟨by rfl, ?y10_49⟩) ES ?r10_49
    case y10_49 =>
      intro w' hSw
      have k00 := (bx.ext hSw).c4
      have k10 := (by_.ext hSw).c4
      have k20 := (b8.ext hSw).c2
      have k30 := (b9.ext hSw).c2
      go_simp
      try with_reducible rfl
    try simp only [Act.put]
    try simp only [List.setIfInBounds_toArray]
    try simp only [List.set_cons_succ]
    try simp only [List.set_cons_zero]
    refine wpL.take (i := 14) (d := some 45) (v := ?v14_50) rfl rfl (by kernel_rfl) (by kernel_rfl) (by kernel_rfl) (by kernel_rfl) hQ (Or.inl ⟨by rfl, ?y14_50⟩) ES ?r14_50
    case y14_50 =>
      intro w' hSw
      have k00 := (bx.ext hSw).c4
      have k10 := (by_.ext hSw).c4
      have k20 := (b8.ext hSw).c2
      have k30 := (b9.ext hSw).c2
      go_simp
      try with_reducible rfl
    try simp only [Act.put]
    try simp only [List.setIfInBounds_toArray]
    try simp only [List.set_cons_succ]
    try simp only [List.set_cons_zero]
    refine wpL.call (i := 3) rfl (by kernel_rfl) (fun K hK => ?_)
    go_simp
    (go_at_call 57; refine (p_divide (h.num.ext ES) (hg.ext ES) (by omega) (by omega) Hg0.out Hgq.out).mono ?_; rintro e wk1 ⟨s3, A3, n3, c3, rfl, h3, hx0⟩; have E0_5 := Ext.trans ES hx0)
    refine hK.out _ _ E0_5 ?_
    clear hK K
    try simp only [Act.put]
    try simp only [List.setIfInBounds_toArray]
    try simp only [List.set_cons_succ]
    try simp only [List.set_cons_zero]
    refine wpL.call (i := 7) rfl (by kernel_rfl) (fun K hK => ?_)
    go_simp
    (go_at_call 57; refine (p_divide (k.num.ext E0_5) (hh.ext E0_5) (by omega) (by omega) Hh0.out Hhp.out).mono ?_; rintro e wk2 ⟨s4, A4, n4, c4, rfl, h4, hx1⟩; have E1_5 := Ext.trans E0_5 hx1)
    refine hK.out _ _ E1_5 ?_
    clear hK K
    try simp only [Act.put]
    try simp only [List.setIfInBounds_toArray]
    try simp only [List.set_cons_succ]
    try simp only [List.set_cons_zero]
    refine wpL.call (i := 8) rfl (by kernel_rfl) (fun K hK => ?_)
    go_simp
    (go_at_call 72; refine (p_Mul (h3.ext hx1) h4 (by omega) (by omega) h64).mono ?_; rintro e wk3 ⟨s5, A5, n5, c5, rfl, h5, hx2⟩; have E2_5 := Ext.trans E1_5 hx2)
    refine hK.out _ _ E2_5 ?_
    clear hK K
    try simp only [Act.put]
    try simp only [List.setIfInBounds_toArray]
    try simp only [List.set_cons_succ]
    try simp only [List.set_cons_zero]
    refine wpL.call (i := 12) rfl (by kernel_rfl) (fun K hK => ?_)
    go_simp
    (go_at_call 57; refine (p_divide (h.den.ext E2_5) (hh.ext E2_5) (by omega) (by omega) Hh0.out Hhq.out).mono ?_; rintro e wk4 ⟨s6, A6, n6, c6, rfl, h6, hx3⟩; have E3_5 := Ext.trans E2_5 hx3)
    refine hK.out _ _ E3_5 ?_
    clear hK K
    try simp only [Act.put]
    try simp only [List.setIfInBounds_toArray]
    try simp only [List.set_cons_succ]
    try simp only [List.set_cons_zero]
    refine wpL.call (i := 16) rfl (by kernel_rfl) (fun K hK => ?_)
    go_simp
    (go_at_call 57; refine (p_divide (k.den.ext E3_5) (hg.ext E3_5) (by omega) (by omega) Hg0.out Hgp.out).mono ?_; rintro e wk5 ⟨s7, A7, n7, c7, rfl, h7, hx4⟩; have E4_5 := Ext.trans E3_5 hx4)
    refine hK.out _ _ E4_5 ?_
    clear hK K
    try simp only [Act.put]
    try simp only [List.setIfInBounds_toArray]
    try simp only [List.set_cons_succ]
    try simp only [List.set_cons_zero]
    refine wpL.call (i := 17) rfl (by kernel_rfl) (fun K hK => ?_)
    go_simp
    (go_at_call 72; refine (p_Mul (h6.ext hx4) h7 (by omega) (by omega) h64).mono ?_; rintro e wk6 ⟨s8, A8, n8, c8, rfl, h8, hx5⟩; have E5_5 := Ext.trans E4_5 hx5)
    refine hK.out _ _ E5_5 ?_
    clear hK K
    try simp only [Act.put]
    try simp only [List.setIfInBounds_toArray]
    try simp only [List.set_cons_succ]
    try simp only [List.set_cons_zero]
    refine wpL.take (i := 18) (d := some 49) (v := ?v18_51) rfl rfl (by kernel_rfl) (by kernel_rfl) (by kernel_rfl) (by kernel_rfl) hQ (Or.inl ⟨by rfl, ?y18_51⟩) E5_5 ?r18_51
    case y18_51 =>
      intro w' hSw
      have k00 := (bx.ext hSw).c4
      have k10 := (by_.ext hSw).c4
      have k20 := (b8.ext hSw).c2
      have k30 := (b9.ext hSw).c2
      go_simp
      try with_reducible rfl
    try simp only [Act.put]
    try simp only [List.setIfInBounds_toArray]
    try simp only [List.set_cons_succ]
    try simp only [List.set_cons_zero]
    have z0 := (bz.ext E5_5).cell 0 _ rfl
    have z1 := (bz.ext E5_5).cell 1 _ rfl
    have z2 := (bz.ext E5_5).cell 2 _ rfl
    have z3 := (bz.ext E5_5).cell 3 _ rfl
    have f0 := (bz.ext E5_5).frozen 0
    have f1 := (bz.ext E5_5).frozen 1
    have f2 := (bz.ext E5_5).frozen 2
    have f3 := (bz.ext E5_5).frozen 3
    refine wpL.tail (i := 19) rfl (by kernel_rfl) (by kernel_rfl) (fun K hK => ?_)
    go_simp
    refine hK.out _ _ ?_
    clear hK K
    try simp only [Act.put]
    try simp only [List.setIfInBounds_toArray]
    try simp only [List.set_cons_succ]
    try simp only [List.set_cons_zero]
    refine wpL.done (by kernel_rfl) ?_ _
    clear hQ
    go_wp2_with fail
    have hk1 : ((q.den : Int) / (hq : Int)) * ((p.den : Int) / (g : Int)) = ((q * p).den : Int) := by rw [Hq2.out]; simp
    rw [hk1] at h8
    rw [← Hq1.out] at h5
    obtain ⟨b1, b2, b3, b4⟩ := fin_quad (s := s5) (A := A5) (n := n5) (c := c5) (t := s8) (B := A8) (m := n8) (d := c8) (bz.ext E5_5)
    have r0 := b1.cell 0 (.bool s5) rfl
    have r1 := b1.cell 1 (.slice A5 n5 c5) rfl
    have r2 := b1.cell 2 (.bool s8) rfl
    have r3 := b1.cell 3 (.slice A8 n8 c8) rfl
    unfold set4 at r0 r1 r2 r3
    refine bodyPost_ret (v := .agg #[.bool s5, .slice A5 n5 c5, .bool s8, .slice A8 n8 c8]) (by simp [results, Tryz.results34, go_sem, r0, r1, r2, r3]) rfl ⟨s5, A5, n5, c5, s8, A8, n8, c8, rfl, ⟨?_, ?_⟩, b3 _ (extW.trans E5_5) (by omega)⟩
    · exact b2 _ _ _ _ _ _ (h5.ext (hx3.trans (hx4.trans hx5)))
    · exact b2 _ _ _ _ _ _ h8
end
end Go.Proofs.YtiioodgpkdbndaaGreatDoor
