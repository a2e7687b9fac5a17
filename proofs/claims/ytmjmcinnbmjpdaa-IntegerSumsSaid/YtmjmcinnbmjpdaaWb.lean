/- Walks: sums and differences of words. -/
import Derived.Test.YtmjmcinnbmjpdaaWa
namespace Go.Proofs.Ytmjmcinnbmjpdaa
open Go.RowKit
theorem Try.infoW : (Try.prog.info? 46).map (fun i => (i.zero, i.size, i.bytes)) = some (some (.int .u32 0), 1, 4) := by kernel_rfl
theorem ret_cap {A : Option Addr} {n m c d : Nat} (h : n = m) (k : c = d) : Ending.returned (.slice A n c) = .returned (.slice A m d) := by rw [h, k]
/-- 'make' of n words, whichever of the two slice types. -/
theorem mk_words (T : TypeId) (hT : Try.prog.underlying T = some (.slice 46)) (n : Nat) (hn : n ≤ 1000000) (W : World) :
    (Instr.makeSlice T (.int .i64 (n : Int)) (.int .i64 (n : Int))).run Try.prog W = .ok (.slice (some ⟨W.heap.size, 0, none⟩) n n) (W.alloc (.cells (madeCells #[.int .u32 0] n) 46)) := by
  obtain ⟨i0, hi, hz0, hz1, hz2⟩ := info_parts Try.infoW
  have h := run_make_rowN (P := Try.prog) T 46 i0 (.int .u32 0) hT hi hz0 .i64 .i64 n n (Nat.le_refl _) (by rw [hz2]; omega) (by omega) W
  rw [hz1] at h
  simpa only [Nat.mul_one, Value.cells] using h
theorem mk_words1 (T : TypeId) (hT : Try.prog.underlying T = some (.slice 46)) (n : Nat) (hn : n ≤ 100000) (W : World) :
    (Instr.makeSlice T (.int .i64 ((n : Int) + 1)) (.int .i64 ((n : Int) + 1))).run Try.prog W = .ok (.slice (some ⟨W.heap.size, 0, none⟩) (n + 1) (n + 1)) (W.alloc (.cells (madeCells #[.int .u32 0] (n + 1)) 46)) :=
  mk_words T hT (n + 1) (by omega) W

section
variable (A B : Option Addr) (c d : Nat) (xs ys : List Nat) (w : World)
set_option maxHeartbeats 400000 in
theorem ref_plus1 (hx : Rd w A xs) (hy : Rd w B ys) (hl : ys.length ≤ xs.length) (hm : xs.length ≤ 100000) :
    Calls Try.prog 59 #[.slice A xs.length c, .slice B ys.length d] w (RetN (fun zs => val zs = val xs + val ys ∧ Nrm zs ∧ zs.length ≤ xs.length + 1) w) := by
  have hmk := mk_words1 22 Try.underlying22 xs.length hm
  go_enter Try.func59, Try.ntmps59
  go_wp2
  go_loopw [6, 7] (fun cr i wr => ∃ (k : Nat) (zs : List Nat) (cy : Nat), k ≤ xs.length ∧ i = .int .i64 (k : Int) ∧ cr = .int .u64 (cy : Int) ∧ PlusInv xs ys k zs cy ∧ BlkN wr w.heap.size zs ∧ Ext w wr) (fun _ i _ => xs.length - (intOf i).toNat)
  case atStart => exact ⟨0, List.replicate (xs.length + 1) 0, 0, by omega, rfl, rfl, PlusInv.start xs ys, BlkN.new w _, (Ext.refl w).alloc _⟩
  case round =>
    obtain ⟨k, zs, cy, hk, rfl, rfl, hinv, hblk, hext⟩ := hrel
    have hcy := hinv.hcy
    have hzl := hinv.len1
    have hzl2 := hinv.len2
    by_cases hlt : k < xs.length
    · obtain ⟨b, off, rfl, hb, hc1⟩ := (hx.ext hext).at_ hlt
      have hxk := hx.1.get hlt
      have hzk := hblk.cell (i := k) (by omega)
      have hfz := hblk.frozen k
      by_cases hly : k < ys.length
      · obtain ⟨b', off', rfl, hb', hc2⟩ := (hy.ext hext).at_ hly
        have hyk := hy.1.get hly
        go_wp2
        go_roundw
        case rel => exact ⟨k + 1, _, _, by omega, by go_num, by go_num, hinv.step hx.1 hy.1 hlt (s := cy + xs[k] + ys[k]) (by rw [getD_at hlt, getD_at hly]), hblk.set k (by go_num), hext.setCell (Nat.le_refl _) _⟩
        case measure => simp [intOf]; omega
      · go_wp2
        go_roundw
        case rel => exact ⟨k + 1, _, _, by omega, by go_num, by go_num, hinv.step hx.1 hy.1 hlt (s := cy + xs[k]) (by rw [getD_at hlt, getD_out hly]; rfl), hblk.set k (by go_num), hext.setCell (Nat.le_refl _) _⟩
        case measure => simp [intOf]; omega
    · have hzk := hblk.cell (i := xs.length) (by omega)
      have hfz := hblk.frozen xs.length
      have hk' : k = xs.length := by omega
      subst hk'
      have hb2 := hblk.set xs.length (v := (cy : Int)) rfl
      have hw := hinv.w32.set xs.length (v := cy) (by omega)
      have hrd := hb2.rd0 hw
      have hdn := hinv.done hl
      have Hd := Lib.hid hdn
      clear hdn
      go_wp2_with (go_at_call 51; refine (ref_trimN (xs := zs.set xs.length cy) (by simp; omega) hrd (by omega) (by unfold maxLen; omega)).mono ?_; rintro e w' ⟨rfl, rfl⟩)
      go_ret
      have hlen := trimL_len (zs.set xs.length cy)
      rw [List.length_set] at hlen
      refine ⟨_, _, trimL (zs.set xs.length cy), rfl, ?_, by omega, by unfold maxLen; omega, ⟨Hd.out, Nrm.trimL _, by omega⟩, hext.setCell (Nat.le_refl _) _⟩
      rw [trimL_take]
      exact (Own.of_blk hb2 hw (Nat.le_refl _)).take _
set_option maxHeartbeats 400000 in
theorem ref_plus2 (hx : Rd w A xs) (hy : Rd w B ys) (hl : xs.length < ys.length) (hm : ys.length ≤ 100000) :
    Calls Try.prog 59 #[.slice A xs.length c, .slice B ys.length d] w (RetN (fun zs => val zs = val xs + val ys ∧ Nrm zs ∧ zs.length ≤ ys.length + 1) w) := by
  have hmk := mk_words1 22 Try.underlying22 ys.length hm
  go_enter Try.func59, Try.ntmps59
  go_wp2
  go_loopw [6, 7] (fun cr i wr => ∃ (k : Nat) (zs : List Nat) (cy : Nat), k ≤ ys.length ∧ i = .int .i64 (k : Int) ∧ cr = .int .u64 (cy : Int) ∧ PlusInv ys xs k zs cy ∧ BlkN wr w.heap.size zs ∧ Ext w wr) (fun _ i _ => ys.length - (intOf i).toNat)
  case atStart => exact ⟨0, List.replicate (ys.length + 1) 0, 0, by omega, rfl, rfl, PlusInv.start ys xs, BlkN.new w _, (Ext.refl w).alloc _⟩
  case round =>
    obtain ⟨k, zs, cy, hk, rfl, rfl, hinv, hblk, hext⟩ := hrel
    have hcy := hinv.hcy
    have hzl := hinv.len1
    have hzl2 := hinv.len2
    by_cases hlt : k < ys.length
    · obtain ⟨b, off, rfl, hb, hc1⟩ := (hy.ext hext).at_ hlt
      have hyk := hy.1.get hlt
      have hzk := hblk.cell (i := k) (by omega)
      have hfz := hblk.frozen k
      by_cases hly : k < xs.length
      · obtain ⟨b', off', rfl, hb', hc2⟩ := (hx.ext hext).at_ hly
        have hxk := hx.1.get hly
        go_wp2
        go_roundw
        case rel => exact ⟨k + 1, _, _, by omega, by go_num, by go_num, hinv.step hy.1 hx.1 hlt (s := cy + ys[k] + xs[k]) (by rw [getD_at hlt, getD_at hly]), hblk.set k (by go_num), hext.setCell (Nat.le_refl _) _⟩
        case measure => simp [intOf]; omega
      · go_wp2
        go_roundw
        case rel => exact ⟨k + 1, _, _, by omega, by go_num, by go_num, hinv.step hy.1 hx.1 hlt (s := cy + ys[k]) (by rw [getD_at hlt, getD_out hly]; rfl), hblk.set k (by go_num), hext.setCell (Nat.le_refl _) _⟩
        case measure => simp [intOf]; omega
    · have hzk := hblk.cell (i := ys.length) (by omega)
      have hfz := hblk.frozen ys.length
      have hk' : k = ys.length := by omega
      subst hk'
      have hb2 := hblk.set ys.length (v := (cy : Int)) rfl
      have hw := hinv.w32.set ys.length (v := cy) (by omega)
      have hrd := hb2.rd0 hw
      have hdn := hinv.done (by omega)
      have Hd := Lib.hid hdn
      clear hdn
      go_wp2_with (go_at_call 51; refine (ref_trimN (xs := zs.set ys.length cy) (by simp; omega) hrd (by omega) (by unfold maxLen; omega)).mono ?_; rintro e w' ⟨rfl, rfl⟩)
      go_ret
      have hlen := trimL_len (zs.set ys.length cy)
      rw [List.length_set] at hlen
      refine ⟨_, _, trimL (zs.set ys.length cy), rfl, ?_, by omega, by unfold maxLen; omega, ⟨by rw [Hd.out]; omega, Nrm.trimL _, by omega⟩, hext.setCell (Nat.le_refl _) _⟩
      rw [trimL_take]
      exact (Own.of_blk hb2 hw (Nat.le_refl _)).take _
theorem ref_plus {A B : Option Addr} {c d n m : Nat} {xs ys : List Nat} {w : World} (hn : xs.length = n) (hm : ys.length = m) (hx : Rd w A xs) (hy : Rd w B ys) (h1 : n ≤ 100000) (h2 : m ≤ 100000) :
    Calls Try.prog 59 #[.slice A n c, .slice B m d] w (RetN (fun zs => val zs = val xs + val ys ∧ Nrm zs ∧ zs.length ≤ max xs.length ys.length + 1) w) := by
  subst hn; subst hm
  by_cases h : ys.length ≤ xs.length
  · exact (ref_plus1 A B c d xs ys w hx hy h h1).mono fun e w' ⟨A', c', zs, h1, h2, h3, h4, ⟨h5, h6, h7⟩, h8⟩ => ⟨A', c', zs, h1, h2, h3, h4, ⟨h5, h6, by omega⟩, h8⟩
  · exact (ref_plus2 A B c d xs ys w hx hy (by omega) h2).mono fun e w' ⟨A', c', zs, h1, h2, h3, h4, ⟨h5, h6, h7⟩, h8⟩ => ⟨A', c', zs, h1, h2, h3, h4, ⟨h5, h6, by omega⟩, h8⟩

set_option maxHeartbeats 400000 in
theorem ref_minus1 (hx : Rd w A xs) (hy : Rd w B ys) (hl : ys.length ≤ xs.length) (hv : val ys ≤ val xs) (hm : xs.length ≤ 100000) :
    Calls Try.prog 61 #[.slice A xs.length c, .slice B ys.length d] w (RetN (fun zs => val zs = val xs - val ys ∧ Nrm zs ∧ zs.length ≤ xs.length) w) := by
  have hmk := mk_words 22 Try.underlying22 xs.length (by omega)
  have Hv := Lib.hid hv
  clear hv
  go_enter Try.func61, Try.ntmps61
  go_wp2
  go_loopw [6, 7] (fun cr i wr => ∃ (k : Nat) (zs : List Nat) (cy : Nat), k ≤ xs.length ∧ i = .int .i64 (k : Int) ∧ cr = .int .u64 (cy : Int) ∧ MinInv xs ys k zs cy ∧ BlkN wr w.heap.size zs ∧ Ext w wr) (fun _ i _ => xs.length - (intOf i).toNat)
  case atStart => exact ⟨0, List.replicate xs.length 0, 0, by omega, rfl, rfl, MinInv.start xs ys, BlkN.new w _, (Ext.refl w).alloc _⟩
  case round =>
    obtain ⟨k, zs, cy, hk, rfl, rfl, hinv, hblk, hext⟩ := hrel
    have hcy := hinv.hbw
    have hzl := hinv.len1
    have hzl2 := hinv.len2
    by_cases hlt : k < xs.length
    · obtain ⟨b, off, rfl, hb, hc1⟩ := (hx.ext hext).at_ hlt
      have hxk := hx.1.get hlt
      have hzk := hblk.cell (i := k) (by omega)
      have hfz := hblk.frozen k
      by_cases hly : k < ys.length
      · obtain ⟨b', off', rfl, hb', hc2⟩ := (hy.ext hext).at_ hly
        have hyk := hy.1.get hly
        go_wp2
        go_roundw
        case rel => exact ⟨k + 1, _, 1 - (xs[k] + 4294967296 - ys[k] - cy) / 4294967296, by omega, by go_num, by go_num, hinv.step hlt (d := (xs[k] + 4294967296 - ys[k] - cy) % 4294967296) (by omega) (by omega) (by rw [getD_at hlt, getD_at hly]; omega), hblk.set k (by go_num), hext.setCell (Nat.le_refl _) _⟩
        case measure => simp [intOf]; omega
      · go_wp2
        go_roundw
        case rel => exact ⟨k + 1, _, 1 - (xs[k] + 4294967296 - cy) / 4294967296, by omega, by go_num, by go_num, hinv.step hlt (d := (xs[k] + 4294967296 - cy) % 4294967296) (by omega) (by omega) (by rw [getD_at hlt, getD_out hly]; omega), hblk.set k (by go_num), hext.setCell (Nat.le_refl _) _⟩
        case measure => simp [intOf]; omega
    · have hk' : k = xs.length := by omega
      subst hk'
      have hrd := hblk.rd0 hinv.w32
      have Hd := Lib.hid (hinv.done hl Hv.out)
      go_wp2_with (go_at_call 51; refine (ref_trimN (xs := zs) (by omega) hrd (by omega) (by unfold maxLen; omega)).mono ?_; rintro e w' ⟨rfl, rfl⟩)
      go_ret
      have hlen := trimL_len zs
      refine ⟨_, _, trimL zs, rfl, ?_, by omega, by unfold maxLen; omega, ⟨by rw [val_trimL]; have := Hd.out; omega, Nrm.trimL _, by omega⟩, hext⟩
      rw [trimL_take]
      exact (Own.of_blk hblk hinv.w32 (Nat.le_refl _)).take _
theorem ref_minus {A B : Option Addr} {c d n m : Nat} {xs ys : List Nat} {w : World} (hn : xs.length = n) (hm : ys.length = m) (hx : Rd w A xs) (hy : Rd w B ys) (hl : m ≤ n) (hv : val ys ≤ val xs) (h1 : n ≤ 100000) :
    Calls Try.prog 61 #[.slice A n c, .slice B m d] w (RetN (fun zs => val zs = val xs - val ys ∧ Nrm zs ∧ zs.length ≤ xs.length) w) := by
  subst hn; subst hm
  exact ref_minus1 A B c d xs ys w hx hy hl hv h1

/-- what a call leaves that adds to the middle of a block. -/
def Turned (w : World) (g : Nat) (pre : List Nat) (n : Nat) (post : List Nat) (P : List Nat → Prop) (e : Ending) (w' : World) : Prop :=
  ∃ zs, e = .returned (.tuple #[]) ∧ zs.length = n ∧ W32 zs ∧ BlkN w' g (pre ++ zs ++ post) ∧ P zs ∧ Mod w w' g

set_option maxHeartbeats 400000 in
theorem int_addTo {g off n m cz : Nat} {pre zs0 post : List Nat} (hblk0 : BlkN w g (pre ++ zs0 ++ post)) (hoff : pre.length = off) (hn : zs0.length = n) (hw : W32 zs0) (hy : Rd w B ys) (hm : ys.length = m) (hap : Apart B ys g) (hl : m ≤ n) (h1 : n ≤ 1000000) :
    Calls Try.prog 74 #[.slice (some ⟨g, off, none⟩) n cz, .slice B m d] w (Turned w g pre n post fun zs => ∃ cy, cy ≤ 1 ∧ val zs + 4294967296 ^ n * cy = val zs0 + val ys) := by
  subst hm
  have Hoff := Lib.hid hoff
  have Hn := Lib.hid hn
  clear hoff hn
  go_enter Try.func74, Try.ntmps74
  go_wp2
  go_loopw [4, 10] (fun cr i wr => ∃ (k : Nat) (zs : List Nat) (cy : Nat), k ≤ ys.length ∧ i = .int .i64 (k : Int) ∧ cr = .int .u64 (cy : Int) ∧ AddInv zs0 ys k zs cy ∧ BlkN wr g (pre ++ zs ++ post) ∧ Mod w wr g) (fun _ i _ => ys.length - (intOf i).toNat)
  case atStart => exact ⟨0, zs0, 0, by omega, rfl, rfl, AddInv.start hw, hblk0, Mod.refl _ _⟩
  case round =>
    obtain ⟨k, zs, cy, hk, rfl, rfl, hinv, hblk, hmod⟩ := hrel
    have hcy := hinv.hcy
    have hzl : n ≤ zs.length := by rw [hinv.len, Hn.out]; omega
    have hzl2 : zs.length ≤ n := by rw [hinv.len, Hn.out]; omega
    by_cases hlt : k < ys.length
    · obtain ⟨b, off', rfl, hb, hc1⟩ := (hy.mod hmod hap).at_ hlt
      have hyk := hy.1.get hlt
      obtain ⟨b2, off2, he, hb2, hc2⟩ := (hblk.mid hinv.w32 Hoff.out).at_ (i := k) (by omega)
      injection he with he
      injection he with he1 he2
      subst he1; subst he2
      have hzk := hinv.w32.get (k := k) (by omega)
      have hfz := hblk.frozen (off + k)
      go_wp2
      go_roundw
      case rel => exact ⟨k + 1, _, _, by omega, by go_num, by go_num, hinv.step hw hy.1 (by omega) (s := cy + zs[k] + ys[k]) (by rw [getD_at hlt]), hblk.setMid Hoff.out (by omega) (by go_num), hmod.setCell _ _⟩
      case measure => simp [intOf]; omega
    · have hk' : k = ys.length := by omega
      subst hk'
      clear hlt hk
      go_wp2
      go_loopw [4, 7] (fun cr i wr => ∃ (k : Nat) (zs : List Nat) (cy : Nat), ys.length ≤ k ∧ k ≤ n ∧ i = .int .i64 (k : Int) ∧ cr = .int .u64 (cy : Int) ∧ AddInv zs0 ys k zs cy ∧ BlkN wr g (pre ++ zs ++ post) ∧ Mod w wr g) (fun _ i _ => n - (intOf i).toNat)
      case atStart => exact ⟨ys.length, zs, cy, by omega, by omega, rfl, rfl, hinv, hblk, hmod⟩
      case round =>
        clear hinv hblk hmod hcy hzl hzl2
        obtain ⟨k, zs, cy, hky, hk, rfl, rfl, hinv, hblk, hmod⟩ := hrel
        have hcy := hinv.hcy
        have hzl : n ≤ zs.length := by rw [hinv.len, Hn.out]; omega
        have hzl2 : zs.length ≤ n := by rw [hinv.len, Hn.out]; omega
        by_cases hc0 : cy = 0
        · have Hd := Lib.hid (hinv.done hky (by omega) (.inl hc0))
          subst hc0
          go_wp2
          go_end0
          exact ⟨zs, rfl, by omega, hinv.w32, hblk, by have h := Hd.out; rw [hinv.len, Hn.out] at h; exact h, hmod⟩
        · have hc1 : (((cy : Nat) : Int) == 0) = false := by rw [beq_eq_false_iff_ne]; omega
          have hc2 : (((cy : Nat) : Int) != 0) = true := by rw [bne_iff_ne]; omega
          by_cases hlt : k < n
          · obtain ⟨b2, off2, he, hb2, hc2⟩ := (hblk.mid hinv.w32 Hoff.out).at_ (i := k) (by omega)
            injection he with he
            injection he with he1 he2
            subst he1; subst he2
            have hzk := hinv.w32.get (k := k) (by omega)
            have hfz := hblk.frozen (off + k)
            go_wp2
            go_roundw
            case rel => exact ⟨k + 1, _, _, by omega, by omega, by go_num, by go_num, hinv.step hw hy.1 (by omega) (s := cy + zs[k]) (by rw [getD_out (by omega)]; rfl), hblk.setMid Hoff.out (by omega) (by go_num), hmod.setCell _ _⟩
            case measure => simp [intOf]; omega
          · have Hd := Lib.hid (hinv.done hky (by omega) (.inr (by omega)))
            go_wp2
            go_end0
            exact ⟨zs, rfl, by omega, hinv.w32, hblk, by have h := Hd.out; rw [hinv.len, Hn.out] at h; exact h, hmod⟩
end
end Go.Proofs.Ytmjmcinnbmjpdaa
