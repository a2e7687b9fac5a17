/- Walks and laws, part 3. -/
import Derived.Test.YtmjmcinnbmjpdaaDoorMg1
import Derived.Test.YtmjmcinnbmjpdaaDoorRows
namespace Go.Proofs.YtmjmcinnbmjpdaaDoor
open Go.RowKit

theorem ret_slice {A : Option Addr} {n m c : Nat} (h : n = m) : Ending.returned (.slice A n c) = .returned (.slice A m c) := by rw [h]
theorem quiet_add_left {P : Program} {f : FuncId} {args : Array Value} {w : World} {a n : Nat} {v : Value}
    (h : Calls P f args (w.drewN (a + n)) fun e w' => e = .returned v ∧ w.drewN (a + n) = w') :
    Calls P f args (w.drewN (a + n)) fun e w'' => e = .returned v ∧ ∃ m, w'' = w.drewN (a + m) :=
  h.mono fun _ _ ⟨he, hm⟩ => ⟨he, n, hm.symm⟩
theorem quiet_left {P : Program} {f : FuncId} {args : Array Value} {w : World} {n : Nat} {v : Value}
    (h : Calls P f args (w.drewN n) fun e w' => e = .returned v ∧ w.drewN n = w') : Calls P f args (w.drewN n) fun e w'' => e = .returned v ∧ ∃ m, w'' = w.drewN m :=
  h.mono fun _ _ ⟨he, hm⟩ => ⟨he, n, hm.symm⟩
theorem ret_int {k : IntKind} {a b : Int} (h : a = b) : Ending.returned (.int k a) = .returned (.int k b) := by rw [h]

section
variable (A : Option Addr) (c : Nat) (xs : List Nat) (w : World)

set_option maxHeartbeats 400000 in
theorem ref_trim (hr : Rd w A xs) (hc : xs.length ≤ c) (hm : c ≤ maxLen) :
    Calls Tryd.prog 28 #[.slice A xs.length c] w fun e w' => e = .returned (.slice A (trimL xs).length c) ∧ w = w' := by
  unfold maxLen at hm
  go_enter Tryd.func28, Tryd.ntmps28
  go_wp2
  go_loop [0] (fun m => ∃ k : Nat, k ≤ xs.length ∧ m = .slice A k c ∧ trimL (xs.take k) = trimL xs) (fun m => lenV m)
  case atStart => exact ⟨xs.length, Nat.le_refl _, rfl, by simp⟩
  case round =>
    obtain ⟨k, hk, rfl, hx⟩ := hrel
    have hx' := Lib.hid hx
    clear hx
    by_cases h0 : k = 0
    · subst h0
      go_wp2
      go_ret
      exact ⟨ret_slice (by have := hx'.out; rw [← this]; rfl), rfl⟩
    · obtain ⟨j, rfl⟩ : ∃ j, k = j + 1 := ⟨k - 1, by omega⟩
      obtain ⟨b, off, rfl, hb, hc1⟩ := hr.at_ (i := j) (by omega)
      have hz' := Lib.hid (trimL_zero xs j (by omega))
      have hp' := Lib.hid (trimL_pos xs j (by omega))
      by_cases hq : xs[j] = 0
      · have ht : (((xs[j] : Nat) : Int) == 0) = true := by simp [hq]
        have Hq := Lib.hid hq
        clear hq
        go_wp2
        exact ⟨⟨j, by omega, rfl, by rw [← hz'.out Hq.out, hx'.out]⟩, by simp [lenV]⟩
      · have ht : (((xs[j] : Nat) : Int) == 0) = false := by simp [hq]
        have Hq := Lib.hid hq
        clear hq
        go_wp2
        go_ret
        exact ⟨ret_slice (by rw [← hx'.out, hp'.out Hq.out, List.length_take]; omega), rfl⟩

set_option maxHeartbeats 400000 in
theorem int_trim (hr : Rd w A xs) (hc : xs.length ≤ c) (hm : c ≤ maxLen) :
    Calls Tryd.prog 26 #[.slice A xs.length c] w fun e w' => e = .returned (.slice A (trimL xs).length c) ∧ w = w' := by
  unfold maxLen at hm
  go_enter Tryd.func26, Tryd.ntmps26
  go_wp2
  go_loop [3] (fun m => ∃ k : Nat, k ≤ xs.length ∧ m = .int .i64 (k : Int) ∧ trimL (xs.take k) = trimL xs) (fun m => (intOf m).toNat)
  case atStart => exact ⟨xs.length, Nat.le_refl _, rfl, by simp⟩
  case round =>
    obtain ⟨k, hk, rfl, hx⟩ := hrel
    have hx' := Lib.hid hx
    clear hx
    by_cases h0 : k = 0
    · subst h0
      go_wp2
      go_ret
      exact ⟨ret_slice (by have := hx'.out; rw [← this]; rfl), rfl⟩
    · obtain ⟨j, rfl⟩ : ∃ j, k = j + 1 := ⟨k - 1, by omega⟩
      obtain ⟨b, off, rfl, hb, hc1⟩ := hr.at_ (i := j) (by omega)
      have hz' := Lib.hid (trimL_zero xs j (by omega))
      have hp' := Lib.hid (trimL_pos xs j (by omega))
      by_cases hq : xs[j] = 0
      · have ht : (((xs[j] : Nat) : Int) == 0) = true := by simp [hq]
        have Hq := Lib.hid hq
        clear hq
        go_wp2
        go_round
        case rel => exact ⟨j, by omega, by go_num, by rw [← hz'.out Hq.out, hx'.out]⟩
        case measure => simp [intOf]
      · have ht : (((xs[j] : Nat) : Int) == 0) = false := by simp [hq]
        have Hq := Lib.hid hq
        clear hq
        go_wp2
        go_ret
        exact ⟨ret_slice (by rw [← hx'.out, hp'.out Hq.out, List.length_take]; omega), rfl⟩
end
theorem ref_trimN {A : Option Addr} {c n : Nat} {xs : List Nat} {w : World} (hn : xs.length = n) (hr : Rd w A xs) (hc : n ≤ c) (hm : c ≤ maxLen) :
    Calls Tryd.prog 28 #[.slice A n c] w fun e w' => e = .returned (.slice A (trimL xs).length c) ∧ w = w' := by
  subst hn; exact ref_trim A c xs w hr hc hm
theorem int_trimN {A : Option Addr} {c n : Nat} {xs : List Nat} {w : World} (hn : xs.length = n) (hr : Rd w A xs) (hc : n ≤ c) (hm : c ≤ maxLen) :
    Calls Tryd.prog 26 #[.slice A n c] w fun e w' => e = .returned (.slice A (trimL xs).length c) ∧ w = w' := by
  subst hn; exact int_trim A c xs w hr hc hm
theorem isnan_int (a : Int) (w : World) : Calls Tryd.prog 91 #[.int .i64 a] w fun e w' => e = .returned (.bool false) ∧ w = w' := by
  go_enter Tryd.func91, Tryd.ntmps91
  go_wp2
  go_ret
  exact ⟨rfl, rfl⟩
theorem isnan_u32 (a : Int) (w : World) : Calls Tryd.prog 92 #[.int .u32 a] w fun e w' => e = .returned (.bool false) ∧ w = w' := by
  go_enter Tryd.func92, Tryd.ntmps92
  go_wp2
  go_ret
  exact ⟨rfl, rfl⟩
theorem ret_cmpI {a b : Nat} {x : Int} (h : x = cmpI a b) : Ending.returned (.int .i64 x) = .returned (.int .i64 (cmpI a b)) := by rw [h]
set_option maxHeartbeats 400000 in
theorem cmp_int (a b : Nat) (w : World) : Calls Tryd.prog 70 #[.int .i64 (a : Int), .int .i64 (b : Int)] w fun e w' => e = .returned (.int .i64 (cmpI a b)) ∧ w = w' := by
  go_enter Tryd.func70, Tryd.ntmps70
  go_wp2_with (go_at_call 91; refine (isnan_int _ _).mono ?_; rintro e w' ⟨rfl, rfl⟩)
  all_goals go_ret
  all_goals (refine ⟨ret_int ?_, rfl⟩; simp [cmpI, *])
set_option maxHeartbeats 400000 in
theorem cmp_u32 (a b : Nat) (w : World) : Calls Tryd.prog 71 #[.int .u32 (a : Int), .int .u32 (b : Int)] w fun e w' => e = .returned (.int .i64 (cmpI a b)) ∧ w = w' := by
  go_enter Tryd.func71, Tryd.ntmps71
  go_wp2_with (go_at_call 92; refine (isnan_u32 _ _).mono ?_; rintro e w' ⟨rfl, rfl⟩)
  all_goals go_ret
  all_goals (refine ⟨ret_int ?_, rfl⟩; simp [cmpI, *])

section
variable (A B : Option Addr) (c d : Nat) (xs ys : List Nat) (w : World)
set_option maxHeartbeats 400000 in
theorem ref_compare (hx : Rd w A xs) (hy : Rd w B ys) (hm : xs.length ≤ maxLen) (_hm' : ys.length ≤ maxLen) :
    Calls Tryd.prog 48 #[.slice A xs.length c, .slice B ys.length d] w fun e w' => e = .returned (.int .i64 (cmpL xs ys)) ∧ Ext w w' := by
  unfold maxLen at hm
  rcases Nat.lt_trichotomy xs.length ys.length with hl | hl | hl
  · have ht : ((xs.length : Int) == (ys.length : Int)) = false := by rw [beq_eq_false_iff_ne]; omega
    have ht' : ((xs.length : Int) != (ys.length : Int)) = true := by rw [bne_iff_ne]; omega
    have hv := Lib.hid (cmpL_len_lt (xs := xs) (ys := ys) hl)
    go_enter Tryd.func48, Tryd.ntmps48
    go_wp2
    go_ret
    exact ⟨ret_int (by rw [hv.out]; try rfl), Ext.refl _⟩
  · have HL := Lib.hid hl
    have hm2 : xs.length ≤ 2 ^ 63 - 1 := hm
    have hl1 : xs.length ≤ ys.length := by omega
    have hl2 : ys.length ≤ xs.length := by omega
    have ht : ((xs.length : Int) == (ys.length : Int)) = true := by rw [beq_iff_eq]; omega
    have ht' : ((xs.length : Int) != (ys.length : Int)) = false := by rw [bne_eq_false_iff_eq]; omega
    clear hl
    go_enter Tryd.func48, Tryd.ntmps48
    go_wp2
    go_loopw [5] (fun i wr => ∃ k : Nat, k ≤ xs.length ∧ i = .int .i64 ((k : Int) - 1) ∧ xs.drop k = ys.drop k ∧ Ext w wr) (fun i _ => (intOf i + 1).toNat)
    case atStart => exact ⟨xs.length, Nat.le_refl _, rfl, by rw [List.drop_eq_nil_of_le (by omega), List.drop_eq_nil_of_le (by omega)], Ext.refl _⟩
    case round =>
      obtain ⟨k, hk, rfl, hdr, hext⟩ := hrel
      have Hd := Lib.hid hdr
      clear hdr
      by_cases h0 : k = 0
      · subst h0
        have he := Lib.hid (show cmpL xs ys = 0 by have := Hd.out; simp at this; rw [this, cmpL_self])
        go_wp2
        go_ret
        exact ⟨ret_int he.out.symm, hext⟩
      · obtain ⟨j, rfl⟩ : ∃ j, k = j + 1 := ⟨k - 1, by omega⟩
        obtain ⟨b, off, rfl, hb, hc1⟩ := (hx.ext hext).at_ (i := j) (by omega)
        obtain ⟨b', off', rfl, hb', hc2⟩ := (hy.ext hext).at_ (i := j) (by omega)
        rw [show (((j + 1 : Nat) : Int) - 1) = (j : Int) by omega]
        have hlt := Lib.hid (cmpL_lt hx.1 HL.out j (by omega) (by omega) Hd.out)
        have hgt := Lib.hid (cmpL_gt hy.1 HL.out j (by omega) (by omega) Hd.out)
        have hst := Lib.hid (drop_eq_step j (by omega) (by omega) Hd.out)
        rcases Nat.lt_trichotomy xs[j] ys[j] with hq | hq | hq
        · have ht1 : decide (xs[j] < ys[j]) = true := by simp [hq]
          have Hq := Lib.hid hq
          clear hq
          go_wp2
          go_quiet (fail)
          go_wp2
          go_ret
          exact ⟨ret_int (hlt.out Hq.out).symm, by first | exact hext.drewN _ | exact (hext.drewN _).drewN _⟩
        · have ht1 : decide (xs[j] < ys[j]) = false := by simp; omega
          have ht2 : decide (ys[j] < xs[j]) = false := by simp; omega
          have Hq := Lib.hid hq
          clear hq
          go_wp2
          go_quiet (fail)
          go_wp2
          go_quiet (fail)
          go_wp2
          go_roundw
          case rel => exact ⟨j, by omega, rfl, hst.out Hq.out, by first | exact hext.drewN _ | exact (hext.drewN _).drewN _⟩
          case measure => simp [intOf]
        · have ht1 : decide (xs[j] < ys[j]) = false := by simp; omega
          have ht2 : decide (ys[j] < xs[j]) = true := by simp; omega
          have Hq := Lib.hid hq
          clear hq
          go_wp2
          go_quiet (fail)
          go_wp2
          go_quiet (fail)
          go_wp2
          go_ret
          exact ⟨ret_int (hgt.out Hq.out).symm, by first | exact hext.drewN _ | exact (hext.drewN _).drewN _⟩
  · have ht : ((xs.length : Int) == (ys.length : Int)) = false := by rw [beq_eq_false_iff_ne]; omega
    have ht' : ((xs.length : Int) != (ys.length : Int)) = true := by rw [bne_iff_ne]; omega
    have hv := Lib.hid (cmpL_len_gt (xs := xs) (ys := ys) hl)
    go_enter Tryd.func48, Tryd.ntmps48
    go_wp2
    go_ret
    exact ⟨ret_int (by rw [hv.out]; try rfl), Ext.refl _⟩

set_option maxHeartbeats 400000 in
theorem int_compare (hx : Rd w A xs) (hy : Rd w B ys) (hm : xs.length ≤ maxLen) (_hm' : ys.length ≤ maxLen) :
    Calls Tryd.prog 43 #[.slice A xs.length c, .slice B ys.length d] w fun e w' => e = .returned (.int .i64 (cmpL xs ys)) ∧ Ext w w' := by
  unfold maxLen at hm
  rcases Nat.lt_trichotomy xs.length ys.length with hl | hl | hl
  · have ht : ((xs.length : Int) == (ys.length : Int)) = false := by rw [beq_eq_false_iff_ne]; omega
    have ht' : ((xs.length : Int) != (ys.length : Int)) = true := by rw [bne_iff_ne]; omega
    have hv := Lib.hid (cmpL_len_lt' (xs := xs) (ys := ys) hl)
    go_enter Tryd.func43, Tryd.ntmps43
    go_wp2_with (go_at_call 70; refine (cmp_int _ _ _).mono ?_; rintro e w' ⟨rfl, rfl⟩)
    go_ret
    exact ⟨ret_int (by rw [hv.out]), Ext.refl _⟩
  · have HL := Lib.hid hl
    have hm2 : xs.length ≤ 2 ^ 63 - 1 := hm
    have hl1 : xs.length ≤ ys.length := by omega
    have hl2 : ys.length ≤ xs.length := by omega
    have ht : ((xs.length : Int) == (ys.length : Int)) = true := by rw [beq_iff_eq]; omega
    have ht' : ((xs.length : Int) != (ys.length : Int)) = false := by rw [bne_eq_false_iff_eq]; omega
    clear hl
    go_enter Tryd.func43, Tryd.ntmps43
    go_wp2
    go_loopw [5] (fun i wr => ∃ k : Nat, k ≤ xs.length ∧ i = .int .i64 ((k : Int) - 1) ∧ xs.drop k = ys.drop k ∧ Ext w wr) (fun i _ => (intOf i + 1).toNat)
    case atStart => exact ⟨xs.length, Nat.le_refl _, rfl, by rw [List.drop_eq_nil_of_le (by omega), List.drop_eq_nil_of_le (by omega)], Ext.refl _⟩
    case round =>
      obtain ⟨k, hk, rfl, hdr, hext⟩ := hrel
      have Hd := Lib.hid hdr
      clear hdr
      by_cases h0 : k = 0
      · subst h0
        have he := Lib.hid (show cmpL xs ys = 0 by have := Hd.out; simp at this; rw [this, cmpL_self])
        go_wp2
        go_ret
        exact ⟨ret_int he.out.symm, hext⟩
      · obtain ⟨j, rfl⟩ : ∃ j, k = j + 1 := ⟨k - 1, by omega⟩
        obtain ⟨b, off, rfl, hb, hc1⟩ := (hx.ext hext).at_ (i := j) (by omega)
        obtain ⟨b', off', rfl, hb', hc2⟩ := (hy.ext hext).at_ (i := j) (by omega)
        rw [show (((j + 1 : Nat) : Int) - 1) = (j : Int) by omega]
        have hne := Lib.hid (cmpL_at hx.1 hy.1 HL.out j (by omega) (by omega) Hd.out)
        have hst := Lib.hid (drop_eq_step j (by omega) (by omega) Hd.out)
        by_cases hq : xs[j] = ys[j]
        · have ht1 : (((xs[j] : Nat) : Int) == ((ys[j] : Nat) : Int)) = true := by rw [beq_iff_eq]; omega
          have ht2 : (((xs[j] : Nat) : Int) != ((ys[j] : Nat) : Int)) = false := by rw [bne_eq_false_iff_eq]; omega
          have Hq := Lib.hid hq
          clear hq
          go_wp2
          go_quiet (fail)
          go_wp2
          go_roundw
          case rel => exact ⟨j, by omega, rfl, hst.out Hq.out, hext.drewN _⟩
          case measure => simp [intOf]
        · have ht1 : (((xs[j] : Nat) : Int) == ((ys[j] : Nat) : Int)) = false := by rw [beq_eq_false_iff_ne]; omega
          have ht2 : (((xs[j] : Nat) : Int) != ((ys[j] : Nat) : Int)) = true := by rw [bne_iff_ne]; omega
          have Hq := Lib.hid hq
          clear hq
          go_wp2
          go_quiet (fail)
          go_wp2
          go_quiet ((go_at_call 71; exact quiet_add_left (cmp_u32 _ _ _)))
          go_wp2
          go_ret
          exact ⟨ret_int (hne.out Hq.out).symm, by first | exact hext.drewN _ | exact (hext.drewN _).drewN _⟩
  · have ht : ((xs.length : Int) == (ys.length : Int)) = false := by rw [beq_eq_false_iff_ne]; omega
    have ht' : ((xs.length : Int) != (ys.length : Int)) = true := by rw [bne_iff_ne]; omega
    have hv := Lib.hid (cmpL_len_gt' (xs := xs) (ys := ys) hl)
    go_enter Tryd.func43, Tryd.ntmps43
    go_wp2_with (go_at_call 70; refine (cmp_int _ _ _).mono ?_; rintro e w' ⟨rfl, rfl⟩)
    go_ret
    exact ⟨ret_int (by rw [hv.out]), Ext.refl _⟩
end
end Go.Proofs.YtmjmcinnbmjpdaaDoor
namespace Go.Proofs.YtmjmcinnbmjpdaaDoor
open Go.RowKit
theorem Tryd.infoW : (Tryd.prog.info? 43).map (fun i => (i.zero, i.size, i.bytes)) = some (some (.int .u32 0), 1, 4) := by kernel_rfl
theorem ret_cap {A : Option Addr} {n m c d : Nat} (h : n = m) (k : c = d) : Ending.returned (.slice A n c) = .returned (.slice A m d) := by rw [h, k]
/-- 'make' of n words, whichever of the two slice types. -/
theorem mk_words (T : TypeId) (hT : Tryd.prog.underlying T = some (.slice 43)) (n : Nat) (hn : n ≤ 1000000) (W : World) :
    (Instr.makeSlice T (.int .i64 (n : Int)) (.int .i64 (n : Int))).run Tryd.prog W = .ok (.slice (some ⟨W.heap.size, 0, none⟩) n n) (W.alloc (.cells (madeCells #[.int .u32 0] n) 43)) := by
  obtain ⟨i0, hi, hz0, hz1, hz2⟩ := info_parts Tryd.infoW
  have h := run_make_rowN (P := Tryd.prog) T 43 i0 (.int .u32 0) hT hi hz0 .i64 .i64 n n (Nat.le_refl _) (by rw [hz2]; omega) (by omega) W
  rw [hz1] at h
  simpa only [Nat.mul_one, Value.cells] using h
theorem mk_words1 (T : TypeId) (hT : Tryd.prog.underlying T = some (.slice 43)) (n : Nat) (hn : n ≤ 100000) (W : World) :
    (Instr.makeSlice T (.int .i64 ((n : Int) + 1)) (.int .i64 ((n : Int) + 1))).run Tryd.prog W = .ok (.slice (some ⟨W.heap.size, 0, none⟩) (n + 1) (n + 1)) (W.alloc (.cells (madeCells #[.int .u32 0] (n + 1)) 43)) :=
  mk_words T hT (n + 1) (by omega) W

section
variable (A B : Option Addr) (c d : Nat) (xs ys : List Nat) (w : World)
set_option maxHeartbeats 400000 in
theorem ref_minus1 (hx : Rd w A xs) (hy : Rd w B ys) (hl : ys.length ≤ xs.length) (hv : val ys ≤ val xs) (hm : xs.length ≤ 100000) :
    Calls Tryd.prog 54 #[.slice A xs.length c, .slice B ys.length d] w (RetN (fun zs => val zs = val xs - val ys ∧ Nrm zs ∧ zs.length ≤ xs.length) w) := by
  have hmk := mk_words 22 Tryd.underlying22 xs.length (by omega)
  have Hv := Lib.hid hv
  clear hv
  go_enter Tryd.func54, Tryd.ntmps54
  go_wp2
  go_loopw [6, 7] (fun cr i wr => ∃ (k : Nat) (zs : List Nat) (cy : Nat), k ≤ xs.length ∧ i = .int .i64 (k : Int) ∧ cr = .int .u64 (cy : Int) ∧ MinInv xs ys k zs cy ∧ BlkN wr w.heap.size zs ∧ Ext w wr) (fun _ i _ => xs.length - (intOf i).toNat)
  case atStart => exact ⟨0, List.replicate xs.length 0, 0, by omega, rfl, rfl, MinInv.start xs ys, BlkN.new w _, (Ext.refl w).alloc _⟩
  case round =>
    obtain ⟨k, zs, cy, hk, rfl, rfl, hinv, hblk, hext⟩ := hrel
    have hcy := hinv.hbw
    have hzl := hinv.len1
    have hzl2 := hinv.len2
    by_cases hlt : k < xs.length
    · obtain ⟨b, off, rfl, hb, hc1⟩ := (hx.ext hext).at_ hlt
      have hxk := hx.1.get hlt
      have hzk := hblk.cell (i := k) (by omega)
      have hfz := hblk.frozen k
      by_cases hly : k < ys.length
      · obtain ⟨b', off', rfl, hb', hc2⟩ := (hy.ext hext).at_ hly
        have hyk := hy.1.get hly
        go_wp2
        go_roundw
        case rel => exact ⟨k + 1, _, 1 - (xs[k] + 4294967296 - ys[k] - cy) / 4294967296, by omega, by go_num, by go_num, hinv.step hlt (d := (xs[k] + 4294967296 - ys[k] - cy) % 4294967296) (by omega) (by omega) (by rw [getD_at hlt, getD_at hly]; omega), hblk.set k (by go_num), hext.setCell (Nat.le_refl _) _⟩
        case measure => simp [intOf]; omega
      · go_wp2
        go_roundw
        case rel => exact ⟨k + 1, _, 1 - (xs[k] + 4294967296 - cy) / 4294967296, by omega, by go_num, by go_num, hinv.step hlt (d := (xs[k] + 4294967296 - cy) % 4294967296) (by omega) (by omega) (by rw [getD_at hlt, getD_out hly]; omega), hblk.set k (by go_num), hext.setCell (Nat.le_refl _) _⟩
        case measure => simp [intOf]; omega
    · have hk' : k = xs.length := by omega
      subst hk'
      have hrd := hblk.rd0 hinv.w32
      have Hd := Lib.hid (hinv.done hl Hv.out)
      go_wp2_with (go_at_call 28; refine (ref_trimN (xs := zs) (by omega) hrd (by omega) (by unfold maxLen; omega)).mono ?_; rintro e w' ⟨rfl, rfl⟩)
      go_ret
      have hlen := trimL_len zs
      refine ⟨_, _, trimL zs, rfl, ?_, by omega, by unfold maxLen; omega, ⟨by rw [val_trimL]; have := Hd.out; omega, Nrm.trimL _, by omega⟩, hext⟩
      rw [trimL_take]
      exact (Own.of_blk hblk hinv.w32 (Nat.le_refl _)).take _
theorem ref_minus {A B : Option Addr} {c d n m : Nat} {xs ys : List Nat} {w : World} (hn : xs.length = n) (hm : ys.length = m) (hx : Rd w A xs) (hy : Rd w B ys) (hl : m ≤ n) (hv : val ys ≤ val xs) (h1 : n ≤ 100000) :
    Calls Tryd.prog 54 #[.slice A n c, .slice B m d] w (RetN (fun zs => val zs = val xs - val ys ∧ Nrm zs ∧ zs.length ≤ xs.length) w) := by
  subst hn; subst hm
  exact ref_minus1 A B c d xs ys w hx hy hl hv h1

/-- what a call leaves that adds to the middle of a block. -/
def Turned (w : World) (g : Nat) (pre : List Nat) (n : Nat) (post : List Nat) (P : List Nat → Prop) (e : Ending) (w' : World) : Prop :=
  ∃ zs, e = .returned (.tuple #[]) ∧ zs.length = n ∧ W32 zs ∧ BlkN w' g (pre ++ zs ++ post) ∧ P zs ∧ Mod w w' g

set_option maxHeartbeats 400000 in
theorem int_addTo {g off n m cz : Nat} {pre zs0 post : List Nat} (hblk0 : BlkN w g (pre ++ zs0 ++ post)) (hoff : pre.length = off) (hn : zs0.length = n) (hw : W32 zs0) (hy : Rd w B ys) (hm : ys.length = m) (hap : Apart B ys g) (hl : m ≤ n) (h1 : n ≤ 1000000) :
    Calls Tryd.prog 58 #[.slice (some ⟨g, off, none⟩) n cz, .slice B m d] w (Turned w g pre n post fun zs => ∃ cy, cy ≤ 1 ∧ val zs + 4294967296 ^ n * cy = val zs0 + val ys) := by
  subst hm
  have Hoff := Lib.hid hoff
  have Hn := Lib.hid hn
  clear hoff hn
  go_enter Tryd.func58, Tryd.ntmps58
  go_wp2
  go_loopw [4, 10] (fun cr i wr => ∃ (k : Nat) (zs : List Nat) (cy : Nat), k ≤ ys.length ∧ i = .int .i64 (k : Int) ∧ cr = .int .u64 (cy : Int) ∧ AddInv zs0 ys k zs cy ∧ BlkN wr g (pre ++ zs ++ post) ∧ Mod w wr g) (fun _ i _ => ys.length - (intOf i).toNat)
  case atStart => exact ⟨0, zs0, 0, by omega, rfl, rfl, AddInv.start hw, hblk0, Mod.refl _ _⟩
  case round =>
    obtain ⟨k, zs, cy, hk, rfl, rfl, hinv, hblk, hmod⟩ := hrel
    have hcy := hinv.hcy
    have hzl : n ≤ zs.length := by rw [hinv.len, Hn.out]; omega
    have hzl2 : zs.length ≤ n := by rw [hinv.len, Hn.out]; omega
    by_cases hlt : k < ys.length
    · obtain ⟨b, off', rfl, hb, hc1⟩ := (hy.mod hmod hap).at_ hlt
      have hyk := hy.1.get hlt
      obtain ⟨b2, off2, he, hb2, hc2⟩ := (hblk.mid hinv.w32 Hoff.out).at_ (i := k) (by omega)
      injection he with he
      injection he with he1 he2
      subst he1; subst he2
      have hzk := hinv.w32.get (k := k) (by omega)
      have hfz := hblk.frozen (off + k)
      go_wp2
      go_roundw
      case rel => exact ⟨k + 1, _, _, by omega, by go_num, by go_num, hinv.step hw hy.1 (by omega) (s := cy + zs[k] + ys[k]) (by rw [getD_at hlt]), hblk.setMid Hoff.out (by omega) (by go_num), hmod.setCell _ _⟩
      case measure => simp [intOf]; omega
    · have hk' : k = ys.length := by omega
      subst hk'
      clear hlt hk
      go_wp2
      go_loopw [4, 7] (fun cr i wr => ∃ (k : Nat) (zs : List Nat) (cy : Nat), ys.length ≤ k ∧ k ≤ n ∧ i = .int .i64 (k : Int) ∧ cr = .int .u64 (cy : Int) ∧ AddInv zs0 ys k zs cy ∧ BlkN wr g (pre ++ zs ++ post) ∧ Mod w wr g) (fun _ i _ => n - (intOf i).toNat)
      case atStart => exact ⟨ys.length, zs, cy, by omega, by omega, rfl, rfl, hinv, hblk, hmod⟩
      case round =>
        clear hinv hblk hmod hcy hzl hzl2
        obtain ⟨k, zs, cy, hky, hk, rfl, rfl, hinv, hblk, hmod⟩ := hrel
        have hcy := hinv.hcy
        have hzl : n ≤ zs.length := by rw [hinv.len, Hn.out]; omega
        have hzl2 : zs.length ≤ n := by rw [hinv.len, Hn.out]; omega
        by_cases hc0 : cy = 0
        · have Hd := Lib.hid (hinv.done hky (by omega) (.inl hc0))
          subst hc0
          go_wp2
          go_end0
          exact ⟨zs, rfl, by omega, hinv.w32, hblk, by have h := Hd.out; rw [hinv.len, Hn.out] at h; exact h, hmod⟩
        · have hc1 : (((cy : Nat) : Int) == 0) = false := by rw [beq_eq_false_iff_ne]; omega
          have hc2 : (((cy : Nat) : Int) != 0) = true := by rw [bne_iff_ne]; omega
          by_cases hlt : k < n
          · obtain ⟨b2, off2, he, hb2, hc2⟩ := (hblk.mid hinv.w32 Hoff.out).at_ (i := k) (by omega)
            injection he with he
            injection he with he1 he2
            subst he1; subst he2
            have hzk := hinv.w32.get (k := k) (by omega)
            have hfz := hblk.frozen (off + k)
            go_wp2
            go_roundw
            case rel => exact ⟨k + 1, _, _, by omega, by omega, by go_num, by go_num, hinv.step hw hy.1 (by omega) (s := cy + zs[k]) (by rw [getD_out (by omega)]; rfl), hblk.setMid Hoff.out (by omega) (by go_num), hmod.setCell _ _⟩
            case measure => simp [intOf]; omega
          · have Hd := Lib.hid (hinv.done hky (by omega) (.inr (by omega)))
            go_wp2
            go_end0
            exact ⟨zs, rfl, by omega, hinv.w32, hblk, by have h := Hd.out; rw [hinv.len, Hn.out] at h; exact h, hmod⟩
end
end Go.Proofs.YtmjmcinnbmjpdaaDoor
