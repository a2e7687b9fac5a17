/- Walks: trimming, comparing, copying. -/
import Derived.Test.YtmjmcinnbmjpdaaRows
import Derived.Test.YtmjmcinnbmjpdaaNum
namespace Go.Proofs.Ytmjmcinnbmjpdaa
open Go.RowKit

theorem ret_slice {A : Option Addr} {n m c : Nat} (h : n = m) : Ending.returned (.slice A n c) = .returned (.slice A m c) := by rw [h]
theorem quiet_add_left {P : Program} {f : FuncId} {args : Array Value} {w : World} {a n : Nat} {v : Value}
    (h : Calls P f args (w.drewN (a + n)) fun e w' => e = .returned v ∧ w.drewN (a + n) = w') :
    Calls P f args (w.drewN (a + n)) fun e w'' => e = .returned v ∧ ∃ m, w'' = w.drewN (a + m) :=
  h.mono fun _ _ ⟨he, hm⟩ => ⟨he, n, hm.symm⟩
theorem quiet_left {P : Program} {f : FuncId} {args : Array Value} {w : World} {n : Nat} {v : Value}
    (h : Calls P f args (w.drewN n) fun e w' => e = .returned v ∧ w.drewN n = w') : Calls P f args (w.drewN n) fun e w'' => e = .returned v ∧ ∃ m, w'' = w.drewN m :=
  h.mono fun _ _ ⟨he, hm⟩ => ⟨he, n, hm.symm⟩
theorem ret_int {k : IntKind} {a b : Int} (h : a = b) : Ending.returned (.int k a) = .returned (.int k b) := by rw [h]

section
variable (A : Option Addr) (c : Nat) (xs : List Nat) (w : World)

set_option maxHeartbeats 400000 in
theorem ref_trim (hr : Rd w A xs) (hc : xs.length ≤ c) (hm : c ≤ maxLen) :
    Calls Try.prog 51 #[.slice A xs.length c] w fun e w' => e = .returned (.slice A (trimL xs).length c) ∧ w = w' := by
  unfold maxLen at hm
  go_enter Try.func51, Try.ntmps51
  go_wp2
  go_loop [0] (fun m => ∃ k : Nat, k ≤ xs.length ∧ m = .slice A k c ∧ trimL (xs.take k) = trimL xs) (fun m => lenV m)
  case atStart => exact ⟨xs.length, Nat.le_refl _, rfl, by simp⟩
  case round =>
    obtain ⟨k, hk, rfl, hx⟩ := hrel
    have hx' := Lib.hid hx
    clear hx
    by_cases h0 : k = 0
    · subst h0
      go_wp2
      go_ret
      exact ⟨ret_slice (by have := hx'.out; rw [← this]; rfl), rfl⟩
    · obtain ⟨j, rfl⟩ : ∃ j, k = j + 1 := ⟨k - 1, by omega⟩
      obtain ⟨b, off, rfl, hb, hc1⟩ := hr.at_ (i := j) (by omega)
      have hz' := Lib.hid (trimL_zero xs j (by omega))
      have hp' := Lib.hid (trimL_pos xs j (by omega))
      by_cases hq : xs[j] = 0
      · have ht : (((xs[j] : Nat) : Int) == 0) = true := by simp [hq]
        have Hq := Lib.hid hq
        clear hq
        go_wp2
        exact ⟨⟨j, by omega, rfl, by rw [← hz'.out Hq.out, hx'.out]⟩, by simp [lenV]⟩
      · have ht : (((xs[j] : Nat) : Int) == 0) = false := by simp [hq]
        have Hq := Lib.hid hq
        clear hq
        go_wp2
        go_ret
        exact ⟨ret_slice (by rw [← hx'.out, hp'.out Hq.out, List.length_take]; omega), rfl⟩

set_option maxHeartbeats 400000 in
theorem int_trim (hr : Rd w A xs) (hc : xs.length ≤ c) (hm : c ≤ maxLen) :
    Calls Try.prog 44 #[.slice A xs.length c] w fun e w' => e = .returned (.slice A (trimL xs).length c) ∧ w = w' := by
  unfold maxLen at hm
  go_enter Try.func44, Try.ntmps44
  go_wp2
  go_loop [3] (fun m => ∃ k : Nat, k ≤ xs.length ∧ m = .int .i64 (k : Int) ∧ trimL (xs.take k) = trimL xs) (fun m => (intOf m).toNat)
  case atStart => exact ⟨xs.length, Nat.le_refl _, rfl, by simp⟩
  case round =>
    obtain ⟨k, hk, rfl, hx⟩ := hrel
    have hx' := Lib.hid hx
    clear hx
    by_cases h0 : k = 0
    · subst h0
      go_wp2
      go_ret
      exact ⟨ret_slice (by have := hx'.out; rw [← this]; rfl), rfl⟩
    · obtain ⟨j, rfl⟩ : ∃ j, k = j + 1 := ⟨k - 1, by omega⟩
      obtain ⟨b, off, rfl, hb, hc1⟩ := hr.at_ (i := j) (by omega)
      have hz' := Lib.hid (trimL_zero xs j (by omega))
      have hp' := Lib.hid (trimL_pos xs j (by omega))
      by_cases hq : xs[j] = 0
      · have ht : (((xs[j] : Nat) : Int) == 0) = true := by simp [hq]
        have Hq := Lib.hid hq
        clear hq
        go_wp2
        go_round
        case rel => exact ⟨j, by omega, by go_num, by rw [← hz'.out Hq.out, hx'.out]⟩
        case measure => simp [intOf]
      · have ht : (((xs[j] : Nat) : Int) == 0) = false := by simp [hq]
        have Hq := Lib.hid hq
        clear hq
        go_wp2
        go_ret
        exact ⟨ret_slice (by rw [← hx'.out, hp'.out Hq.out, List.length_take]; omega), rfl⟩
end
theorem ref_trimN {A : Option Addr} {c n : Nat} {xs : List Nat} {w : World} (hn : xs.length = n) (hr : Rd w A xs) (hc : n ≤ c) (hm : c ≤ maxLen) :
    Calls Try.prog 51 #[.slice A n c] w fun e w' => e = .returned (.slice A (trimL xs).length c) ∧ w = w' := by
  subst hn; exact ref_trim A c xs w hr hc hm
theorem int_trimN {A : Option Addr} {c n : Nat} {xs : List Nat} {w : World} (hn : xs.length = n) (hr : Rd w A xs) (hc : n ≤ c) (hm : c ≤ maxLen) :
    Calls Try.prog 44 #[.slice A n c] w fun e w' => e = .returned (.slice A (trimL xs).length c) ∧ w = w' := by
  subst hn; exact int_trim A c xs w hr hc hm
theorem isnan_int (a : Int) (w : World) : Calls Try.prog 90 #[.int .i64 a] w fun e w' => e = .returned (.bool false) ∧ w = w' := by
  go_enter Try.func90, Try.ntmps90
  go_wp2
  go_ret
  exact ⟨rfl, rfl⟩
theorem isnan_u32 (a : Int) (w : World) : Calls Try.prog 91 #[.int .u32 a] w fun e w' => e = .returned (.bool false) ∧ w = w' := by
  go_enter Try.func91, Try.ntmps91
  go_wp2
  go_ret
  exact ⟨rfl, rfl⟩
theorem ret_cmpI {a b : Nat} {x : Int} (h : x = cmpI a b) : Ending.returned (.int .i64 x) = .returned (.int .i64 (cmpI a b)) := by rw [h]
set_option maxHeartbeats 400000 in
theorem cmp_int (a b : Nat) (w : World) : Calls Try.prog 75 #[.int .i64 (a : Int), .int .i64 (b : Int)] w fun e w' => e = .returned (.int .i64 (cmpI a b)) ∧ w = w' := by
  go_enter Try.func75, Try.ntmps75
  go_wp2_with (go_at_call 90; refine (isnan_int _ _).mono ?_; rintro e w' ⟨rfl, rfl⟩)
  all_goals go_ret
  all_goals (refine ⟨ret_int ?_, rfl⟩; simp [cmpI, *])
set_option maxHeartbeats 400000 in
theorem cmp_u32 (a b : Nat) (w : World) : Calls Try.prog 76 #[.int .u32 (a : Int), .int .u32 (b : Int)] w fun e w' => e = .returned (.int .i64 (cmpI a b)) ∧ w = w' := by
  go_enter Try.func76, Try.ntmps76
  go_wp2_with (go_at_call 91; refine (isnan_u32 _ _).mono ?_; rintro e w' ⟨rfl, rfl⟩)
  all_goals go_ret
  all_goals (refine ⟨ret_int ?_, rfl⟩; simp [cmpI, *])

section
variable (A B : Option Addr) (c d : Nat) (xs ys : List Nat) (w : World)
set_option maxHeartbeats 400000 in
theorem ref_compare (hx : Rd w A xs) (hy : Rd w B ys) (hm : xs.length ≤ maxLen) (_hm' : ys.length ≤ maxLen) :
    Calls Try.prog 60 #[.slice A xs.length c, .slice B ys.length d] w fun e w' => e = .returned (.int .i64 (cmpL xs ys)) ∧ Ext w w' := by
  unfold maxLen at hm
  rcases Nat.lt_trichotomy xs.length ys.length with hl | hl | hl
  · have ht : ((xs.length : Int) == (ys.length : Int)) = false := by rw [beq_eq_false_iff_ne]; omega
    have ht' : ((xs.length : Int) != (ys.length : Int)) = true := by rw [bne_iff_ne]; omega
    have hv := Lib.hid (cmpL_len_lt (xs := xs) (ys := ys) hl)
    go_enter Try.func60, Try.ntmps60
    go_wp2
    go_ret
    exact ⟨ret_int (by rw [hv.out]; try rfl), Ext.refl _⟩
  · have HL := Lib.hid hl
    have hm2 : xs.length ≤ 2 ^ 63 - 1 := hm
    have hl1 : xs.length ≤ ys.length := by omega
    have hl2 : ys.length ≤ xs.length := by omega
    have ht : ((xs.length : Int) == (ys.length : Int)) = true := by rw [beq_iff_eq]; omega
    have ht' : ((xs.length : Int) != (ys.length : Int)) = false := by rw [bne_eq_false_iff_eq]; omega
    clear hl
    go_enter Try.func60, Try.ntmps60
    go_wp2
    go_loopw [5] (fun i wr => ∃ k : Nat, k ≤ xs.length ∧ i = .int .i64 ((k : Int) - 1) ∧ xs.drop k = ys.drop k ∧ Ext w wr) (fun i _ => (intOf i + 1).toNat)
    case atStart => exact ⟨xs.length, Nat.le_refl _, rfl, by rw [List.drop_eq_nil_of_le (by omega), List.drop_eq_nil_of_le (by omega)], Ext.refl _⟩
    case round =>
      obtain ⟨k, hk, rfl, hdr, hext⟩ := hrel
      have Hd := Lib.hid hdr
      clear hdr
      by_cases h0 : k = 0
      · subst h0
        have he := Lib.hid (show cmpL xs ys = 0 by have := Hd.out; simp at this; rw [this, cmpL_self])
        go_wp2
        go_ret
        exact ⟨ret_int he.out.symm, hext⟩
      · obtain ⟨j, rfl⟩ : ∃ j, k = j + 1 := ⟨k - 1, by omega⟩
        obtain ⟨b, off, rfl, hb, hc1⟩ := (hx.ext hext).at_ (i := j) (by omega)
        obtain ⟨b', off', rfl, hb', hc2⟩ := (hy.ext hext).at_ (i := j) (by omega)
        rw [show (((j + 1 : Nat) : Int) - 1) = (j : Int) by omega]
        have hlt := Lib.hid (cmpL_lt hx.1 HL.out j (by omega) (by omega) Hd.out)
        have hgt := Lib.hid (cmpL_gt hy.1 HL.out j (by omega) (by omega) Hd.out)
        have hst := Lib.hid (drop_eq_step j (by omega) (by omega) Hd.out)
        rcases Nat.lt_trichotomy xs[j] ys[j] with hq | hq | hq
        · have ht1 : decide (xs[j] < ys[j]) = true := by simp [hq]
          have Hq := Lib.hid hq
          clear hq
          go_wp2
          go_quiet (fail)
          go_wp2
          go_ret
          exact ⟨ret_int (hlt.out Hq.out).symm, by first | exact hext.drewN _ | exact (hext.drewN _).drewN _⟩
        · have ht1 : decide (xs[j] < ys[j]) = false := by simp; omega
          have ht2 : decide (ys[j] < xs[j]) = false := by simp; omega
          have Hq := Lib.hid hq
          clear hq
          go_wp2
          go_quiet (fail)
          go_wp2
          go_quiet (fail)
          go_wp2
          go_roundw
          case rel => exact ⟨j, by omega, rfl, hst.out Hq.out, by first | exact hext.drewN _ | exact (hext.drewN _).drewN _⟩
          case measure => simp [intOf]
        · have ht1 : decide (xs[j] < ys[j]) = false := by simp; omega
          have ht2 : decide (ys[j] < xs[j]) = true := by simp; omega
          have Hq := Lib.hid hq
          clear hq
          go_wp2
          go_quiet (fail)
          go_wp2
          go_quiet (fail)
          go_wp2
          go_ret
          exact ⟨ret_int (hgt.out Hq.out).symm, by first | exact hext.drewN _ | exact (hext.drewN _).drewN _⟩
  · have ht : ((xs.length : Int) == (ys.length : Int)) = false := by rw [beq_eq_false_iff_ne]; omega
    have ht' : ((xs.length : Int) != (ys.length : Int)) = true := by rw [bne_iff_ne]; omega
    have hv := Lib.hid (cmpL_len_gt (xs := xs) (ys := ys) hl)
    go_enter Try.func60, Try.ntmps60
    go_wp2
    go_ret
    exact ⟨ret_int (by rw [hv.out]; try rfl), Ext.refl _⟩

set_option maxHeartbeats 400000 in
theorem int_compare (hx : Rd w A xs) (hy : Rd w B ys) (hm : xs.length ≤ maxLen) (_hm' : ys.length ≤ maxLen) :
    Calls Try.prog 57 #[.slice A xs.length c, .slice B ys.length d] w fun e w' => e = .returned (.int .i64 (cmpL xs ys)) ∧ Ext w w' := by
  unfold maxLen at hm
  rcases Nat.lt_trichotomy xs.length ys.length with hl | hl | hl
  · have ht : ((xs.length : Int) == (ys.length : Int)) = false := by rw [beq_eq_false_iff_ne]; omega
    have ht' : ((xs.length : Int) != (ys.length : Int)) = true := by rw [bne_iff_ne]; omega
    have hv := Lib.hid (cmpL_len_lt' (xs := xs) (ys := ys) hl)
    go_enter Try.func57, Try.ntmps57
    go_wp2_with (go_at_call 75; refine (cmp_int _ _ _).mono ?_; rintro e w' ⟨rfl, rfl⟩)
    go_ret
    exact ⟨ret_int (by rw [hv.out]), Ext.refl _⟩
  · have HL := Lib.hid hl
    have hm2 : xs.length ≤ 2 ^ 63 - 1 := hm
    have hl1 : xs.length ≤ ys.length := by omega
    have hl2 : ys.length ≤ xs.length := by omega
    have ht : ((xs.length : Int) == (ys.length : Int)) = true := by rw [beq_iff_eq]; omega
    have ht' : ((xs.length : Int) != (ys.length : Int)) = false := by rw [bne_eq_false_iff_eq]; omega
    clear hl
    go_enter Try.func57, Try.ntmps57
    go_wp2
    go_loopw [5] (fun i wr => ∃ k : Nat, k ≤ xs.length ∧ i = .int .i64 ((k : Int) - 1) ∧ xs.drop k = ys.drop k ∧ Ext w wr) (fun i _ => (intOf i + 1).toNat)
    case atStart => exact ⟨xs.length, Nat.le_refl _, rfl, by rw [List.drop_eq_nil_of_le (by omega), List.drop_eq_nil_of_le (by omega)], Ext.refl _⟩
    case round =>
      obtain ⟨k, hk, rfl, hdr, hext⟩ := hrel
      have Hd := Lib.hid hdr
      clear hdr
      by_cases h0 : k = 0
      · subst h0
        have he := Lib.hid (show cmpL xs ys = 0 by have := Hd.out; simp at this; rw [this, cmpL_self])
        go_wp2
        go_ret
        exact ⟨ret_int he.out.symm, hext⟩
      · obtain ⟨j, rfl⟩ : ∃ j, k = j + 1 := ⟨k - 1, by omega⟩
        obtain ⟨b, off, rfl, hb, hc1⟩ := (hx.ext hext).at_ (i := j) (by omega)
        obtain ⟨b', off', rfl, hb', hc2⟩ := (hy.ext hext).at_ (i := j) (by omega)
        rw [show (((j + 1 : Nat) : Int) - 1) = (j : Int) by omega]
        have hne := Lib.hid (cmpL_at hx.1 hy.1 HL.out j (by omega) (by omega) Hd.out)
        have hst := Lib.hid (drop_eq_step j (by omega) (by omega) Hd.out)
        by_cases hq : xs[j] = ys[j]
        · have ht1 : (((xs[j] : Nat) : Int) == ((ys[j] : Nat) : Int)) = true := by rw [beq_iff_eq]; omega
          have ht2 : (((xs[j] : Nat) : Int) != ((ys[j] : Nat) : Int)) = false := by rw [bne_eq_false_iff_eq]; omega
          have Hq := Lib.hid hq
          clear hq
          go_wp2
          go_quiet (fail)
          go_wp2
          go_roundw
          case rel => exact ⟨j, by omega, rfl, hst.out Hq.out, hext.drewN _⟩
          case measure => simp [intOf]
        · have ht1 : (((xs[j] : Nat) : Int) == ((ys[j] : Nat) : Int)) = false := by rw [beq_eq_false_iff_ne]; omega
          have ht2 : (((xs[j] : Nat) : Int) != ((ys[j] : Nat) : Int)) = true := by rw [bne_iff_ne]; omega
          have Hq := Lib.hid hq
          clear hq
          go_wp2
          go_quiet (fail)
          go_wp2
          go_quiet ((go_at_call 76; exact quiet_add_left (cmp_u32 _ _ _)))
          go_wp2
          go_ret
          exact ⟨ret_int (hne.out Hq.out).symm, by first | exact hext.drewN _ | exact (hext.drewN _).drewN _⟩
  · have ht : ((xs.length : Int) == (ys.length : Int)) = false := by rw [beq_eq_false_iff_ne]; omega
    have ht' : ((xs.length : Int) != (ys.length : Int)) = true := by rw [bne_iff_ne]; omega
    have hv := Lib.hid (cmpL_len_gt' (xs := xs) (ys := ys) hl)
    go_enter Try.func57, Try.ntmps57
    go_wp2_with (go_at_call 75; refine (cmp_int _ _ _).mono ?_; rintro e w' ⟨rfl, rfl⟩)
    go_ret
    exact ⟨ret_int (by rw [hv.out]), Ext.refl _⟩
end
end Go.Proofs.Ytmjmcinnbmjpdaa
