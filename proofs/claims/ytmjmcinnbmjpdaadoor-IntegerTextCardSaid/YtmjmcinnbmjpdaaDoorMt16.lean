/- Walks and laws, part 16. -/
import Derived.Test.YtmjmcinnbmjpdaaDoorMt12
import Derived.Test.YtmjmcinnbmjpdaaDoorMt15
namespace Go.Proofs.YtmjmcinnbmjpdaaDoor
open Go.RowKit
section
variable (s : ByteArray) (w : World)
theorem ten_pow {r : Nat} (h : r ≤ 8) : 10 ^ r ≤ 100000000 := Nat.le_trans (Nat.pow_le_pow_right (by omega) h) (by decide)
theorem made0 {w : World} {c : Nat} (hc : c ≤ maxLen) : Row (w.alloc (.cells (madeCells #[.int .u32 0] c) 43)) w.heap.size (some ⟨w.heap.size, 0, none⟩) c [] := by
  refine ⟨W32.nil, World.ownsRow_made w _ c (Nat.le_refl _) hc ?_⟩
  rw [madeCells_words]
  simp
/-- the state of the groups behind k of n digits. -/
structure PInv (l : List UInt8) (n k : Nat) (zs : List Nat) (gr r : Nat) : Prop where
  len : zs.length ≤ k
  nrm : Nrm zs
  glt : gr < 10 ^ r
  eq : val zs * 10 ^ r + gr = dv (l.take k)
  pos : r = 0 ∨ r + (n - k) % 9 ≤ 9 ∧ (n - k) % 9 ≠ 0
theorem PInv.r8 {l : List UInt8} {n k gr r : Nat} {zs : List Nat} (h : PInv l n k zs gr r) : r ≤ 8 := by
  rcases h.pos with h | ⟨h1, h2⟩ <;> omega
/-- a digit joins the group. -/
theorem PInv.dig {s : ByteArray} {n k gr r : Nat} {zs : List Nat} (h : PInv s.data.toList n k zs gr r) (hk : k < s.size) (hd : Dig s[k]) :
    10 * gr + (s[k].toNat - 48) < 10 ^ (r + 1) ∧ val zs * 10 ^ (r + 1) + (10 * gr + (s[k].toNat - 48)) = dv (s.data.toList.take (k + 1)) := by
  obtain ⟨h1, h2⟩ := hd
  have h3 := h.glt
  have h4 := h.eq
  rw [dv_take s k hk, ← h4, Nat.pow_succ]
  refine ⟨by omega, ?_⟩
  rw [Nat.mul_comm (10 ^ r) 10, ← Nat.mul_assoc, Nat.mul_comm (val zs) 10, Nat.mul_assoc]
  omega
theorem PInv.stay {s : ByteArray} {n k gr r : Nat} {zs : List Nat} (h : PInv s.data.toList n k zs gr r) (hk : k < s.size) (hn : s.size = n) (hd : Dig s[k]) (hm : (n - 1 - k) % 9 ≠ 0) :
    PInv s.data.toList n (k + 1) zs (10 * gr + (s[k].toNat - 48)) (r + 1) := by
  obtain ⟨h1, h2⟩ := h.dig hk hd
  refine ⟨by have := h.len; omega, h.nrm, h1, h2, .inr ?_⟩
  have hp := h.pos
  omega
theorem PInv.flush {s : ByteArray} {n k gr r : Nat} {zs zt : List Nat} (h : PInv s.data.toList n k zs gr r) (hk : k < s.size) (hd : Dig s[k]) (hv : val zt = val zs * 10 ^ (r + 1) + (10 * gr + (s[k].toNat - 48))) (hn : Nrm zt) (hl : zt.length ≤ zs.length + 1) :
    PInv s.data.toList n (k + 1) zt 0 0 := by
  obtain ⟨h1, h2⟩ := h.dig hk hd
  refine ⟨by have := h.len; omega, hn, by simp, ?_, .inl rfl⟩
  rw [hv, h2]; simp
theorem PInv.end_ {s : ByteArray} {n gr r : Nat} {zs : List Nat} (h : PInv s.data.toList n n zs gr r) (hn : s.size = n) : val zs = dv s.data.toList := by
  have hp := h.pos
  rw [Nat.sub_self] at hp
  have hr : r = 0 := by omega
  subst hr
  have h1 := h.glt
  have h2 := h.eq
  rw [List.take_of_length_le (by rw [← Lib.size_eq]; omega)] at h2
  simp at h1 h2
  omega
theorem mk_digits (n : Nat) (hn : n ≤ 100000) (W : World) :
    (Instr.makeSlice 48 (.int .i64 0) (.int .i64 ((n : Int) / 9 + 1))).run Tryd.prog W = .ok (.slice (some ⟨W.heap.size, 0, none⟩) 0 (n / 9 + 1)) (W.alloc (.cells (madeCells #[.int .u32 0] (n / 9 + 1)) 43)) := by
  obtain ⟨i0, hi, hz0, hz1, hz2⟩ := info_parts Tryd.infoW
  have := run_make_rowN (P := Tryd.prog) 48 43 i0 (.int .u32 0) Tryd.underlying48 hi hz0 .i64 .i64 0 (n / 9 + 1) (by omega) (by rw [hz2]; omega) (by omega) W
  rw [hz1, Nat.mul_one] at this
  exact this
set_option maxHeartbeats 2000000 in
theorem parse_digits (hd : Digs s.data.toList) (hs : s.size ≤ 100000) :
    Calls Tryd.prog 37 #[.string s] w (RetL (fun zs => val zs = dv s.data.toList ∧ Nrm zs ∧ zs.length ≤ s.size) w) := by
  have hmk := mk_digits s.size hs
  have HD := Lib.hid hd
  clear hd
  go_enter Tryd.func37, Tryd.ntmps37
  go_wp2
  go_loopw [3, 4, 5, 14] (fun ws gr wt i wr => ∃ (k r p g : Nat) (zs : List Nat) (A : Option Addr) (c : Nat), k ≤ s.size ∧ i = .int .i64 (k : Int) ∧ ws = .slice A zs.length c ∧ gr = .int .u64 (g : Int) ∧ wt = .int .u64 (p : Int) ∧ p = 10 ^ r ∧ PInv s.data.toList s.size k zs g r ∧ Row wr w.heap.size A c zs ∧ Below w.heap.size w wr ∧ w.heap.size ≤ wr.heap.size) (fun _ _ _ i _ => s.size - (intOf i).toNat)
  case atStart => exact ⟨0, 0, 1, 0, [], _, _, by omega, rfl, rfl, rfl, rfl, rfl, ⟨by simp, Nrm.nil, by simp, rfl, .inl rfl⟩, made0 (by unfold maxLen; omega), (Below.refl _ _).alloc (Nat.le_refl _) _, by simp⟩
  case round =>
    obtain ⟨k, r, p, g, zs, A, c, hk, rfl, rfl, rfl, rfl, hp, hinv, hrow, hbel, hbs⟩ := hrel
    have hr8 := hinv.r8
    have hp10 := ten_pow hr8
    have hp0 : 0 < 10 ^ r := Nat.pow_pos (by omega)
    have hgp := hinv.glt
    have hgb : (g : Int) ≤ 100000000 := by omega
    have hpb : (p : Int) ≤ 100000000 := by rw [hp]; omega
    have hp1 : 1 ≤ p := by rw [hp]; omega
    have hzk := hinv.len
    have Hp := Lib.hid hp
    have HI := Lib.hid hinv
    clear hp hinv hp10 hp0 hgp hr8
    by_cases hlt : k < s.size
    · have hdig := digs_at HD.out k hlt
      obtain ⟨h1, h2⟩ := hdig
      have hi1 : (48 : Int) ≤ (s[k].toNat : Int) := by omega
      have hi2 : (s[k].toNat : Int) ≤ 57 := by omega
      have E1 := Lib.hid (show (10 : Int) * (p : Int) = ((10 * p : Nat) : Int) by omega)
      have E2 := Lib.hid (show (10 : Int) * (g : Int) + ((s[k].toNat : Int) - 48) = ((10 * g + (s[k].toNat - 48) : Nat) : Int) by omega)
      by_cases hm : (s.size - 1 - k) % 9 = 0
      · have t1 : (((s.size : Int) - 1 - (k : Int)) % 9 == 0) = true := by rw [beq_iff_eq]; omega
        have Hm := Lib.hid hm
        clear hm
        go_wp2_with fail
        rw [E1.out, E2.out]
        have hk9 := HI.out.r8
        have h10 := ten_pow hk9
        have hdg := HI.out.dig hlt ⟨h1, h2⟩
        have hgl : 10 * g + (s[k].toNat - 48) ≤ 1000000000 := by omega
        refine (app_group hrow hbs rfl (by omega) (by omega) hgl (by omega)).mono ?_
        rintro e w2 ⟨A2, c2, zt, rfl, hrow2, hv2, hn2, hl2, hbel2, hbs2⟩
        have hfl := HI.out.flush hlt ⟨h1, h2⟩ (zt := zt) (by rw [hv2, Hp.out, Nat.pow_succ, Nat.mul_comm 10]) (hn2 HI.out.nrm) hl2
        have HF := Lib.hid hfl
        clear hfl hv2 hn2 hdg h10 hk9
        go_wp2_with fail
        go_roundw
        case rel => exact ⟨k + 1, 0, 1, 0, zt, A2, c2, by omega, by go_num, rfl, rfl, rfl, rfl, HF.out, hrow2, hbel.trans hbel2, hbs2⟩
        case measure => simp [intOf]; omega
      · have t1 : (((s.size : Int) - 1 - (k : Int)) % 9 == 0) = false := by rw [beq_eq_false_iff_ne]; omega
        have Hm := Lib.hid hm
        clear hm
        go_wp2_with fail
        go_roundw
        case rel => exact ⟨k + 1, r + 1, 10 * p, 10 * g + (s[k].toNat - 48), zs, A, c, by omega, by go_num, rfl, congrArg (Value.int .u64) E2.out, congrArg (Value.int .u64) E1.out, by rw [Hp.out, Nat.pow_succ, Nat.mul_comm], HI.out.stay hlt rfl ⟨h1, h2⟩ Hm.out, hrow, hbel, hbs⟩
        case measure => simp [intOf]; omega
    · obtain rfl : k = s.size := by omega
      go_wp2_with fail
      go_ret
      have hc := hrow.cap
      exact ⟨A, c, zs, rfl, hrow.own.rd, hc.1, hc.2, ⟨HI.out.end_ rfl, HI.out.nrm, hzk⟩, hbel⟩
end
end Go.Proofs.YtmjmcinnbmjpdaaDoor
namespace Go.Proofs.YtmjmcinnbmjpdaaDoor
open Go.RowKit
section
variable {w : World}
theorem ext_m0 : (⟨#[45, 48]⟩ : ByteArray).extract 1 (⟨#[45, 48]⟩ : ByteArray).size = ⟨#[48]⟩ := by decide +kernel
theorem cut_m0 (w : World) : Calls Tryd.prog 35 #[.string ⟨#[45, 48]⟩, .string ⟨#[45]⟩] w fun e w' => e = .returned (.tuple #[.string ⟨#[48]⟩, .bool true]) ∧ w = w' := by
  have h := cut_t ⟨#[45, 48]⟩ w (by decide) (by decide) (by decide +kernel)
  rw [ext_m0] at h
  exact h
set_option maxHeartbeats 1000000 in
theorem parse_m0  :
    Calls Tryd.prog 16 #[.string ⟨#[45, 48]⟩] w (RetIE 0 0 2 w) := by
  have hz := Box.new w 24 #[.bool false, .slice none 0 0]
  have z0 := hz.cell 0 (.bool false) rfl
  have z1 := hz.cell 1 (.slice none 0 0) rfl
  have f0 := hz.frozen 0
  have f1 := hz.frozen 1
  clear hz
  have e1 := (Ext.refl w).alloc (.cells #[.bool false, .slice none 0 0] 24)
  go_enter Tryd.func16, Tryd.ntmps16
  go_wp2_with fail
  refine (cut_m0 _).mono ?_
  rintro e w1 ⟨rfl, rfl⟩
  go_wp2_with fail
  refine (dec_0 _).mono ?_
  rintro e w1 ⟨rfl, rfl⟩
  go_wp2_with fail
  exact bodyPost_ret (v := .tuple #[.agg #[.bool false, .slice none 0 0], .int .i64 2]) (by simp [results, Tryd.results16, go_sem, z0, z1]) rfl ⟨false, none, 0, [], rfl, Rd.nil _ _, by simp, by unfold maxLen; omega, IsInt.nil false, by simp, e1⟩

set_option maxHeartbeats 1000000 in
theorem parse_01  :
    Calls Tryd.prog 16 #[.string ⟨#[48, 49]⟩] w (RetIE 0 0 2 w) := by
  have hz := Box.new w 24 #[.bool false, .slice none 0 0]
  have z0 := hz.cell 0 (.bool false) rfl
  have z1 := hz.cell 1 (.slice none 0 0) rfl
  have f0 := hz.frozen 0
  have f1 := hz.frozen 1
  clear hz
  have e1 := (Ext.refl w).alloc (.cells #[.bool false, .slice none 0 0] 24)
  go_enter Tryd.func16, Tryd.ntmps16
  go_wp2_with fail
  refine (cut_f ⟨#[48, 49]⟩ _ (.inr ⟨by decide, by decide, by decide +kernel⟩)).mono ?_
  rintro e w1 ⟨rfl, rfl⟩
  go_wp2_with fail
  refine (dec_01 _).mono ?_
  rintro e w1 ⟨rfl, rfl⟩
  go_wp2_with fail
  exact bodyPost_ret (v := .tuple #[.agg #[.bool false, .slice none 0 0], .int .i64 2]) (by simp [results, Tryd.results16, go_sem, z0, z1]) rfl ⟨false, none, 0, [], rfl, Rd.nil _ _, by simp, by unfold maxLen; omega, IsInt.nil false, by simp, e1⟩

end
end Go.Proofs.YtmjmcinnbmjpdaaDoor
namespace Go.Proofs.YtmjmcinnbmjpdaaDoor
open Go.RowKit
theorem first_of {P : Nat → Prop} : ∀ (n k : Nat), k < n → P k → ∃ f, f ≤ k ∧ P f ∧ ∀ j, j < f → ¬ P j := by
  intro n
  induction n with
  | zero => intro k hk; omega
  | succ n ih =>
    intro k hk hp
    by_cases h : ∃ j, j < k ∧ P j
    · obtain ⟨j, hj, hpj⟩ := h
      obtain ⟨f, hf, h1, h2⟩ := ih j (by omega) hpj
      exact ⟨f, by omega, h1, h2⟩
    · exact ⟨k, Nat.le_refl _, hp, fun j hj hpj => h ⟨j, hj, hpj⟩⟩
theorem bytes_ext {a b : ByteArray} (h : a.data.toList = b.data.toList) : a = b := congrArg ByteArray.mk (Array.toList_inj.1 h)
/-- the integer of a text. -/
def PS (l : List UInt8) (z : Int) : Prop := (∃ t, l = 45 :: t ∧ Digs t ∧ Canon t ∧ t ≠ [48] ∧ z = -(dv t : Int)) ∨ (Digs l ∧ Canon l ∧ z = (dv l : Int))
section
variable {s : ByteArray} {w : World}
theorem get0 {c : UInt8} {t : List UInt8} (h : s.data.toList = c :: t) : ∃ hk : 0 < s.size, s[0] = c ∧ s.size = t.length + 1 := by
  have hl : s.size = t.length + 1 := by rw [Lib.size_eq, h]; rfl
  refine ⟨by omega, ?_, hl⟩
  have e : s[0]'(by omega) = s.data.toList[0]'(by rw [h]; simp) := rfl
  rw [e]
  simp [h]
theorem dec_true (hs : s.size ≤ 100000000) (hd : Digs s.data.toList) (hc : Canon s.data.toList) : Calls Tryd.prog 36 #[.string s] w fun e w' => e = .returned (.bool true) ∧ w = w' := by
  rcases hc with h | ⟨c, t, h, hc⟩
  · obtain rfl : s = ⟨#[48]⟩ := bytes_ext h
    exact dec_0 w
  · obtain ⟨hk, h0, hl⟩ := get0 h
    exact dec_y s w hs hd (by omega) (by rw [h0]; exact fun e => hc (u8_48 e))
theorem dec_false (hs : s.size ≤ 100000000) (h : ¬ (Digs s.data.toList ∧ Canon s.data.toList)) : Calls Tryd.prog 36 #[.string s] w fun e w' => e = .returned (.bool false) ∧ w = w' := by
  by_cases hd : Digs s.data.toList
  · have hc : ¬ Canon s.data.toList := fun hc => h ⟨hd, hc⟩
    match hl : s.data.toList with
    | [] => exact dec_e s w hs hd (by rw [Lib.size_eq, hl]; rfl)
    | c :: t =>
      obtain ⟨hk, h0, hsz⟩ := get0 hl
      by_cases hc48 : c = 48
      · subst hc48
        have ht : t ≠ [] := by rintro rfl; exact hc (.inl hl)
        have := List.length_pos_iff.2 ht
        exact dec_z s w hs hd (by omega) (by rw [h0]; rfl)
      · exact absurd (.inr ⟨c, t, hl, hc48⟩) hc
  · have hex : ∃ k, ∃ hk : k < s.size, ¬ Dig s[k] := by
      refine Classical.byContradiction fun hno => hd (digs_of fun k hk => Classical.byContradiction fun hn => hno ⟨k, hk, hn⟩)
    obtain ⟨k, hk, hn⟩ := hex
    obtain ⟨f, hf, h1, h2⟩ := first_of (P := fun k => ∃ hk : k < s.size, ¬ Dig s[k]) (k + 1) k (by omega) ⟨hk, hn⟩
    obtain ⟨hfs, hfn⟩ := h1
    exact dec_nd s w f hfs hs (fun j hj hjf => Classical.byContradiction fun hn => h2 j hjf ⟨hj, hn⟩) hfn
theorem cut_neg {t : List UInt8} (hs : s.size ≤ 100000000) (h : s.data.toList = 45 :: t) : (s.extract 1 s.size).data.toList = t ∧ (s.extract 1 s.size).size = t.length ∧
    Calls Tryd.prog 35 #[.string s, .string ⟨#[45]⟩] w fun e w' => e = .returned (.tuple #[.string (s.extract 1 s.size), .bool true]) ∧ w = w' := by
  have hl : s.size = t.length + 1 := by rw [Lib.size_eq, h]; rfl
  have he : (s.extract 1 s.size).data.toList = t := by
    rw [Lib.extract_data, h, hl]
    simp
  refine ⟨he, by rw [Lib.size_eq, he], cut_t s w (by omega) hs ?_⟩
  rw [Lib.extract_toList, h]
  rfl
theorem cut_pos (hs : s.size ≤ 100000000) (h : ∀ t, s.data.toList ≠ 45 :: t) : Calls Tryd.prog 35 #[.string s, .string ⟨#[45]⟩] w fun e w' => e = .returned (.tuple #[.string s, .bool false]) ∧ w = w' := by
  refine cut_f s w ?_
  match hl : s.data.toList with
  | [] => exact .inl (by rw [Lib.size_eq, hl]; rfl)
  | c :: t =>
    have hsz : s.size = t.length + 1 := by rw [Lib.size_eq, hl]; rfl
    refine .inr ⟨by omega, hs, ?_⟩
    rw [Lib.extract_toList, hl, beq_eq_false_iff_ne]
    intro e
    simp at e
    exact h t (by rw [hl, e])
set_option maxHeartbeats 1000000 in
theorem parse_pe (hs : s.size ≤ 60000) (hp : ∀ t, s.data.toList ≠ 45 :: t) (hn : ¬ (Digs s.data.toList ∧ Canon s.data.toList)) : Calls Tryd.prog 16 #[.string s] w (RetIE 0 0 2 w) := by
  have HC := Lib.hid (fun w => cut_pos (w := w) (s := s) (by omega) hp)
  have HN := Lib.hid hn
  clear hp hn
  have hz := Box.new w 24 #[.bool false, .slice none 0 0]
  have z0 := hz.cell 0 (.bool false) rfl
  have z1 := hz.cell 1 (.slice none 0 0) rfl
  have f0 := hz.frozen 0
  have f1 := hz.frozen 1
  have e1 := (Ext.refl w).alloc (.cells #[.bool false, .slice none 0 0] 24)
  clear hz
  go_enter Tryd.func16, Tryd.ntmps16
  go_wp2_with fail
  refine (HC.out _).mono ?_
  rintro e w1 ⟨rfl, rfl⟩
  go_wp2_with fail
  refine (dec_false (by omega) HN.out).mono ?_
  rintro e w1 ⟨rfl, rfl⟩
  go_wp2_with fail
  exact bodyPost_ret (v := .tuple #[.agg #[.bool false, .slice none 0 0], .int .i64 2]) (by simp [results, Tryd.results16, go_sem, z0, z1]) rfl ⟨false, none, 0, [], rfl, Rd.nil _ _, by simp, by unfold maxLen; omega, IsInt.nil false, by simp, e1⟩
set_option maxHeartbeats 1000000 in
theorem parse_ne (hs : s.size ≤ 60000) {t : List UInt8} (hp : s.data.toList = 45 :: t) (hn : ¬ (Digs t ∧ Canon t)) : Calls Tryd.prog 16 #[.string s] w (RetIE 0 0 2 w) := by
  obtain ⟨hx, hl, _⟩ := cut_neg (w := w) (by omega) hp
  have HC := Lib.hid (fun w => (cut_neg (w := w) (s := s) (by omega) hp).2.2)
  have hsz : (s.extract 1 s.size).size ≤ 60000 := by rw [hl]; have := congrArg List.length hp; rw [← Lib.size_eq] at this; simp at this; omega
  have HN := Lib.hid (show ¬ (Digs (s.extract 1 s.size).data.toList ∧ Canon (s.extract 1 s.size).data.toList) by rw [hx]; exact hn)
  clear hp hn hx hl
  have hz := Box.new w 24 #[.bool false, .slice none 0 0]
  have z0 := hz.cell 0 (.bool false) rfl
  have z1 := hz.cell 1 (.slice none 0 0) rfl
  have f0 := hz.frozen 0
  have f1 := hz.frozen 1
  have e1 := (Ext.refl w).alloc (.cells #[.bool false, .slice none 0 0] 24)
  clear hz
  go_enter Tryd.func16, Tryd.ntmps16
  go_wp2_with fail
  refine (HC.out _).mono ?_
  rintro e w1 ⟨rfl, rfl⟩
  go_wp2_with fail
  refine (dec_false (by omega) HN.out).mono ?_
  rintro e w1 ⟨rfl, rfl⟩
  go_wp2_with fail
  exact bodyPost_ret (v := .tuple #[.agg #[.bool false, .slice none 0 0], .int .i64 2]) (by simp [results, Tryd.results16, go_sem, z0, z1]) rfl ⟨false, none, 0, [], rfl, Rd.nil _ _, by simp, by unfold maxLen; omega, IsInt.nil false, by simp, e1⟩
set_option maxHeartbeats 1000000 in
theorem parse_n0 (hs : s.size ≤ 60000) (hp : s.data.toList = 45 :: [48]) : Calls Tryd.prog 16 #[.string s] w (RetIE 0 0 2 w) := by
  obtain ⟨hx, hl, _⟩ := cut_neg (w := w) (by omega) hp
  have HC := Lib.hid (fun w => (cut_neg (w := w) (s := s) (by omega) hp).2.2)
  have hsz : (s.extract 1 s.size).size ≤ 60000 := by rw [hl]; simp
  have HX := Lib.hid hx
  have t1 : ((s.extract 1 s.size).toList == [48]) = true := by rw [Lib.toList_data, hx]; rfl
  have T1 := Lib.hid t1
  clear hp hx hl t1
  have hz := Box.new w 24 #[.bool false, .slice none 0 0]
  have z0 := hz.cell 0 (.bool false) rfl
  have z1 := hz.cell 1 (.slice none 0 0) rfl
  have f0 := hz.frozen 0
  have f1 := hz.frozen 1
  have e1 := (Ext.refl w).alloc (.cells #[.bool false, .slice none 0 0] 24)
  clear hz
  go_enter Tryd.func16, Tryd.ntmps16
  go_wp2_with fail
  refine (HC.out _).mono ?_
  rintro e w1 ⟨rfl, rfl⟩
  go_wp2_with fail
  refine (dec_true (by omega) (by rw [HX.out]; intro c hc; rw [List.mem_singleton.1 hc]; exact ⟨by decide, by decide⟩) (by rw [HX.out]; exact .inl rfl)).mono ?_
  rintro e w1 ⟨rfl, rfl⟩
  have t1 := T1.out
  go_wp2_with fail
  exact bodyPost_ret (v := .tuple #[.agg #[.bool false, .slice none 0 0], .int .i64 2]) (by simp [results, Tryd.results16, go_sem, z0, z1]) rfl ⟨false, none, 0, [], rfl, Rd.nil _ _, by simp, by unfold maxLen; omega, IsInt.nil false, by simp, e1⟩
set_option maxHeartbeats 1000000 in
theorem parse_p (hs : s.size ≤ 60000) (hp : ∀ t, s.data.toList ≠ 45 :: t) (hd : Digs s.data.toList) (hc : Canon s.data.toList) {z : Int} (hzz : z = (dv s.data.toList : Int)) : Calls Tryd.prog 16 #[.string s] w (RetIE z s.size 0 w) := by
  have HC := Lib.hid (fun w => cut_pos (w := w) (s := s) (by omega) hp)
  have HD := Lib.hid (And.intro hd hc)
  have Hz := Lib.hid hzz
  have hsz : s.size ≤ 60000 := hs
  clear hp hd hc hzz
  have hz := Box.new w 24 #[.bool false, .slice none 0 0]
  have z0 := hz.cell 0 (.bool false) rfl
  have z1 := hz.cell 1 (.slice none 0 0) rfl
  have f0 := hz.frozen 0
  have f1 := hz.frozen 1
  have e1 := (Ext.refl w).alloc (.cells #[.bool false, .slice none 0 0] 24)
  have hg0 : w.heap.size ≤ w.heap.size := Nat.le_refl _
  go_enter Tryd.func16, Tryd.ntmps16
  go_wp2_with fail
  refine (HC.out _).mono ?_
  rintro e w1 ⟨rfl, rfl⟩
  go_wp2_with fail
  refine (dec_true (by omega) HD.out.1 HD.out.2).mono ?_
  rintro e w1 ⟨rfl, rfl⟩
  go_wp2_with fail
  refine (parse_digits s _ HD.out.1 (by omega)).mono ?_
  rintro e w2 ⟨A2, c2, zs, rfl, hr2, hc2, hm2, ⟨hv2, hn2, hl2⟩, hext2⟩
  have Hv2 := Lib.hid hv2
  clear hv2
  go_wp2_with fail
  refine (int_signed rfl hr2 hc2 hm2 hn2).mono ?_
  rintro e w3 ⟨b3, A3, c3, rs, rfl, hr3, hc3, hm3, hi3, hl3, hext3⟩
  have ext3 := hext2.trans hext3
  have bz3 := hz.ext ext3
  clear z0 z1 f0 f1
  have z0 := bz3.cell 0 (.bool false) rfl
  have z1 := bz3.cell 1 (.slice none 0 0) rfl
  have f0 := bz3.frozen 0
  have f1 := bz3.frozen 1
  go_wp2_with fail
  obtain ⟨r1, r2, r3, r4⟩ := fin_pair (b := b3) (n := rs.length) (c := c3) (e1.trans ext3) (Nat.le_refl _) bz3 hr3
  exact bodyPost_ret (v := .tuple #[.agg #[.bool b3, .slice A3 rs.length c3], .int .i64 0]) (by simp [results, Tryd.results16, go_sem, r3, r4]) rfl ⟨b3, A3, c3, rs, rfl, r1, hc3, hm3, by have h := hi3; rw [show ival false zs = z by rw [Hz.out, ← Hv2.out]; rfl] at h; exact h, by omega, r2⟩
set_option maxHeartbeats 1000000 in
theorem parse_n (hs : s.size ≤ 60000) {t : List UInt8} (hp : s.data.toList = 45 :: t) (hd : Digs t) (hc : Canon t) (h0 : t ≠ [48]) {z : Int} (hzz : z = -(dv t : Int)) : Calls Tryd.prog 16 #[.string s] w (RetIE z s.size 0 w) := by
  obtain ⟨hx, hl, _⟩ := cut_neg (w := w) (by omega) hp
  have HC := Lib.hid (fun w => (cut_neg (w := w) (s := s) (by omega) hp).2.2)
  have hsz : (s.extract 1 s.size).size ≤ s.size := by rw [hl]; have := congrArg List.length hp; rw [← Lib.size_eq] at this; simp at this; omega
  have HD : Hid (Digs (s.extract 1 s.size).data.toList ∧ Canon (s.extract 1 s.size).data.toList) := by rw [hx]; exact Lib.hid ⟨hd, hc⟩
  have t1 : ((s.extract 1 s.size).toList == [48]) = false := by rw [Lib.toList_data, hx, beq_eq_false_iff_ne]; exact h0
  have T1 := Lib.hid t1
  rw [← hx] at hzz
  have Hz := Lib.hid hzz
  clear hp hx hl t1 hd hc h0 hzz
  have hz := Box.new w 24 #[.bool false, .slice none 0 0]
  have z0 := hz.cell 0 (.bool false) rfl
  have z1 := hz.cell 1 (.slice none 0 0) rfl
  have f0 := hz.frozen 0
  have f1 := hz.frozen 1
  have e1 := (Ext.refl w).alloc (.cells #[.bool false, .slice none 0 0] 24)
  have hg0 : w.heap.size ≤ w.heap.size := Nat.le_refl _
  go_enter Tryd.func16, Tryd.ntmps16
  go_wp2_with fail
  refine (HC.out _).mono ?_
  rintro e w1 ⟨rfl, rfl⟩
  go_wp2_with fail
  refine (dec_true (by omega) HD.out.1 HD.out.2).mono ?_
  rintro e w1 ⟨rfl, rfl⟩
  have t1 := T1.out
  go_wp2_with fail
  refine (parse_digits (s.extract 1 s.size) _ HD.out.1 (by omega)).mono ?_
  rintro e w2 ⟨A2, c2, zs, rfl, hr2, hc2, hm2, ⟨hv2, hn2, hl2⟩, hext2⟩
  have Hv2 := Lib.hid hv2
  clear hv2
  go_wp2_with fail
  refine (int_signed rfl hr2 hc2 hm2 hn2).mono ?_
  rintro e w3 ⟨b3, A3, c3, rs, rfl, hr3, hc3, hm3, hi3, hl3, hext3⟩
  have ext3 := hext2.trans hext3
  have bz3 := hz.ext ext3
  clear z0 z1 f0 f1
  have z0 := bz3.cell 0 (.bool false) rfl
  have z1 := bz3.cell 1 (.slice none 0 0) rfl
  have f0 := bz3.frozen 0
  have f1 := bz3.frozen 1
  go_wp2_with fail
  obtain ⟨r1, r2, r3, r4⟩ := fin_pair (b := b3) (n := rs.length) (c := c3) (e1.trans ext3) (Nat.le_refl _) bz3 hr3
  exact bodyPost_ret (v := .tuple #[.agg #[.bool b3, .slice A3 rs.length c3], .int .i64 0]) (by simp [results, Tryd.results16, go_sem, r3, r4]) rfl ⟨b3, A3, c3, rs, rfl, r1, hc3, hm3, by have h := hi3; rw [show ival true zs = z by rw [Hz.out, ← Hv2.out]; rfl] at h; exact h, by omega, r2⟩
end
end Go.Proofs.YtmjmcinnbmjpdaaDoor
