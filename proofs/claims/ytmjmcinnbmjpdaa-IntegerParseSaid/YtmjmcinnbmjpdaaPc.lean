/- Walks: parseDigits. -/
import Derived.Test.YtmjmcinnbmjpdaaPb
namespace Go.Proofs.Ytmjmcinnbmjpdaa
open Go.RowKit
section
variable (s : ByteArray) (w : World)
theorem ten_pow {r : Nat} (h : r ≤ 8) : 10 ^ r ≤ 100000000 := Nat.le_trans (Nat.pow_le_pow_right (by omega) h) (by decide)
theorem made0 {w : World} {c : Nat} (hc : c ≤ maxLen) : Row (w.alloc (.cells (madeCells #[.int .u32 0] c) 46)) w.heap.size (some ⟨w.heap.size, 0, none⟩) c [] := by
  refine ⟨W32.nil, World.ownsRow_made w _ c (Nat.le_refl _) hc ?_⟩
  rw [madeCells_words]
  simp
/-- the state of the groups behind k of n digits. -/
structure PInv (l : List UInt8) (n k : Nat) (zs : List Nat) (gr r : Nat) : Prop where
  len : zs.length ≤ k
  nrm : Nrm zs
  glt : gr < 10 ^ r
  eq : val zs * 10 ^ r + gr = dv (l.take k)
  pos : r = 0 ∨ r + (n - k) % 9 ≤ 9 ∧ (n - k) % 9 ≠ 0
theorem PInv.r8 {l : List UInt8} {n k gr r : Nat} {zs : List Nat} (h : PInv l n k zs gr r) : r ≤ 8 := by
  rcases h.pos with h | ⟨h1, h2⟩ <;> omega
/-- a digit joins the group. -/
theorem PInv.dig {s : ByteArray} {n k gr r : Nat} {zs : List Nat} (h : PInv s.data.toList n k zs gr r) (hk : k < s.size) (hd : Dig s[k]) :
    10 * gr + (s[k].toNat - 48) < 10 ^ (r + 1) ∧ val zs * 10 ^ (r + 1) + (10 * gr + (s[k].toNat - 48)) = dv (s.data.toList.take (k + 1)) := by
  obtain ⟨h1, h2⟩ := hd
  have h3 := h.glt
  have h4 := h.eq
  rw [dv_take s k hk, ← h4, Nat.pow_succ]
  refine ⟨by omega, ?_⟩
  rw [Nat.mul_comm (10 ^ r) 10, ← Nat.mul_assoc, Nat.mul_comm (val zs) 10, Nat.mul_assoc]
  omega
theorem PInv.stay {s : ByteArray} {n k gr r : Nat} {zs : List Nat} (h : PInv s.data.toList n k zs gr r) (hk : k < s.size) (hn : s.size = n) (hd : Dig s[k]) (hm : (n - 1 - k) % 9 ≠ 0) :
    PInv s.data.toList n (k + 1) zs (10 * gr + (s[k].toNat - 48)) (r + 1) := by
  obtain ⟨h1, h2⟩ := h.dig hk hd
  refine ⟨by have := h.len; omega, h.nrm, h1, h2, .inr ?_⟩
  have hp := h.pos
  omega
theorem PInv.flush {s : ByteArray} {n k gr r : Nat} {zs zt : List Nat} (h : PInv s.data.toList n k zs gr r) (hk : k < s.size) (hd : Dig s[k]) (hv : val zt = val zs * 10 ^ (r + 1) + (10 * gr + (s[k].toNat - 48))) (hn : Nrm zt) (hl : zt.length ≤ zs.length + 1) :
    PInv s.data.toList n (k + 1) zt 0 0 := by
  obtain ⟨h1, h2⟩ := h.dig hk hd
  refine ⟨by have := h.len; omega, hn, by simp, ?_, .inl rfl⟩
  rw [hv, h2]; simp
theorem PInv.end_ {s : ByteArray} {n gr r : Nat} {zs : List Nat} (h : PInv s.data.toList n n zs gr r) (hn : s.size = n) : val zs = dv s.data.toList := by
  have hp := h.pos
  rw [Nat.sub_self] at hp
  have hr : r = 0 := by omega
  subst hr
  have h1 := h.glt
  have h2 := h.eq
  rw [List.take_of_length_le (by rw [← Lib.size_eq]; omega)] at h2
  simp at h1 h2
  omega
theorem mk_digits (n : Nat) (hn : n ≤ 100000) (W : World) :
    (Instr.makeSlice 48 (.int .i64 0) (.int .i64 ((n : Int) / 9 + 1))).run Try.prog W = .ok (.slice (some ⟨W.heap.size, 0, none⟩) 0 (n / 9 + 1)) (W.alloc (.cells (madeCells #[.int .u32 0] (n / 9 + 1)) 46)) := by
  obtain ⟨i0, hi, hz0, hz1, hz2⟩ := info_parts Try.infoW
  have := run_make_rowN (P := Try.prog) 48 46 i0 (.int .u32 0) Try.underlying48 hi hz0 .i64 .i64 0 (n / 9 + 1) (by omega) (by rw [hz2]; omega) (by omega) W
  rw [hz1, Nat.mul_one] at this
  exact this
set_option maxHeartbeats 2000000 in
theorem parse_digits (hd : Digs s.data.toList) (hs : s.size ≤ 100000) :
    Calls Try.prog 71 #[.string s] w (RetL (fun zs => val zs = dv s.data.toList ∧ Nrm zs ∧ zs.length ≤ s.size) w) := by
  have hmk := mk_digits s.size hs
  have HD := Lib.hid hd
  clear hd
  go_enter Try.func71, Try.ntmps71
  go_wp2
  go_loopw [3, 4, 5, 14] (fun ws gr wt i wr => ∃ (k r p g : Nat) (zs : List Nat) (A : Option Addr) (c : Nat), k ≤ s.size ∧ i = .int .i64 (k : Int) ∧ ws = .slice A zs.length c ∧ gr = .int .u64 (g : Int) ∧ wt = .int .u64 (p : Int) ∧ p = 10 ^ r ∧ PInv s.data.toList s.size k zs g r ∧ Row wr w.heap.size A c zs ∧ Below w.heap.size w wr ∧ w.heap.size ≤ wr.heap.size) (fun _ _ _ i _ => s.size - (intOf i).toNat)
  case atStart => exact ⟨0, 0, 1, 0, [], _, _, by omega, rfl, rfl, rfl, rfl, rfl, ⟨by simp, Nrm.nil, by simp, rfl, .inl rfl⟩, made0 (by unfold maxLen; omega), (Below.refl _ _).alloc (Nat.le_refl _) _, by simp⟩
  case round =>
    obtain ⟨k, r, p, g, zs, A, c, hk, rfl, rfl, rfl, rfl, hp, hinv, hrow, hbel, hbs⟩ := hrel
    have hr8 := hinv.r8
    have hp10 := ten_pow hr8
    have hp0 : 0 < 10 ^ r := Nat.pow_pos (by omega)
    have hgp := hinv.glt
    have hgb : (g : Int) ≤ 100000000 := by omega
    have hpb : (p : Int) ≤ 100000000 := by rw [hp]; omega
    have hp1 : 1 ≤ p := by rw [hp]; omega
    have hzk := hinv.len
    have Hp := Lib.hid hp
    have HI := Lib.hid hinv
    clear hp hinv hp10 hp0 hgp hr8
    by_cases hlt : k < s.size
    · have hdig := digs_at HD.out k hlt
      obtain ⟨h1, h2⟩ := hdig
      have hi1 : (48 : Int) ≤ (s[k].toNat : Int) := by omega
      have hi2 : (s[k].toNat : Int) ≤ 57 := by omega
      have E1 := Lib.hid (show (10 : Int) * (p : Int) = ((10 * p : Nat) : Int) by omega)
      have E2 := Lib.hid (show (10 : Int) * (g : Int) + ((s[k].toNat : Int) - 48) = ((10 * g + (s[k].toNat - 48) : Nat) : Int) by omega)
      by_cases hm : (s.size - 1 - k) % 9 = 0
      · have t1 : (((s.size : Int) - 1 - (k : Int)) % 9 == 0) = true := by rw [beq_iff_eq]; omega
        have Hm := Lib.hid hm
        clear hm
        go_wp2_with fail
        rw [E1.out, E2.out]
        have hk9 := HI.out.r8
        have h10 := ten_pow hk9
        have hdg := HI.out.dig hlt ⟨h1, h2⟩
        have hgl : 10 * g + (s[k].toNat - 48) ≤ 1000000000 := by omega
        refine (app_group hrow hbs rfl (by omega) (by omega) hgl (by omega)).mono ?_
        rintro e w2 ⟨A2, c2, zt, rfl, hrow2, hv2, hn2, hl2, hbel2, hbs2⟩
        have hfl := HI.out.flush hlt ⟨h1, h2⟩ (zt := zt) (by rw [hv2, Hp.out, Nat.pow_succ, Nat.mul_comm 10]) (hn2 HI.out.nrm) hl2
        have HF := Lib.hid hfl
        clear hfl hv2 hn2 hdg h10 hk9
        go_wp2_with fail
        go_roundw
        case rel => exact ⟨k + 1, 0, 1, 0, zt, A2, c2, by omega, by go_num, rfl, rfl, rfl, rfl, HF.out, hrow2, hbel.trans hbel2, hbs2⟩
        case measure => simp [intOf]; omega
      · have t1 : (((s.size : Int) - 1 - (k : Int)) % 9 == 0) = false := by rw [beq_eq_false_iff_ne]; omega
        have Hm := Lib.hid hm
        clear hm
        go_wp2_with fail
        go_roundw
        case rel => exact ⟨k + 1, r + 1, 10 * p, 10 * g + (s[k].toNat - 48), zs, A, c, by omega, by go_num, rfl, congrArg (Value.int .u64) E2.out, congrArg (Value.int .u64) E1.out, by rw [Hp.out, Nat.pow_succ, Nat.mul_comm], HI.out.stay hlt rfl ⟨h1, h2⟩ Hm.out, hrow, hbel, hbs⟩
        case measure => simp [intOf]; omega
    · obtain rfl : k = s.size := by omega
      go_wp2_with fail
      go_ret
      have hc := hrow.cap
      exact ⟨A, c, zs, rfl, hrow.own.rd, hc.1, hc.2, ⟨HI.out.end_ rfl, HI.out.nrm, hzk⟩, hbel⟩
end
end Go.Proofs.Ytmjmcinnbmjpdaa
