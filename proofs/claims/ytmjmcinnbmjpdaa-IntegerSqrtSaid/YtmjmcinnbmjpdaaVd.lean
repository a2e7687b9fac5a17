/- Walks: quotients of any lists of words. -/
import Derived.Test.YtmjmcinnbmjpdaaVc
namespace Go.Proofs.Ytmjmcinnbmjpdaa
open Go.RowKit
section
variable {A B : Option Addr} {c d n m : Nat} {xs ys : List Nat} {w : World} {s t : Bool}
set_option maxHeartbeats 2000000 in
theorem int_divide_word {y : Nat} (hn : xs.length = n) (hx : Rd w A xs) (hy : Rd w B [y]) (hnx : Nrm xs) (hy0 : y ≠ 0) (h2 : 2 < n) (h1 : n ≤ 100000) :
    Calls Try.prog 64 #[.slice A n c, .slice B 1 d] w (Ret2 (fun qs rs => val qs = val xs / y ∧ val rs = val xs % y ∧ Nrm qs ∧ Nrm rs) w) := by
  have hcm1 := Lib.hid (show cmpL xs [y] = 1 from cmpL_len_gt (by simp; omega))
  have hyl := hy.1 y (by simp)
  have hxl := Lib.hid (show xs ≠ [] by rintro rfl; simp at hn; omega)
  have hr32 : val xs % y < 4294967296 := by
    have := Nat.mod_lt (val xs) (show 0 < y by omega)
    omega
  go_enter Try.func64, Try.ntmps64
  go_wp2_with fail
  subst hn
  refine (int_compare A B c d xs [y] w hx hy (by unfold maxLen; omega) (by unfold maxLen; simp)).mono ?_
  rintro e w1 ⟨rfl, hext1⟩
  rw [hcm1.out]
  go_wp2_with fail
  refine (clone rfl (hx.ext hext1) (by omega)).mono ?_
  rintro e w2 ⟨A2, c2, zs, rfl, ho2, hc2, hm2, rfl, hext2⟩
  obtain ⟨g, rfl, hg, hblk⟩ : ∃ g, A2 = some ⟨g, 0, none⟩ ∧ w1.heap.size ≤ g ∧ BlkN w2 g zs := by
    rcases ho2.2 with h | h
    · exact absurd h hxl.out
    · exact h
  obtain ⟨b1, o1, rfl, hb1, cb⟩ := ((hy.ext hext1).ext hext2).at_ (i := 0) (by simp)
  simp only [Nat.add_zero, List.getElem_cons_zero] at cb
  go_wp2_with fail
  refine (int_divideByWord hblk rfl hx.1 (by omega) hyl (by omega)).mono ?_
  rintro e w3 ⟨qs, rfl, hql, hqw, hqb, hqv, hmod⟩
  have ext3 := hmod.ext hext2 hg
  have Hqv := Lib.hid hqv
  clear hqv cb
  go_wp2_with fail
  refine (int_trimN hql (hqb.rd0 hqw) hc2 hm2).mono ?_
  rintro e w4 ⟨rfl, rfl⟩
  go_wp2_with fail
  refine (int_fromUint (val zs % y) (by omega)).mono ?_
  rintro e w5 ⟨A5, c5, rs, rfl, ho5, hc5, hm5, ⟨hv5, hn5, hl5⟩, hext5⟩
  have Hv5 := Lib.hid hv5
  clear hv5
  go_wp2_with fail
  go_ret2
  have hl := trimL_len qs
  refine ⟨_, _, trimL qs, A5, c5, rs, rfl, ?_, ho5.mono (hext1.trans ext3).size, by omega, hm2, hc5, hm5, ⟨by rw [val_trimL]; exact Hqv.out, Hv5.out, Nrm.trimL _, hn5⟩, hext1.trans (ext3.trans hext5)⟩
  rw [trimL_take]
  exact (Own.of_blk (hqb.ext hext5) hqw (Nat.le_trans hext1.size hg)).take _
set_option maxHeartbeats 2000000 in
theorem int_divide_long (hn : xs.length = n) (hm : ys.length = m) (hx : Rd w A xs) (hy : Rd w B ys) (hnx : Nrm xs) (hny : Nrm ys) (hge : val ys ≤ val xs) (h2 : 2 < n) (hm2 : 2 ≤ m) (h1 : n ≤ 9000) :
    Calls Try.prog 64 #[.slice A n c, .slice B m d] w (Ret2 (fun qs rs => val qs = val xs / val ys ∧ val rs = val xs % val ys ∧ Nrm qs ∧ Nrm rs) w) := by
  have hml := len_le hx.1 hny hge
  have hcase : cmpL xs ys = 0 ∨ cmpL xs ys = 1 := by
    rw [cmpL_nrm hx.1 hy.1 hnx hny]
    rcases Nat.lt_or_ge (val ys) (val xs) with h | h
    · exact .inr (cmpI_of_gt h)
    · exact .inl (cmpI_of_eq (by omega))
  have Hml := Lib.hid (show m ≤ n by omega)
  subst hn
  subst hm
  clear hml hge
  rcases hcase with hcm | hcm
  all_goals
    have hcm1 := Lib.hid hcm
    clear hcm
    go_enter Try.func64, Try.ntmps64
    go_wp2_with fail
    refine (int_compare A B c d xs ys w hx hy (by unfold maxLen; omega) (by have := Hml.out; unfold maxLen; omega)).mono ?_
    rintro e w1 ⟨rfl, hext1⟩
    rw [hcm1.out]
    go_wp2_with fail
    refine (int_divideLong rfl rfl (hx.ext hext1) (hy.ext hext1) hny hm2 Hml.out h1).mono ?_
    rintro e w3 ⟨A3, c3, qs, A4, c4, rs, rfl, ho3, ho4, hc3, hm3, hc4, hm4, hP, hext3⟩
    have HP := Lib.hid hP
    clear hP
    go_wp2_with fail
    go_ret2
    exact ⟨A3, c3, qs, A4, c4, rs, rfl, ho3.mono hext1.size, ho4.mono hext1.size, hc3, hm3, hc4, hm4, HP.out, hext1.trans hext3⟩
theorem Ret2.len {e : Ending} {w' : World} (hx : W32 xs) (h : Ret2 (fun qs rs => val qs = val xs / val ys ∧ val rs = val xs % val ys ∧ Nrm qs ∧ Nrm rs) w e w') :
    Ret2 (fun qs rs => val qs = val xs / val ys ∧ val rs = val xs % val ys ∧ Nrm qs ∧ Nrm rs ∧ qs.length ≤ xs.length ∧ rs.length ≤ xs.length) w e w' := by
  obtain ⟨A3, c3, qs, A4, c4, rs, h0, ho3, ho4, hc3, hm3, hc4, hm4, ⟨p1, p2, p3, p4⟩, hext3⟩ := h
  exact ⟨A3, c3, qs, A4, c4, rs, h0, ho3, ho4, hc3, hm3, hc4, hm4, ⟨p1, p2, p3, p4, nrm_len_le hx p3 (by rw [p1]; exact Nat.div_le_self _ _), nrm_len_le hx p4 (by rw [p2]; exact Nat.mod_le _ _)⟩, hext3⟩
theorem divide_ok : DivideOK 9000 := by
  intro A B c d n m xs ys w hn hm hx hy _ _ _ _ hnx hny h0 h1 h2
  rcases Nat.lt_or_ge (val xs) (val ys) with h | h
  · exact int_divide_lt hn hm hx hy hnx hny h (by omega) h2
  · rcases Nat.lt_or_ge 2 n with h3 | h3
    · rcases Nat.lt_or_ge 1 m with h4 | h4
      · exact (int_divide_long hn hm hx hy hnx hny h h3 (by omega) h1).mono fun e w' hr => hr.len hx.1
      · obtain rfl : m = 1 := by omega
        obtain ⟨y, rfl⟩ : ∃ y, ys = [y] := by
          match ys, hm with
          | [y], _ => exact ⟨y, rfl⟩
        have hy0 : y ≠ 0 := by
          rintro rfl
          have := hny.last (by simp)
          simp at this
        have e := val_one y
        exact (int_divide_word (y := y) hn hx hy hnx hy0 h3 (by omega)).mono fun e w' hr => by
          rw [← val_one y] at hr
          exact hr.len hx.1
    · exact int_divide_two hn hm hx hy hnx hny h h0 h3
end
end Go.Proofs.Ytmjmcinnbmjpdaa
