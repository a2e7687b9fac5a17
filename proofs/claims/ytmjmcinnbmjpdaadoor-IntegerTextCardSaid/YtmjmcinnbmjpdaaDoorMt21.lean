/- For every integer, in normal form or not, the law IntegerText returns true: Format returns the decimal digits, from which Parse restores the integer, the argument keeps its value, and the examples of the chapter hold. Condition: the five listed tables of Go's library hold what their initialisers lay (tied by the given card). -/
import Derived.Test.YtmjmcinnbmjpdaaDoorMt1
import Derived.Test.YtmjmcinnbmjpdaaDoorMt12
import Derived.Test.YtmjmcinnbmjpdaaDoorMt14
import Derived.Test.YtmjmcinnbmjpdaaDoorMt18
import Derived.Test.YtmjmcinnbmjpdaaDoorMt20
import Derived.Test.YtmjmcinnbmjpdaaDoorRows
import Derived.ProofKit
import Derived.Lib.SmallJoins
import Derived.Test.YtmjmcinnbmjpdaaDoorCards
import Derived.Test.YtmjmcinnbmjpdaaDoorTie
import Derived.LaidMore
import Derived.OpenShut
import Derived.LaidLaws
import Derived.Lay
import Derived.Lib.LaidTab
import Derived.SevenTiedAt
import Derived.Stop.Joined
import Derived.Stop.LaidErr
namespace Go.Proofs.YtmjmcinnbmjpdaaDoor
open Go.RowKit
attribute [local go_sem ↓] Go.wp_at_zero Go.wp_at_succ
theorem ival_nat (s : Bool) (xs : List Nat) : (ival s xs).natAbs = val xs := by unfold ival; cases s <;> simp
theorem itoa_len {s : Bool} {xs : List Nat} (hx : W32 xs) (hl : xs.length ≤ 20) : (Lib.itoa (ival s xs)).length ≤ 300 := by
  have h := fd_len_words hx
  rw [itoa_fd, ival_nat]
  split
  · simp
  · split
    · rw [List.length_cons]; omega
    · omega
theorem ps_itoa (z : Int) : PS (Lib.itoa z) z := by
  rw [itoa_fd]
  obtain ⟨h1, h2⟩ := digs_dec z.natAbs
  by_cases h0 : z = 0
  · rw [if_pos h0]
    refine .inr ⟨fun c hc => ?_, .inl rfl, ?_⟩
    · obtain rfl : c = 48 := by simpa using hc
      exact ⟨by decide, by decide⟩
    · rw [h0]; rfl
  · rw [if_neg h0]
    have hf : fd z.natAbs = Lib.decDigits z.natAbs := by unfold fd; rw [if_neg (by omega)]
    rw [hf]
    split
    · refine .inl ⟨_, rfl, h1, canon_dec _, fun h => ?_, by rw [h2]; omega⟩
      rw [h] at h2
      have : dv [48] = 0 := rfl
      omega
    · exact .inr ⟨h1, canon_dec _, by rw [h2]; omega⟩
section
variable {A : Option Addr} {c n : Nat} {xs : List Nat} {w : World} {s : Bool}
set_option maxHeartbeats 16000000 in
set_option maxRecDepth 100000 in
theorem text_yes (hn : xs.length = n) (hx : Rd w A xs) (hc : n ≤ c) (hcm : c ≤ maxLen) (h1 : n ≤ 20) (hT : TabP w) :
    Calls Tryd.prog 4 #[.agg #[.bool s, .slice A n c]] w fun e w' => e = .returned (.bool true) ∧ Ext w w' := by
  have Hn := Lib.hid hn
  have HA := Lib.hid awake
  clear hn
  go_enter Tryd.func4, Tryd.ntmps4
  go_upto_region 1 with (fail)
  obtain ⟨W0, hW, extW, bx, hzz⟩ := box1 w 24 #[.bool s, .slice A n c]
  rw [← hW]
  clear hW hzz
  go_wp2_with fail
  refine (HA.out _).mono ?_
  rintro e W ⟨rfl, hxt⟩
  replace extW := extW.trans hxt
  replace bx := bx.ext hxt
  clear hxt
  have bx0 := bx.cell 0 (.bool s) rfl
  have bx1 := bx.cell 1 (.slice A n c) rfl
  have hnb := Box.new W 24 #[.bool s, .slice A n c]
  have e1 := (Ext.refl W).alloc (.cells #[.bool s, .slice A n c] 24)
  go_wp2_with fail
  refine (small_yes1 hnb h1).mono ?_
  rintro e W1 ⟨rfl, hxt⟩
  have ES := e1.trans hxt
  clear hnb e1 hxt bx0 bx1
  replace bx := bx.ext ES
  replace extW := extW.trans ES
  replace hx := hx.ext extW
  clear ES
  have bx0 := bx.cell 0 (.bool s) rfl
  have bx1 := bx.cell 1 (.slice A n c) rfl
  go_wp2_with fail
  refine (law_cp Hn.out hx (by omega)).mono ?_
  rintro e W2 ⟨A1, c1, rfl, hr1, hc1, hm1, hx1⟩
  replace bx := bx.ext hx1
  replace extW := extW.trans hx1
  replace hx := hx.ext hx1
  clear hx1 bx0 bx1
  go_wp2_with fail
  refine (int_Format rfl hr1 (by have := Hn.out; omega) hm1 (by have := Hn.out; omega) (hT.ext extW)).mono ?_
  rintro e W3 ⟨str, rfl, hs, hx2⟩
  replace bx := bx.ext hx2
  replace extW := extW.trans hx2
  replace hx := hx.ext hx2
  clear hx2 hr1
  have hsz : str.size ≤ 300 := by rw [Lib.size_eq, hs]; exact itoa_len hx.1 (by have := Hn.out; omega)
  have Hs := Lib.hid hs
  go_wp2_with fail
  refine (int_Parse (by omega)).mono ?_
  intro e W4 hP
  obtain ⟨b4, A4, c4, ps, rfl, hr4, hc4, hm4, hi4, hl4, hx4⟩ : RetIE (ival s xs) 10000 0 W3 e W4 := by
    rcases hP with ⟨z, h1, h2⟩ | ⟨h1, _⟩
    · rw [hs] at h1
      rw [(ps_itoa (ival s xs)).fun h1]
      exact h2
    · exact absurd (ps_itoa (ival s xs)) (by rw [hs] at h1; exact h1 _)
  clear hP hs
  go_upto_region 5 with (fail)
  refine at_world (fun V => Ext W3 V ∧ Box V W4.heap.size 24 #[.bool b4, .slice A4 ps.length c4] ∧ Rd V A4 ps) ⟨hx4.alloc _, Box.new W4 _ _, hr4.ext ((Ext.refl W4).alloc _)⟩ ?_
  generalize W4.heap.size = g4
  clear hx4 hr4
  rintro V ⟨EV, x4, hr4⟩
  replace bx := bx.ext EV
  replace extW := extW.trans EV
  replace hx := hx.ext EV
  clear EV
  go_wp2_with fail
  have ES0 := Ext.refl V
  refine wp_region_held_drew (S := Ext V) (by kernel_rfl) ES0.drew (fun ES => ?_)
  clear ES0
  refine Late.start0 (fun _ _ _ _ _ => ⟨fun h => h, fun h => h⟩) ES (fun hAl hQ => ?_)
  refine Late.take (i := 0) (d := some 23) (v := ?v0_1) rfl rfl (by kernel_rfl) (by kernel_rfl) (by kernel_rfl) (by kernel_rfl) hQ (Or.inl ⟨by rfl, ?y0_1⟩) ?r0_1
  case y0_1 =>
    intro w' hSw
    go_simp
    try with_reducible rfl
  try simp only [Act.put]
  try simp only [List.setIfInBounds_toArray]
  try simp only [List.set_cons_succ]
  try simp only [List.set_cons_zero]
  refine Late.take (i := 1) (d := some 24) (v := ?v1_2) rfl rfl (by kernel_rfl) (by kernel_rfl) (by kernel_rfl) (by kernel_rfl) hQ (Or.inl ⟨by rfl, ?y1_2⟩) ?r1_2
  case y1_2 =>
    intro w' hSw
    have k0 := (bx.ext hSw).cell 0 _ rfl
    have k1 := (bx.ext hSw).cell 1 _ rfl
    go_simp
    try with_reducible rfl
  try simp only [Act.put]
  try simp only [List.setIfInBounds_toArray]
  try simp only [List.set_cons_succ]
  try simp only [List.set_cons_zero]
  refine Late.call (i := 2) rfl (by kernel_rfl) hAl (by kernel_rfl) (by kernel_rfl) (by kernel_rfl) hQ (fun w2 e2 E2 K hK => ?_)
  go_simp
  (go_at_call 17; refine (ref_Format Hn.out (hx.ext E2) hc hcm (by omega)).mono ?_; rintro e wa ⟨str2, rfl, hs2, hxa⟩)
  refine hK.out _ _ hxa ?_
  clear hK K
  try simp only [Act.put]
  try simp only [List.setIfInBounds_toArray]
  try simp only [List.set_cons_succ]
  try simp only [List.set_cons_zero]
  obtain rfl : str = str2 := ByteArray.ext (Array.toList_inj.1 (Hs.out.trans hs2.symm))
  refine Late.take (i := 3) (d := some 26) (v := ?v3_3) rfl rfl (by kernel_rfl) (by kernel_rfl) (by kernel_rfl) (by kernel_rfl) hQ (Or.inl ⟨by rfl, ?y3_3⟩) ?r3_3
  case y3_3 =>
    intro w' hSw
    go_simp
    try with_reducible rfl
  try simp only [Act.put]
  try simp only [List.setIfInBounds_toArray]
  try simp only [List.set_cons_succ]
  try simp only [List.set_cons_zero]
  refine Late.take (i := 4) (d := some 27) (v := ?v4_4) rfl rfl (by kernel_rfl) (by kernel_rfl) (by kernel_rfl) (by kernel_rfl) hQ (Or.inl ⟨by rfl, ?y4_4⟩) ?r4_4
  case y4_4 =>
    intro w' hSw
    go_simp
    try with_reducible rfl
  try simp only [Act.put]
  try simp only [List.setIfInBounds_toArray]
  try simp only [List.set_cons_succ]
  try simp only [List.set_cons_zero]
  refine Late.take (i := 5) (d := some 28) (v := ?v5_5) rfl rfl (by kernel_rfl) (by kernel_rfl) (by kernel_rfl) (by kernel_rfl) hQ (Or.inl ⟨by rfl, ?y5_5⟩) ?r5_5
  case y5_5 =>
    intro w' hSw
    have k0 := (x4.ext hSw).cell 0 _ rfl
    have k1 := (x4.ext hSw).cell 1 _ rfl
    go_simp
    try with_reducible rfl
  try simp only [Act.put]
  try simp only [List.setIfInBounds_toArray]
  try simp only [List.set_cons_succ]
  try simp only [List.set_cons_zero]
  refine Late.take (i := 6) (d := some 29) (v := ?v6_6) rfl rfl (by kernel_rfl) (by kernel_rfl) (by kernel_rfl) (by kernel_rfl) hQ (Or.inl ⟨by rfl, ?y6_6⟩) ?r6_6
  case y6_6 =>
    intro w' hSw
    have k0 := (bx.ext hSw).cell 0 _ rfl
    have k1 := (bx.ext hSw).cell 1 _ rfl
    go_simp
    try with_reducible rfl
  try simp only [Act.put]
  try simp only [List.setIfInBounds_toArray]
  try simp only [List.set_cons_succ]
  try simp only [List.set_cons_zero]
  refine Late.call (i := 7) rfl (by kernel_rfl) hAl (by kernel_rfl) (by kernel_rfl) (by kernel_rfl) hQ (fun w7 e7 E7 K hK => ?_)
  go_simp
  (go_at_call 18; refine (ref_Norm Hn.out (hx.ext E7) hc hcm (by omega)).mono ?_; rintro e wb ⟨b6, A6, c6, ks, rfl, hr6, hc6, hm6, hi6, hl6, hxb⟩)
  refine hK.out _ _ hxb ?_
  clear hK K
  try simp only [Act.put]
  try simp only [List.setIfInBounds_toArray]
  try simp only [List.set_cons_succ]
  try simp only [List.set_cons_zero]
  refine Late.call (i := 8) rfl (by kernel_rfl) hAl (by kernel_rfl) (by kernel_rfl) (by kernel_rfl) hQ (fun w8 e8 E8 K hK => ?_)
  go_simp
  (go_at_call 10; refine (law_same_int rfl rfl (hr4.ext E8) (hr6.ext e8) (by omega) hi4 hi6).mono ?_; rintro e wc ⟨rfl, hxc⟩)
  refine hK.out _ _ hxc ?_
  clear hK K
  try simp only [Act.put]
  try simp only [List.setIfInBounds_toArray]
  try simp only [List.set_cons_succ]
  try simp only [List.set_cons_zero]
  refine Late.take (i := 9) (d := some 32) (v := ?v9_7) rfl rfl (by kernel_rfl) (by kernel_rfl) (by kernel_rfl) (by kernel_rfl) hQ (Or.inl ⟨by rfl, ?y9_7⟩) ?r9_7
  case y9_7 =>
    intro w' hSw
    go_simp
    try with_reducible rfl
  try simp only [Act.put]
  try simp only [List.setIfInBounds_toArray]
  try simp only [List.set_cons_succ]
  try simp only [List.set_cons_zero]
  refine Late.take (i := 10) (d := some 33) (v := ?v10_8) rfl rfl (by kernel_rfl) (by kernel_rfl) (by kernel_rfl) (by kernel_rfl) hQ (Or.inl ⟨by rfl, ?y10_8⟩) ?r10_8
  case y10_8 =>
    intro w' hSw
    go_simp
    try with_reducible rfl
  try simp only [Act.put]
  try simp only [List.setIfInBounds_toArray]
  try simp only [List.set_cons_succ]
  try simp only [List.set_cons_zero]
  refine Late.take (i := 11) (d := some 34) (v := ?v11_9) rfl rfl (by kernel_rfl) (by kernel_rfl) (by kernel_rfl) (by kernel_rfl) hQ (Or.inl ⟨by rfl, ?y11_9⟩) ?r11_9
  case y11_9 =>
    intro w' hSw
    go_simp
    try with_reducible rfl
  try simp only [Act.put]
  try simp only [List.setIfInBounds_toArray]
  try simp only [List.set_cons_succ]
  try simp only [List.set_cons_zero]
  refine Late.take (i := 12) (d := some 35) (v := ?v12_10) rfl rfl (by kernel_rfl) (by kernel_rfl) (by kernel_rfl) (by kernel_rfl) hQ (Or.inl ⟨by rfl, ?y12_10⟩) ?r12_10
  case y12_10 =>
    intro w' hSw
    go_simp
    try with_reducible rfl
  try simp only [Act.put]
  try simp only [List.setIfInBounds_toArray]
  try simp only [List.set_cons_succ]
  try simp only [List.set_cons_zero]
  refine Late.take (i := 13) (d := some 36) (v := ?v13_11) rfl rfl (by kernel_rfl) (by kernel_rfl) (by kernel_rfl) (by kernel_rfl) hQ (Or.inl ⟨by rfl, ?y13_11⟩) ?r13_11
  case y13_11 =>
    intro w' hSw
    go_simp
    try with_reducible rfl
  try simp only [Act.put]
  try simp only [List.setIfInBounds_toArray]
  try simp only [List.set_cons_succ]
  try simp only [List.set_cons_zero]
  refine Late.take (i := 14) (d := some 2) (v := ?v14_12) rfl rfl (by kernel_rfl) (by kernel_rfl) (by kernel_rfl) (by kernel_rfl) hQ (Or.inl ⟨by rfl, ?y14_12⟩) ?r14_12
  case y14_12 =>
    intro w' hSw
    go_simp
    try with_reducible rfl
  try simp only [Act.put]
  try simp only [List.setIfInBounds_toArray]
  try simp only [List.set_cons_succ]
  try simp only [List.set_cons_zero]
  refine Late.done0 (by kernel_rfl) (fun wz ez Ez => ?_)
  clear hAl hQ ES
  go_wp2_with fail
  go_ret
  exact ⟨rfl, extW.trans Ez⟩
set_option maxHeartbeats 1000000 in
theorem text_no (hno : ¬ (n ≤ 20)) :
    Calls Tryd.prog 4 #[.agg #[.bool s, .slice A n c]] w fun e w' => e = .returned (.bool true) ∧ Ext w w' := by
  have HA := Lib.hid awake
  go_enter Tryd.func4, Tryd.ntmps4
  go_upto_region 1 with (fail)
  obtain ⟨W0, hW, extW, bx, hzz⟩ := box1 w 24 #[.bool s, .slice A n c]
  rw [← hW]
  clear hW hzz
  go_wp2_with fail
  refine (HA.out _).mono ?_
  rintro e W ⟨rfl, hxt⟩
  replace extW := extW.trans hxt
  replace bx := bx.ext hxt
  clear hxt
  have bx0 := bx.cell 0 (.bool s) rfl
  have bx1 := bx.cell 1 (.slice A n c) rfl
  have hnb := Box.new W 24 #[.bool s, .slice A n c]
  have e1 := (Ext.refl W).alloc (.cells #[.bool s, .slice A n c] 24)
  go_wp2_with fail
  refine (small_no1 hnb hno).mono ?_
  rintro e W1 ⟨rfl, hxt⟩
  have ES := e1.trans hxt
  clear hnb e1 hxt bx0 bx1
  go_wp2_with fail
  refine (HA.out _).mono ?_
  rintro e W2 ⟨rfl, hxt⟩
  go_wp2_with fail
  go_ret
  exact ⟨rfl, (extW.trans ES).trans hxt⟩
theorem text_any (hn : xs.length = n) (hx : Rd w A xs) (hc : n ≤ c) (hcm : c ≤ maxLen) (hT : TabP w) :
    Calls Tryd.prog 4 #[.agg #[.bool s, .slice A n c]] w fun e w' => e = .returned (.bool true) ∧ Ext w w' := by
  by_cases h : n ≤ 20
  · exact text_yes hn hx hc hcm h hT
  · exact text_no h
end
end Go.Proofs.YtmjmcinnbmjpdaaDoor
namespace Go.Proofs.YtmjmcinnbmjpdaaDoor
open Go.ChangeShapes Go.WideShapes Go.ChangeAt Go.RowKit Go.Joins

theorem Tryd.own : ownKnob Tryd.prog.godebug = none := by kernel_rfl
theorem Tryd.laidOut : laidOutB Tryd.prog = true := by kernel_rfl
theorem Tryd.cellsI : Tryd.prog.cellsOf 24 = 2 := by kernel_rfl
theorem Tryd.cellsW : Tryd.prog.cellsOf 43 = 1 := by kernel_rfl

section
variable {H : Type} {enc : TypeId × Value → H} {W : World} {base : Nat} {held : Bool}
theorem open_words {m : Nat} {v : Value} {y : DataW H × List MemPlace} (h : DataW.trod enc Tryd.prog W base (fun _ => true) held m 22 [v] = some y) :
    ∃ A n c xs, v = .slice A n c ∧ List.length xs = n ∧ Rd W A xs ∧ n ≤ c ∧ c ≤ maxLen := by
  rcases open_ints Tryd.underlying22 Tryd.underlying43 Tryd.cellsW h with ⟨hcs, _⟩ | ⟨a, len, cap, zs, hcs, _, hl, hm, hz, _, hcell, hwf⟩
  · injection hcs with hcs _
    subst hcs
    exact ⟨none, 0, 0, [], rfl, rfl, Rd.nil _ _, Nat.le_refl _, Nat.zero_le _⟩
  · injection hcs with hcs _
    subst hcs
    simp only [if_true] at hz
    have hb : ∀ n ∈ zs, 0 ≤ n ∧ n ≤ 4294967295 := by
      intro n hn
      have := hwf n hn
      simp [Lit.wf, IntKind.min, IntKind.max, IntKind.bits, IntKind.signed] at this
      omega
    refine ⟨some a, len, cap, (zs.take len).map Int.toNat, rfl, by simp; omega, ⟨?_, ?_⟩, hl, hm⟩
    · intro x hx
      obtain ⟨n, hn, rfl⟩ := List.mem_map.1 hx
      have := hb n (List.mem_of_mem_take hn)
      omega
    · intro hne
      have hpos : 0 < zs.length := by
        rcases Nat.eq_zero_or_pos zs.length with h0 | h0
        · exfalso
          apply hne
          have : zs = [] := List.eq_nil_of_length_eq_zero h0
          rw [this]; simp
        · exact h0
      obtain ⟨b, off, spot⟩ := a
      have hc0 := hcell 0 hpos
      have hspot : spot = none := by
        cases spot with
        | none => rfl
        | some q => simp [Addr.add, World.cell?] at hc0; split at hc0 <;> simp at hc0
      subst hspot
      refine ⟨b, off, rfl, cell_lt (p := ⟨b, off, none⟩) (by simpa [Addr.add] using hc0), fun i hi => ?_⟩
      simp only [List.length_map, List.length_take] at hi
      have hc := hcell i (by omega)
      have e1 : (⟨b, off, none⟩ : Addr).add i = ⟨b, off + i, none⟩ := by unfold Addr.add; split <;> simp_all
      rw [e1] at hc
      rw [hc]
      simp only [List.getElem_map, List.getElem_take]
      have hi2 : i < zs.length := by omega
      have e2 : zs.getD i 0 = zs[i] := by simp [List.getD, hi2]
      rw [e2]
      have := hb zs[i] (List.getElem_mem hi2)
      congr 2
      omega
set_option maxRecDepth 100000 in
theorem open_api {r : Reach} {b0 : Nat} {v : Value} {d : DataW H} {p : List MemPlace} (hv : Value.okWide Tryd.prog W r b0 24 v) (h : DataW.Trod enc Tryd.prog W base (fun _ => true) held 24 v d p) :
    ∃ s A n c xs, v = .agg #[.bool s, .slice A n c] ∧ List.length xs = n ∧ Rd W A xs ∧ n ≤ c ∧ c ≤ maxLen := by
  obtain ⟨c0, c1, y0, y1, m, rfl, rfl, rfl, hy0, hy1⟩ := open_agg2 Tryd.underlying24 (by kernel_rfl) Tryd.cellsI hv h
  obtain ⟨s, e0, rfl⟩ := DataW.trod_bool Tryd.underlying4 hy0
  injection e0 with e0 _
  subst e0
  obtain ⟨A, n, c, xs, rfl, h1, h2, h3, h4⟩ := open_words hy1
  exact ⟨s, A, n, c, xs, rfl, h1, h2, h3, h4⟩
end
end Go.Proofs.YtmjmcinnbmjpdaaDoor
namespace Go.Proofs.YtmjmcinnbmjpdaaDoor
open Go.ChangeShapes Go.WideShapes Go.ChangeAt Go.RowKit Go.Joins
set_option maxRecDepth 100000
theorem laidT_tab : Rows.integerTextRow.laid = [("math/bits.deBruijn32tab", Rows.laid_math_bits_deBruijn32tab), ("math/bits.deBruijn64tab", Rows.laid_math_bits_deBruijn64tab), ("internal/strconv.uint64pow10", Lib.tabData .u64 Lib.pow10Tab), ("unicode/utf8.acceptRanges", Rows.laid_unicode_utf8_acceptRanges), ("unicode/utf8.first", Rows.laid_unicode_utf8_first)] := by kernel_rfl
theorem gPow : Tryd.prog.globalNamed "internal/strconv.uint64pow10" = some 1 := by kernel_rfl
theorem tPow : (Tryd.prog.globals[1]?).map (·.type) = some 125 := by kernel_rfl
theorem pow_of_laid {W : World} (h : laidMetH Tryd.prog Rows.integerTextRow.laid W) : TabP W := by
  rw [MakeChecks.laidMetH_plain _ _ _ (by kernel_rfl), laidT_tab] at h
  exact Lib.tabIs_of_head gPow tPow Tryd.underlying125 Tryd.underlying65 (by kernel_rfl) (by kernel_rfl) h.tail.tail
theorem text_lifted (os : Os) (started : os.Started) (H : Type) (enc : TypeId × Value → H) :
    ReturnsInHanded {} Tryd.checked os 4 .any (fun w args => (Rows.integerTextSpec.pre enc Tryd.prog Tryd.f4 [] false w args ∧ laidMetH Tryd.prog Rows.integerTextRow.laid w) ∧ sizedMet enc Tryd.prog Tryd.f4 (OpenSpec.ofChange Rows.integerTextSpec) false w args)
      (Rows.integerTextSpec.post enc Tryd.prog Tryd.f4 false true false false) := by
  refine returnsInHanded_of_change_and (C := Tryd.checked) (X := fun w _ => laidMetH Tryd.prog Rows.integerTextRow.laid w) (fun _ _ _ hh h => h.of_heap hh) Tryd.own started (by kernel_rfl) Tryd.func4
    (ChangeSpec.witness_shaped (enc := enc) (C := Tryd.checked) (os := os) (X := fun w _ => laidMetH Tryd.prog Rows.integerTextRow.laid w) false (World.laidAll Tryd.prog os Rows.integerTextRow.laid) #[.agg #[.bool false, .slice none 0 0]] 8 (World.laidAll_os _ _ _)
      (World.shaped_of_ZipB (by kernel_rfl) (by kernel_rfl)) (by kernel_rfl) (by kernel_rfl) (by kernel_rfl)
      (by rw [MakeChecks.laidMetH_plain _ _ _ (by kernel_rfl)]; exact laidMet_laidAll _ (by kernel_rfl) (by kernel_rfl))) ?_
  intro W base args ds gs before hval0 hW _ _ hL _
  have hval : ∀ (j : Nat) t v, Tryd.f4.params[j]? = some t → args[j]? = some v → Value.okWide Tryd.prog W .any base t v := hval0
  have hW' := hW
  have hlt : ∀ p ∈ before, p.block < W.heap.size := fun p hp => hW.lt p hp
  obtain ⟨p, q, hA0, hV, rfl, _, _⟩ := hW
  have hA : DataW.TrodAll enc Tryd.prog W 0 (fun _ => true) true Tryd.f4.params.toList args.toList ds p := hA0
  rw [Tryd.params4] at hA hval
  obtain ⟨v0, d0, rfl, rfl, h0⟩ := trodAll_one hA
  obtain ⟨rfl, rfl⟩ := trodVars_none hV
  simp only [List.append_nil] at hW' hlt
  obtain ⟨s, A, n, c, xs, rfl, hl0, hr0, hc0, hm0⟩ := open_api (hval 0 24 v0 rfl rfl) h0
  clear hA0 hval0
  refine (text_any hl0 hr0 hc0 hm0 (pow_of_laid hL)).mono fun e W' ⟨he, hext⟩ => ?_
  subst he
  have hb : Below W.heap.size W W' := hext
  have g0 := Below.trod Tryd.laidOut (by kernel_rfl) (of_decide_eq_true (by kernel_rfl)) h0 hb (fun p hp => hlt p hp)
  exact ⟨_, rfl, _, _, _, [], p, [], hW', trodAll_mk1 (shut_bool Tryd.underlying4 true), trodAll_mk1 g0, rfl, Below.frame hb _, fun h => by cases h⟩
theorem text_row_holds : Rows.IntegerTextSaid :=
  OpenClaim.holds_of_wide 4 Tryd.f4 rfl rfl rfl rfl rfl rfl rfl ⟨rfl, rfl, rfl, rfl, rfl⟩ rfl rfl rfl rfl rfl (by kernel_rfl) Tryd.func4 (by kernel_rfl)
    (of_decide_eq_true (by kernel_rfl)) (by unfold Func.isWrapper; first | (rw [if_neg (of_decide_eq_false (by kernel_rfl))]; exact ⟨rfl, rfl⟩) | (rw [if_pos (by decide +kernel)]; kernel_rfl))
    (fun os started H enc _ => text_lifted os started H enc)
theorem text_holds : Rows.IntegerTextCardSaid :=
  Claim7.holds_tied_plain_at .later [] [.data, .data, .data, .data, .pinned] true Rows.integerTextCard.stood.harness false
    text_row_holds (fun _ h => by cases h) (by kernel_rfl) (fun _ h => by cases h) integerText_row_tie rfl ⟨rfl, rfl⟩ (by kernel_rfl) rfl
    (fun f fn hf hfn => by
      obtain rfl : f = 4 := Option.some.inj ((show Tryd.prog.funcNamed "setsquare/setsquarelaw01.IntegerText" = some 4 by kernel_rfl).symm.trans hf) |>.symm
      obtain rfl : fn = Tryd.f4 := (Option.some.inj (Tryd.func4.symm.trans hfn)).symm
      exact ⟨by kernel_rfl, fun j t ht => by
        rw [Tryd.params4] at ht
        have hm : t ∈ [24] := by simpa using Array.mem_of_getElem? ht
        have hall : ([24].all fun u => !Tryd.prog.wantsStandIn u) = true := by kernel_rfl
        exact (show Tryd.prog.wantsStandIn t = false by simpa using List.all_eq_true.1 hall t hm)⟩)
    (by kernel_rfl)
end Go.Proofs.YtmjmcinnbmjpdaaDoor
