/- Walks and laws, a part. -/
import Derived.Test.YtiioodgpkdbndaaGreatDoorM8
import Derived.Test.YtiioodgpkdbndaaGreatDoorM7
import Derived.Lib.IndexLaws
import Derived.Test.YtiioodgpkdbndaaGreatDoorCards
import Derived.Test.YtiioodgpkdbndaaGreatDoorTie
import Derived.LaidMore
import Derived.OpenShut
import Derived.LaidLaws
import Derived.Lay
import Derived.Lib.LaidTab
import Derived.SevenTiedAt
import Derived.Stop.Joined
import Derived.Stop.LaidErr
namespace Go.Proofs.YtiioodgpkdbndaaGreatDoor
open Go.RowKit
attribute [local go_sem ↓] Go.wp_at_zero Go.wp_at_succ
/-- a number, and true. -/
def RetRB (q : Rat) (L : Nat) (w : World) (e : Ending) (w' : World) : Prop :=
  ∃ s A n c t B m d, e = .returned (.tuple #[.agg #[.bool s, .slice A n c, .bool t, .slice B m d], .bool true]) ∧ NR w' q L s A n c t B m d ∧ Ext w w'
/-- no number. -/
def RetRF (w : World) (e : Ending) (w' : World) : Prop := e = .returned (.tuple #[.agg #[.bool false, .slice none 0 0, .bool false, .slice none 0 0], .bool false]) ∧ Ext w w'
theorem repeat_zeros : ∀ n, Digs (Lib.repeatL [48] n) ∧ (Lib.repeatL [48] n).length = n
  | 0 => ⟨(fun c h => by cases h), rfl⟩
  | n + 1 => ⟨(fun c h => by
      rcases List.mem_append.1 h with h | h
      · rw [List.mem_singleton.1 h]; exact ⟨by decide, by decide⟩
      · exact (repeat_zeros n).1 c h), by rw [Lib.repeatL, List.length_append, (repeat_zeros n).2]; simp; omega⟩
theorem repeat_comm : ∀ n, Lib.repeatL [(48 : UInt8)] (n + 1) = Lib.repeatL [48] n ++ [48]
  | 0 => rfl
  | n + 1 => by
    show [48] ++ Lib.repeatL [48] (n + 1) = ([48] ++ Lib.repeatL [48] n) ++ [48]
    rw [repeat_comm n, List.append_assoc]
theorem dv_ten : ∀ n, dv (49 :: Lib.repeatL [48] n) = 10 ^ n
  | 0 => by decide
  | n + 1 => by
    rw [repeat_comm, ← List.cons_append, dv_snoc, dv_ten n, Nat.pow_succ]
    simp
    omega
section
variable {w : World} {L : Nat}
set_option maxHeartbeats 4000000 in
theorem p_parseDecimal (bf af : ByteArray) {LL : Nat} (h1 : bf.size ≤ 1000) (h2 : af.size ≤ 1000) (hb : Digs bf.data.toList) (hc : Canon bf.data.toList) (ha : Digs af.data.toList) (h3 : 1 ≤ af.size) (hLL : max (bf.size + af.size) (1 + af.size) ≤ LL) (hT : Tab w) :
    Calls Tryz.prog 114 #[.string bf, .string af] w (RetRB (mkQ (dv (bf ++ af).data.toList : Int) ((10 ^ af.size : Nat) : Int)) LL w) := by
  have HDB := Lib.hid (show Digs (bf ++ af).data.toList by rw [append_toList]; intro c hc'; rcases List.mem_append.1 hc' with h | h; exact hb c h; exact ha c h)
  have hsb : (bf ++ af).size = bf.size + af.size := ByteArray.size_append
  have HNZ := Lib.hid (show (((10 ^ af.size : Nat) : Int)) ≠ 0 by have := Nat.pow_pos (n := af.size) (show 0 < 10 by decide); omega)
  have HB := Lib.hid (And.intro hb hc)
  have HA := Lib.hid ha
  clear hb hc ha
  go_enter Tryz.func114, Tryz.ntmps114
  go_upto_region 1 with (fail)
  obtain ⟨W, hW, extW, bz, hz⟩ := box1 w 27 #[Value.bool false, Value.slice none 0 0, Value.bool false, Value.slice none 0 0]
  rw [← hW]
  clear hW
  go_wp2_with fail
  refine (nat_t bf _ (by omega) HB.out.1 HB.out.2).mono ?_
  rintro e w1 ⟨rfl, hw1⟩
  subst hw1
  go_wp2_with fail
  refine (dig_t af _ (by omega) HA.out h3).mono ?_
  rintro e w2 ⟨rfl, hw2⟩
  subst hw2
  go_wp2_with fail
  refine (Tryz.strings_Repeat ⟨#[48]⟩ af.size _ (by omega) (by show 1 * af.size ≤ _; omega)).mono ?_
  rintro e w3 ⟨rfl, hx1⟩
  replace hx1 : Ext W w3 := hx1
  obtain ⟨R, hR⟩ : ∃ R : ByteArray, R = ⟨(Lib.repeatL (⟨#[48]⟩ : ByteArray).data.toList af.size).toArray⟩ := ⟨_, rfl⟩
  rw [← hR]
  have hRl : R.data.toList = Lib.repeatL [48] af.size := by rw [hR]
  have hRs : R.size = af.size := by rw [Lib.size_eq, hRl, (repeat_zeros _).2]
  have hRd : Digs (⟨#[49]⟩ ++ R : ByteArray).data.toList := by
    rw [append_toList, hRl]
    intro c hc'
    rcases List.mem_append.1 hc' with h | h
    · rw [List.mem_singleton.1 h]; exact ⟨by decide, by decide⟩
    · exact (repeat_zeros _).1 c h
  have hRv : (dv (⟨#[49]⟩ ++ R : ByteArray).data.toList : Int) = ((10 ^ af.size : Nat) : Int) := by
    rw [append_toList, hRl]
    exact congrArg _ (dv_ten af.size)
  have hsa : (⟨#[49]⟩ ++ R : ByteArray).size = 1 + R.size := ByteArray.size_append
  have HRd := Lib.hid hRd
  have HRv := Lib.hid hRv
  clear hR hRl hRd hRv
  go_wp2_with fail
  refine (p_natural (⟨#[49]⟩ ++ R) _ (L := 1 + af.size) (by omega) HRd.out (by omega)).mono ?_
  rintro e wb ⟨s1, A1, n1, c1, rfl, h6, hx2⟩
  rw [HRv.out] at h6
  clear HRd HRv
  go_upto_region 4 with (fail)
  refine at_world (fun V => Ext W V ∧ Box V wb.heap.size 24 #[.bool s1, .slice A1 n1 c1] ∧ NI V ((10 ^ af.size : Nat) : Int) (1 + af.size) s1 A1 n1 c1) ⟨(hx1.trans hx2).alloc _, Box.new wb _ _, h6.ext ((Ext.refl wb).alloc _)⟩ ?_
  generalize wb.heap.size = g6
  clear h6 hx1 hx2
  rintro V ⟨EV, b6, h6⟩
  replace bz := bz.ext EV
  replace extW := extW.trans EV
  clear EV
  have ES0 := Ext.refl V
  refine wp_region_held_drew (S := Ext V) (by kernel_rfl) ES0.drew (fun ES => ?_)
  clear ES0
  refine Late.start1 (x := ⟨9, 7, 27, #[Value.bool false, Value.slice none 0 0, Value.bool false, Value.slice none 0 0]⟩) (n := 11) ⟨_, rfl, rfl, rfl, fun a w => by go_simp⟩ (fun _ _ _ _ _ => ⟨fun h => h, fun h => h⟩) ES rfl (fun hAl hQ => ?_)
  refine Late.take (i := 0) (d := some 24) (v := ?v0_54) rfl rfl (by kernel_rfl) (by kernel_rfl) (by kernel_rfl) (by kernel_rfl) hQ (Or.inl ⟨by rfl, ?y0_54⟩) ?r0_54
  case y0_54 =>
    intro w' hSw
    go_simp
    try with_reducible rfl
  try simp only [Act.put]
  try simp only [List.setIfInBounds_toArray]
  try simp only [List.set_cons_succ]
  try simp only [List.set_cons_zero]
  refine Late.take (i := 1) (d := some 25) (v := ?v1_55) rfl rfl (by kernel_rfl) (by kernel_rfl) (by kernel_rfl) (by kernel_rfl) hQ (Or.inl ⟨by rfl, ?y1_55⟩) ?r1_55
  case y1_55 =>
    intro w' hSw
    go_simp
    try with_reducible rfl
  try simp only [Act.put]
  try simp only [List.setIfInBounds_toArray]
  try simp only [List.set_cons_succ]
  try simp only [List.set_cons_zero]
  refine Late.take (i := 2) (d := some 26) (v := ?v2_56) rfl rfl (by kernel_rfl) (by kernel_rfl) (by kernel_rfl) (by kernel_rfl) hQ (Or.inl ⟨by rfl, ?y2_56⟩) ?r2_56
  case y2_56 =>
    intro w' hSw
    go_simp
    rw [if_neg (by omega)]
  try simp only [Act.put]
  try simp only [List.setIfInBounds_toArray]
  try simp only [List.set_cons_succ]
  try simp only [List.set_cons_zero]
  refine Late.take (i := 4) (d := some 28) (v := ?v4_57) rfl rfl (by kernel_rfl) (by kernel_rfl) (by kernel_rfl) (by kernel_rfl) hQ (Or.inl ⟨by rfl, ?y4_57⟩) ?r4_57
  case y4_57 =>
    intro w' hSw
    have k00 := (b6.ext hSw).c2
    go_simp
    try with_reducible rfl
  try simp only [Act.put]
  try simp only [List.setIfInBounds_toArray]
  try simp only [List.set_cons_succ]
  try simp only [List.set_cons_zero]
  refine Late.call (i := 3) rfl (by kernel_rfl) hAl (by kernel_rfl) (by kernel_rfl) (by kernel_rfl) hQ (fun w3 e3 E3 K hK => ?_)
  go_simp
  (go_at_call 117; refine (p_natural (bf ++ af) _ (L := bf.size + af.size) (by omega) HDB.out (by omega)).mono ?_; rintro e wk1 ⟨s1, A1, n1, c1, rfl, h1, hx3⟩)
  refine hK.out _ _ hx3 ?_
  clear hK K
  try simp only [Act.put]
  try simp only [List.setIfInBounds_toArray]
  try simp only [List.set_cons_succ]
  try simp only [List.set_cons_zero]
  refine Late.call (i := 5) rfl (by kernel_rfl) hAl (by kernel_rfl) (by kernel_rfl) (by kernel_rfl) hQ (fun w5 e5 E5 K hK => ?_)
  go_simp
  (go_at_call 13; refine (p_Make_nz (h1.ext e5) (h6.ext E5) (by omega) (by omega) HNZ.out (hT.ext (extW.trans E5))).mono ?_; rintro e wk2 ⟨s2, A2, n2, c2, t2, B2, m2, d2, rfl, h2, hx5⟩)
  refine hK.out _ _ hx5 ?_
  clear hK K
  try simp only [Act.put]
  try simp only [List.setIfInBounds_toArray]
  try simp only [List.set_cons_succ]
  try simp only [List.set_cons_zero]
  refine Late.take (i := 6) (d := some 23) (v := ?v6_58) rfl rfl (by kernel_rfl) (by kernel_rfl) (by kernel_rfl) (by kernel_rfl) hQ (Or.inl ⟨by rfl, ?y6_58⟩) ?r6_58
  case y6_58 =>
    intro w' hSw
    go_simp
    try with_reducible rfl
  try simp only [Act.put]
  try simp only [List.setIfInBounds_toArray]
  try simp only [List.set_cons_succ]
  try simp only [List.set_cons_zero]
  refine Late.take (i := 7) (d := some 30) (v := ?v7_59) rfl rfl (by kernel_rfl) (by kernel_rfl) (by kernel_rfl) (by kernel_rfl) hQ (Or.inl ⟨by rfl, ?y7_59⟩) ?r7_59
  case y7_59 =>
    intro w' hSw
    go_simp
    try with_reducible rfl
  try simp only [Act.put]
  try simp only [List.setIfInBounds_toArray]
  try simp only [List.set_cons_succ]
  try simp only [List.set_cons_zero]
  refine Late.take (i := 8) (d := some 31) (v := ?v8_60) rfl rfl (by kernel_rfl) (by kernel_rfl) (by kernel_rfl) (by kernel_rfl) hQ (Or.inl ⟨by rfl, ?y8_60⟩) ?r8_60
  case y8_60 =>
    intro w' hSw
    go_simp
    try with_reducible rfl
  try simp only [Act.put]
  try simp only [List.setIfInBounds_toArray]
  try simp only [List.set_cons_succ]
  try simp only [List.set_cons_zero]
  refine Late.finish1 (hAl _ (by simp)) (by kernel_rfl) (fun wz g5 ez Ez lg5 xb1 => ?_)
  clear hAl hQ ES
  have f10 := xb1.cell 0 (Value.bool false) rfl
  have f20 := xb1.frozen 0
  have f11 := xb1.cell 1 (Value.slice none 0 0) rfl
  have f21 := xb1.frozen 1
  have f12 := xb1.cell 2 (Value.bool false) rfl
  have f22 := xb1.frozen 2
  have f13 := xb1.cell 3 (Value.slice none 0 0) rfl
  have f23 := xb1.frozen 3
  have e4 := fin_quad (s := s2) (A := A2) (n := n2) (c := c2) (t := t2) (B := B2) (m := m2) (d := d2) xb1
  try simp only [Act.put]
  try simp only [List.setIfInBounds_toArray]
  try simp only [List.set_cons_succ]
  try simp only [List.set_cons_zero]
  refine wpAnyH_ready (rs := [10]) (by kernel_rfl) (by simp) (AllReadyH.cons rfl (fun K hK => ?_) AllReadyH.nil)
  go_simp
  refine hK.out _ _ (e4.2.2.1 _ Ez lg5) (fun _ => ?_)
  clear hK K
  try simp only [Act.put]
  try simp only [List.setIfInBounds_toArray]
  try simp only [List.set_cons_succ]
  try simp only [List.set_cons_zero]
  refine wpAnyH_ready (rs := [11]) (by kernel_rfl) (by simp) (AllReadyH.cons rfl (fun K hK => ?_) AllReadyH.nil)
  go_simp
  refine hK.out _ _ (e4.2.2.1 _ Ez lg5) (fun _ => ?_)
  clear hK K
  try simp only [Act.put]
  try simp only [List.setIfInBounds_toArray]
  try simp only [List.set_cons_succ]
  try simp only [List.set_cons_zero]
  refine any_world (fun U => Ext V U ∧ Box U g5 27 #[.bool s2, .slice A2 n2 c2, .bool t2, .slice B2 m2 d2] ∧ NR U (mkQ (dv (bf ++ af).data.toList : Int) ((10 ^ af.size : Nat) : Int)) LL s2 A2 n2 c2 t2 B2 m2 d2) ⟨e4.2.2.1 _ Ez lg5, e4.1, ⟨(e4.2.1 _ _ _ _ _ _ (h2.ext ez).num).le (by omega), (e4.2.1 _ _ _ _ _ _ (h2.ext ez).den).le (by omega)⟩⟩ ?_
  clear e4 f10 f11 f12 f13 f20 f21 f22 f23 xb1 lg5
  rintro U ⟨EU, b7, hR⟩
  refine wpAnyH_done (by kernel_rfl) ?_ _
  replace bz := bz.ext EU
  replace extW := extW.trans EU
  clear EU Ez ez
  have hE := Ext.refl U
  have x0 := b7.cell 0 (.bool s2) rfl
  have x1 := b7.cell 1 (.slice A2 n2 c2) rfl
  have x2 := b7.cell 2 (.bool t2) rfl
  have x3 := b7.cell 3 (.slice B2 m2 d2) rfl
  have z0 := (bz.ext hE).cell 0 _ rfl
  have z1 := (bz.ext hE).cell 1 _ rfl
  have z2 := (bz.ext hE).cell 2 _ rfl
  have z3 := (bz.ext hE).cell 3 _ rfl
  have f0 := (bz.ext hE).frozen 0
  have f1 := (bz.ext hE).frozen 1
  have f2 := (bz.ext hE).frozen 2
  have f3 := (bz.ext hE).frozen 3
  go_wp2_with fail
  obtain ⟨b1, b2, b3, b4⟩ := fin_quad (s := s2) (A := A2) (n := n2) (c := c2) (t := t2) (B := B2) (m := m2) (d := d2) (bz.ext hE)
  have r0 := b1.cell 0 (.bool s2) rfl
  have r1 := b1.cell 1 (.slice A2 n2 c2) rfl
  have r2 := b1.cell 2 (.bool t2) rfl
  have r3 := b1.cell 3 (.slice B2 m2 d2) rfl
  unfold set4 at r0 r1 r2 r3
  refine bodyPost_ret (v := .tuple #[.agg #[.bool s2, .slice A2 n2 c2, .bool t2, .slice B2 m2 d2], .bool true]) (by simp [results, Tryz.results114, go_sem, r0, r1, r2, r3]) rfl ⟨s2, A2, n2, c2, t2, B2, m2, d2, rfl, ⟨b2 _ _ _ _ _ _ hR.num, b2 _ _ _ _ _ _ hR.den⟩, b3 _ (extW.trans hE) (by omega)⟩
set_option maxHeartbeats 4000000 in
theorem p_parseDecimal_no1 (bf af : ByteArray) (h1 : bf.size ≤ 1000) (_h2 : af.size ≤ 1000) (hb : ¬ (Digs bf.data.toList ∧ Canon bf.data.toList)) :
    Calls Tryz.prog 114 #[.string bf, .string af] w (RetRF w) := by
  have HB := Lib.hid hb
  clear hb
  go_enter Tryz.func114, Tryz.ntmps114
  go_upto_region 1 with (fail)
  obtain ⟨W, hW, extW, bz, hz⟩ := box1 w 27 #[Value.bool false, Value.slice none 0 0, Value.bool false, Value.slice none 0 0]
  rw [← hW]
  clear hW
  go_wp2_with fail
  refine (nat_f bf _ (by omega) HB.out).mono ?_
  rintro e w1 ⟨rfl, hw1⟩
  subst hw1
  have hE := Ext.refl W
  have z0 := (bz.ext hE).cell 0 _ rfl
  have z1 := (bz.ext hE).cell 1 _ rfl
  have z2 := (bz.ext hE).cell 2 _ rfl
  have z3 := (bz.ext hE).cell 3 _ rfl
  have f0 := (bz.ext hE).frozen 0
  have f1 := (bz.ext hE).frozen 1
  have f2 := (bz.ext hE).frozen 2
  have f3 := (bz.ext hE).frozen 3
  go_wp2_with fail
  obtain ⟨b1, b2, b3, b4⟩ := fin_quad (s := false) (A := none) (n := 0) (c := 0) (t := false) (B := none) (m := 0) (d := 0) (bz.ext hE)
  have r0 := b1.cell 0 (.bool false) rfl
  have r1 := b1.cell 1 (.slice none 0 0) rfl
  have r2 := b1.cell 2 (.bool false) rfl
  have r3 := b1.cell 3 (.slice none 0 0) rfl
  unfold set4 at r0 r1 r2 r3
  refine bodyPost_ret (v := .tuple #[.agg #[.bool false, .slice none 0 0, .bool false, .slice none 0 0], .bool false]) (by simp [results, Tryz.results114, go_sem, r0, r1, r2, r3]) rfl ⟨rfl, b3 _ (extW.trans hE) (by omega)⟩
set_option maxHeartbeats 4000000 in
theorem p_parseDecimal_no2 (bf af : ByteArray) (h1 : bf.size ≤ 1000) (h2 : af.size ≤ 1000) (hb : Digs bf.data.toList) (hc : Canon bf.data.toList) (ha : ¬ (Digs af.data.toList ∧ af.data.toList ≠ [])) :
    Calls Tryz.prog 114 #[.string bf, .string af] w (RetRF w) := by
  have HB := Lib.hid (And.intro hb hc)
  have HA := Lib.hid ha
  clear hb hc ha
  go_enter Tryz.func114, Tryz.ntmps114
  go_upto_region 1 with (fail)
  obtain ⟨W, hW, extW, bz, hz⟩ := box1 w 27 #[Value.bool false, Value.slice none 0 0, Value.bool false, Value.slice none 0 0]
  rw [← hW]
  clear hW
  go_wp2_with fail
  refine (nat_t bf _ (by omega) HB.out.1 HB.out.2).mono ?_
  rintro e w1 ⟨rfl, hw1⟩
  subst hw1
  go_wp2_with fail
  refine (dig_f af _ (by omega) HA.out).mono ?_
  rintro e w2 ⟨rfl, hw2⟩
  subst hw2
  have hE := Ext.refl W
  have z0 := (bz.ext hE).cell 0 _ rfl
  have z1 := (bz.ext hE).cell 1 _ rfl
  have z2 := (bz.ext hE).cell 2 _ rfl
  have z3 := (bz.ext hE).cell 3 _ rfl
  have f0 := (bz.ext hE).frozen 0
  have f1 := (bz.ext hE).frozen 1
  have f2 := (bz.ext hE).frozen 2
  have f3 := (bz.ext hE).frozen 3
  go_wp2_with fail
  obtain ⟨b1, b2, b3, b4⟩ := fin_quad (s := false) (A := none) (n := 0) (c := 0) (t := false) (B := none) (m := 0) (d := 0) (bz.ext hE)
  have r0 := b1.cell 0 (.bool false) rfl
  have r1 := b1.cell 1 (.slice none 0 0) rfl
  have r2 := b1.cell 2 (.bool false) rfl
  have r3 := b1.cell 3 (.slice none 0 0) rfl
  unfold set4 at r0 r1 r2 r3
  refine bodyPost_ret (v := .tuple #[.agg #[.bool false, .slice none 0 0, .bool false, .slice none 0 0], .bool false]) (by simp [results, Tryz.results114, go_sem, r0, r1, r2, r3]) rfl ⟨rfl, b3 _ (extW.trans hE) (by omega)⟩
set_option maxHeartbeats 4000000 in
theorem p_parseQuotient_no1 (bf af : ByteArray) (h1 : bf.size ≤ 1000) (_h2 : af.size ≤ 1000) (hb : ¬ (Digs bf.data.toList ∧ Canon bf.data.toList)) :
    Calls Tryz.prog 115 #[.string bf, .string af] w (RetRF w) := by
  have HB := Lib.hid hb
  clear hb
  go_enter Tryz.func115, Tryz.ntmps115
  go_upto_region 1 with (fail)
  obtain ⟨W, hW, extW, bz, hz⟩ := box1 w 27 #[Value.bool false, Value.slice none 0 0, Value.bool false, Value.slice none 0 0]
  rw [← hW]
  clear hW
  go_wp2_with fail
  refine (nat_f bf _ (by omega) HB.out).mono ?_
  rintro e w1 ⟨rfl, hw1⟩
  subst hw1
  have hE := Ext.refl W
  have z0 := (bz.ext hE).cell 0 _ rfl
  have z1 := (bz.ext hE).cell 1 _ rfl
  have z2 := (bz.ext hE).cell 2 _ rfl
  have z3 := (bz.ext hE).cell 3 _ rfl
  have f0 := (bz.ext hE).frozen 0
  have f1 := (bz.ext hE).frozen 1
  have f2 := (bz.ext hE).frozen 2
  have f3 := (bz.ext hE).frozen 3
  go_wp2_with fail
  obtain ⟨b1, b2, b3, b4⟩ := fin_quad (s := false) (A := none) (n := 0) (c := 0) (t := false) (B := none) (m := 0) (d := 0) (bz.ext hE)
  have r0 := b1.cell 0 (.bool false) rfl
  have r1 := b1.cell 1 (.slice none 0 0) rfl
  have r2 := b1.cell 2 (.bool false) rfl
  have r3 := b1.cell 3 (.slice none 0 0) rfl
  unfold set4 at r0 r1 r2 r3
  refine bodyPost_ret (v := .tuple #[.agg #[.bool false, .slice none 0 0, .bool false, .slice none 0 0], .bool false]) (by simp [results, Tryz.results115, go_sem, r0, r1, r2, r3]) rfl ⟨rfl, b3 _ (extW.trans hE) (by omega)⟩
set_option maxHeartbeats 4000000 in
theorem p_parseQuotient_no2 (bf af : ByteArray) (h1 : bf.size ≤ 1000) (h2 : af.size ≤ 1000) (hb : Digs bf.data.toList) (hc : Canon bf.data.toList) (ha : ¬ (Digs af.data.toList ∧ Canon af.data.toList)) :
    Calls Tryz.prog 115 #[.string bf, .string af] w (RetRF w) := by
  have HB := Lib.hid (And.intro hb hc)
  have HA := Lib.hid ha
  clear hb hc ha
  go_enter Tryz.func115, Tryz.ntmps115
  go_upto_region 1 with (fail)
  obtain ⟨W, hW, extW, bz, hz⟩ := box1 w 27 #[Value.bool false, Value.slice none 0 0, Value.bool false, Value.slice none 0 0]
  rw [← hW]
  clear hW
  go_wp2_with fail
  refine (nat_t bf _ (by omega) HB.out.1 HB.out.2).mono ?_
  rintro e w1 ⟨rfl, hw1⟩
  subst hw1
  go_wp2_with fail
  refine (nat_f af _ (by omega) HA.out).mono ?_
  rintro e w2 ⟨rfl, hw2⟩
  subst hw2
  have hE := Ext.refl W
  have z0 := (bz.ext hE).cell 0 _ rfl
  have z1 := (bz.ext hE).cell 1 _ rfl
  have z2 := (bz.ext hE).cell 2 _ rfl
  have z3 := (bz.ext hE).cell 3 _ rfl
  have f0 := (bz.ext hE).frozen 0
  have f1 := (bz.ext hE).frozen 1
  have f2 := (bz.ext hE).frozen 2
  have f3 := (bz.ext hE).frozen 3
  go_wp2_with fail
  obtain ⟨b1, b2, b3, b4⟩ := fin_quad (s := false) (A := none) (n := 0) (c := 0) (t := false) (B := none) (m := 0) (d := 0) (bz.ext hE)
  have r0 := b1.cell 0 (.bool false) rfl
  have r1 := b1.cell 1 (.slice none 0 0) rfl
  have r2 := b1.cell 2 (.bool false) rfl
  have r3 := b1.cell 3 (.slice none 0 0) rfl
  unfold set4 at r0 r1 r2 r3
  refine bodyPost_ret (v := .tuple #[.agg #[.bool false, .slice none 0 0, .bool false, .slice none 0 0], .bool false]) (by simp [results, Tryz.results115, go_sem, r0, r1, r2, r3]) rfl ⟨rfl, b3 _ (extW.trans hE) (by omega)⟩
set_option maxHeartbeats 4000000 in
theorem p_parseQuotient_no3 (bf af : ByteArray) (h1 : bf.size ≤ 1000) (h2 : af.size ≤ 1000) (hb : Digs bf.data.toList) (hc : Canon bf.data.toList) (ha : Digs af.data.toList) (hac : Canon af.data.toList) (h3 : (af.toList == [49]) = true) :
    Calls Tryz.prog 115 #[.string bf, .string af] w (RetRF w) := by
  have HB := Lib.hid (And.intro hb hc)
  have HA := Lib.hid (And.intro ha hac)
  clear hb hc ha hac
  go_enter Tryz.func115, Tryz.ntmps115
  go_upto_region 1 with (fail)
  obtain ⟨W, hW, extW, bz, hz⟩ := box1 w 27 #[Value.bool false, Value.slice none 0 0, Value.bool false, Value.slice none 0 0]
  rw [← hW]
  clear hW
  go_wp2_with fail
  refine (nat_t bf _ (by omega) HB.out.1 HB.out.2).mono ?_
  rintro e w1 ⟨rfl, hw1⟩
  subst hw1
  go_wp2_with fail
  refine (nat_t af _ (by omega) HA.out.1 HA.out.2).mono ?_
  rintro e w2 ⟨rfl, hw2⟩
  subst hw2
  have hE := Ext.refl W
  have z0 := (bz.ext hE).cell 0 _ rfl
  have z1 := (bz.ext hE).cell 1 _ rfl
  have z2 := (bz.ext hE).cell 2 _ rfl
  have z3 := (bz.ext hE).cell 3 _ rfl
  have f0 := (bz.ext hE).frozen 0
  have f1 := (bz.ext hE).frozen 1
  have f2 := (bz.ext hE).frozen 2
  have f3 := (bz.ext hE).frozen 3
  go_wp2_with fail
  obtain ⟨b1, b2, b3, b4⟩ := fin_quad (s := false) (A := none) (n := 0) (c := 0) (t := false) (B := none) (m := 0) (d := 0) (bz.ext hE)
  have r0 := b1.cell 0 (.bool false) rfl
  have r1 := b1.cell 1 (.slice none 0 0) rfl
  have r2 := b1.cell 2 (.bool false) rfl
  have r3 := b1.cell 3 (.slice none 0 0) rfl
  unfold set4 at r0 r1 r2 r3
  refine bodyPost_ret (v := .tuple #[.agg #[.bool false, .slice none 0 0, .bool false, .slice none 0 0], .bool false]) (by simp [results, Tryz.results115, go_sem, r0, r1, r2, r3]) rfl ⟨rfl, b3 _ (extW.trans hE) (by omega)⟩
set_option maxHeartbeats 4000000 in
theorem p_parseQuotient_yes (bf af : ByteArray) (h1 : bf.size ≤ 1000) (h2 : af.size ≤ 1000) (hb : Digs bf.data.toList) (hc : Canon bf.data.toList) (ha : Digs af.data.toList) (hac : Canon af.data.toList) (h3 : (af.toList == [49]) = false) (hg : 0 < dv af.data.toList ∧ Nat.gcd (dv bf.data.toList) (dv af.data.toList) = 1) (hT : Tab w) :
    Calls Tryz.prog 115 #[.string bf, .string af] w (RetRB (mkRat (dv bf.data.toList : Int) (dv af.data.toList)) 1000 w) := by
  have HB := Lib.hid (And.intro hb hc)
  have HA := Lib.hid (And.intro ha hac)
  have HG := Lib.hid hg
  clear hb hc ha hac hg
  go_enter Tryz.func115, Tryz.ntmps115
  go_upto_region 1 with (fail)
  obtain ⟨W, hW, extW, bz, hz⟩ := box1 w 27 #[Value.bool false, Value.slice none 0 0, Value.bool false, Value.slice none 0 0]
  rw [← hW]
  clear hW
  go_wp2_with fail
  refine (nat_t bf _ (by omega) HB.out.1 HB.out.2).mono ?_
  rintro e w1 ⟨rfl, hw1⟩
  subst hw1
  go_wp2_with fail
  refine (nat_t af _ (by omega) HA.out.1 HA.out.2).mono ?_
  rintro e w2 ⟨rfl, hw2⟩
  subst hw2
  go_wp2_with fail
  refine (p_natural bf _ (L := 1000) (by omega) HB.out.1 (by omega)).mono ?_
  rintro e wa ⟨s1, A1, n1, c1, rfl, g1, hx1⟩
  go_wp2_with fail
  refine (p_natural af _ (L := 1000) (by omega) HA.out.1 (by omega)).mono ?_
  rintro e wb ⟨s2, A2, n2, c2, rfl, g2, hx2⟩
  go_upto_region 4 with (fail)
  refine at_world (fun V => Ext W V ∧ Box V wb.heap.size 27 #[.bool s1, .slice A1 n1 c1, .bool s2, .slice A2 n2 c2] ∧ NI V (dv bf.data.toList : Int) 1000 s1 A1 n1 c1 ∧ NI V (dv af.data.toList : Int) 1000 s2 A2 n2 c2) ⟨(hx1.trans hx2).alloc _, Box.new wb _ _, (g1.ext hx2).ext ((Ext.refl wb).alloc _), g2.ext ((Ext.refl wb).alloc _)⟩ ?_
  generalize wb.heap.size = g6
  clear g1 g2 hx1 hx2
  rintro V ⟨EV, b6, g1, g2⟩
  replace bz := bz.ext EV
  replace extW := extW.trans EV
  clear EV
  have x0 := b6.cell 0 (.bool s1) rfl
  have x1 := b6.cell 1 (.slice A1 n1 c1) rfl
  have x2 := b6.cell 2 (.bool s2) rfl
  have x3 := b6.cell 3 (.slice A2 n2 c2) rfl
  obtain ⟨xs, k1, k2, k3, k4, k5, k6⟩ := g1.out
  obtain ⟨ys, l1, l2, l3, l4, l5, l6⟩ := g2.out
  have hvq : validQ s1 xs s2 ys = true := by
    unfold validQ
    have e1 := k5.abs
    have e2 := l5.abs
    rw [Int.natAbs_natCast] at e1 e2
    have v1 : validB s1 xs = true := validB_int k5
    have v2 : validB s2 ys = true := validB_int l5
    rw [v1, v2, e1, e2, l5.eq]
    have := HG.out
    simp only [Bool.true_and, Bool.and_eq_true, decide_eq_true_eq]
    omega
  have HV := Lib.hid hvq
  clear hvq
  go_wp2_with fail
  refine (p_ValidRaw ⟨k1, k2, k3, k4⟩ ⟨l1, l2, l3, l4⟩ (by omega) (by omega) (hT.ext extW)).mono ?_
  rintro e wc ⟨rfl, hx3⟩
  rw [HV.out]
  have z0 := (bz.ext hx3).cell 0 _ rfl
  have z1 := (bz.ext hx3).cell 1 _ rfl
  have z2 := (bz.ext hx3).cell 2 _ rfl
  have z3 := (bz.ext hx3).cell 3 _ rfl
  have f0 := (bz.ext hx3).frozen 0
  have f1 := (bz.ext hx3).frozen 1
  have f2 := (bz.ext hx3).frozen 2
  have f3 := (bz.ext hx3).frozen 3
  replace b6 := b6.ext hx3
  clear x0 x1 x2 x3
  have x0 := b6.cell 0 (.bool s1) rfl
  have x1 := b6.cell 1 (.slice A1 n1 c1) rfl
  have x2 := b6.cell 2 (.bool s2) rfl
  have x3 := b6.cell 3 (.slice A2 n2 c2) rfl
  go_wp2_with fail
  have HGo := HG.out
  obtain ⟨q1, q2⟩ := mkRat_parts (dv bf.data.toList : Int) (D := dv af.data.toList) (by omega)
  rw [Int.natAbs_natCast, HGo.2] at q1 q2
  simp only [Int.natCast_one, Int.ediv_one, Nat.div_one] at q1 q2
  obtain ⟨b1, b2, b3, b4⟩ := fin_quad (s := s1) (A := A1) (n := n1) (c := c1) (t := s2) (B := A2) (m := n2) (d := c2) (bz.ext hx3)
  have r0 := b1.cell 0 (.bool s1) rfl
  have r1 := b1.cell 1 (.slice A1 n1 c1) rfl
  have r2 := b1.cell 2 (.bool s2) rfl
  have r3 := b1.cell 3 (.slice A2 n2 c2) rfl
  unfold set4 at r0 r1 r2 r3
  refine bodyPost_ret (v := .tuple #[.agg #[.bool s1, .slice A1 n1 c1, .bool s2, .slice A2 n2 c2], .bool true]) (by simp [results, Tryz.results115, go_sem, r0, r1, r2, r3]) rfl ⟨s1, A1, n1, c1, s2, A2, n2, c2, rfl, ⟨?_, ?_⟩, b3 _ (extW.trans hx3) (by omega)⟩
  · rw [q1]; exact b2 _ _ _ _ _ _ (g1.ext hx3)
  · rw [q2]; exact b2 _ _ _ _ _ _ (g2.ext hx3)
set_option maxHeartbeats 4000000 in
theorem p_parseQuotient_no (bf af : ByteArray) (h1 : bf.size ≤ 1000) (h2 : af.size ≤ 1000) (hb : Digs bf.data.toList) (hc : Canon bf.data.toList) (ha : Digs af.data.toList) (hac : Canon af.data.toList) (h3 : (af.toList == [49]) = false) (hg : ¬ (0 < dv af.data.toList ∧ Nat.gcd (dv bf.data.toList) (dv af.data.toList) = 1)) (hT : Tab w) :
    Calls Tryz.prog 115 #[.string bf, .string af] w (RetRF w) := by
  have HB := Lib.hid (And.intro hb hc)
  have HA := Lib.hid (And.intro ha hac)
  have HG := Lib.hid hg
  clear hb hc ha hac hg
  go_enter Tryz.func115, Tryz.ntmps115
  go_upto_region 1 with (fail)
  obtain ⟨W, hW, extW, bz, hz⟩ := box1 w 27 #[Value.bool false, Value.slice none 0 0, Value.bool false, Value.slice none 0 0]
  rw [← hW]
  clear hW
  go_wp2_with fail
  refine (nat_t bf _ (by omega) HB.out.1 HB.out.2).mono ?_
  rintro e w1 ⟨rfl, hw1⟩
  subst hw1
  go_wp2_with fail
  refine (nat_t af _ (by omega) HA.out.1 HA.out.2).mono ?_
  rintro e w2 ⟨rfl, hw2⟩
  subst hw2
  go_wp2_with fail
  refine (p_natural bf _ (L := 1000) (by omega) HB.out.1 (by omega)).mono ?_
  rintro e wa ⟨s1, A1, n1, c1, rfl, g1, hx1⟩
  go_wp2_with fail
  refine (p_natural af _ (L := 1000) (by omega) HA.out.1 (by omega)).mono ?_
  rintro e wb ⟨s2, A2, n2, c2, rfl, g2, hx2⟩
  go_upto_region 4 with (fail)
  refine at_world (fun V => Ext W V ∧ Box V wb.heap.size 27 #[.bool s1, .slice A1 n1 c1, .bool s2, .slice A2 n2 c2] ∧ NI V (dv bf.data.toList : Int) 1000 s1 A1 n1 c1 ∧ NI V (dv af.data.toList : Int) 1000 s2 A2 n2 c2) ⟨(hx1.trans hx2).alloc _, Box.new wb _ _, (g1.ext hx2).ext ((Ext.refl wb).alloc _), g2.ext ((Ext.refl wb).alloc _)⟩ ?_
  generalize wb.heap.size = g6
  clear g1 g2 hx1 hx2
  rintro V ⟨EV, b6, g1, g2⟩
  replace bz := bz.ext EV
  replace extW := extW.trans EV
  clear EV
  have x0 := b6.cell 0 (.bool s1) rfl
  have x1 := b6.cell 1 (.slice A1 n1 c1) rfl
  have x2 := b6.cell 2 (.bool s2) rfl
  have x3 := b6.cell 3 (.slice A2 n2 c2) rfl
  obtain ⟨xs, k1, k2, k3, k4, k5, k6⟩ := g1.out
  obtain ⟨ys, l1, l2, l3, l4, l5, l6⟩ := g2.out
  have hvq : validQ s1 xs s2 ys = false := by
    unfold validQ
    have e1 := k5.abs
    have e2 := l5.abs
    rw [Int.natAbs_natCast] at e1 e2
    rw [e1, e2, l5.eq]
    have := HG.out
    by_cases h0 : 0 < dv af.data.toList
    · have hd : decide (((Nat.gcd (dv bf.data.toList) (dv af.data.toList) : Nat) : Int) = 1) = false := decide_eq_false (by omega)
      rw [hd]
      simp
    · have hd : decide ((0 : Int) < (dv af.data.toList : Int)) = false := decide_eq_false (by omega)
      rw [hd]
      simp
  have HV := Lib.hid hvq
  clear hvq
  go_wp2_with fail
  refine (p_ValidRaw ⟨k1, k2, k3, k4⟩ ⟨l1, l2, l3, l4⟩ (by omega) (by omega) (hT.ext extW)).mono ?_
  rintro e wc ⟨rfl, hx3⟩
  rw [HV.out]
  have z0 := (bz.ext hx3).cell 0 _ rfl
  have z1 := (bz.ext hx3).cell 1 _ rfl
  have z2 := (bz.ext hx3).cell 2 _ rfl
  have z3 := (bz.ext hx3).cell 3 _ rfl
  have f0 := (bz.ext hx3).frozen 0
  have f1 := (bz.ext hx3).frozen 1
  have f2 := (bz.ext hx3).frozen 2
  have f3 := (bz.ext hx3).frozen 3
  go_wp2_with fail
  obtain ⟨b1, b2, b3, b4⟩ := fin_quad (s := false) (A := none) (n := 0) (c := 0) (t := false) (B := none) (m := 0) (d := 0) (bz.ext hx3)
  have r0 := b1.cell 0 (.bool false) rfl
  have r1 := b1.cell 1 (.slice none 0 0) rfl
  have r2 := b1.cell 2 (.bool false) rfl
  have r3 := b1.cell 3 (.slice none 0 0) rfl
  unfold set4 at r0 r1 r2 r3
  refine bodyPost_ret (v := .tuple #[.agg #[.bool false, .slice none 0 0, .bool false, .slice none 0 0], .bool false]) (by simp [results, Tryz.results115, go_sem, r0, r1, r2, r3]) rfl ⟨rfl, b3 _ (extW.trans hx3) (by omega)⟩
set_option maxHeartbeats 4000000 in
theorem p_unsigned_dec (s bf af : ByteArray) (i : Nat) (q : Rat) (hs : s.size ≤ 100000) (hi : Lib.indexByte s.data.toList 46 = (i : Int)) (hlt : i < s.size) (hbf : s.extract 0 i = bf) (haf : s.extract (i + 1) s.size = af) (hD : ∀ W, Ext w W → Calls Tryz.prog 114 #[.string bf, .string af] W (RetRB q L W)) :
    Calls Tryz.prog 85 #[.string s] w (RetRB q L w) := by
  have HI := Lib.hid hi
  have HD := Lib.hid hD
  clear hi hD
  go_enter Tryz.func85, Tryz.ntmps85
  go_upto_region 1 with (fail)
  obtain ⟨W, hW, extW, bz, hz⟩ := box1 w 27 #[Value.bool false, Value.slice none 0 0, Value.bool false, Value.slice none 0 0]
  rw [← hW]
  clear hW
  go_wp2_with fail
  refine (cut_hit s 46 _ i hs HI.out hlt).mono ?_
  rintro e wa ⟨rfl, hxa⟩
  rw [hbf, haf]
  go_wp2_with fail
  refine (HD.out _ (extW.trans hxa)).mono ?_
  rintro e wb ⟨s2, A2, n2, c2, t2, B2, m2, d2, rfl, hr, hxb⟩
  have hE := hxa.trans hxb
  have z0 := (bz.ext hE).cell 0 _ rfl
  have z1 := (bz.ext hE).cell 1 _ rfl
  have z2 := (bz.ext hE).cell 2 _ rfl
  have z3 := (bz.ext hE).cell 3 _ rfl
  have f0 := (bz.ext hE).frozen 0
  have f1 := (bz.ext hE).frozen 1
  have f2 := (bz.ext hE).frozen 2
  have f3 := (bz.ext hE).frozen 3
  go_wp2_with fail
  obtain ⟨b1, b2, b3, b4⟩ := fin_quad (s := s2) (A := A2) (n := n2) (c := c2) (t := t2) (B := B2) (m := m2) (d := d2) (bz.ext hE)
  have r0 := b1.cell 0 (.bool s2) rfl
  have r1 := b1.cell 1 (.slice A2 n2 c2) rfl
  have r2 := b1.cell 2 (.bool t2) rfl
  have r3 := b1.cell 3 (.slice B2 m2 d2) rfl
  unfold set4 at r0 r1 r2 r3
  refine bodyPost_ret (v := .tuple #[.agg #[.bool s2, .slice A2 n2 c2, .bool t2, .slice B2 m2 d2], .bool true]) (by simp [results, Tryz.results85, go_sem, r0, r1, r2, r3]) rfl ⟨s2, A2, n2, c2, t2, B2, m2, d2, rfl, ⟨b2 _ _ _ _ _ _ hr.num, b2 _ _ _ _ _ _ hr.den⟩, b3 _ (extW.trans hE) (by omega)⟩
set_option maxHeartbeats 4000000 in
theorem p_unsigned_dec_no (s bf af : ByteArray) (i : Nat) (hs : s.size ≤ 100000) (hi : Lib.indexByte s.data.toList 46 = (i : Int)) (hlt : i < s.size) (hbf : s.extract 0 i = bf) (haf : s.extract (i + 1) s.size = af) (hD : ∀ W, Ext w W → Calls Tryz.prog 114 #[.string bf, .string af] W (RetRF W)) :
    Calls Tryz.prog 85 #[.string s] w (RetRF w) := by
  have HI := Lib.hid hi
  have HD := Lib.hid hD
  clear hi hD
  go_enter Tryz.func85, Tryz.ntmps85
  go_upto_region 1 with (fail)
  obtain ⟨W, hW, extW, bz, hz⟩ := box1 w 27 #[Value.bool false, Value.slice none 0 0, Value.bool false, Value.slice none 0 0]
  rw [← hW]
  clear hW
  go_wp2_with fail
  refine (cut_hit s 46 _ i hs HI.out hlt).mono ?_
  rintro e wa ⟨rfl, hxa⟩
  rw [hbf, haf]
  go_wp2_with fail
  refine (HD.out _ (extW.trans hxa)).mono ?_
  rintro e wb ⟨rfl, hxb⟩
  have hE := hxa.trans hxb
  have z0 := (bz.ext hE).cell 0 _ rfl
  have z1 := (bz.ext hE).cell 1 _ rfl
  have z2 := (bz.ext hE).cell 2 _ rfl
  have z3 := (bz.ext hE).cell 3 _ rfl
  have f0 := (bz.ext hE).frozen 0
  have f1 := (bz.ext hE).frozen 1
  have f2 := (bz.ext hE).frozen 2
  have f3 := (bz.ext hE).frozen 3
  go_wp2_with fail
  obtain ⟨b1, b2, b3, b4⟩ := fin_quad (s := false) (A := none) (n := 0) (c := 0) (t := false) (B := none) (m := 0) (d := 0) (bz.ext hE)
  have r0 := b1.cell 0 (.bool false) rfl
  have r1 := b1.cell 1 (.slice none 0 0) rfl
  have r2 := b1.cell 2 (.bool false) rfl
  have r3 := b1.cell 3 (.slice none 0 0) rfl
  unfold set4 at r0 r1 r2 r3
  refine bodyPost_ret (v := .tuple #[.agg #[.bool false, .slice none 0 0, .bool false, .slice none 0 0], .bool false]) (by simp [results, Tryz.results85, go_sem, r0, r1, r2, r3]) rfl ⟨rfl, b3 _ (extW.trans hE) (by omega)⟩
set_option maxHeartbeats 4000000 in
theorem p_unsigned_quo (s bf af : ByteArray) (i : Nat) (q : Rat) (hs : s.size ≤ 100000) (h0 : Lib.indexByte s.data.toList 46 = -1) (hi : Lib.indexByte s.data.toList 47 = (i : Int)) (hlt : i < s.size) (hbf : s.extract 0 i = bf) (haf : s.extract (i + 1) s.size = af) (hD : ∀ W, Ext w W → Calls Tryz.prog 115 #[.string bf, .string af] W (RetRB q L W)) :
    Calls Tryz.prog 85 #[.string s] w (RetRB q L w) := by
  have H0 := Lib.hid h0
  have HI := Lib.hid hi
  have HD := Lib.hid hD
  clear h0 hi hD
  go_enter Tryz.func85, Tryz.ntmps85
  go_upto_region 1 with (fail)
  obtain ⟨W, hW, extW, bz, hz⟩ := box1 w 27 #[Value.bool false, Value.slice none 0 0, Value.bool false, Value.slice none 0 0]
  rw [← hW]
  clear hW
  go_wp2_with fail
  refine (cut_miss s 46 _ H0.out).mono ?_
  rintro e wa ⟨rfl, hxa⟩
  go_wp2_with fail
  refine (cut_hit s 47 _ i hs HI.out hlt).mono ?_
  rintro e wb ⟨rfl, hxb⟩
  rw [hbf, haf]
  go_wp2_with fail
  refine (HD.out _ (extW.trans (hxa.trans hxb))).mono ?_
  rintro e wc ⟨s2, A2, n2, c2, t2, B2, m2, d2, rfl, hr, hxc⟩
  have hE := hxa.trans (hxb.trans hxc)
  have z0 := (bz.ext hE).cell 0 _ rfl
  have z1 := (bz.ext hE).cell 1 _ rfl
  have z2 := (bz.ext hE).cell 2 _ rfl
  have z3 := (bz.ext hE).cell 3 _ rfl
  have f0 := (bz.ext hE).frozen 0
  have f1 := (bz.ext hE).frozen 1
  have f2 := (bz.ext hE).frozen 2
  have f3 := (bz.ext hE).frozen 3
  go_wp2_with fail
  obtain ⟨b1, b2, b3, b4⟩ := fin_quad (s := s2) (A := A2) (n := n2) (c := c2) (t := t2) (B := B2) (m := m2) (d := d2) (bz.ext hE)
  have r0 := b1.cell 0 (.bool s2) rfl
  have r1 := b1.cell 1 (.slice A2 n2 c2) rfl
  have r2 := b1.cell 2 (.bool t2) rfl
  have r3 := b1.cell 3 (.slice B2 m2 d2) rfl
  unfold set4 at r0 r1 r2 r3
  refine bodyPost_ret (v := .tuple #[.agg #[.bool s2, .slice A2 n2 c2, .bool t2, .slice B2 m2 d2], .bool true]) (by simp [results, Tryz.results85, go_sem, r0, r1, r2, r3]) rfl ⟨s2, A2, n2, c2, t2, B2, m2, d2, rfl, ⟨b2 _ _ _ _ _ _ hr.num, b2 _ _ _ _ _ _ hr.den⟩, b3 _ (extW.trans hE) (by omega)⟩
set_option maxHeartbeats 4000000 in
theorem p_unsigned_quo_no (s bf af : ByteArray) (i : Nat) (hs : s.size ≤ 100000) (h0 : Lib.indexByte s.data.toList 46 = -1) (hi : Lib.indexByte s.data.toList 47 = (i : Int)) (hlt : i < s.size) (hbf : s.extract 0 i = bf) (haf : s.extract (i + 1) s.size = af) (hD : ∀ W, Ext w W → Calls Tryz.prog 115 #[.string bf, .string af] W (RetRF W)) :
    Calls Tryz.prog 85 #[.string s] w (RetRF w) := by
  have H0 := Lib.hid h0
  have HI := Lib.hid hi
  have HD := Lib.hid hD
  clear h0 hi hD
  go_enter Tryz.func85, Tryz.ntmps85
  go_upto_region 1 with (fail)
  obtain ⟨W, hW, extW, bz, hz⟩ := box1 w 27 #[Value.bool false, Value.slice none 0 0, Value.bool false, Value.slice none 0 0]
  rw [← hW]
  clear hW
  go_wp2_with fail
  refine (cut_miss s 46 _ H0.out).mono ?_
  rintro e wa ⟨rfl, hxa⟩
  go_wp2_with fail
  refine (cut_hit s 47 _ i hs HI.out hlt).mono ?_
  rintro e wb ⟨rfl, hxb⟩
  rw [hbf, haf]
  go_wp2_with fail
  refine (HD.out _ (extW.trans (hxa.trans hxb))).mono ?_
  rintro e wc ⟨rfl, hxc⟩
  have hE := hxa.trans (hxb.trans hxc)
  have z0 := (bz.ext hE).cell 0 _ rfl
  have z1 := (bz.ext hE).cell 1 _ rfl
  have z2 := (bz.ext hE).cell 2 _ rfl
  have z3 := (bz.ext hE).cell 3 _ rfl
  have f0 := (bz.ext hE).frozen 0
  have f1 := (bz.ext hE).frozen 1
  have f2 := (bz.ext hE).frozen 2
  have f3 := (bz.ext hE).frozen 3
  go_wp2_with fail
  obtain ⟨b1, b2, b3, b4⟩ := fin_quad (s := false) (A := none) (n := 0) (c := 0) (t := false) (B := none) (m := 0) (d := 0) (bz.ext hE)
  have r0 := b1.cell 0 (.bool false) rfl
  have r1 := b1.cell 1 (.slice none 0 0) rfl
  have r2 := b1.cell 2 (.bool false) rfl
  have r3 := b1.cell 3 (.slice none 0 0) rfl
  unfold set4 at r0 r1 r2 r3
  refine bodyPost_ret (v := .tuple #[.agg #[.bool false, .slice none 0 0, .bool false, .slice none 0 0], .bool false]) (by simp [results, Tryz.results85, go_sem, r0, r1, r2, r3]) rfl ⟨rfl, b3 _ (extW.trans hE) (by omega)⟩
set_option maxHeartbeats 4000000 in
theorem p_unsigned_int (s : ByteArray) (hs : s.size ≤ 1000) (h0 : Lib.indexByte s.data.toList 46 = -1) (h1 : Lib.indexByte s.data.toList 47 = -1) (hd : Digs s.data.toList) (hc : Canon s.data.toList) (hL : max s.size 2 ≤ L) :
    Calls Tryz.prog 85 #[.string s] w (RetRB ((dv s.data.toList : Int) : Rat) L w) := by
  have H0 := Lib.hid h0
  have H1 := Lib.hid h1
  have HD := Lib.hid (And.intro hd hc)
  clear h0 h1 hd hc
  go_enter Tryz.func85, Tryz.ntmps85
  go_upto_region 1 with (fail)
  obtain ⟨W, hW, extW, bz, hz⟩ := box1 w 27 #[Value.bool false, Value.slice none 0 0, Value.bool false, Value.slice none 0 0]
  rw [← hW]
  clear hW
  go_wp2_with fail
  refine (cut_miss s 46 _ H0.out).mono ?_
  rintro e wa ⟨rfl, hxa⟩
  go_wp2_with fail
  refine (cut_miss s 47 _ H1.out).mono ?_
  rintro e wb ⟨rfl, hxb⟩
  go_wp2_with fail
  refine (nat_t s _ (by omega) HD.out.1 HD.out.2).mono ?_
  rintro e wc ⟨rfl, hwc⟩
  subst hwc
  go_wp2_with fail
  refine (p_natural s _ (L := s.size) (by omega) HD.out.1 (by omega)).mono ?_
  rintro e wd ⟨s1, A1, n1, c1, rfl, h1, hxd⟩
  go_wp2_with fail
  refine (p_whole h1).mono ?_
  rintro e we ⟨s2, A2, n2, c2, t2, B2, m2, d2, rfl, hr, hxe⟩
  replace hr := hr.le hL
  have hE := hxa.trans (hxb.trans (hxd.trans hxe))
  have z0 := (bz.ext hE).cell 0 _ rfl
  have z1 := (bz.ext hE).cell 1 _ rfl
  have z2 := (bz.ext hE).cell 2 _ rfl
  have z3 := (bz.ext hE).cell 3 _ rfl
  have f0 := (bz.ext hE).frozen 0
  have f1 := (bz.ext hE).frozen 1
  have f2 := (bz.ext hE).frozen 2
  have f3 := (bz.ext hE).frozen 3
  go_wp2_with fail
  obtain ⟨b1, b2, b3, b4⟩ := fin_quad (s := s2) (A := A2) (n := n2) (c := c2) (t := t2) (B := B2) (m := m2) (d := d2) (bz.ext hE)
  have r0 := b1.cell 0 (.bool s2) rfl
  have r1 := b1.cell 1 (.slice A2 n2 c2) rfl
  have r2 := b1.cell 2 (.bool t2) rfl
  have r3 := b1.cell 3 (.slice B2 m2 d2) rfl
  unfold set4 at r0 r1 r2 r3
  refine bodyPost_ret (v := .tuple #[.agg #[.bool s2, .slice A2 n2 c2, .bool t2, .slice B2 m2 d2], .bool true]) (by simp [results, Tryz.results85, go_sem, r0, r1, r2, r3]) rfl ⟨s2, A2, n2, c2, t2, B2, m2, d2, rfl, ⟨b2 _ _ _ _ _ _ hr.num, b2 _ _ _ _ _ _ hr.den⟩, b3 _ (extW.trans hE) (by omega)⟩
set_option maxHeartbeats 4000000 in
theorem p_unsigned_int_no (s : ByteArray) (hs : s.size ≤ 1000) (h0 : Lib.indexByte s.data.toList 46 = -1) (h1 : Lib.indexByte s.data.toList 47 = -1) (hd : ¬ (Digs s.data.toList ∧ Canon s.data.toList)) :
    Calls Tryz.prog 85 #[.string s] w (RetRF w) := by
  have H0 := Lib.hid h0
  have H1 := Lib.hid h1
  have HD := Lib.hid hd
  clear h0 h1 hd
  go_enter Tryz.func85, Tryz.ntmps85
  go_upto_region 1 with (fail)
  obtain ⟨W, hW, extW, bz, hz⟩ := box1 w 27 #[Value.bool false, Value.slice none 0 0, Value.bool false, Value.slice none 0 0]
  rw [← hW]
  clear hW
  go_wp2_with fail
  refine (cut_miss s 46 _ H0.out).mono ?_
  rintro e wa ⟨rfl, hxa⟩
  go_wp2_with fail
  refine (cut_miss s 47 _ H1.out).mono ?_
  rintro e wb ⟨rfl, hxb⟩
  go_wp2_with fail
  refine (nat_f s _ (by omega) HD.out).mono ?_
  rintro e wc ⟨rfl, hwc⟩
  subst hwc
  have hE := hxa.trans hxb
  have z0 := (bz.ext hE).cell 0 _ rfl
  have z1 := (bz.ext hE).cell 1 _ rfl
  have z2 := (bz.ext hE).cell 2 _ rfl
  have z3 := (bz.ext hE).cell 3 _ rfl
  have f0 := (bz.ext hE).frozen 0
  have f1 := (bz.ext hE).frozen 1
  have f2 := (bz.ext hE).frozen 2
  have f3 := (bz.ext hE).frozen 3
  go_wp2_with fail
  obtain ⟨b1, b2, b3, b4⟩ := fin_quad (s := false) (A := none) (n := 0) (c := 0) (t := false) (B := none) (m := 0) (d := 0) (bz.ext hE)
  have r0 := b1.cell 0 (.bool false) rfl
  have r1 := b1.cell 1 (.slice none 0 0) rfl
  have r2 := b1.cell 2 (.bool false) rfl
  have r3 := b1.cell 3 (.slice none 0 0) rfl
  unfold set4 at r0 r1 r2 r3
  refine bodyPost_ret (v := .tuple #[.agg #[.bool false, .slice none 0 0, .bool false, .slice none 0 0], .bool false]) (by simp [results, Tryz.results85, go_sem, r0, r1, r2, r3]) rfl ⟨rfl, b3 _ (extW.trans hE) (by omega)⟩
set_option maxHeartbeats 4000000 in
theorem p_Parse_neg (s u : ByteArray) (t : List UInt8) (q : Rat) (hs : s.size ≤ 60000) (hL : L ≤ 1000) (h : s.data.toList = 45 :: t) (hu : s.extract 1 s.size = u) (hU : ∀ W, Ext w W → Calls Tryz.prog 85 #[.string u] W (RetRB q L W)) (hq : q ≠ 0) :
    Calls Tryz.prog 48 #[.string s] w (RetNRE (-q) L w) := by
  obtain ⟨_, _, hcut⟩ := cut_neg (w := w) (s := s) (by omega) h
  have HC := Lib.hid (fun w => (cut_neg (w := w) (s := s) (by omega) h).2.2)
  have HU := Lib.hid hU
  have hns : q.num.sign ≠ 0 := fun h0 => hq (Rat.num_eq_zero.1 (Int.sign_eq_zero_iff_zero.1 h0))
  have hsb : (q.num.sign == 0) = false := beq_eq_false_iff_ne.2 hns
  clear hcut hU hq hns h
  go_enter Tryz.func48, Tryz.ntmps48
  go_upto_region 1 with (fail)
  obtain ⟨W, hW, extW, bz, hz⟩ := box1 w 27 #[Value.bool false, Value.slice none 0 0, Value.bool false, Value.slice none 0 0]
  rw [← hW]
  clear hW
  have t1 : decide ((65536 : Int) < (s.size : Int)) = false := decide_eq_false (by omega)
  go_wp2_with fail
  refine (HC.out _).mono ?_
  rintro e w1 ⟨rfl, hw1⟩
  subst hw1
  rw [hu]
  go_wp2_with fail
  refine (HU.out _ extW).mono ?_
  rintro e wb ⟨s2, A2, n2, c2, t2, B2, m2, d2, rfl, hr, hxb⟩
  go_upto_region 5 with (fail)
  refine at_world (fun V => Ext W V ∧ Box V wb.heap.size 27 #[.bool s2, .slice A2 n2 c2, .bool t2, .slice B2 m2 d2] ∧ NR V q L s2 A2 n2 c2 t2 B2 m2 d2) ⟨hxb.alloc _, Box.new wb _ _, hr.ext ((Ext.refl wb).alloc _)⟩ ?_
  generalize wb.heap.size = g6
  clear hr hxb
  rintro V ⟨EV, b6, hr⟩
  replace bz := bz.ext EV
  replace extW := extW.trans EV
  clear EV
  have x0 := b6.cell 0 (.bool s2) rfl
  have x1 := b6.cell 1 (.slice A2 n2 c2) rfl
  have x2 := b6.cell 2 (.bool t2) rfl
  have x3 := b6.cell 3 (.slice B2 m2 d2) rfl
  go_wp2_with fail
  refine (p_SignR hr (by omega)).mono ?_
  rintro e V2 ⟨rfl, hxc⟩
  replace bz := bz.ext hxc
  replace b6 := b6.ext hxc
  replace hr := hr.ext hxc
  replace extW := extW.trans hxc
  clear hxc x0 x1 x2 x3
  have x0 := b6.cell 0 (.bool s2) rfl
  have x1 := b6.cell 1 (.slice A2 n2 c2) rfl
  have x2 := b6.cell 2 (.bool t2) rfl
  have x3 := b6.cell 3 (.slice B2 m2 d2) rfl
  go_wp2_with fail
  refine (p_NegR hr (by omega)).mono ?_
  rintro e V3 ⟨s3, A3, n3, c3, t3, B3, m3, d3, rfl, hn, hE⟩
  have z0 := (bz.ext hE).cell 0 _ rfl
  have z1 := (bz.ext hE).cell 1 _ rfl
  have z2 := (bz.ext hE).cell 2 _ rfl
  have z3 := (bz.ext hE).cell 3 _ rfl
  have f0 := (bz.ext hE).frozen 0
  have f1 := (bz.ext hE).frozen 1
  have f2 := (bz.ext hE).frozen 2
  have f3 := (bz.ext hE).frozen 3
  go_wp2_with fail
  obtain ⟨b1, b2, b3, b4⟩ := fin_quad (s := s3) (A := A3) (n := n3) (c := c3) (t := t3) (B := B3) (m := m3) (d := d3) (bz.ext hE)
  have r0 := b1.cell 0 (.bool s3) rfl
  have r1 := b1.cell 1 (.slice A3 n3 c3) rfl
  have r2 := b1.cell 2 (.bool t3) rfl
  have r3 := b1.cell 3 (.slice B3 m3 d3) rfl
  unfold set4 at r0 r1 r2 r3
  refine bodyPost_ret (v := .tuple #[.agg #[.bool s3, .slice A3 n3 c3, .bool t3, .slice B3 m3 d3], .int .i64 0]) (by simp [results, Tryz.results48, go_sem, r0, r1, r2, r3]) rfl ⟨s3, A3, n3, c3, t3, B3, m3, d3, rfl, ⟨b2 _ _ _ _ _ _ hn.num, b2 _ _ _ _ _ _ hn.den⟩, b3 _ (extW.trans hE) (by omega)⟩
set_option maxHeartbeats 4000000 in
theorem p_Parse_neg0 (s u : ByteArray) (t : List UInt8) (q : Rat) (hs : s.size ≤ 60000) (hL : L ≤ 1000) (h : s.data.toList = 45 :: t) (hu : s.extract 1 s.size = u) (hU : ∀ W, Ext w W → Calls Tryz.prog 85 #[.string u] W (RetRB q L W)) (hq : q = 0) :
    Calls Tryz.prog 48 #[.string s] w (RetZE 2 w) := by
  have HC := Lib.hid (fun w => (cut_neg (w := w) (s := s) (by omega) h).2.2)
  have HU := Lib.hid hU
  have hns : q.num.sign = 0 := by rw [hq]; rfl
  clear hU hq h
  go_enter Tryz.func48, Tryz.ntmps48
  go_upto_region 1 with (fail)
  obtain ⟨W, hW, extW, bz, hz⟩ := box1 w 27 #[Value.bool false, Value.slice none 0 0, Value.bool false, Value.slice none 0 0]
  rw [← hW]
  clear hW
  have t1 : decide ((65536 : Int) < (s.size : Int)) = false := decide_eq_false (by omega)
  go_wp2_with fail
  refine (HC.out _).mono ?_
  rintro e w1 ⟨rfl, hw1⟩
  subst hw1
  rw [hu]
  go_wp2_with fail
  refine (HU.out _ extW).mono ?_
  rintro e wb ⟨s2, A2, n2, c2, t2, B2, m2, d2, rfl, hr, hxb⟩
  go_upto_region 5 with (fail)
  refine at_world (fun V => Ext W V ∧ Box V wb.heap.size 27 #[.bool s2, .slice A2 n2 c2, .bool t2, .slice B2 m2 d2] ∧ NR V q L s2 A2 n2 c2 t2 B2 m2 d2) ⟨hxb.alloc _, Box.new wb _ _, hr.ext ((Ext.refl wb).alloc _)⟩ ?_
  generalize wb.heap.size = g6
  clear hr hxb
  rintro V ⟨EV, b6, hr⟩
  replace bz := bz.ext EV
  replace extW := extW.trans EV
  clear EV
  have x0 := b6.cell 0 (.bool s2) rfl
  have x1 := b6.cell 1 (.slice A2 n2 c2) rfl
  have x2 := b6.cell 2 (.bool t2) rfl
  have x3 := b6.cell 3 (.slice B2 m2 d2) rfl
  go_wp2_with fail
  refine (p_SignR hr (by omega)).mono ?_
  rintro e V2 ⟨rfl, hE⟩
  rw [hns]
  have z0 := (bz.ext hE).cell 0 _ rfl
  have z1 := (bz.ext hE).cell 1 _ rfl
  have z2 := (bz.ext hE).cell 2 _ rfl
  have z3 := (bz.ext hE).cell 3 _ rfl
  have f0 := (bz.ext hE).frozen 0
  have f1 := (bz.ext hE).frozen 1
  have f2 := (bz.ext hE).frozen 2
  have f3 := (bz.ext hE).frozen 3
  go_wp2_with fail
  obtain ⟨b1, b2, b3, b4⟩ := fin_quad (s := false) (A := none) (n := 0) (c := 0) (t := false) (B := none) (m := 0) (d := 0) (bz.ext hE)
  have r0 := b1.cell 0 (.bool false) rfl
  have r1 := b1.cell 1 (.slice none 0 0) rfl
  have r2 := b1.cell 2 (.bool false) rfl
  have r3 := b1.cell 3 (.slice none 0 0) rfl
  unfold set4 at r0 r1 r2 r3
  refine bodyPost_ret (v := .tuple #[.agg #[.bool false, .slice none 0 0, .bool false, .slice none 0 0], .int .i64 2]) (by simp [results, Tryz.results48, go_sem, r0, r1, r2, r3]) rfl ⟨rfl, b3 _ (extW.trans hE) (by omega)⟩
set_option maxHeartbeats 4000000 in
theorem p_Parse_posno (s : ByteArray) (hs : s.size ≤ 60000) (h : ∀ t, s.data.toList ≠ 45 :: t) (hU : ∀ W, Ext w W → Calls Tryz.prog 85 #[.string s] W (RetRF W)) :
    Calls Tryz.prog 48 #[.string s] w (RetZE 2 w) := by
  have HC := Lib.hid (fun w => cut_pos (w := w) (s := s) (by omega) h)
  have HU := Lib.hid hU
  clear hU h
  go_enter Tryz.func48, Tryz.ntmps48
  go_upto_region 1 with (fail)
  obtain ⟨W, hW, extW, bz, hz⟩ := box1 w 27 #[Value.bool false, Value.slice none 0 0, Value.bool false, Value.slice none 0 0]
  rw [← hW]
  clear hW
  have t1 : decide ((65536 : Int) < (s.size : Int)) = false := decide_eq_false (by omega)
  go_wp2_with fail
  refine (HC.out _).mono ?_
  rintro e w1 ⟨rfl, hw1⟩
  subst hw1
  go_wp2_with fail
  refine (HU.out _ extW).mono ?_
  rintro e wb ⟨rfl, hxb⟩
  go_upto_region 5 with (fail)
  refine at_world (fun V => Ext W V) (hxb.alloc _) ?_
  clear hxb
  rintro V EV
  replace bz := bz.ext EV
  replace extW := extW.trans EV
  clear EV
  have hE := Ext.refl V
  have z0 := (bz.ext hE).cell 0 _ rfl
  have z1 := (bz.ext hE).cell 1 _ rfl
  have z2 := (bz.ext hE).cell 2 _ rfl
  have z3 := (bz.ext hE).cell 3 _ rfl
  have f0 := (bz.ext hE).frozen 0
  have f1 := (bz.ext hE).frozen 1
  have f2 := (bz.ext hE).frozen 2
  have f3 := (bz.ext hE).frozen 3
  go_wp2_with fail
  obtain ⟨b1, b2, b3, b4⟩ := fin_quad (s := false) (A := none) (n := 0) (c := 0) (t := false) (B := none) (m := 0) (d := 0) (bz.ext hE)
  have r0 := b1.cell 0 (.bool false) rfl
  have r1 := b1.cell 1 (.slice none 0 0) rfl
  have r2 := b1.cell 2 (.bool false) rfl
  have r3 := b1.cell 3 (.slice none 0 0) rfl
  unfold set4 at r0 r1 r2 r3
  refine bodyPost_ret (v := .tuple #[.agg #[.bool false, .slice none 0 0, .bool false, .slice none 0 0], .int .i64 2]) (by simp [results, Tryz.results48, go_sem, r0, r1, r2, r3]) rfl ⟨rfl, b3 _ (extW.trans hE) (by omega)⟩
set_option maxHeartbeats 4000000 in
theorem p_Parse_negno (s u : ByteArray) (t : List UInt8) (hs : s.size ≤ 60000) (h : s.data.toList = 45 :: t) (hu : s.extract 1 s.size = u) (hU : ∀ W, Ext w W → Calls Tryz.prog 85 #[.string u] W (RetRF W)) :
    Calls Tryz.prog 48 #[.string s] w (RetZE 2 w) := by
  have HC := Lib.hid (fun w => (cut_neg (w := w) (s := s) (by omega) h).2.2)
  have HU := Lib.hid hU
  clear hU h
  go_enter Tryz.func48, Tryz.ntmps48
  go_upto_region 1 with (fail)
  obtain ⟨W, hW, extW, bz, hz⟩ := box1 w 27 #[Value.bool false, Value.slice none 0 0, Value.bool false, Value.slice none 0 0]
  rw [← hW]
  clear hW
  have t1 : decide ((65536 : Int) < (s.size : Int)) = false := decide_eq_false (by omega)
  go_wp2_with fail
  refine (HC.out _).mono ?_
  rintro e w1 ⟨rfl, hw1⟩
  subst hw1
  rw [hu]
  go_wp2_with fail
  refine (HU.out _ extW).mono ?_
  rintro e wb ⟨rfl, hxb⟩
  go_upto_region 5 with (fail)
  refine at_world (fun V => Ext W V) (hxb.alloc _) ?_
  clear hxb
  rintro V EV
  replace bz := bz.ext EV
  replace extW := extW.trans EV
  clear EV
  have hE := Ext.refl V
  have z0 := (bz.ext hE).cell 0 _ rfl
  have z1 := (bz.ext hE).cell 1 _ rfl
  have z2 := (bz.ext hE).cell 2 _ rfl
  have z3 := (bz.ext hE).cell 3 _ rfl
  have f0 := (bz.ext hE).frozen 0
  have f1 := (bz.ext hE).frozen 1
  have f2 := (bz.ext hE).frozen 2
  have f3 := (bz.ext hE).frozen 3
  go_wp2_with fail
  obtain ⟨b1, b2, b3, b4⟩ := fin_quad (s := false) (A := none) (n := 0) (c := 0) (t := false) (B := none) (m := 0) (d := 0) (bz.ext hE)
  have r0 := b1.cell 0 (.bool false) rfl
  have r1 := b1.cell 1 (.slice none 0 0) rfl
  have r2 := b1.cell 2 (.bool false) rfl
  have r3 := b1.cell 3 (.slice none 0 0) rfl
  unfold set4 at r0 r1 r2 r3
  refine bodyPost_ret (v := .tuple #[.agg #[.bool false, .slice none 0 0, .bool false, .slice none 0 0], .int .i64 2]) (by simp [results, Tryz.results48, go_sem, r0, r1, r2, r3]) rfl ⟨rfl, b3 _ (extW.trans hE) (by omega)⟩
set_option maxHeartbeats 4000000 in
theorem p_Parse_pos (s : ByteArray) (q : Rat) (hs : s.size ≤ 60000) (h : ∀ t, s.data.toList ≠ 45 :: t) (hU : ∀ W, Ext w W → Calls Tryz.prog 85 #[.string s] W (RetRB q L W)) :
    Calls Tryz.prog 48 #[.string s] w (RetNRE q L w) := by
  have HC := Lib.hid (fun w => cut_pos (w := w) (s := s) (by omega) h)
  have HU := Lib.hid hU
  clear hU h
  go_enter Tryz.func48, Tryz.ntmps48
  go_upto_region 1 with (fail)
  obtain ⟨W, hW, extW, bz, hz⟩ := box1 w 27 #[Value.bool false, Value.slice none 0 0, Value.bool false, Value.slice none 0 0]
  rw [← hW]
  clear hW
  have t1 : decide ((65536 : Int) < (s.size : Int)) = false := decide_eq_false (by omega)
  go_wp2_with fail
  refine (HC.out _).mono ?_
  rintro e w1 ⟨rfl, hw1⟩
  subst hw1
  go_wp2_with fail
  refine (HU.out _ extW).mono ?_
  rintro e wb ⟨s2, A2, n2, c2, t2, B2, m2, d2, rfl, hr, hxb⟩
  go_upto_region 5 with (fail)
  refine at_world (fun V => Ext W V ∧ Box V wb.heap.size 27 #[.bool s2, .slice A2 n2 c2, .bool t2, .slice B2 m2 d2] ∧ NR V q L s2 A2 n2 c2 t2 B2 m2 d2) ⟨hxb.alloc _, Box.new wb _ _, hr.ext ((Ext.refl wb).alloc _)⟩ ?_
  generalize wb.heap.size = g6
  clear hr hxb
  rintro V ⟨EV, b6, hr⟩
  replace bz := bz.ext EV
  replace extW := extW.trans EV
  clear EV
  have x0 := b6.cell 0 (.bool s2) rfl
  have x1 := b6.cell 1 (.slice A2 n2 c2) rfl
  have x2 := b6.cell 2 (.bool t2) rfl
  have x3 := b6.cell 3 (.slice B2 m2 d2) rfl
  have hE := Ext.refl V
  have z0 := (bz.ext hE).cell 0 _ rfl
  have z1 := (bz.ext hE).cell 1 _ rfl
  have z2 := (bz.ext hE).cell 2 _ rfl
  have z3 := (bz.ext hE).cell 3 _ rfl
  have f0 := (bz.ext hE).frozen 0
  have f1 := (bz.ext hE).frozen 1
  have f2 := (bz.ext hE).frozen 2
  have f3 := (bz.ext hE).frozen 3
  go_wp2_with fail
  obtain ⟨b1, b2, b3, b4⟩ := fin_quad (s := s2) (A := A2) (n := n2) (c := c2) (t := t2) (B := B2) (m := m2) (d := d2) (bz.ext hE)
  have r0 := b1.cell 0 (.bool s2) rfl
  have r1 := b1.cell 1 (.slice A2 n2 c2) rfl
  have r2 := b1.cell 2 (.bool t2) rfl
  have r3 := b1.cell 3 (.slice B2 m2 d2) rfl
  unfold set4 at r0 r1 r2 r3
  refine bodyPost_ret (v := .tuple #[.agg #[.bool s2, .slice A2 n2 c2, .bool t2, .slice B2 m2 d2], .int .i64 0]) (by simp [results, Tryz.results48, go_sem, r0, r1, r2, r3]) rfl ⟨s2, A2, n2, c2, t2, B2, m2, d2, rfl, ⟨b2 _ _ _ _ _ _ hr.num, b2 _ _ _ _ _ _ hr.den⟩, b3 _ (extW.trans hE) (by omega)⟩
end
end Go.Proofs.YtiioodgpkdbndaaGreatDoor
namespace Go.Proofs.YtiioodgpkdbndaaGreatDoor
/-- the text of a number without a sign. -/
def UPS (l : List UInt8) (q : Rat) : Prop :=
  (Digs l ∧ Canon l ∧ q = ((dv l : Int) : Rat)) ∨
  (∃ a b, l = a ++ 46 :: b ∧ Digs a ∧ Canon a ∧ Digs b ∧ b ≠ [] ∧ q = mkQ (dv (a ++ b) : Int) ((10 ^ b.length : Nat) : Int)) ∨
  (∃ a b, l = a ++ 47 :: b ∧ Digs a ∧ Canon a ∧ Digs b ∧ Canon b ∧ b ≠ [49] ∧ 0 < dv b ∧ Nat.gcd (dv a) (dv b) = 1 ∧ q = mkRat (dv a : Int) (dv b))
/-- the text of a number. -/
def RPS (l : List UInt8) (q : Rat) : Prop :=
  (∃ t, l = 45 :: t ∧ q ≠ 0 ∧ UPS t (-q)) ∨ ((∀ t, l ≠ 45 :: t) ∧ UPS l q)
theorem not_dig46 : ¬ Dig 46 := fun h => absurd h.1 (by decide)
theorem not_dig47 : ¬ Dig 47 := fun h => absurd h.1 (by decide)
theorem Digs.not_mem {l : List UInt8} {c : UInt8} (h : Digs l) (hc : ¬ Dig c) : c ∉ l := fun hm => hc (h c hm)
theorem split_eq {c : UInt8} : ∀ {a b a' b' : List UInt8}, c ∉ a → c ∉ a' → a ++ c :: b = a' ++ c :: b' → a = a' ∧ b = b'
  | [], b, [], b', _, _, h => by injection h with _ h; exact ⟨rfl, h⟩
  | [], b, x :: a', b', _, h2, h => by
    injection h with h _
    exact absurd (by rw [h]; exact List.mem_cons_self ..) h2
  | x :: a, b, [], b', h1, _, h => by
    injection h with h _
    exact absurd (by rw [← h]; exact List.mem_cons_self ..) h1
  | x :: a, b, y :: a', b', h1, h2, h => by
    injection h with h h'
    obtain ⟨e1, e2⟩ := split_eq (fun hm => h1 (List.mem_cons_of_mem _ hm)) (fun hm => h2 (List.mem_cons_of_mem _ hm)) h'
    exact ⟨by rw [h, e1], e2⟩
theorem ups_dot {a b : List UInt8} {q : Rat} (h : (46 : UInt8) ∉ a) : UPS (a ++ 46 :: b) q ↔ (Digs a ∧ Canon a ∧ Digs b ∧ b ≠ [] ∧ q = mkQ (dv (a ++ b) : Int) ((10 ^ b.length : Nat) : Int)) := by
  have hm : (46 : UInt8) ∈ a ++ 46 :: b := List.mem_append.2 (.inr (List.mem_cons_self ..))
  constructor
  · rintro (⟨h1, _⟩ | ⟨a', b', he, h1, h2⟩ | ⟨a', b', he, h1, _, h2, _⟩)
    · exact absurd (h1 _ hm) not_dig46
    · obtain ⟨rfl, rfl⟩ := split_eq h (h1.not_mem not_dig46) he
      exact ⟨h1, h2⟩
    · rw [he] at hm
      rcases List.mem_append.1 hm with hm | hm
      · exact absurd hm (h1.not_mem not_dig46)
      · rcases List.mem_cons.1 hm with hm | hm
        · exact absurd hm (by decide)
        · exact absurd hm (h2.not_mem not_dig46)
  · rintro ⟨h1, h2⟩
    exact .inr (.inl ⟨a, b, rfl, h1, h2⟩)
theorem ups_slash {a b : List UInt8} {q : Rat} (h : (47 : UInt8) ∉ a) (h46 : (46 : UInt8) ∉ a ++ 47 :: b) : UPS (a ++ 47 :: b) q ↔ (Digs a ∧ Canon a ∧ Digs b ∧ Canon b ∧ b ≠ [49] ∧ 0 < dv b ∧ Nat.gcd (dv a) (dv b) = 1 ∧ q = mkRat (dv a : Int) (dv b)) := by
  have hm : (47 : UInt8) ∈ a ++ 47 :: b := List.mem_append.2 (.inr (List.mem_cons_self ..))
  constructor
  · rintro (⟨h1, _⟩ | ⟨a', b', he, _⟩ | ⟨a', b', he, h1, h2⟩)
    · exact absurd (h1 _ hm) not_dig47
    · rw [he] at h46
      exact absurd (List.mem_append.2 (.inr (List.mem_cons_self ..))) h46
    · obtain ⟨rfl, rfl⟩ := split_eq h (h1.not_mem not_dig47) he
      exact ⟨h1, h2⟩
  · rintro ⟨h1, h2⟩
    exact .inr (.inr ⟨a, b, rfl, h1, h2⟩)
theorem ups_int {l : List UInt8} {q : Rat} (h46 : (46 : UInt8) ∉ l) (h47 : (47 : UInt8) ∉ l) : UPS l q ↔ (Digs l ∧ Canon l ∧ q = ((dv l : Int) : Rat)) := by
  constructor
  · rintro (h1 | ⟨a', b', he, _⟩ | ⟨a', b', he, _⟩)
    · exact h1
    · rw [he] at h46
      exact absurd (List.mem_append.2 (.inr (List.mem_cons_self ..))) h46
    · rw [he] at h47
      exact absurd (List.mem_append.2 (.inr (List.mem_cons_self ..))) h47
  · exact fun h => .inl h
theorem ups_slash' {a b : List UInt8} {q : Rat} (ha : Digs a) : UPS (a ++ 47 :: b) q ↔ (Digs a ∧ Canon a ∧ Digs b ∧ Canon b ∧ b ≠ [49] ∧ 0 < dv b ∧ Nat.gcd (dv a) (dv b) = 1 ∧ q = mkRat (dv a : Int) (dv b)) := by
  constructor
  · intro hu
    by_cases h46 : (46 : UInt8) ∈ a ++ 47 :: b
    · rcases hu with ⟨h1, _⟩ | ⟨a', b', he, h1, _⟩ | ⟨a', b', he, h1, h2⟩
      · exact absurd (h1 _ h46) not_dig46
      · rcases List.append_eq_append_iff.1 he with ⟨m, e1, e2⟩ | ⟨m, e1, e2⟩
        · match m with
          | [] => injection e2 with e2 _; exact absurd e2 (by decide)
          | x :: m =>
            injection e2 with e2 _
            exact absurd (h1 47 (by rw [e1, e2]; exact List.mem_append.2 (.inr (List.mem_cons_self ..)))) not_dig47
        · match m with
          | [] => injection e2 with e2 _; exact absurd e2 (by decide)
          | x :: m =>
            injection e2 with e2 _
            exact absurd (ha 46 (by rw [e1, e2]; exact List.mem_append.2 (.inr (List.mem_cons_self ..)))) not_dig46
      · obtain ⟨rfl, rfl⟩ := split_eq (ha.not_mem not_dig47) (h1.not_mem not_dig47) he
        exact ⟨h1, h2⟩
    · exact (ups_slash (ha.not_mem not_dig47) h46).1 hu
  · rintro ⟨h1, h2⟩
    exact .inr (.inr ⟨a, b, rfl, h1, h2⟩)
theorem ups_digs {a : List UInt8} {q : Rat} (ha : Digs a) : UPS a q ↔ (Digs a ∧ Canon a ∧ q = ((dv a : Int) : Rat)) := ups_int (ha.not_mem not_dig46) (ha.not_mem not_dig47)
theorem UPS.fun {l : List UInt8} {p q : Rat} (h : UPS l p) (k : UPS l q) : p = q := by
  rcases h with ⟨h1, _, h2⟩ | ⟨a, b, rfl, h1, _, _, _, h2⟩ | ⟨a, b, rfl, h1, _, _, _, _, _, _, h2⟩
  · obtain ⟨_, _, k2⟩ := (ups_digs h1).1 k
    rw [h2, k2]
  · obtain ⟨_, _, _, _, k2⟩ := (ups_dot (h1.not_mem not_dig46)).1 k
    rw [h2, k2]
  · obtain ⟨_, _, _, _, _, _, _, k2⟩ := (ups_slash' h1).1 k
    rw [h2, k2]
theorem RPS.fun {l : List UInt8} {p q : Rat} (h : RPS l p) (k : RPS l q) : p = q := by
  rcases h with ⟨t, rfl, _, h⟩ | ⟨h0, h⟩ <;> rcases k with ⟨t', e, _, k⟩ | ⟨k0, k⟩
  · injection e with _ e
    subst e
    have := UPS.fun h k
    rw [← Rat.neg_neg p, this, Rat.neg_neg]
  · exact absurd rfl (k0 t)
  · exact absurd e (h0 t')
  · exact UPS.fun h k
theorem rps_neg {t : List UInt8} {q : Rat} : RPS (45 :: t) q ↔ (q ≠ 0 ∧ UPS t (-q)) := by
  constructor
  · rintro (⟨t', e, h⟩ | ⟨h, _⟩)
    · injection e with _ e
      subst e
      exact h
    · exact absurd rfl (h t)
  · exact fun h => .inl ⟨t, rfl, h⟩
theorem rps_pos {l : List UInt8} {q : Rat} (h : ∀ t, l ≠ 45 :: t) : RPS l q ↔ UPS l q := by
  constructor
  · rintro (⟨t', e, _⟩ | ⟨_, k⟩)
    · exact absurd e (h t')
    · exact k
  · exact fun k => .inr ⟨h, k⟩
end Go.Proofs.YtiioodgpkdbndaaGreatDoor
namespace Go.Proofs.YtiioodgpkdbndaaGreatDoor
open Go.RowKit
/-- the number of a text without a sign, or none. -/
def RetRU (l : List UInt8) (L : Nat) (w : World) (e : Ending) (w' : World) : Prop := (∃ q, UPS l q ∧ RetRB q L w e w') ∨ ((∀ q, ¬ UPS l q) ∧ RetRF w e w')
/-- the number of a text, or an error. -/
def RetRP (l : List UInt8) (L : Nat) (w : World) (e : Ending) (w' : World) : Prop := (∃ q, RPS l q ∧ RetNRE q L w e w') ∨ ((∀ q, ¬ RPS l q) ∧ RetZE 2 w e w')
theorem index_split {l : List UInt8} {c : UInt8} {i : Nat} (h : Lib.indexByte l c = (i : Int)) : i < l.length ∧ l = l.take i ++ c :: l.drop (i + 1) ∧ c ∉ l.take i := by
  obtain ⟨h1, h2⟩ := Lib.indexByte_some h
  have hi : i < l.length := by
    rcases Nat.lt_or_ge i l.length with h' | h'
    · exact h'
    · rw [List.getElem?_eq_none h'] at h1; cases h1
  have hc : l[i] = c := by rw [List.getElem?_eq_getElem hi] at h1; injection h1
  refine ⟨hi, ?_, fun hm => ?_⟩
  · rw [← hc, List.getElem_cons_drop, List.take_append_drop]
  · obtain ⟨k, hk, hk2⟩ := List.getElem_of_mem hm
    rw [List.length_take] at hk
    refine h2 k (by omega) ?_
    rw [List.getElem_take] at hk2
    rw [List.getElem?_eq_getElem (by omega), hk2]
theorem index_none {l : List UInt8} {c : UInt8} (h : Lib.indexByte l c = -1) : c ∉ l := fun hm => by
  obtain ⟨k, hk, hk2⟩ := List.getElem_of_mem hm
  refine Lib.indexByte_none h k ?_
  rw [List.getElem?_eq_getElem hk, hk2]
theorem index_cases (l : List UInt8) (c : UInt8) : Lib.indexByte l c = -1 ∨ ∃ i : Nat, Lib.indexByte l c = (i : Int) := by
  have := Lib.indexByte_ge l c
  by_cases h : Lib.indexByte l c = -1
  · exact .inl h
  · exact .inr ⟨(Lib.indexByte l c).toNat, by omega⟩
theorem extract_to (s : ByteArray) (i : Nat) (_h : i ≤ s.size) : (s.extract 0 i).data.toList = s.data.toList.take i := by
  rw [Lib.extract_data]; simp
theorem extract_from (s : ByteArray) (i : Nat) : (s.extract i s.size).data.toList = s.data.toList.drop i := by
  rw [Lib.extract_data, Lib.size_eq, List.take_of_length_le (by rw [List.length_drop]; omega)]
section
variable {w : World}
theorem RetRB.le {q : Rat} {L M : Nat} {w : World} {e : Ending} {w' : World} (h : RetRB q L w e w') (hl : L ≤ M) : RetRB q M w e w' := by
  obtain ⟨s, A, n, c, t, B, m, d, h1, h2, h3⟩ := h
  exact ⟨s, A, n, c, t, B, m, d, h1, h2.le hl, h3⟩
theorem p_unsigned_any (s : ByteArray) (hs : s.size ≤ 1000) (hT : Tab w) : Calls Tryz.prog 85 #[.string s] w (RetRU s.data.toList 1000 w) := by
  rcases index_cases s.data.toList 46 with h46 | ⟨i, hi⟩
  · rcases index_cases s.data.toList 47 with h47 | ⟨i, hi⟩
    · by_cases hd : Digs s.data.toList ∧ Canon s.data.toList
      · exact (p_unsigned_int s hs h46 h47 hd.1 hd.2 (L := 1000) (by omega)).mono fun e w' h => .inl ⟨_, .inl ⟨hd.1, hd.2, rfl⟩, h⟩
      · refine (p_unsigned_int_no s hs h46 h47 hd).mono fun e w' h => .inr ⟨fun q hq => ?_, h⟩
        obtain ⟨k1, k2, _⟩ := (ups_int (index_none h46) (index_none h47)).1 hq
        exact hd ⟨k1, k2⟩
    · obtain ⟨i1, i2, i3⟩ := index_split hi
      have hz := Lib.size_eq s
      obtain ⟨bf, hbf⟩ : ∃ bf, s.extract 0 i = bf := ⟨_, rfl⟩
      obtain ⟨af, haf⟩ : ∃ af, s.extract (i + 1) s.size = af := ⟨_, rfl⟩
      have hb : bf.data.toList = s.data.toList.take i := by rw [← hbf, extract_to s i (by omega)]
      have ha : af.data.toList = s.data.toList.drop (i + 1) := by rw [← haf, extract_from]
      have hbz : bf.size ≤ 1000 := by rw [Lib.size_eq, hb, List.length_take]; omega
      have haz : af.size ≤ 1000 := by rw [Lib.size_eq, ha, List.length_drop]; omega
      have h46' := index_none h46
      rw [i2] at h46'
      rw [← hb, ← ha] at i2 h46'
      rw [← hb] at i3
      have key := fun q => (show UPS s.data.toList q ↔ UPS (bf.data.toList ++ 47 :: af.data.toList) q by rw [i2]).trans (ups_slash (q := q) i3 h46')
      by_cases h1 : Digs bf.data.toList ∧ Canon bf.data.toList
      · by_cases h2 : Digs af.data.toList ∧ Canon af.data.toList
        · by_cases h3 : af.data.toList = [49]
          · refine (p_unsigned_quo_no s bf af i (by omega) h46 hi (by omega) hbf haf fun W _ => p_parseQuotient_no3 bf af hbz haz h1.1 h1.2 h2.1 h2.2 (by rw [Lib.toList_data, h3]; rfl)).mono fun e w' h => .inr ⟨fun q hq => ?_, h⟩
            obtain ⟨_, _, _, _, k5, _⟩ := (key q).1 hq
            exact k5 h3
          · have h3' : (af.toList == [49]) = false := by rw [beq_eq_false_iff_ne, Lib.toList_data]; exact h3
            by_cases h4 : 0 < dv af.data.toList ∧ Nat.gcd (dv bf.data.toList) (dv af.data.toList) = 1
            · exact (p_unsigned_quo s bf af i _ (by omega) h46 hi (by omega) hbf haf fun W hW => p_parseQuotient_yes bf af hbz haz h1.1 h1.2 h2.1 h2.2 h3' h4 (hT.ext hW)).mono fun e w' h => .inl ⟨_, (key _).2 ⟨h1.1, h1.2, h2.1, h2.2, h3, h4.1, h4.2, rfl⟩, h.le (by omega)⟩
            · refine (p_unsigned_quo_no s bf af i (by omega) h46 hi (by omega) hbf haf fun W hW => p_parseQuotient_no bf af hbz haz h1.1 h1.2 h2.1 h2.2 h3' h4 (hT.ext hW)).mono fun e w' h => .inr ⟨fun q hq => ?_, h⟩
              obtain ⟨_, _, _, _, _, k6, k7, _⟩ := (key q).1 hq
              exact h4 ⟨k6, k7⟩
        · refine (p_unsigned_quo_no s bf af i (by omega) h46 hi (by omega) hbf haf fun W _ => p_parseQuotient_no2 bf af hbz haz h1.1 h1.2 h2).mono fun e w' h => .inr ⟨fun q hq => ?_, h⟩
          obtain ⟨_, _, k3, k4, _⟩ := (key q).1 hq
          exact h2 ⟨k3, k4⟩
      · refine (p_unsigned_quo_no s bf af i (by omega) h46 hi (by omega) hbf haf fun W _ => p_parseQuotient_no1 bf af hbz haz h1).mono fun e w' h => .inr ⟨fun q hq => ?_, h⟩
        obtain ⟨k1, k2, _⟩ := (key q).1 hq
        exact h1 ⟨k1, k2⟩
  · obtain ⟨i1, i2, i3⟩ := index_split hi
    have hz := Lib.size_eq s
    obtain ⟨bf, hbf⟩ : ∃ bf, s.extract 0 i = bf := ⟨_, rfl⟩
    obtain ⟨af, haf⟩ : ∃ af, s.extract (i + 1) s.size = af := ⟨_, rfl⟩
    have hb : bf.data.toList = s.data.toList.take i := by rw [← hbf, extract_to s i (by omega)]
    have ha : af.data.toList = s.data.toList.drop (i + 1) := by rw [← haf, extract_from]
    have hl : bf.size + (1 + af.size) = s.size := by
      rw [Lib.size_eq bf, Lib.size_eq af, hb, ha, List.length_take, List.length_drop]
      omega
    rw [← hb, ← ha] at i2
    rw [← hb] at i3
    have key := fun q => (show UPS s.data.toList q ↔ UPS (bf.data.toList ++ 46 :: af.data.toList) q by rw [i2]).trans (ups_dot (q := q) i3)
    by_cases h1 : Digs bf.data.toList ∧ Canon bf.data.toList
    · by_cases h2 : Digs af.data.toList ∧ af.data.toList ≠ []
      · have h3 : 1 ≤ af.size := by
          rw [Lib.size_eq]
          exact List.length_pos_iff.2 h2.2
        refine (p_unsigned_dec s bf af i _ (by omega) hi (by omega) hbf haf fun W hW => p_parseDecimal bf af (LL := 1000) (by omega) (by omega) h1.1 h1.2 h2.1 h3 (by omega) (hT.ext hW)).mono fun e w' h => .inl ⟨_, (key _).2 ⟨h1.1, h1.2, h2.1, h2.2, ?_⟩, h⟩
        rw [append_toList, Lib.size_eq]
      · refine (p_unsigned_dec_no s bf af i (by omega) hi (by omega) hbf haf fun W _ => p_parseDecimal_no2 bf af (by omega) (by omega) h1.1 h1.2 h2).mono fun e w' h => .inr ⟨fun q hq => ?_, h⟩
        obtain ⟨_, _, k3, k4, _⟩ := (key q).1 hq
        exact h2 ⟨k3, k4⟩
    · refine (p_unsigned_dec_no s bf af i (by omega) hi (by omega) hbf haf fun W _ => p_parseDecimal_no1 bf af (by omega) (by omega) h1).mono fun e w' h => .inr ⟨fun q hq => ?_, h⟩
      obtain ⟨k1, k2, _⟩ := (key q).1 hq
      exact h1 ⟨k1, k2⟩
/-- a call that has one of two outcomes, at every later world the same one. -/
theorem unsigned_dec (s : ByteArray) (hs : s.size ≤ 1000) (hT : Tab w) :
    (∃ q, UPS s.data.toList q ∧ ∀ W, Ext w W → Calls Tryz.prog 85 #[.string s] W (RetRB q 1000 W)) ∨
    ((∀ q, ¬ UPS s.data.toList q) ∧ ∀ W, Ext w W → Calls Tryz.prog 85 #[.string s] W (RetRF W)) := by
  by_cases h : ∃ q, UPS s.data.toList q
  · obtain ⟨q, hq⟩ := h
    refine .inl ⟨q, hq, fun W hW => (p_unsigned_any s hs (hT.ext hW)).mono ?_⟩
    rintro e w' (⟨q', hq', h⟩ | ⟨hn, _⟩)
    · rw [hq.fun hq']; exact h
    · exact absurd hq (hn q)
  · refine .inr ⟨fun q hq => h ⟨q, hq⟩, fun W hW => (p_unsigned_any s hs (hT.ext hW)).mono ?_⟩
    rintro e w' (⟨q', hq', _⟩ | ⟨_, h⟩)
    · exact absurd ⟨q', hq'⟩ h
    · exact h
theorem p_ParseR (s : ByteArray) (hs : s.size ≤ 900) (hT : Tab w) : Calls Tryz.prog 48 #[.string s] w (RetRP s.data.toList 1000 w) := by
  by_cases hn : ∃ t, s.data.toList = 45 :: t
  · obtain ⟨t, ht⟩ := hn
    obtain ⟨c1, c2, _⟩ := cut_neg (w := w) (s := s) (by omega) ht
    have hz : s.size = t.length + 1 := by rw [Lib.size_eq, ht]; rfl
    rcases unsigned_dec (s.extract 1 s.size) (by omega) hT with ⟨q, hq, hc⟩ | ⟨hq, hc⟩
    · rw [c1] at hq
      by_cases h0 : q = 0
      · refine (p_Parse_neg0 s _ t q (by omega) (by omega) ht rfl hc h0).mono fun e w' h => .inr ⟨fun p hp => ?_, h⟩
        rw [ht, rps_neg] at hp
        have := hq.fun hp.2
        rw [h0] at this
        exact hp.1 (by rw [← Rat.neg_neg p, ← this]; rfl)
      · refine (p_Parse_neg s _ t q (by omega) (by omega) ht rfl hc h0).mono fun e w' h => .inl ⟨-q, ?_, h⟩
        rw [ht, rps_neg, Rat.neg_neg]
        exact ⟨fun h => h0 (by rw [← Rat.neg_neg q, h]; rfl), hq⟩
    · rw [c1] at hq
      refine (p_Parse_negno s _ t (by omega) ht rfl hc).mono fun e w' h => .inr ⟨fun p hp => ?_, h⟩
      rw [ht, rps_neg] at hp
      exact hq _ hp.2
  · have hp : ∀ t, s.data.toList ≠ 45 :: t := fun t h => hn ⟨t, h⟩
    rcases unsigned_dec s (by omega) hT with ⟨q, hq, hc⟩ | ⟨hq, hc⟩
    · exact (p_Parse_pos s q (by omega) hp hc).mono fun e w' h => .inl ⟨q, (rps_pos hp).2 hq, h⟩
    · exact (p_Parse_posno s (by omega) hp hc).mono fun e w' h => .inr ⟨fun p h' => hq _ ((rps_pos hp).1 h'), h⟩
end
end Go.Proofs.YtiioodgpkdbndaaGreatDoor
namespace Go.Proofs.YtiioodgpkdbndaaGreatDoor
open Go.RowKit
attribute [local go_sem ↓] Go.wp_at_zero Go.wp_at_succ
def V1 : Rat := mkRat 4 15
def V2 : Rat := mkRat 3 2
def V3 : Rat := mkRat (-5) 4
theorem NR.small {w : World} {q : Rat} {L : Nat} {s : Bool} {A : Option Addr} {n c : Nat} {t : Bool} {B : Option Addr} {m d : Nat} (h : NR w q L s A n c t B m d) (h1 : q.num.natAbs < 4294967296 ^ 20) (h2 : ((q.den : Int)).natAbs < 4294967296 ^ 20) : NR w q 20 s A n c t B m d :=
  ⟨h.num.tight' h1, h.den.tight' h2⟩
theorem sq_nn {a b : Int} (ha : 0 ≤ a) (hb : 0 ≤ b) (h : a * a = b * b) : a = b :=
  sq_unique ha hb h (Int.le_refl _) (by rw [Int.add_mul, Int.mul_add]; omega)
theorem sq_94 {L : Nat} {w w' : World} {e : Ending} (h : RetSq (mkQ 9 4) L w e w') :
    ∃ s A n c t B m d, e = .returned (.tuple #[.agg #[.bool s, .slice A n c, .bool t, .slice B m d], .bool true]) ∧ NR w' V2 L s A n c t B m d ∧ Ext w w' := by
  obtain ⟨h | ⟨h, _⟩, hx⟩ := h
  · obtain ⟨a, b, ha, hb, h1, h2, s, A, n, c, t, B, m, d, he, k1, k2⟩ := h
    have e1 : (mkQ 9 4).num = 3 * 3 := by decide +kernel
    have e2 : (((mkQ 9 4).den : Nat) : Int) = 2 * 2 := by decide +kernel
    obtain rfl := sq_nn ha (by omega) (h1.trans e1)
    obtain rfl := sq_nn hb (by omega) (h2.trans e2)
    exact ⟨s, A, n, c, t, B, m, d, he, ⟨by rw [show V2.num = 3 from by decide +kernel]; exact k1, by rw [show ((V2.den : Nat) : Int) = 2 from by decide +kernel]; exact k2⟩, hx⟩
  · exact absurd ⟨3, 2, by omega, by omega, by decide +kernel, by decide +kernel⟩ h
theorem sq_12 {L : Nat} {w w' : World} {e : Ending} (h : RetSq (mkQ 1 2) L w e w') :
    e = .returned (.tuple #[.agg #[.bool false, .slice none 0 0, .bool false, .slice none 0 0], .bool false]) ∧ Ext w w' := by
  obtain ⟨h | ⟨_, h⟩, hx⟩ := h
  · obtain ⟨a, b, ha, hb, h1, h2, _⟩ := h
    have e2 : (((mkQ 1 2).den : Nat) : Int) = 2 := by decide +kernel
    rw [e2] at h2
    exfalso
    have hb2 : b = 0 ∨ b = 1 ∨ 2 ≤ b := by omega
    rcases hb2 with rfl | rfl | hb2
    · omega
    · omega
    · have := Int.mul_le_mul hb2 hb2 (by omega) hb
      omega
  · exact ⟨h, hx⟩
theorem digs_ok (l : List UInt8) (h : l.all (fun c => decide (48 ≤ c.toNat) && decide (c.toNat ≤ 57)) = true) : Digs l := by
  intro c hc
  have := List.all_eq_true.1 h c hc
  simpa [Dig] using this
theorem ps_1 {L : Nat} {w w' : World} {e : Ending} (h : RetRP (⟨#[45, 49, 46, 50, 53, 48]⟩ : ByteArray).data.toList L w e w') : RetNRE V3 L w e w' := by
  have hr : RPS [45, 49, 46, 50, 53, 48] V3 := by
    rw [rps_neg]
    refine ⟨by decide +kernel, ?_⟩
    show UPS ([49] ++ 46 :: [50, 53, 48]) (-V3)
    rw [ups_dot (by decide)]
    exact ⟨digs_ok _ (by decide), .inr ⟨49, [], rfl, by decide⟩, digs_ok _ (by decide), by decide, by decide +kernel⟩
  rcases h with ⟨q, hq, h⟩ | ⟨hn, _⟩
  · rw [hr.fun hq]; exact h
  · exact absurd hr (hn _)
theorem ps_2 {L : Nat} {w w' : World} {e : Ending} (h : RetRP (⟨#[50, 47, 52]⟩ : ByteArray).data.toList L w e w') : RetZE 2 w e w' := by
  rcases h with ⟨q, hq, _⟩ | ⟨_, h⟩
  · have hq2 : UPS ([50] ++ 47 :: [52]) q := (rps_pos (l := [50, 47, 52]) (by intro t h; cases h)).1 hq
    rw [ups_slash' (digs_ok _ (by decide))] at hq2
    exact absurd hq2.2.2.2.2.2.2.1 (by decide +kernel)
  · exact h
theorem ps_3 {L : Nat} {w w' : World} {e : Ending} (h : RetRP (⟨#[45, 48]⟩ : ByteArray).data.toList L w e w') : RetZE 2 w e w' := by
  rcases h with ⟨q, hq, _⟩ | ⟨_, h⟩
  · have hq2 : q ≠ 0 ∧ UPS [48] (-q) := (rps_neg (t := [48])).1 hq
    rw [ups_digs (digs_ok _ (by decide))] at hq2
    obtain ⟨h0, _, _, h1⟩ := hq2
    exfalso
    apply h0
    rw [← Rat.neg_neg q, h1]
    decide +kernel
  · exact h
theorem floor_72 {z r : Int} (h : IsDM (mkQ (-7) 2).num (mkQ (-7) 2).den z r) : z = -4 := by
  rw [show (mkQ (-7) 2).num = -7 from by decide +kernel, show (((mkQ (-7) 2).den : Nat) : Int) = 2 from by decide +kernel] at h
  obtain ⟨h1, h2⟩ := h
  omega
set_option maxHeartbeats 16000000 in
set_option maxRecDepth 100000 in
theorem awake2 : Awake2 := by
  intro w hT hP
  have E1 : mkQ 1 6 + mkQ 1 10 = V1 := by decide +kernel
  go_enter Tryz.func12, Tryz.ntmps12
  have extW := Ext.refl w
  go_wp2_with fail
  refine (p_Frac (1) 6 (by omega) (by omega) (by omega) (by omega) (hT.ext extW)).mono ?_
  rintro e w1 ⟨s1, A1, n1, c1, t1, B1, m1, d1, rfl, f1, hx1⟩
  replace extW := extW.trans hx1
  clear hx1
  go_wp2_with fail
  refine (p_Frac (1) 10 (by omega) (by omega) (by omega) (by omega) (hT.ext extW)).mono ?_
  rintro e w2 ⟨s2, A2, n2, c2, t2, B2, m2, d2, rfl, f2, hx2⟩
  replace f1 := f1.ext hx2
  replace extW := extW.trans hx2
  clear hx2
  go_wp2_with fail
  refine (p_AddR f1 f2 (by omega) (by omega) (by omega) (hT.ext extW)).mono ?_
  rintro e w3 ⟨s3, A3, n3, c3, t3, B3, m3, d3, rfl, f3, hx3⟩
  replace f1 := f1.ext hx3
  replace f2 := f2.ext hx3
  replace extW := extW.trans hx3
  clear hx3
  rw [E1] at f3
  clear f1 f2
  go_upto_region 2 with (fail)
  refine at_world (fun w3v => Ext w3 w3v ∧ Box w3v w3.heap.size 27 #[.bool s3, .slice A3 n3 c3, .bool t3, .slice B3 m3 d3] ∧ NR w3v V1 5 s3 A3 n3 c3 t3 B3 m3 d3) ⟨(Ext.refl w3).alloc _, Box.new w3 _ _, f3.ext ((Ext.refl w3).alloc _)⟩ ?_
  generalize w3.heap.size = g1
  clear f3
  rintro w3v ⟨EV, b1, f3⟩
  replace extW := extW.trans EV
  clear EV
  go_wp2_with fail
  refine (p_Frac (9) 4 (by omega) (by omega) (by omega) (by omega) (hT.ext extW)).mono ?_
  rintro e w4 ⟨s4, A4, n4, c4, t4, B4, m4, d4, rfl, f4, hx4⟩
  replace b1 := b1.ext hx4
  replace f3 := f3.ext hx4
  replace extW := extW.trans hx4
  clear hx4
  go_wp2_with fail
  refine (p_Sqrt_any f4 (by omega)).mono ?_
  intro e w5 hsq
  obtain ⟨s5, A5, n5, c5, t5, B5, m5, d5, rfl, f5, hx5⟩ := sq_94 hsq
  replace b1 := b1.ext hx5
  replace f3 := f3.ext hx5
  replace f4 := f4.ext hx5
  replace extW := extW.trans hx5
  clear hx5 hsq f4
  go_upto_region 3 with (fail)
  refine at_world (fun w5v => Ext w5 w5v ∧ Box w5v w5.heap.size 27 #[.bool s5, .slice A5 n5 c5, .bool t5, .slice B5 m5 d5] ∧ NR w5v V2 3 s5 A5 n5 c5 t5 B5 m5 d5) ⟨(Ext.refl w5).alloc _, Box.new w5 _ _, f5.ext ((Ext.refl w5).alloc _)⟩ ?_
  generalize w5.heap.size = g2
  clear f5
  rintro w5v ⟨EV, b2, f5⟩
  replace b1 := b1.ext EV
  replace f3 := f3.ext EV
  replace extW := extW.trans EV
  clear EV
  go_wp2_with fail
  refine (p_Frac (1) 2 (by omega) (by omega) (by omega) (by omega) (hT.ext extW)).mono ?_
  rintro e w6 ⟨s6, A6, n6, c6, t6, B6, m6, d6, rfl, f6, hx6⟩
  replace b1 := b1.ext hx6
  replace f3 := f3.ext hx6
  replace b2 := b2.ext hx6
  replace f5 := f5.ext hx6
  replace extW := extW.trans hx6
  clear hx6
  go_wp2_with fail
  refine (p_Sqrt_any f6 (by omega)).mono ?_
  intro e w7 hsq
  obtain ⟨rfl, hx7⟩ := sq_12 hsq
  replace b1 := b1.ext hx7
  replace f3 := f3.ext hx7
  replace b2 := b2.ext hx7
  replace f5 := f5.ext hx7
  replace f6 := f6.ext hx7
  replace extW := extW.trans hx7
  clear hx7 hsq f6
  go_upto_region 4 with (fail)
  refine at_world (fun w7v => Ext w7 w7v ∧ Box w7v w7.heap.size 27 #[Value.bool false, Value.slice none 0 0, Value.bool false, Value.slice none 0 0]) ⟨(Ext.refl w7).alloc _, Box.new w7 _ _⟩ ?_
  generalize w7.heap.size = g3
  rintro w7v ⟨EV, b3⟩
  replace b1 := b1.ext EV
  replace f3 := f3.ext EV
  replace b2 := b2.ext EV
  replace f5 := f5.ext EV
  replace extW := extW.trans EV
  clear EV
  go_wp2_with fail
  refine (p_ParseR _ (by decide) (hT.ext extW)).mono ?_
  intro e w8 hps
  obtain ⟨s8, A8, n8, c8, t8, B8, m8, d8, rfl, f8, hx8⟩ := ps_1 hps
  replace b1 := b1.ext hx8
  replace f3 := f3.ext hx8
  replace b2 := b2.ext hx8
  replace f5 := f5.ext hx8
  replace b3 := b3.ext hx8
  replace extW := extW.trans hx8
  clear hx8 hps
  go_upto_region 5 with (fail)
  refine at_world (fun w8v => Ext w8 w8v ∧ Box w8v w8.heap.size 27 #[.bool s8, .slice A8 n8 c8, .bool t8, .slice B8 m8 d8] ∧ NR w8v V3 1000 s8 A8 n8 c8 t8 B8 m8 d8) ⟨(Ext.refl w8).alloc _, Box.new w8 _ _, f8.ext ((Ext.refl w8).alloc _)⟩ ?_
  generalize w8.heap.size = g4
  clear f8
  rintro w8v ⟨EV, b4, f8⟩
  replace b1 := b1.ext EV
  replace f3 := f3.ext EV
  replace b2 := b2.ext EV
  replace f5 := f5.ext EV
  replace b3 := b3.ext EV
  replace extW := extW.trans EV
  clear EV
  go_wp2_with fail
  refine (p_ParseR _ (by decide) (hT.ext extW)).mono ?_
  intro e w9 hps
  obtain ⟨rfl, hx9⟩ := ps_2 hps
  replace b1 := b1.ext hx9
  replace f3 := f3.ext hx9
  replace b2 := b2.ext hx9
  replace f5 := f5.ext hx9
  replace b3 := b3.ext hx9
  replace b4 := b4.ext hx9
  replace f8 := f8.ext hx9
  replace extW := extW.trans hx9
  clear hx9 hps
  go_upto_region 6 with (fail)
  refine at_world (fun w9v => Ext w9 w9v ∧ Box w9v w9.heap.size 27 #[Value.bool false, Value.slice none 0 0, Value.bool false, Value.slice none 0 0]) ⟨(Ext.refl w9).alloc _, Box.new w9 _ _⟩ ?_
  generalize w9.heap.size = g5
  rintro w9v ⟨EV, b5⟩
  replace b1 := b1.ext EV
  replace f3 := f3.ext EV
  replace b2 := b2.ext EV
  replace f5 := f5.ext EV
  replace b3 := b3.ext EV
  replace b4 := b4.ext EV
  replace f8 := f8.ext EV
  replace extW := extW.trans EV
  clear EV
  go_wp2_with fail
  refine (p_ParseR _ (by decide) (hT.ext extW)).mono ?_
  intro e w10 hps
  obtain ⟨rfl, hx10⟩ := ps_3 hps
  replace b1 := b1.ext hx10
  replace f3 := f3.ext hx10
  replace b2 := b2.ext hx10
  replace f5 := f5.ext hx10
  replace b3 := b3.ext hx10
  replace b4 := b4.ext hx10
  replace f8 := f8.ext hx10
  replace b5 := b5.ext hx10
  replace extW := extW.trans hx10
  clear hx10 hps
  go_upto_region 7 with (fail)
  refine at_world (fun w10v => Ext w10 w10v ∧ Box w10v w10.heap.size 27 #[Value.bool false, Value.slice none 0 0, Value.bool false, Value.slice none 0 0]) ⟨(Ext.refl w10).alloc _, Box.new w10 _ _⟩ ?_
  generalize w10.heap.size = g6
  rintro w10v ⟨EV, b6⟩
  replace b1 := b1.ext EV
  replace f3 := f3.ext EV
  replace b2 := b2.ext EV
  replace f5 := f5.ext EV
  replace b3 := b3.ext EV
  replace b4 := b4.ext EV
  replace f8 := f8.ext EV
  replace b5 := b5.ext EV
  replace extW := extW.trans EV
  clear EV
  go_wp2_with fail
  refine (p_Frac (-7) 2 (by omega) (by omega) (by omega) (by omega) (hT.ext extW)).mono ?_
  rintro e w11 ⟨s11, A11, n11, c11, t11, B11, m11, d11, rfl, f11, hx11⟩
  replace b1 := b1.ext hx11
  replace f3 := f3.ext hx11
  replace b2 := b2.ext hx11
  replace f5 := f5.ext hx11
  replace b3 := b3.ext hx11
  replace b4 := b4.ext hx11
  replace f8 := f8.ext hx11
  replace b5 := b5.ext hx11
  replace b6 := b6.ext hx11
  replace extW := extW.trans hx11
  clear hx11
  go_wp2_with fail
  refine (p_Floor f11 (by omega)).mono ?_
  rintro e w12 ⟨z12, r12, hdm, s12, A12, n12, c12, rfl, f12, hx12⟩
  replace b1 := b1.ext hx12
  replace f3 := f3.ext hx12
  replace b2 := b2.ext hx12
  replace f5 := f5.ext hx12
  replace b3 := b3.ext hx12
  replace b4 := b4.ext hx12
  replace f8 := f8.ext hx12
  replace b5 := b5.ext hx12
  replace b6 := b6.ext hx12
  replace f11 := f11.ext hx12
  replace extW := extW.trans hx12
  clear hx12
  obtain rfl : z12 = -4 := floor_72 hdm
  clear f11 hdm
  go_wp2_with fail
  refine (p_Int64 f12 (by omega)).mono ?_
  rintro e w13 ⟨rfl, hx13⟩
  replace b1 := b1.ext hx13
  replace f3 := f3.ext hx13
  replace b2 := b2.ext hx13
  replace f5 := f5.ext hx13
  replace b3 := b3.ext hx13
  replace b4 := b4.ext hx13
  replace f8 := f8.ext hx13
  replace b5 := b5.ext hx13
  replace b6 := b6.ext hx13
  replace f12 := f12.ext hx13
  replace extW := extW.trans hx13
  clear hx13
  rw [show fitV (-4) = -4 from by decide, show fitsB (-4) = true from by decide]
  clear f12
  have b10 := b1.cell 0 (.bool s3) rfl
  have b11 := b1.cell 1 (.slice A3 n3 c3) rfl
  have b12 := b1.cell 2 (.bool t3) rfl
  have b13 := b1.cell 3 (.slice B3 m3 d3) rfl
  go_wp2_with fail
  refine (p_FormatR (f3.le (L' := 20) (by omega)) (by omega) (hP.ext extW)).mono ?_
  rintro e w14 ⟨str, rfl, hs, hx14⟩
  obtain rfl : str = ⟨#[52, 47, 49, 53]⟩ := bytes_ext (hs.trans (by decide +kernel))
  clear hs b10 b11 b12 b13
  replace b1 := b1.ext hx14
  replace f3 := f3.ext hx14
  replace b2 := b2.ext hx14
  replace f5 := f5.ext hx14
  replace b3 := b3.ext hx14
  replace b4 := b4.ext hx14
  replace f8 := f8.ext hx14
  replace b5 := b5.ext hx14
  replace b6 := b6.ext hx14
  replace extW := extW.trans hx14
  clear hx14
  have b20 := b2.cell 0 (.bool s5) rfl
  have b21 := b2.cell 1 (.slice A5 n5 c5) rfl
  have b22 := b2.cell 2 (.bool t5) rfl
  have b23 := b2.cell 3 (.slice B5 m5 d5) rfl
  go_wp2_with fail
  refine (p_FormatR (f5.le (L' := 20) (by omega)) (by omega) (hP.ext extW)).mono ?_
  rintro e w15 ⟨str, rfl, hs, hx15⟩
  obtain rfl : str = ⟨#[51, 47, 50]⟩ := bytes_ext (hs.trans (by decide +kernel))
  clear hs b20 b21 b22 b23
  replace b1 := b1.ext hx15
  replace f3 := f3.ext hx15
  replace b2 := b2.ext hx15
  replace f5 := f5.ext hx15
  replace b3 := b3.ext hx15
  replace b4 := b4.ext hx15
  replace f8 := f8.ext hx15
  replace b5 := b5.ext hx15
  replace b6 := b6.ext hx15
  replace extW := extW.trans hx15
  clear hx15
  have b40 := b4.cell 0 (.bool s8) rfl
  have b41 := b4.cell 1 (.slice A8 n8 c8) rfl
  have b42 := b4.cell 2 (.bool t8) rfl
  have b43 := b4.cell 3 (.slice B8 m8 d8) rfl
  go_wp2_with fail
  refine (p_FormatR (NR.small f8 (by decide +kernel) (by decide +kernel)) (by omega) (hP.ext extW)).mono ?_
  rintro e w16 ⟨str, rfl, hs, hx16⟩
  obtain rfl : str = ⟨#[45, 53, 47, 52]⟩ := bytes_ext (hs.trans (by decide +kernel))
  clear hs b40 b41 b42 b43
  replace b1 := b1.ext hx16
  replace f3 := f3.ext hx16
  replace b2 := b2.ext hx16
  replace f5 := f5.ext hx16
  replace b3 := b3.ext hx16
  replace b4 := b4.ext hx16
  replace f8 := f8.ext hx16
  replace b5 := b5.ext hx16
  replace b6 := b6.ext hx16
  replace extW := extW.trans hx16
  clear hx16
  go_wp2_with fail
  go_ret
  exact ⟨rfl, extW⟩
end Go.Proofs.YtiioodgpkdbndaaGreatDoor
namespace Go.Proofs.YtiioodgpkdbndaaGreatDoor
open Go.ChangeShapes Go.WideShapes Go.ChangeAt Go.RowKit Go.Joins
section
variable {H : Type} {enc : TypeId × Value → H} {W : World} {base : Nat} {held : Bool}
end
set_option maxRecDepth 100000
def laidR : List (String × DataW Unit) := [("math/bits.deBruijn32tab", Rows.laid_math_bits_deBruijn32tab), ("math/bits.deBruijn64tab", Rows.laid_math_bits_deBruijn64tab), ("internal/strconv.uint64pow10", Rows.laid_internal_strconv_uint64pow10), ("unicode/utf8.acceptRanges", Rows.laid_unicode_utf8_acceptRanges), ("unicode/utf8.first", Rows.laid_unicode_utf8_first)]
def tabR : List Int := Lib.deBruijn64tab.map fun n : Nat => (n : Int)
theorem tabR_at : ∀ j : Fin 64, tabR.getD j.val 0 = ((Lib.deBruijn64tab.getD j.val 0 : Nat) : Int) := by decide +kernel
theorem laidR_tab : laidR = [("math/bits.deBruijn32tab", Rows.laid_math_bits_deBruijn32tab), ("math/bits.deBruijn64tab", Lib.tabData .u8 tabR), ("internal/strconv.uint64pow10", Lib.tabData .u64 Lib.pow10Tab), ("unicode/utf8.acceptRanges", Rows.laid_unicode_utf8_acceptRanges), ("unicode/utf8.first", Rows.laid_unicode_utf8_first)] := by kernel_rfl
theorem gTabR : Tryz.prog.globalNamed "math/bits.deBruijn64tab" = some 0 := by kernel_rfl
theorem tTabR : (Tryz.prog.globals[0]?).map (·.type) = some 165 := by kernel_rfl
theorem gPowR : Tryz.prog.globalNamed "internal/strconv.uint64pow10" = some 2 := by kernel_rfl
theorem tPowR : (Tryz.prog.globals[2]?).map (·.type) = some 184 := by kernel_rfl
theorem tabs_of_laid {W : World} (h : laidMetH Tryz.prog laidR W) : Tab W ∧ TabP W := by
  rw [MakeChecks.laidMetH_plain _ _ _ (by kernel_rfl), laidR_tab] at h
  refine ⟨?_, Lib.tabIs_of_head gPowR tPowR Tryz.underlying184 Tryz.underlying73 (by kernel_rfl) (by kernel_rfl) h.tail.tail⟩
  have hT := Lib.tabIs_of_head gTabR tTabR Tryz.underlying165 Tryz.underlying5 (by kernel_rfl) (by kernel_rfl) h.tail
  intro j hj
  have := hT.cell gTabR j (by rw [show tabR.length = 64 from by decide +kernel]; exact hj)
  rw [tabR_at ⟨j, hj⟩] at this
  exact this
end Go.Proofs.YtiioodgpkdbndaaGreatDoor
