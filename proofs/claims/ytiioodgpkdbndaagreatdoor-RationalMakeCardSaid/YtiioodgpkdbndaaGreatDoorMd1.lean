/- For every two integers, in normal form or not, the law RationalMake returns true: Make returns the quotient in normal form, or ErrZero, the arguments keep their values, and the examples of the chapter hold. Condition: the five listed tables of Go's library hold what their initialisers lay (tied by the given card). -/
import Derived.Test.YtiioodgpkdbndaaGreatDoorM0
import Derived.Test.YtiioodgpkdbndaaGreatDoorM1
import Derived.Test.YtiioodgpkdbndaaGreatDoorM2
import Derived.Test.YtiioodgpkdbndaaGreatDoorM3
import Derived.Test.YtiioodgpkdbndaaGreatDoorM4
import Derived.Test.YtiioodgpkdbndaaGreatDoorM5
import Derived.Test.YtiioodgpkdbndaaGreatDoorM6
import Derived.Test.YtiioodgpkdbndaaGreatDoorM7
import Derived.Test.YtiioodgpkdbndaaGreatDoorM8
import Derived.Test.YtiioodgpkdbndaaGreatDoorM9
import Derived.Test.YtiioodgpkdbndaaGreatDoorMd0
import Derived.Test.YtiioodgpkdbndaaGreatDoorRows
import Derived.ProofKit
import Derived.Lib.SmallJoins
namespace Go.Proofs.YtiioodgpkdbndaaGreatDoor
open Go.ChangeShapes Go.WideShapes Go.ChangeAt Go.RowKit Go.Joins
theorem Tryz.cellsI : Tryz.prog.cellsOf 24 = 2 := by kernel_rfl
theorem Tryz.cellsW : Tryz.prog.cellsOf 71 = 1 := by kernel_rfl
section
variable {H : Type} {enc : TypeId × Value → H} {W : World} {base : Nat} {held : Bool}
theorem open_words {m : Nat} {v : Value} {y : DataW H × List MemPlace} (h : DataW.trod enc Tryz.prog W base (fun _ => true) held m 22 [v] = some y) :
    ∃ A n c xs, v = .slice A n c ∧ List.length xs = n ∧ Rd W A xs ∧ n ≤ c ∧ c ≤ maxLen := by
  rcases open_ints Tryz.underlying22 Tryz.underlying71 Tryz.cellsW h with ⟨hcs, _⟩ | ⟨a, len, cap, zs, hcs, _, hl, hm, hz, _, hcell, hwf⟩
  · injection hcs with hcs _
    subst hcs
    exact ⟨none, 0, 0, [], rfl, rfl, Rd.nil _ _, Nat.le_refl _, Nat.zero_le _⟩
  · injection hcs with hcs _
    subst hcs
    simp only [if_true] at hz
    have hb : ∀ n ∈ zs, 0 ≤ n ∧ n ≤ 4294967295 := by
      intro n hn
      have := hwf n hn
      simp [Lit.wf, IntKind.min, IntKind.max, IntKind.bits, IntKind.signed] at this
      omega
    refine ⟨some a, len, cap, (zs.take len).map Int.toNat, rfl, by simp; omega, ⟨?_, ?_⟩, hl, hm⟩
    · intro x hx
      obtain ⟨n, hn, rfl⟩ := List.mem_map.1 hx
      have := hb n (List.mem_of_mem_take hn)
      omega
    · intro hne
      have hpos : 0 < zs.length := by
        rcases Nat.eq_zero_or_pos zs.length with h0 | h0
        · exfalso
          apply hne
          have : zs = [] := List.eq_nil_of_length_eq_zero h0
          rw [this]; simp
        · exact h0
      obtain ⟨b, off, spot⟩ := a
      have hc0 := hcell 0 hpos
      have hspot : spot = none := by
        cases spot with
        | none => rfl
        | some q => simp [Addr.add, World.cell?] at hc0; split at hc0 <;> simp at hc0
      subst hspot
      refine ⟨b, off, rfl, cell_lt (p := ⟨b, off, none⟩) (by simpa [Addr.add] using hc0), fun i hi => ?_⟩
      simp only [List.length_map, List.length_take] at hi
      have hc := hcell i (by omega)
      have e1 : (⟨b, off, none⟩ : Addr).add i = ⟨b, off + i, none⟩ := by unfold Addr.add; split <;> simp_all
      rw [e1] at hc
      rw [hc]
      simp only [List.getElem_map, List.getElem_take]
      have hi2 : i < zs.length := by omega
      have e2 : zs.getD i 0 = zs[i] := by simp [List.getD, hi2]
      rw [e2]
      have := hb zs[i] (List.getElem_mem hi2)
      congr 2
      omega
set_option maxRecDepth 100000 in
theorem open_api {r : Reach} {b0 : Nat} {v : Value} {d : DataW H} {p : List MemPlace} (hv : Value.okWide Tryz.prog W r b0 24 v) (h : DataW.Trod enc Tryz.prog W base (fun _ => true) held 24 v d p) :
    ∃ s A n c xs, v = .agg #[.bool s, .slice A n c] ∧ List.length xs = n ∧ Rd W A xs ∧ n ≤ c ∧ c ≤ maxLen := by
  obtain ⟨c0, c1, y0, y1, m, rfl, rfl, rfl, hy0, hy1⟩ := open_agg2 Tryz.underlying24 (by kernel_rfl) Tryz.cellsI hv h
  obtain ⟨s, e0, rfl⟩ := DataW.trod_bool Tryz.underlying4 hy0
  injection e0 with e0 _
  subst e0
  obtain ⟨A, n, c, xs, rfl, h1, h2, h3, h4⟩ := open_words hy1
  exact ⟨s, A, n, c, xs, rfl, h1, h2, h3, h4⟩
end
end Go.Proofs.YtiioodgpkdbndaaGreatDoor
namespace Go.Proofs.YtiioodgpkdbndaaGreatDoor
open Go.RowKit
attribute [local go_sem ↓] Go.wp_at_zero Go.wp_at_succ
/-- an integer in any form, of at most L words. -/
structure RZ (w : World) (z : Int) (L : Nat) (s : Bool) (A : Option Addr) (n c : Nat) : Prop where
  out : ∃ xs, RI w A n c xs ∧ ival s xs = z ∧ n ≤ L
section
variable {w w' : World} {z y : Int} {q p : Rat} {L M : Nat} {s t s' t' : Bool} {A B A' B' : Option Addr} {n c m d n' c' m' d' : Nat} {xs ys xs' ys' : List Nat}
theorem RZ.ext (h : RZ w z L s A n c) (e : Ext w w') : RZ w' z L s A n c := by
  obtain ⟨xs, h1, h2⟩ := h.out
  exact ⟨xs, h1.ext e, h2⟩
theorem p_NormZ (h : RZ w z L s A n c) (hL : L ≤ 100000) : Calls Tryz.prog 52 #[.agg #[.bool s, .slice A n c]] w (RetNI z L w) := by
  obtain ⟨xs, h1, h2, h3⟩ := h.out
  have hl := h1.len
  refine (int_Norm h1.len h1.rd h1.cap h1.top (by omega)).mono fun e w' hr => ?_
  rw [h2] at hr
  exact hr.ni (by omega)
theorem q_NormZ (h : RZ w z L s A n c) (hL : L ≤ 10000) : Calls Tryz.prog 15 #[.agg #[.bool s, .slice A n c]] w (RetNI z L w) := by
  obtain ⟨xs, h1, h2, h3⟩ := h.out
  have hl := h1.len
  refine (ref_Norm h1.len h1.rd h1.cap h1.top (by omega)).mono fun e w' hr => ?_
  rw [h2] at hr
  exact hr.ni (by omega)
theorem law_ownZ (h : RZ w z L s A n c) (hL : L ≤ 1000) : Calls Tryz.prog 14 #[.agg #[.bool s, .slice A n c]] w fun e w' => ∃ A' c', e = .returned (.agg #[.bool s, .slice A' n c']) ∧ RZ w' z L s A' n c' ∧ Ext w w' := by
  obtain ⟨xs, h1, h2, h3⟩ := h.out
  obtain ⟨hl, h5, _, _⟩ := h1
  subst hl
  refine (law_ownInt (s := s) rfl h5 (by omega)).mono ?_
  rintro e w' ⟨A', c', rfl, g1, g2, g3, g4⟩
  exact ⟨A', c', rfl, ⟨xs, ⟨rfl, g1, g2, g3⟩, h2, h3⟩, g4⟩
theorem p_MakeZ_0 (h : RZ w z L s A n c) (k : RZ w y M t B m d) (hL : L ≤ 3000) (hM : M ≤ 3000) (hy : y = 0) : Calls Tryz.prog 13 #[.agg #[.bool s, .slice A n c], .agg #[.bool t, .slice B m d]] w (RetZE 6 w) := by
  have hs : y.sign = 0 := by rw [hy]; rfl
  go_enter Tryz.func13, Tryz.ntmps13
  go_upto_region 1 with (fail)
  obtain ⟨W, hW, extW, bx, by_, bz, hz⟩ := box3 w 24 24 27 #[.bool s, .slice A n c] #[.bool t, .slice B m d] #[Value.bool false, Value.slice none 0 0, Value.bool false, Value.slice none 0 0]
  rw [← hW]
  clear hW
  replace h := h.ext extW
  replace k := k.ext extW
  refine wpL.start 4 (by kernel_rfl) (fun _ _ _ _ _ => ⟨fun h => h, fun h => h⟩) (fun hQ ES => ?_)
  refine wpL.take (i := 0) (d := some 7) (v := ?v0_78) rfl rfl (by kernel_rfl) (by kernel_rfl) (by kernel_rfl) (by kernel_rfl) hQ (Or.inl ⟨by rfl, ?y0_78⟩) ES ?r0_78
  case y0_78 =>
    intro w' hSw
    have k00 := (bx.ext hSw).c2
    have k10 := (by_.ext hSw).c2
    go_simp
    try with_reducible rfl
  try simp only [Act.put]
  try simp only [List.setIfInBounds_toArray]
  try simp only [List.set_cons_succ]
  try simp only [List.set_cons_zero]
  refine wpL.take2 3 (i := 2) (d := some 9) (v := ?v2_79) rfl rfl (by kernel_rfl) (by kernel_rfl) (by kernel_rfl) (by kernel_rfl) hQ (Or.inl ⟨by rfl, ?y2_79⟩) ES ?r2_79
  case y2_79 =>
    intro w' hSw
    have k00 := (bx.ext hSw).c2
    have k10 := (by_.ext hSw).c2
    go_simp
    try with_reducible rfl
  try simp only [Act.put]
  try simp only [List.setIfInBounds_toArray]
  try simp only [List.set_cons_succ]
  try simp only [List.set_cons_zero]
  refine wpL.call (i := 1) rfl (by kernel_rfl) (fun K hK => ?_)
  go_simp
  (go_at_call 52; refine (p_NormZ (h.ext ES) (by omega)).mono ?_; rintro e wk1 ⟨s1, A1, n1, c1, rfl, h1, hx0⟩; have E0_1 := Ext.trans ES hx0)
  refine hK.out _ _ E0_1 ?_
  clear hK K
  try simp only [Act.put]
  try simp only [List.setIfInBounds_toArray]
  try simp only [List.set_cons_succ]
  try simp only [List.set_cons_zero]
  refine wpL.call (i := 3) rfl (by kernel_rfl) (fun K hK => ?_)
  go_simp
  (go_at_call 52; refine (p_NormZ (k.ext E0_1) (by omega)).mono ?_; rintro e wk2 ⟨s2, A2, n2, c2, rfl, h2, hx1⟩; have E1_1 := Ext.trans E0_1 hx1)
  refine hK.out _ _ E1_1 ?_
  clear hK K
  try simp only [Act.put]
  try simp only [List.setIfInBounds_toArray]
  try simp only [List.set_cons_succ]
  try simp only [List.set_cons_zero]
  have z0 := (bx.ext E1_1).cell 0 _ rfl
  have z1 := (bx.ext E1_1).cell 1 _ rfl
  have f0 := (bx.ext E1_1).frozen 0
  have f1 := (bx.ext E1_1).frozen 1
  have u0 := (by_.ext E1_1).cell 0 _ rfl
  have u1 := (by_.ext E1_1).cell 1 _ rfl
  have v0 := (by_.ext E1_1).frozen 0
  have v1 := (by_.ext E1_1).frozen 1
  refine wpL.tail (i := 4) rfl (by kernel_rfl) (by kernel_rfl) (fun K hK => ?_)
  go_simp
  refine hK.out _ _ ?_
  clear hK K
  try simp only [Act.put]
  try simp only [List.setIfInBounds_toArray]
  try simp only [List.set_cons_succ]
  try simp only [List.set_cons_zero]
  refine wpL.tail (i := 5) rfl (by kernel_rfl) (by kernel_rfl) (fun K hK => ?_)
  go_simp
  refine hK.out _ _ ?_
  clear hK K
  try simp only [Act.put]
  try simp only [List.setIfInBounds_toArray]
  try simp only [List.set_cons_succ]
  try simp only [List.set_cons_zero]
  refine wpL.done (by kernel_rfl) ?_ _
  clear hQ
  refine at_exit (fun U => Ext w U ∧ Box U w.heap.size 24 #[.bool s1, .slice A1 n1 c1] ∧ Box U (w.heap.size + 1) 24 #[.bool s2, .slice A2 n2 c2] ∧ Box U (w.heap.size + 1 + 1) 27 #[Value.bool false, Value.slice none 0 0, Value.bool false, Value.slice none 0 0] ∧ NI U (z) L s1 A1 n1 c1 ∧ NI U (y) M s2 A2 n2 c2) ?_ ?_
  · have q1 := fin_dual (s := s1) (A := A1) (n := n1) (c := c1) (bx.ext E1_1)
    have q2 := fin_dual (s := s2) (A := A2) (n := n2) (c := c2) (q1.2.2.2 _ _ _ (by omega) (by_.ext E1_1))
    exact ⟨q2.2.2.1 _ (q1.2.2.1 _ (extW.trans E1_1) (by omega)) (by omega), q2.2.2.2 _ _ _ (by omega) q1.1, q2.1, q2.2.2.2 _ _ _ (by omega) (q1.2.2.2 _ _ _ (by omega) (bz.ext E1_1)), q2.2.1 _ _ _ _ _ _ (q1.2.1 _ _ _ _ _ _ (h1.ext hx1)), q2.2.1 _ _ _ _ _ _ (q1.2.1 _ _ _ _ _ _ h2)⟩
  clear extW bx by_ bz h k
  rintro U ⟨extW, bx, by_, bz, h, k⟩
  have y0 := by_.cell 0 (.bool s2) rfl
  have y1 := by_.cell 1 (.slice A2 n2 c2) rfl
  go_wp2_with fail
  refine (p_Sign k (by omega)).mono ?_
  rintro e V ⟨rfl, hxa⟩
  replace bx := bx.ext hxa
  replace by_ := by_.ext hxa
  replace bz := bz.ext hxa
  replace h := h.ext hxa
  replace k := k.ext hxa
  replace extW := extW.trans hxa
  clear hxa y0 y1
  rw [hs]
  have hE := Ext.refl V
  have z0 := (bz.ext hE).cell 0 _ rfl
  have z1 := (bz.ext hE).cell 1 _ rfl
  have z2 := (bz.ext hE).cell 2 _ rfl
  have z3 := (bz.ext hE).cell 3 _ rfl
  have f0 := (bz.ext hE).frozen 0
  have f1 := (bz.ext hE).frozen 1
  have f2 := (bz.ext hE).frozen 2
  have f3 := (bz.ext hE).frozen 3
  go_wp2_with fail
  obtain ⟨b1, b2, b3, b4⟩ := fin_quad (s := false) (A := none) (n := 0) (c := 0) (t := false) (B := none) (m := 0) (d := 0) (bz.ext hE)
  have r0 := b1.cell 0 (.bool false) rfl
  have r1 := b1.cell 1 (.slice none 0 0) rfl
  have r2 := b1.cell 2 (.bool false) rfl
  have r3 := b1.cell 3 (.slice none 0 0) rfl
  unfold set4 at r0 r1 r2 r3
  refine bodyPost_ret (v := .tuple #[.agg #[.bool false, .slice none 0 0, .bool false, .slice none 0 0], .int .i64 6]) (by simp [results, Tryz.results13, go_sem, r0, r1, r2, r3]) rfl ⟨rfl, b3 _ (extW.trans hE) (by omega)⟩
theorem p_MakeZ_pos (h : RZ w z L s A n c) (k : RZ w y M t B m d) (hL : L ≤ 3000) (hM : M ≤ 3000) (hy : 0 < y) (hT : Tab w) : Calls Tryz.prog 13 #[.agg #[.bool s, .slice A n c], .agg #[.bool t, .slice B m d]] w (RetNRE (mkQ z y) (max L M) w) := by
  have hs : y.sign = 1 := Int.sign_eq_one_of_pos hy
  have hq : mkQ z y = mkRat z y.natAbs := if_neg (by omega)
  rw [hq]
  clear hq
  go_enter Tryz.func13, Tryz.ntmps13
  go_upto_region 1 with (fail)
  obtain ⟨W, hW, extW, bx, by_, bz, hz⟩ := box3 w 24 24 27 #[.bool s, .slice A n c] #[.bool t, .slice B m d] #[Value.bool false, Value.slice none 0 0, Value.bool false, Value.slice none 0 0]
  rw [← hW]
  clear hW
  replace h := h.ext extW
  replace k := k.ext extW
  refine wpL.start 4 (by kernel_rfl) (fun _ _ _ _ _ => ⟨fun h => h, fun h => h⟩) (fun hQ ES => ?_)
  refine wpL.take (i := 0) (d := some 7) (v := ?v0_80) rfl rfl (by kernel_rfl) (by kernel_rfl) (by kernel_rfl) (by kernel_rfl) hQ (Or.inl ⟨by rfl, ?y0_80⟩) ES ?r0_80
  case y0_80 =>
    intro w' hSw
    have k00 := (bx.ext hSw).c2
    have k10 := (by_.ext hSw).c2
    go_simp
    try with_reducible rfl
  try simp only [Act.put]
  try simp only [List.setIfInBounds_toArray]
  try simp only [List.set_cons_succ]
  try simp only [List.set_cons_zero]
  refine wpL.take2 3 (i := 2) (d := some 9) (v := ?v2_81) rfl rfl (by kernel_rfl) (by kernel_rfl) (by kernel_rfl) (by kernel_rfl) hQ (Or.inl ⟨by rfl, ?y2_81⟩) ES ?r2_81
  case y2_81 =>
    intro w' hSw
    have k00 := (bx.ext hSw).c2
    have k10 := (by_.ext hSw).c2
    go_simp
    try with_reducible rfl
  try simp only [Act.put]
  try simp only [List.setIfInBounds_toArray]
  try simp only [List.set_cons_succ]
  try simp only [List.set_cons_zero]
  refine wpL.call (i := 1) rfl (by kernel_rfl) (fun K hK => ?_)
  go_simp
  (go_at_call 52; refine (p_NormZ (h.ext ES) (by omega)).mono ?_; rintro e wk1 ⟨s1, A1, n1, c1, rfl, h1, hx0⟩; have E0_1 := Ext.trans ES hx0)
  refine hK.out _ _ E0_1 ?_
  clear hK K
  try simp only [Act.put]
  try simp only [List.setIfInBounds_toArray]
  try simp only [List.set_cons_succ]
  try simp only [List.set_cons_zero]
  refine wpL.call (i := 3) rfl (by kernel_rfl) (fun K hK => ?_)
  go_simp
  (go_at_call 52; refine (p_NormZ (k.ext E0_1) (by omega)).mono ?_; rintro e wk2 ⟨s2, A2, n2, c2, rfl, h2, hx1⟩; have E1_1 := Ext.trans E0_1 hx1)
  refine hK.out _ _ E1_1 ?_
  clear hK K
  try simp only [Act.put]
  try simp only [List.setIfInBounds_toArray]
  try simp only [List.set_cons_succ]
  try simp only [List.set_cons_zero]
  have z0 := (bx.ext E1_1).cell 0 _ rfl
  have z1 := (bx.ext E1_1).cell 1 _ rfl
  have f0 := (bx.ext E1_1).frozen 0
  have f1 := (bx.ext E1_1).frozen 1
  have u0 := (by_.ext E1_1).cell 0 _ rfl
  have u1 := (by_.ext E1_1).cell 1 _ rfl
  have v0 := (by_.ext E1_1).frozen 0
  have v1 := (by_.ext E1_1).frozen 1
  refine wpL.tail (i := 4) rfl (by kernel_rfl) (by kernel_rfl) (fun K hK => ?_)
  go_simp
  refine hK.out _ _ ?_
  clear hK K
  try simp only [Act.put]
  try simp only [List.setIfInBounds_toArray]
  try simp only [List.set_cons_succ]
  try simp only [List.set_cons_zero]
  refine wpL.tail (i := 5) rfl (by kernel_rfl) (by kernel_rfl) (fun K hK => ?_)
  go_simp
  refine hK.out _ _ ?_
  clear hK K
  try simp only [Act.put]
  try simp only [List.setIfInBounds_toArray]
  try simp only [List.set_cons_succ]
  try simp only [List.set_cons_zero]
  refine wpL.done (by kernel_rfl) ?_ _
  clear hQ
  refine at_exit (fun U => Ext w U ∧ Box U w.heap.size 24 #[.bool s1, .slice A1 n1 c1] ∧ Box U (w.heap.size + 1) 24 #[.bool s2, .slice A2 n2 c2] ∧ Box U (w.heap.size + 1 + 1) 27 #[Value.bool false, Value.slice none 0 0, Value.bool false, Value.slice none 0 0] ∧ NI U (z) L s1 A1 n1 c1 ∧ NI U (y) M s2 A2 n2 c2) ?_ ?_
  · have q1 := fin_dual (s := s1) (A := A1) (n := n1) (c := c1) (bx.ext E1_1)
    have q2 := fin_dual (s := s2) (A := A2) (n := n2) (c := c2) (q1.2.2.2 _ _ _ (by omega) (by_.ext E1_1))
    exact ⟨q2.2.2.1 _ (q1.2.2.1 _ (extW.trans E1_1) (by omega)) (by omega), q2.2.2.2 _ _ _ (by omega) q1.1, q2.1, q2.2.2.2 _ _ _ (by omega) (q1.2.2.2 _ _ _ (by omega) (bz.ext E1_1)), q2.2.1 _ _ _ _ _ _ (q1.2.1 _ _ _ _ _ _ (h1.ext hx1)), q2.2.1 _ _ _ _ _ _ (q1.2.1 _ _ _ _ _ _ h2)⟩
  clear extW bx by_ bz h k
  rintro U ⟨extW, bx, by_, bz, h, k⟩
  have y0 := by_.cell 0 (.bool s2) rfl
  have y1 := by_.cell 1 (.slice A2 n2 c2) rfl
  go_wp2_with fail
  refine (p_Sign k (by omega)).mono ?_
  rintro e V ⟨rfl, hxa⟩
  replace bx := bx.ext hxa
  replace by_ := by_.ext hxa
  replace bz := bz.ext hxa
  replace h := h.ext hxa
  replace k := k.ext hxa
  replace extW := extW.trans hxa
  clear hxa y0 y1
  rw [hs]
  have y0 := by_.cell 0 (.bool s2) rfl
  have y1 := by_.cell 1 (.slice A2 n2 c2) rfl
  go_wp2_with fail
  refine (p_isOne k).mono ?_
  rintro e Vo ⟨rfl, hxo⟩
  replace bx := bx.ext hxo
  replace by_ := by_.ext hxo
  replace bz := bz.ext hxo
  replace h := h.ext hxo
  replace k := k.ext hxo
  replace extW := extW.trans hxo
  clear hxo y0 y1
  by_cases hone : y = 1
  · rw [decide_eq_true hone]
    obtain ⟨m1, m2⟩ := mkRat_parts (z) (D := (y).natAbs) (by omega)
    have hab : (y).natAbs = 1 := by omega
    rw [hab, Nat.gcd_one_right, Nat.div_one] at m2
    rw [hab, Nat.gcd_one_right] at m1
    have m3 : ((mkRat (z) (y).natAbs).num) = z := by rw [hab, m1]; exact Int.ediv_one _
    have m4 : (((mkRat (z) (y).natAbs).den : Nat) : Int) = y := by rw [hab, m2]; exact hone.symm
    have hE := Ext.refl Vo
    have x0 := bx.cell 0 (.bool s1) rfl
    have x1 := bx.cell 1 (.slice A1 n1 c1) rfl
    have y0 := by_.cell 0 (.bool s2) rfl
    have y1 := by_.cell 1 (.slice A2 n2 c2) rfl
    have z0 := (bz.ext hE).cell 0 _ rfl
    have z1 := (bz.ext hE).cell 1 _ rfl
    have z2 := (bz.ext hE).cell 2 _ rfl
    have z3 := (bz.ext hE).cell 3 _ rfl
    have f0 := (bz.ext hE).frozen 0
    have f1 := (bz.ext hE).frozen 1
    have f2 := (bz.ext hE).frozen 2
    have f3 := (bz.ext hE).frozen 3
    go_wp2_with fail
    obtain ⟨b1, b2, b3, b4⟩ := fin_quad (s := s1) (A := A1) (n := n1) (c := c1) (t := s2) (B := A2) (m := n2) (d := c2) (bz.ext hE)
    have r0 := b1.cell 0 (.bool s1) rfl
    have r1 := b1.cell 1 (.slice A1 n1 c1) rfl
    have r2 := b1.cell 2 (.bool s2) rfl
    have r3 := b1.cell 3 (.slice A2 n2 c2) rfl
    unfold set4 at r0 r1 r2 r3
    refine bodyPost_ret (v := .tuple #[.agg #[.bool s1, .slice A1 n1 c1, .bool s2, .slice A2 n2 c2], .int .i64 0]) (by simp [results, Tryz.results13, go_sem, r0, r1, r2, r3]) rfl ⟨s1, A1, n1, c1, s2, A2, n2, c2, rfl, ⟨(b2 _ _ _ _ _ _ (by rw [m3]; exact h)).le (by omega), (b2 _ _ _ _ _ _ (by rw [m4]; exact k)).le (by omega)⟩, b3 _ (extW.trans hE) (by omega)⟩
  rw [decide_eq_false hone]
  clear hone
  have hEo := Ext.refl Vo
  have x0 := bx.cell 0 (.bool s1) rfl
  have x1 := bx.cell 1 (.slice A1 n1 c1) rfl
  have y0 := by_.cell 0 (.bool s2) rfl
  have y1 := by_.cell 1 (.slice A2 n2 c2) rfl
  go_wp2_with fail
  refine (p_GCD h k (by omega) (by omega) (hT.ext extW)).mono ?_
  rintro e we ⟨s4, A4, n4, c4, rfl, hg, hxe⟩
  obtain ⟨g, hge⟩ : ∃ g, Nat.gcd (z).natAbs (y).natAbs = g := ⟨_, rfl⟩
  rw [hge] at hg
  have hgz : g ∣ (z).natAbs := by rw [← hge]; exact Nat.gcd_dvd_left _ _
  have hgy : g ∣ (y).natAbs := by rw [← hge]; exact Nat.gcd_dvd_right _ _
  have hy0 : (y).natAbs ≠ 0 := by omega
  have hg0 : (g : Int) ≠ 0 := by
    intro h0
    have : g = 0 := by omega
    rw [this] at hgy
    exact hy0 (Nat.eq_zero_of_zero_dvd hgy)
  obtain ⟨m1, m2⟩ := mkRat_parts (z) (D := (y).natAbs) hy0
  rw [hge] at m1 m2
  have Hm1 := Lib.hid m1
  have Hm2 := Lib.hid m2
  have Hg0 := Lib.hid hg0
  have Hgz := Lib.hid (Int.ofNat_dvd_left.2 hgz)
  have Hgy := Lib.hid (Int.ofNat_dvd_left.2 hgy)
  have Hya := Lib.hid (show (((y).natAbs : Nat) : Int) = y from Int.natAbs_of_nonneg (by omega))
  clear hge hg0 hgz hgy m1 m2 hy0 x0 x1 y0 y1
  go_upto_region 10 with (fail)
  refine at_world (fun V9 => Ext Vo V9 ∧ Box V9 we.heap.size 24 #[.bool s4, .slice A4 n4 c4] ∧ NI V9 (g : Int) (max L M) s4 A4 n4 c4) ⟨hxe.alloc _, Box.new we _ _, hg.ext ((Ext.refl we).alloc _)⟩ ?_
  generalize we.heap.size = g8
  clear hxe hg
  rintro V9 ⟨EV, b8, hg⟩
  replace bx := bx.ext EV
  replace by_ := by_.ext EV
  replace bz := bz.ext EV
  replace h := h.ext EV
  replace k := k.ext EV
  replace extW := extW.trans EV
  clear EV
  go_wp2_with fail
  refine wpL.start 7 (by kernel_rfl) (fun _ _ _ _ _ => ⟨fun h => h, fun h => h⟩) (fun hQ ES => ?_)
  refine wpL.take (i := 0) (d := some 30) (v := ?v0_82) rfl rfl (by kernel_rfl) (by kernel_rfl) (by kernel_rfl) (by kernel_rfl) hQ (Or.inl ⟨by rfl, ?y0_82⟩) ES ?r0_82
  case y0_82 =>
    intro w' hSw
    have k00 := (bx.ext hSw).c2
    have k10 := (by_.ext hSw).c2
    have k20 := (b8.ext hSw).c2
    go_simp
    try with_reducible rfl
  try simp only [Act.put]
  try simp only [List.setIfInBounds_toArray]
  try simp only [List.set_cons_succ]
  try simp only [List.set_cons_zero]
  refine wpL.take (i := 1) (d := some 31) (v := ?v1_83) rfl rfl (by kernel_rfl) (by kernel_rfl) (by kernel_rfl) (by kernel_rfl) hQ (Or.inl ⟨by rfl, ?y1_83⟩) ES ?r1_83
  case y1_83 =>
    intro w' hSw
    have k00 := (bx.ext hSw).c2
    have k10 := (by_.ext hSw).c2
    have k20 := (b8.ext hSw).c2
    go_simp
    try with_reducible rfl
  try simp only [Act.put]
  try simp only [List.setIfInBounds_toArray]
  try simp only [List.set_cons_succ]
  try simp only [List.set_cons_zero]
  refine wpL.take (i := 3) (d := some 33) (v := ?v3_84) rfl rfl (by kernel_rfl) (by kernel_rfl) (by kernel_rfl) (by kernel_rfl) hQ (Or.inl ⟨by rfl, ?y3_84⟩) ES ?r3_84
  case y3_84 =>
    intro w' hSw
    have k00 := (bx.ext hSw).c2
    have k10 := (by_.ext hSw).c2
    have k20 := (b8.ext hSw).c2
    go_simp
    try with_reducible rfl
  try simp only [Act.put]
  try simp only [List.setIfInBounds_toArray]
  try simp only [List.set_cons_succ]
  try simp only [List.set_cons_zero]
  refine wpL.take (i := 4) (d := some 34) (v := ?v4_85) rfl rfl (by kernel_rfl) (by kernel_rfl) (by kernel_rfl) (by kernel_rfl) hQ (Or.inl ⟨by rfl, ?y4_85⟩) ES ?r4_85
  case y4_85 =>
    intro w' hSw
    have k00 := (bx.ext hSw).c2
    have k10 := (by_.ext hSw).c2
    have k20 := (b8.ext hSw).c2
    go_simp
    try with_reducible rfl
  try simp only [Act.put]
  try simp only [List.setIfInBounds_toArray]
  try simp only [List.set_cons_succ]
  try simp only [List.set_cons_zero]
  refine wpL.call (i := 2) rfl (by kernel_rfl) (fun K hK => ?_)
  go_simp
  (go_at_call 57; refine (p_divide (h.ext ES) (hg.ext ES) (by omega) (by omega) Hg0.out Hgz.out).mono ?_; rintro e wk5 ⟨s5, A5, n5, c5, rfl, h5, hx0⟩; have E0_10 := Ext.trans ES hx0)
  refine hK.out _ _ E0_10 ?_
  clear hK K
  try simp only [Act.put]
  try simp only [List.setIfInBounds_toArray]
  try simp only [List.set_cons_succ]
  try simp only [List.set_cons_zero]
  refine wpL.call (i := 5) rfl (by kernel_rfl) (fun K hK => ?_)
  go_simp
  (go_at_call 57; refine (p_divide (k.ext E0_10) (hg.ext E0_10) (by omega) (by omega) Hg0.out Hgy.out).mono ?_; rintro e wk6 ⟨s6, A6, n6, c6, rfl, h6, hx1⟩; have E1_10 := Ext.trans E0_10 hx1)
  refine hK.out _ _ E1_10 ?_
  clear hK K
  try simp only [Act.put]
  try simp only [List.setIfInBounds_toArray]
  try simp only [List.set_cons_succ]
  try simp only [List.set_cons_zero]
  refine wpL.take (i := 6) (d := some 36) (v := ?v6_86) rfl rfl (by kernel_rfl) (by kernel_rfl) (by kernel_rfl) (by kernel_rfl) hQ (Or.inl ⟨by rfl, ?y6_86⟩) E1_10 ?r6_86
  case y6_86 =>
    intro w' hSw
    have k00 := (bx.ext hSw).c2
    have k10 := (by_.ext hSw).c2
    have k20 := (b8.ext hSw).c2
    go_simp
    try with_reducible rfl
  try simp only [Act.put]
  try simp only [List.setIfInBounds_toArray]
  try simp only [List.set_cons_succ]
  try simp only [List.set_cons_zero]
  have z0 := (bz.ext E1_10).cell 0 _ rfl
  have z1 := (bz.ext E1_10).cell 1 _ rfl
  have z2 := (bz.ext E1_10).cell 2 _ rfl
  have z3 := (bz.ext E1_10).cell 3 _ rfl
  have f0 := (bz.ext E1_10).frozen 0
  have f1 := (bz.ext E1_10).frozen 1
  have f2 := (bz.ext E1_10).frozen 2
  have f3 := (bz.ext E1_10).frozen 3
  refine wpL.tail (i := 7) rfl (by kernel_rfl) (by kernel_rfl) (fun K hK => ?_)
  go_simp
  refine hK.out _ _ ?_
  clear hK K
  try simp only [Act.put]
  try simp only [List.setIfInBounds_toArray]
  try simp only [List.set_cons_succ]
  try simp only [List.set_cons_zero]
  refine wpL.tail (i := 8) rfl (by kernel_rfl) (by kernel_rfl) (fun K hK => ?_)
  go_simp
  refine hK.out _ _ ?_
  clear hK K
  try simp only [Act.put]
  try simp only [List.setIfInBounds_toArray]
  try simp only [List.set_cons_succ]
  try simp only [List.set_cons_zero]
  refine wpL.done (by kernel_rfl) ?_ _
  clear hQ
  go_wp2_with fail
  have hk1 : (y) / (g : Int) = ((mkRat (z) (y).natAbs).den : Int) := by rw [Hm2.out, Int.natCast_ediv, Hya.out]
  rw [hk1] at h6
  rw [← Hm1.out] at h5
  obtain ⟨b1, b2, b3, b4⟩ := fin_quad (s := s5) (A := A5) (n := n5) (c := c5) (t := s6) (B := A6) (m := n6) (d := c6) (bz.ext E1_10)
  have r0 := b1.cell 0 (.bool s5) rfl
  have r1 := b1.cell 1 (.slice A5 n5 c5) rfl
  have r2 := b1.cell 2 (.bool s6) rfl
  have r3 := b1.cell 3 (.slice A6 n6 c6) rfl
  unfold set4 at r0 r1 r2 r3
  refine bodyPost_ret (v := .tuple #[.agg #[.bool s5, .slice A5 n5 c5, .bool s6, .slice A6 n6 c6], .int .i64 0]) (by simp [results, Tryz.results13, go_sem, r0, r1, r2, r3]) rfl ⟨s5, A5, n5, c5, s6, A6, n6, c6, rfl, ⟨(b2 _ _ _ _ _ _ (h5.ext hx1)).le (by omega), (b2 _ _ _ _ _ _ h6).le (by omega)⟩, b3 _ (extW.trans E1_10) (by omega)⟩
theorem p_MakeZ_neg (h : RZ w z L s A n c) (k : RZ w y M t B m d) (hL : L ≤ 3000) (hM : M ≤ 3000) (hy : y < 0) (hT : Tab w) : Calls Tryz.prog 13 #[.agg #[.bool s, .slice A n c], .agg #[.bool t, .slice B m d]] w (RetNRE (mkQ z y) (max L M) w) := by
  have hs : y.sign = -1 := Int.sign_eq_neg_one_of_neg hy
  have hq : mkQ z y = mkRat (-z) (-y).natAbs := if_pos hy
  rw [hq]
  clear hq
  go_enter Tryz.func13, Tryz.ntmps13
  go_upto_region 1 with (fail)
  obtain ⟨W, hW, extW, bx, by_, bz, hz⟩ := box3 w 24 24 27 #[.bool s, .slice A n c] #[.bool t, .slice B m d] #[Value.bool false, Value.slice none 0 0, Value.bool false, Value.slice none 0 0]
  rw [← hW]
  clear hW
  replace h := h.ext extW
  replace k := k.ext extW
  refine wpL.start 4 (by kernel_rfl) (fun _ _ _ _ _ => ⟨fun h => h, fun h => h⟩) (fun hQ ES => ?_)
  refine wpL.take (i := 0) (d := some 7) (v := ?v0_87) rfl rfl (by kernel_rfl) (by kernel_rfl) (by kernel_rfl) (by kernel_rfl) hQ (Or.inl ⟨by rfl, ?y0_87⟩) ES ?r0_87
  case y0_87 =>
    intro w' hSw
    have k00 := (bx.ext hSw).c2
    have k10 := (by_.ext hSw).c2
    go_simp
    try with_reducible rfl
  try simp only [Act.put]
  try simp only [List.setIfInBounds_toArray]
  try simp only [List.set_cons_succ]
  try simp only [List.set_cons_zero]
  refine wpL.take2 3 (i := 2) (d := some 9) (v := ?v2_88) rfl rfl (by kernel_rfl) (by kernel_rfl) (by kernel_rfl) (by kernel_rfl) hQ (Or.inl ⟨by rfl, ?y2_88⟩) ES ?r2_88
  case y2_88 =>
    intro w' hSw
    have k00 := (bx.ext hSw).c2
    have k10 := (by_.ext hSw).c2
    go_simp
    try with_reducible rfl
  try simp only [Act.put]
  try simp only [List.setIfInBounds_toArray]
  try simp only [List.set_cons_succ]
  try simp only [List.set_cons_zero]
  refine wpL.call (i := 1) rfl (by kernel_rfl) (fun K hK => ?_)
  go_simp
  (go_at_call 52; refine (p_NormZ (h.ext ES) (by omega)).mono ?_; rintro e wk1 ⟨s1, A1, n1, c1, rfl, h1, hx0⟩; have E0_1 := Ext.trans ES hx0)
  refine hK.out _ _ E0_1 ?_
  clear hK K
  try simp only [Act.put]
  try simp only [List.setIfInBounds_toArray]
  try simp only [List.set_cons_succ]
  try simp only [List.set_cons_zero]
  refine wpL.call (i := 3) rfl (by kernel_rfl) (fun K hK => ?_)
  go_simp
  (go_at_call 52; refine (p_NormZ (k.ext E0_1) (by omega)).mono ?_; rintro e wk2 ⟨s2, A2, n2, c2, rfl, h2, hx1⟩; have E1_1 := Ext.trans E0_1 hx1)
  refine hK.out _ _ E1_1 ?_
  clear hK K
  try simp only [Act.put]
  try simp only [List.setIfInBounds_toArray]
  try simp only [List.set_cons_succ]
  try simp only [List.set_cons_zero]
  have z0 := (bx.ext E1_1).cell 0 _ rfl
  have z1 := (bx.ext E1_1).cell 1 _ rfl
  have f0 := (bx.ext E1_1).frozen 0
  have f1 := (bx.ext E1_1).frozen 1
  have u0 := (by_.ext E1_1).cell 0 _ rfl
  have u1 := (by_.ext E1_1).cell 1 _ rfl
  have v0 := (by_.ext E1_1).frozen 0
  have v1 := (by_.ext E1_1).frozen 1
  refine wpL.tail (i := 4) rfl (by kernel_rfl) (by kernel_rfl) (fun K hK => ?_)
  go_simp
  refine hK.out _ _ ?_
  clear hK K
  try simp only [Act.put]
  try simp only [List.setIfInBounds_toArray]
  try simp only [List.set_cons_succ]
  try simp only [List.set_cons_zero]
  refine wpL.tail (i := 5) rfl (by kernel_rfl) (by kernel_rfl) (fun K hK => ?_)
  go_simp
  refine hK.out _ _ ?_
  clear hK K
  try simp only [Act.put]
  try simp only [List.setIfInBounds_toArray]
  try simp only [List.set_cons_succ]
  try simp only [List.set_cons_zero]
  refine wpL.done (by kernel_rfl) ?_ _
  clear hQ
  refine at_exit (fun U => Ext w U ∧ Box U w.heap.size 24 #[.bool s1, .slice A1 n1 c1] ∧ Box U (w.heap.size + 1) 24 #[.bool s2, .slice A2 n2 c2] ∧ Box U (w.heap.size + 1 + 1) 27 #[Value.bool false, Value.slice none 0 0, Value.bool false, Value.slice none 0 0] ∧ NI U (z) L s1 A1 n1 c1 ∧ NI U (y) M s2 A2 n2 c2) ?_ ?_
  · have q1 := fin_dual (s := s1) (A := A1) (n := n1) (c := c1) (bx.ext E1_1)
    have q2 := fin_dual (s := s2) (A := A2) (n := n2) (c := c2) (q1.2.2.2 _ _ _ (by omega) (by_.ext E1_1))
    exact ⟨q2.2.2.1 _ (q1.2.2.1 _ (extW.trans E1_1) (by omega)) (by omega), q2.2.2.2 _ _ _ (by omega) q1.1, q2.1, q2.2.2.2 _ _ _ (by omega) (q1.2.2.2 _ _ _ (by omega) (bz.ext E1_1)), q2.2.1 _ _ _ _ _ _ (q1.2.1 _ _ _ _ _ _ (h1.ext hx1)), q2.2.1 _ _ _ _ _ _ (q1.2.1 _ _ _ _ _ _ h2)⟩
  clear extW bx by_ bz h k
  rintro U ⟨extW, bx, by_, bz, h, k⟩
  have y0 := by_.cell 0 (.bool s2) rfl
  have y1 := by_.cell 1 (.slice A2 n2 c2) rfl
  go_wp2_with fail
  refine (p_Sign k (by omega)).mono ?_
  rintro e V ⟨rfl, hxa⟩
  replace bx := bx.ext hxa
  replace by_ := by_.ext hxa
  replace bz := bz.ext hxa
  replace h := h.ext hxa
  replace k := k.ext hxa
  replace extW := extW.trans hxa
  clear hxa y0 y1
  rw [hs]
  go_upto_region 6 with (fail)
  refine wpL.start 4 (by kernel_rfl) (fun _ _ _ _ _ => ⟨fun h => h, fun h => h⟩) (fun hQ ES => ?_)
  refine wpL.take (i := 0) (d := some 18) (v := ?v0_76) rfl rfl (by kernel_rfl) (by kernel_rfl) (by kernel_rfl) (by kernel_rfl) hQ (Or.inl ⟨by rfl, ?y0_76⟩) ES ?r0_76
  case y0_76 =>
    intro w' hSw
    have k00 := (bx.ext hSw).c2
    have k10 := (by_.ext hSw).c2
    go_simp
    try with_reducible rfl
  try simp only [Act.put]
  try simp only [List.setIfInBounds_toArray]
  try simp only [List.set_cons_succ]
  try simp only [List.set_cons_zero]
  refine wpL.take2 3 (i := 2) (d := some 20) (v := ?v2_77) rfl rfl (by kernel_rfl) (by kernel_rfl) (by kernel_rfl) (by kernel_rfl) hQ (Or.inl ⟨by rfl, ?y2_77⟩) ES ?r2_77
  case y2_77 =>
    intro w' hSw
    have k00 := (bx.ext hSw).c2
    have k10 := (by_.ext hSw).c2
    go_simp
    try with_reducible rfl
  try simp only [Act.put]
  try simp only [List.setIfInBounds_toArray]
  try simp only [List.set_cons_succ]
  try simp only [List.set_cons_zero]
  refine wpL.call (i := 1) rfl (by kernel_rfl) (fun K hK => ?_)
  go_simp
  (go_at_call 54; refine (p_Neg (h.ext ES) (by omega)).mono ?_; rintro e wk3 ⟨s3, A3, n3, c3, rfl, h1, hx0⟩; have E0_6 := Ext.trans ES hx0)
  refine hK.out _ _ E0_6 ?_
  clear hK K
  try simp only [Act.put]
  try simp only [List.setIfInBounds_toArray]
  try simp only [List.set_cons_succ]
  try simp only [List.set_cons_zero]
  refine wpL.call (i := 3) rfl (by kernel_rfl) (fun K hK => ?_)
  go_simp
  (go_at_call 54; refine (p_Neg (k.ext E0_6) (by omega)).mono ?_; rintro e wk4 ⟨s3', A3', n3', c3', rfl, h2, hx1⟩; have E1_6 := Ext.trans E0_6 hx1)
  refine hK.out _ _ E1_6 ?_
  clear hK K
  try simp only [Act.put]
  try simp only [List.setIfInBounds_toArray]
  try simp only [List.set_cons_succ]
  try simp only [List.set_cons_zero]
  have z0 := (bx.ext E1_6).cell 0 _ rfl
  have z1 := (bx.ext E1_6).cell 1 _ rfl
  have f0 := (bx.ext E1_6).frozen 0
  have f1 := (bx.ext E1_6).frozen 1
  have u0 := (by_.ext E1_6).cell 0 _ rfl
  have u1 := (by_.ext E1_6).cell 1 _ rfl
  have v0 := (by_.ext E1_6).frozen 0
  have v1 := (by_.ext E1_6).frozen 1
  refine wpL.tail (i := 4) rfl (by kernel_rfl) (by kernel_rfl) (fun K hK => ?_)
  go_simp
  refine hK.out _ _ ?_
  clear hK K
  try simp only [Act.put]
  try simp only [List.setIfInBounds_toArray]
  try simp only [List.set_cons_succ]
  try simp only [List.set_cons_zero]
  refine wpL.tail (i := 5) rfl (by kernel_rfl) (by kernel_rfl) (fun K hK => ?_)
  go_simp
  refine hK.out _ _ ?_
  clear hK K
  try simp only [Act.put]
  try simp only [List.setIfInBounds_toArray]
  try simp only [List.set_cons_succ]
  try simp only [List.set_cons_zero]
  refine wpL.done (by kernel_rfl) ?_ _
  clear hQ
  refine at_exit (fun V2 => Ext w V2 ∧ Box V2 w.heap.size 24 #[.bool s3, .slice A3 n3 c3] ∧ Box V2 (w.heap.size + 1) 24 #[.bool s3', .slice A3' n3' c3'] ∧ Box V2 (w.heap.size + 1 + 1) 27 #[Value.bool false, Value.slice none 0 0, Value.bool false, Value.slice none 0 0] ∧ NI V2 (-z) L s3 A3 n3 c3 ∧ NI V2 (-y) M s3' A3' n3' c3') ?_ ?_
  · have q1 := fin_dual (s := s3) (A := A3) (n := n3) (c := c3) (bx.ext E1_6)
    have q2 := fin_dual (s := s3') (A := A3') (n := n3') (c := c3') (q1.2.2.2 _ _ _ (by omega) (by_.ext E1_6))
    exact ⟨q2.2.2.1 _ (q1.2.2.1 _ (extW.trans E1_6) (by omega)) (by omega), q2.2.2.2 _ _ _ (by omega) q1.1, q2.1, q2.2.2.2 _ _ _ (by omega) (q1.2.2.2 _ _ _ (by omega) (bz.ext E1_6)), q2.2.1 _ _ _ _ _ _ (q1.2.1 _ _ _ _ _ _ (h1.ext hx1)), q2.2.1 _ _ _ _ _ _ (q1.2.1 _ _ _ _ _ _ h2)⟩
  clear extW bx by_ bz h k
  rintro V2 ⟨extW, bx, by_, bz, h, k⟩
  have y0 := by_.cell 0 (.bool s3') rfl
  have y1 := by_.cell 1 (.slice A3' n3' c3') rfl
  go_wp2_with fail
  refine (p_isOne k).mono ?_
  rintro e V2o ⟨rfl, hxo⟩
  replace bx := bx.ext hxo
  replace by_ := by_.ext hxo
  replace bz := bz.ext hxo
  replace h := h.ext hxo
  replace k := k.ext hxo
  replace extW := extW.trans hxo
  clear hxo y0 y1
  by_cases hone : -y = 1
  · rw [decide_eq_true hone]
    obtain ⟨m1, m2⟩ := mkRat_parts (-z) (D := (-y).natAbs) (by omega)
    have hab : (-y).natAbs = 1 := by omega
    rw [hab, Nat.gcd_one_right, Nat.div_one] at m2
    rw [hab, Nat.gcd_one_right] at m1
    have m3 : ((mkRat (-z) (-y).natAbs).num) = -z := by rw [hab, m1]; exact Int.ediv_one _
    have m4 : (((mkRat (-z) (-y).natAbs).den : Nat) : Int) = -y := by rw [hab, m2]; exact hone.symm
    have hE := Ext.refl V2o
    have x0 := bx.cell 0 (.bool s3) rfl
    have x1 := bx.cell 1 (.slice A3 n3 c3) rfl
    have y0 := by_.cell 0 (.bool s3') rfl
    have y1 := by_.cell 1 (.slice A3' n3' c3') rfl
    have z0 := (bz.ext hE).cell 0 _ rfl
    have z1 := (bz.ext hE).cell 1 _ rfl
    have z2 := (bz.ext hE).cell 2 _ rfl
    have z3 := (bz.ext hE).cell 3 _ rfl
    have f0 := (bz.ext hE).frozen 0
    have f1 := (bz.ext hE).frozen 1
    have f2 := (bz.ext hE).frozen 2
    have f3 := (bz.ext hE).frozen 3
    go_wp2_with fail
    obtain ⟨b1, b2, b3, b4⟩ := fin_quad (s := s3) (A := A3) (n := n3) (c := c3) (t := s3') (B := A3') (m := n3') (d := c3') (bz.ext hE)
    have r0 := b1.cell 0 (.bool s3) rfl
    have r1 := b1.cell 1 (.slice A3 n3 c3) rfl
    have r2 := b1.cell 2 (.bool s3') rfl
    have r3 := b1.cell 3 (.slice A3' n3' c3') rfl
    unfold set4 at r0 r1 r2 r3
    refine bodyPost_ret (v := .tuple #[.agg #[.bool s3, .slice A3 n3 c3, .bool s3', .slice A3' n3' c3'], .int .i64 0]) (by simp [results, Tryz.results13, go_sem, r0, r1, r2, r3]) rfl ⟨s3, A3, n3, c3, s3', A3', n3', c3', rfl, ⟨(b2 _ _ _ _ _ _ (by rw [m3]; exact h)).le (by omega), (b2 _ _ _ _ _ _ (by rw [m4]; exact k)).le (by omega)⟩, b3 _ (extW.trans hE) (by omega)⟩
  rw [decide_eq_false hone]
  clear hone
  have hEo := Ext.refl V2o
  have x0 := bx.cell 0 (.bool s3) rfl
  have x1 := bx.cell 1 (.slice A3 n3 c3) rfl
  have y0 := by_.cell 0 (.bool s3') rfl
  have y1 := by_.cell 1 (.slice A3' n3' c3') rfl
  go_wp2_with fail
  refine (p_GCD h k (by omega) (by omega) (hT.ext extW)).mono ?_
  rintro e we ⟨s4, A4, n4, c4, rfl, hg, hxe⟩
  obtain ⟨g, hge⟩ : ∃ g, Nat.gcd (-z).natAbs (-y).natAbs = g := ⟨_, rfl⟩
  rw [hge] at hg
  have hgz : g ∣ (-z).natAbs := by rw [← hge]; exact Nat.gcd_dvd_left _ _
  have hgy : g ∣ (-y).natAbs := by rw [← hge]; exact Nat.gcd_dvd_right _ _
  have hy0 : (-y).natAbs ≠ 0 := by omega
  have hg0 : (g : Int) ≠ 0 := by
    intro h0
    have : g = 0 := by omega
    rw [this] at hgy
    exact hy0 (Nat.eq_zero_of_zero_dvd hgy)
  obtain ⟨m1, m2⟩ := mkRat_parts (-z) (D := (-y).natAbs) hy0
  rw [hge] at m1 m2
  have Hm1 := Lib.hid m1
  have Hm2 := Lib.hid m2
  have Hg0 := Lib.hid hg0
  have Hgz := Lib.hid (Int.ofNat_dvd_left.2 hgz)
  have Hgy := Lib.hid (Int.ofNat_dvd_left.2 hgy)
  have Hya := Lib.hid (show (((-y).natAbs : Nat) : Int) = -y from Int.natAbs_of_nonneg (by omega))
  clear hge hg0 hgz hgy m1 m2 hy0 x0 x1 y0 y1
  go_upto_region 10 with (fail)
  refine at_world (fun V9 => Ext V2o V9 ∧ Box V9 we.heap.size 24 #[.bool s4, .slice A4 n4 c4] ∧ NI V9 (g : Int) (max L M) s4 A4 n4 c4) ⟨hxe.alloc _, Box.new we _ _, hg.ext ((Ext.refl we).alloc _)⟩ ?_
  generalize we.heap.size = g8
  clear hxe hg
  rintro V9 ⟨EV, b8, hg⟩
  replace bx := bx.ext EV
  replace by_ := by_.ext EV
  replace bz := bz.ext EV
  replace h := h.ext EV
  replace k := k.ext EV
  replace extW := extW.trans EV
  clear EV
  go_wp2_with fail
  refine wpL.start 7 (by kernel_rfl) (fun _ _ _ _ _ => ⟨fun h => h, fun h => h⟩) (fun hQ ES => ?_)
  refine wpL.take (i := 0) (d := some 30) (v := ?v0_89) rfl rfl (by kernel_rfl) (by kernel_rfl) (by kernel_rfl) (by kernel_rfl) hQ (Or.inl ⟨by rfl, ?y0_89⟩) ES ?r0_89
  case y0_89 =>
    intro w' hSw
    have k00 := (bx.ext hSw).c2
    have k10 := (by_.ext hSw).c2
    have k20 := (b8.ext hSw).c2
    go_simp
    try with_reducible rfl
  try simp only [Act.put]
  try simp only [List.setIfInBounds_toArray]
  try simp only [List.set_cons_succ]
  try simp only [List.set_cons_zero]
  refine wpL.take (i := 1) (d := some 31) (v := ?v1_90) rfl rfl (by kernel_rfl) (by kernel_rfl) (by kernel_rfl) (by kernel_rfl) hQ (Or.inl ⟨by rfl, ?y1_90⟩) ES ?r1_90
  case y1_90 =>
    intro w' hSw
    have k00 := (bx.ext hSw).c2
    have k10 := (by_.ext hSw).c2
    have k20 := (b8.ext hSw).c2
    go_simp
    try with_reducible rfl
  try simp only [Act.put]
  try simp only [List.setIfInBounds_toArray]
  try simp only [List.set_cons_succ]
  try simp only [List.set_cons_zero]
  refine wpL.take (i := 3) (d := some 33) (v := ?v3_91) rfl rfl (by kernel_rfl) (by kernel_rfl) (by kernel_rfl) (by kernel_rfl) hQ (Or.inl ⟨by rfl, ?y3_91⟩) ES ?r3_91
  case y3_91 =>
    intro w' hSw
    have k00 := (bx.ext hSw).c2
    have k10 := (by_.ext hSw).c2
    have k20 := (b8.ext hSw).c2
    go_simp
    try with_reducible rfl
  try simp only [Act.put]
  try simp only [List.setIfInBounds_toArray]
  try simp only [List.set_cons_succ]
  try simp only [List.set_cons_zero]
  refine wpL.take (i := 4) (d := some 34) (v := ?v4_92) rfl rfl (by kernel_rfl) (by kernel_rfl) (by kernel_rfl) (by kernel_rfl) hQ (Or.inl ⟨by rfl, ?y4_92⟩) ES ?r4_92
  case y4_92 =>
    intro w' hSw
    have k00 := (bx.ext hSw).c2
    have k10 := (by_.ext hSw).c2
    have k20 := (b8.ext hSw).c2
    go_simp
    try with_reducible rfl
  try simp only [Act.put]
  try simp only [List.setIfInBounds_toArray]
  try simp only [List.set_cons_succ]
  try simp only [List.set_cons_zero]
  refine wpL.call (i := 2) rfl (by kernel_rfl) (fun K hK => ?_)
  go_simp
  (go_at_call 57; refine (p_divide (h.ext ES) (hg.ext ES) (by omega) (by omega) Hg0.out Hgz.out).mono ?_; rintro e wk5 ⟨s5, A5, n5, c5, rfl, h5, hx0⟩; have E0_10 := Ext.trans ES hx0)
  refine hK.out _ _ E0_10 ?_
  clear hK K
  try simp only [Act.put]
  try simp only [List.setIfInBounds_toArray]
  try simp only [List.set_cons_succ]
  try simp only [List.set_cons_zero]
  refine wpL.call (i := 5) rfl (by kernel_rfl) (fun K hK => ?_)
  go_simp
  (go_at_call 57; refine (p_divide (k.ext E0_10) (hg.ext E0_10) (by omega) (by omega) Hg0.out Hgy.out).mono ?_; rintro e wk6 ⟨s6, A6, n6, c6, rfl, h6, hx1⟩; have E1_10 := Ext.trans E0_10 hx1)
  refine hK.out _ _ E1_10 ?_
  clear hK K
  try simp only [Act.put]
  try simp only [List.setIfInBounds_toArray]
  try simp only [List.set_cons_succ]
  try simp only [List.set_cons_zero]
  refine wpL.take (i := 6) (d := some 36) (v := ?v6_93) rfl rfl (by kernel_rfl) (by kernel_rfl) (by kernel_rfl) (by kernel_rfl) hQ (Or.inl ⟨by rfl, ?y6_93⟩) E1_10 ?r6_93
  case y6_93 =>
    intro w' hSw
    have k00 := (bx.ext hSw).c2
    have k10 := (by_.ext hSw).c2
    have k20 := (b8.ext hSw).c2
    go_simp
    try with_reducible rfl
  try simp only [Act.put]
  try simp only [List.setIfInBounds_toArray]
  try simp only [List.set_cons_succ]
  try simp only [List.set_cons_zero]
  have z0 := (bz.ext E1_10).cell 0 _ rfl
  have z1 := (bz.ext E1_10).cell 1 _ rfl
  have z2 := (bz.ext E1_10).cell 2 _ rfl
  have z3 := (bz.ext E1_10).cell 3 _ rfl
  have f0 := (bz.ext E1_10).frozen 0
  have f1 := (bz.ext E1_10).frozen 1
  have f2 := (bz.ext E1_10).frozen 2
  have f3 := (bz.ext E1_10).frozen 3
  refine wpL.tail (i := 7) rfl (by kernel_rfl) (by kernel_rfl) (fun K hK => ?_)
  go_simp
  refine hK.out _ _ ?_
  clear hK K
  try simp only [Act.put]
  try simp only [List.setIfInBounds_toArray]
  try simp only [List.set_cons_succ]
  try simp only [List.set_cons_zero]
  refine wpL.tail (i := 8) rfl (by kernel_rfl) (by kernel_rfl) (fun K hK => ?_)
  go_simp
  refine hK.out _ _ ?_
  clear hK K
  try simp only [Act.put]
  try simp only [List.setIfInBounds_toArray]
  try simp only [List.set_cons_succ]
  try simp only [List.set_cons_zero]
  refine wpL.done (by kernel_rfl) ?_ _
  clear hQ
  go_wp2_with fail
  have hk1 : (-y) / (g : Int) = ((mkRat (-z) (-y).natAbs).den : Int) := by rw [Hm2.out, Int.natCast_ediv, Hya.out]
  rw [hk1] at h6
  rw [← Hm1.out] at h5
  obtain ⟨b1, b2, b3, b4⟩ := fin_quad (s := s5) (A := A5) (n := n5) (c := c5) (t := s6) (B := A6) (m := n6) (d := c6) (bz.ext E1_10)
  have r0 := b1.cell 0 (.bool s5) rfl
  have r1 := b1.cell 1 (.slice A5 n5 c5) rfl
  have r2 := b1.cell 2 (.bool s6) rfl
  have r3 := b1.cell 3 (.slice A6 n6 c6) rfl
  unfold set4 at r0 r1 r2 r3
  refine bodyPost_ret (v := .tuple #[.agg #[.bool s5, .slice A5 n5 c5, .bool s6, .slice A6 n6 c6], .int .i64 0]) (by simp [results, Tryz.results13, go_sem, r0, r1, r2, r3]) rfl ⟨s5, A5, n5, c5, s6, A6, n6, c6, rfl, ⟨(b2 _ _ _ _ _ _ (h5.ext hx1)).le (by omega), (b2 _ _ _ _ _ _ h6).le (by omega)⟩, b3 _ (extW.trans E1_10) (by omega)⟩
theorem p_MakeZ_nz (h : RZ w z L s A n c) (k : RZ w y M t B m d) (hL : L ≤ 3000) (hM : M ≤ 3000) (hy : y ≠ 0) (hT : Tab w) : Calls Tryz.prog 13 #[.agg #[.bool s, .slice A n c], .agg #[.bool t, .slice B m d]] w (RetNRE (mkQ z y) (max L M) w) := by
  rcases Int.lt_trichotomy y 0 with h1 | h1 | h1
  · exact p_MakeZ_neg h k hL hM h1 hT
  · exact absurd h1 hy
  · exact p_MakeZ_pos h k hL hM h1 hT
end
end Go.Proofs.YtiioodgpkdbndaaGreatDoor
namespace Go.Proofs.YtiioodgpkdbndaaGreatDoor
open Go.RowKit
attribute [local go_sem ↓] Go.wp_at_zero Go.wp_at_succ
section
variable {w w' : World} {q p r : Rat} {L : Nat} {s t s' t' u u' : Bool} {A B A' B' C D : Option Addr} {n c m d n' c' m' d' l e0 l' e' : Nat} {xs ys xs' ys' zs zs' : List Nat}
variable {z y : Int}
set_option maxHeartbeats 16000000 in
set_option maxRecDepth 100000 in
theorem make_z (hA : Awake2) (hT : Tab w) (hP : TabP w) (h : RZ w z n s A n c) (k : RZ w y m t B m d) (h1 : n ≤ 20) (h2 : m ≤ 20) (hy : y = 0) :
    Calls Tryz.prog 3 #[.agg #[.bool s, .slice A n c], .agg #[.bool t, .slice B m d]] w fun e w' => e = .returned (.bool true) ∧ Ext w w' := by
  have Hy := Lib.hid hy
  clear hy
  have HA := Lib.hid hA
  clear hA
  go_enter Tryz.func3, Tryz.ntmps3
  go_upto_region 1 with (fail)
  obtain ⟨W0, hW, extW, bx, by_, hzz⟩ := box2 w 24 24 #[.bool s, .slice A n c] #[.bool t, .slice B m d]
  rw [← hW]
  clear hW hzz
  go_wp2_with fail
  refine (HA.out _ (hT.ext extW) (hP.ext extW)).mono ?_
  rintro e W ⟨rfl, hxt⟩
  replace bx := bx.ext hxt
  replace by_ := by_.ext hxt
  replace extW := extW.trans hxt
  clear hxt
  have bx0 := bx.cell 0 (.bool s) rfl
  have bx1 := bx.cell 1 (.slice A n c) rfl
  have by_0 := by_.cell 0 (.bool t) rfl
  have by_1 := by_.cell 1 (.slice B m d) rfl
  go_upto_region 3 with (fail)
  clear bx0 bx1 by_0 by_1
  replace h := h.ext extW
  replace k := k.ext extW
  have ES0 := Ext.refl W
  refine wp_region_held_drew (S := Ext W) (by kernel_rfl) ES0.drew (fun ES => ?_)
  clear ES0
  refine Late.start1 (x := ⟨8, 5, 27, #[Value.bool false, Value.slice none 0 0, Value.bool false, Value.slice none 0 0]⟩) (n := 10) ⟨_, rfl, rfl, rfl, fun a w => by go_simp⟩ (fun _ _ _ _ _ => ⟨fun h => h, fun h => h⟩) ES rfl (fun hAl hQ => ?_)
  refine Late.take (i := 0) (d := some 25) (v := ?v0_29) rfl rfl (by kernel_rfl) (by kernel_rfl) (by kernel_rfl) (by kernel_rfl) hQ (Or.inl ⟨by rfl, ?y0_29⟩) ?r0_29
  case y0_29 =>
    intro w' hSw
    have k00 := (bx.ext hSw).c2
    have k10 := (by_.ext hSw).c2
    go_simp
    try with_reducible rfl
  try simp only [Act.put]
  try simp only [List.setIfInBounds_toArray]
  try simp only [List.set_cons_succ]
  try simp only [List.set_cons_zero]
  refine Late.take (i := 2) (d := some 27) (v := ?v2_30) rfl rfl (by kernel_rfl) (by kernel_rfl) (by kernel_rfl) (by kernel_rfl) hQ (Or.inl ⟨by rfl, ?y2_30⟩) ?r2_30
  case y2_30 =>
    intro w' hSw
    have k00 := (bx.ext hSw).c2
    have k10 := (by_.ext hSw).c2
    go_simp
    try with_reducible rfl
  try simp only [Act.put]
  try simp only [List.setIfInBounds_toArray]
  try simp only [List.set_cons_succ]
  try simp only [List.set_cons_zero]
  refine Late.call (i := 1) rfl (by kernel_rfl) hAl (by kernel_rfl) (by kernel_rfl) (by kernel_rfl) hQ (fun w1 e1 E1 K hK => ?_)
  go_simp
  (go_at_call 14; refine (law_ownZ (h.ext E1) (by omega)).mono ?_; rintro e wa ⟨A1, c1, rfl, h1, hx1⟩)
  refine hK.out _ _ hx1 ?_
  clear hK K
  try simp only [Act.put]
  try simp only [List.setIfInBounds_toArray]
  try simp only [List.set_cons_succ]
  try simp only [List.set_cons_zero]
  refine Late.call (i := 3) rfl (by kernel_rfl) hAl (by kernel_rfl) (by kernel_rfl) (by kernel_rfl) hQ (fun w3 e3 E3 K hK => ?_)
  go_simp
  (go_at_call 14; refine (law_ownZ (k.ext E3) (by omega)).mono ?_; rintro e wb ⟨A2, c2, rfl, k1, hx3⟩; replace h1 := (h1.ext e3).ext hx3)
  refine hK.out _ _ hx3 ?_
  clear hK K
  try simp only [Act.put]
  try simp only [List.setIfInBounds_toArray]
  try simp only [List.set_cons_succ]
  try simp only [List.set_cons_zero]
  refine Late.call (i := 4) rfl (by kernel_rfl) hAl (by kernel_rfl) (by kernel_rfl) (by kernel_rfl) hQ (fun w4 e4 E4 K hK => ?_)
  go_simp
  (go_at_call 13; refine (p_MakeZ_0 (h1.ext e4) (k1.ext e4) (by omega) (by omega) Hy.out).mono ?_; rintro e wc ⟨rfl, hx4⟩)
  refine hK.out _ _ hx4 ?_
  clear hK K
  try simp only [Act.put]
  try simp only [List.setIfInBounds_toArray]
  try simp only [List.set_cons_succ]
  try simp only [List.set_cons_zero]
  refine Late.take (i := 5) (d := some 24) (v := ?v5_31) rfl rfl (by kernel_rfl) (by kernel_rfl) (by kernel_rfl) (by kernel_rfl) hQ (Or.inl ⟨by rfl, ?y5_31⟩) ?r5_31
  case y5_31 =>
    intro w' hSw
    go_simp
    try with_reducible rfl
  try simp only [Act.put]
  try simp only [List.setIfInBounds_toArray]
  try simp only [List.set_cons_succ]
  try simp only [List.set_cons_zero]
  refine Late.take (i := 6) (d := some 30) (v := ?v6_32) rfl rfl (by kernel_rfl) (by kernel_rfl) (by kernel_rfl) (by kernel_rfl) hQ (Or.inl ⟨by rfl, ?y6_32⟩) ?r6_32
  case y6_32 =>
    intro w' hSw
    go_simp
    try with_reducible rfl
  try simp only [Act.put]
  try simp only [List.setIfInBounds_toArray]
  try simp only [List.set_cons_succ]
  try simp only [List.set_cons_zero]
  refine Late.take (i := 7) (d := some 31) (v := ?v7_33) rfl rfl (by kernel_rfl) (by kernel_rfl) (by kernel_rfl) (by kernel_rfl) hQ (Or.inl ⟨by rfl, ?y7_33⟩) ?r7_33
  case y7_33 =>
    intro w' hSw
    go_simp
    try with_reducible rfl
  try simp only [Act.put]
  try simp only [List.setIfInBounds_toArray]
  try simp only [List.set_cons_succ]
  try simp only [List.set_cons_zero]
  refine Late.finish1 (hAl _ (by simp)) (by kernel_rfl) (fun wz g5 ez Ez lg5 xb1 => ?_)
  clear hAl hQ ES
  have f10 := xb1.cell 0 (Value.bool false) rfl
  have f20 := xb1.frozen 0
  have f11 := xb1.cell 1 (Value.slice none 0 0) rfl
  have f21 := xb1.frozen 1
  have f12 := xb1.cell 2 (Value.bool false) rfl
  have f22 := xb1.frozen 2
  have f13 := xb1.cell 3 (Value.slice none 0 0) rfl
  have f23 := xb1.frozen 3
  have e4 := fin_quad (s := false) (A := none) (n := 0) (c := 0) (t := false) (B := none) (m := 0) (d := 0) xb1
  try simp only [Act.put]
  try simp only [List.setIfInBounds_toArray]
  try simp only [List.set_cons_succ]
  try simp only [List.set_cons_zero]
  refine wpAnyH_ready (rs := [9]) (by kernel_rfl) (by simp) (AllReadyH.cons rfl (fun K hK => ?_) AllReadyH.nil)
  go_simp
  refine hK.out _ _ (e4.2.2.1 _ Ez lg5) (fun _ => ?_)
  clear hK K
  try simp only [Act.put]
  try simp only [List.setIfInBounds_toArray]
  try simp only [List.set_cons_succ]
  try simp only [List.set_cons_zero]
  refine wpAnyH_ready (rs := [10]) (by kernel_rfl) (by simp) (AllReadyH.cons rfl (fun K hK => ?_) AllReadyH.nil)
  go_simp
  refine hK.out _ _ (e4.2.2.1 _ Ez lg5) (fun _ => ?_)
  clear hK K
  try simp only [Act.put]
  try simp only [List.setIfInBounds_toArray]
  try simp only [List.set_cons_succ]
  try simp only [List.set_cons_zero]
  refine any_world (fun U => Ext W U ∧ Box U g5 27 #[.bool false, .slice none 0 0, .bool false, .slice none 0 0]) ⟨e4.2.2.1 _ Ez lg5, e4.1⟩ ?_
  clear e4 f10 f11 f12 f13 f20 f21 f22 f23 xb1 lg5
  rintro U ⟨EU, b5⟩
  refine wpAnyH_done (by kernel_rfl) ?_ _
  replace bx := bx.ext EU
  replace by_ := by_.ext EU
  replace extW := extW.trans EU
  replace h := h.ext EU
  replace k := k.ext EU
  clear EU Ez ez
  go_wp2_with fail
  have ES0 := Ext.refl U
  refine wp_region_held_drew (S := Ext U) (by kernel_rfl) ES0.drew (fun ES => ?_)
  clear ES0
  refine Late.start2 (x := ⟨4, 7, 24, #[Value.bool false, Value.slice none 0 0]⟩) (y := ⟨5, 8, 24, #[Value.bool false, Value.slice none 0 0]⟩) (n := 6) ⟨_, rfl, rfl, rfl, fun a w => by go_simp⟩ ⟨_, rfl, rfl, rfl, fun a w => by go_simp⟩ (fun _ _ _ _ _ => ⟨fun h => h, fun h => h⟩) ES rfl (fun hAl hQ => ?_)
  refine Late.take (i := 0) (d := some 32) (v := ?v0_34) rfl rfl (by kernel_rfl) (by kernel_rfl) (by kernel_rfl) (by kernel_rfl) hQ (Or.inl ⟨by rfl, ?y0_34⟩) ?r0_34
  case y0_34 =>
    intro w' hSw
    have k00 := (bx.ext hSw).c2
    have k10 := (by_.ext hSw).c2
    go_simp
    try with_reducible rfl
  try simp only [Act.put]
  try simp only [List.setIfInBounds_toArray]
  try simp only [List.set_cons_succ]
  try simp only [List.set_cons_zero]
  refine Late.take (i := 2) (d := some 34) (v := ?v2_35) rfl rfl (by kernel_rfl) (by kernel_rfl) (by kernel_rfl) (by kernel_rfl) hQ (Or.inl ⟨by rfl, ?y2_35⟩) ?r2_35
  case y2_35 =>
    intro w' hSw
    have k00 := (bx.ext hSw).c2
    have k10 := (by_.ext hSw).c2
    go_simp
    try with_reducible rfl
  try simp only [Act.put]
  try simp only [List.setIfInBounds_toArray]
  try simp only [List.set_cons_succ]
  try simp only [List.set_cons_zero]
  refine Late.call (i := 1) rfl (by kernel_rfl) hAl (by kernel_rfl) (by kernel_rfl) (by kernel_rfl) hQ (fun w1 e1 E1 K hK => ?_)
  go_simp
  (go_at_call 15; refine (q_NormZ (h.ext E1) (by omega)).mono ?_; rintro e wa ⟨s6, A6, n6, c6, rfl, h1, hx1⟩)
  refine hK.out _ _ hx1 ?_
  clear hK K
  try simp only [Act.put]
  try simp only [List.setIfInBounds_toArray]
  try simp only [List.set_cons_succ]
  try simp only [List.set_cons_zero]
  refine Late.call (i := 3) rfl (by kernel_rfl) hAl (by kernel_rfl) (by kernel_rfl) (by kernel_rfl) hQ (fun w3 e3 E3 K hK => ?_)
  go_simp
  (go_at_call 15; refine (q_NormZ (k.ext E3) (by omega)).mono ?_; rintro e wb ⟨s7, A7, n7, c7, rfl, k1, hx3⟩; replace h1 := (h1.ext e3).ext hx3)
  refine hK.out _ _ hx3 ?_
  clear hK K
  try simp only [Act.put]
  try simp only [List.setIfInBounds_toArray]
  try simp only [List.set_cons_succ]
  try simp only [List.set_cons_zero]
  refine Late.finish2 (hAl _ (by simp)) (hAl _ (by simp)) (by decide) (by decide) (by kernel_rfl) (by kernel_rfl) (by kernel_rfl) (fun wz g7 g8 ez Ez lg5 lg6 hne xb1 xb2 => ?_)
  clear hAl hQ ES
  try simp only [Act.put]
  try simp only [List.setIfInBounds_toArray]
  try simp only [List.set_cons_succ]
  try simp only [List.set_cons_zero]
  have e4 := fin_dual (s := s6) (A := A6) (n := n6) (c := c6) xb1
  have f10 := xb1.frozen 0
  have f11 := xb1.frozen 1
  have p10 := xb1.cell 0 (Value.bool false) rfl
  have p11 := xb1.cell 1 (Value.slice none 0 0) rfl
  refine wpAnyH_ready (rs := [6]) (by kernel_rfl) (by simp) (AllReadyH.cons rfl (fun K hK => ?_) AllReadyH.nil)
  go_simp
  refine hK.out _ _ (e4.2.2.1 _ Ez lg5) (fun _ => ?_)
  clear hK K
  try simp only [Act.put]
  try simp only [List.setIfInBounds_toArray]
  try simp only [List.set_cons_succ]
  try simp only [List.set_cons_zero]
  refine any_world (fun X => Ext U X ∧ Box X g7 24 #[.bool s6, .slice A6 n6 c6] ∧ Box X g8 24 #[Value.bool false, Value.slice none 0 0] ∧ NI X z n s6 A6 n6 c6 ∧ NI X y m s7 A7 n7 c7) ⟨e4.2.2.1 _ Ez lg5, e4.1, e4.2.2.2 _ _ _ (Ne.symm hne) xb2, e4.2.1 _ _ _ _ _ _ (h1.ext ez), e4.2.1 _ _ _ _ _ _ (k1.ext ez)⟩ ?_
  clear e4 f10 f11 p10 p11 xb1 xb2 h1 k1
  rintro X ⟨EX, xb1, xb2, h1, k1⟩
  have e4 := fin_dual (s := s7) (A := A7) (n := n7) (c := c7) xb2
  have f10 := xb2.frozen 0
  have f11 := xb2.frozen 1
  have p10 := xb2.cell 0 (Value.bool false) rfl
  have p11 := xb2.cell 1 (Value.slice none 0 0) rfl
  refine wpAnyH_ready (rs := [7]) (by kernel_rfl) (by simp) (AllReadyH.cons rfl (fun K hK => ?_) AllReadyH.nil)
  go_simp
  refine hK.out _ _ (e4.2.2.1 _ EX lg6) (fun _ => ?_)
  clear hK K
  try simp only [Act.put]
  try simp only [List.setIfInBounds_toArray]
  try simp only [List.set_cons_succ]
  try simp only [List.set_cons_zero]
  refine any_world (fun Y => Ext U Y ∧ Box Y g7 24 #[.bool s6, .slice A6 n6 c6] ∧ Box Y g8 24 #[.bool s7, .slice A7 n7 c7] ∧ NI Y z n s6 A6 n6 c6 ∧ NI Y y m s7 A7 n7 c7) ⟨e4.2.2.1 _ EX lg6, e4.2.2.2 _ _ _ hne xb1, e4.1, e4.2.1 _ _ _ _ _ _ h1, e4.2.1 _ _ _ _ _ _ k1⟩ ?_
  clear e4 f10 f11 p10 p11 xb1 xb2 h1 k1 EX
  rintro Y ⟨EX, xb1, xb2, h1, k1⟩
  refine wpAnyH_done (by kernel_rfl) ?_ _
  replace b5 := b5.ext EX
  replace extW := extW.trans EX
  clear EX Ez ez
  have xb20 := xb2.cell 0 (.bool s7) rfl
  have xb21 := xb2.cell 1 (.slice A7 n7 c7) rfl
  have hz0 : n7 = 0 := k1.zero.2 Hy.out
  subst hz0
  have b50 := b5.cell 0 (.bool false) rfl
  have b51 := b5.cell 1 (.slice none 0 0) rfl
  have b52 := b5.cell 2 (.bool false) rfl
  have b53 := b5.cell 3 (.slice none 0 0) rfl
  go_wp2_with fail
  go_ret
  exact ⟨rfl, extW⟩
set_option maxHeartbeats 16000000 in
set_option maxRecDepth 100000 in
theorem make_nz (hA : Awake2) (hT : Tab w) (hP : TabP w) (h : RZ w z n s A n c) (k : RZ w y m t B m d) (h1 : n ≤ 20) (h2 : m ≤ 20) (hy : y ≠ 0) :
    Calls Tryz.prog 3 #[.agg #[.bool s, .slice A n c], .agg #[.bool t, .slice B m d]] w fun e w' => e = .returned (.bool true) ∧ Ext w w' := by
  have Hy := Lib.hid hy
  clear hy
  have HA := Lib.hid hA
  clear hA
  go_enter Tryz.func3, Tryz.ntmps3
  go_upto_region 1 with (fail)
  obtain ⟨W0, hW, extW, bx, by_, hzz⟩ := box2 w 24 24 #[.bool s, .slice A n c] #[.bool t, .slice B m d]
  rw [← hW]
  clear hW hzz
  go_wp2_with fail
  refine (HA.out _ (hT.ext extW) (hP.ext extW)).mono ?_
  rintro e W ⟨rfl, hxt⟩
  replace bx := bx.ext hxt
  replace by_ := by_.ext hxt
  replace extW := extW.trans hxt
  clear hxt
  have bx0 := bx.cell 0 (.bool s) rfl
  have bx1 := bx.cell 1 (.slice A n c) rfl
  have by_0 := by_.cell 0 (.bool t) rfl
  have by_1 := by_.cell 1 (.slice B m d) rfl
  go_upto_region 3 with (fail)
  clear bx0 bx1 by_0 by_1
  replace h := h.ext extW
  replace k := k.ext extW
  have ES0 := Ext.refl W
  refine wp_region_held_drew (S := Ext W) (by kernel_rfl) ES0.drew (fun ES => ?_)
  clear ES0
  refine Late.start1 (x := ⟨8, 5, 27, #[Value.bool false, Value.slice none 0 0, Value.bool false, Value.slice none 0 0]⟩) (n := 10) ⟨_, rfl, rfl, rfl, fun a w => by go_simp⟩ (fun _ _ _ _ _ => ⟨fun h => h, fun h => h⟩) ES rfl (fun hAl hQ => ?_)
  refine Late.take (i := 0) (d := some 25) (v := ?v0_47) rfl rfl (by kernel_rfl) (by kernel_rfl) (by kernel_rfl) (by kernel_rfl) hQ (Or.inl ⟨by rfl, ?y0_47⟩) ?r0_47
  case y0_47 =>
    intro w' hSw
    have k00 := (bx.ext hSw).c2
    have k10 := (by_.ext hSw).c2
    go_simp
    try with_reducible rfl
  try simp only [Act.put]
  try simp only [List.setIfInBounds_toArray]
  try simp only [List.set_cons_succ]
  try simp only [List.set_cons_zero]
  refine Late.take (i := 2) (d := some 27) (v := ?v2_48) rfl rfl (by kernel_rfl) (by kernel_rfl) (by kernel_rfl) (by kernel_rfl) hQ (Or.inl ⟨by rfl, ?y2_48⟩) ?r2_48
  case y2_48 =>
    intro w' hSw
    have k00 := (bx.ext hSw).c2
    have k10 := (by_.ext hSw).c2
    go_simp
    try with_reducible rfl
  try simp only [Act.put]
  try simp only [List.setIfInBounds_toArray]
  try simp only [List.set_cons_succ]
  try simp only [List.set_cons_zero]
  refine Late.call (i := 1) rfl (by kernel_rfl) hAl (by kernel_rfl) (by kernel_rfl) (by kernel_rfl) hQ (fun w1 e1 E1 K hK => ?_)
  go_simp
  (go_at_call 14; refine (law_ownZ (h.ext E1) (by omega)).mono ?_; rintro e wa ⟨A1, c1, rfl, h1, hx1⟩)
  refine hK.out _ _ hx1 ?_
  clear hK K
  try simp only [Act.put]
  try simp only [List.setIfInBounds_toArray]
  try simp only [List.set_cons_succ]
  try simp only [List.set_cons_zero]
  refine Late.call (i := 3) rfl (by kernel_rfl) hAl (by kernel_rfl) (by kernel_rfl) (by kernel_rfl) hQ (fun w3 e3 E3 K hK => ?_)
  go_simp
  (go_at_call 14; refine (law_ownZ (k.ext E3) (by omega)).mono ?_; rintro e wb ⟨A2, c2, rfl, k1, hx3⟩; replace h1 := (h1.ext e3).ext hx3)
  refine hK.out _ _ hx3 ?_
  clear hK K
  try simp only [Act.put]
  try simp only [List.setIfInBounds_toArray]
  try simp only [List.set_cons_succ]
  try simp only [List.set_cons_zero]
  refine Late.call (i := 4) rfl (by kernel_rfl) hAl (by kernel_rfl) (by kernel_rfl) (by kernel_rfl) hQ (fun w4 e4 E4 K hK => ?_)
  go_simp
  (go_at_call 13; refine (p_MakeZ_nz (h1.ext e4) (k1.ext e4) (by omega) (by omega) Hy.out (hT.ext (extW.trans E4))).mono ?_; rintro e wc ⟨s3, A3, n3, c3, t3, B3, m3, d3, rfl, hr, hx4⟩)
  refine hK.out _ _ hx4 ?_
  clear hK K
  try simp only [Act.put]
  try simp only [List.setIfInBounds_toArray]
  try simp only [List.set_cons_succ]
  try simp only [List.set_cons_zero]
  refine Late.take (i := 5) (d := some 24) (v := ?v5_49) rfl rfl (by kernel_rfl) (by kernel_rfl) (by kernel_rfl) (by kernel_rfl) hQ (Or.inl ⟨by rfl, ?y5_49⟩) ?r5_49
  case y5_49 =>
    intro w' hSw
    go_simp
    try with_reducible rfl
  try simp only [Act.put]
  try simp only [List.setIfInBounds_toArray]
  try simp only [List.set_cons_succ]
  try simp only [List.set_cons_zero]
  refine Late.take (i := 6) (d := some 30) (v := ?v6_50) rfl rfl (by kernel_rfl) (by kernel_rfl) (by kernel_rfl) (by kernel_rfl) hQ (Or.inl ⟨by rfl, ?y6_50⟩) ?r6_50
  case y6_50 =>
    intro w' hSw
    go_simp
    try with_reducible rfl
  try simp only [Act.put]
  try simp only [List.setIfInBounds_toArray]
  try simp only [List.set_cons_succ]
  try simp only [List.set_cons_zero]
  refine Late.take (i := 7) (d := some 31) (v := ?v7_51) rfl rfl (by kernel_rfl) (by kernel_rfl) (by kernel_rfl) (by kernel_rfl) hQ (Or.inl ⟨by rfl, ?y7_51⟩) ?r7_51
  case y7_51 =>
    intro w' hSw
    go_simp
    try with_reducible rfl
  try simp only [Act.put]
  try simp only [List.setIfInBounds_toArray]
  try simp only [List.set_cons_succ]
  try simp only [List.set_cons_zero]
  refine Late.finish1 (hAl _ (by simp)) (by kernel_rfl) (fun wz g5 ez Ez lg5 xb1 => ?_)
  clear hAl hQ ES
  have f10 := xb1.cell 0 (Value.bool false) rfl
  have f20 := xb1.frozen 0
  have f11 := xb1.cell 1 (Value.slice none 0 0) rfl
  have f21 := xb1.frozen 1
  have f12 := xb1.cell 2 (Value.bool false) rfl
  have f22 := xb1.frozen 2
  have f13 := xb1.cell 3 (Value.slice none 0 0) rfl
  have f23 := xb1.frozen 3
  have e4 := fin_quad (s := s3) (A := A3) (n := n3) (c := c3) (t := t3) (B := B3) (m := m3) (d := d3) xb1
  try simp only [Act.put]
  try simp only [List.setIfInBounds_toArray]
  try simp only [List.set_cons_succ]
  try simp only [List.set_cons_zero]
  refine wpAnyH_ready (rs := [9]) (by kernel_rfl) (by simp) (AllReadyH.cons rfl (fun K hK => ?_) AllReadyH.nil)
  go_simp
  refine hK.out _ _ (e4.2.2.1 _ Ez lg5) (fun _ => ?_)
  clear hK K
  try simp only [Act.put]
  try simp only [List.setIfInBounds_toArray]
  try simp only [List.set_cons_succ]
  try simp only [List.set_cons_zero]
  refine wpAnyH_ready (rs := [10]) (by kernel_rfl) (by simp) (AllReadyH.cons rfl (fun K hK => ?_) AllReadyH.nil)
  go_simp
  refine hK.out _ _ (e4.2.2.1 _ Ez lg5) (fun _ => ?_)
  clear hK K
  try simp only [Act.put]
  try simp only [List.setIfInBounds_toArray]
  try simp only [List.set_cons_succ]
  try simp only [List.set_cons_zero]
  refine any_world (fun U => Ext W U ∧ Box U g5 27 #[.bool s3, .slice A3 n3 c3, .bool t3, .slice B3 m3 d3] ∧ NR U (mkQ z y) 20 s3 A3 n3 c3 t3 B3 m3 d3) ⟨e4.2.2.1 _ Ez lg5, e4.1, ⟨(e4.2.1 _ _ _ _ _ _ (hr.ext ez).num).le (by omega), (e4.2.1 _ _ _ _ _ _ (hr.ext ez).den).le (by omega)⟩⟩ ?_
  clear e4 f10 f11 f12 f13 f20 f21 f22 f23 xb1 lg5
  rintro U ⟨EU, b5, hr⟩
  refine wpAnyH_done (by kernel_rfl) ?_ _
  replace bx := bx.ext EU
  replace by_ := by_.ext EU
  replace extW := extW.trans EU
  replace h := h.ext EU
  replace k := k.ext EU
  clear EU Ez ez
  go_wp2_with fail
  have ES0 := Ext.refl U
  refine wp_region_held_drew (S := Ext U) (by kernel_rfl) ES0.drew (fun ES => ?_)
  clear ES0
  refine Late.start2 (x := ⟨4, 7, 24, #[Value.bool false, Value.slice none 0 0]⟩) (y := ⟨5, 8, 24, #[Value.bool false, Value.slice none 0 0]⟩) (n := 6) ⟨_, rfl, rfl, rfl, fun a w => by go_simp⟩ ⟨_, rfl, rfl, rfl, fun a w => by go_simp⟩ (fun _ _ _ _ _ => ⟨fun h => h, fun h => h⟩) ES rfl (fun hAl hQ => ?_)
  refine Late.take (i := 0) (d := some 32) (v := ?v0_52) rfl rfl (by kernel_rfl) (by kernel_rfl) (by kernel_rfl) (by kernel_rfl) hQ (Or.inl ⟨by rfl, ?y0_52⟩) ?r0_52
  case y0_52 =>
    intro w' hSw
    have k00 := (bx.ext hSw).c2
    have k10 := (by_.ext hSw).c2
    go_simp
    try with_reducible rfl
  try simp only [Act.put]
  try simp only [List.setIfInBounds_toArray]
  try simp only [List.set_cons_succ]
  try simp only [List.set_cons_zero]
  refine Late.take (i := 2) (d := some 34) (v := ?v2_53) rfl rfl (by kernel_rfl) (by kernel_rfl) (by kernel_rfl) (by kernel_rfl) hQ (Or.inl ⟨by rfl, ?y2_53⟩) ?r2_53
  case y2_53 =>
    intro w' hSw
    have k00 := (bx.ext hSw).c2
    have k10 := (by_.ext hSw).c2
    go_simp
    try with_reducible rfl
  try simp only [Act.put]
  try simp only [List.setIfInBounds_toArray]
  try simp only [List.set_cons_succ]
  try simp only [List.set_cons_zero]
  refine Late.call (i := 1) rfl (by kernel_rfl) hAl (by kernel_rfl) (by kernel_rfl) (by kernel_rfl) hQ (fun w1 e1 E1 K hK => ?_)
  go_simp
  (go_at_call 15; refine (q_NormZ (h.ext E1) (by omega)).mono ?_; rintro e wa ⟨s6, A6, n6, c6, rfl, h1, hx1⟩)
  refine hK.out _ _ hx1 ?_
  clear hK K
  try simp only [Act.put]
  try simp only [List.setIfInBounds_toArray]
  try simp only [List.set_cons_succ]
  try simp only [List.set_cons_zero]
  refine Late.call (i := 3) rfl (by kernel_rfl) hAl (by kernel_rfl) (by kernel_rfl) (by kernel_rfl) hQ (fun w3 e3 E3 K hK => ?_)
  go_simp
  (go_at_call 15; refine (q_NormZ (k.ext E3) (by omega)).mono ?_; rintro e wb ⟨s7, A7, n7, c7, rfl, k1, hx3⟩; replace h1 := (h1.ext e3).ext hx3)
  refine hK.out _ _ hx3 ?_
  clear hK K
  try simp only [Act.put]
  try simp only [List.setIfInBounds_toArray]
  try simp only [List.set_cons_succ]
  try simp only [List.set_cons_zero]
  refine Late.finish2 (hAl _ (by simp)) (hAl _ (by simp)) (by decide) (by decide) (by kernel_rfl) (by kernel_rfl) (by kernel_rfl) (fun wz g7 g8 ez Ez lg5 lg6 hne xb1 xb2 => ?_)
  clear hAl hQ ES
  try simp only [Act.put]
  try simp only [List.setIfInBounds_toArray]
  try simp only [List.set_cons_succ]
  try simp only [List.set_cons_zero]
  have e4 := fin_dual (s := s6) (A := A6) (n := n6) (c := c6) xb1
  have f10 := xb1.frozen 0
  have f11 := xb1.frozen 1
  have p10 := xb1.cell 0 (Value.bool false) rfl
  have p11 := xb1.cell 1 (Value.slice none 0 0) rfl
  refine wpAnyH_ready (rs := [6]) (by kernel_rfl) (by simp) (AllReadyH.cons rfl (fun K hK => ?_) AllReadyH.nil)
  go_simp
  refine hK.out _ _ (e4.2.2.1 _ Ez lg5) (fun _ => ?_)
  clear hK K
  try simp only [Act.put]
  try simp only [List.setIfInBounds_toArray]
  try simp only [List.set_cons_succ]
  try simp only [List.set_cons_zero]
  refine any_world (fun X => Ext U X ∧ Box X g7 24 #[.bool s6, .slice A6 n6 c6] ∧ Box X g8 24 #[Value.bool false, Value.slice none 0 0] ∧ NI X z n s6 A6 n6 c6 ∧ NI X y m s7 A7 n7 c7) ⟨e4.2.2.1 _ Ez lg5, e4.1, e4.2.2.2 _ _ _ (Ne.symm hne) xb2, e4.2.1 _ _ _ _ _ _ (h1.ext ez), e4.2.1 _ _ _ _ _ _ (k1.ext ez)⟩ ?_
  clear e4 f10 f11 p10 p11 xb1 xb2 h1 k1
  rintro X ⟨EX, xb1, xb2, h1, k1⟩
  have e4 := fin_dual (s := s7) (A := A7) (n := n7) (c := c7) xb2
  have f10 := xb2.frozen 0
  have f11 := xb2.frozen 1
  have p10 := xb2.cell 0 (Value.bool false) rfl
  have p11 := xb2.cell 1 (Value.slice none 0 0) rfl
  refine wpAnyH_ready (rs := [7]) (by kernel_rfl) (by simp) (AllReadyH.cons rfl (fun K hK => ?_) AllReadyH.nil)
  go_simp
  refine hK.out _ _ (e4.2.2.1 _ EX lg6) (fun _ => ?_)
  clear hK K
  try simp only [Act.put]
  try simp only [List.setIfInBounds_toArray]
  try simp only [List.set_cons_succ]
  try simp only [List.set_cons_zero]
  refine any_world (fun Y => Ext U Y ∧ Box Y g7 24 #[.bool s6, .slice A6 n6 c6] ∧ Box Y g8 24 #[.bool s7, .slice A7 n7 c7] ∧ NI Y z n s6 A6 n6 c6 ∧ NI Y y m s7 A7 n7 c7) ⟨e4.2.2.1 _ EX lg6, e4.2.2.2 _ _ _ hne xb1, e4.1, e4.2.1 _ _ _ _ _ _ h1, e4.2.1 _ _ _ _ _ _ k1⟩ ?_
  clear e4 f10 f11 p10 p11 xb1 xb2 h1 k1 EX
  rintro Y ⟨EX, xb1, xb2, h1, k1⟩
  refine wpAnyH_done (by kernel_rfl) ?_ _
  replace b5 := b5.ext EX
  replace hr := hr.ext EX
  replace extW := extW.trans EX
  clear EX Ez ez
  have xb20 := xb2.cell 0 (.bool s7) rfl
  have xb21 := xb2.cell 1 (.slice A7 n7 c7) rfl
  have hz0 : ((n7 : Int) == 0) = false := by
    rw [beq_eq_false_iff_ne]
    intro h0
    exact Hy.out (k1.zero.1 (by omega))
  go_upto_region 7 with (fail)
  clear xb20 xb21
  obtain ⟨us, vs, ra, rb, hv, hn3, hm3, _⟩ := hr.raw
  have HV := Lib.hid hv
  clear hv
  have ES0 := Ext.refl Y
  refine wp_region_held_drew (S := Ext Y) (by kernel_rfl) ES0.drew (fun ES => ?_)
  clear ES0
  refine Late.start0 (fun _ _ _ _ _ => ⟨fun h => h, fun h => h⟩) ES (fun hAl hQ => ?_)
  refine Late.take (i := 0) (d := some 62) (v := ?v0_36) rfl rfl (by kernel_rfl) (by kernel_rfl) (by kernel_rfl) (by kernel_rfl) hQ (Or.inl ⟨by rfl, ?y0_36⟩) ?r0_36
  case y0_36 =>
    intro w' hSw
    have k00 := (b5.ext hSw).c4
    have k10 := (xb1.ext hSw).c2
    have k20 := (xb2.ext hSw).c2
    go_simp
    try with_reducible rfl
  try simp only [Act.put]
  try simp only [List.setIfInBounds_toArray]
  try simp only [List.set_cons_succ]
  try simp only [List.set_cons_zero]
  refine Late.take (i := 1) (d := some 63) (v := ?v1_37) rfl rfl (by kernel_rfl) (by kernel_rfl) (by kernel_rfl) (by kernel_rfl) hQ (Or.inl ⟨by rfl, ?y1_37⟩) ?r1_37
  case y1_37 =>
    intro w' hSw
    have k00 := (b5.ext hSw).c4
    have k10 := (xb1.ext hSw).c2
    have k20 := (xb2.ext hSw).c2
    go_simp
    try with_reducible rfl
  try simp only [Act.put]
  try simp only [List.setIfInBounds_toArray]
  try simp only [List.set_cons_succ]
  try simp only [List.set_cons_zero]
  refine Late.take (i := 2) (d := some 64) (v := ?v2_38) rfl rfl (by kernel_rfl) (by kernel_rfl) (by kernel_rfl) (by kernel_rfl) hQ (Or.inl ⟨by rfl, ?y2_38⟩) ?r2_38
  case y2_38 =>
    intro w' hSw
    have k00 := (b5.ext hSw).c4
    have k10 := (xb1.ext hSw).c2
    have k20 := (xb2.ext hSw).c2
    go_simp
    try with_reducible rfl
  try simp only [Act.put]
  try simp only [List.setIfInBounds_toArray]
  try simp only [List.set_cons_succ]
  try simp only [List.set_cons_zero]
  refine Late.take (i := 3) (d := some 65) (v := ?v3_39) rfl rfl (by kernel_rfl) (by kernel_rfl) (by kernel_rfl) (by kernel_rfl) hQ (Or.inl ⟨by rfl, ?y3_39⟩) ?r3_39
  case y3_39 =>
    intro w' hSw
    have k00 := (b5.ext hSw).c4
    have k10 := (xb1.ext hSw).c2
    have k20 := (xb2.ext hSw).c2
    go_simp
    try with_reducible rfl
  try simp only [Act.put]
  try simp only [List.setIfInBounds_toArray]
  try simp only [List.set_cons_succ]
  try simp only [List.set_cons_zero]
  refine Late.take (i := 4) (d := some 66) (v := ?v4_40) rfl rfl (by kernel_rfl) (by kernel_rfl) (by kernel_rfl) (by kernel_rfl) hQ (Or.inl ⟨by rfl, ?y4_40⟩) ?r4_40
  case y4_40 =>
    intro w' hSw
    have k00 := (b5.ext hSw).c4
    have k10 := (xb1.ext hSw).c2
    have k20 := (xb2.ext hSw).c2
    go_simp
    try with_reducible rfl
  try simp only [Act.put]
  try simp only [List.setIfInBounds_toArray]
  try simp only [List.set_cons_succ]
  try simp only [List.set_cons_zero]
  refine Late.take (i := 5) (d := some 67) (v := ?v5_41) rfl rfl (by kernel_rfl) (by kernel_rfl) (by kernel_rfl) (by kernel_rfl) hQ (Or.inl ⟨by rfl, ?y5_41⟩) ?r5_41
  case y5_41 =>
    intro w' hSw
    have k00 := (b5.ext hSw).c4
    have k10 := (xb1.ext hSw).c2
    have k20 := (xb2.ext hSw).c2
    go_simp
    try with_reducible rfl
  try simp only [Act.put]
  try simp only [List.setIfInBounds_toArray]
  try simp only [List.set_cons_succ]
  try simp only [List.set_cons_zero]
  refine Late.call (i := 6) rfl (by kernel_rfl) hAl (by kernel_rfl) (by kernel_rfl) (by kernel_rfl) hQ (fun w6 e6 E6 K hK => ?_)
  go_simp
  (go_at_call 17; refine (q_Make_nz (h1.ext E6) (k1.ext E6) (by omega) (by omega) Hy.out).mono ?_; rintro e wk6 ⟨s1_, A1_, n1_, c1_, t1_, B1_, m1_, d1_, rfl, r2, hx6⟩)
  refine hK.out _ _ hx6 ?_
  clear hK K
  try simp only [Act.put]
  try simp only [List.setIfInBounds_toArray]
  try simp only [List.set_cons_succ]
  try simp only [List.set_cons_zero]
  refine Late.call (i := 7) rfl (by kernel_rfl) hAl (by kernel_rfl) (by kernel_rfl) (by kernel_rfl) hQ (fun w7 e7 E7 K hK => ?_)
  go_simp
  (replace r2 := r2.ext e7; go_at_call 16; refine (q_Same (hr.ext E7) r2).mono ?_; rintro e wk7 ⟨rfl, hx7⟩; replace r2 := r2.ext hx7)
  refine hK.out _ _ hx7 ?_
  clear hK K
  try simp only [Act.put]
  try simp only [List.setIfInBounds_toArray]
  try simp only [List.set_cons_succ]
  try simp only [List.set_cons_zero]
  refine Late.take (i := 8) (d := some 70) (v := ?v8_42) rfl rfl (by kernel_rfl) (by kernel_rfl) (by kernel_rfl) (by kernel_rfl) hQ (Or.inl ⟨by rfl, ?y8_42⟩) ?r8_42
  case y8_42 =>
    intro w' hSw
    have k00 := (b5.ext hSw).c4
    have k10 := (xb1.ext hSw).c2
    have k20 := (xb2.ext hSw).c2
    go_simp
    try with_reducible rfl
  try simp only [Act.put]
  try simp only [List.setIfInBounds_toArray]
  try simp only [List.set_cons_succ]
  try simp only [List.set_cons_zero]
  refine Late.take (i := 9) (d := some 71) (v := ?v9_43) rfl rfl (by kernel_rfl) (by kernel_rfl) (by kernel_rfl) (by kernel_rfl) hQ (Or.inl ⟨by rfl, ?y9_43⟩) ?r9_43
  case y9_43 =>
    intro w' hSw
    have k00 := (b5.ext hSw).c4
    have k10 := (xb1.ext hSw).c2
    have k20 := (xb2.ext hSw).c2
    go_simp
    try with_reducible rfl
  try simp only [Act.put]
  try simp only [List.setIfInBounds_toArray]
  try simp only [List.set_cons_succ]
  try simp only [List.set_cons_zero]
  refine Late.take (i := 10) (d := some 72) (v := ?v10_44) rfl rfl (by kernel_rfl) (by kernel_rfl) (by kernel_rfl) (by kernel_rfl) hQ (Or.inl ⟨by rfl, ?y10_44⟩) ?r10_44
  case y10_44 =>
    intro w' hSw
    have k00 := (b5.ext hSw).c4
    have k10 := (xb1.ext hSw).c2
    have k20 := (xb2.ext hSw).c2
    go_simp
    try with_reducible rfl
  try simp only [Act.put]
  try simp only [List.setIfInBounds_toArray]
  try simp only [List.set_cons_succ]
  try simp only [List.set_cons_zero]
  refine Late.call (i := 11) rfl (by kernel_rfl) hAl (by kernel_rfl) (by kernel_rfl) (by kernel_rfl) hQ (fun w11 e11 E11 K hK => ?_)
  go_simp
  (replace r2 := r2.ext e11; go_at_call 18; refine (p_ValidRaw (ra.ext E11) (rb.ext E11) (by omega) (by omega) (hT.ext (extW.trans E11))).mono ?_; rintro e wk11 ⟨rfl, hx11⟩; replace r2 := r2.ext hx11; rw [HV.out])
  refine hK.out _ _ hx11 ?_
  clear hK K
  try simp only [Act.put]
  try simp only [List.setIfInBounds_toArray]
  try simp only [List.set_cons_succ]
  try simp only [List.set_cons_zero]
  refine Late.take (i := 12) (d := some 74) (v := ?v12_45) rfl rfl (by kernel_rfl) (by kernel_rfl) (by kernel_rfl) (by kernel_rfl) hQ (Or.inl ⟨by rfl, ?y12_45⟩) ?r12_45
  case y12_45 =>
    intro w' hSw
    have k00 := (b5.ext hSw).c4
    have k10 := (xb1.ext hSw).c2
    have k20 := (xb2.ext hSw).c2
    go_simp
    try with_reducible rfl
  try simp only [Act.put]
  try simp only [List.setIfInBounds_toArray]
  try simp only [List.set_cons_succ]
  try simp only [List.set_cons_zero]
  refine Late.take (i := 13) (d := some 4) (v := ?v13_46) rfl rfl (by kernel_rfl) (by kernel_rfl) (by kernel_rfl) (by kernel_rfl) hQ (Or.inl ⟨by rfl, ?y13_46⟩) ?r13_46
  case y13_46 =>
    intro w' hSw
    have k00 := (b5.ext hSw).c4
    have k10 := (xb1.ext hSw).c2
    have k20 := (xb2.ext hSw).c2
    go_simp
    try with_reducible rfl
  try simp only [Act.put]
  try simp only [List.setIfInBounds_toArray]
  try simp only [List.set_cons_succ]
  try simp only [List.set_cons_zero]
  refine Late.done0 (by kernel_rfl) (fun wz ez Ez => ?_)
  clear hAl hQ ES
  go_wp2_with fail
  go_ret
  exact ⟨rfl, extW.trans Ez⟩
set_option maxHeartbeats 2000000 in
theorem make_no (hA : Awake2) (hT : Tab w) (hP : TabP w) (_h : RZ w z n s A n c) (_k : RZ w y m t B m d) (hno : ¬ (n ≤ 20 ∧ m ≤ 20)) :
    Calls Tryz.prog 3 #[.agg #[.bool s, .slice A n c], .agg #[.bool t, .slice B m d]] w fun e w' => e = .returned (.bool true) ∧ Ext w w' := by
  by_cases h1 : n ≤ 20
  · have h2 : ¬ m ≤ 20 := fun h2 => hno ⟨h1, h2⟩
    have HA := Lib.hid hA
    clear hA
    go_enter Tryz.func3, Tryz.ntmps3
    go_upto_region 1 with (fail)
    obtain ⟨W0, hW, extW, bx, by_, hzz⟩ := box2 w 24 24 #[.bool s, .slice A n c] #[.bool t, .slice B m d]
    rw [← hW]
    clear hW hzz
    go_wp2_with fail
    refine (HA.out _ (hT.ext extW) (hP.ext extW)).mono ?_
    rintro e W ⟨rfl, hxt⟩
    replace bx := bx.ext hxt
    replace by_ := by_.ext hxt
    replace extW := extW.trans hxt
    clear hxt
    have bx0 := bx.cell 0 (.bool s) rfl
    have bx1 := bx.cell 1 (.slice A n c) rfl
    have by_0 := by_.cell 0 (.bool t) rfl
    have by_1 := by_.cell 1 (.slice B m d) rfl
    go_wp2_with fail
    refine (HA.out _ (hT.ext extW) (hP.ext extW)).mono ?_
    rintro e W2 ⟨rfl, hxt⟩
    go_wp2_with fail
    go_ret
    exact ⟨rfl, extW.trans hxt⟩
  · have HA := Lib.hid hA
    clear hA
    go_enter Tryz.func3, Tryz.ntmps3
    go_upto_region 1 with (fail)
    obtain ⟨W0, hW, extW, bx, by_, hzz⟩ := box2 w 24 24 #[.bool s, .slice A n c] #[.bool t, .slice B m d]
    rw [← hW]
    clear hW hzz
    go_wp2_with fail
    refine (HA.out _ (hT.ext extW) (hP.ext extW)).mono ?_
    rintro e W ⟨rfl, hxt⟩
    replace bx := bx.ext hxt
    replace by_ := by_.ext hxt
    replace extW := extW.trans hxt
    clear hxt
    have bx0 := bx.cell 0 (.bool s) rfl
    have bx1 := bx.cell 1 (.slice A n c) rfl
    have by_0 := by_.cell 0 (.bool t) rfl
    have by_1 := by_.cell 1 (.slice B m d) rfl
    go_wp2_with fail
    refine (HA.out _ (hT.ext extW) (hP.ext extW)).mono ?_
    rintro e W2 ⟨rfl, hxt⟩
    go_wp2_with fail
    go_ret
    exact ⟨rfl, extW.trans hxt⟩
theorem make_any (hA : Awake2) (hT : Tab w) (hP : TabP w) (h : RZ w z n s A n c) (k : RZ w y m t B m d) :
    Calls Tryz.prog 3 #[.agg #[.bool s, .slice A n c], .agg #[.bool t, .slice B m d]] w fun e w' => e = .returned (.bool true) ∧ Ext w w' := by
  by_cases hh : n ≤ 20 ∧ m ≤ 20
  · by_cases hy : y = 0
    · exact make_z hA hT hP h k hh.1 hh.2 hy
    · exact make_nz hA hT hP h k hh.1 hh.2 hy
  · exact make_no hA hT hP h k hh
end
end Go.Proofs.YtiioodgpkdbndaaGreatDoor
namespace Go.Proofs.YtiioodgpkdbndaaGreatDoor
open Go.ChangeShapes Go.WideShapes Go.ChangeAt Go.RowKit Go.Joins
set_option maxRecDepth 100000
theorem make_laid : Rows.rationalMakeRow.laid = laidR := by kernel_rfl
theorem make_lifted (os : Os) (started : os.Started) (H : Type) (enc : TypeId × Value → H) :
    ReturnsInHanded {} Tryz.checked os 3 .any (fun w args => (Rows.rationalMakeSpec.pre enc Tryz.prog Tryz.f3 [] false w args ∧ laidMetH Tryz.prog Rows.rationalMakeRow.laid w) ∧ sizedMet enc Tryz.prog Tryz.f3 (OpenSpec.ofChange Rows.rationalMakeSpec) false w args)
      (Rows.rationalMakeSpec.post enc Tryz.prog Tryz.f3 false true false false) := by
  refine returnsInHanded_of_change_and (C := Tryz.checked) (X := fun w _ => laidMetH Tryz.prog Rows.rationalMakeRow.laid w) (fun _ _ _ hh h => h.of_heap hh) Tryz.own started (by kernel_rfl) Tryz.func3
    (ChangeSpec.witness_shaped (enc := enc) (C := Tryz.checked) (os := os) (X := fun w _ => laidMetH Tryz.prog Rows.rationalMakeRow.laid w) false (World.laidAll Tryz.prog os Rows.rationalMakeRow.laid) #[Value.agg #[.bool false, .slice none 0 0], Value.agg #[.bool false, .slice none 0 0]] 8 (World.laidAll_os _ _ _)
      (World.shaped_of_ZipB (by kernel_rfl) (by kernel_rfl)) (by kernel_rfl) (by kernel_rfl) (by kernel_rfl)
      (by rw [MakeChecks.laidMetH_plain _ _ _ (by kernel_rfl)]; exact laidMet_laidAll _ (by kernel_rfl) (by kernel_rfl))) ?_
  intro W base args ds gs before hval0 hW _ _ hL _
  have hval : ∀ (j : Nat) t v, Tryz.f3.params[j]? = some t → args[j]? = some v → Value.okWide Tryz.prog W .any base t v := hval0
  have hW' := hW
  have hlt : ∀ p ∈ before, p.block < W.heap.size := fun p hp => hW.lt p hp
  obtain ⟨p, q, hA0, hV, rfl, _, _⟩ := hW
  have hA : DataW.TrodAll enc Tryz.prog W 0 (fun _ => true) true Tryz.f3.params.toList args.toList ds p := hA0
  rw [Tryz.params3] at hA hval
  obtain ⟨v0, v1, d0, d1, p0, p1, rfl, rfl, rfl, h0, h1⟩ := trodAll_two hA
  obtain ⟨rfl, rfl⟩ := trodVars_none hV
  simp only [List.append_nil] at hW' hlt
  obtain ⟨s, A, n, c, xs, rfl, hl0, hr0, hc0, hm0⟩ := open_api (hval 0 24 v0 rfl rfl) h0
  obtain ⟨t, B, m, d, ys, rfl, hl1, hr1, hc1, hm1⟩ := open_api (hval 1 24 v1 rfl rfl) h1
  clear hA0 hval0
  rw [make_laid] at hL
  obtain ⟨hT, hP⟩ := tabs_of_laid hL
  refine (make_any awake2 hT hP ⟨⟨xs, ⟨hl0, hr0, hc0, hm0⟩, rfl, Nat.le_refl _⟩⟩ ⟨⟨ys, ⟨hl1, hr1, hc1, hm1⟩, rfl, Nat.le_refl _⟩⟩).mono fun e W' ⟨he, hext⟩ => ?_
  subst he
  have hb : Below W.heap.size W W' := hext
  have g0 := Below.trod Tryz.laidOut (by kernel_rfl) (of_decide_eq_true (by kernel_rfl)) h0 hb (fun p hp => hlt p (List.mem_append.2 (.inl hp)))
  have g1 := Below.trod Tryz.laidOut (by kernel_rfl) (of_decide_eq_true (by kernel_rfl)) h1 hb (fun p hp => hlt p (List.mem_append.2 (.inr hp)))
  exact ⟨_, rfl, _, _, _, [], (p0 ++ p1), [], hW', trodAll_mk1 (shut_bool Tryz.underlying4 true), trodAll_mk2 g0 g1, rfl, Below.frame hb _, fun h => by cases h⟩
theorem make_row_holds : Rows.RationalMakeSaid :=
  OpenClaim.holds_of_wide 3 Tryz.f3 rfl rfl rfl rfl rfl rfl rfl ⟨rfl, rfl, rfl, rfl, rfl⟩ rfl rfl rfl rfl rfl (by kernel_rfl) Tryz.func3 (by kernel_rfl)
    (of_decide_eq_true (by kernel_rfl)) (by unfold Func.isWrapper; first | (rw [if_neg (of_decide_eq_false (by kernel_rfl))]; exact ⟨rfl, rfl⟩) | (rw [if_pos (by decide +kernel)]; kernel_rfl))
    (fun os started H enc _ => make_lifted os started H enc)
theorem make_holds : Rows.RationalMakeCardSaid :=
  Claim7.holds_tied_plain_at .later [] [.data, .data, .data, .data, .pinned] true Rows.rationalMakeCard.stood.harness false
    make_row_holds (fun _ h => by cases h) (by kernel_rfl) (fun _ h => by cases h) rationalMake_row_tie rfl ⟨rfl, rfl⟩ (by kernel_rfl) rfl
    (fun f fn hf hfn => by
      obtain rfl : f = 3 := Option.some.inj ((show Tryz.prog.funcNamed "setsquare/setsquarelaw02.RationalMake" = some 3 by kernel_rfl).symm.trans hf) |>.symm
      obtain rfl : fn = Tryz.f3 := (Option.some.inj (Tryz.func3.symm.trans hfn)).symm
      exact ⟨by kernel_rfl, fun j t ht => by
        rw [Tryz.params3] at ht
        have hm : t ∈ [24, 24] := by simpa using Array.mem_of_getElem? ht
        have hall : ([24, 24].all fun u => !Tryz.prog.wantsStandIn u) = true := by kernel_rfl
        exact (show Tryz.prog.wantsStandIn t = false by simpa using List.all_eq_true.1 hall t hm)⟩)
    (by kernel_rfl)
end Go.Proofs.YtiioodgpkdbndaaGreatDoor
