/- Walks and laws, a part. -/
import Derived.Test.YtiioodgpkdbndaaGreatDoorM6
import Derived.Test.YtiioodgpkdbndaaGreatDoorM5
import Derived.Test.YtiioodgpkdbndaaGreatDoorM2
import Derived.Test.YtiioodgpkdbndaaGreatDoorM0
import Derived.Test.YtiioodgpkdbndaaGreatDoorM3
import Derived.Test.YtiioodgpkdbndaaGreatDoorM1
import Derived.BigQuiet
import Derived.Lib.ItoaNum
import Derived.Lib.Strings
import Derived.Lib.TrimByte
namespace Go.Proofs.YtiioodgpkdbndaaGreatDoor
open Go.RowKit
attribute [local go_sem ↓] Go.wp_at_zero Go.wp_at_succ
theorem sign_lt {z : Int} (h : z < 0) : z.sign = -1 := Int.sign_eq_neg_one_of_neg h
theorem sign_ge {z : Int} (h : 0 ≤ z) : z.sign = 0 ∨ z.sign = 1 := by
  rcases Int.lt_or_eq_of_le h with h | h
  · exact .inr (Int.sign_eq_one_of_pos h)
  · exact .inl (by rw [← h]; rfl)
theorem ival_abs {s : Bool} {xs : List Nat} (h : 0 ≤ ival s xs) : ival s xs = (val xs : Int) := by
  unfold ival at *
  cases s <;> simp at h ⊢ <;> omega
theorem validB_int {z : Int} {b : Bool} {rs : List Nat} (h : IsInt z b rs) : validB b rs = true := by
  have hn := h.nrm
  unfold Nrm at hn
  have hs := h.sgn
  unfold validB
  rw [hn]
  cases rs with
  | nil => rw [hs rfl]; rfl
  | cons a l => simp
section
variable {A B : Option Addr} {c d n m : Nat} {xs ys : List Nat} {w : World} {s t : Bool}
set_option maxHeartbeats 4000000 in
theorem int_Sqrt_neg (hn : xs.length = n) (hx : Rd w A xs) (hc : n ≤ c) (hcm : c ≤ maxLen) (h1 : n ≤ 50) (hneg : ival s xs < 0) :
    Calls Tryz.prog 109 #[.agg #[.bool s, .slice A n c]] w (RetIE 0 0 7 w) := by
  have hsg := sign_lt hneg
  have Hn := Lib.hid hn
  clear hn hneg
  go_enter Tryz.func109, Tryz.ntmps109
  go_upto_region 1 with (fail)
  obtain ⟨W, hW, extW, bx, bz, hz⟩ := box2 w 24 24 #[.bool s, .slice A n c] #[.bool false, .slice none 0 0]
  rw [← hW]
  clear hW
  have x0 := bx.cell 0 (.bool s) rfl
  have x1 := bx.cell 1 (.slice A n c) rfl
  go_wp2_with fail
  refine (int_Sign Hn.out (hx.ext extW) hc hcm (by omega)).mono ?_
  rintro e w1 ⟨rfl, ext1⟩
  rw [hsg]
  replace bx := bx.ext ext1
  replace bz := bz.ext ext1
  replace extW := extW.trans ext1
  have x1 := bx.cell 1 (.slice A n c) rfl
  have z0 := bz.cell 0 (.bool false) rfl
  have z1 := bz.cell 1 (.slice none 0 0) rfl
  have f0 := bz.frozen 0
  have f1 := bz.frozen 1
  go_wp2_with fail
  obtain ⟨r1, r2, r3, r4⟩ := fin_pair (b := false) (A := none) (rs := []) (n := 0) (c := 0) extW (by omega) bz (Rd.nil _ _)
  exact bodyPost_ret (v := .tuple #[.agg #[.bool false, .slice none 0 0], .int .i64 7]) (by simp [results, Tryz.results109, go_sem, r3, r4]) rfl ⟨false, none, 0, [], rfl, r1, by simp, by unfold maxLen; omega, IsInt.nil false, by simp, r2⟩
set_option maxHeartbeats 4000000 in
theorem int_Sqrt_pos (hn : xs.length = n) (hx : Rd w A xs) (hc : n ≤ c) (hcm : c ≤ maxLen) (h1 : n ≤ 50) (hpos : 0 ≤ ival s xs) :
    Calls Tryz.prog 109 #[.agg #[.bool s, .slice A n c]] w fun e w' => ∃ z : Nat, z * z ≤ val xs ∧ val xs < (z + 1) * (z + 1) ∧ RetIE (z : Int) (n + 1) 0 w e w' := by
  have lx := trimL_len xs
  have hxt : Rd w A (trimL xs) := by rw [trimL_take]; exact hx.take _
  have Hn := Lib.hid hn
  clear hn
  rcases sign_ge hpos with hsg | hsg
  all_goals
    clear hpos
    go_enter Tryz.func109, Tryz.ntmps109
    go_upto_region 1 with (fail)
    obtain ⟨W, hW, extW, bx, bz, hz⟩ := box2 w 24 24 #[.bool s, .slice A n c] #[.bool false, .slice none 0 0]
    rw [← hW]
    clear hW
    have x0 := bx.cell 0 (.bool s) rfl
    have x1 := bx.cell 1 (.slice A n c) rfl
    go_wp2_with fail
    refine (int_Sign Hn.out (hx.ext extW) hc hcm (by omega)).mono ?_
    rintro e w1 ⟨rfl, ext1⟩
    rw [hsg]
    replace bx := bx.ext ext1
    replace bz := bz.ext ext1
    replace extW := extW.trans ext1
    have x1 := bx.cell 1 (.slice A n c) rfl
    go_wp2_with fail
    refine (int_trimN Hn.out (hx.ext extW) hc hcm).mono ?_
    rintro e w2 ⟨rfl, rfl⟩
    go_wp2_with fail
    refine (int_squareRoot (xs := trimL xs) rfl (hxt.ext extW) (Nrm.trimL _) (by have := Hn.out; omega) hcm (by have := Hn.out; omega)).mono ?_
    rintro e w2 ⟨A2, c2, zs, rfl, ho2, hc2, hm2, ⟨hv2, hv3, hn2, hl2⟩, hext2⟩
    rw [val_trimL] at hv2 hv3
    have Hv2 := Lib.hid hv2
    have Hv3 := Lib.hid hv3
    clear hv2 hv3
    go_wp2_with fail
    refine (int_signed rfl ho2.rd hc2 hm2 hn2).mono ?_
    rintro e w3 ⟨b3, A3, c3, rs, rfl, hr3, hc3, hm3, hi3, hl3, hext3⟩
    have ext3 := hext2.trans hext3
    have bz3 := bz.ext ext3
    have z0 := bz3.cell 0 (.bool false) rfl
    have z1 := bz3.cell 1 (.slice none 0 0) rfl
    have f0 := bz3.frozen 0
    have f1 := bz3.frozen 1
    go_wp2_with fail
    obtain ⟨r1, r2, r3, r4⟩ := fin_pair (b := b3) (n := rs.length) (c := c3) (extW.trans ext3) (by omega) bz3 hr3
    have e9 : ival false zs = (val zs : Int) := by simp [ival]
    rw [e9] at hi3
    exact bodyPost_ret (v := .tuple #[.agg #[.bool b3, .slice A3 rs.length c3], .int .i64 0]) (by simp [results, Tryz.results109, go_sem, r3, r4]) rfl ⟨val zs, Hv2.out, Hv3.out, b3, A3, c3, rs, rfl, r1, hc3, hm3, hi3, by have := Hn.out; omega, r2⟩
end
end Go.Proofs.YtiioodgpkdbndaaGreatDoor
namespace Go.Proofs.YtiioodgpkdbndaaGreatDoor
open Go.RowKit
attribute [local go_sem ↓] Go.wp_at_zero Go.wp_at_succ
/-- words of an argument of any form. -/
structure RI (w : World) (A : Option Addr) (n c : Nat) (xs : List Nat) : Prop where
  len : xs.length = n
  rd : Rd w A xs
  cap : n ≤ c
  top : c ≤ maxLen
theorem RI.ext {w w' : World} {A : Option Addr} {n c : Nat} {xs : List Nat} (h : RI w A n c xs) (e : Ext w w') : RI w' A n c xs := ⟨h.len, h.rd.ext e, h.cap, h.top⟩
def validQ (s : Bool) (xs : List Nat) (t : Bool) (ys : List Nat) : Bool := validB s xs && (validB t ys && (decide (0 < ival t ys) && decide (((Nat.gcd (val xs) (val ys) : Nat) : Int) = 1)))
theorem validB_is {s : Bool} {xs : List Nat} (h : validB s xs = true) (hw : W32 xs) : IsInt (ival s xs) s xs := by
  unfold validB at h
  rw [Bool.and_eq_true, decide_eq_true_eq] at h
  obtain ⟨h1, h2⟩ := h
  have hn : Nrm xs := by unfold Nrm; rw [trimL_take, h1, List.take_length]
  refine ⟨hw, hn, fun h0 => ?_, rfl⟩
  subst h0
  simpa using h2
theorem NI.of_raw {w : World} {s : Bool} {A : Option Addr} {n c : Nat} {xs : List Nat} {L : Nat} (h : RI w A n c xs) (hv : validB s xs = true) (hl : n ≤ L) : NI w (ival s xs) L s A n c :=
  ⟨xs, h.len, h.rd, h.cap, h.top, validB_is hv h.rd.1, hl⟩
theorem NR.of_raw {w : World} {s : Bool} {A : Option Addr} {n c : Nat} {xs : List Nat} {t : Bool} {B : Option Addr} {m d : Nat} {ys : List Nat} {L : Nat} (h : RI w A n c xs) (k : RI w B m d ys) (hv : validQ s xs t ys = true) (hn : n ≤ L) (hm : m ≤ L) :
    ∃ q : Rat, NR w q L s A n c t B m d := by
  unfold validQ at hv
  simp only [Bool.and_eq_true, decide_eq_true_eq] at hv
  obtain ⟨h1, h2, h3, h4⟩ := hv
  have hg : Nat.gcd (val xs) (val ys) = 1 := by omega
  have hy : ival t ys = (val ys : Int) := ival_abs (by omega)
  refine ⟨⟨ival s xs, val ys, by omega, by rw [ival_ab]; exact hg⟩, NI.of_raw h h1 hn, ?_⟩
  show NI w ((val ys : Nat) : Int) L t B m d
  rw [← hy]
  exact NI.of_raw k h2 hm
section
variable {w w' : World} {z y : Int} {q p : Rat} {L M : Nat} {s t s' t' : Bool} {A B A' B' : Option Addr} {n c m d n' c' m' d' : Nat} {xs ys xs' ys' : List Nat}
set_option maxHeartbeats 4000000 in
theorem p_ValidRaw (h : RI w A n c xs) (k : RI w B m d ys) (h1 : n ≤ 3000) (h2 : m ≤ 3000) (hT : Tab w) : Calls Tryz.prog 18 #[.agg #[.bool s, .slice A n c, .bool t, .slice B m d]] w fun e w' => e = .returned (.bool (validQ s xs t ys)) ∧ Ext w w' := by
  obtain ⟨r, hr⟩ : ∃ r, validQ s xs t ys = r := ⟨_, rfl⟩
  have HR := Lib.hid hr
  rw [hr]
  clear hr
  go_enter Tryz.func18, Tryz.ntmps18
  go_upto_region 1 with (fail)
  obtain ⟨W, hW, extW, bx, hz⟩ := box1 w 27 #[.bool s, .slice A n c, .bool t, .slice B m d]
  rw [← hW]
  clear hW
  replace h := h.ext extW
  replace k := k.ext extW
  have x0 := bx.cell 0 (.bool s) rfl
  have x1 := bx.cell 1 (.slice A n c) rfl
  have x2 := bx.cell 2 (.bool t) rfl
  have x3 := bx.cell 3 (.slice B m d) rfl
  go_wp2_with fail
  refine (int_Valid h.len h.rd h.cap h.top (by omega)).mono ?_
  rintro e wa ⟨rfl, hxa⟩
  replace bx := bx.ext hxa
  replace h := h.ext hxa
  replace k := k.ext hxa
  replace extW := extW.trans hxa
  clear hxa x0 x1 x2 x3
  have x0 := bx.cell 0 (.bool s) rfl
  have x1 := bx.cell 1 (.slice A n c) rfl
  have x2 := bx.cell 2 (.bool t) rfl
  have x3 := bx.cell 3 (.slice B m d) rfl
  cases hv1 : validB s xs with
  | false =>
    go_wp2_with fail
    go_ret
    exact ⟨by rw [← HR.out]; unfold validQ; rw [hv1]; rfl, extW⟩
  | true =>
    go_wp2_with fail
    refine (int_Valid k.len k.rd k.cap k.top (by omega)).mono ?_
    rintro e wb ⟨rfl, hxb⟩
    replace bx := bx.ext hxb
    replace h := h.ext hxb
    replace k := k.ext hxb
    replace extW := extW.trans hxb
    clear hxb x0 x1 x2 x3
    have x0 := bx.cell 0 (.bool s) rfl
    have x1 := bx.cell 1 (.slice A n c) rfl
    have x2 := bx.cell 2 (.bool t) rfl
    have x3 := bx.cell 3 (.slice B m d) rfl
    cases hv2 : validB t ys with
    | false =>
      go_wp2_with fail
      go_ret
      exact ⟨by rw [← HR.out]; unfold validQ; rw [hv1, hv2]; rfl, extW⟩
    | true =>
      have H1 := NI.of_raw (L := 3000) h hv1 h1
      have H2 := NI.of_raw (L := 3000) k hv2 h2
      have hvq : validQ s xs t ys = (decide (0 < ival t ys) && decide (((Nat.gcd (val xs) (val ys) : Nat) : Int) = 1)) := by unfold validQ; rw [hv1, hv2]; rfl
      rw [HR.out] at hvq
      have HVQ := Lib.hid hvq
      clear hv1 hv2 hvq HR
      go_wp2_with fail
      refine (p_Sign H2 (by omega)).mono ?_
      rintro e wc ⟨rfl, hxc⟩
      replace bx := bx.ext hxc
      replace H1 := H1.ext hxc
      replace H2 := H2.ext hxc
      replace extW := extW.trans hxc
      clear hxc x0 x1 x2 x3 h k
      have x0 := bx.cell 0 (.bool s) rfl
      have x1 := bx.cell 1 (.slice A n c) rfl
      have x2 := bx.cell 2 (.bool t) rfl
      have x3 := bx.cell 3 (.slice B m d) rfl
      by_cases hp : 0 < ival t ys
      · rw [Int.sign_eq_one_of_pos hp]
        have hvr : r = decide (((Nat.gcd (val xs) (val ys) : Nat) : Int) = 1) := by rw [HVQ.out, decide_eq_true hp, Bool.true_and]
        have HP := Lib.hid hvr
        clear HVQ hvr
        have ab1 := ival_ab s xs
        have ab2 := ival_ab t ys
        clear hp
        go_wp2_with fail
        refine (p_isOne H2).mono ?_
        rintro e wo ⟨rfl, hxo⟩
        replace bx := bx.ext hxo
        replace H1 := H1.ext hxo
        replace H2 := H2.ext hxo
        replace extW := extW.trans hxo
        clear hxo x0 x1 x2 x3
        have x0 := bx.cell 0 (.bool s) rfl
        have x1 := bx.cell 1 (.slice A n c) rfl
        have x2 := bx.cell 2 (.bool t) rfl
        have x3 := bx.cell 3 (.slice B m d) rfl
        by_cases h1d : ival t ys = 1
        · rw [decide_eq_true h1d]
          have hv1 : val ys = 1 := by rw [h1d] at ab2; exact ab2.symm
          have hr1 : r = true := by rw [HP.out, hv1, Nat.gcd_one_right]; rfl
          go_wp2_with fail
          go_ret
          exact ⟨by rw [hr1]; rfl, extW⟩
        rw [decide_eq_false h1d]
        go_wp2_with fail
        refine (p_GCD H1 H2 (by omega) (by omega) (hT.ext extW)).mono ?_
        rintro e wd ⟨s1, A1, n1, c1, rfl, hg, hxd⟩
        rw [ab1, ab2] at hg
        go_wp2_with fail
        refine (p_isOne hg).mono ?_
        rintro e we ⟨rfl, hxe⟩
        go_wp2_with fail
        go_ret
        exact ⟨by rw [HP.out]; rfl, extW.trans (hxd.trans hxe)⟩
      · have hvr : r = false := by rw [HVQ.out, decide_eq_false hp, Bool.false_and]
        subst hvr
        clear HVQ
        have hs : (ival t ys).sign = 0 ∨ (ival t ys).sign = -1 := by
          rcases Int.lt_trichotomy (ival t ys) 0 with h | h | h
          · exact Or.inr (Int.sign_eq_neg_one_of_neg h)
          · exact Or.inl (by rw [h]; rfl)
          · exact absurd h hp
        clear hp
        rcases hs with hs | hs
        · rw [hs]
          go_wp2_with fail
          go_ret
          exact ⟨rfl, extW⟩
        · rw [hs]
          go_wp2_with fail
          go_ret
          exact ⟨rfl, extW⟩
end
section
variable {A : Option Addr} {c n : Nat} {xs : List Nat} {w : World} {s : Bool}
end
section
variable {w w' : World} {z y : Int} {q p : Rat} {L M : Nat} {s t s' t' : Bool} {A B A' B' : Option Addr} {n c m d n' c' m' d' : Nat} {xs ys xs' ys' : List Nat}
end
end Go.Proofs.YtiioodgpkdbndaaGreatDoor
namespace Go.Proofs.YtiioodgpkdbndaaGreatDoor
open Go.RowKit
attribute [local go_sem ↓] Go.wp_at_zero Go.wp_at_succ
section
variable {w w' : World} {z y : Int} {q p : Rat} {L M : Nat} {s t s' t' : Bool} {A B A' B' : Option Addr} {n c m d n' c' m' d' : Nat} {xs ys xs' ys' : List Nat}
/-- the quotient, in lowest terms; 0 if the second number is 0. -/
def mkQ (z y : Int) : Rat := if y < 0 then mkRat (-z) (-y).natAbs else mkRat z y.natAbs
set_option maxHeartbeats 4000000 in
theorem p_Make_0 (h : NI w z L s A n c) (k : NI w y M t B m d) (hL : L ≤ 3000) (hM : M ≤ 3000) (hy : y = 0) : Calls Tryz.prog 13 #[.agg #[.bool s, .slice A n c], .agg #[.bool t, .slice B m d]] w (RetZE 6 w) := by
  have hs : y.sign = 0 := by rw [hy]; rfl
  go_enter Tryz.func13, Tryz.ntmps13
  go_upto_region 1 with (fail)
  obtain ⟨W, hW, extW, bx, by_, bz, hz⟩ := box3 w 24 24 27 #[.bool s, .slice A n c] #[.bool t, .slice B m d] #[Value.bool false, Value.slice none 0 0, Value.bool false, Value.slice none 0 0]
  rw [← hW]
  clear hW
  replace h := h.ext extW
  replace k := k.ext extW
  refine wpL.start 4 (by kernel_rfl) (fun _ _ _ _ _ => ⟨fun h => h, fun h => h⟩) (fun hQ ES => ?_)
  refine wpL.take (i := 0) (d := some 7) (v := ?v0_78) rfl rfl (by kernel_rfl) (by kernel_rfl) (by kernel_rfl) (by kernel_rfl) hQ (Or.inl ⟨by rfl, ?y0_78⟩) ES ?r0_78
  case y0_78 =>
    intro w' hSw
    have k00 := (bx.ext hSw).c2
    have k10 := (by_.ext hSw).c2
    go_simp
    try with_reducible rfl
  try simp only [Act.put]
  try simp only [List.setIfInBounds_toArray]
  try simp only [List.set_cons_succ]
  try simp only [List.set_cons_zero]
  refine wpL.take2 3 (i := 2) (d := some 9) (v := ?v2_79) rfl rfl (by kernel_rfl) (by kernel_rfl) (by kernel_rfl) (by kernel_rfl) hQ (Or.inl ⟨by rfl, ?y2_79⟩) ES ?r2_79
  case y2_79 =>
    intro w' hSw
    have k00 := (bx.ext hSw).c2
    have k10 := (by_.ext hSw).c2
    go_simp
    try with_reducible rfl
  try simp only [Act.put]
  try simp only [List.setIfInBounds_toArray]
  try simp only [List.set_cons_succ]
  try simp only [List.set_cons_zero]
  refine wpL.call (i := 1) rfl (by kernel_rfl) (fun K hK => ?_)
  go_simp
  (go_at_call 52; refine (p_Norm (h.ext ES) (by omega)).mono ?_; rintro e wk1 ⟨s1, A1, n1, c1, rfl, h1, hx0⟩; have E0_1 := Ext.trans ES hx0)
  refine hK.out _ _ E0_1 ?_
  clear hK K
  try simp only [Act.put]
  try simp only [List.setIfInBounds_toArray]
  try simp only [List.set_cons_succ]
  try simp only [List.set_cons_zero]
  refine wpL.call (i := 3) rfl (by kernel_rfl) (fun K hK => ?_)
  go_simp
  (go_at_call 52; refine (p_Norm (k.ext E0_1) (by omega)).mono ?_; rintro e wk2 ⟨s2, A2, n2, c2, rfl, h2, hx1⟩; have E1_1 := Ext.trans E0_1 hx1)
  refine hK.out _ _ E1_1 ?_
  clear hK K
  try simp only [Act.put]
  try simp only [List.setIfInBounds_toArray]
  try simp only [List.set_cons_succ]
  try simp only [List.set_cons_zero]
  have z0 := (bx.ext E1_1).cell 0 _ rfl
  have z1 := (bx.ext E1_1).cell 1 _ rfl
  have f0 := (bx.ext E1_1).frozen 0
  have f1 := (bx.ext E1_1).frozen 1
  have u0 := (by_.ext E1_1).cell 0 _ rfl
  have u1 := (by_.ext E1_1).cell 1 _ rfl
  have v0 := (by_.ext E1_1).frozen 0
  have v1 := (by_.ext E1_1).frozen 1
  refine wpL.tail (i := 4) rfl (by kernel_rfl) (by kernel_rfl) (fun K hK => ?_)
  go_simp
  refine hK.out _ _ ?_
  clear hK K
  try simp only [Act.put]
  try simp only [List.setIfInBounds_toArray]
  try simp only [List.set_cons_succ]
  try simp only [List.set_cons_zero]
  refine wpL.tail (i := 5) rfl (by kernel_rfl) (by kernel_rfl) (fun K hK => ?_)
  go_simp
  refine hK.out _ _ ?_
  clear hK K
  try simp only [Act.put]
  try simp only [List.setIfInBounds_toArray]
  try simp only [List.set_cons_succ]
  try simp only [List.set_cons_zero]
  refine wpL.done (by kernel_rfl) ?_ _
  clear hQ
  refine at_exit (fun U => Ext w U ∧ Box U w.heap.size 24 #[.bool s1, .slice A1 n1 c1] ∧ Box U (w.heap.size + 1) 24 #[.bool s2, .slice A2 n2 c2] ∧ Box U (w.heap.size + 1 + 1) 27 #[Value.bool false, Value.slice none 0 0, Value.bool false, Value.slice none 0 0] ∧ NI U (z) L s1 A1 n1 c1 ∧ NI U (y) M s2 A2 n2 c2) ?_ ?_
  · have q1 := fin_dual (s := s1) (A := A1) (n := n1) (c := c1) (bx.ext E1_1)
    have q2 := fin_dual (s := s2) (A := A2) (n := n2) (c := c2) (q1.2.2.2 _ _ _ (by omega) (by_.ext E1_1))
    exact ⟨q2.2.2.1 _ (q1.2.2.1 _ (extW.trans E1_1) (by omega)) (by omega), q2.2.2.2 _ _ _ (by omega) q1.1, q2.1, q2.2.2.2 _ _ _ (by omega) (q1.2.2.2 _ _ _ (by omega) (bz.ext E1_1)), q2.2.1 _ _ _ _ _ _ (q1.2.1 _ _ _ _ _ _ (h1.ext hx1)), q2.2.1 _ _ _ _ _ _ (q1.2.1 _ _ _ _ _ _ h2)⟩
  clear extW bx by_ bz h k
  rintro U ⟨extW, bx, by_, bz, h, k⟩
  have y0 := by_.cell 0 (.bool s2) rfl
  have y1 := by_.cell 1 (.slice A2 n2 c2) rfl
  go_wp2_with fail
  refine (p_Sign k (by omega)).mono ?_
  rintro e V ⟨rfl, hxa⟩
  replace bx := bx.ext hxa
  replace by_ := by_.ext hxa
  replace bz := bz.ext hxa
  replace h := h.ext hxa
  replace k := k.ext hxa
  replace extW := extW.trans hxa
  clear hxa y0 y1
  rw [hs]
  have hE := Ext.refl V
  have z0 := (bz.ext hE).cell 0 _ rfl
  have z1 := (bz.ext hE).cell 1 _ rfl
  have z2 := (bz.ext hE).cell 2 _ rfl
  have z3 := (bz.ext hE).cell 3 _ rfl
  have f0 := (bz.ext hE).frozen 0
  have f1 := (bz.ext hE).frozen 1
  have f2 := (bz.ext hE).frozen 2
  have f3 := (bz.ext hE).frozen 3
  go_wp2_with fail
  obtain ⟨b1, b2, b3, b4⟩ := fin_quad (s := false) (A := none) (n := 0) (c := 0) (t := false) (B := none) (m := 0) (d := 0) (bz.ext hE)
  have r0 := b1.cell 0 (.bool false) rfl
  have r1 := b1.cell 1 (.slice none 0 0) rfl
  have r2 := b1.cell 2 (.bool false) rfl
  have r3 := b1.cell 3 (.slice none 0 0) rfl
  unfold set4 at r0 r1 r2 r3
  refine bodyPost_ret (v := .tuple #[.agg #[.bool false, .slice none 0 0, .bool false, .slice none 0 0], .int .i64 6]) (by simp [results, Tryz.results13, go_sem, r0, r1, r2, r3]) rfl ⟨rfl, b3 _ (extW.trans hE) (by omega)⟩
set_option maxHeartbeats 8000000 in
theorem p_Make_pos (h : NI w z L s A n c) (k : NI w y M t B m d) (hL : L ≤ 3000) (hM : M ≤ 3000) (hy : 0 < y) (hT : Tab w) : Calls Tryz.prog 13 #[.agg #[.bool s, .slice A n c], .agg #[.bool t, .slice B m d]] w (RetNRE (mkQ z y) (max L M) w) := by
  have hs : y.sign = 1 := Int.sign_eq_one_of_pos hy
  have hq : mkQ z y = mkRat z y.natAbs := if_neg (by omega)
  rw [hq]
  clear hq
  go_enter Tryz.func13, Tryz.ntmps13
  go_upto_region 1 with (fail)
  obtain ⟨W, hW, extW, bx, by_, bz, hz⟩ := box3 w 24 24 27 #[.bool s, .slice A n c] #[.bool t, .slice B m d] #[Value.bool false, Value.slice none 0 0, Value.bool false, Value.slice none 0 0]
  rw [← hW]
  clear hW
  replace h := h.ext extW
  replace k := k.ext extW
  refine wpL.start 4 (by kernel_rfl) (fun _ _ _ _ _ => ⟨fun h => h, fun h => h⟩) (fun hQ ES => ?_)
  refine wpL.take (i := 0) (d := some 7) (v := ?v0_80) rfl rfl (by kernel_rfl) (by kernel_rfl) (by kernel_rfl) (by kernel_rfl) hQ (Or.inl ⟨by rfl, ?y0_80⟩) ES ?r0_80
  case y0_80 =>
    intro w' hSw
    have k00 := (bx.ext hSw).c2
    have k10 := (by_.ext hSw).c2
    go_simp
    try with_reducible rfl
  try simp only [Act.put]
  try simp only [List.setIfInBounds_toArray]
  try simp only [List.set_cons_succ]
  try simp only [List.set_cons_zero]
  refine wpL.take2 3 (i := 2) (d := some 9) (v := ?v2_81) rfl rfl (by kernel_rfl) (by kernel_rfl) (by kernel_rfl) (by kernel_rfl) hQ (Or.inl ⟨by rfl, ?y2_81⟩) ES ?r2_81
  case y2_81 =>
    intro w' hSw
    have k00 := (bx.ext hSw).c2
    have k10 := (by_.ext hSw).c2
    go_simp
    try with_reducible rfl
  try simp only [Act.put]
  try simp only [List.setIfInBounds_toArray]
  try simp only [List.set_cons_succ]
  try simp only [List.set_cons_zero]
  refine wpL.call (i := 1) rfl (by kernel_rfl) (fun K hK => ?_)
  go_simp
  (go_at_call 52; refine (p_Norm (h.ext ES) (by omega)).mono ?_; rintro e wk1 ⟨s1, A1, n1, c1, rfl, h1, hx0⟩; have E0_1 := Ext.trans ES hx0)
  refine hK.out _ _ E0_1 ?_
  clear hK K
  try simp only [Act.put]
  try simp only [List.setIfInBounds_toArray]
  try simp only [List.set_cons_succ]
  try simp only [List.set_cons_zero]
  refine wpL.call (i := 3) rfl (by kernel_rfl) (fun K hK => ?_)
  go_simp
  (go_at_call 52; refine (p_Norm (k.ext E0_1) (by omega)).mono ?_; rintro e wk2 ⟨s2, A2, n2, c2, rfl, h2, hx1⟩; have E1_1 := Ext.trans E0_1 hx1)
  refine hK.out _ _ E1_1 ?_
  clear hK K
  try simp only [Act.put]
  try simp only [List.setIfInBounds_toArray]
  try simp only [List.set_cons_succ]
  try simp only [List.set_cons_zero]
  have z0 := (bx.ext E1_1).cell 0 _ rfl
  have z1 := (bx.ext E1_1).cell 1 _ rfl
  have f0 := (bx.ext E1_1).frozen 0
  have f1 := (bx.ext E1_1).frozen 1
  have u0 := (by_.ext E1_1).cell 0 _ rfl
  have u1 := (by_.ext E1_1).cell 1 _ rfl
  have v0 := (by_.ext E1_1).frozen 0
  have v1 := (by_.ext E1_1).frozen 1
  refine wpL.tail (i := 4) rfl (by kernel_rfl) (by kernel_rfl) (fun K hK => ?_)
  go_simp
  refine hK.out _ _ ?_
  clear hK K
  try simp only [Act.put]
  try simp only [List.setIfInBounds_toArray]
  try simp only [List.set_cons_succ]
  try simp only [List.set_cons_zero]
  refine wpL.tail (i := 5) rfl (by kernel_rfl) (by kernel_rfl) (fun K hK => ?_)
  go_simp
  refine hK.out _ _ ?_
  clear hK K
  try simp only [Act.put]
  try simp only [List.setIfInBounds_toArray]
  try simp only [List.set_cons_succ]
  try simp only [List.set_cons_zero]
  refine wpL.done (by kernel_rfl) ?_ _
  clear hQ
  refine at_exit (fun U => Ext w U ∧ Box U w.heap.size 24 #[.bool s1, .slice A1 n1 c1] ∧ Box U (w.heap.size + 1) 24 #[.bool s2, .slice A2 n2 c2] ∧ Box U (w.heap.size + 1 + 1) 27 #[Value.bool false, Value.slice none 0 0, Value.bool false, Value.slice none 0 0] ∧ NI U (z) L s1 A1 n1 c1 ∧ NI U (y) M s2 A2 n2 c2) ?_ ?_
  · have q1 := fin_dual (s := s1) (A := A1) (n := n1) (c := c1) (bx.ext E1_1)
    have q2 := fin_dual (s := s2) (A := A2) (n := n2) (c := c2) (q1.2.2.2 _ _ _ (by omega) (by_.ext E1_1))
    exact ⟨q2.2.2.1 _ (q1.2.2.1 _ (extW.trans E1_1) (by omega)) (by omega), q2.2.2.2 _ _ _ (by omega) q1.1, q2.1, q2.2.2.2 _ _ _ (by omega) (q1.2.2.2 _ _ _ (by omega) (bz.ext E1_1)), q2.2.1 _ _ _ _ _ _ (q1.2.1 _ _ _ _ _ _ (h1.ext hx1)), q2.2.1 _ _ _ _ _ _ (q1.2.1 _ _ _ _ _ _ h2)⟩
  clear extW bx by_ bz h k
  rintro U ⟨extW, bx, by_, bz, h, k⟩
  have y0 := by_.cell 0 (.bool s2) rfl
  have y1 := by_.cell 1 (.slice A2 n2 c2) rfl
  go_wp2_with fail
  refine (p_Sign k (by omega)).mono ?_
  rintro e V ⟨rfl, hxa⟩
  replace bx := bx.ext hxa
  replace by_ := by_.ext hxa
  replace bz := bz.ext hxa
  replace h := h.ext hxa
  replace k := k.ext hxa
  replace extW := extW.trans hxa
  clear hxa y0 y1
  rw [hs]
  have y0 := by_.cell 0 (.bool s2) rfl
  have y1 := by_.cell 1 (.slice A2 n2 c2) rfl
  go_wp2_with fail
  refine (p_isOne k).mono ?_
  rintro e Vo ⟨rfl, hxo⟩
  replace bx := bx.ext hxo
  replace by_ := by_.ext hxo
  replace bz := bz.ext hxo
  replace h := h.ext hxo
  replace k := k.ext hxo
  replace extW := extW.trans hxo
  clear hxo y0 y1
  by_cases hone : y = 1
  · rw [decide_eq_true hone]
    obtain ⟨m1, m2⟩ := mkRat_parts (z) (D := (y).natAbs) (by omega)
    have hab : (y).natAbs = 1 := by omega
    rw [hab, Nat.gcd_one_right, Nat.div_one] at m2
    rw [hab, Nat.gcd_one_right] at m1
    have m3 : ((mkRat (z) (y).natAbs).num) = z := by rw [hab, m1]; exact Int.ediv_one _
    have m4 : (((mkRat (z) (y).natAbs).den : Nat) : Int) = y := by rw [hab, m2]; exact hone.symm
    have hE := Ext.refl Vo
    have x0 := bx.cell 0 (.bool s1) rfl
    have x1 := bx.cell 1 (.slice A1 n1 c1) rfl
    have y0 := by_.cell 0 (.bool s2) rfl
    have y1 := by_.cell 1 (.slice A2 n2 c2) rfl
    have z0 := (bz.ext hE).cell 0 _ rfl
    have z1 := (bz.ext hE).cell 1 _ rfl
    have z2 := (bz.ext hE).cell 2 _ rfl
    have z3 := (bz.ext hE).cell 3 _ rfl
    have f0 := (bz.ext hE).frozen 0
    have f1 := (bz.ext hE).frozen 1
    have f2 := (bz.ext hE).frozen 2
    have f3 := (bz.ext hE).frozen 3
    go_wp2_with fail
    obtain ⟨b1, b2, b3, b4⟩ := fin_quad (s := s1) (A := A1) (n := n1) (c := c1) (t := s2) (B := A2) (m := n2) (d := c2) (bz.ext hE)
    have r0 := b1.cell 0 (.bool s1) rfl
    have r1 := b1.cell 1 (.slice A1 n1 c1) rfl
    have r2 := b1.cell 2 (.bool s2) rfl
    have r3 := b1.cell 3 (.slice A2 n2 c2) rfl
    unfold set4 at r0 r1 r2 r3
    refine bodyPost_ret (v := .tuple #[.agg #[.bool s1, .slice A1 n1 c1, .bool s2, .slice A2 n2 c2], .int .i64 0]) (by simp [results, Tryz.results13, go_sem, r0, r1, r2, r3]) rfl ⟨s1, A1, n1, c1, s2, A2, n2, c2, rfl, ⟨(b2 _ _ _ _ _ _ (by rw [m3]; exact h)).le (by omega), (b2 _ _ _ _ _ _ (by rw [m4]; exact k)).le (by omega)⟩, b3 _ (extW.trans hE) (by omega)⟩
  rw [decide_eq_false hone]
  clear hone
  have hEo := Ext.refl Vo
  have x0 := bx.cell 0 (.bool s1) rfl
  have x1 := bx.cell 1 (.slice A1 n1 c1) rfl
  have y0 := by_.cell 0 (.bool s2) rfl
  have y1 := by_.cell 1 (.slice A2 n2 c2) rfl
  go_wp2_with fail
  refine (p_GCD h k (by omega) (by omega) (hT.ext extW)).mono ?_
  rintro e we ⟨s4, A4, n4, c4, rfl, hg, hxe⟩
  obtain ⟨g, hge⟩ : ∃ g, Nat.gcd (z).natAbs (y).natAbs = g := ⟨_, rfl⟩
  rw [hge] at hg
  have hgz : g ∣ (z).natAbs := by rw [← hge]; exact Nat.gcd_dvd_left _ _
  have hgy : g ∣ (y).natAbs := by rw [← hge]; exact Nat.gcd_dvd_right _ _
  have hy0 : (y).natAbs ≠ 0 := by omega
  have hg0 : (g : Int) ≠ 0 := by
    intro h0
    have : g = 0 := by omega
    rw [this] at hgy
    exact hy0 (Nat.eq_zero_of_zero_dvd hgy)
  obtain ⟨m1, m2⟩ := mkRat_parts (z) (D := (y).natAbs) hy0
  rw [hge] at m1 m2
  have Hm1 := Lib.hid m1
  have Hm2 := Lib.hid m2
  have Hg0 := Lib.hid hg0
  have Hgz := Lib.hid (Int.ofNat_dvd_left.2 hgz)
  have Hgy := Lib.hid (Int.ofNat_dvd_left.2 hgy)
  have Hya := Lib.hid (show (((y).natAbs : Nat) : Int) = y from Int.natAbs_of_nonneg (by omega))
  clear hge hg0 hgz hgy m1 m2 hy0 x0 x1 y0 y1
  go_upto_region 10 with (fail)
  refine at_world (fun V9 => Ext Vo V9 ∧ Box V9 we.heap.size 24 #[.bool s4, .slice A4 n4 c4] ∧ NI V9 (g : Int) (max L M) s4 A4 n4 c4) ⟨hxe.alloc _, Box.new we _ _, hg.ext ((Ext.refl we).alloc _)⟩ ?_
  generalize we.heap.size = g8
  clear hxe hg
  rintro V9 ⟨EV, b8, hg⟩
  replace bx := bx.ext EV
  replace by_ := by_.ext EV
  replace bz := bz.ext EV
  replace h := h.ext EV
  replace k := k.ext EV
  replace extW := extW.trans EV
  clear EV
  go_wp2_with fail
  refine wpL.start 7 (by kernel_rfl) (fun _ _ _ _ _ => ⟨fun h => h, fun h => h⟩) (fun hQ ES => ?_)
  refine wpL.take (i := 0) (d := some 30) (v := ?v0_82) rfl rfl (by kernel_rfl) (by kernel_rfl) (by kernel_rfl) (by kernel_rfl) hQ (Or.inl ⟨by rfl, ?y0_82⟩) ES ?r0_82
  case y0_82 =>
    intro w' hSw
    have k00 := (bx.ext hSw).c2
    have k10 := (by_.ext hSw).c2
    have k20 := (b8.ext hSw).c2
    go_simp
    try with_reducible rfl
  try simp only [Act.put]
  try simp only [List.setIfInBounds_toArray]
  try simp only [List.set_cons_succ]
  try simp only [List.set_cons_zero]
  refine wpL.take (i := 1) (d := some 31) (v := ?v1_83) rfl rfl (by kernel_rfl) (by kernel_rfl) (by kernel_rfl) (by kernel_rfl) hQ (Or.inl ⟨by rfl, ?y1_83⟩) ES ?r1_83
  case y1_83 =>
    intro w' hSw
    have k00 := (bx.ext hSw).c2
    have k10 := (by_.ext hSw).c2
    have k20 := (b8.ext hSw).c2
    go_simp
    try with_reducible rfl
  try simp only [Act.put]
  try simp only [List.setIfInBounds_toArray]
  try simp only [List.set_cons_succ]
  try simp only [List.set_cons_zero]
  refine wpL.take (i := 3) (d := some 33) (v := ?v3_84) rfl rfl (by kernel_rfl) (by kernel_rfl) (by kernel_rfl) (by kernel_rfl) hQ (Or.inl ⟨by rfl, ?y3_84⟩) ES ?r3_84
  case y3_84 =>
    intro w' hSw
    have k00 := (bx.ext hSw).c2
    have k10 := (by_.ext hSw).c2
    have k20 := (b8.ext hSw).c2
    go_simp
    try with_reducible rfl
  try simp only [Act.put]
  try simp only [List.setIfInBounds_toArray]
  try simp only [List.set_cons_succ]
  try simp only [List.set_cons_zero]
  refine wpL.take (i := 4) (d := some 34) (v := ?v4_85) rfl rfl (by kernel_rfl) (by kernel_rfl) (by kernel_rfl) (by kernel_rfl) hQ (Or.inl ⟨by rfl, ?y4_85⟩) ES ?r4_85
  case y4_85 =>
    intro w' hSw
    have k00 := (bx.ext hSw).c2
    have k10 := (by_.ext hSw).c2
    have k20 := (b8.ext hSw).c2
    go_simp
    try with_reducible rfl
  try simp only [Act.put]
  try simp only [List.setIfInBounds_toArray]
  try simp only [List.set_cons_succ]
  try simp only [List.set_cons_zero]
  refine wpL.call (i := 2) rfl (by kernel_rfl) (fun K hK => ?_)
  go_simp
  (go_at_call 57; refine (p_divide (h.ext ES) (hg.ext ES) (by omega) (by omega) Hg0.out Hgz.out).mono ?_; rintro e wk5 ⟨s5, A5, n5, c5, rfl, h5, hx0⟩; have E0_10 := Ext.trans ES hx0)
  refine hK.out _ _ E0_10 ?_
  clear hK K
  try simp only [Act.put]
  try simp only [List.setIfInBounds_toArray]
  try simp only [List.set_cons_succ]
  try simp only [List.set_cons_zero]
  refine wpL.call (i := 5) rfl (by kernel_rfl) (fun K hK => ?_)
  go_simp
  (go_at_call 57; refine (p_divide (k.ext E0_10) (hg.ext E0_10) (by omega) (by omega) Hg0.out Hgy.out).mono ?_; rintro e wk6 ⟨s6, A6, n6, c6, rfl, h6, hx1⟩; have E1_10 := Ext.trans E0_10 hx1)
  refine hK.out _ _ E1_10 ?_
  clear hK K
  try simp only [Act.put]
  try simp only [List.setIfInBounds_toArray]
  try simp only [List.set_cons_succ]
  try simp only [List.set_cons_zero]
  refine wpL.take (i := 6) (d := some 36) (v := ?v6_86) rfl rfl (by kernel_rfl) (by kernel_rfl) (by kernel_rfl) (by kernel_rfl) hQ (Or.inl ⟨by rfl, ?y6_86⟩) E1_10 ?r6_86
  case y6_86 =>
    intro w' hSw
    have k00 := (bx.ext hSw).c2
    have k10 := (by_.ext hSw).c2
    have k20 := (b8.ext hSw).c2
    go_simp
    try with_reducible rfl
  try simp only [Act.put]
  try simp only [List.setIfInBounds_toArray]
  try simp only [List.set_cons_succ]
  try simp only [List.set_cons_zero]
  have z0 := (bz.ext E1_10).cell 0 _ rfl
  have z1 := (bz.ext E1_10).cell 1 _ rfl
  have z2 := (bz.ext E1_10).cell 2 _ rfl
  have z3 := (bz.ext E1_10).cell 3 _ rfl
  have f0 := (bz.ext E1_10).frozen 0
  have f1 := (bz.ext E1_10).frozen 1
  have f2 := (bz.ext E1_10).frozen 2
  have f3 := (bz.ext E1_10).frozen 3
  refine wpL.tail (i := 7) rfl (by kernel_rfl) (by kernel_rfl) (fun K hK => ?_)
  go_simp
  refine hK.out _ _ ?_
  clear hK K
  try simp only [Act.put]
  try simp only [List.setIfInBounds_toArray]
  try simp only [List.set_cons_succ]
  try simp only [List.set_cons_zero]
  refine wpL.tail (i := 8) rfl (by kernel_rfl) (by kernel_rfl) (fun K hK => ?_)
  go_simp
  refine hK.out _ _ ?_
  clear hK K
  try simp only [Act.put]
  try simp only [List.setIfInBounds_toArray]
  try simp only [List.set_cons_succ]
  try simp only [List.set_cons_zero]
  refine wpL.done (by kernel_rfl) ?_ _
  clear hQ
  go_wp2_with fail
  have hk1 : (y) / (g : Int) = ((mkRat (z) (y).natAbs).den : Int) := by rw [Hm2.out, Int.natCast_ediv, Hya.out]
  rw [hk1] at h6
  rw [← Hm1.out] at h5
  obtain ⟨b1, b2, b3, b4⟩ := fin_quad (s := s5) (A := A5) (n := n5) (c := c5) (t := s6) (B := A6) (m := n6) (d := c6) (bz.ext E1_10)
  have r0 := b1.cell 0 (.bool s5) rfl
  have r1 := b1.cell 1 (.slice A5 n5 c5) rfl
  have r2 := b1.cell 2 (.bool s6) rfl
  have r3 := b1.cell 3 (.slice A6 n6 c6) rfl
  unfold set4 at r0 r1 r2 r3
  refine bodyPost_ret (v := .tuple #[.agg #[.bool s5, .slice A5 n5 c5, .bool s6, .slice A6 n6 c6], .int .i64 0]) (by simp [results, Tryz.results13, go_sem, r0, r1, r2, r3]) rfl ⟨s5, A5, n5, c5, s6, A6, n6, c6, rfl, ⟨(b2 _ _ _ _ _ _ (h5.ext hx1)).le (by omega), (b2 _ _ _ _ _ _ h6).le (by omega)⟩, b3 _ (extW.trans E1_10) (by omega)⟩
set_option maxHeartbeats 8000000 in
theorem p_Make_neg (h : NI w z L s A n c) (k : NI w y M t B m d) (hL : L ≤ 3000) (hM : M ≤ 3000) (hy : y < 0) (hT : Tab w) : Calls Tryz.prog 13 #[.agg #[.bool s, .slice A n c], .agg #[.bool t, .slice B m d]] w (RetNRE (mkQ z y) (max L M) w) := by
  have hs : y.sign = -1 := Int.sign_eq_neg_one_of_neg hy
  have hq : mkQ z y = mkRat (-z) (-y).natAbs := if_pos hy
  rw [hq]
  clear hq
  go_enter Tryz.func13, Tryz.ntmps13
  go_upto_region 1 with (fail)
  obtain ⟨W, hW, extW, bx, by_, bz, hz⟩ := box3 w 24 24 27 #[.bool s, .slice A n c] #[.bool t, .slice B m d] #[Value.bool false, Value.slice none 0 0, Value.bool false, Value.slice none 0 0]
  rw [← hW]
  clear hW
  replace h := h.ext extW
  replace k := k.ext extW
  refine wpL.start 4 (by kernel_rfl) (fun _ _ _ _ _ => ⟨fun h => h, fun h => h⟩) (fun hQ ES => ?_)
  refine wpL.take (i := 0) (d := some 7) (v := ?v0_87) rfl rfl (by kernel_rfl) (by kernel_rfl) (by kernel_rfl) (by kernel_rfl) hQ (Or.inl ⟨by rfl, ?y0_87⟩) ES ?r0_87
  case y0_87 =>
    intro w' hSw
    have k00 := (bx.ext hSw).c2
    have k10 := (by_.ext hSw).c2
    go_simp
    try with_reducible rfl
  try simp only [Act.put]
  try simp only [List.setIfInBounds_toArray]
  try simp only [List.set_cons_succ]
  try simp only [List.set_cons_zero]
  refine wpL.take2 3 (i := 2) (d := some 9) (v := ?v2_88) rfl rfl (by kernel_rfl) (by kernel_rfl) (by kernel_rfl) (by kernel_rfl) hQ (Or.inl ⟨by rfl, ?y2_88⟩) ES ?r2_88
  case y2_88 =>
    intro w' hSw
    have k00 := (bx.ext hSw).c2
    have k10 := (by_.ext hSw).c2
    go_simp
    try with_reducible rfl
  try simp only [Act.put]
  try simp only [List.setIfInBounds_toArray]
  try simp only [List.set_cons_succ]
  try simp only [List.set_cons_zero]
  refine wpL.call (i := 1) rfl (by kernel_rfl) (fun K hK => ?_)
  go_simp
  (go_at_call 52; refine (p_Norm (h.ext ES) (by omega)).mono ?_; rintro e wk1 ⟨s1, A1, n1, c1, rfl, h1, hx0⟩; have E0_1 := Ext.trans ES hx0)
  refine hK.out _ _ E0_1 ?_
  clear hK K
  try simp only [Act.put]
  try simp only [List.setIfInBounds_toArray]
  try simp only [List.set_cons_succ]
  try simp only [List.set_cons_zero]
  refine wpL.call (i := 3) rfl (by kernel_rfl) (fun K hK => ?_)
  go_simp
  (go_at_call 52; refine (p_Norm (k.ext E0_1) (by omega)).mono ?_; rintro e wk2 ⟨s2, A2, n2, c2, rfl, h2, hx1⟩; have E1_1 := Ext.trans E0_1 hx1)
  refine hK.out _ _ E1_1 ?_
  clear hK K
  try simp only [Act.put]
  try simp only [List.setIfInBounds_toArray]
  try simp only [List.set_cons_succ]
  try simp only [List.set_cons_zero]
  have z0 := (bx.ext E1_1).cell 0 _ rfl
  have z1 := (bx.ext E1_1).cell 1 _ rfl
  have f0 := (bx.ext E1_1).frozen 0
  have f1 := (bx.ext E1_1).frozen 1
  have u0 := (by_.ext E1_1).cell 0 _ rfl
  have u1 := (by_.ext E1_1).cell 1 _ rfl
  have v0 := (by_.ext E1_1).frozen 0
  have v1 := (by_.ext E1_1).frozen 1
  refine wpL.tail (i := 4) rfl (by kernel_rfl) (by kernel_rfl) (fun K hK => ?_)
  go_simp
  refine hK.out _ _ ?_
  clear hK K
  try simp only [Act.put]
  try simp only [List.setIfInBounds_toArray]
  try simp only [List.set_cons_succ]
  try simp only [List.set_cons_zero]
  refine wpL.tail (i := 5) rfl (by kernel_rfl) (by kernel_rfl) (fun K hK => ?_)
  go_simp
  refine hK.out _ _ ?_
  clear hK K
  try simp only [Act.put]
  try simp only [List.setIfInBounds_toArray]
  try simp only [List.set_cons_succ]
  try simp only [List.set_cons_zero]
  refine wpL.done (by kernel_rfl) ?_ _
  clear hQ
  refine at_exit (fun U => Ext w U ∧ Box U w.heap.size 24 #[.bool s1, .slice A1 n1 c1] ∧ Box U (w.heap.size + 1) 24 #[.bool s2, .slice A2 n2 c2] ∧ Box U (w.heap.size + 1 + 1) 27 #[Value.bool false, Value.slice none 0 0, Value.bool false, Value.slice none 0 0] ∧ NI U (z) L s1 A1 n1 c1 ∧ NI U (y) M s2 A2 n2 c2) ?_ ?_
  · have q1 := fin_dual (s := s1) (A := A1) (n := n1) (c := c1) (bx.ext E1_1)
    have q2 := fin_dual (s := s2) (A := A2) (n := n2) (c := c2) (q1.2.2.2 _ _ _ (by omega) (by_.ext E1_1))
    exact ⟨q2.2.2.1 _ (q1.2.2.1 _ (extW.trans E1_1) (by omega)) (by omega), q2.2.2.2 _ _ _ (by omega) q1.1, q2.1, q2.2.2.2 _ _ _ (by omega) (q1.2.2.2 _ _ _ (by omega) (bz.ext E1_1)), q2.2.1 _ _ _ _ _ _ (q1.2.1 _ _ _ _ _ _ (h1.ext hx1)), q2.2.1 _ _ _ _ _ _ (q1.2.1 _ _ _ _ _ _ h2)⟩
  clear extW bx by_ bz h k
  rintro U ⟨extW, bx, by_, bz, h, k⟩
  have y0 := by_.cell 0 (.bool s2) rfl
  have y1 := by_.cell 1 (.slice A2 n2 c2) rfl
  go_wp2_with fail
  refine (p_Sign k (by omega)).mono ?_
  rintro e V ⟨rfl, hxa⟩
  replace bx := bx.ext hxa
  replace by_ := by_.ext hxa
  replace bz := bz.ext hxa
  replace h := h.ext hxa
  replace k := k.ext hxa
  replace extW := extW.trans hxa
  clear hxa y0 y1
  rw [hs]
  go_upto_region 6 with (fail)
  refine wpL.start 4 (by kernel_rfl) (fun _ _ _ _ _ => ⟨fun h => h, fun h => h⟩) (fun hQ ES => ?_)
  refine wpL.take (i := 0) (d := some 18) (v := ?v0_76) rfl rfl (by kernel_rfl) (by kernel_rfl) (by kernel_rfl) (by kernel_rfl) hQ (Or.inl ⟨by rfl, ?y0_76⟩) ES ?r0_76
  case y0_76 =>
    intro w' hSw
    have k00 := (bx.ext hSw).c2
    have k10 := (by_.ext hSw).c2
    go_simp
    try with_reducible rfl
  try simp only [Act.put]
  try simp only [List.setIfInBounds_toArray]
  try simp only [List.set_cons_succ]
  try simp only [List.set_cons_zero]
  refine wpL.take2 3 (i := 2) (d := some 20) (v := ?v2_77) rfl rfl (by kernel_rfl) (by kernel_rfl) (by kernel_rfl) (by kernel_rfl) hQ (Or.inl ⟨by rfl, ?y2_77⟩) ES ?r2_77
  case y2_77 =>
    intro w' hSw
    have k00 := (bx.ext hSw).c2
    have k10 := (by_.ext hSw).c2
    go_simp
    try with_reducible rfl
  try simp only [Act.put]
  try simp only [List.setIfInBounds_toArray]
  try simp only [List.set_cons_succ]
  try simp only [List.set_cons_zero]
  refine wpL.call (i := 1) rfl (by kernel_rfl) (fun K hK => ?_)
  go_simp
  (go_at_call 54; refine (p_Neg (h.ext ES) (by omega)).mono ?_; rintro e wk3 ⟨s3, A3, n3, c3, rfl, h1, hx0⟩; have E0_6 := Ext.trans ES hx0)
  refine hK.out _ _ E0_6 ?_
  clear hK K
  try simp only [Act.put]
  try simp only [List.setIfInBounds_toArray]
  try simp only [List.set_cons_succ]
  try simp only [List.set_cons_zero]
  refine wpL.call (i := 3) rfl (by kernel_rfl) (fun K hK => ?_)
  go_simp
  (go_at_call 54; refine (p_Neg (k.ext E0_6) (by omega)).mono ?_; rintro e wk4 ⟨s3', A3', n3', c3', rfl, h2, hx1⟩; have E1_6 := Ext.trans E0_6 hx1)
  refine hK.out _ _ E1_6 ?_
  clear hK K
  try simp only [Act.put]
  try simp only [List.setIfInBounds_toArray]
  try simp only [List.set_cons_succ]
  try simp only [List.set_cons_zero]
  have z0 := (bx.ext E1_6).cell 0 _ rfl
  have z1 := (bx.ext E1_6).cell 1 _ rfl
  have f0 := (bx.ext E1_6).frozen 0
  have f1 := (bx.ext E1_6).frozen 1
  have u0 := (by_.ext E1_6).cell 0 _ rfl
  have u1 := (by_.ext E1_6).cell 1 _ rfl
  have v0 := (by_.ext E1_6).frozen 0
  have v1 := (by_.ext E1_6).frozen 1
  refine wpL.tail (i := 4) rfl (by kernel_rfl) (by kernel_rfl) (fun K hK => ?_)
  go_simp
  refine hK.out _ _ ?_
  clear hK K
  try simp only [Act.put]
  try simp only [List.setIfInBounds_toArray]
  try simp only [List.set_cons_succ]
  try simp only [List.set_cons_zero]
  refine wpL.tail (i := 5) rfl (by kernel_rfl) (by kernel_rfl) (fun K hK => ?_)
  go_simp
  refine hK.out _ _ ?_
  clear hK K
  try simp only [Act.put]
  try simp only [List.setIfInBounds_toArray]
  try simp only [List.set_cons_succ]
  try simp only [List.set_cons_zero]
  refine wpL.done (by kernel_rfl) ?_ _
  clear hQ
  refine at_exit (fun V2 => Ext w V2 ∧ Box V2 w.heap.size 24 #[.bool s3, .slice A3 n3 c3] ∧ Box V2 (w.heap.size + 1) 24 #[.bool s3', .slice A3' n3' c3'] ∧ Box V2 (w.heap.size + 1 + 1) 27 #[Value.bool false, Value.slice none 0 0, Value.bool false, Value.slice none 0 0] ∧ NI V2 (-z) L s3 A3 n3 c3 ∧ NI V2 (-y) M s3' A3' n3' c3') ?_ ?_
  · have q1 := fin_dual (s := s3) (A := A3) (n := n3) (c := c3) (bx.ext E1_6)
    have q2 := fin_dual (s := s3') (A := A3') (n := n3') (c := c3') (q1.2.2.2 _ _ _ (by omega) (by_.ext E1_6))
    exact ⟨q2.2.2.1 _ (q1.2.2.1 _ (extW.trans E1_6) (by omega)) (by omega), q2.2.2.2 _ _ _ (by omega) q1.1, q2.1, q2.2.2.2 _ _ _ (by omega) (q1.2.2.2 _ _ _ (by omega) (bz.ext E1_6)), q2.2.1 _ _ _ _ _ _ (q1.2.1 _ _ _ _ _ _ (h1.ext hx1)), q2.2.1 _ _ _ _ _ _ (q1.2.1 _ _ _ _ _ _ h2)⟩
  clear extW bx by_ bz h k
  rintro V2 ⟨extW, bx, by_, bz, h, k⟩
  have y0 := by_.cell 0 (.bool s3') rfl
  have y1 := by_.cell 1 (.slice A3' n3' c3') rfl
  go_wp2_with fail
  refine (p_isOne k).mono ?_
  rintro e V2o ⟨rfl, hxo⟩
  replace bx := bx.ext hxo
  replace by_ := by_.ext hxo
  replace bz := bz.ext hxo
  replace h := h.ext hxo
  replace k := k.ext hxo
  replace extW := extW.trans hxo
  clear hxo y0 y1
  by_cases hone : -y = 1
  · rw [decide_eq_true hone]
    obtain ⟨m1, m2⟩ := mkRat_parts (-z) (D := (-y).natAbs) (by omega)
    have hab : (-y).natAbs = 1 := by omega
    rw [hab, Nat.gcd_one_right, Nat.div_one] at m2
    rw [hab, Nat.gcd_one_right] at m1
    have m3 : ((mkRat (-z) (-y).natAbs).num) = -z := by rw [hab, m1]; exact Int.ediv_one _
    have m4 : (((mkRat (-z) (-y).natAbs).den : Nat) : Int) = -y := by rw [hab, m2]; exact hone.symm
    have hE := Ext.refl V2o
    have x0 := bx.cell 0 (.bool s3) rfl
    have x1 := bx.cell 1 (.slice A3 n3 c3) rfl
    have y0 := by_.cell 0 (.bool s3') rfl
    have y1 := by_.cell 1 (.slice A3' n3' c3') rfl
    have z0 := (bz.ext hE).cell 0 _ rfl
    have z1 := (bz.ext hE).cell 1 _ rfl
    have z2 := (bz.ext hE).cell 2 _ rfl
    have z3 := (bz.ext hE).cell 3 _ rfl
    have f0 := (bz.ext hE).frozen 0
    have f1 := (bz.ext hE).frozen 1
    have f2 := (bz.ext hE).frozen 2
    have f3 := (bz.ext hE).frozen 3
    go_wp2_with fail
    obtain ⟨b1, b2, b3, b4⟩ := fin_quad (s := s3) (A := A3) (n := n3) (c := c3) (t := s3') (B := A3') (m := n3') (d := c3') (bz.ext hE)
    have r0 := b1.cell 0 (.bool s3) rfl
    have r1 := b1.cell 1 (.slice A3 n3 c3) rfl
    have r2 := b1.cell 2 (.bool s3') rfl
    have r3 := b1.cell 3 (.slice A3' n3' c3') rfl
    unfold set4 at r0 r1 r2 r3
    refine bodyPost_ret (v := .tuple #[.agg #[.bool s3, .slice A3 n3 c3, .bool s3', .slice A3' n3' c3'], .int .i64 0]) (by simp [results, Tryz.results13, go_sem, r0, r1, r2, r3]) rfl ⟨s3, A3, n3, c3, s3', A3', n3', c3', rfl, ⟨(b2 _ _ _ _ _ _ (by rw [m3]; exact h)).le (by omega), (b2 _ _ _ _ _ _ (by rw [m4]; exact k)).le (by omega)⟩, b3 _ (extW.trans hE) (by omega)⟩
  rw [decide_eq_false hone]
  clear hone
  have hEo := Ext.refl V2o
  have x0 := bx.cell 0 (.bool s3) rfl
  have x1 := bx.cell 1 (.slice A3 n3 c3) rfl
  have y0 := by_.cell 0 (.bool s3') rfl
  have y1 := by_.cell 1 (.slice A3' n3' c3') rfl
  go_wp2_with fail
  refine (p_GCD h k (by omega) (by omega) (hT.ext extW)).mono ?_
  rintro e we ⟨s4, A4, n4, c4, rfl, hg, hxe⟩
  obtain ⟨g, hge⟩ : ∃ g, Nat.gcd (-z).natAbs (-y).natAbs = g := ⟨_, rfl⟩
  rw [hge] at hg
  have hgz : g ∣ (-z).natAbs := by rw [← hge]; exact Nat.gcd_dvd_left _ _
  have hgy : g ∣ (-y).natAbs := by rw [← hge]; exact Nat.gcd_dvd_right _ _
  have hy0 : (-y).natAbs ≠ 0 := by omega
  have hg0 : (g : Int) ≠ 0 := by
    intro h0
    have : g = 0 := by omega
    rw [this] at hgy
    exact hy0 (Nat.eq_zero_of_zero_dvd hgy)
  obtain ⟨m1, m2⟩ := mkRat_parts (-z) (D := (-y).natAbs) hy0
  rw [hge] at m1 m2
  have Hm1 := Lib.hid m1
  have Hm2 := Lib.hid m2
  have Hg0 := Lib.hid hg0
  have Hgz := Lib.hid (Int.ofNat_dvd_left.2 hgz)
  have Hgy := Lib.hid (Int.ofNat_dvd_left.2 hgy)
  have Hya := Lib.hid (show (((-y).natAbs : Nat) : Int) = -y from Int.natAbs_of_nonneg (by omega))
  clear hge hg0 hgz hgy m1 m2 hy0 x0 x1 y0 y1
  go_upto_region 10 with (fail)
  refine at_world (fun V9 => Ext V2o V9 ∧ Box V9 we.heap.size 24 #[.bool s4, .slice A4 n4 c4] ∧ NI V9 (g : Int) (max L M) s4 A4 n4 c4) ⟨hxe.alloc _, Box.new we _ _, hg.ext ((Ext.refl we).alloc _)⟩ ?_
  generalize we.heap.size = g8
  clear hxe hg
  rintro V9 ⟨EV, b8, hg⟩
  replace bx := bx.ext EV
  replace by_ := by_.ext EV
  replace bz := bz.ext EV
  replace h := h.ext EV
  replace k := k.ext EV
  replace extW := extW.trans EV
  clear EV
  go_wp2_with fail
  refine wpL.start 7 (by kernel_rfl) (fun _ _ _ _ _ => ⟨fun h => h, fun h => h⟩) (fun hQ ES => ?_)
  refine wpL.take (i := 0) (d := some 30) (v := ?v0_89) rfl rfl (by kernel_rfl) (by kernel_rfl) (by kernel_rfl) (by kernel_rfl) hQ (Or.inl ⟨by rfl, ?y0_89⟩) ES ?r0_89
  case y0_89 =>
    intro w' hSw
    have k00 := (bx.ext hSw).c2
    have k10 := (by_.ext hSw).c2
    have k20 := (b8.ext hSw).c2
    go_simp
    try with_reducible rfl
  try simp only [Act.put]
  try simp only [List.setIfInBounds_toArray]
  try simp only [List.set_cons_succ]
  try simp only [List.set_cons_zero]
  refine wpL.take (i := 1) (d := some 31) (v := ?v1_90) rfl rfl (by kernel_rfl) (by kernel_rfl) (by kernel_rfl) (by kernel_rfl) hQ (Or.inl ⟨by rfl, ?y1_90⟩) ES ?r1_90
  case y1_90 =>
    intro w' hSw
    have k00 := (bx.ext hSw).c2
    have k10 := (by_.ext hSw).c2
    have k20 := (b8.ext hSw).c2
    go_simp
    try with_reducible rfl
  try simp only [Act.put]
  try simp only [List.setIfInBounds_toArray]
  try simp only [List.set_cons_succ]
  try simp only [List.set_cons_zero]
  refine wpL.take (i := 3) (d := some 33) (v := ?v3_91) rfl rfl (by kernel_rfl) (by kernel_rfl) (by kernel_rfl) (by kernel_rfl) hQ (Or.inl ⟨by rfl, ?y3_91⟩) ES ?r3_91
  case y3_91 =>
    intro w' hSw
    have k00 := (bx.ext hSw).c2
    have k10 := (by_.ext hSw).c2
    have k20 := (b8.ext hSw).c2
    go_simp
    try with_reducible rfl
  try simp only [Act.put]
  try simp only [List.setIfInBounds_toArray]
  try simp only [List.set_cons_succ]
  try simp only [List.set_cons_zero]
  refine wpL.take (i := 4) (d := some 34) (v := ?v4_92) rfl rfl (by kernel_rfl) (by kernel_rfl) (by kernel_rfl) (by kernel_rfl) hQ (Or.inl ⟨by rfl, ?y4_92⟩) ES ?r4_92
  case y4_92 =>
    intro w' hSw
    have k00 := (bx.ext hSw).c2
    have k10 := (by_.ext hSw).c2
    have k20 := (b8.ext hSw).c2
    go_simp
    try with_reducible rfl
  try simp only [Act.put]
  try simp only [List.setIfInBounds_toArray]
  try simp only [List.set_cons_succ]
  try simp only [List.set_cons_zero]
  refine wpL.call (i := 2) rfl (by kernel_rfl) (fun K hK => ?_)
  go_simp
  (go_at_call 57; refine (p_divide (h.ext ES) (hg.ext ES) (by omega) (by omega) Hg0.out Hgz.out).mono ?_; rintro e wk5 ⟨s5, A5, n5, c5, rfl, h5, hx0⟩; have E0_10 := Ext.trans ES hx0)
  refine hK.out _ _ E0_10 ?_
  clear hK K
  try simp only [Act.put]
  try simp only [List.setIfInBounds_toArray]
  try simp only [List.set_cons_succ]
  try simp only [List.set_cons_zero]
  refine wpL.call (i := 5) rfl (by kernel_rfl) (fun K hK => ?_)
  go_simp
  (go_at_call 57; refine (p_divide (k.ext E0_10) (hg.ext E0_10) (by omega) (by omega) Hg0.out Hgy.out).mono ?_; rintro e wk6 ⟨s6, A6, n6, c6, rfl, h6, hx1⟩; have E1_10 := Ext.trans E0_10 hx1)
  refine hK.out _ _ E1_10 ?_
  clear hK K
  try simp only [Act.put]
  try simp only [List.setIfInBounds_toArray]
  try simp only [List.set_cons_succ]
  try simp only [List.set_cons_zero]
  refine wpL.take (i := 6) (d := some 36) (v := ?v6_93) rfl rfl (by kernel_rfl) (by kernel_rfl) (by kernel_rfl) (by kernel_rfl) hQ (Or.inl ⟨by rfl, ?y6_93⟩) E1_10 ?r6_93
  case y6_93 =>
    intro w' hSw
    have k00 := (bx.ext hSw).c2
    have k10 := (by_.ext hSw).c2
    have k20 := (b8.ext hSw).c2
    go_simp
    try with_reducible rfl
  try simp only [Act.put]
  try simp only [List.setIfInBounds_toArray]
  try simp only [List.set_cons_succ]
  try simp only [List.set_cons_zero]
  have z0 := (bz.ext E1_10).cell 0 _ rfl
  have z1 := (bz.ext E1_10).cell 1 _ rfl
  have z2 := (bz.ext E1_10).cell 2 _ rfl
  have z3 := (bz.ext E1_10).cell 3 _ rfl
  have f0 := (bz.ext E1_10).frozen 0
  have f1 := (bz.ext E1_10).frozen 1
  have f2 := (bz.ext E1_10).frozen 2
  have f3 := (bz.ext E1_10).frozen 3
  refine wpL.tail (i := 7) rfl (by kernel_rfl) (by kernel_rfl) (fun K hK => ?_)
  go_simp
  refine hK.out _ _ ?_
  clear hK K
  try simp only [Act.put]
  try simp only [List.setIfInBounds_toArray]
  try simp only [List.set_cons_succ]
  try simp only [List.set_cons_zero]
  refine wpL.tail (i := 8) rfl (by kernel_rfl) (by kernel_rfl) (fun K hK => ?_)
  go_simp
  refine hK.out _ _ ?_
  clear hK K
  try simp only [Act.put]
  try simp only [List.setIfInBounds_toArray]
  try simp only [List.set_cons_succ]
  try simp only [List.set_cons_zero]
  refine wpL.done (by kernel_rfl) ?_ _
  clear hQ
  go_wp2_with fail
  have hk1 : (-y) / (g : Int) = ((mkRat (-z) (-y).natAbs).den : Int) := by rw [Hm2.out, Int.natCast_ediv, Hya.out]
  rw [hk1] at h6
  rw [← Hm1.out] at h5
  obtain ⟨b1, b2, b3, b4⟩ := fin_quad (s := s5) (A := A5) (n := n5) (c := c5) (t := s6) (B := A6) (m := n6) (d := c6) (bz.ext E1_10)
  have r0 := b1.cell 0 (.bool s5) rfl
  have r1 := b1.cell 1 (.slice A5 n5 c5) rfl
  have r2 := b1.cell 2 (.bool s6) rfl
  have r3 := b1.cell 3 (.slice A6 n6 c6) rfl
  unfold set4 at r0 r1 r2 r3
  refine bodyPost_ret (v := .tuple #[.agg #[.bool s5, .slice A5 n5 c5, .bool s6, .slice A6 n6 c6], .int .i64 0]) (by simp [results, Tryz.results13, go_sem, r0, r1, r2, r3]) rfl ⟨s5, A5, n5, c5, s6, A6, n6, c6, rfl, ⟨(b2 _ _ _ _ _ _ (h5.ext hx1)).le (by omega), (b2 _ _ _ _ _ _ h6).le (by omega)⟩, b3 _ (extW.trans E1_10) (by omega)⟩
theorem p_Make_nz (h : NI w z L s A n c) (k : NI w y M t B m d) (hL : L ≤ 3000) (hM : M ≤ 3000) (hy : y ≠ 0) (hT : Tab w) : Calls Tryz.prog 13 #[.agg #[.bool s, .slice A n c], .agg #[.bool t, .slice B m d]] w (RetNRE (mkQ z y) (max L M) w) := by
  rcases Int.lt_trichotomy y 0 with h1 | h1 | h1
  · exact p_Make_neg h k hL hM h1 hT
  · exact absurd h1 hy
  · exact p_Make_pos h k hL hM h1 hT
set_option maxHeartbeats 4000000 in
theorem p_Frac (a b : Int) (ha : -9223372036854775808 ≤ a) (ha' : a < 9223372036854775808) (hb : -9223372036854775808 ≤ b) (hb' : b < 9223372036854775808) (hT : Tab w) : Calls Tryz.prog 21 #[.int .i64 a, .int .i64 b] w (RetNR (mkQ a b) 2 w) := by
  go_enter Tryz.func21, Tryz.ntmps21
  go_upto_region 1 with (fail)
  obtain ⟨W, hW, extW, bz, hz⟩ := box1 w 27 #[Value.bool false, Value.slice none 0 0, Value.bool false, Value.slice none 0 0]
  rw [← hW]
  clear hW
  go_wp2_with fail
  refine (p_FromInt a ha ha').mono ?_
  rintro e wa ⟨s1, A1, n1, c1, rfl, h1, hx0⟩
  go_wp2_with fail
  refine (p_FromInt b hb hb').mono ?_
  rintro e wb ⟨s2, A2, n2, c2, rfl, h2, hx1⟩
  go_wp2_with fail
  by_cases h0 : b = 0
  · refine (p_Make_0 (h1.ext hx1) h2 (by omega) (by omega) h0).mono ?_
    rintro e wc ⟨rfl, hx2⟩
    replace extW := extW.trans (hx0.trans (hx1.trans hx2))
    replace bz := bz.ext (hx0.trans (hx1.trans hx2))
    clear h1 h2 hx0 hx1 hx2
    go_upto_region 2 with (fail)
    refine at_world (fun V => Ext wc V) ((Ext.refl wc).alloc _) ?_
    rintro V EV
    replace extW := extW.trans EV
    replace bz := bz.ext EV
    clear EV
    go_wp2_with fail
    refine (p_FromIntR 0 (by omega) (by omega)).mono ?_
    rintro e wd ⟨s3, A3, n3, c3, s4, A4, n4, c4, rfl, hr, hx3⟩
    have z0 := (bz.ext hx3).cell 0 _ rfl
    have z1 := (bz.ext hx3).cell 1 _ rfl
    have z2 := (bz.ext hx3).cell 2 _ rfl
    have z3 := (bz.ext hx3).cell 3 _ rfl
    have f0 := (bz.ext hx3).frozen 0
    have f1 := (bz.ext hx3).frozen 1
    have f2 := (bz.ext hx3).frozen 2
    have f3 := (bz.ext hx3).frozen 3
    go_wp2_with fail
    have hq : ((0 : Int) : Rat) = mkQ a b := by rw [h0]; unfold mkQ; rw [if_neg (by omega)]; exact (Rat.mkRat_zero a).symm
    rw [hq] at hr
    obtain ⟨b1, b2, b3, b4⟩ := fin_quad (s := s3) (A := A3) (n := n3) (c := c3) (t := s4) (B := A4) (m := n4) (d := c4) (bz.ext hx3)
    have r0 := b1.cell 0 (.bool s3) rfl
    have r1 := b1.cell 1 (.slice A3 n3 c3) rfl
    have r2 := b1.cell 2 (.bool s4) rfl
    have r3 := b1.cell 3 (.slice A4 n4 c4) rfl
    unfold set4 at r0 r1 r2 r3
    refine bodyPost_ret (v := .agg #[.bool s3, .slice A3 n3 c3, .bool s4, .slice A4 n4 c4]) (by simp [results, Tryz.results21, go_sem, r0, r1, r2, r3]) rfl ⟨s3, A3, n3, c3, s4, A4, n4, c4, rfl, ⟨?_, ?_⟩, b3 _ (extW.trans hx3) (by omega)⟩
    · exact b2 _ _ _ _ _ _ hr.num
    · exact b2 _ _ _ _ _ _ hr.den
  · refine (p_Make_nz (h1.ext hx1) h2 (by omega) (by omega) h0 (hT.ext (extW.trans (hx0.trans hx1)))).mono ?_
    rintro e wc ⟨s3, A3, n3, c3, s4, A4, n4, c4, rfl, hr, hx2⟩
    replace extW := extW.trans (hx0.trans (hx1.trans hx2))
    replace bz := bz.ext (hx0.trans (hx1.trans hx2))
    clear h1 h2 hx0 hx1 hx2
    go_upto_region 2 with (fail)
    refine at_world (fun V => Ext wc V ∧ Box V wc.heap.size 27 #[.bool s3, .slice A3 n3 c3, .bool s4, .slice A4 n4 c4] ∧ NR V (mkQ a b) (max 2 2) s3 A3 n3 c3 s4 A4 n4 c4) ⟨(Ext.refl wc).alloc _, Box.new wc _ _, hr.ext ((Ext.refl wc).alloc _)⟩ ?_
    generalize wc.heap.size = g8
    clear hr
    rintro V ⟨EV, b8, hr⟩
    replace extW := extW.trans EV
    replace bz := bz.ext EV
    clear EV
    have hE := Ext.refl V
    have x0 := b8.cell 0 (.bool s3) rfl
    have x1 := b8.cell 1 (.slice A3 n3 c3) rfl
    have x2 := b8.cell 2 (.bool s4) rfl
    have x3 := b8.cell 3 (.slice A4 n4 c4) rfl
    have z0 := (bz.ext hE).cell 0 _ rfl
    have z1 := (bz.ext hE).cell 1 _ rfl
    have z2 := (bz.ext hE).cell 2 _ rfl
    have z3 := (bz.ext hE).cell 3 _ rfl
    have f0 := (bz.ext hE).frozen 0
    have f1 := (bz.ext hE).frozen 1
    have f2 := (bz.ext hE).frozen 2
    have f3 := (bz.ext hE).frozen 3
    go_wp2_with fail
    obtain ⟨b1, b2, b3, b4⟩ := fin_quad (s := s3) (A := A3) (n := n3) (c := c3) (t := s4) (B := A4) (m := n4) (d := c4) (bz.ext hE)
    have r0 := b1.cell 0 (.bool s3) rfl
    have r1 := b1.cell 1 (.slice A3 n3 c3) rfl
    have r2 := b1.cell 2 (.bool s4) rfl
    have r3 := b1.cell 3 (.slice A4 n4 c4) rfl
    unfold set4 at r0 r1 r2 r3
    refine bodyPost_ret (v := .agg #[.bool s3, .slice A3 n3 c3, .bool s4, .slice A4 n4 c4]) (by simp [results, Tryz.results21, go_sem, r0, r1, r2, r3]) rfl ⟨s3, A3, n3, c3, s4, A4, n4, c4, rfl, ⟨?_, ?_⟩, b3 _ (extW.trans hE) (by omega)⟩
    · exact b2 _ _ _ _ _ _ hr.num
    · exact b2 _ _ _ _ _ _ hr.den
end
end Go.Proofs.YtiioodgpkdbndaaGreatDoor
namespace Go.Proofs.YtiioodgpkdbndaaGreatDoor
open Go.RowKit
attribute [local go_sem ↓] Go.wp_at_zero Go.wp_at_succ
section
variable {w w' : World} {z y : Int} {q p : Rat} {L M : Nat} {s t s' t' : Bool} {A B A' B' : Option Addr} {n c m d n' c' m' d' : Nat} {xs ys xs' ys' : List Nat}
set_option maxHeartbeats 2000000 in
theorem p_Floor (h : NR w q L s A n c t B m d) (hL : L ≤ 1000) : Calls Tryz.prog 40 #[.agg #[.bool s, .slice A n c, .bool t, .slice B m d]] w fun e w' => ∃ z r : Int, IsDM q.num q.den z r ∧ RetNI z (L + 1) w e w' := by
  have hd0 : (q.den : Int) ≠ 0 := by have := q.den_nz; omega
  go_enter Tryz.func40, Tryz.ntmps40
  go_upto_region 1 with (fail)
  obtain ⟨W, hW, extW, bx, bz, hz⟩ := box2 w 27 24 #[.bool s, .slice A n c, .bool t, .slice B m d] #[Value.bool false, Value.slice none 0 0]
  rw [← hW]
  clear hW
  replace h := h.ext extW
  have x0 := bx.cell 0 (.bool s) rfl
  have x1 := bx.cell 1 (.slice A n c) rfl
  have x2 := bx.cell 2 (.bool t) rfl
  have x3 := bx.cell 3 (.slice B m d) rfl
  go_wp2_with fail
  refine (p_DivMod h.num h.den (by omega) (by omega) hd0).mono ?_
  rintro e wb ⟨s1, A1, n1, c1, s2, A2, n2, c2, q', r, rfl, hq, hr, hdm, hx1⟩
  clear x0 x1 x2 x3
  go_upto_region 2 with (fail)
  refine at_world (fun V => Ext W V ∧ Box V wb.heap.size 24 #[.bool s1, .slice A1 n1 c1] ∧ NI V q' (L + 1) s1 A1 n1 c1) ?_ ?_
  · obtain ⟨e1, e2, e3⟩ := two_new wb 24 #[.bool s1, .slice A1 n1 c1] #[.bool s2, .slice A2 n2 c2]
    exact ⟨hx1.trans e1, e2, hq.ext e1⟩
  generalize wb.heap.size = g5
  rintro V ⟨EV, b5, hqV⟩
  have x0 := b5.cell 0 _ rfl
  have x1 := b5.cell 1 _ rfl
  have z0 := (bz.ext EV).cell 0 _ rfl
  have z1 := (bz.ext EV).cell 1 _ rfl
  have f0 := (bz.ext EV).frozen 0
  have f1 := (bz.ext EV).frozen 1
  go_wp2_with fail
  obtain ⟨b1, b2, b3, b4⟩ := fin_dual (s := s1) (A := A1) (n := n1) (c := c1) (bz.ext EV)
  have r0 := b1.cell 0 (.bool s1) rfl
  have r1 := b1.cell 1 (.slice A1 n1 c1) rfl
  unfold set2 at r0 r1
  refine bodyPost_ret (v := .agg #[.bool s1, .slice A1 n1 c1]) (by simp [results, Tryz.results40, go_sem, r0, r1]) rfl ⟨q', r, hdm, s1, A1, n1, c1, rfl, ?_, b3 _ (extW.trans EV) (by omega)⟩
  exact b2 _ _ _ _ _ _ hqV
set_option maxHeartbeats 4000000 in
theorem p_root (h : NI w z L s A n c) (hL : L ≤ 50) (hz : 0 ≤ z) : Calls Tryz.prog 81 #[.agg #[.bool s, .slice A n c]] w fun e w' => ∃ r : Int, 0 ≤ r ∧ r * r ≤ z ∧ z < (r + 1) * (r + 1) ∧ ∃ s' A' n' c', e = .returned (.tuple #[.agg #[.bool s', .slice A' n' c'], .bool (decide (r * r = z))]) ∧ NI w' r (L + 1) s' A' n' c' ∧ Ext w w' := by
  go_enter Tryz.func81, Tryz.ntmps81
  go_upto_region 1 with (fail)
  obtain ⟨W, hW, extW, bx, bz, hzz⟩ := box2 w 24 24 #[.bool s, .slice A n c] #[Value.bool false, Value.slice none 0 0]
  rw [← hW]
  clear hW
  replace h := h.ext extW
  have x0 := bx.cell 0 (.bool s) rfl
  have x1 := bx.cell 1 (.slice A n c) rfl
  go_wp2_with fail
  obtain ⟨xs, hn, hx, hc, hcm, hi, hl⟩ := h.out
  refine (int_Sqrt_pos hn hx hc hcm (by omega) (by rw [hi.eq]; exact hz)).mono ?_
  rintro e wa ⟨r, hr1, hr2, s1, A1, c1, rs, rfl, g1, g2, g3, g4, g5, hxa⟩
  have hv : ((val xs : Nat) : Int) = z := by rw [hi.abs]; omega
  replace hr1 : (r : Int) * r ≤ z := by rw [← hv]; exact_mod_cast hr1
  replace hr2 : z < ((r : Int) + 1) * (r + 1) := by rw [← hv]; exact_mod_cast hr2
  obtain ⟨n1, hn1⟩ : ∃ n1, rs.length = n1 := ⟨_, rfl⟩
  have hs1 : NI wa (r : Int) (L + 1) s1 A1 n1 c1 := ⟨rs, hn1, g1, by omega, g3, g4, by omega⟩
  have HR1 := Lib.hid hr1
  have HR2 := Lib.hid hr2
  rw [hn1]
  clear hn hx hc hcm hi hl g1 g2 g3 g4 g5 hr1 hr2 hv x0 x1 hn1
  go_upto_region 2 with (fail)
  refine at_world (fun V => Ext W V ∧ Box V wa.heap.size 24 #[.bool s1, .slice A1 n1 c1] ∧ NI V (r : Int) (L + 1) s1 A1 n1 c1) ⟨hxa.alloc _, Box.new wa _ _, hs1.ext ((Ext.refl wa).alloc _)⟩ ?_
  generalize wa.heap.size = g8
  clear hxa hs1
  rintro V ⟨EV, b8, hs1⟩
  replace bx := bx.ext EV
  replace bz := bz.ext EV
  replace h := h.ext EV
  replace extW := extW.trans EV
  clear EV
  have hr1 := HR1.out
  have hr2 := HR2.out
  by_cases heq : (r : Int) * r = z
  · have HS := Lib.hid (show ((r : Int) * r - z).sign = 0 by rw [heq, Int.sub_self]; rfl)
    have HD := Lib.hid (decide_eq_true heq)
    clear hr1 hr2 heq
    go_wp2_with fail
    refine wpL.start 11 (by kernel_rfl) (fun _ _ _ _ _ => ⟨fun h => h, fun h => h⟩) (fun hQ ES => ?_)
    refine wpL.take (i := 0) (d := some 11) (v := ?v0_143) rfl rfl (by kernel_rfl) (by kernel_rfl) (by kernel_rfl) (by kernel_rfl) hQ (Or.inl ⟨by rfl, ?y0_143⟩) ES ?r0_143
    case y0_143 =>
      intro w' hSw
      have k00 := (b8.ext hSw).c2
      have k10 := (bx.ext hSw).c2
      go_simp
      try with_reducible rfl
    try simp only [Act.put]
    try simp only [List.setIfInBounds_toArray]
    try simp only [List.set_cons_succ]
    try simp only [List.set_cons_zero]
    refine wpL.takeB [2, 3, 8, 11] (i := 1) (d := some 12) (v := ?v1_144) rfl rfl (by kernel_rfl) (by kernel_rfl) (by kernel_rfl) (by kernel_rfl) hQ (Or.inl ⟨by rfl, ?y1_144⟩) ES ?r1_144
    case y1_144 =>
      intro w' hSw
      have k00 := (b8.ext hSw).c2
      have k10 := (bx.ext hSw).c2
      go_simp
      try with_reducible rfl
    try simp only [Act.put]
    try simp only [List.setIfInBounds_toArray]
    try simp only [List.set_cons_succ]
    try simp only [List.set_cons_zero]
    refine wpL.takeB [3, 8, 11] (i := 2) (d := some 13) (v := ?v2_145) rfl rfl (by kernel_rfl) (by kernel_rfl) (by kernel_rfl) (by kernel_rfl) hQ (Or.inl ⟨by rfl, ?y2_145⟩) ES ?r2_145
    case y2_145 =>
      intro w' hSw
      have k00 := (b8.ext hSw).c2
      have k10 := (bx.ext hSw).c2
      go_simp
      try with_reducible rfl
    try simp only [Act.put]
    try simp only [List.setIfInBounds_toArray]
    try simp only [List.set_cons_succ]
    try simp only [List.set_cons_zero]
    refine wpL.takeB [8, 11] (i := 3) (d := some 14) (v := ?v3_146) rfl rfl (by kernel_rfl) (by kernel_rfl) (by kernel_rfl) (by kernel_rfl) hQ (Or.inl ⟨by rfl, ?y3_146⟩) ES ?r3_146
    case y3_146 =>
      intro w' hSw
      have k00 := (b8.ext hSw).c2
      have k10 := (bx.ext hSw).c2
      go_simp
      try with_reducible rfl
    try simp only [Act.put]
    try simp only [List.setIfInBounds_toArray]
    try simp only [List.set_cons_succ]
    try simp only [List.set_cons_zero]
    refine wpL.takeB [6, 8, 11] (i := 4) (d := some 15) (v := ?v4_147) rfl rfl (by kernel_rfl) (by kernel_rfl) (by kernel_rfl) (by kernel_rfl) hQ (Or.inl ⟨by rfl, ?y4_147⟩) ES ?r4_147
    case y4_147 =>
      intro w' hSw
      have k00 := (b8.ext hSw).c2
      have k10 := (bx.ext hSw).c2
      go_simp
      try with_reducible rfl
    try simp only [Act.put]
    try simp only [List.setIfInBounds_toArray]
    try simp only [List.set_cons_succ]
    try simp only [List.set_cons_zero]
    refine wpL.takeB [6, 8, 11] (i := 5) (d := some 16) (v := ?v5_148) rfl rfl (by kernel_rfl) (by kernel_rfl) (by kernel_rfl) (by kernel_rfl) hQ (Or.inl ⟨by rfl, ?y5_148⟩) ES ?r5_148
    case y5_148 =>
      intro w' hSw
      have k00 := (b8.ext hSw).c2
      have k10 := (bx.ext hSw).c2
      go_simp
      try with_reducible rfl
    try simp only [Act.put]
    try simp only [List.setIfInBounds_toArray]
    try simp only [List.set_cons_succ]
    try simp only [List.set_cons_zero]
    refine wpL.takeB [8, 11] (i := 7) (d := some 18) (v := ?v7_149) rfl rfl (by kernel_rfl) (by kernel_rfl) (by kernel_rfl) (by kernel_rfl) hQ (Or.inl ⟨by rfl, ?y7_149⟩) ES ?r7_149
    case y7_149 =>
      intro w' hSw
      have k00 := (b8.ext hSw).c2
      have k10 := (bx.ext hSw).c2
      go_simp
      try with_reducible rfl
    try simp only [Act.put]
    try simp only [List.setIfInBounds_toArray]
    try simp only [List.set_cons_succ]
    try simp only [List.set_cons_zero]
    refine wpL.call (i := 6) rfl (by kernel_rfl) (fun K hK => ?_)
    go_simp
    (go_at_call 72; refine (p_Mul (hs1.ext ES) (hs1.ext ES) (by omega) (by omega) (by omega)).mono ?_; rintro e wb ⟨s2, A2, n2, c2, rfl, h2, hx0⟩; have E0_2 := Ext.trans ES hx0)
    refine hK.out _ _ E0_2 ?_
    clear hK K
    try simp only [Act.put]
    try simp only [List.setIfInBounds_toArray]
    try simp only [List.set_cons_succ]
    try simp only [List.set_cons_zero]
    refine wpL.call (i := 8) rfl (by kernel_rfl) (fun K hK => ?_)
    go_simp
    (go_at_call 76; refine (p_Cmp h2 (h.ext E0_2) (by omega) (by omega)).mono ?_; rintro e wc ⟨rfl, hx1⟩; rw [HS.out]; have E1_2 := Ext.trans E0_2 hx1)
    refine hK.out _ _ E1_2 ?_
    clear hK K
    try simp only [Act.put]
    try simp only [List.setIfInBounds_toArray]
    try simp only [List.set_cons_succ]
    try simp only [List.set_cons_zero]
    refine wpL.takeT (i := 9) (d := some 20) (v := ?v9_150) rfl rfl (by kernel_rfl) (by kernel_rfl) (by kernel_rfl) (by kernel_rfl) hQ (Or.inl ⟨by rfl, ?y9_150⟩) (Or.inr E1_2) ?r9_150
    case y9_150 =>
      intro w' hSw
      go_simp
      try with_reducible rfl
    try simp only [Act.put]
    try simp only [List.setIfInBounds_toArray]
    try simp only [List.set_cons_succ]
    try simp only [List.set_cons_zero]
    refine wpL.takeT (i := 10) (d := some 21) (v := ?v10_151) rfl rfl (by kernel_rfl) (by kernel_rfl) (by kernel_rfl) (by kernel_rfl) hQ (Or.inl ⟨by rfl, ?y10_151⟩) (Or.inr E1_2) ?r10_151
    case y10_151 =>
      intro w' hSw
      go_simp
      try with_reducible rfl
    try simp only [Act.put]
    try simp only [List.setIfInBounds_toArray]
    try simp only [List.set_cons_succ]
    try simp only [List.set_cons_zero]
    have z0 := (bz.ext E1_2).cell 0 _ rfl
    have z1 := (bz.ext E1_2).cell 1 _ rfl
    have f0 := (bz.ext E1_2).frozen 0
    have f1 := (bz.ext E1_2).frozen 1
    refine wpL.tail (i := 11) rfl (by kernel_rfl) (by kernel_rfl) (fun K hK => ?_)
    go_simp
    refine hK.out _ _ ?_
    clear hK K
    try simp only [Act.put]
    try simp only [List.setIfInBounds_toArray]
    try simp only [List.set_cons_succ]
    try simp only [List.set_cons_zero]
    refine wpL.tail (i := 12) rfl (by kernel_rfl) (by kernel_rfl) (fun K hK => ?_)
    go_simp
    refine hK.out _ _ ?_
    clear hK K
    try simp only [Act.put]
    try simp only [List.setIfInBounds_toArray]
    try simp only [List.set_cons_succ]
    try simp only [List.set_cons_zero]
    refine wpL.done (by kernel_rfl) ?_ _
    clear hQ
    go_wp2_with fail
    have hr1 := HR1.out
    have hr2 := HR2.out
    obtain ⟨b1, b2, b3, b4⟩ := fin_dual (s := s1) (A := A1) (n := n1) (c := c1) (bz.ext E1_2)
    have r0 := b1.cell 0 (.bool s1) rfl
    have r1 := b1.cell 1 (.slice A1 n1 c1) rfl
    unfold set2 at r0 r1
    refine bodyPost_ret (v := .tuple #[.agg #[.bool s1, .slice A1 n1 c1], .bool true]) (by simp [results, Tryz.results81, go_sem, r0, r1]) rfl ⟨(r : Int), by omega, hr1, hr2, s1, A1, n1, c1, by rw [HD.out], ?_, b3 _ (extW.trans E1_2) (by omega)⟩
    exact b2 _ _ _ _ _ _ (hs1.ext E1_2)
  · have hlt : (r : Int) * r - z < 0 := by omega
    have HS := Lib.hid (Int.sign_eq_neg_one_of_neg hlt)
    have HD := Lib.hid (decide_eq_false heq)
    clear hr1 hr2 heq hlt
    go_wp2_with fail
    refine wpL.start 11 (by kernel_rfl) (fun _ _ _ _ _ => ⟨fun h => h, fun h => h⟩) (fun hQ ES => ?_)
    refine wpL.take (i := 0) (d := some 11) (v := ?v0_152) rfl rfl (by kernel_rfl) (by kernel_rfl) (by kernel_rfl) (by kernel_rfl) hQ (Or.inl ⟨by rfl, ?y0_152⟩) ES ?r0_152
    case y0_152 =>
      intro w' hSw
      have k00 := (b8.ext hSw).c2
      have k10 := (bx.ext hSw).c2
      go_simp
      try with_reducible rfl
    try simp only [Act.put]
    try simp only [List.setIfInBounds_toArray]
    try simp only [List.set_cons_succ]
    try simp only [List.set_cons_zero]
    refine wpL.takeB [2, 3, 8, 11] (i := 1) (d := some 12) (v := ?v1_153) rfl rfl (by kernel_rfl) (by kernel_rfl) (by kernel_rfl) (by kernel_rfl) hQ (Or.inl ⟨by rfl, ?y1_153⟩) ES ?r1_153
    case y1_153 =>
      intro w' hSw
      have k00 := (b8.ext hSw).c2
      have k10 := (bx.ext hSw).c2
      go_simp
      try with_reducible rfl
    try simp only [Act.put]
    try simp only [List.setIfInBounds_toArray]
    try simp only [List.set_cons_succ]
    try simp only [List.set_cons_zero]
    refine wpL.takeB [3, 8, 11] (i := 2) (d := some 13) (v := ?v2_154) rfl rfl (by kernel_rfl) (by kernel_rfl) (by kernel_rfl) (by kernel_rfl) hQ (Or.inl ⟨by rfl, ?y2_154⟩) ES ?r2_154
    case y2_154 =>
      intro w' hSw
      have k00 := (b8.ext hSw).c2
      have k10 := (bx.ext hSw).c2
      go_simp
      try with_reducible rfl
    try simp only [Act.put]
    try simp only [List.setIfInBounds_toArray]
    try simp only [List.set_cons_succ]
    try simp only [List.set_cons_zero]
    refine wpL.takeB [8, 11] (i := 3) (d := some 14) (v := ?v3_155) rfl rfl (by kernel_rfl) (by kernel_rfl) (by kernel_rfl) (by kernel_rfl) hQ (Or.inl ⟨by rfl, ?y3_155⟩) ES ?r3_155
    case y3_155 =>
      intro w' hSw
      have k00 := (b8.ext hSw).c2
      have k10 := (bx.ext hSw).c2
      go_simp
      try with_reducible rfl
    try simp only [Act.put]
    try simp only [List.setIfInBounds_toArray]
    try simp only [List.set_cons_succ]
    try simp only [List.set_cons_zero]
    refine wpL.takeB [6, 8, 11] (i := 4) (d := some 15) (v := ?v4_156) rfl rfl (by kernel_rfl) (by kernel_rfl) (by kernel_rfl) (by kernel_rfl) hQ (Or.inl ⟨by rfl, ?y4_156⟩) ES ?r4_156
    case y4_156 =>
      intro w' hSw
      have k00 := (b8.ext hSw).c2
      have k10 := (bx.ext hSw).c2
      go_simp
      try with_reducible rfl
    try simp only [Act.put]
    try simp only [List.setIfInBounds_toArray]
    try simp only [List.set_cons_succ]
    try simp only [List.set_cons_zero]
    refine wpL.takeB [6, 8, 11] (i := 5) (d := some 16) (v := ?v5_157) rfl rfl (by kernel_rfl) (by kernel_rfl) (by kernel_rfl) (by kernel_rfl) hQ (Or.inl ⟨by rfl, ?y5_157⟩) ES ?r5_157
    case y5_157 =>
      intro w' hSw
      have k00 := (b8.ext hSw).c2
      have k10 := (bx.ext hSw).c2
      go_simp
      try with_reducible rfl
    try simp only [Act.put]
    try simp only [List.setIfInBounds_toArray]
    try simp only [List.set_cons_succ]
    try simp only [List.set_cons_zero]
    refine wpL.takeB [8, 11] (i := 7) (d := some 18) (v := ?v7_158) rfl rfl (by kernel_rfl) (by kernel_rfl) (by kernel_rfl) (by kernel_rfl) hQ (Or.inl ⟨by rfl, ?y7_158⟩) ES ?r7_158
    case y7_158 =>
      intro w' hSw
      have k00 := (b8.ext hSw).c2
      have k10 := (bx.ext hSw).c2
      go_simp
      try with_reducible rfl
    try simp only [Act.put]
    try simp only [List.setIfInBounds_toArray]
    try simp only [List.set_cons_succ]
    try simp only [List.set_cons_zero]
    refine wpL.call (i := 6) rfl (by kernel_rfl) (fun K hK => ?_)
    go_simp
    (go_at_call 72; refine (p_Mul (hs1.ext ES) (hs1.ext ES) (by omega) (by omega) (by omega)).mono ?_; rintro e wb ⟨s2, A2, n2, c2, rfl, h2, hx0⟩; have E0_2 := Ext.trans ES hx0)
    refine hK.out _ _ E0_2 ?_
    clear hK K
    try simp only [Act.put]
    try simp only [List.setIfInBounds_toArray]
    try simp only [List.set_cons_succ]
    try simp only [List.set_cons_zero]
    refine wpL.call (i := 8) rfl (by kernel_rfl) (fun K hK => ?_)
    go_simp
    (go_at_call 76; refine (p_Cmp h2 (h.ext E0_2) (by omega) (by omega)).mono ?_; rintro e wc ⟨rfl, hx1⟩; rw [HS.out]; have E1_2 := Ext.trans E0_2 hx1)
    refine hK.out _ _ E1_2 ?_
    clear hK K
    try simp only [Act.put]
    try simp only [List.setIfInBounds_toArray]
    try simp only [List.set_cons_succ]
    try simp only [List.set_cons_zero]
    refine wpL.takeT (i := 9) (d := some 20) (v := ?v9_159) rfl rfl (by kernel_rfl) (by kernel_rfl) (by kernel_rfl) (by kernel_rfl) hQ (Or.inl ⟨by rfl, ?y9_159⟩) (Or.inr E1_2) ?r9_159
    case y9_159 =>
      intro w' hSw
      go_simp
      try with_reducible rfl
    try simp only [Act.put]
    try simp only [List.setIfInBounds_toArray]
    try simp only [List.set_cons_succ]
    try simp only [List.set_cons_zero]
    refine wpL.takeT (i := 10) (d := some 21) (v := ?v10_160) rfl rfl (by kernel_rfl) (by kernel_rfl) (by kernel_rfl) (by kernel_rfl) hQ (Or.inl ⟨by rfl, ?y10_160⟩) (Or.inr E1_2) ?r10_160
    case y10_160 =>
      intro w' hSw
      go_simp
      try with_reducible rfl
    try simp only [Act.put]
    try simp only [List.setIfInBounds_toArray]
    try simp only [List.set_cons_succ]
    try simp only [List.set_cons_zero]
    have z0 := (bz.ext E1_2).cell 0 _ rfl
    have z1 := (bz.ext E1_2).cell 1 _ rfl
    have f0 := (bz.ext E1_2).frozen 0
    have f1 := (bz.ext E1_2).frozen 1
    refine wpL.tail (i := 11) rfl (by kernel_rfl) (by kernel_rfl) (fun K hK => ?_)
    go_simp
    refine hK.out _ _ ?_
    clear hK K
    try simp only [Act.put]
    try simp only [List.setIfInBounds_toArray]
    try simp only [List.set_cons_succ]
    try simp only [List.set_cons_zero]
    refine wpL.tail (i := 12) rfl (by kernel_rfl) (by kernel_rfl) (fun K hK => ?_)
    go_simp
    refine hK.out _ _ ?_
    clear hK K
    try simp only [Act.put]
    try simp only [List.setIfInBounds_toArray]
    try simp only [List.set_cons_succ]
    try simp only [List.set_cons_zero]
    refine wpL.done (by kernel_rfl) ?_ _
    clear hQ
    go_wp2_with fail
    have hr1 := HR1.out
    have hr2 := HR2.out
    obtain ⟨b1, b2, b3, b4⟩ := fin_dual (s := s1) (A := A1) (n := n1) (c := c1) (bz.ext E1_2)
    have r0 := b1.cell 0 (.bool s1) rfl
    have r1 := b1.cell 1 (.slice A1 n1 c1) rfl
    unfold set2 at r0 r1
    refine bodyPost_ret (v := .tuple #[.agg #[.bool s1, .slice A1 n1 c1], .bool false]) (by simp [results, Tryz.results81, go_sem, r0, r1]) rfl ⟨(r : Int), by omega, hr1, hr2, s1, A1, n1, c1, by rw [HD.out], ?_, b3 _ (extW.trans E1_2) (by omega)⟩
    exact b2 _ _ _ _ _ _ (hs1.ext E1_2)
end
end Go.Proofs.YtiioodgpkdbndaaGreatDoor
namespace Go.Proofs.YtiioodgpkdbndaaGreatDoor
open Go.RowKit
/-- the value of a text of digits. -/
def dv (l : List UInt8) : Nat := l.foldl (fun a c => 10 * a + (c.toNat - 48)) 0
theorem dv_snoc (l : List UInt8) (c : UInt8) : dv (l ++ [c]) = 10 * dv l + (c.toNat - 48) := by simp [dv]
def Dig (c : UInt8) : Prop := 48 ≤ c.toNat ∧ c.toNat ≤ 57
def Digs (l : List UInt8) : Prop := ∀ c ∈ l, Dig c
theorem u8_48 {c : UInt8} (h : c.toNat = 48) : c = 48 := UInt8.toNat_inj.1 h
/-- no superfluous zeros. -/
def Canon (l : List UInt8) : Prop := l = [48] ∨ ∃ c t, l = c :: t ∧ c ≠ 48
/-- the digits of a value, none for 0. -/
def fd (v : Nat) : List UInt8 := if v = 0 then [] else Lib.decDigits v
theorem fd_zero : fd 0 = [] := rfl
theorem fd_step {v : Nat} (hv : 0 < v) : fd v = fd (v / 10) ++ [UInt8.ofNat (48 + v % 10)] := by
  unfold fd
  rw [if_neg (by omega)]
  by_cases h : v < 10
  · rw [if_pos (by omega), Lib.decDigits, dif_pos h, Nat.mod_eq_of_lt h]; rfl
  · rw [if_neg (by omega)]
    rw [Lib.decDigits, dif_neg h]
theorem fd_len : ∀ (k u : Nat), u < 10 ^ k → (fd u).length ≤ k
  | 0, u, h => by
    rw [Nat.pow_zero] at h
    rw [show u = 0 by omega]; simp [fd]
  | k + 1, u, h => by
    by_cases h0 : u = 0
    · rw [h0]; simp [fd]
    · rw [fd_step (by omega), List.length_append]
      have := fd_len k (u / 10) (by rw [Nat.pow_succ] at h; omega)
      simp only [List.length_singleton]
      omega
theorem fd_len_words {ys : List Nat} (h : W32 ys) : (fd (val ys)).length ≤ 10 * ys.length := by
  refine fd_len _ _ (Nat.lt_of_lt_of_le (val_lt h) ?_)
  rw [Nat.pow_mul]
  exact Nat.pow_le_pow_left (by decide) _
theorem append_toList (a b : ByteArray) : (a ++ b).data.toList = a.data.toList ++ b.data.toList := by
  rw [ByteArray.data_append, Array.toList_append]
theorem itoa_fd (z : Int) : Lib.itoa z = if z = 0 then [48] else if z < 0 then 45 :: fd z.natAbs else fd z.natAbs := by
  unfold Lib.itoa fd
  by_cases h0 : z = 0
  · subst h0; rw [if_pos rfl, if_neg (by omega), show (0 : Int).toNat = 0 by rfl, Lib.decDigits]; rfl
  · rw [if_neg h0]
    by_cases hn : z < 0
    · rw [if_pos hn, if_pos hn, if_neg (by omega)]
    · rw [if_neg hn, if_neg hn, if_neg (by omega)]
      congr 1
      omega
end Go.Proofs.YtiioodgpkdbndaaGreatDoor
namespace Go.Proofs.YtiioodgpkdbndaaGreatDoor
/-- the k lowest decimal digits of v, the highest ahead. -/
def pd : Nat → Nat → List UInt8
  | 0, _ => []
  | k + 1, v => pd k (v / 10) ++ [UInt8.ofNat (48 + v % 10)]
theorem pd_add (j a : Nat) : ∀ (k b : Nat), b < 10 ^ k → pd (j + k) (a * 10 ^ k + b) = pd j a ++ pd k b
  | 0, b, h => by
    have : b = 0 := by simpa using h
    subst this
    simp [pd]
  | k + 1, b, h => by
    rw [Nat.pow_succ] at h
    have e1 : (a * 10 ^ (k + 1) + b) / 10 = a * 10 ^ k + b / 10 := by
      rw [Nat.pow_succ, ← Nat.mul_assoc]
      omega
    have e2 : (a * 10 ^ (k + 1) + b) % 10 = b % 10 := by
      rw [Nat.pow_succ, ← Nat.mul_assoc]
      omega
    show pd (j + k) ((a * 10 ^ (k + 1) + b) / 10) ++ [UInt8.ofNat (48 + (a * 10 ^ (k + 1) + b) % 10)] = _
    rw [e1, e2, pd_add j a k (b / 10) (by omega), List.append_assoc]
    rfl
theorem pd_one (v : Nat) : pd 1 v = [UInt8.ofNat (48 + v % 10)] := rfl
/-- one digit more ahead. -/
theorem pd_cons (k v : Nat) : pd (k + 1) v = UInt8.ofNat (48 + v / 10 ^ k % 10) :: pd k v := by
  have hlow : ∀ (k v : Nat), pd k v = pd k (v % 10 ^ k) := by
    intro k
    induction k with
    | zero => intro v; rfl
    | succ k ih =>
      intro v
      have e1 : v % 10 ^ (k + 1) % 10 = v % 10 := by
        rw [Nat.pow_succ]; exact Nat.mod_mul_left_mod _ _ _
      have e2 : v % 10 ^ (k + 1) / 10 = v / 10 % 10 ^ k := by
        rw [Nat.pow_succ, Nat.mul_comm]; exact Nat.mod_mul_right_div_self _ _ _
      show pd k (v / 10) ++ _ = pd k (v % 10 ^ (k + 1) / 10) ++ _
      rw [e1, e2, ← ih (v / 10)]
  have hp : 0 < 10 ^ k := Nat.pow_pos (by omega)
  have e : v / 10 ^ k * 10 ^ k + v % 10 ^ k = v := by rw [Nat.mul_comm]; exact Nat.div_add_mod _ _
  have h := pd_add 1 (v / 10 ^ k) k (v % 10 ^ k) (Nat.mod_lt _ hp)
  rw [e, Nat.add_comm, ← hlow k v, pd_one] at h
  exact h
theorem drop_snoc {l : List UInt8} {c : UInt8} (h : l.dropWhile (· == 48) ≠ []) : (l ++ [c]).dropWhile (· == 48) = l.dropWhile (· == 48) ++ [c] := by
  induction l with
  | nil => exact absurd rfl h
  | cons x l ih =>
    rw [List.cons_append, List.dropWhile_cons, List.dropWhile_cons]
    rw [List.dropWhile_cons] at h
    split
    · rename_i hx
      rw [if_pos hx] at h
      exact ih h
    · rfl
theorem drop_snoc0 {l : List UInt8} {c : UInt8} (h : l.dropWhile (· == 48) = []) : (l ++ [c]).dropWhile (· == 48) = [c].dropWhile (· == 48) := by
  induction l with
  | nil => rfl
  | cons x l ih =>
    rw [List.cons_append, List.dropWhile_cons]
    rw [List.dropWhile_cons] at h
    split
    · rename_i hx
      rw [if_pos hx] at h
      exact ih h
    · rename_i hx
      rw [if_neg hx] at h
      cases h
theorem fd_ne {u : Nat} (h : u ≠ 0) : fd u ≠ [] := by
  rw [fd_step (Nat.pos_of_ne_zero h)]
  simp
theorem pd_drop : ∀ (k u : Nat), u < 10 ^ k → (pd k u).dropWhile (· == 48) = fd u
  | 0, u, h => by
    have : u = 0 := by simpa using h
    subst this
    rfl
  | k + 1, u, h => by
    rw [Nat.pow_succ] at h
    have ih := pd_drop k (u / 10) (by omega)
    rw [pd]
    by_cases h0 : u / 10 = 0
    · rw [h0, fd_zero] at ih
      rw [h0, drop_snoc0 ih]
      by_cases hu : u = 0
      · subst hu; rfl
      · rw [fd_step (Nat.pos_of_ne_zero hu), h0, fd_zero, List.nil_append, List.dropWhile_cons, if_neg]
        intro hc
        have h1 := congrArg UInt8.toNat (eq_of_beq hc)
        have h2 : u % 10 < 10 := Nat.mod_lt _ (by omega)
        have h3 : (UInt8.ofNat (48 + u % 10)).toNat = 48 + u % 10 := by
          rw [UInt8.toNat_ofNat']
          exact Nat.mod_eq_of_lt (by omega)
        rw [h3] at h1
        have h4 : (48 : UInt8).toNat = 48 := rfl
        omega
    · have hne : (pd k (u / 10)).dropWhile (· == 48) ≠ [] := by rw [ih]; exact fd_ne h0
      rw [drop_snoc hne, ih, fd_step (v := u) (by omega)]
theorem trim_pd {k u : Nat} (h : u < 10 ^ k) : Lib.trimLeftB (pd k u) 48 = fd u := pd_drop k u h
end Go.Proofs.YtiioodgpkdbndaaGreatDoor
namespace Go.Proofs.YtiioodgpkdbndaaGreatDoor
open Go.RowKit
def Bd (b : UInt8) : Value := .int .u8 (b.toNat : Int)
/-- block g holds just these bytes. -/
def BlkB (w : World) (g : Nat) (bs : List UInt8) : Prop := w.heap[g]? = some (.cells (bs.map Bd).toArray 5 (0, 0))
section
variable {w w' : World} {g g' : Nat} {bs : List UInt8}
theorem BlkB.lt (h : BlkB w g bs) : g < w.heap.size := by
  rcases Nat.lt_or_ge g w.heap.size with hlt | hge
  · exact hlt
  · unfold BlkB at h; rw [Array.getElem?_eq_none hge] at h; cases h
theorem BlkB.cell (h : BlkB w g bs) {i : Nat} (hi : i < bs.length) : w.cell? ⟨g, i, none⟩ = some (.int .u8 (bs[i].toNat : Int)) := by
  rw [cell_of_row w g i _ _ (0, 0) h]
  simp [hi, Bd]
theorem BlkB.frozen (h : BlkB w g bs) (i : Nat) : w.frozen? ⟨g, i, none⟩ = false := by
  unfold BlkB at h
  simp [World.frozen?, h]
theorem BlkB.ext (h : BlkB w g bs) (e : Ext w w') : BlkB w' g bs := by
  have hb : Below w.heap.size w w' := e
  exact (hb.block g h.lt).trans h
theorem BlkB.mod (h : BlkB w g bs) (e : Mod w w' g') (hn : g ≠ g') : BlkB w' g bs := (e.block g h.lt (fun e => hn (by injection e))).trans h
theorem BlkB.set (h : BlkB w g bs) (i : Nat) {v : Int} {b : UInt8} (hv : v = (b.toNat : Int)) : BlkB (w.setCell ⟨g, i, none⟩ (.int .u8 v)) g (bs.set i b) := by
  subst hv
  unfold BlkB at h ⊢
  simp [World.setCell, Array.getElem?_modify, h, Bd]
theorem BlkB.new (w : World) (n : Nat) : BlkB (w.alloc (.cells (madeCells #[.int .u8 0] n) 5)) w.heap.size (List.replicate n 0) := by
  unfold BlkB
  rw [heap_alloc_new w _]
  congr 2
  apply Array.toList_inj.1
  rw [toList_madeCells_one]
  simp [Bd]
end
theorem owns_ext {w w' : World} {base : Nat} {e : TypeId} {size : Nat} {v : Value} {n : Nat} {xs : List Value} (h : w.ownsRow base e size v n xs) (k : Ext w w') : w'.ownsRow base e size v n xs := by
  refine ⟨h.1, h.2.imp id ?_⟩
  rintro ⟨g, cap, cur, hv, hb, hh, h1⟩
  have hb' : Below w.heap.size w w' := k
  have hlt : g < w.heap.size := by
    rcases Nat.lt_or_ge g w.heap.size with hlt | hge
    · exact hlt
    · rw [Array.getElem?_eq_none hge] at hh; cases hh
  exact ⟨g, cap, cur, hv, hb, (hb'.block g hlt).trans hh, h1⟩
theorem owns_base {w : World} {base base' : Nat} {e : TypeId} {size : Nat} {v : Value} {n : Nat} {xs : List Value} (h : w.ownsRow base e size v n xs) (k : base' ≤ base) : w.ownsRow base' e size v n xs :=
  ⟨h.1, h.2.imp id fun ⟨g, cap, cur, hv, hb, h1⟩ => ⟨g, cap, cur, hv, Nat.le_trans k hb, h1⟩⟩
theorem owns_nil (w : World) (base : Nat) (e : TypeId) (size : Nat) : w.ownsRow base e size (.slice none 0 0) 0 [] := ⟨by simp, .inl ⟨rfl, rfl⟩⟩
theorem owns_block {w : World} {base : Nat} {e : TypeId} {size : Nat} {v : Value} {n : Nat} {xs : List Value} (h : w.ownsRow base e size v n xs) : ∀ k, v.ownBlock = some k → base ≤ k := by
  intro k hk
  rcases h.2 with ⟨rfl, _⟩ | ⟨g, cap, cur, rfl, hb, _⟩
  · cases hk
  · injection hk with hk
    subst hk
    exact hb
theorem Tryz.infoB : (Tryz.prog.info? 5).map (fun i => (i.zero, i.size, i.bytes)) = some (some (.int .u8 0), 1, 1) := by kernel_rfl
theorem info_partsB {P : Program} {e : TypeId} {z : Value} {a b : Nat} (h : (P.info? e).map (fun i => (i.zero, i.size, i.bytes)) = some (some z, a, b)) : ∃ i, P.info? e = some i ∧ i.zero = some z ∧ i.size = a ∧ i.bytes = b := by
  cases hi : P.info? e with
  | none => rw [hi] at h; cases h
  | some i =>
    rw [hi] at h
    simp only [Option.map_some, Option.some.injEq, Prod.mk.injEq] at h
    exact ⟨i, rfl, h.1, h.2.1, h.2.2⟩
theorem mk_bytes (n : Nat) (hn : n ≤ 1000000) (W : World) :
    (Instr.makeSlice 108 (.int .i64 (n : Int)) (.int .i64 (n : Int))).run Tryz.prog W = .ok (.slice (some ⟨W.heap.size, 0, none⟩) n n) (W.alloc (.cells (madeCells #[.int .u8 0] n) 5)) := by
  obtain ⟨i0, hi, hz0, hz1, hz2⟩ := info_partsB Tryz.infoB
  have h := run_make_rowN (P := Tryz.prog) 108 5 i0 (.int .u8 0) Tryz.underlying108 hi hz0 .i64 .i64 n n (Nat.le_refl _) (by rw [hz2]; omega) (by omega) W
  rw [hz1] at h
  simpa only [Nat.mul_one, Value.cells] using h
theorem oneCell_bytes (bs : List UInt8) : ∀ u ∈ bs.map Bd, u.oneCell' = true := by
  intro u hu
  obtain ⟨n, _, rfl⟩ := List.mem_map.1 hu
  rfl
theorem cells_of_blkB {w : World} {g : Nat} {bs : List UInt8} (h : BlkB w g bs) : ∀ j u, (bs.map Bd)[j]? = some u → w.cell? ((⟨g, 0, none⟩ : Addr).add j) = some u := by
  intro j u hu
  rw [List.getElem?_map] at hu
  by_cases hj : j < bs.length
  · rw [List.getElem?_eq_getElem hj] at hu
    simp only [Option.map_some, Option.some.injEq] at hu
    subst hu
    refine Eq.trans ?_ (h.cell hj)
    congr 1
    unfold Addr.add
    split <;> simp_all
  · rw [List.getElem?_eq_none (by omega)] at hu
    cases hu
/-- a digit below the ninth of the nine lowest. -/
theorem low_digit (x t : Nat) (ht : t < 9) : x % 1000000000 / 10 ^ t % 10 = x / 10 ^ t % 10 := by
  have h : t = 0 ∨ t = 1 ∨ t = 2 ∨ t = 3 ∨ t = 4 ∨ t = 5 ∨ t = 6 ∨ t = 7 ∨ t = 8 := by omega
  rcases h with rfl | rfl | rfl | rfl | rfl | rfl | rfl | rfl | rfl <;> simp <;> omega
/-- one digit more is laid ahead. -/
theorem digit_step {v0 k t G : Nat} {bs : List UInt8} (hl : bs.length = 144) (hk : k + t + 1 ≤ 144) (ht : t < 9) (hd : bs.drop (144 - (k + t)) = pd (k + t) v0) (hG : G = v0 / 10 ^ k % 1000000000 / 10 ^ t) :
    (bs.set (144 - (k + t) - 1) (UInt8.ofNat (48 + G % 10))).drop (144 - (k + (t + 1))) = pd (k + (t + 1)) v0 := by
  have e1 : 144 - (k + (t + 1)) = 144 - (k + t) - 1 := by omega
  have e2 : 144 - (k + t) = (144 - (k + t) - 1) + 1 := by omega
  have hlt : 144 - (k + t) - 1 < bs.length := by omega
  rw [e1]
  generalize 144 - (k + t) - 1 = p at *
  rw [e2] at hd
  rw [List.drop_eq_getElem_cons (by rw [List.length_set]; exact hlt), List.getElem_set_self, List.drop_set_of_lt (by omega), hd]
  show _ = pd (k + t + 1) v0
  rw [pd_cons, hG, low_digit _ _ ht, Nat.div_div_eq_div_mul, ← Nat.pow_add]
section
variable {A : Option Addr} {c n : Nat} {xs : List Nat} {w : World}
theorem div_word_nil {v : Nat} (hv0 : 0 < v) : Calls Tryz.prog 132 #[.slice A 0 c, .int .u32 (v : Int)] w fun e w' => e = .returned (.int .u32 0) ∧ w = w' := by
  have hz0 : ((v : Int) == 0) = false := by rw [beq_eq_false_iff_ne]; omega
  go_enter Tryz.func132, Tryz.ntmps132
  go_wp2
  go_loopw [5, 6] (fun r i wr => r = .int .u64 0 ∧ i = .int .i64 (-1) ∧ w = wr) (fun _ _ _ => 0)
  case atStart => exact ⟨rfl, rfl, rfl⟩
  case round =>
    obtain ⟨rfl, rfl, rfl⟩ := hrel
    go_wp2
    go_ret
    exact ⟨rfl, rfl⟩
/-- division by a word in place, of any list of the call's own. -/
theorem div_word {lo v : Nat} (ho : Own w lo A xs) (hn : xs.length = n) (hv0 : 0 < v) (hv : v < 4294967296) (h1 : n ≤ 1000000) :
    Calls Tryz.prog 132 #[.slice A n c, .int .u32 (v : Int)] w fun e w' => ∃ zs, e = .returned (.int .u32 ((val xs % v : Nat) : Int)) ∧ zs.length = n ∧ Own w' lo A zs ∧ val zs = val xs / v ∧ (∀ w0, w0.heap.size ≤ lo → Ext w0 w → Ext w0 w') ∧ (∀ g bs, g < lo → BlkB w g bs → BlkB w' g bs) := by
  obtain ⟨hw32, rfl | ⟨g, rfl, hg, hb⟩⟩ := ho
  · simp at hn
    subst hn
    refine (div_word_nil hv0).mono ?_
    rintro e w' ⟨rfl, rfl⟩
    exact ⟨[], by simp [val], rfl, ⟨hw32, .inl rfl⟩, by simp [val], fun _ _ h => h, fun _ _ _ h => h⟩
  · refine (int_divideByWord hb hn hw32 hv0 hv h1).mono ?_
    rintro e w' ⟨zs, rfl, hzl, hzw, hzb, hzv, hm⟩
    exact ⟨zs, rfl, hzl, ⟨hzw, .inr ⟨g, rfl, hg, hzb⟩⟩, hzv, fun w0 h0 h => hm.ext h (by omega), fun g' bs hl h => h.mod hm (by omega)⟩
theorem div_bil {lo : Nat} (ho : Own w lo A xs) (hn : xs.length = n) (h1 : n ≤ 1000000) :
    Calls Tryz.prog 132 #[.slice A n c, .int .u32 1000000000] w fun e w' => ∃ zs, e = .returned (.int .u32 ((val xs % 1000000000 : Nat) : Int)) ∧ zs.length = n ∧ Own w' lo A zs ∧ val zs = val xs / 1000000000 ∧ (∀ w0, w0.heap.size ≤ lo → Ext w0 w → Ext w0 w') ∧ (∀ g bs, g < lo → BlkB w g bs → BlkB w' g bs) :=
  div_word (v := 1000000000) ho hn (by omega) (by omega) h1
end
end Go.Proofs.YtiioodgpkdbndaaGreatDoor
namespace Go.Proofs.YtiioodgpkdbndaaGreatDoor
open Go.RowKit
attribute [local go_sem ↓] Go.wp_at_zero Go.wp_at_succ
theorem Own.setFar {w : World} {lo g i : Nat} {A : Option Addr} {ys : List Nat} {v : Value} (h : Own w lo A ys) (hg : g < lo) : Own (w.setCell ⟨g, i, none⟩ v) lo A ys :=
  ⟨h.1, h.2.imp id fun ⟨_, a, b, c⟩ => ⟨_, a, b, c.mod ((Mod.refl w g).setCell i v) (by omega)⟩⟩
theorem dig_cast (G : Nat) : (48 + (G : Int) % 10) = ((UInt8.ofNat (48 + G % 10)).toNat : Int) := by
  have h : (UInt8.ofNat (48 + G % 10)).toNat = 48 + G % 10 := by
    rw [UInt8.toNat_ofNat']
    exact Nat.mod_eq_of_lt (by omega)
  rw [h]
  omega
section
variable {A : Option Addr} {c n : Nat} {xs : List Nat} {w : World}
set_option maxHeartbeats 4000000 in
set_option maxRecDepth 100000 in
theorem int_appendBlock {w0 : World} {text : Value} {tn : Nat} {cs : List Value} (he : Ext w0 w) (hown : w.ownsRow w0.heap.size 5 1 text tn cs) (htn : tn ≤ 10000) (hn : xs.length = n) (hx : Rd w A xs) (h1 : n ≤ 1000) :
    Calls Tryz.prog 166 #[text, .slice A n c] w fun e w' => ∃ text', e = .returned text' ∧ w'.ownsRow w0.heap.size 5 1 text' (tn + 144) (cs ++ (pd 144 (val xs)).map Bd) ∧ Ext w0 w' := by
  have Hn := Lib.hid hn
  clear hn
  have hmk : ∀ W : World, (Instr.makeSlice 108 (.int .i64 144) (.int .i64 144)).run Tryz.prog W = .ok (.slice (some ⟨W.heap.size, 0, none⟩) 144 144) (W.alloc (.cells (madeCells #[.int .u8 0] 144) 5)) := mk_bytes 144 (by omega)
  obtain ⟨v0, hv0⟩ : ∃ v0, val xs = v0 := ⟨_, rfl⟩
  have HV0 := Lib.hid hv0
  rw [hv0]
  clear hv0
  obtain ⟨P, hP⟩ : ∃ P : Nat → List UInt8, ∀ k, P k = pd k v0 := ⟨_, fun _ => rfl⟩
  rw [← hP 144]
  have HP := Lib.hid hP
  clear hP
  go_enter Tryz.func166, Tryz.ntmps166
  go_wp2_with fail
  have hb0 := BlkB.new w 144
  have e0 := (Ext.refl w).alloc (.cells (madeCells #[.int .u8 0] 144) 5)
  have hsz : w.heap.size + 1 ≤ (w.alloc (.cells (madeCells #[.int .u8 0] 144) 5)).heap.size := by simp
  refine (clone Hn.out (hx.ext e0) (by omega)).mono ?_
  rintro e W2 ⟨A2, c2, zs0, rfl, ho2, hc2, hm2, rfl, hext2⟩
  replace ho2 : Own W2 (w.heap.size + 1) A2 zs0 := ho2.mono hsz
  have hb := hb0.ext hext2
  have eW := e0.trans hext2
  clear hext2 hmk hb0 e0 hsz
  generalize hgB : w.heap.size = gB at hb ho2 ⊢
  have hlz := Hn.out
  go_wp2
  go_loopw [6, 7] (fun m e V => ∃ (j : Nat) (A' : Option Addr) (c' : Nat) (zs : List Nat) (bs : List UInt8), j ≤ 16 ∧ e = .int .i64 ((9 * j : Nat) : Int) ∧ m = .slice A' (List.length zs) c' ∧ Own V (gB + 1) A' zs ∧ zs.length ≤ c' ∧ c' ≤ maxLen ∧ zs.length ≤ 1000 ∧ BlkB V gB bs ∧ bs.length = 144 ∧ bs.drop (144 - (144 - 9 * j)) = P (144 - 9 * j) ∧ val zs = v0 / 10 ^ (144 - 9 * j) ∧ Ext w V) (fun _ e _ => (intOf e).toNat)
  case atStart => exact ⟨16, A2, c2, zs0, List.replicate 144 0, by omega, rfl, by rw [hlz], ho2, by omega, hm2, by omega, hb, by simp, by rw [HP.out]; rfl, by rw [HV0.out]; simp, eW⟩
  case round =>
    clear ho2 hb eW
    obtain ⟨j, A', c', zs, bs, hj, rfl, rfl, ho, hc', hm', hl', hbb, hbl, hdr, hval, hext⟩ := hrel
    rcases j with _ | j
    · have Hown := Lib.hid hown
      clear hown
      obtain ⟨i0, hi, hz0, hz1, hz2⟩ := info_partsB Tryz.infoB
      have hdd : bs = P 144 := by simpa using hdr
      go_wp2_with (at_builtin; refine wpList_append_own _ rfl _ _ 108 rfl w0.heap.size 5 i0 (.int .u8 0) 1 1 Tryz.underlying108 hi hz0 hz1 hz2 rfl (by decide) _ tn _ rfl (owns_ext Hown.out hext) ⟨gB, 0, none⟩ 144 144 (bs.map Bd) rfl (by simp [hbl]) (cells_of_blkB hbb) (oneCell_bytes bs) (by unfold maxLen; omega) (by omega) (he.trans hext).size ?_; intro v' w1 hown' hgr _)
      go_ret
      subst hdd
      exact ⟨_, rfl, hown', Below.grown (he.trans hext) hgr (he.trans hext).size (owns_block Hown.out)⟩
    · have hlo : w.heap.size ≤ gB + 1 := by omega
      obtain ⟨E, hE⟩ : ∃ E, 9 * (j + 1) = E := ⟨_, rfl⟩
      rw [hE] at hdr hval
      rw [hE]
      have hE9 : 9 ≤ E := by omega
      have hE144 : E ≤ 144 := by omega
      have HE := Lib.hid hE
      clear hE hj
      have Hdr := Lib.hid hdr
      have Hval := Lib.hid hval
      have Hown := Lib.hid hown
      clear hdr hval hown
      go_wp2_with fail
      refine (div_bil ho rfl (by omega)).mono ?_
      rintro e W3 ⟨ys, rfl, hyl, hoy, hyv, hx3, hb3⟩
      have hext3 := hx3 w hlo hext
      have hbb3 := hb3 gB bs (by omega) hbb
      clear hx3 hb3 ho hbb hext
      obtain ⟨G0, hG0⟩ : ∃ G0, val zs % 1000000000 = G0 := ⟨_, rfl⟩
      rw [hG0]
      have hG9 : G0 < 1000000000 := by rw [← hG0]; exact Nat.mod_lt _ (by omega)
      have HG0 := Lib.hid hG0
      have Hyv := Lib.hid hyv
      clear hG0 hyv
      go_wp2_with fail
      refine (int_trimN hyl hoy.rd hc' hm').mono ?_
      rintro e W4 ⟨rfl, rfl⟩
      go_wp2
      go_loopw [8, 9] (fun g i V => ∃ (t G : Nat) (bs : List UInt8), t ≤ 9 ∧ g = .int .u32 (G : Int) ∧ i = .int .i64 ((E : Int) - 1 - (t : Int)) ∧ Own V (gB + 1) A' ys ∧ BlkB V gB bs ∧ bs.length = 144 ∧ bs.drop (144 - (144 - E + t)) = P (144 - E + t) ∧ G = v0 / 10 ^ (144 - E) % 1000000000 / 10 ^ t ∧ Ext w V) (fun _ i _ => (intOf i + 1).toNat)
      case atStart => exact ⟨0, G0, bs, by omega, rfl, by simp, hoy, hbb3, hbl, Hdr.out, by rw [← Hval.out, HG0.out]; simp, hext3⟩
      case round =>
        clear hoy hbb3 hext3 Hdr
        obtain ⟨t, G, bs, ht, rfl, rfl, hoy, hbb, hbl, hdr, hG, hext⟩ := hrel
        have HG := Lib.hid hG
        have Hdr := Lib.hid hdr
        have hG2 : G < 1000000000 := by
          rw [hG]
          exact Nat.lt_of_le_of_lt (Nat.div_le_self _ _) (Nat.mod_lt _ (by omega))
        clear hG hdr
        by_cases ht9 : t < 9
        · obtain ⟨p, hp⟩ : ∃ p, E = p + 1 + t := ⟨E - 1 - t, by omega⟩
          have hpi : (E : Int) - 1 - (t : Int) = (p : Int) := by omega
          rw [hpi]
          have hcl := hbb.cell (i := p) (by omega)
          have hfr := hbb.frozen p
          clear hpi
          go_wp2
          go_roundw
          case rel =>
            have hd := Hdr.out
            rw [HP.out] at hd
            have hst := digit_step hbl (by omega) ht9 hd HG.out
            rw [show 144 - (144 - E + t) - 1 = p by omega] at hst
            refine ⟨t + 1, G / 10, bs.set p (UInt8.ofNat (48 + G % 10)), by omega, by simp, ?_, hoy.setFar (by omega), hbb.set p (dig_cast G), by simp [hbl], ?_, ?_, hext.setCell (by show w.heap.size ≤ gB; omega) _⟩
            · congr 1
              omega
            · rw [HP.out]
              exact hst
            · rw [HG.out, Nat.div_div_eq_div_mul, ← Nat.pow_succ]
          case measure =>
            simp only [intOf]
            omega
        · obtain rfl : t = 9 := by omega
          go_wp2
          have hk : 144 - E + 9 = 144 - 9 * j := by have := HE.out; omega
          refine ⟨⟨j, A', c', trimL ys, bs, by have := HE.out; omega, ?_, rfl, ?_, ?_, hm', ?_, hbb, hbl, ?_, ?_, hext⟩, ?_⟩
          · have := HE.out
            congr 1
            omega
          · rw [trimL_take]
            exact hoy.take _
          · have := trimL_len ys
            omega
          · have := trimL_len ys
            omega
          · rw [← hk]
            exact Hdr.out
          · rw [val_trimL, Hyv.out, Hval.out, Nat.div_div_eq_div_mul, ← hk, Nat.pow_add]
          · simp only [intOf]
            omega
end
end Go.Proofs.YtiioodgpkdbndaaGreatDoor
