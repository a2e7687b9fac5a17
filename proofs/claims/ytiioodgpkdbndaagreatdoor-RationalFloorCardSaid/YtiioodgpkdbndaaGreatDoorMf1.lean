/- For every number the law RationalFloor returns true: Floor is the greatest integer that is not greater, the arguments keep their values, and the examples of the chapter hold. Condition: the five listed tables of Go's library hold what their initialisers lay (tied by the given card). -/
import Derived.Test.YtiioodgpkdbndaaGreatDoorM0
import Derived.Test.YtiioodgpkdbndaaGreatDoorM1
import Derived.Test.YtiioodgpkdbndaaGreatDoorM2
import Derived.Test.YtiioodgpkdbndaaGreatDoorM3
import Derived.Test.YtiioodgpkdbndaaGreatDoorM4
import Derived.Test.YtiioodgpkdbndaaGreatDoorM5
import Derived.Test.YtiioodgpkdbndaaGreatDoorM6
import Derived.Test.YtiioodgpkdbndaaGreatDoorM7
import Derived.Test.YtiioodgpkdbndaaGreatDoorM8
import Derived.Test.YtiioodgpkdbndaaGreatDoorM9
import Derived.Test.YtiioodgpkdbndaaGreatDoorMf0
import Derived.Laws.BytesArg
import Derived.Test.YtiioodgpkdbndaaGreatDoorRows
import Derived.ProofKit
import Derived.Lib.SmallJoins
import Derived.Test.YtiioodgpkdbndaaGreatDoorCards
import Derived.Test.YtiioodgpkdbndaaGreatDoorTie
import Derived.LaidMore
import Derived.OpenShut
import Derived.LaidLaws
import Derived.Lay
import Derived.Lib.LaidTab
import Derived.SevenTiedAt
import Derived.Stop.Joined
import Derived.Stop.LaidErr
namespace Go.Proofs.YtiioodgpkdbndaaGreatDoor
open Go.RowKit
attribute [local go_sem ↓] Go.wp_at_zero Go.wp_at_succ
section
variable {w w' : World} {z y : Int} {q p : Rat} {L M : Nat} {s t s' t' : Bool} {A B A' B' : Option Addr} {n c m d n' c' m' d' : Nat}
set_option maxHeartbeats 2000000 in
theorem q_SameInt (h : NI w z L s A n c) (k : NI w z M t B m d) : Calls Tryz.prog 42 #[.agg #[.bool s, .slice A n c], .agg #[.bool t, .slice B m d]] w fun e w' => e = .returned (.bool true) ∧ Ext w w' := by
  obtain ⟨xs, hn, hx, hc, hcm, hi, hl⟩ := h.out
  obtain ⟨ys, hm, hy, hd, hdm, hj, hk⟩ := k.out
  obtain ⟨rfl, rfl⟩ := hi.unique hj
  obtain rfl : n = m := by omega
  have hN9 : n ≤ 9223372036854775807 := by unfold maxLen at hcm; omega
  have Hn := Lib.hid hn
  clear h k hi hj hl hk hn hm
  go_enter Tryz.func42, Tryz.ntmps42
  go_upto_region 1 with (fail)
  obtain ⟨W, hW, extW, bx, by_, hz⟩ := box2 w 24 24 #[.bool s, .slice A n c] #[.bool s, .slice B n d]
  rw [← hW]
  clear hW
  replace hx := hx.ext extW
  replace hy := hy.ext extW
  have x0 := bx.cell 0 (.bool s) rfl
  have x1 := bx.cell 1 (.slice A n c) rfl
  have y0 := by_.cell 0 (.bool s) rfl
  have y1 := by_.cell 1 (.slice B n d) rfl
  have hss : (s != s) = false := by simp
  have hnn : ((n : Int) != (n : Int)) = false := by simp
  go_wp2
  clear x0 x1 y0 y1 hss hnn
  go_loopw [5] (fun i V => ∃ k : Nat, i = .int .i64 (k : Int) ∧ k ≤ n ∧ Ext W V) (fun i _ => n - (intOf i).toNat)
  case atStart => exact ⟨0, rfl, by omega, Ext.refl _⟩
  case round =>
    obtain ⟨k, rfl, hk, hext⟩ := hrel
    have x1 := (bx.ext hext).cell 1 (.slice A n c) rfl
    have y1 := (by_.ext hext).cell 1 (.slice B n d) rfl
    by_cases hlt : k < n
    · have hlx : k < xs.length := by rw [Hn.out]; exact hlt
      obtain ⟨b1, o1, rfl, hb1, hc1⟩ := (hx.ext hext).at_ hlx
      obtain ⟨b2, o2, rfl, hb2, hc2⟩ := (hy.ext hext).at_ hlx
      generalize xs[k] = v at hc1 hc2
      have hne : ((v : Int) != (v : Int)) = false := by simp
      have i1 : (k : Int) < (n : Int) := by omega
      go_upto_region 6 with (fail)
      go_quiet (fail)
      go_wp2_with fail
      go_roundw
      case rel => exact ⟨k + 1, by go_num, by omega, hext.drewN _⟩
      case measure => simp [intOf]; omega
    · have hlt2 : decide ((k : Int) < (n : Int)) = false := decide_eq_false (by omega)
      go_wp2
      go_ret
      exact ⟨rfl, extW.trans hext⟩
end
end Go.Proofs.YtiioodgpkdbndaaGreatDoor
namespace Go.Proofs.YtiioodgpkdbndaaGreatDoor
open Go.RowKit
attribute [local go_sem ↓] Go.wp_at_zero Go.wp_at_succ
theorem rdset4 {w2 : World} {g : Nat} {T : TypeId} {x y : Bool} {P Q : Option Addr} {k l i j : Nat} {A : Option Addr} {xs : List Nat} (hb : Box w2 g T #[.bool x, .slice P k l, .bool y, .slice Q i j]) (s : Bool) (v1 : Value) (t : Bool) (v2 : Value) {P1 Q1 : Option Addr} {k1 l1 i1 j1 : Nat}
    (h : Rd w2 A xs) (e1 : v1 = .slice P1 k1 l1 := by rfl) (e2 : v2 = .slice Q1 i1 j1 := by rfl) : Rd (set4 w2 g (.bool s) v1 (.bool t) v2) A xs := by
  subst e1
  subst e2
  unfold set4
  have h1 : Box (w2.setCell ⟨g, 0, none⟩ (.bool s)) g T #[.bool s, .slice P k l, .bool y, .slice Q i j] := hb.set 0 (.bool s)
  have h2 : Box ((w2.setCell ⟨g, 0, none⟩ (.bool s)).setCell ⟨g, 1, none⟩ (.slice P1 k1 l1)) g T #[.bool s, .slice P1 k1 l1, .bool y, .slice Q i j] := h1.set 1 (.slice P1 k1 l1)
  have h3 : Box (((w2.setCell ⟨g, 0, none⟩ (.bool s)).setCell ⟨g, 1, none⟩ (.slice P1 k1 l1)).setCell ⟨g, 2, none⟩ (.bool t)) g T #[.bool s, .slice P1 k1 l1, .bool t, .slice Q i j] := h2.set 2 (.bool t)
  exact (((h.setBox hb NoWord.four 0 _).setBox h1 NoWord.four 1 _).setBox h2 NoWord.four 2 _).setBox h3 NoWord.four 3 _
/-- the words of a number in lowest terms. -/
theorem NR.raw {w : World} {q : Rat} {L : Nat} {s : Bool} {A : Option Addr} {n c : Nat} {t : Bool} {B : Option Addr} {m d : Nat} (h : NR w q L s A n c t B m d) :
    ∃ xs ys, RI w A n c xs ∧ RI w B m d ys ∧ validQ s xs t ys = true ∧ n ≤ L ∧ m ≤ L ∧ (∀ w' A' c' B' d', RI w' A' n c' xs → RI w' B' m d' ys → NR w' q L s A' n c' t B' m d') := by
  obtain ⟨xs, h1, h2, h3, h4, h5, h6⟩ := h.num.out
  obtain ⟨ys, k1, k2, k3, k4, k5, k6⟩ := h.den.out
  refine ⟨xs, ys, ⟨h1, h2, h3, h4⟩, ⟨k1, k2, k3, k4⟩, ?_, h6, k6, fun w' A' c' B' d' r1 r2 => ⟨⟨xs, r1.len, r1.rd, r1.cap, r1.top, h5, h6⟩, ⟨ys, r2.len, r2.rd, r2.cap, r2.top, k5, k6⟩⟩⟩
  unfold validQ
  rw [validB_int h5, validB_int k5, h5.abs, k5.abs, k5.eq]
  have hd := q.den_pos
  have hr := q.reduced
  unfold Nat.Coprime at hr
  simp [hr]
  omega
section
variable {w w' : World} {z y : Int} {q p : Rat} {L M : Nat} {s t s' t' : Bool} {A B A' B' : Option Addr} {n c m d n' c' m' d' : Nat} {xs ys xs' ys' : List Nat}
set_option maxHeartbeats 4000000 in
theorem q_ValidRaw (h : RI w A n c xs) (k : RI w B m d ys) (h1 : n ≤ 3000) (h2 : m ≤ 3000) : Calls Tryz.prog 24 #[.agg #[.bool s, .slice A n c, .bool t, .slice B m d]] w fun e w' => e = .returned (.bool (validQ s xs t ys)) ∧ Ext w w' := by
  obtain ⟨r, hr⟩ : ∃ r, validQ s xs t ys = r := ⟨_, rfl⟩
  have HR := Lib.hid hr
  rw [hr]
  clear hr
  go_enter Tryz.func24, Tryz.ntmps24
  go_upto_region 1 with (fail)
  obtain ⟨W, hW, extW, bx, hz⟩ := box1 w 27 #[.bool s, .slice A n c, .bool t, .slice B m d]
  rw [← hW]
  clear hW
  replace h := h.ext extW
  replace k := k.ext extW
  have x0 := bx.cell 0 (.bool s) rfl
  have x1 := bx.cell 1 (.slice A n c) rfl
  have x2 := bx.cell 2 (.bool t) rfl
  have x3 := bx.cell 3 (.slice B m d) rfl
  go_wp2_with fail
  refine (ref_Valid h.len h.rd h.cap h.top (by omega)).mono ?_
  rintro e wa ⟨rfl, hxa⟩
  replace bx := bx.ext hxa
  replace h := h.ext hxa
  replace k := k.ext hxa
  replace extW := extW.trans hxa
  clear hxa x0 x1 x2 x3
  have x0 := bx.cell 0 (.bool s) rfl
  have x1 := bx.cell 1 (.slice A n c) rfl
  have x2 := bx.cell 2 (.bool t) rfl
  have x3 := bx.cell 3 (.slice B m d) rfl
  cases hv1 : validB s xs with
  | false =>
    go_wp2_with fail
    go_ret
    exact ⟨by rw [← HR.out]; unfold validQ; rw [hv1]; rfl, extW⟩
  | true =>
    go_wp2_with fail
    refine (ref_Valid k.len k.rd k.cap k.top (by omega)).mono ?_
    rintro e wb ⟨rfl, hxb⟩
    replace bx := bx.ext hxb
    replace h := h.ext hxb
    replace k := k.ext hxb
    replace extW := extW.trans hxb
    clear hxb x0 x1 x2 x3
    have x0 := bx.cell 0 (.bool s) rfl
    have x1 := bx.cell 1 (.slice A n c) rfl
    have x2 := bx.cell 2 (.bool t) rfl
    have x3 := bx.cell 3 (.slice B m d) rfl
    cases hv2 : validB t ys with
    | false =>
      go_wp2_with fail
      go_ret
      exact ⟨by rw [← HR.out]; unfold validQ; rw [hv1, hv2]; rfl, extW⟩
    | true =>
      have H1 := NI.of_raw (L := 3000) h hv1 h1
      have H2 := NI.of_raw (L := 3000) k hv2 h2
      have hvq : validQ s xs t ys = (decide (0 < ival t ys) && decide (((Nat.gcd (val xs) (val ys) : Nat) : Int) = 1)) := by unfold validQ; rw [hv1, hv2]; rfl
      rw [HR.out] at hvq
      have HVQ := Lib.hid hvq
      clear hv1 hv2 hvq HR
      go_wp2_with fail
      refine (q_Sign H2 (by omega)).mono ?_
      rintro e wc ⟨rfl, hxc⟩
      replace bx := bx.ext hxc
      replace H1 := H1.ext hxc
      replace H2 := H2.ext hxc
      replace extW := extW.trans hxc
      clear hxc x0 x1 x2 x3 h k
      have x0 := bx.cell 0 (.bool s) rfl
      have x1 := bx.cell 1 (.slice A n c) rfl
      have x2 := bx.cell 2 (.bool t) rfl
      have x3 := bx.cell 3 (.slice B m d) rfl
      by_cases hp : 0 < ival t ys
      · rw [Int.sign_eq_one_of_pos hp]
        have hvr : r = decide (((Nat.gcd (val xs) (val ys) : Nat) : Int) = 1) := by rw [HVQ.out, decide_eq_true hp, Bool.true_and]
        have HP := Lib.hid hvr
        clear HVQ hvr
        have ab1 := ival_ab s xs
        have ab2 := ival_ab t ys
        clear hp
        go_wp2_with fail
        refine (q_GCD H1 H2 (by omega) (by omega)).mono ?_
        rintro e wd ⟨s1, A1, n1, c1, rfl, hg, hxd⟩
        rw [ab1, ab2] at hg
        go_wp2_with fail
        refine (q_one hg).mono ?_
        rintro e we ⟨rfl, hxe⟩
        go_wp2_with fail
        go_ret
        exact ⟨by rw [HP.out]; rfl, extW.trans (hxd.trans hxe)⟩
      · have hvr : r = false := by rw [HVQ.out, decide_eq_false hp, Bool.false_and]
        subst hvr
        clear HVQ
        have hs : (ival t ys).sign = 0 ∨ (ival t ys).sign = -1 := by
          rcases Int.lt_trichotomy (ival t ys) 0 with h | h | h
          · exact Or.inr (Int.sign_eq_neg_one_of_neg h)
          · exact Or.inl (by rw [h]; rfl)
          · exact absurd h hp
        clear hp
        rcases hs with hs | hs
        · rw [hs]
          go_wp2_with fail
          go_ret
          exact ⟨rfl, extW⟩
        · rw [hs]
          go_wp2_with fail
          go_ret
          exact ⟨rfl, extW⟩
def fewB (n m : Nat) (s : Bool) (xs : List Nat) (t : Bool) (ys : List Nat) : Bool := decide (n ≤ 20) && (decide (m ≤ 20) && validQ s xs t ys)
set_option maxHeartbeats 2000000 in
theorem q_Few (h : RI w A n c xs) (k : RI w B m d ys) : Calls Tryz.prog 67 #[.agg #[.bool s, .slice A n c, .bool t, .slice B m d], .int .i64 20] w fun e w' => e = .returned (.bool (fewB n m s xs t ys)) ∧ Ext w w' := by
  by_cases h1 : n ≤ 20
  · have d1 : decide ((n : Int) ≤ (20 : Int)) = true := decide_eq_true (by omega)
    by_cases h2 : m ≤ 20
    · have d2 : decide ((m : Int) ≤ (20 : Int)) = true := decide_eq_true (by omega)
      have hf : fewB n m s xs t ys = validQ s xs t ys := by unfold fewB; rw [decide_eq_true h1, decide_eq_true h2]; rfl
      rw [hf]
      clear hf
      go_enter Tryz.func67, Tryz.ntmps67
      go_upto_region 1 with (fail)
      obtain ⟨W, hW, extW, bx, hz⟩ := box1 w 27 #[.bool s, .slice A n c, .bool t, .slice B m d]
      rw [← hW]
      clear hW
      replace h := h.ext extW
      replace k := k.ext extW
      have x0 := bx.cell 0 (.bool s) rfl
      have x1 := bx.cell 1 (.slice A n c) rfl
      have x2 := bx.cell 2 (.bool t) rfl
      have x3 := bx.cell 3 (.slice B m d) rfl
      go_wp2_with fail
      refine (q_ValidRaw h k (by omega) (by omega)).mono ?_
      rintro e wd ⟨rfl, hxd⟩
      go_wp2_with fail
      go_ret
      exact ⟨rfl, extW.trans hxd⟩
    · have d2 : decide ((m : Int) ≤ (20 : Int)) = false := decide_eq_false (by omega)
      have hf : fewB n m s xs t ys = false := by unfold fewB; rw [decide_eq_true h1, decide_eq_false h2]; rfl
      rw [hf]
      clear hf
      go_enter Tryz.func67, Tryz.ntmps67
      go_upto_region 1 with (fail)
      obtain ⟨W, hW, extW, bx, hz⟩ := box1 w 27 #[.bool s, .slice A n c, .bool t, .slice B m d]
      rw [← hW]
      clear hW
      replace h := h.ext extW
      replace k := k.ext extW
      have x0 := bx.cell 0 (.bool s) rfl
      have x1 := bx.cell 1 (.slice A n c) rfl
      have x2 := bx.cell 2 (.bool t) rfl
      have x3 := bx.cell 3 (.slice B m d) rfl
      go_wp2_with fail
      go_ret
      exact ⟨rfl, extW⟩
  · have d1 : decide ((n : Int) ≤ (20 : Int)) = false := decide_eq_false (by omega)
    have hf : fewB n m s xs t ys = false := by unfold fewB; rw [decide_eq_false h1]; rfl
    rw [hf]
    clear hf
    go_enter Tryz.func67, Tryz.ntmps67
    go_upto_region 1 with (fail)
    obtain ⟨W, hW, extW, bx, hz⟩ := box1 w 27 #[.bool s, .slice A n c, .bool t, .slice B m d]
    rw [← hW]
    clear hW
    replace h := h.ext extW
    replace k := k.ext extW
    have x0 := bx.cell 0 (.bool s) rfl
    have x1 := bx.cell 1 (.slice A n c) rfl
    have x2 := bx.cell 2 (.bool t) rfl
    have x3 := bx.cell 3 (.slice B m d) rfl
    go_wp2_with fail
    go_ret
    exact ⟨rfl, extW⟩
end
section
variable {A : Option Addr} {c n : Nat} {xs : List Nat} {w : World} {s : Bool}
/-- a copy, word for word. -/
def RetOw (s : Bool) (xs : List Nat) (w : World) (e : Ending) (w' : World) : Prop :=
  ∃ A' c', e = .returned (.agg #[.bool s, .slice A' xs.length c']) ∧ Rd w' A' xs ∧ xs.length ≤ c' ∧ c' ≤ maxLen ∧ Ext w w'
set_option maxHeartbeats 1000000 in
theorem law_ownInt (hn : xs.length = n) (hx : Rd w A xs) (hl : n ≤ 1000) :
    Calls Tryz.prog 14 #[.agg #[.bool s, .slice A n c]] w (RetOw s xs w) := by
  have Hn := Lib.hid hn
  clear hn
  go_enter Tryz.func14, Tryz.ntmps14
  go_upto_region 1 with (fail)
  obtain ⟨W, hW, extW, bx, bz, hz⟩ := box2 w 24 24 #[.bool s, .slice A n c] #[.bool false, .slice none 0 0]
  rw [← hW]
  clear hW
  have x0 := bx.cell 0 (.bool s) rfl
  have x1 := bx.cell 1 (.slice A n c) rfl
  have z0 := bz.cell 0 (.bool false) rfl
  have z1 := bz.cell 1 (.slice none 0 0) rfl
  have f0 := bz.frozen 0
  have f1 := bz.frozen 1
  go_region_held3 (fun w' => w'.cell? ⟨w.heap.size, 0, none⟩ = some (.bool s) ∧ w'.cell? ⟨w.heap.size, 1, none⟩ = some (.slice A n c)) (first | (go_split_ands; refine ⟨?_, ?_⟩ <;> first | (exact Ext.cellv (by assumption) (by assumption)) | (refine (cell_far2 (by omega)).trans ?_; assumption)) | go_keep)
    ((refine step_append_words (w0 := W) (by rfl) _ _ _ (by rfl) Tryz.underlying22 (((Ext.refl W).drew).alloc _) W.heap.size (by rfl) (heap_alloc_new W.drew _) (Nat.le_refl _) (by rfl) Hn.out (hx.ext (extW.drew.alloc _)) (by omega) ?_; intro A2 c2 w2 ho2 hc2 hm2 ext2; have bz2 := bz.ext ext2; have z20 := bz2.cell 0 (.bool false) rfl; have z21 := bz2.cell 1 (.slice none 0 0) rfl; have f20 := bz2.frozen 0; have f21 := bz2.frozen 1))
  go_wp2_with fail
  obtain ⟨r1, r2, r3, r4⟩ := fin_pair (b := s) (n := n) (c := c2) (extW.trans ext2) (by omega) bz2 ho2.rd
  refine bodyPost_ret (v := .agg #[.bool s, .slice A2 n c2]) (by simp [results, Tryz.results14, go_sem, r3, r4]) rfl ?_
  have hn := Hn.out
  subst hn
  exact ⟨A2, c2, rfl, r1, hc2, hm2, r2⟩
end
section
variable {w w' : World} {z y : Int} {q p : Rat} {L M : Nat} {s t s' t' : Bool} {A B A' B' : Option Addr} {n c m d n' c' m' d' : Nat} {xs ys xs' ys' : List Nat}
set_option maxHeartbeats 2000000 in
theorem law_own (h : RI w A n c xs) (k : RI w B m d ys) (h1 : n ≤ 1000) (h2 : m ≤ 1000) : Calls Tryz.prog 23 #[.agg #[.bool s, .slice A n c, .bool t, .slice B m d]] w fun e w' => ∃ A' c' B' d', e = .returned (.agg #[.bool s, .slice A' n c', .bool t, .slice B' m d']) ∧ RI w' A' n c' xs ∧ RI w' B' m d' ys ∧ Ext w w' := by
  go_enter Tryz.func23, Tryz.ntmps23
  go_upto_region 1 with (fail)
  obtain ⟨W, hW, extW, bx, bz, hz⟩ := box2 w 27 27 #[.bool s, .slice A n c, .bool t, .slice B m d] #[Value.bool false, Value.slice none 0 0, Value.bool false, Value.slice none 0 0]
  rw [← hW]
  clear hW
  replace h := h.ext extW
  replace k := k.ext extW
  refine wpL.start 7 (by kernel_rfl) (fun _ _ _ _ _ => ⟨fun h => h, fun h => h⟩) (fun hQ ES => ?_)
  refine wpL.take (i := 0) (d := some 3) (v := ?v0_29) rfl rfl (by kernel_rfl) (by kernel_rfl) (by kernel_rfl) (by kernel_rfl) hQ (Or.inl ⟨by rfl, ?y0_29⟩) ES ?r0_29
  case y0_29 =>
    intro w' hSw
    have k00 := (bx.ext hSw).c4
    go_simp
    try with_reducible rfl
  try simp only [Act.put]
  try simp only [List.setIfInBounds_toArray]
  try simp only [List.set_cons_succ]
  try simp only [List.set_cons_zero]
  refine wpL.take (i := 3) (d := some 6) (v := ?v3_30) rfl rfl (by kernel_rfl) (by kernel_rfl) (by kernel_rfl) (by kernel_rfl) hQ (Or.inl ⟨by rfl, ?y3_30⟩) ES ?r3_30
  case y3_30 =>
    intro w' hSw
    have k00 := (bx.ext hSw).c4
    go_simp
    try with_reducible rfl
  try simp only [Act.put]
  try simp only [List.setIfInBounds_toArray]
  try simp only [List.set_cons_succ]
  try simp only [List.set_cons_zero]
  refine wpL.take (i := 1) (d := some 4) (v := ?v1_31) rfl rfl (by kernel_rfl) (by kernel_rfl) (by kernel_rfl) (by kernel_rfl) hQ (Or.inl ⟨by rfl, ?y1_31⟩) ES ?r1_31
  case y1_31 =>
    intro w' hSw
    have k00 := (bx.ext hSw).c4
    go_simp
    try with_reducible rfl
  try simp only [Act.put]
  try simp only [List.setIfInBounds_toArray]
  try simp only [List.set_cons_succ]
  try simp only [List.set_cons_zero]
  refine wpL.take (i := 4) (d := some 7) (v := ?v4_32) rfl rfl (by kernel_rfl) (by kernel_rfl) (by kernel_rfl) (by kernel_rfl) hQ (Or.inl ⟨by rfl, ?y4_32⟩) ES ?r4_32
  case y4_32 =>
    intro w' hSw
    have k00 := (bx.ext hSw).c4
    go_simp
    try with_reducible rfl
  try simp only [Act.put]
  try simp only [List.setIfInBounds_toArray]
  try simp only [List.set_cons_succ]
  try simp only [List.set_cons_zero]
  refine wpL.call (i := 2) rfl (by kernel_rfl) (fun K hK => ?_)
  go_simp
  (go_at_call 14; refine (law_ownInt (s := s) (h.ext ES).len (h.ext ES).rd h1).mono ?_; rintro e wa ⟨A1, c1, rfl, g1, g2, g3, hx0⟩; have E0_1 := Ext.trans ES hx0)
  refine hK.out _ _ E0_1 ?_
  clear hK K
  try simp only [Act.put]
  try simp only [List.setIfInBounds_toArray]
  try simp only [List.set_cons_succ]
  try simp only [List.set_cons_zero]
  refine wpL.call (i := 5) rfl (by kernel_rfl) (fun K hK => ?_)
  go_simp
  (go_at_call 14; refine (law_ownInt (s := t) (k.ext E0_1).len (k.ext E0_1).rd h2).mono ?_; rintro e wb ⟨A2, c2, rfl, g4, g5, g6, hx1⟩; have E1_1 := Ext.trans E0_1 hx1)
  refine hK.out _ _ E1_1 ?_
  clear hK K
  try simp only [Act.put]
  try simp only [List.setIfInBounds_toArray]
  try simp only [List.set_cons_succ]
  try simp only [List.set_cons_zero]
  refine wpL.take (i := 6) (d := some 9) (v := ?v6_33) rfl rfl (by kernel_rfl) (by kernel_rfl) (by kernel_rfl) (by kernel_rfl) hQ (Or.inl ⟨by rfl, ?y6_33⟩) E1_1 ?r6_33
  case y6_33 =>
    intro w' hSw
    have k00 := (bx.ext hSw).c4
    go_simp
    try with_reducible rfl
  try simp only [Act.put]
  try simp only [List.setIfInBounds_toArray]
  try simp only [List.set_cons_succ]
  try simp only [List.set_cons_zero]
  have z0 := (bz.ext E1_1).cell 0 _ rfl
  have z1 := (bz.ext E1_1).cell 1 _ rfl
  have z2 := (bz.ext E1_1).cell 2 _ rfl
  have z3 := (bz.ext E1_1).cell 3 _ rfl
  have f0 := (bz.ext E1_1).frozen 0
  have f1 := (bz.ext E1_1).frozen 1
  have f2 := (bz.ext E1_1).frozen 2
  have f3 := (bz.ext E1_1).frozen 3
  refine wpL.tail (i := 7) rfl (by kernel_rfl) (by kernel_rfl) (fun K hK => ?_)
  go_simp
  refine hK.out _ _ ?_
  clear hK K
  try simp only [Act.put]
  try simp only [List.setIfInBounds_toArray]
  try simp only [List.set_cons_succ]
  try simp only [List.set_cons_zero]
  refine wpL.done (by kernel_rfl) ?_ _
  clear hQ
  go_wp2_with fail
  obtain ⟨hn, _, _, _⟩ := h
  obtain ⟨hm, _, _, _⟩ := k
  subst hn
  subst hm
  obtain ⟨b1, b2, b3, b4⟩ := fin_quad (s := s) (A := A1) (n := xs.length) (c := c1) (t := t) (B := A2) (m := ys.length) (d := c2) (bz.ext E1_1)
  have r0 := b1.cell 0 (.bool s) rfl
  have r1 := b1.cell 1 (.slice A1 xs.length c1) rfl
  have r2 := b1.cell 2 (.bool t) rfl
  have r3 := b1.cell 3 (.slice A2 ys.length c2) rfl
  unfold set4 at r0 r1 r2 r3
  refine bodyPost_ret (v := .agg #[.bool s, .slice A1 xs.length c1, .bool t, .slice A2 ys.length c2]) (by simp [results, Tryz.results23, go_sem, r0, r1, r2, r3]) rfl ⟨A1, c1, A2, c2, rfl, ⟨rfl, rdset4 (bz.ext E1_1) _ _ _ _ (g1.ext hx1), g2, g3⟩, ⟨rfl, rdset4 (bz.ext E1_1) _ _ _ _ g4, g5, g6⟩, b3 _ (extW.trans E1_1) (by omega)⟩
theorem law_ownR (h : NR w q L s A n c t B m d) (hL : L ≤ 1000) : Calls Tryz.prog 23 #[.agg #[.bool s, .slice A n c, .bool t, .slice B m d]] w (RetNR q L w) := by
  obtain ⟨xs, ys, h1, h2, _, h4, h5, h6⟩ := h.raw
  refine (law_own h1 h2 (by omega) (by omega)).mono ?_
  rintro e w' ⟨A', c', B', d', rfl, r1, r2, hx⟩
  exact ⟨s, A', n, c', t, B', m, d', rfl, h6 _ _ _ _ _ r1 r2, hx⟩
end
end Go.Proofs.YtiioodgpkdbndaaGreatDoor
namespace Go.Proofs.YtiioodgpkdbndaaGreatDoor
open Go.RowKit
attribute [local go_sem ↓] Go.wp_at_zero Go.wp_at_succ
/-- numbers that few accepts. -/
theorem few_nr {w : World} {A B : Option Addr} {n c m d : Nat} {s t : Bool} {xs ys : List Nat} (h : RI w A n c xs) (k : RI w B m d ys) (hf : fewB n m s xs t ys = true) : ∃ q : Rat, NR w q 20 s A n c t B m d := by
  unfold fewB at hf
  simp only [Bool.and_eq_true, decide_eq_true_eq] at hf
  exact NR.of_raw h k hf.2.2 hf.1 hf.2.1
section
variable {w w' : World} {q p r : Rat} {L : Nat} {s t s' t' u u' : Bool} {A B A' B' C D : Option Addr} {n c m d n' c' m' d' l e0 l' e' : Nat} {xs ys xs' ys' zs zs' : List Nat}
variable {z y : Int} {M : Nat}
set_option maxHeartbeats 2000000 in
theorem q_Floor (h : NR w q L s A n c t B m d) (hL : L ≤ 1000) : Calls Tryz.prog 43 #[.agg #[.bool s, .slice A n c, .bool t, .slice B m d]] w fun e w' => ∃ z r : Int, IsDM q.num q.den z r ∧ RetNI z 60000 w e w' := by
  have hd0 : (q.den : Int) ≠ 0 := by have := q.den_nz; omega
  go_enter Tryz.func43, Tryz.ntmps43
  go_upto_region 1 with (fail)
  obtain ⟨W, hW, extW, bx, bz, hz⟩ := box2 w 27 24 #[.bool s, .slice A n c, .bool t, .slice B m d] #[Value.bool false, Value.slice none 0 0]
  rw [← hW]
  clear hW
  replace h := h.ext extW
  have x0 := bx.cell 0 (.bool s) rfl
  have x1 := bx.cell 1 (.slice A n c) rfl
  have x2 := bx.cell 2 (.bool t) rfl
  have x3 := bx.cell 3 (.slice B m d) rfl
  go_wp2_with fail
  refine (q_quo_dm h.num h.den (by omega) (by omega) hd0).mono ?_
  rintro e wb ⟨q', r, hdm, s1, A1, n1, c1, rfl, hq, hx1⟩
  clear x0 x1 x2 x3
  have z0 := (bz.ext hx1).cell 0 _ rfl
  have z1 := (bz.ext hx1).cell 1 _ rfl
  have f0 := (bz.ext hx1).frozen 0
  have f1 := (bz.ext hx1).frozen 1
  go_wp2_with fail
  obtain ⟨b1, b2, b3, b4⟩ := fin_dual (s := s1) (A := A1) (n := n1) (c := c1) (bz.ext hx1)
  have r0 := b1.cell 0 (.bool s1) rfl
  have r1 := b1.cell 1 (.slice A1 n1 c1) rfl
  unfold set2 at r0 r1
  refine bodyPost_ret (v := .agg #[.bool s1, .slice A1 n1 c1]) (by simp [results, Tryz.results43, go_sem, r0, r1]) rfl ⟨q', r, hdm, s1, A1, n1, c1, rfl, ?_, b3 _ (extW.trans hx1) (by omega)⟩
  exact b2 _ _ _ _ _ _ hq
set_option maxHeartbeats 4000000 in
theorem few1 {g : Nat} (hb : Box w g 27 #[.bool s, .slice A n c, .bool t, .slice B m d]) (h0 : RI w A n c xs) (k0 : RI w B m d ys) :
    Calls Tryz.prog 25 #[.slice (some ⟨g, 0, none⟩) 1 1] w fun e w' => e = .returned (.bool (fewB n m s xs t ys)) ∧ Ext w w' := by
  go_enter Tryz.func25, Tryz.ntmps25
  go_wp2_with fail
  go_loopw [7] (fun i wr => ∃ k : Nat, k ≤ 1 ∧ i = .int .i64 (k : Int) ∧ Ext w wr ∧ ((0 < k → fewB n m s xs t ys = true))) (fun i _ => 1 - (intOf i).toNat)
  case atStart => exact ⟨0, by omega, rfl, Ext.refl _, by simp⟩
  case round =>
    obtain ⟨k, hk, rfl, hext, hall⟩ := hrel
    have HA := Lib.hid hall
    clear hall
    have c0 := (hb.ext hext).cell 0 (.bool s) rfl
    have c1 := (hb.ext hext).cell 1 (.slice A n c) rfl
    have c2 := (hb.ext hext).cell 2 (.bool t) rfl
    have c3 := (hb.ext hext).cell 3 (.slice B m d) rfl
    have hk2 : k = 0 ∨ k = 1 := by omega
    rcases hk2 with rfl | rfl
    · go_wp2_with (fail)
      refine (q_Few (h0.ext (hext.alloc _)) (k0.ext (hext.alloc _))).mono ?_
      rintro e V ⟨rfl, hxv⟩
      replace hext := (hext.alloc _).trans hxv
      cases hf : fewB n m s xs t ys with
      | true =>
        have HF := Lib.hid hf
        clear hf
        go_wp2_with fail
        go_roundw
        case rel => exact ⟨1, by omega, rfl, hext, by have := HA.out; simp [HF.out] at this ⊢⟩
        case measure => simp [intOf]
      | false =>
        have HF := Lib.hid hf
        clear hf
        go_wp2_with fail
        go_ret
        exact ⟨by have := HA.out; simp [HF.out] at this ⊢, hext⟩
    · go_wp2_with fail
      go_ret
      exact ⟨by have := HA.out; simp at this; simp [this], hext⟩
end
end Go.Proofs.YtiioodgpkdbndaaGreatDoor
namespace Go.Proofs.YtiioodgpkdbndaaGreatDoor
open Go.ChangeShapes Go.WideShapes Go.ChangeAt Go.RowKit Go.Joins
theorem Tryz.cellsI : Tryz.prog.cellsOf 24 = 2 := by kernel_rfl
theorem Tryz.cellsW : Tryz.prog.cellsOf 71 = 1 := by kernel_rfl
section
variable {H : Type} {enc : TypeId × Value → H} {W : World} {base : Nat} {held : Bool}
theorem open_words {m : Nat} {v : Value} {y : DataW H × List MemPlace} (h : DataW.trod enc Tryz.prog W base (fun _ => true) held m 22 [v] = some y) :
    ∃ A n c xs, v = .slice A n c ∧ List.length xs = n ∧ Rd W A xs ∧ n ≤ c ∧ c ≤ maxLen := by
  rcases open_ints Tryz.underlying22 Tryz.underlying71 Tryz.cellsW h with ⟨hcs, _⟩ | ⟨a, len, cap, zs, hcs, _, hl, hm, hz, _, hcell, hwf⟩
  · injection hcs with hcs _
    subst hcs
    exact ⟨none, 0, 0, [], rfl, rfl, Rd.nil _ _, Nat.le_refl _, Nat.zero_le _⟩
  · injection hcs with hcs _
    subst hcs
    simp only [if_true] at hz
    have hb : ∀ n ∈ zs, 0 ≤ n ∧ n ≤ 4294967295 := by
      intro n hn
      have := hwf n hn
      simp [Lit.wf, IntKind.min, IntKind.max, IntKind.bits, IntKind.signed] at this
      omega
    refine ⟨some a, len, cap, (zs.take len).map Int.toNat, rfl, by simp; omega, ⟨?_, ?_⟩, hl, hm⟩
    · intro x hx
      obtain ⟨n, hn, rfl⟩ := List.mem_map.1 hx
      have := hb n (List.mem_of_mem_take hn)
      omega
    · intro hne
      have hpos : 0 < zs.length := by
        rcases Nat.eq_zero_or_pos zs.length with h0 | h0
        · exfalso
          apply hne
          have : zs = [] := List.eq_nil_of_length_eq_zero h0
          rw [this]; simp
        · exact h0
      obtain ⟨b, off, spot⟩ := a
      have hc0 := hcell 0 hpos
      have hspot : spot = none := by
        cases spot with
        | none => rfl
        | some q => simp [Addr.add, World.cell?] at hc0; split at hc0 <;> simp at hc0
      subst hspot
      refine ⟨b, off, rfl, cell_lt (p := ⟨b, off, none⟩) (by simpa [Addr.add] using hc0), fun i hi => ?_⟩
      simp only [List.length_map, List.length_take] at hi
      have hc := hcell i (by omega)
      have e1 : (⟨b, off, none⟩ : Addr).add i = ⟨b, off + i, none⟩ := by unfold Addr.add; split <;> simp_all
      rw [e1] at hc
      rw [hc]
      simp only [List.getElem_map, List.getElem_take]
      have hi2 : i < zs.length := by omega
      have e2 : zs.getD i 0 = zs[i] := by simp [List.getD, hi2]
      rw [e2]
      have := hb zs[i] (List.getElem_mem hi2)
      congr 2
      omega
end
end Go.Proofs.YtiioodgpkdbndaaGreatDoor
namespace Go.Proofs.YtiioodgpkdbndaaGreatDoor
open Go.ChangeShapes Go.WideShapes Go.ChangeAt Go.RowKit Go.Joins
theorem cellsR : Tryz.prog.cellsOf 27 = 4 := by kernel_rfl
theorem cellsB : Tryz.prog.cellsOf 4 = 1 := by kernel_rfl
theorem cellsS : Tryz.prog.cellsOf 22 = 1 := by kernel_rfl
section
variable {H : Type} {enc : TypeId × Value → H} {W : World} {base : Nat} {held : Bool}
theorem open_intc {m : Nat} {c0 c1 : Value} {y : DataW H × List MemPlace} (h : DataW.trod enc Tryz.prog W base (fun _ => true) held m 24 [c0, c1] = some y) :
    ∃ s A n c xs, c0 = .bool s ∧ c1 = .slice A n c ∧ RI W A n c xs := by
  obtain ⟨y0, y1, k, _, _, h0, h1⟩ := trod_struct2 Tryz.underlying24 h
  rw [cellsB] at h0
  rw [cellsS] at h1
  simp only [List.drop_zero, List.drop_succ_cons, List.take_succ_cons, List.take_zero] at h0 h1
  obtain ⟨s, e0, _⟩ := DataW.trod_bool Tryz.underlying4 h0
  injection e0 with e0 _
  obtain ⟨A, n, c, xs, rfl, g1, g2, g3, g4⟩ := open_words h1
  exact ⟨s, A, n, c, xs, e0, rfl, g1, g2, g3, g4⟩
set_option maxRecDepth 100000 in
theorem open_rat {r : Reach} {b0 : Nat} {v : Value} {d : DataW H} {p : List MemPlace} (hv : Value.okWide Tryz.prog W r b0 27 v) (h : DataW.Trod enc Tryz.prog W base (fun _ => true) held 27 v d p) :
    ∃ s A n c t B m d xs ys, v = .agg #[.bool s, .slice A n c, .bool t, .slice B m d] ∧ RI W A n c xs ∧ RI W B m d ys := by
  obtain ⟨cs, rfl, hsz⟩ := okWide_struct Tryz.underlying27 hv
  obtain ⟨c0, c1, c2, c3, rfl⟩ := array4 (hsz.trans cellsR)
  obtain ⟨fuel, hf⟩ := h
  obtain ⟨y0, y1, k, _, _, h0, h1⟩ := trod_struct2 Tryz.underlying27 hf
  rw [Tryz.cellsI] at h0 h1
  simp only [Value.cells, List.drop_zero, List.drop_succ_cons, List.take_succ_cons, List.take_zero] at h0 h1
  obtain ⟨s, A, n, c, xs, rfl, rfl, r1⟩ := open_intc h0
  obtain ⟨t, B, m, d, ys, rfl, rfl, r2⟩ := open_intc h1
  exact ⟨s, A, n, c, t, B, m, d, xs, ys, rfl, r1, r2⟩
end
set_option maxRecDepth 100000
end Go.Proofs.YtiioodgpkdbndaaGreatDoor
namespace Go.Proofs.YtiioodgpkdbndaaGreatDoor
open Go.RowKit
attribute [local go_sem ↓] Go.wp_at_zero Go.wp_at_succ
theorem rat_den_pos (q : Rat) : (0 : Int) < (q.den : Int) := by have := q.den_pos; omega
end Go.Proofs.YtiioodgpkdbndaaGreatDoor
namespace Go.Proofs.YtiioodgpkdbndaaGreatDoor
open Go.RowKit
attribute [local go_sem ↓] Go.wp_at_zero Go.wp_at_succ
theorem IsDM.unique {a b q r q' r' : Int} (hb : b ≠ 0) (h : IsDM a b q r) (k : IsDM a b q' r') : q = q' ∧ r = r' := by
  obtain ⟨h1, h2⟩ := h
  obtain ⟨k1, k2⟩ := k
  have hq : q = q' := by
    refine Decidable.byContradiction fun hne => ?_
    have e : (q - q') * b = r' - r := by grind
    have hr : -(b.natAbs : Int) < r' - r ∧ r' - r < (b.natAbs : Int) := by omega
    have hd : q - q' ≠ 0 := by omega
    have h3 : b.natAbs ≤ ((q - q') * b).natAbs := by
      rw [Int.natAbs_mul]
      exact Nat.le_mul_of_pos_left _ (Int.natAbs_pos.2 hd)
    rw [e] at h3
    omega
  refine ⟨hq, ?_⟩
  subst hq
  omega
section
variable {A B : Option Addr} {c d n m : Nat} {xs ys : List Nat} {w : World} {s t : Bool}
end
end Go.Proofs.YtiioodgpkdbndaaGreatDoor
namespace Go.Proofs.YtiioodgpkdbndaaGreatDoor
open Go.RowKit
attribute [local go_sem ↓] Go.wp_at_zero Go.wp_at_succ
theorem floor_cmp {q : Rat} {z r : Int} (h : IsDM q.num q.den z r) : ratCmp (z : Rat) q ≤ 0 ∧ ratCmp ((z : Rat) + ((1 : Int) : Rat)) q = 1 := by
  have hd := rat_den_pos q
  obtain ⟨h1, h2⟩ := h
  have hr : 0 ≤ r ∧ r < (q.den : Int) := by omega
  rw [← Rat.intCast_add]
  unfold ratCmp
  rw [Rat.num_intCast, Rat.num_intCast, Rat.den_intCast, Rat.den_intCast]
  have e1 : z * (q.den : Int) - q.num * ((1 : Nat) : Int) = -r := by omega
  have e2 : (z + 1) * (q.den : Int) - q.num * ((1 : Nat) : Int) = (q.den : Int) - r := by rw [Int.add_mul]; omega
  rw [e1, e2]
  refine ⟨?_, Int.sign_eq_one_of_pos (by omega)⟩
  rw [Int.sign_neg]
  by_cases h0 : r = 0
  · rw [h0]; decide
  · rw [Int.sign_eq_one_of_pos (by omega)]; omega
theorem floor_q (q : Rat) : ∃ z r : Int, IsDM q.num q.den z r := by
  have hd := rat_den_pos q
  refine ⟨q.num / q.den, q.num % q.den, ?_, ?_⟩
  · have := Int.mul_ediv_add_emod q.num q.den
    rw [Int.mul_comm] at this
    exact this.symm
  · have h1 := Int.emod_nonneg q.num (show (q.den : Int) ≠ 0 by omega)
    have h2 := Int.emod_lt_of_pos q.num hd
    omega
theorem q_ValidI {w : World} {z : Int} {L : Nat} {s : Bool} {A : Option Addr} {n c : Nat} (h : NI w z L s A n c) (hL : L ≤ 100000) : Calls Tryz.prog 41 #[.agg #[.bool s, .slice A n c]] w fun e w' => e = .returned (.bool true) ∧ Ext w w' := by
  obtain ⟨xs, hn, hx, hc, hcm, hi, hl⟩ := h.out
  refine (ref_Valid hn hx hc hcm (by omega)).mono ?_
  rintro e w' ⟨rfl, hxt⟩
  exact ⟨by rw [validB_int hi], hxt⟩
section
variable {w w' : World} {q p r : Rat} {L : Nat} {s t s' t' u u' : Bool} {A B A' B' C D : Option Addr} {n c m d n' c' m' d' l e0 l' e' : Nat} {xs ys xs' ys' zs zs' : List Nat}
set_option maxHeartbeats 16000000 in
set_option maxRecDepth 100000 in
theorem floor_yes (hA : Awake2) (hT : Tab w) (hP : TabP w) (h : NR w q 20 s A n c t B m d) (zz rr S : Int) (hdm : IsDM q.num q.den zz rr) (hc1 : ratCmp (zz : Rat) q = S) (hc2 : ratCmp ((zz : Rat) + ((1 : Int) : Rat)) q = 1) (hS : S ≤ 0) :
    Calls Tryz.prog 8 #[.agg #[.bool s, .slice A n c, .bool t, .slice B m d]] w fun e w' => e = .returned (.bool true) ∧ Ext w w' := by
  have hd0 : (q.den : Int) ≠ 0 := by have := q.den_nz; omega
  have HD0 := Lib.hid hd0
  have HDM := Lib.hid hdm
  have HC1 := Lib.hid hc1
  have HC2 := Lib.hid hc2
  have hSd : decide (S ≤ 0) = true := decide_eq_true hS
  clear hd0 hdm hc1 hc2
  obtain ⟨xs, ys, ra0, rb0, hv0, hn0, hm0, _⟩ := h.raw
  have HF := Lib.hid (show (fewB n m s xs t ys) = true by unfold fewB; rw [decide_eq_true hn0, decide_eq_true hm0, hv0]; rfl)
  have hr0 := And.intro ra0 rb0
  clear ra0 rb0 hv0 hn0 hm0
  have HA := Lib.hid hA
  clear hA
  go_enter Tryz.func8, Tryz.ntmps8
  go_upto_region 1 with (fail)
  obtain ⟨W0, hW, extW, bx, hzz⟩ := box1 w 27 #[.bool s, .slice A n c, .bool t, .slice B m d]
  rw [← hW]
  clear hW hzz
  go_wp2_with fail
  refine (HA.out _ (hT.ext extW) (hP.ext extW)).mono ?_
  rintro e W ⟨rfl, hxt⟩
  replace extW := extW.trans hxt
  replace bx := bx.ext hxt
  clear hxt
  have bx0 := bx.cell 0 (.bool s) rfl
  have bx1 := bx.cell 1 (.slice A n c) rfl
  have bx2 := bx.cell 2 (.bool t) rfl
  have bx3 := bx.cell 3 (.slice B m d) rfl
  have hnb := Box.new W 27 #[.bool s, .slice A n c, .bool t, .slice B m d]
  have e1 := (Ext.refl W).alloc (.cells #[.bool s, .slice A n c, .bool t, .slice B m d] 27)
  go_wp2_with fail
  refine (few1 hnb (hr0.1.ext (extW.trans e1)) (hr0.2.ext (extW.trans e1))).mono ?_
  rintro e W1 ⟨rfl, hxt⟩
  rw [HF.out]
  have ES := e1.trans hxt
  clear hnb e1 hxt
  clear bx0 bx1 bx2 bx3
  clear hr0 HF
  replace bx := bx.ext ES
  replace extW := extW.trans ES
  replace h := h.ext extW
  clear ES
  have bx0 := bx.cell 0 (.bool s) rfl
  have bx1 := bx.cell 1 (.slice A n c) rfl
  have bx2 := bx.cell 2 (.bool t) rfl
  have bx3 := bx.cell 3 (.slice B m d) rfl
  go_wp2_with fail
  refine (law_ownR h (by omega)).mono ?_
  rintro e wa ⟨s1, A1, n1, c1, t1, B1, m1, d1, rfl, h1, hxa⟩
  go_wp2_with fail
  refine (p_Floor h1 (by omega)).mono ?_
  rintro e wb ⟨z1, rr1, hdm1, s2, A2, n2, c2, rfl, rz, hxb⟩
  obtain ⟨e1, e2⟩ := IsDM.unique HD0.out HDM.out hdm1
  subst e1
  subst e2
  clear bx0 bx1 bx2 bx3
  clear h1 hdm1
  go_upto_region 4 with (fail)
  refine at_world (fun V => Ext W1 V ∧ Box V wb.heap.size 24 #[.bool s2, .slice A2 n2 c2] ∧ NI V zz 21 s2 A2 n2 c2) ⟨(hxa.trans hxb).alloc _, Box.new wb _ _, rz.ext ((Ext.refl wb).alloc _)⟩ ?_
  generalize wb.heap.size = g3
  clear hxa hxb rz
  rintro V ⟨EV, b3, rz⟩
  replace bx := bx.ext EV
  replace h := h.ext EV
  replace extW := extW.trans EV
  clear EV
  go_wp2_with fail
  have ES0 := Ext.refl V
  refine wp_region_held_drew (S := Ext V) (by kernel_rfl) ES0.drew (fun ES => ?_)
  clear ES0
  refine Late.start0 (fun _ _ _ _ _ => ⟨fun h => h, fun h => h⟩) ES (fun hAl hQ => ?_)
  refine Late.take (i := 0) (d := some 17) (v := ?v0_43) rfl rfl (by kernel_rfl) (by kernel_rfl) (by kernel_rfl) (by kernel_rfl) hQ (Or.inl ⟨by rfl, ?y0_43⟩) ?r0_43
  case y0_43 =>
    intro w' hSw
    have k00 := (b3.ext hSw).c2
    have k10 := (bx.ext hSw).c4
    go_simp
    try with_reducible rfl
  try simp only [Act.put]
  try simp only [List.setIfInBounds_toArray]
  try simp only [List.set_cons_succ]
  try simp only [List.set_cons_zero]
  refine Late.call (i := 1) rfl (by kernel_rfl) hAl (by kernel_rfl) (by kernel_rfl) (by kernel_rfl) hQ (fun w1 e1 E1 K hK => ?_)
  go_simp
  (go_at_call 41; refine (q_ValidI (rz.ext E1) (by omega)).mono ?_; rintro e wk1 ⟨rfl, hx1⟩)
  refine hK.out _ _ hx1 ?_
  clear hK K
  try simp only [Act.put]
  try simp only [List.setIfInBounds_toArray]
  try simp only [List.set_cons_succ]
  try simp only [List.set_cons_zero]
  refine Late.take (i := 2) (d := some 19) (v := ?v2_44) rfl rfl (by kernel_rfl) (by kernel_rfl) (by kernel_rfl) (by kernel_rfl) hQ (Or.inl ⟨by rfl, ?y2_44⟩) ?r2_44
  case y2_44 =>
    intro w' hSw
    have k00 := (b3.ext hSw).c2
    have k10 := (bx.ext hSw).c4
    go_simp
    try with_reducible rfl
  try simp only [Act.put]
  try simp only [List.setIfInBounds_toArray]
  try simp only [List.set_cons_succ]
  try simp only [List.set_cons_zero]
  refine Late.take (i := 3) (d := some 20) (v := ?v3_45) rfl rfl (by kernel_rfl) (by kernel_rfl) (by kernel_rfl) (by kernel_rfl) hQ (Or.inl ⟨by rfl, ?y3_45⟩) ?r3_45
  case y3_45 =>
    intro w' hSw
    have k00 := (b3.ext hSw).c2
    have k10 := (bx.ext hSw).c4
    go_simp
    try with_reducible rfl
  try simp only [Act.put]
  try simp only [List.setIfInBounds_toArray]
  try simp only [List.set_cons_succ]
  try simp only [List.set_cons_zero]
  refine Late.take (i := 4) (d := some 21) (v := ?v4_46) rfl rfl (by kernel_rfl) (by kernel_rfl) (by kernel_rfl) (by kernel_rfl) hQ (Or.inl ⟨by rfl, ?y4_46⟩) ?r4_46
  case y4_46 =>
    intro w' hSw
    have k00 := (b3.ext hSw).c2
    have k10 := (bx.ext hSw).c4
    go_simp
    try with_reducible rfl
  try simp only [Act.put]
  try simp only [List.setIfInBounds_toArray]
  try simp only [List.set_cons_succ]
  try simp only [List.set_cons_zero]
  refine Late.take (i := 5) (d := some 22) (v := ?v5_47) rfl rfl (by kernel_rfl) (by kernel_rfl) (by kernel_rfl) (by kernel_rfl) hQ (Or.inl ⟨by rfl, ?y5_47⟩) ?r5_47
  case y5_47 =>
    intro w' hSw
    have k00 := (b3.ext hSw).c2
    have k10 := (bx.ext hSw).c4
    go_simp
    try with_reducible rfl
  try simp only [Act.put]
  try simp only [List.setIfInBounds_toArray]
  try simp only [List.set_cons_succ]
  try simp only [List.set_cons_zero]
  refine Late.call (i := 6) rfl (by kernel_rfl) hAl (by kernel_rfl) (by kernel_rfl) (by kernel_rfl) hQ (fun w6 e6 E6 K hK => ?_)
  go_simp
  (go_at_call 43; refine (q_Floor (h.ext E6) (by omega)).mono ?_; rintro e wk6 ⟨z2, rr2, hdm2, s4, A4, n4, c4, rfl, r4, hx6⟩; obtain ⟨e1, e2⟩ := IsDM.unique HD0.out HDM.out hdm2; subst e1; subst e2)
  refine hK.out _ _ hx6 ?_
  clear hK K
  try simp only [Act.put]
  try simp only [List.setIfInBounds_toArray]
  try simp only [List.set_cons_succ]
  try simp only [List.set_cons_zero]
  refine Late.call (i := 7) rfl (by kernel_rfl) hAl (by kernel_rfl) (by kernel_rfl) (by kernel_rfl) hQ (fun w7 e7 E7 K hK => ?_)
  go_simp
  (replace r4 := r4.ext e7; go_at_call 42; refine (q_SameInt (rz.ext E7) r4).mono ?_; rintro e wk7 ⟨rfl, hx7⟩; replace r4 := r4.ext hx7)
  refine hK.out _ _ hx7 ?_
  clear hK K
  try simp only [Act.put]
  try simp only [List.setIfInBounds_toArray]
  try simp only [List.set_cons_succ]
  try simp only [List.set_cons_zero]
  refine Late.take (i := 8) (d := some 25) (v := ?v8_48) rfl rfl (by kernel_rfl) (by kernel_rfl) (by kernel_rfl) (by kernel_rfl) hQ (Or.inl ⟨by rfl, ?y8_48⟩) ?r8_48
  case y8_48 =>
    intro w' hSw
    have k00 := (b3.ext hSw).c2
    have k10 := (bx.ext hSw).c4
    go_simp
    try with_reducible rfl
  try simp only [Act.put]
  try simp only [List.setIfInBounds_toArray]
  try simp only [List.set_cons_succ]
  try simp only [List.set_cons_zero]
  refine Late.take (i := 9) (d := some 26) (v := ?v9_49) rfl rfl (by kernel_rfl) (by kernel_rfl) (by kernel_rfl) (by kernel_rfl) hQ (Or.inl ⟨by rfl, ?y9_49⟩) ?r9_49
  case y9_49 =>
    intro w' hSw
    have k00 := (b3.ext hSw).c2
    have k10 := (bx.ext hSw).c4
    go_simp
    try with_reducible rfl
  try simp only [Act.put]
  try simp only [List.setIfInBounds_toArray]
  try simp only [List.set_cons_succ]
  try simp only [List.set_cons_zero]
  refine Late.done0 (by kernel_rfl) (fun V2 ez Ez => ?_)
  clear hAl hQ ES
  replace bx := bx.ext Ez
  replace b3 := b3.ext Ez
  replace h := h.ext Ez
  replace rz := rz.ext Ez
  replace extW := extW.trans Ez
  clear Ez ez
  go_upto_region 6 with (fail)
  have ES0 := Ext.refl V2
  refine wp_region_held_drew (S := Ext V2) (by kernel_rfl) ES0.drew (fun ES => ?_)
  clear ES0
  refine Late.start1 (x := ⟨3, 4, 27, #[Value.bool false, Value.slice none 0 0, Value.bool false, Value.slice none 0 0]⟩) (n := 4) ⟨_, rfl, rfl, rfl, fun a w => by go_simp⟩ (fun _ _ _ _ _ => ⟨fun h => h, fun h => h⟩) ES rfl (fun hAl hQ => ?_)
  refine Late.take (i := 0) (d := some 27) (v := ?v0_50) rfl rfl (by kernel_rfl) (by kernel_rfl) (by kernel_rfl) (by kernel_rfl) hQ (Or.inl ⟨by rfl, ?y0_50⟩) ?r0_50
  case y0_50 =>
    intro w' hSw
    have k00 := (b3.ext hSw).c2
    have k10 := (bx.ext hSw).c4
    go_simp
    try with_reducible rfl
  try simp only [Act.put]
  try simp only [List.setIfInBounds_toArray]
  try simp only [List.set_cons_succ]
  try simp only [List.set_cons_zero]
  refine Late.call (i := 1) rfl (by kernel_rfl) hAl (by kernel_rfl) (by kernel_rfl) (by kernel_rfl) hQ (fun w1 e1 E1 K hK => ?_)
  go_simp
  (go_at_call 44; refine (q_FromInt 1 (by omega) (by omega)).mono ?_; rintro e wa ⟨s5, A5, n5, c5, rfl, r5, hx1⟩)
  refine hK.out _ _ hx1 ?_
  clear hK K
  try simp only [Act.put]
  try simp only [List.setIfInBounds_toArray]
  try simp only [List.set_cons_succ]
  try simp only [List.set_cons_zero]
  refine Late.take (i := 2) (d := some 29) (v := ?v2_51) rfl rfl (by kernel_rfl) (by kernel_rfl) (by kernel_rfl) (by kernel_rfl) hQ (Or.inl ⟨by rfl, ?y2_51⟩) ?r2_51
  case y2_51 =>
    intro w' hSw
    go_simp
    try with_reducible rfl
  try simp only [Act.put]
  try simp only [List.setIfInBounds_toArray]
  try simp only [List.set_cons_succ]
  try simp only [List.set_cons_zero]
  refine Late.finish1 (hAl _ (by simp)) (by kernel_rfl) (fun wz g5 ez Ez lg5 xb1 => ?_)
  clear hAl hQ ES
  have f10 := xb1.cell 0 (Value.bool false) rfl
  have f20 := xb1.frozen 0
  have f11 := xb1.cell 1 (Value.slice none 0 0) rfl
  have f21 := xb1.frozen 1
  have f12 := xb1.cell 2 (Value.bool false) rfl
  have f22 := xb1.frozen 2
  have f13 := xb1.cell 3 (Value.slice none 0 0) rfl
  have f23 := xb1.frozen 3
  have e4 := fin_quad (s := s2) (A := A2) (n := n2) (c := c2) (t := s5) (B := A5) (m := n5) (d := c5) xb1
  try simp only [Act.put]
  try simp only [List.setIfInBounds_toArray]
  try simp only [List.set_cons_succ]
  try simp only [List.set_cons_zero]
  refine wpAnyH_ready (rs := [4]) (by kernel_rfl) (by simp) (AllReadyH.cons rfl (fun K hK => ?_) AllReadyH.nil)
  go_simp
  refine hK.out _ _ (e4.2.2.1 _ Ez lg5) (fun _ => ?_)
  clear hK K
  try simp only [Act.put]
  try simp only [List.setIfInBounds_toArray]
  try simp only [List.set_cons_succ]
  try simp only [List.set_cons_zero]
  refine any_world (fun U => Ext V2 U ∧ Box U g5 27 #[.bool s2, .slice A2 n2 c2, .bool s5, .slice A5 n5 c5] ∧ NR U (zz : Rat) 22 s2 A2 n2 c2 s5 A5 n5 c5) ⟨e4.2.2.1 _ Ez lg5, e4.1, ⟨(e4.2.1 _ _ _ _ _ _ (rz.ext Ez)).le (by omega), (e4.2.1 _ _ _ _ _ _ (r5.ext ez)).le (by omega)⟩⟩ ?_
  clear e4 f10 f11 f12 f13 f20 f21 f22 f23 xb1 lg5
  rintro U ⟨EU, b4, rl⟩
  refine wpAnyH_done (by kernel_rfl) ?_ _
  replace bx := bx.ext EU
  replace h := h.ext EU
  replace extW := extW.trans EU
  clear EU Ez ez
  go_wp2_with fail
  have ES0 := Ext.refl U
  refine wp_region_held_drew (S := Ext U) (by kernel_rfl) ES0.drew (fun ES => ?_)
  clear ES0
  refine Late.start0 (fun _ _ _ _ _ => ⟨fun h => h, fun h => h⟩) ES (fun hAl hQ => ?_)
  refine Late.take (i := 0) (d := some 30) (v := ?v0_52) rfl rfl (by kernel_rfl) (by kernel_rfl) (by kernel_rfl) (by kernel_rfl) hQ (Or.inl ⟨by rfl, ?y0_52⟩) ?r0_52
  case y0_52 =>
    intro w' hSw
    have k00 := (b4.ext hSw).c4
    have k10 := (bx.ext hSw).c4
    go_simp
    try with_reducible rfl
  try simp only [Act.put]
  try simp only [List.setIfInBounds_toArray]
  try simp only [List.set_cons_succ]
  try simp only [List.set_cons_zero]
  refine Late.take (i := 1) (d := some 31) (v := ?v1_53) rfl rfl (by kernel_rfl) (by kernel_rfl) (by kernel_rfl) (by kernel_rfl) hQ (Or.inl ⟨by rfl, ?y1_53⟩) ?r1_53
  case y1_53 =>
    intro w' hSw
    have k00 := (b4.ext hSw).c4
    have k10 := (bx.ext hSw).c4
    go_simp
    try with_reducible rfl
  try simp only [Act.put]
  try simp only [List.setIfInBounds_toArray]
  try simp only [List.set_cons_succ]
  try simp only [List.set_cons_zero]
  refine Late.call (i := 2) rfl (by kernel_rfl) hAl (by kernel_rfl) (by kernel_rfl) (by kernel_rfl) hQ (fun w2 e2 E2 K hK => ?_)
  go_simp
  (go_at_call 39; refine (q_CmpR (rl.ext E2) (h.ext E2) (by omega) (by omega)).mono ?_; rintro e wk2 ⟨rfl, hx2⟩; rw [HC1.out])
  refine hK.out _ _ hx2 ?_
  clear hK K
  try simp only [Act.put]
  try simp only [List.setIfInBounds_toArray]
  try simp only [List.set_cons_succ]
  try simp only [List.set_cons_zero]
  refine Late.take (i := 3) (d := some 33) (v := ?v3_54) rfl rfl (by kernel_rfl) (by kernel_rfl) (by kernel_rfl) (by kernel_rfl) hQ (Or.inl ⟨by rfl, ?y3_54⟩) ?r3_54
  case y3_54 =>
    intro w' hSw
    have k00 := (b4.ext hSw).c4
    have k10 := (bx.ext hSw).c4
    go_simp
    try with_reducible rfl
  try simp only [Act.put]
  try simp only [List.setIfInBounds_toArray]
  try simp only [List.set_cons_succ]
  try simp only [List.set_cons_zero]
  refine Late.take (i := 4) (d := some 34) (v := ?v4_55) rfl rfl (by kernel_rfl) (by kernel_rfl) (by kernel_rfl) (by kernel_rfl) hQ (Or.inl ⟨by rfl, ?y4_55⟩) ?r4_55
  case y4_55 =>
    intro w' hSw
    have k00 := (b4.ext hSw).c4
    have k10 := (bx.ext hSw).c4
    go_simp
    try with_reducible rfl
  try simp only [Act.put]
  try simp only [List.setIfInBounds_toArray]
  try simp only [List.set_cons_succ]
  try simp only [List.set_cons_zero]
  refine Late.take (i := 5) (d := some 35) (v := ?v5_56) rfl rfl (by kernel_rfl) (by kernel_rfl) (by kernel_rfl) (by kernel_rfl) hQ (Or.inl ⟨by rfl, ?y5_56⟩) ?r5_56
  case y5_56 =>
    intro w' hSw
    have k00 := (b4.ext hSw).c4
    have k10 := (bx.ext hSw).c4
    go_simp
    try with_reducible rfl
  try simp only [Act.put]
  try simp only [List.setIfInBounds_toArray]
  try simp only [List.set_cons_succ]
  try simp only [List.set_cons_zero]
  refine Late.take (i := 8) (d := some 38) (v := ?v8_57) rfl rfl (by kernel_rfl) (by kernel_rfl) (by kernel_rfl) (by kernel_rfl) hQ (Or.inl ⟨by rfl, ?y8_57⟩) ?r8_57
  case y8_57 =>
    intro w' hSw
    have k00 := (b4.ext hSw).c4
    have k10 := (bx.ext hSw).c4
    go_simp
    try with_reducible rfl
  try simp only [Act.put]
  try simp only [List.setIfInBounds_toArray]
  try simp only [List.set_cons_succ]
  try simp only [List.set_cons_zero]
  refine Late.call (i := 6) rfl (by kernel_rfl) hAl (by kernel_rfl) (by kernel_rfl) (by kernel_rfl) hQ (fun w6 e6 E6 K hK => ?_)
  go_simp
  (go_at_call 20; refine (q_FromIntR 1 (by omega) (by omega)).mono ?_; rintro e wk6 ⟨s5_, A5_, n5_, c5_, t5_, B5_, m5_, d5_, rfl, r1, hx6⟩)
  refine hK.out _ _ hx6 ?_
  clear hK K
  try simp only [Act.put]
  try simp only [List.setIfInBounds_toArray]
  try simp only [List.set_cons_succ]
  try simp only [List.set_cons_zero]
  refine Late.call (i := 7) rfl (by kernel_rfl) hAl (by kernel_rfl) (by kernel_rfl) (by kernel_rfl) hQ (fun w7 e7 E7 K hK => ?_)
  go_simp
  (replace r1 := r1.ext e7; go_at_call 29; refine (q_AddR (rl.ext E7) r1 (by omega) (by omega)).mono ?_; rintro e wk7 ⟨s6_, A6_, n6_, c6_, t6_, B6_, m6_, d6_, rfl, r2, hx7⟩; replace r1 := r1.ext hx7)
  refine hK.out _ _ hx7 ?_
  clear hK K
  try simp only [Act.put]
  try simp only [List.setIfInBounds_toArray]
  try simp only [List.set_cons_succ]
  try simp only [List.set_cons_zero]
  refine Late.call (i := 9) rfl (by kernel_rfl) hAl (by kernel_rfl) (by kernel_rfl) (by kernel_rfl) hQ (fun w9 e9 E9 K hK => ?_)
  go_simp
  (replace r1 := r1.ext e9; replace r2 := r2.ext e9; go_at_call 39; refine (q_CmpR r2 (h.ext E9) (by omega) (by omega)).mono ?_; rintro e wk9 ⟨rfl, hx9⟩; replace r1 := r1.ext hx9; replace r2 := r2.ext hx9; rw [HC2.out])
  refine hK.out _ _ hx9 ?_
  clear hK K
  try simp only [Act.put]
  try simp only [List.setIfInBounds_toArray]
  try simp only [List.set_cons_succ]
  try simp only [List.set_cons_zero]
  refine Late.take (i := 10) (d := some 40) (v := ?v10_58) rfl rfl (by kernel_rfl) (by kernel_rfl) (by kernel_rfl) (by kernel_rfl) hQ (Or.inl ⟨by rfl, ?y10_58⟩) ?r10_58
  case y10_58 =>
    intro w' hSw
    have k00 := (b4.ext hSw).c4
    have k10 := (bx.ext hSw).c4
    go_simp
    try with_reducible rfl
  try simp only [Act.put]
  try simp only [List.setIfInBounds_toArray]
  try simp only [List.set_cons_succ]
  try simp only [List.set_cons_zero]
  refine Late.take (i := 11) (d := some 41) (v := ?v11_59) rfl rfl (by kernel_rfl) (by kernel_rfl) (by kernel_rfl) (by kernel_rfl) hQ (Or.inl ⟨by rfl, ?y11_59⟩) ?r11_59
  case y11_59 =>
    intro w' hSw
    have k00 := (b4.ext hSw).c4
    have k10 := (bx.ext hSw).c4
    go_simp
    try with_reducible rfl
  try simp only [Act.put]
  try simp only [List.setIfInBounds_toArray]
  try simp only [List.set_cons_succ]
  try simp only [List.set_cons_zero]
  refine Late.take (i := 12) (d := some 2) (v := ?v12_60) rfl rfl (by kernel_rfl) (by kernel_rfl) (by kernel_rfl) (by kernel_rfl) hQ (Or.inl ⟨by rfl, ?y12_60⟩) ?r12_60
  case y12_60 =>
    intro w' hSw
    have k00 := (b4.ext hSw).c4
    have k10 := (bx.ext hSw).c4
    go_simp
    try with_reducible rfl
  try simp only [Act.put]
  try simp only [List.setIfInBounds_toArray]
  try simp only [List.set_cons_succ]
  try simp only [List.set_cons_zero]
  refine Late.done0 (by kernel_rfl) (fun wz ez Ez => ?_)
  clear hAl hQ ES
  go_wp2_with fail
  go_ret
  exact ⟨rfl, extW.trans Ez⟩
theorem floor_all (hA : Awake2) (hT : Tab w) (hP : TabP w) (h : NR w q 20 s A n c t B m d) : Calls Tryz.prog 8 #[.agg #[.bool s, .slice A n c, .bool t, .slice B m d]] w fun e w' => e = .returned (.bool true) ∧ Ext w w' := by
  obtain ⟨z, r, hdm⟩ := floor_q q
  obtain ⟨c1, c2⟩ := floor_cmp hdm
  exact floor_yes hA hT hP h z r _ hdm rfl c2 c1
set_option maxHeartbeats 2000000 in
theorem floor_no (hA : Awake2) (hT : Tab w) (hP : TabP w) (hr0 : RI w A n c xs ∧ RI w B m d ys) (hf : (fewB n m s xs t ys) = false) :
    Calls Tryz.prog 8 #[.agg #[.bool s, .slice A n c, .bool t, .slice B m d]] w fun e w' => e = .returned (.bool true) ∧ Ext w w' := by
  have HF := Lib.hid hf
  clear hf
  have HA := Lib.hid hA
  clear hA
  go_enter Tryz.func8, Tryz.ntmps8
  go_upto_region 1 with (fail)
  obtain ⟨W0, hW, extW, bx, hzz⟩ := box1 w 27 #[.bool s, .slice A n c, .bool t, .slice B m d]
  rw [← hW]
  clear hW hzz
  go_wp2_with fail
  refine (HA.out _ (hT.ext extW) (hP.ext extW)).mono ?_
  rintro e W ⟨rfl, hxt⟩
  replace extW := extW.trans hxt
  replace bx := bx.ext hxt
  clear hxt
  have bx0 := bx.cell 0 (.bool s) rfl
  have bx1 := bx.cell 1 (.slice A n c) rfl
  have bx2 := bx.cell 2 (.bool t) rfl
  have bx3 := bx.cell 3 (.slice B m d) rfl
  have hnb := Box.new W 27 #[.bool s, .slice A n c, .bool t, .slice B m d]
  have e1 := (Ext.refl W).alloc (.cells #[.bool s, .slice A n c, .bool t, .slice B m d] 27)
  go_wp2_with fail
  refine (few1 hnb (hr0.1.ext (extW.trans e1)) (hr0.2.ext (extW.trans e1))).mono ?_
  rintro e W1 ⟨rfl, hxt⟩
  rw [HF.out]
  have ES := e1.trans hxt
  clear hnb e1 hxt
  clear bx0 bx1 bx2 bx3
  go_wp2_with fail
  refine (HA.out _ (hT.ext (extW.trans ES)) (hP.ext (extW.trans ES))).mono ?_
  rintro e W2 ⟨rfl, hxt⟩
  go_wp2_with fail
  go_ret
  exact ⟨rfl, (extW.trans ES).trans hxt⟩
theorem floor_any (hA : Awake2) (hT : Tab w) (hP : TabP w) (hr0 : RI w A n c xs ∧ RI w B m d ys) :
    Calls Tryz.prog 8 #[.agg #[.bool s, .slice A n c, .bool t, .slice B m d]] w fun e w' => e = .returned (.bool true) ∧ Ext w w' := by
  cases hf : (fewB n m s xs t ys) with
  | false => exact floor_no hA hT hP hr0 hf
  | true =>
    skip
    have f0 := hf
    obtain ⟨q, h⟩ := few_nr hr0.1 hr0.2 f0
    exact floor_all hA hT hP h
end
end Go.Proofs.YtiioodgpkdbndaaGreatDoor
namespace Go.Proofs.YtiioodgpkdbndaaGreatDoor
open Go.ChangeShapes Go.WideShapes Go.ChangeAt Go.RowKit Go.Joins
set_option maxRecDepth 100000
theorem floor_laid : Rows.rationalFloorRow.laid = laidR := by kernel_rfl
theorem floor_lifted (os : Os) (started : os.Started) (H : Type) (enc : TypeId × Value → H) :
    ReturnsInHanded {} Tryz.checked os 8 .any (fun w args => (Rows.rationalFloorSpec.pre enc Tryz.prog Tryz.f8 [] false w args ∧ laidMetH Tryz.prog Rows.rationalFloorRow.laid w) ∧ sizedMet enc Tryz.prog Tryz.f8 (OpenSpec.ofChange Rows.rationalFloorSpec) false w args)
      (Rows.rationalFloorSpec.post enc Tryz.prog Tryz.f8 false true false false) := by
  refine returnsInHanded_of_change_and (C := Tryz.checked) (X := fun w _ => laidMetH Tryz.prog Rows.rationalFloorRow.laid w) (fun _ _ _ hh h => h.of_heap hh) Tryz.own started (by kernel_rfl) Tryz.func8
    (ChangeSpec.witness_shaped (enc := enc) (C := Tryz.checked) (os := os) (X := fun w _ => laidMetH Tryz.prog Rows.rationalFloorRow.laid w) false (World.laidAll Tryz.prog os Rows.rationalFloorRow.laid) #[Value.agg #[.bool false, .slice none 0 0, .bool false, .slice none 0 0]] 8 (World.laidAll_os _ _ _)
      (World.shaped_of_ZipB (by kernel_rfl) (by kernel_rfl)) (by kernel_rfl) (by kernel_rfl) (by kernel_rfl)
      (by rw [MakeChecks.laidMetH_plain _ _ _ (by kernel_rfl)]; exact laidMet_laidAll _ (by kernel_rfl) (by kernel_rfl))) ?_
  intro W base args ds gs before hval0 hW _ _ hL _
  have hval : ∀ (j : Nat) t v, Tryz.f8.params[j]? = some t → args[j]? = some v → Value.okWide Tryz.prog W .any base t v := hval0
  have hW' := hW
  have hlt : ∀ p ∈ before, p.block < W.heap.size := fun p hp => hW.lt p hp
  obtain ⟨p, q, hA0, hV, rfl, _, _⟩ := hW
  have hA : DataW.TrodAll enc Tryz.prog W 0 (fun _ => true) true Tryz.f8.params.toList args.toList ds p := hA0
  rw [Tryz.params8] at hA hval
  obtain ⟨v0, d0, rfl, rfl, h0⟩ := trodAll_one hA
  obtain ⟨rfl, rfl⟩ := trodVars_none hV
  simp only [List.append_nil] at hW' hlt
  obtain ⟨s, A, n, c, t, B, m, d, xs, ys, rfl, hr0, hk0⟩ := open_rat (hval 0 27 v0 rfl rfl) h0
  clear hA0 hval0
  rw [floor_laid] at hL
  obtain ⟨hT, hP⟩ := tabs_of_laid hL
  refine (floor_any awake2 hT hP ⟨hr0, hk0⟩).mono fun e W' ⟨he, hext⟩ => ?_
  subst he
  have hb : Below W.heap.size W W' := hext
  have g0 := Below.trod Tryz.laidOut (by kernel_rfl) (of_decide_eq_true (by kernel_rfl)) h0 hb (fun p hp => hlt p hp)
  exact ⟨_, rfl, _, _, _, [], p, [], hW', trodAll_mk1 (shut_bool Tryz.underlying4 true), trodAll_mk1 g0, rfl, Below.frame hb _, fun h => by cases h⟩
theorem floor_row_holds : Rows.RationalFloorSaid :=
  OpenClaim.holds_of_wide 8 Tryz.f8 rfl rfl rfl rfl rfl rfl rfl ⟨rfl, rfl, rfl, rfl, rfl⟩ rfl rfl rfl rfl rfl (by kernel_rfl) Tryz.func8 (by kernel_rfl)
    (of_decide_eq_true (by kernel_rfl)) (by unfold Func.isWrapper; first | (rw [if_neg (of_decide_eq_false (by kernel_rfl))]; exact ⟨rfl, rfl⟩) | (rw [if_pos (by decide +kernel)]; kernel_rfl))
    (fun os started H enc _ => floor_lifted os started H enc)
theorem floor_holds : Rows.RationalFloorCardSaid :=
  Claim7.holds_tied_plain_at .later [] [.data, .data, .data, .data, .pinned] true Rows.rationalFloorCard.stood.harness false
    floor_row_holds (fun _ h => by cases h) (by kernel_rfl) (fun _ h => by cases h) rationalFloor_row_tie rfl ⟨rfl, rfl⟩ (by kernel_rfl) rfl
    (fun f fn hf hfn => by
      obtain rfl : f = 8 := Option.some.inj ((show Tryz.prog.funcNamed "setsquare/setsquarelaw02.RationalFloor" = some 8 by kernel_rfl).symm.trans hf) |>.symm
      obtain rfl : fn = Tryz.f8 := (Option.some.inj (Tryz.func8.symm.trans hfn)).symm
      exact ⟨by kernel_rfl, fun j t ht => by
        rw [Tryz.params8] at ht
        have hm : t ∈ [27] := by simpa using Array.mem_of_getElem? ht
        have hall : ([27].all fun u => !Tryz.prog.wantsStandIn u) = true := by kernel_rfl
        exact (show Tryz.prog.wantsStandIn t = false by simpa using List.all_eq_true.1 hall t hm)⟩)
    (by kernel_rfl)
end Go.Proofs.YtiioodgpkdbndaaGreatDoor
