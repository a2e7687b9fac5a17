/- Walks and laws, a part. -/
import Derived.Test.YtiioodgpkdbndaaGreatDoorM0
import Derived.Test.YtiioodgpkdbndaaGreatDoorM1
import Derived.Test.YtiioodgpkdbndaaGreatDoorM2
import Derived.Test.YtiioodgpkdbndaaGreatDoorM3
import Derived.Test.YtiioodgpkdbndaaGreatDoorM4
import Derived.Test.YtiioodgpkdbndaaGreatDoorM5
import Derived.Test.YtiioodgpkdbndaaGreatDoorM6
import Derived.Test.YtiioodgpkdbndaaGreatDoorM7
import Derived.Test.YtiioodgpkdbndaaGreatDoorM8
import Derived.Test.YtiioodgpkdbndaaGreatDoorM9
import Derived.Test.YtiioodgpkdbndaaGreatDoorMg0
import Derived.Laws.BytesArg
import Derived.Test.YtiioodgpkdbndaaGreatDoorRows
import Derived.ProofKit
import Derived.Lib.SmallJoins
import Derived.Test.YtiioodgpkdbndaaGreatDoorCards
import Derived.Test.YtiioodgpkdbndaaGreatDoorTie
import Derived.LaidMore
import Derived.OpenShut
import Derived.LaidLaws
import Derived.Lay
import Derived.Lib.LaidTab
import Derived.SevenTiedAt
import Derived.Stop.Joined
import Derived.Stop.LaidErr
import Derived.Laws.BitsAllLaws
namespace Go.Proofs.YtiioodgpkdbndaaGreatDoor
open Go.RowKit
attribute [local go_sem ↓] Go.wp_at_zero Go.wp_at_succ
section
variable {w w' : World} {z y : Int} {q p : Rat} {L M : Nat} {s t s' t' : Bool} {A B A' B' : Option Addr} {n c m d n' c' m' d' : Nat}
set_option maxHeartbeats 2000000 in
theorem q_SameInt (h : NI w z L s A n c) (k : NI w z M t B m d) : Calls Tryz.prog 42 #[.agg #[.bool s, .slice A n c], .agg #[.bool t, .slice B m d]] w fun e w' => e = .returned (.bool true) ∧ Ext w w' := by
  obtain ⟨xs, hn, hx, hc, hcm, hi, hl⟩ := h.out
  obtain ⟨ys, hm, hy, hd, hdm, hj, hk⟩ := k.out
  obtain ⟨rfl, rfl⟩ := hi.unique hj
  obtain rfl : n = m := by omega
  have hN9 : n ≤ 9223372036854775807 := by unfold maxLen at hcm; omega
  have Hn := Lib.hid hn
  clear h k hi hj hl hk hn hm
  go_enter Tryz.func42, Tryz.ntmps42
  go_upto_region 1 with (fail)
  obtain ⟨W, hW, extW, bx, by_, hz⟩ := box2 w 24 24 #[.bool s, .slice A n c] #[.bool s, .slice B n d]
  rw [← hW]
  clear hW
  replace hx := hx.ext extW
  replace hy := hy.ext extW
  have x0 := bx.cell 0 (.bool s) rfl
  have x1 := bx.cell 1 (.slice A n c) rfl
  have y0 := by_.cell 0 (.bool s) rfl
  have y1 := by_.cell 1 (.slice B n d) rfl
  have hss : (s != s) = false := by simp
  have hnn : ((n : Int) != (n : Int)) = false := by simp
  go_wp2
  clear x0 x1 y0 y1 hss hnn
  go_loopw [5] (fun i V => ∃ k : Nat, i = .int .i64 (k : Int) ∧ k ≤ n ∧ Ext W V) (fun i _ => n - (intOf i).toNat)
  case atStart => exact ⟨0, rfl, by omega, Ext.refl _⟩
  case round =>
    obtain ⟨k, rfl, hk, hext⟩ := hrel
    have x1 := (bx.ext hext).cell 1 (.slice A n c) rfl
    have y1 := (by_.ext hext).cell 1 (.slice B n d) rfl
    by_cases hlt : k < n
    · have hlx : k < xs.length := by rw [Hn.out]; exact hlt
      obtain ⟨b1, o1, rfl, hb1, hc1⟩ := (hx.ext hext).at_ hlx
      obtain ⟨b2, o2, rfl, hb2, hc2⟩ := (hy.ext hext).at_ hlx
      generalize xs[k] = v at hc1 hc2
      have hne : ((v : Int) != (v : Int)) = false := by simp
      have i1 : (k : Int) < (n : Int) := by omega
      go_upto_region 6 with (fail)
      go_quiet (fail)
      go_wp2_with fail
      go_roundw
      case rel => exact ⟨k + 1, by go_num, by omega, hext.drewN _⟩
      case measure => simp [intOf]; omega
    · have hlt2 : decide ((k : Int) < (n : Int)) = false := decide_eq_false (by omega)
      go_wp2
      go_ret
      exact ⟨rfl, extW.trans hext⟩
set_option maxHeartbeats 2000000 in
theorem q_Same (h : NR w q L s A n c t B m d) (k : NR w q M s' A' n' c' t' B' m' d') : Calls Tryz.prog 16 #[.agg #[.bool s, .slice A n c, .bool t, .slice B m d], .agg #[.bool s', .slice A' n' c', .bool t', .slice B' m' d']] w fun e w' => e = .returned (.bool true) ∧ Ext w w' := by
  go_enter Tryz.func16, Tryz.ntmps16
  go_upto_region 1 with (fail)
  obtain ⟨W, hW, extW, bx, by_, hz⟩ := box2 w 27 27 #[.bool s, .slice A n c, .bool t, .slice B m d] #[.bool s', .slice A' n' c', .bool t', .slice B' m' d']
  rw [← hW]
  clear hW
  replace h := h.ext extW
  replace k := k.ext extW
  have x0 := bx.cell 0 (.bool s) rfl
  have x1 := bx.cell 1 (.slice A n c) rfl
  have x2 := bx.cell 2 (.bool t) rfl
  have x3 := bx.cell 3 (.slice B m d) rfl
  have y0 := by_.cell 0 (.bool s') rfl
  have y1 := by_.cell 1 (.slice A' n' c') rfl
  have y2 := by_.cell 2 (.bool t') rfl
  have y3 := by_.cell 3 (.slice B' m' d') rfl
  go_wp2_with fail
  refine (q_SameInt h.num k.num).mono ?_
  rintro e wb ⟨rfl, hxb⟩
  replace bx := bx.ext hxb
  replace by_ := by_.ext hxb
  replace h := h.ext hxb
  replace k := k.ext hxb
  replace extW := extW.trans hxb
  clear hxb x0 x1 x2 x3 y0 y1 y2 y3
  have x0 := bx.cell 0 (.bool s) rfl
  have x1 := bx.cell 1 (.slice A n c) rfl
  have x2 := bx.cell 2 (.bool t) rfl
  have x3 := bx.cell 3 (.slice B m d) rfl
  have y0 := by_.cell 0 (.bool s') rfl
  have y1 := by_.cell 1 (.slice A' n' c') rfl
  have y2 := by_.cell 2 (.bool t') rfl
  have y3 := by_.cell 3 (.slice B' m' d') rfl
  go_wp2_with fail
  refine (q_SameInt h.den k.den).mono ?_
  rintro e wc ⟨rfl, hxc⟩
  go_wp2_with fail
  go_ret
  exact ⟨rfl, extW.trans hxc⟩
end
end Go.Proofs.YtiioodgpkdbndaaGreatDoor
namespace Go.Proofs.YtiioodgpkdbndaaGreatDoor
open Go.RowKit
attribute [local go_sem ↓] Go.wp_at_zero Go.wp_at_succ
theorem rdset4 {w2 : World} {g : Nat} {T : TypeId} {x y : Bool} {P Q : Option Addr} {k l i j : Nat} {A : Option Addr} {xs : List Nat} (hb : Box w2 g T #[.bool x, .slice P k l, .bool y, .slice Q i j]) (s : Bool) (v1 : Value) (t : Bool) (v2 : Value) {P1 Q1 : Option Addr} {k1 l1 i1 j1 : Nat}
    (h : Rd w2 A xs) (e1 : v1 = .slice P1 k1 l1 := by rfl) (e2 : v2 = .slice Q1 i1 j1 := by rfl) : Rd (set4 w2 g (.bool s) v1 (.bool t) v2) A xs := by
  subst e1
  subst e2
  unfold set4
  have h1 : Box (w2.setCell ⟨g, 0, none⟩ (.bool s)) g T #[.bool s, .slice P k l, .bool y, .slice Q i j] := hb.set 0 (.bool s)
  have h2 : Box ((w2.setCell ⟨g, 0, none⟩ (.bool s)).setCell ⟨g, 1, none⟩ (.slice P1 k1 l1)) g T #[.bool s, .slice P1 k1 l1, .bool y, .slice Q i j] := h1.set 1 (.slice P1 k1 l1)
  have h3 : Box (((w2.setCell ⟨g, 0, none⟩ (.bool s)).setCell ⟨g, 1, none⟩ (.slice P1 k1 l1)).setCell ⟨g, 2, none⟩ (.bool t)) g T #[.bool s, .slice P1 k1 l1, .bool t, .slice Q i j] := h2.set 2 (.bool t)
  exact (((h.setBox hb NoWord.four 0 _).setBox h1 NoWord.four 1 _).setBox h2 NoWord.four 2 _).setBox h3 NoWord.four 3 _
/-- the words of a number in lowest terms. -/
theorem NR.raw {w : World} {q : Rat} {L : Nat} {s : Bool} {A : Option Addr} {n c : Nat} {t : Bool} {B : Option Addr} {m d : Nat} (h : NR w q L s A n c t B m d) :
    ∃ xs ys, RI w A n c xs ∧ RI w B m d ys ∧ validQ s xs t ys = true ∧ n ≤ L ∧ m ≤ L ∧ (∀ w' A' c' B' d', RI w' A' n c' xs → RI w' B' m d' ys → NR w' q L s A' n c' t B' m d') := by
  obtain ⟨xs, h1, h2, h3, h4, h5, h6⟩ := h.num.out
  obtain ⟨ys, k1, k2, k3, k4, k5, k6⟩ := h.den.out
  refine ⟨xs, ys, ⟨h1, h2, h3, h4⟩, ⟨k1, k2, k3, k4⟩, ?_, h6, k6, fun w' A' c' B' d' r1 r2 => ⟨⟨xs, r1.len, r1.rd, r1.cap, r1.top, h5, h6⟩, ⟨ys, r2.len, r2.rd, r2.cap, r2.top, k5, k6⟩⟩⟩
  unfold validQ
  rw [validB_int h5, validB_int k5, h5.abs, k5.abs, k5.eq]
  have hd := q.den_pos
  have hr := q.reduced
  unfold Nat.Coprime at hr
  simp [hr]
  omega
section
variable {w w' : World} {z y : Int} {q p : Rat} {L M : Nat} {s t s' t' : Bool} {A B A' B' : Option Addr} {n c m d n' c' m' d' : Nat} {xs ys xs' ys' : List Nat}
set_option maxHeartbeats 4000000 in
theorem q_ValidRaw (h : RI w A n c xs) (k : RI w B m d ys) (h1 : n ≤ 3000) (h2 : m ≤ 3000) : Calls Tryz.prog 24 #[.agg #[.bool s, .slice A n c, .bool t, .slice B m d]] w fun e w' => e = .returned (.bool (validQ s xs t ys)) ∧ Ext w w' := by
  obtain ⟨r, hr⟩ : ∃ r, validQ s xs t ys = r := ⟨_, rfl⟩
  have HR := Lib.hid hr
  rw [hr]
  clear hr
  go_enter Tryz.func24, Tryz.ntmps24
  go_upto_region 1 with (fail)
  obtain ⟨W, hW, extW, bx, hz⟩ := box1 w 27 #[.bool s, .slice A n c, .bool t, .slice B m d]
  rw [← hW]
  clear hW
  replace h := h.ext extW
  replace k := k.ext extW
  have x0 := bx.cell 0 (.bool s) rfl
  have x1 := bx.cell 1 (.slice A n c) rfl
  have x2 := bx.cell 2 (.bool t) rfl
  have x3 := bx.cell 3 (.slice B m d) rfl
  go_wp2_with fail
  refine (ref_Valid h.len h.rd h.cap h.top (by omega)).mono ?_
  rintro e wa ⟨rfl, hxa⟩
  replace bx := bx.ext hxa
  replace h := h.ext hxa
  replace k := k.ext hxa
  replace extW := extW.trans hxa
  clear hxa x0 x1 x2 x3
  have x0 := bx.cell 0 (.bool s) rfl
  have x1 := bx.cell 1 (.slice A n c) rfl
  have x2 := bx.cell 2 (.bool t) rfl
  have x3 := bx.cell 3 (.slice B m d) rfl
  cases hv1 : validB s xs with
  | false =>
    go_wp2_with fail
    go_ret
    exact ⟨by rw [← HR.out]; unfold validQ; rw [hv1]; rfl, extW⟩
  | true =>
    go_wp2_with fail
    refine (ref_Valid k.len k.rd k.cap k.top (by omega)).mono ?_
    rintro e wb ⟨rfl, hxb⟩
    replace bx := bx.ext hxb
    replace h := h.ext hxb
    replace k := k.ext hxb
    replace extW := extW.trans hxb
    clear hxb x0 x1 x2 x3
    have x0 := bx.cell 0 (.bool s) rfl
    have x1 := bx.cell 1 (.slice A n c) rfl
    have x2 := bx.cell 2 (.bool t) rfl
    have x3 := bx.cell 3 (.slice B m d) rfl
    cases hv2 : validB t ys with
    | false =>
      go_wp2_with fail
      go_ret
      exact ⟨by rw [← HR.out]; unfold validQ; rw [hv1, hv2]; rfl, extW⟩
    | true =>
      have H1 := NI.of_raw (L := 3000) h hv1 h1
      have H2 := NI.of_raw (L := 3000) k hv2 h2
      have hvq : validQ s xs t ys = (decide (0 < ival t ys) && decide (((Nat.gcd (val xs) (val ys) : Nat) : Int) = 1)) := by unfold validQ; rw [hv1, hv2]; rfl
      rw [HR.out] at hvq
      have HVQ := Lib.hid hvq
      clear hv1 hv2 hvq HR
      go_wp2_with fail
      refine (q_Sign H2 (by omega)).mono ?_
      rintro e wc ⟨rfl, hxc⟩
      replace bx := bx.ext hxc
      replace H1 := H1.ext hxc
      replace H2 := H2.ext hxc
      replace extW := extW.trans hxc
      clear hxc x0 x1 x2 x3 h k
      have x0 := bx.cell 0 (.bool s) rfl
      have x1 := bx.cell 1 (.slice A n c) rfl
      have x2 := bx.cell 2 (.bool t) rfl
      have x3 := bx.cell 3 (.slice B m d) rfl
      by_cases hp : 0 < ival t ys
      · rw [Int.sign_eq_one_of_pos hp]
        have hvr : r = decide (((Nat.gcd (val xs) (val ys) : Nat) : Int) = 1) := by rw [HVQ.out, decide_eq_true hp, Bool.true_and]
        have HP := Lib.hid hvr
        clear HVQ hvr
        have ab1 := ival_ab s xs
        have ab2 := ival_ab t ys
        clear hp
        go_wp2_with fail
        refine (q_GCD H1 H2 (by omega) (by omega)).mono ?_
        rintro e wd ⟨s1, A1, n1, c1, rfl, hg, hxd⟩
        rw [ab1, ab2] at hg
        go_wp2_with fail
        refine (q_one hg).mono ?_
        rintro e we ⟨rfl, hxe⟩
        go_wp2_with fail
        go_ret
        exact ⟨by rw [HP.out]; rfl, extW.trans (hxd.trans hxe)⟩
      · have hvr : r = false := by rw [HVQ.out, decide_eq_false hp, Bool.false_and]
        subst hvr
        clear HVQ
        have hs : (ival t ys).sign = 0 ∨ (ival t ys).sign = -1 := by
          rcases Int.lt_trichotomy (ival t ys) 0 with h | h | h
          · exact Or.inr (Int.sign_eq_neg_one_of_neg h)
          · exact Or.inl (by rw [h]; rfl)
          · exact absurd h hp
        clear hp
        rcases hs with hs | hs
        · rw [hs]
          go_wp2_with fail
          go_ret
          exact ⟨rfl, extW⟩
        · rw [hs]
          go_wp2_with fail
          go_ret
          exact ⟨rfl, extW⟩
def fewB (n m : Nat) (s : Bool) (xs : List Nat) (t : Bool) (ys : List Nat) : Bool := decide (n ≤ 20) && (decide (m ≤ 20) && validQ s xs t ys)
set_option maxHeartbeats 2000000 in
theorem q_Few (h : RI w A n c xs) (k : RI w B m d ys) : Calls Tryz.prog 67 #[.agg #[.bool s, .slice A n c, .bool t, .slice B m d], .int .i64 20] w fun e w' => e = .returned (.bool (fewB n m s xs t ys)) ∧ Ext w w' := by
  by_cases h1 : n ≤ 20
  · have d1 : decide ((n : Int) ≤ (20 : Int)) = true := decide_eq_true (by omega)
    by_cases h2 : m ≤ 20
    · have d2 : decide ((m : Int) ≤ (20 : Int)) = true := decide_eq_true (by omega)
      have hf : fewB n m s xs t ys = validQ s xs t ys := by unfold fewB; rw [decide_eq_true h1, decide_eq_true h2]; rfl
      rw [hf]
      clear hf
      go_enter Tryz.func67, Tryz.ntmps67
      go_upto_region 1 with (fail)
      obtain ⟨W, hW, extW, bx, hz⟩ := box1 w 27 #[.bool s, .slice A n c, .bool t, .slice B m d]
      rw [← hW]
      clear hW
      replace h := h.ext extW
      replace k := k.ext extW
      have x0 := bx.cell 0 (.bool s) rfl
      have x1 := bx.cell 1 (.slice A n c) rfl
      have x2 := bx.cell 2 (.bool t) rfl
      have x3 := bx.cell 3 (.slice B m d) rfl
      go_wp2_with fail
      refine (q_ValidRaw h k (by omega) (by omega)).mono ?_
      rintro e wd ⟨rfl, hxd⟩
      go_wp2_with fail
      go_ret
      exact ⟨rfl, extW.trans hxd⟩
    · have d2 : decide ((m : Int) ≤ (20 : Int)) = false := decide_eq_false (by omega)
      have hf : fewB n m s xs t ys = false := by unfold fewB; rw [decide_eq_true h1, decide_eq_false h2]; rfl
      rw [hf]
      clear hf
      go_enter Tryz.func67, Tryz.ntmps67
      go_upto_region 1 with (fail)
      obtain ⟨W, hW, extW, bx, hz⟩ := box1 w 27 #[.bool s, .slice A n c, .bool t, .slice B m d]
      rw [← hW]
      clear hW
      replace h := h.ext extW
      replace k := k.ext extW
      have x0 := bx.cell 0 (.bool s) rfl
      have x1 := bx.cell 1 (.slice A n c) rfl
      have x2 := bx.cell 2 (.bool t) rfl
      have x3 := bx.cell 3 (.slice B m d) rfl
      go_wp2_with fail
      go_ret
      exact ⟨rfl, extW⟩
  · have d1 : decide ((n : Int) ≤ (20 : Int)) = false := decide_eq_false (by omega)
    have hf : fewB n m s xs t ys = false := by unfold fewB; rw [decide_eq_false h1]; rfl
    rw [hf]
    clear hf
    go_enter Tryz.func67, Tryz.ntmps67
    go_upto_region 1 with (fail)
    obtain ⟨W, hW, extW, bx, hz⟩ := box1 w 27 #[.bool s, .slice A n c, .bool t, .slice B m d]
    rw [← hW]
    clear hW
    replace h := h.ext extW
    replace k := k.ext extW
    have x0 := bx.cell 0 (.bool s) rfl
    have x1 := bx.cell 1 (.slice A n c) rfl
    have x2 := bx.cell 2 (.bool t) rfl
    have x3 := bx.cell 3 (.slice B m d) rfl
    go_wp2_with fail
    go_ret
    exact ⟨rfl, extW⟩
end
section
variable {A : Option Addr} {c n : Nat} {xs : List Nat} {w : World} {s : Bool}
/-- a copy, word for word. -/
def RetOw (s : Bool) (xs : List Nat) (w : World) (e : Ending) (w' : World) : Prop :=
  ∃ A' c', e = .returned (.agg #[.bool s, .slice A' xs.length c']) ∧ Rd w' A' xs ∧ xs.length ≤ c' ∧ c' ≤ maxLen ∧ Ext w w'
set_option maxHeartbeats 1000000 in
theorem law_ownInt (hn : xs.length = n) (hx : Rd w A xs) (hl : n ≤ 1000) :
    Calls Tryz.prog 14 #[.agg #[.bool s, .slice A n c]] w (RetOw s xs w) := by
  have Hn := Lib.hid hn
  clear hn
  go_enter Tryz.func14, Tryz.ntmps14
  go_upto_region 1 with (fail)
  obtain ⟨W, hW, extW, bx, bz, hz⟩ := box2 w 24 24 #[.bool s, .slice A n c] #[.bool false, .slice none 0 0]
  rw [← hW]
  clear hW
  have x0 := bx.cell 0 (.bool s) rfl
  have x1 := bx.cell 1 (.slice A n c) rfl
  have z0 := bz.cell 0 (.bool false) rfl
  have z1 := bz.cell 1 (.slice none 0 0) rfl
  have f0 := bz.frozen 0
  have f1 := bz.frozen 1
  go_region_held3 (fun w' => w'.cell? ⟨w.heap.size, 0, none⟩ = some (.bool s) ∧ w'.cell? ⟨w.heap.size, 1, none⟩ = some (.slice A n c)) (first | (go_split_ands; refine ⟨?_, ?_⟩ <;> first | (exact Ext.cellv (by assumption) (by assumption)) | (refine (cell_far2 (by omega)).trans ?_; assumption)) | go_keep)
    ((refine step_append_words (w0 := W) (by rfl) _ _ _ (by rfl) Tryz.underlying22 (((Ext.refl W).drew).alloc _) W.heap.size (by rfl) (heap_alloc_new W.drew _) (Nat.le_refl _) (by rfl) Hn.out (hx.ext (extW.drew.alloc _)) (by omega) ?_; intro A2 c2 w2 ho2 hc2 hm2 ext2; have bz2 := bz.ext ext2; have z20 := bz2.cell 0 (.bool false) rfl; have z21 := bz2.cell 1 (.slice none 0 0) rfl; have f20 := bz2.frozen 0; have f21 := bz2.frozen 1))
  go_wp2_with fail
  obtain ⟨r1, r2, r3, r4⟩ := fin_pair (b := s) (n := n) (c := c2) (extW.trans ext2) (by omega) bz2 ho2.rd
  refine bodyPost_ret (v := .agg #[.bool s, .slice A2 n c2]) (by simp [results, Tryz.results14, go_sem, r3, r4]) rfl ?_
  have hn := Hn.out
  subst hn
  exact ⟨A2, c2, rfl, r1, hc2, hm2, r2⟩
end
section
variable {w w' : World} {z y : Int} {q p : Rat} {L M : Nat} {s t s' t' : Bool} {A B A' B' : Option Addr} {n c m d n' c' m' d' : Nat} {xs ys xs' ys' : List Nat}
set_option maxHeartbeats 2000000 in
theorem law_own (h : RI w A n c xs) (k : RI w B m d ys) (h1 : n ≤ 1000) (h2 : m ≤ 1000) : Calls Tryz.prog 23 #[.agg #[.bool s, .slice A n c, .bool t, .slice B m d]] w fun e w' => ∃ A' c' B' d', e = .returned (.agg #[.bool s, .slice A' n c', .bool t, .slice B' m d']) ∧ RI w' A' n c' xs ∧ RI w' B' m d' ys ∧ Ext w w' := by
  go_enter Tryz.func23, Tryz.ntmps23
  go_upto_region 1 with (fail)
  obtain ⟨W, hW, extW, bx, bz, hz⟩ := box2 w 27 27 #[.bool s, .slice A n c, .bool t, .slice B m d] #[Value.bool false, Value.slice none 0 0, Value.bool false, Value.slice none 0 0]
  rw [← hW]
  clear hW
  replace h := h.ext extW
  replace k := k.ext extW
  refine wpL.start 7 (by kernel_rfl) (fun _ _ _ _ _ => ⟨fun h => h, fun h => h⟩) (fun hQ ES => ?_)
  refine wpL.take (i := 0) (d := some 3) (v := ?v0_29) rfl rfl (by kernel_rfl) (by kernel_rfl) (by kernel_rfl) (by kernel_rfl) hQ (Or.inl ⟨by rfl, ?y0_29⟩) ES ?r0_29
  case y0_29 =>
    intro w' hSw
    have k00 := (bx.ext hSw).c4
    go_simp
    try with_reducible rfl
  try simp only [Act.put]
  try simp only [List.setIfInBounds_toArray]
  try simp only [List.set_cons_succ]
  try simp only [List.set_cons_zero]
  refine wpL.take (i := 3) (d := some 6) (v := ?v3_30) rfl rfl (by kernel_rfl) (by kernel_rfl) (by kernel_rfl) (by kernel_rfl) hQ (Or.inl ⟨by rfl, ?y3_30⟩) ES ?r3_30
  case y3_30 =>
    intro w' hSw
    have k00 := (bx.ext hSw).c4
    go_simp
    try with_reducible rfl
  try simp only [Act.put]
  try simp only [List.setIfInBounds_toArray]
  try simp only [List.set_cons_succ]
  try simp only [List.set_cons_zero]
  refine wpL.take (i := 1) (d := some 4) (v := ?v1_31) rfl rfl (by kernel_rfl) (by kernel_rfl) (by kernel_rfl) (by kernel_rfl) hQ (Or.inl ⟨by rfl, ?y1_31⟩) ES ?r1_31
  case y1_31 =>
    intro w' hSw
    have k00 := (bx.ext hSw).c4
    go_simp
    try with_reducible rfl
  try simp only [Act.put]
  try simp only [List.setIfInBounds_toArray]
  try simp only [List.set_cons_succ]
  try simp only [List.set_cons_zero]
  refine wpL.take (i := 4) (d := some 7) (v := ?v4_32) rfl rfl (by kernel_rfl) (by kernel_rfl) (by kernel_rfl) (by kernel_rfl) hQ (Or.inl ⟨by rfl, ?y4_32⟩) ES ?r4_32
  case y4_32 =>
    intro w' hSw
    have k00 := (bx.ext hSw).c4
    go_simp
    try with_reducible rfl
  try simp only [Act.put]
  try simp only [List.setIfInBounds_toArray]
  try simp only [List.set_cons_succ]
  try simp only [List.set_cons_zero]
  refine wpL.call (i := 2) rfl (by kernel_rfl) (fun K hK => ?_)
  go_simp
  (go_at_call 14; refine (law_ownInt (s := s) (h.ext ES).len (h.ext ES).rd h1).mono ?_; rintro e wa ⟨A1, c1, rfl, g1, g2, g3, hx0⟩; have E0_1 := Ext.trans ES hx0)
  refine hK.out _ _ E0_1 ?_
  clear hK K
  try simp only [Act.put]
  try simp only [List.setIfInBounds_toArray]
  try simp only [List.set_cons_succ]
  try simp only [List.set_cons_zero]
  refine wpL.call (i := 5) rfl (by kernel_rfl) (fun K hK => ?_)
  go_simp
  (go_at_call 14; refine (law_ownInt (s := t) (k.ext E0_1).len (k.ext E0_1).rd h2).mono ?_; rintro e wb ⟨A2, c2, rfl, g4, g5, g6, hx1⟩; have E1_1 := Ext.trans E0_1 hx1)
  refine hK.out _ _ E1_1 ?_
  clear hK K
  try simp only [Act.put]
  try simp only [List.setIfInBounds_toArray]
  try simp only [List.set_cons_succ]
  try simp only [List.set_cons_zero]
  refine wpL.take (i := 6) (d := some 9) (v := ?v6_33) rfl rfl (by kernel_rfl) (by kernel_rfl) (by kernel_rfl) (by kernel_rfl) hQ (Or.inl ⟨by rfl, ?y6_33⟩) E1_1 ?r6_33
  case y6_33 =>
    intro w' hSw
    have k00 := (bx.ext hSw).c4
    go_simp
    try with_reducible rfl
  try simp only [Act.put]
  try simp only [List.setIfInBounds_toArray]
  try simp only [List.set_cons_succ]
  try simp only [List.set_cons_zero]
  have z0 := (bz.ext E1_1).cell 0 _ rfl
  have z1 := (bz.ext E1_1).cell 1 _ rfl
  have z2 := (bz.ext E1_1).cell 2 _ rfl
  have z3 := (bz.ext E1_1).cell 3 _ rfl
  have f0 := (bz.ext E1_1).frozen 0
  have f1 := (bz.ext E1_1).frozen 1
  have f2 := (bz.ext E1_1).frozen 2
  have f3 := (bz.ext E1_1).frozen 3
  refine wpL.tail (i := 7) rfl (by kernel_rfl) (by kernel_rfl) (fun K hK => ?_)
  go_simp
  refine hK.out _ _ ?_
  clear hK K
  try simp only [Act.put]
  try simp only [List.setIfInBounds_toArray]
  try simp only [List.set_cons_succ]
  try simp only [List.set_cons_zero]
  refine wpL.done (by kernel_rfl) ?_ _
  clear hQ
  go_wp2_with fail
  obtain ⟨hn, _, _, _⟩ := h
  obtain ⟨hm, _, _, _⟩ := k
  subst hn
  subst hm
  obtain ⟨b1, b2, b3, b4⟩ := fin_quad (s := s) (A := A1) (n := xs.length) (c := c1) (t := t) (B := A2) (m := ys.length) (d := c2) (bz.ext E1_1)
  have r0 := b1.cell 0 (.bool s) rfl
  have r1 := b1.cell 1 (.slice A1 xs.length c1) rfl
  have r2 := b1.cell 2 (.bool t) rfl
  have r3 := b1.cell 3 (.slice A2 ys.length c2) rfl
  unfold set4 at r0 r1 r2 r3
  refine bodyPost_ret (v := .agg #[.bool s, .slice A1 xs.length c1, .bool t, .slice A2 ys.length c2]) (by simp [results, Tryz.results23, go_sem, r0, r1, r2, r3]) rfl ⟨A1, c1, A2, c2, rfl, ⟨rfl, rdset4 (bz.ext E1_1) _ _ _ _ (g1.ext hx1), g2, g3⟩, ⟨rfl, rdset4 (bz.ext E1_1) _ _ _ _ g4, g5, g6⟩, b3 _ (extW.trans E1_1) (by omega)⟩
theorem law_ownR (h : NR w q L s A n c t B m d) (hL : L ≤ 1000) : Calls Tryz.prog 23 #[.agg #[.bool s, .slice A n c, .bool t, .slice B m d]] w (RetNR q L w) := by
  obtain ⟨xs, ys, h1, h2, _, h4, h5, h6⟩ := h.raw
  refine (law_own h1 h2 (by omega) (by omega)).mono ?_
  rintro e w' ⟨A', c', B', d', rfl, r1, r2, hx⟩
  exact ⟨s, A', n, c', t, B', m, d', rfl, h6 _ _ _ _ _ r1 r2, hx⟩
end
end Go.Proofs.YtiioodgpkdbndaaGreatDoor
namespace Go.Proofs.YtiioodgpkdbndaaGreatDoor
open Go.RowKit
attribute [local go_sem ↓] Go.wp_at_zero Go.wp_at_succ
/-- numbers that few accepts. -/
theorem few_nr {w : World} {A B : Option Addr} {n c m d : Nat} {s t : Bool} {xs ys : List Nat} (h : RI w A n c xs) (k : RI w B m d ys) (hf : fewB n m s xs t ys = true) : ∃ q : Rat, NR w q 20 s A n c t B m d := by
  unfold fewB at hf
  simp only [Bool.and_eq_true, decide_eq_true_eq] at hf
  exact NR.of_raw h k hf.2.2 hf.1 hf.2.1
section
variable {w w' : World} {q p r : Rat} {L : Nat} {s t s' t' u u' : Bool} {A B A' B' C D : Option Addr} {n c m d n' c' m' d' l e0 l' e' : Nat} {xs ys xs' ys' zs zs' : List Nat}
variable {z y : Int} {M : Nat}
set_option maxHeartbeats 4000000 in
theorem few1 {g : Nat} (hb : Box w g 27 #[.bool s, .slice A n c, .bool t, .slice B m d]) (h0 : RI w A n c xs) (k0 : RI w B m d ys) :
    Calls Tryz.prog 25 #[.slice (some ⟨g, 0, none⟩) 1 1] w fun e w' => e = .returned (.bool (fewB n m s xs t ys)) ∧ Ext w w' := by
  go_enter Tryz.func25, Tryz.ntmps25
  go_wp2_with fail
  go_loopw [7] (fun i wr => ∃ k : Nat, k ≤ 1 ∧ i = .int .i64 (k : Int) ∧ Ext w wr ∧ ((0 < k → fewB n m s xs t ys = true))) (fun i _ => 1 - (intOf i).toNat)
  case atStart => exact ⟨0, by omega, rfl, Ext.refl _, by simp⟩
  case round =>
    obtain ⟨k, hk, rfl, hext, hall⟩ := hrel
    have HA := Lib.hid hall
    clear hall
    have c0 := (hb.ext hext).cell 0 (.bool s) rfl
    have c1 := (hb.ext hext).cell 1 (.slice A n c) rfl
    have c2 := (hb.ext hext).cell 2 (.bool t) rfl
    have c3 := (hb.ext hext).cell 3 (.slice B m d) rfl
    have hk2 : k = 0 ∨ k = 1 := by omega
    rcases hk2 with rfl | rfl
    · go_wp2_with (fail)
      refine (q_Few (h0.ext (hext.alloc _)) (k0.ext (hext.alloc _))).mono ?_
      rintro e V ⟨rfl, hxv⟩
      replace hext := (hext.alloc _).trans hxv
      cases hf : fewB n m s xs t ys with
      | true =>
        have HF := Lib.hid hf
        clear hf
        go_wp2_with fail
        go_roundw
        case rel => exact ⟨1, by omega, rfl, hext, by have := HA.out; simp [HF.out] at this ⊢⟩
        case measure => simp [intOf]
      | false =>
        have HF := Lib.hid hf
        clear hf
        go_wp2_with fail
        go_ret
        exact ⟨by have := HA.out; simp [HF.out] at this ⊢, hext⟩
    · go_wp2_with fail
      go_ret
      exact ⟨by have := HA.out; simp at this; simp [this], hext⟩
end
end Go.Proofs.YtiioodgpkdbndaaGreatDoor
namespace Go.Proofs.YtiioodgpkdbndaaGreatDoor
open Go.ChangeShapes Go.WideShapes Go.ChangeAt Go.RowKit Go.Joins
theorem Tryz.cellsI : Tryz.prog.cellsOf 24 = 2 := by kernel_rfl
theorem Tryz.cellsW : Tryz.prog.cellsOf 71 = 1 := by kernel_rfl
section
variable {H : Type} {enc : TypeId × Value → H} {W : World} {base : Nat} {held : Bool}
theorem open_words {m : Nat} {v : Value} {y : DataW H × List MemPlace} (h : DataW.trod enc Tryz.prog W base (fun _ => true) held m 22 [v] = some y) :
    ∃ A n c xs, v = .slice A n c ∧ List.length xs = n ∧ Rd W A xs ∧ n ≤ c ∧ c ≤ maxLen := by
  rcases open_ints Tryz.underlying22 Tryz.underlying71 Tryz.cellsW h with ⟨hcs, _⟩ | ⟨a, len, cap, zs, hcs, _, hl, hm, hz, _, hcell, hwf⟩
  · injection hcs with hcs _
    subst hcs
    exact ⟨none, 0, 0, [], rfl, rfl, Rd.nil _ _, Nat.le_refl _, Nat.zero_le _⟩
  · injection hcs with hcs _
    subst hcs
    simp only [if_true] at hz
    have hb : ∀ n ∈ zs, 0 ≤ n ∧ n ≤ 4294967295 := by
      intro n hn
      have := hwf n hn
      simp [Lit.wf, IntKind.min, IntKind.max, IntKind.bits, IntKind.signed] at this
      omega
    refine ⟨some a, len, cap, (zs.take len).map Int.toNat, rfl, by simp; omega, ⟨?_, ?_⟩, hl, hm⟩
    · intro x hx
      obtain ⟨n, hn, rfl⟩ := List.mem_map.1 hx
      have := hb n (List.mem_of_mem_take hn)
      omega
    · intro hne
      have hpos : 0 < zs.length := by
        rcases Nat.eq_zero_or_pos zs.length with h0 | h0
        · exfalso
          apply hne
          have : zs = [] := List.eq_nil_of_length_eq_zero h0
          rw [this]; simp
        · exact h0
      obtain ⟨b, off, spot⟩ := a
      have hc0 := hcell 0 hpos
      have hspot : spot = none := by
        cases spot with
        | none => rfl
        | some q => simp [Addr.add, World.cell?] at hc0; split at hc0 <;> simp at hc0
      subst hspot
      refine ⟨b, off, rfl, cell_lt (p := ⟨b, off, none⟩) (by simpa [Addr.add] using hc0), fun i hi => ?_⟩
      simp only [List.length_map, List.length_take] at hi
      have hc := hcell i (by omega)
      have e1 : (⟨b, off, none⟩ : Addr).add i = ⟨b, off + i, none⟩ := by unfold Addr.add; split <;> simp_all
      rw [e1] at hc
      rw [hc]
      simp only [List.getElem_map, List.getElem_take]
      have hi2 : i < zs.length := by omega
      have e2 : zs.getD i 0 = zs[i] := by simp [List.getD, hi2]
      rw [e2]
      have := hb zs[i] (List.getElem_mem hi2)
      congr 2
      omega
end
end Go.Proofs.YtiioodgpkdbndaaGreatDoor
namespace Go.Proofs.YtiioodgpkdbndaaGreatDoor
open Go.ChangeShapes Go.WideShapes Go.ChangeAt Go.RowKit Go.Joins
theorem cellsR : Tryz.prog.cellsOf 27 = 4 := by kernel_rfl
theorem cellsB : Tryz.prog.cellsOf 4 = 1 := by kernel_rfl
theorem cellsS : Tryz.prog.cellsOf 22 = 1 := by kernel_rfl
section
variable {H : Type} {enc : TypeId × Value → H} {W : World} {base : Nat} {held : Bool}
theorem open_intc {m : Nat} {c0 c1 : Value} {y : DataW H × List MemPlace} (h : DataW.trod enc Tryz.prog W base (fun _ => true) held m 24 [c0, c1] = some y) :
    ∃ s A n c xs, c0 = .bool s ∧ c1 = .slice A n c ∧ RI W A n c xs := by
  obtain ⟨y0, y1, k, _, _, h0, h1⟩ := trod_struct2 Tryz.underlying24 h
  rw [cellsB] at h0
  rw [cellsS] at h1
  simp only [List.drop_zero, List.drop_succ_cons, List.take_succ_cons, List.take_zero] at h0 h1
  obtain ⟨s, e0, _⟩ := DataW.trod_bool Tryz.underlying4 h0
  injection e0 with e0 _
  obtain ⟨A, n, c, xs, rfl, g1, g2, g3, g4⟩ := open_words h1
  exact ⟨s, A, n, c, xs, e0, rfl, g1, g2, g3, g4⟩
set_option maxRecDepth 100000 in
theorem open_rat {r : Reach} {b0 : Nat} {v : Value} {d : DataW H} {p : List MemPlace} (hv : Value.okWide Tryz.prog W r b0 27 v) (h : DataW.Trod enc Tryz.prog W base (fun _ => true) held 27 v d p) :
    ∃ s A n c t B m d xs ys, v = .agg #[.bool s, .slice A n c, .bool t, .slice B m d] ∧ RI W A n c xs ∧ RI W B m d ys := by
  obtain ⟨cs, rfl, hsz⟩ := okWide_struct Tryz.underlying27 hv
  obtain ⟨c0, c1, c2, c3, rfl⟩ := array4 (hsz.trans cellsR)
  obtain ⟨fuel, hf⟩ := h
  obtain ⟨y0, y1, k, _, _, h0, h1⟩ := trod_struct2 Tryz.underlying27 hf
  rw [Tryz.cellsI] at h0 h1
  simp only [Value.cells, List.drop_zero, List.drop_succ_cons, List.take_succ_cons, List.take_zero] at h0 h1
  obtain ⟨s, A, n, c, xs, rfl, rfl, r1⟩ := open_intc h0
  obtain ⟨t, B, m, d, ys, rfl, rfl, r2⟩ := open_intc h1
  exact ⟨s, A, n, c, t, B, m, d, xs, ys, rfl, r1, r2⟩
end
set_option maxRecDepth 100000
end Go.Proofs.YtiioodgpkdbndaaGreatDoor
namespace Go.Proofs.YtiioodgpkdbndaaGreatDoor
open Go.RowKit
attribute [local go_sem ↓] Go.wp_at_zero Go.wp_at_succ
theorem rat_den_pos (q : Rat) : (0 : Int) < (q.den : Int) := by have := q.den_pos; omega
theorem sign_three (z : Int) : z.sign = -1 ∨ z.sign = 0 ∨ z.sign = 1 := by
  rcases Int.lt_trichotomy z 0 with h | h | h
  · exact .inl (Int.sign_eq_neg_one_of_neg h)
  · exact .inr (.inl (by rw [h]; rfl))
  · exact .inr (.inr (Int.sign_eq_one_of_pos h))
end Go.Proofs.YtiioodgpkdbndaaGreatDoor
namespace Go.Proofs.YtiioodgpkdbndaaGreatDoor
theorem val_set : ∀ {zs : List Nat} {j : Nat} (hj : j < zs.length) (v : Nat), val (zs.set j v) + 4294967296 ^ j * zs[j] = val zs + 4294967296 ^ j * v
  | x :: zs, 0, _, v => by simp [val]; omega
  | x :: zs, j + 1, hj, v => by
    have h := val_set (zs := zs) (j := j) (by simpa using hj) v
    simp only [List.set_cons_succ, val, List.getElem_cons_succ, Nat.pow_succ]
    generalize 4294967296 ^ j = p at *
    have e1 : p * 4294967296 * zs[j]'(by simpa using hj) = 4294967296 * (p * zs[j]'(by simpa using hj)) := by rw [Nat.mul_comm p, Nat.mul_assoc]
    have e2 : p * 4294967296 * v = 4294967296 * (p * v) := by rw [Nat.mul_comm p, Nat.mul_assoc]
    rw [e1, e2]
    omega
theorem pow32j (j b : Nat) : 2 ^ (32 * j + b) = 4294967296 ^ j * 2 ^ b := by
  rw [Nat.pow_add, Nat.pow_mul]
theorem low_bits {zs : List Nat} {j b : Nat} (hw : W32 zs) (hj : j < zs.length) (hb : b < 32) (hd : 2 ^ (32 * j + (b + 1)) ∣ val zs) : 2 ^ (b + 1) ∣ zs[j] := by
  have hs := val_split zs j (by omega)
  rw [val_drop_succ zs j hj] at hs
  rw [pow32j] at hd
  have hT : val (zs.take j) < 4294967296 ^ j := by
    have := val_lt (xs := zs.take j) (fun x hx => hw x (List.mem_of_mem_take hx))
    rwa [List.length_take, Nat.min_eq_left (by omega)] at this
  have hpos : 0 < 4294967296 ^ j := Nat.pow_pos (by decide)
  generalize 4294967296 ^ j = p at *
  generalize val (zs.take j) = T at *
  generalize val (zs.drop (j + 1)) = R at *
  generalize zs[j] = x at *
  generalize hq : 2 ^ (b + 1) = q at *
  have hqB : q ∣ 4294967296 := by
    rw [← hq, show 4294967296 = 2 ^ 32 from rfl]
    exact Nat.pow_dvd_pow 2 (by omega)
  have hpT : p ∣ T := by
    have h1 : p ∣ T + p * (x + 4294967296 * R) := by
      rw [← hs]
      exact Nat.dvd_trans (Nat.dvd_mul_right p q) hd
    exact (Nat.dvd_add_iff_left (Nat.dvd_mul_right p _)).2 h1
  have hT0 : T = 0 := Nat.eq_zero_of_dvd_of_lt hpT hT
  rw [hT0, Nat.zero_add] at hs
  rw [hs] at hd
  have h2 := Nat.dvd_of_mul_dvd_mul_left hpos hd
  exact (Nat.dvd_add_iff_left (Nat.dvd_trans hqB (Nat.dvd_mul_right _ _))).2 h2
theorem bit_room {x b : Nat} (hx : x < 4294967296) (hb : b < 32) (hd : 2 ^ (b + 1) ∣ x) : x + 2 ^ b < 4294967296 ∧ 2 ^ b < 4294967296 := by
  obtain ⟨h, rfl⟩ := hd
  have e : 4294967296 = 2 ^ (b + 1) * 2 ^ (31 - b) := by rw [← Nat.pow_add, show b + 1 + (31 - b) = 32 by omega]
  have hlt : h < 2 ^ (31 - b) := by
    rw [e] at hx
    exact Nat.lt_of_mul_lt_mul_left hx
  have h1 : 2 ^ (b + 1) * (h + 1) ≤ 2 ^ (b + 1) * 2 ^ (31 - b) := Nat.mul_le_mul_left _ hlt
  rw [← e, Nat.mul_add, Nat.mul_one] at h1
  have hp : 0 < 2 ^ b := Nat.pow_pos (by decide)
  have e2 : 2 ^ (b + 1) = 2 * 2 ^ b := by rw [Nat.pow_succ, Nat.mul_comm]
  generalize 2 ^ (b + 1) * h = y at *
  omega
theorem or_bit {x b : Nat} (hd : 2 ^ (b + 1) ∣ x) : x ||| 2 ^ b = x + 2 ^ b := by
  obtain ⟨h, rfl⟩ := hd
  exact (Nat.two_pow_add_eq_or_of_lt (i := b + 1) (Nat.pow_lt_pow_right (by decide) (by omega)) h).symm
theorem and_bit {x b : Nat} (hx : x < 4294967296) (hb : b < 32) (hd : 2 ^ (b + 1) ∣ x) : (x + 2 ^ b) &&& (4294967295 - 2 ^ b) = x := by
  rw [← or_bit hd]
  obtain ⟨h, rfl⟩ := hd
  have hbl : 2 ^ b < 2 ^ 32 := Nat.pow_lt_pow_right (by decide) hb
  have e : 4294967295 - 2 ^ b = 2 ^ 32 - (2 ^ b + 1) := by omega
  rw [e]
  apply Nat.eq_of_testBit_eq
  intro i
  rw [Nat.testBit_and, Nat.testBit_or, Nat.testBit_two_pow_sub_succ hbl, Nat.testBit_two_pow]
  by_cases hi : b = i
  · subst hi
    have : (2 ^ (b + 1) * h).testBit b = false := by
      rw [Nat.testBit_two_pow_mul, decide_eq_false (by omega)]
      rfl
    simp [this]
  · by_cases h32 : i < 32
    · simp [hi, h32]
    · have : (2 ^ (b + 1) * h).testBit i = false := Nat.testBit_lt_two_pow (Nat.lt_of_lt_of_le hx (by
        rw [show 4294967296 = 2 ^ 32 from rfl]
        exact Nat.pow_le_pow_right (by decide) (by omega)))
      simp [hi, this]
/-- the root so far: its bits from k on. -/
structure RtInv (a K k : Nat) (zs : List Nat) : Prop where
  w : W32 zs
  len : zs.length = K
  dvd : 2 ^ k ∣ val zs
  lo : val zs * val zs ≤ a
  hi : a < (val zs + 2 ^ k) * (val zs + 2 ^ k)
theorem RtInv.start {a n K : Nat} (h : a < 2 ^ (n + n)) : RtInv a K n (List.replicate K 0) := by
  refine ⟨W32.replicate _, by simp, by rw [val_replicate]; exact Nat.dvd_zero _, by rw [val_replicate]; omega, ?_⟩
  rw [val_replicate, Nat.zero_add, ← Nat.pow_add]
  exact h
/-- bit i is tried. -/
theorem RtInv.try_ {a K i j b : Nat} {zs : List Nat} (h : RtInv a K (i + 1) zs) (hi : i = 32 * j + b) (hb : b < 32) (hj : j < zs.length) :
    zs[j] + 2 ^ b < 4294967296 ∧ (zs[j] ||| 2 ^ b) = zs[j] + 2 ^ b ∧ ((zs[j] + 2 ^ b) &&& (4294967295 - 2 ^ b)) = zs[j] ∧ val (zs.set j (zs[j] + 2 ^ b)) = val zs + 2 ^ i ∧ W32 (zs.set j (zs[j] + 2 ^ b)) ∧
    (a < (val zs + 2 ^ i) * (val zs + 2 ^ i) → RtInv a K i zs) ∧ ((val zs + 2 ^ i) * (val zs + 2 ^ i) ≤ a → RtInv a K i (zs.set j (zs[j] + 2 ^ b))) := by
  have hd := low_bits h.w hj hb (by have := h.dvd; rw [hi, Nat.add_assoc] at this; exact this)
  have hx := h.w.get hj
  obtain ⟨r1, r2⟩ := bit_room hx hb hd
  have hv : val (zs.set j (zs[j] + 2 ^ b)) = val zs + 2 ^ i := by
    have := val_set hj (zs[j] + 2 ^ b)
    rw [Nat.mul_add, ← pow32j, ← hi] at this
    omega
  have hw : W32 (zs.set j (zs[j] + 2 ^ b)) := fun x hx => by
    rcases List.mem_or_eq_of_mem_set hx with h' | rfl
    · exact h.w x h'
    · exact r1
  have e2 : 2 ^ (i + 1) = 2 ^ i + 2 ^ i := by rw [Nat.pow_succ]; omega
  have hdi : 2 ^ i ∣ val zs := Nat.dvd_trans (by rw [e2]; exact ⟨2, by omega⟩) h.dvd
  refine ⟨r1, or_bit hd, and_bit hx hb hd, hv, hw, fun hlt => ⟨h.w, h.len, hdi, h.lo, hlt⟩, fun hle => ⟨hw, by rw [List.length_set]; exact h.len, ?_, by rw [hv]; exact hle, ?_⟩⟩
  · rw [hv]
    exact Nat.dvd_add hdi (Nat.dvd_refl _)
  · rw [hv, Nat.add_assoc, ← e2]
    exact h.hi
theorem RtInv.done {a K : Nat} {zs : List Nat} (h : RtInv a K 0 zs) : val zs * val zs ≤ a ∧ a < (val zs + 1) * (val zs + 1) := ⟨h.lo, h.hi⟩
end Go.Proofs.YtiioodgpkdbndaaGreatDoor
namespace Go.Proofs.YtiioodgpkdbndaaGreatDoor
open Go.RowKit
attribute [local go_sem ↓] Go.wp_at_zero Go.wp_at_succ
section
variable {w w' : World} {z y : Int} {L : Nat} {s t : Bool} {A B : Option Addr} {n c m d : Nat} {xs ys : List Nat}
theorem bits_bound {xs : List Nat} (hw : W32 xs) : val xs < 2 ^ bitsN (trimL xs) ∧ bitsN (trimL xs) ≤ 32 * xs.length := by
  have hl := trimL_len xs
  by_cases h0 : 0 < (trimL xs).length
  · have hw2 : W32 (trimL xs) := by rw [trimL_take]; exact fun x hx => hw x (List.mem_of_mem_take hx)
    obtain ⟨_, _, h3, h4⟩ := bitsN_spec hw2 (Nrm.trimL xs) h0
    rw [val_trimL] at h3
    exact ⟨h3, by omega⟩
  · have e : trimL xs = [] := List.eq_nil_of_length_eq_zero (by omega)
    have hv : val xs = 0 := by rw [← val_trimL, e]; rfl
    rw [e, hv]
    exact ⟨Nat.pow_pos (by decide), by unfold bitsN; rw [dif_neg (by simp)]; omega⟩
theorem q_NormN (h : NI w z L s A n c) (hL : L ≤ 10000) : Calls Tryz.prog 15 #[.agg #[.bool s, .slice A n c]] w (RetNI z L w) := by
  obtain ⟨xs, hn, hx, hc, hcm, hi, hl⟩ := h.out
  refine (ref_Norm hn hx hc hcm (by omega)).mono fun e w' hr => ?_
  rw [hi.eq] at hr
  exact hr.ni (by omega)
theorem cmpI_le {a b : Nat} (h : a ≤ b) : cmpI a b = -1 ∨ cmpI a b = 0 := by
  unfold cmpI
  by_cases h1 : a < b
  · rw [if_pos h1]; exact .inl rfl
  · rw [if_neg h1, if_neg (by omega)]; exact .inr rfl
theorem trimRd {w : World} {g : Nat} {zs : List Nat} (h : BlkN w g zs) (hw : W32 zs) : Rd w (some ⟨g, 0, none⟩) (trimL zs) := by
  rw [trimL_take]; exact (h.rd0 hw).take _
/-- the square root, rounded down. -/
def RetRoot (z : Int) (L : Nat) (w : World) (e : Ending) (w' : World) : Prop :=
  ∃ r : Int, 0 ≤ r ∧ r * r ≤ z ∧ z < (r + 1) * (r + 1) ∧ ∃ s' A' n' c', e = .returned (.tuple #[.agg #[.bool s', .slice A' n' c'], .int .i64 0]) ∧ NI w' r (L + 1) s' A' n' c' ∧ Ext w w'
set_option maxHeartbeats 16000000 in
set_option maxRecDepth 100000 in
theorem q_SqrtI (h : NI w z L s A n c) (hL : L ≤ 50) (hz : 0 ≤ z) : Calls Tryz.prog 82 #[.agg #[.bool s, .slice A n c]] w (RetRoot z L w) := by
  have HZ := Lib.hid hz
  clear hz
  go_enter Tryz.func82, Tryz.ntmps82
  go_upto_region 1 with (fail)
  obtain ⟨W, hW, extW, bx, bz, hzz⟩ := box2 w 24 24 #[.bool s, .slice A n c] #[Value.bool false, Value.slice none 0 0]
  rw [← hW]
  clear hW
  replace h := h.ext extW
  have x0 := bx.cell 0 (.bool s) rfl
  have x1 := bx.cell 1 (.slice A n c) rfl
  go_wp2_with fail
  refine (q_NormN h (by omega)).mono ?_
  rintro e wa ⟨s1, A1, n1, c1, rfl, h1, hxa⟩
  replace bx := bx.ext hxa
  replace bz := bz.ext hxa
  replace extW := extW.trans hxa
  clear h hxa x0 x1
  have z0 := bx.cell 0 _ rfl
  have z1 := bx.cell 1 _ rfl
  have f0 := bx.frozen 0
  have f1 := bx.frozen 1
  go_upto_region 2 with (fail)
  refine at_world (fun V => Ext w V ∧ Box V w.heap.size 24 #[.bool s1, .slice A1 n1 c1] ∧ Box V (w.heap.size + 1) 24 #[Value.bool false, Value.slice none 0 0] ∧ NI V z L s1 A1 n1 c1) ?_ ?_
  · have q1 := fin_dual (s := s1) (A := A1) (n := n1) (c := c1) bx
    exact ⟨q1.2.2.1 _ extW (by omega), q1.1, q1.2.2.2 _ _ _ (by omega) bz, q1.2.1 _ _ _ _ _ _ h1⟩
  clear extW bx bz h1 z0 z1 f0 f1
  rintro V ⟨extW, bx, bz, h1⟩
  have hs1 : s1 = false := by
    have := h1.neg
    have hz := HZ.out
    rw [this]
    exact decide_eq_false (by omega)
  subst hs1
  have x0 := bx.cell 0 (.bool false) rfl
  have x1 := bx.cell 1 (.slice A1 n1 c1) rfl
  obtain ⟨xs, k1, k2, k3, k4, k5, k6⟩ := h1.out
  go_wp2_with fail
  refine (ref_Bits k1 k2 k3 k4 (by omega)).mono ?_
  rintro e V2 ⟨rfl, hxb⟩
  obtain ⟨b1, b2⟩ := bits_bound k2.1
  generalize bitsN (trimL xs) = bt at b1 b2 ⊢
  obtain ⟨nn, hnn⟩ : ∃ nn, (bt + 1) / 2 = nn := ⟨_, rfl⟩
  have hni : ((bt : Int) + 1) / 2 = (nn : Int) := by omega
  have hbt : bt ≤ 1600 := by omega
  have ha : val xs < 2 ^ (nn + nn) := Nat.lt_of_lt_of_le b1 (Nat.pow_le_pow_right (by decide) (by omega))
  have hnn1 : nn ≤ 801 := by omega
  obtain ⟨K, hK⟩ : ∃ K, nn / 32 = K := ⟨_, rfl⟩
  have hq : (nn : Int) / 32 = (K : Int) := by omega
  have hK1 : nn ≤ 32 * K + 31 := by omega
  have hK2 : K ≤ 30 := by omega
  have HNI := Lib.hid hni
  have HA := Lib.hid ha
  subst k1
  have HI := Lib.hid k5
  have hxs : xs.length ≤ maxLen := by omega
  clear b1 b2 hnn hni ha hK k5
  go_upto_region 5 with (fail)
  rw [HNI.out]
  have hmk : ∀ W : World, (Instr.makeSlice 22 (.int .i64 ((K : Int) + 1)) (.int .i64 ((K : Int) + 1))).run Tryz.prog W = .ok (.slice (some ⟨W.heap.size, 0, none⟩) (K + 1) (K + 1)) (W.alloc (.cells (madeCells #[.int .u32 0] (K + 1)) 71)) := fun W => mk_words1 22 Tryz.underlying22 K (by omega) W
  go_upto_region 6 with (fail)
  refine at_world (fun U => Ext V2 U ∧ BlkN U V2.heap.size (List.replicate (K + 1) 0)) ⟨(Ext.refl V2).alloc _, BlkN.new V2 (K + 1)⟩ ?_
  replace bx := bx.ext hxb
  replace bz := bz.ext hxb
  replace k2 := k2.ext hxb
  replace extW := extW.trans hxb
  have hbl := bz.lt
  obtain ⟨g, hg⟩ : ∃ g, V2.heap.size = g := ⟨_, rfl⟩
  rw [hg]
  have hgV : V2.heap.size ≤ g := by omega
  have hg0 : w.heap.size + 1 < g := by omega
  rintro U ⟨EU, hblk⟩
  clear hxb h1 hmk x0 x1 hg hbl
  have hst := RtInv.start (K := K + 1) HA.out
  have HST := Lib.hid hst
  clear hst
  go_wp2_with fail
  go_loopw [6] (fun i wr => ∃ (k : Nat) (zs : List Nat), k ≤ nn ∧ i = .int .i64 ((k : Int) - 1) ∧ RtInv (val xs) (K + 1) k zs ∧ BlkN wr g zs ∧ Ext V2 wr) (fun i _ => (intOf i + 1).toNat)
  case atStart => exact ⟨nn, _, Nat.le_refl _, rfl, HST.out, hblk, EU⟩
  case round =>
    clear hblk EU
    obtain ⟨k, zs, hk, rfl, hinv, hblkr, hext⟩ := hrel
    rcases k with _ | i
    · have Hd := Lib.hid hinv.done
      have Hw := Lib.hid hinv.w
      have Hl := Lib.hid hinv.len
      rw [show (((0 : Nat) : Int) - 1) = -1 from rfl]
      clear hinv
      go_wp2_with fail
      refine (ref_signed (s := false) Hl.out (hblkr.rd0 Hw.out) (Nat.le_refl _) (by unfold maxLen; omega)).mono ?_
      intro e ws hri
      have hv0 : ival false zs = (val zs : Int) := rfl
      rw [hv0] at hri
      obtain ⟨s5, A5, n5, c5, rfl, h5, hxs5⟩ := hri.ni (L' := zs.length) (Nat.le_refl _)
      have hE := hext.trans hxs5
      have z0 := (bz.ext hE).cell 0 _ rfl
      have z1 := (bz.ext hE).cell 1 _ rfl
      have f0 := (bz.ext hE).frozen 0
      have f1 := (bz.ext hE).frozen 1
      go_wp2_with fail
      obtain ⟨b1, b2, b3, b4⟩ := fin_dual (s := s5) (A := A5) (n := n5) (c := c5) (bz.ext hE)
      have r0 := b1.cell 0 (.bool s5) rfl
      have r1 := b1.cell 1 (.slice A5 n5 c5) rfl
      unfold set2 at r0 r1
      have hzv : (val xs : Int) = z := HI.out.eq
      obtain ⟨d1, d2⟩ := Hd.out
      have d1' : ((val zs * val zs : Nat) : Int) ≤ z := by rw [← hzv]; omega
      have d2' : z < (((val zs + 1) * (val zs + 1) : Nat) : Int) := by rw [← hzv]; omega
      have hle : val zs ≤ val xs := by
        rcases Nat.eq_zero_or_pos (val zs) with h0 | h0
        · omega
        · exact Nat.le_trans (Nat.le_mul_of_pos_left _ h0) d1
      have hlt : ((val zs : Nat) : Int).natAbs < 4294967296 ^ L := by
        rw [Int.natAbs_natCast]
        have hx1 := val_lt k2.1
        have hx2 : 4294967296 ^ xs.length ≤ 4294967296 ^ L := Nat.pow_le_pow_right (by decide) k6
        omega
      refine bodyPost_ret (v := .tuple #[.agg #[.bool s5, .slice A5 n5 c5], .int .i64 0]) (by simp [results, Tryz.results82, go_sem, r0, r1]) rfl ⟨(val zs : Int), by omega, by rw [← Int.natCast_mul]; exact d1', by have := d2'; rwa [Int.natCast_mul, Int.natCast_add] at this, s5, A5, n5, c5, rfl, (b2 _ _ _ _ _ _ (h5.tight' hlt)).le (by omega), b3 _ (extW.trans hE) (by omega)⟩
    · rw [show (((i + 1 : Nat) : Int) - 1) = (i : Int) by omega]
      obtain ⟨j, hj⟩ : ∃ j, i / 32 = j := ⟨_, rfl⟩
      obtain ⟨b, hb⟩ : ∃ b, i % 32 = b := ⟨_, rfl⟩
      have hji : (i : Int) / 32 = (j : Int) := by omega
      have hbi : (i : Int) % 32 = (b : Int) := by omega
      have hzl : zs.length = K + 1 := hinv.len
      have hjz : j < zs.length := by omega
      have hjK : j < K + 1 := by omega
      have hb32 : b < 32 := by omega
      obtain ⟨y1, y2, y3, y4, y5, y6, y7⟩ := hinv.try_ (show i = 32 * j + b by omega) hb32 hjz
      have hc0 := hblkr.cell hjz
      have hf0 := hblkr.frozen j
      have hzj := hinv.w.get hjz
      have hp32 : (2 : Int) ^ b % 4294967296 = ((2 ^ b : Nat) : Int) := by
        have : 2 ^ b < 4294967296 := by omega
        have hP : (2 : Int) ^ b = ((2 ^ b : Nat) : Int) := by simp
        rw [hP]
        generalize (2 ^ b : Nat) = p at this ⊢
        omega
      have hor : bits .or .u32 (zs[j] : Int) ((2 : Int) ^ b % 4294967296) = ((zs[j] + 2 ^ b : Nat) : Int) := by
        rw [hp32, u32_or_nat _ _ hzj (by omega), y2]
      have hnot : bits .andNot .u32 ((zs[j] + 2 ^ b : Nat) : Int) ((2 : Int) ^ b % 4294967296) = ((zs[j] : Nat) : Int) := by
        rw [hp32, u32_andNot_nat _ _ y1 (by omega), y3]
      have Hzl := Lib.hid hzl
      have HOR := Lib.hid hor
      have HNOT := Lib.hid hnot
      have HVAL := Lib.hid y4
      obtain ⟨zs2, hzs2⟩ : ∃ zs2, zs.set j (zs[j] + 2 ^ b) = zs2 := ⟨_, rfl⟩
      have hz2 : zs2.length = K + 1 := by rw [← hzs2, List.length_set]; exact hzl
      have hrest : zs2.set j zs[j] = zs := by rw [← hzs2, List.set_set, List.set_getElem_self]
      have hc2 : ∀ h : j < zs2.length, zs2[j] = zs[j] + 2 ^ b := by intro h; subst hzs2; exact List.getElem_set_self _
      rw [hzs2] at y5 y7 HVAL
      have Hw2 := Lib.hid y5
      have Hz2 := Lib.hid hz2
      have HZS := Lib.hid hzs2
      have HRS := Lib.hid hrest
      have HC2 := Lib.hid hc2
      have H6 := Lib.hid y6
      have H7 := Lib.hid y7
      clear hj hb hzl hinv y1 y2 y3 y4 y5 y6 y7 hzj hp32 hor hnot hzs2 hz2 hrest hc2
      go_upto_region 9 with (fail)
      go_region
      refine at_exit (fun X => BlkN X g zs2 ∧ Ext V2 X) ⟨by rw [← HZS.out]; exact (hblkr.set j HOR.out).drewN 1, (hext.setCell hgV _).drew⟩ ?_
      clear hblkr hext hc0 hf0
      rintro X ⟨hbx, hext⟩
      have bxX := bx.ext hext
      have k2X := k2.ext hext
      go_upto_region 10 with (fail)
      by_cases hbig : val xs < val zs2 * val zs2
      · have HCMP := Lib.hid (show cmpI (val zs2 * val zs2) (val xs) = 1 by unfold cmpI; rw [if_neg (by omega), if_pos (by omega)])
        have HB := Lib.hid hbig
        clear hbig
        have ES0 := Ext.refl X
        refine wp_region_held_drew (S := Ext X) (by kernel_rfl) ES0.drew (fun ES => ?_)
        clear ES0
        refine Late.start0 (fun _ _ _ _ _ => ⟨fun h => h, fun h => h⟩) ES (fun hAl hQ => ?_)
        refine Late.take (i := 0) (d := some 39) (v := ?v0_29a) rfl rfl (by kernel_rfl) (by kernel_rfl) (by kernel_rfl) (by kernel_rfl) hQ (Or.inl ⟨by rfl, ?y0_29a⟩) ?r0_29a
        case y0_29a =>
          intro w' hSw
          have k00 := (bxX.ext hSw).c2
          go_simp
          try with_reducible rfl
        try simp only [Act.put]
        try simp only [List.setIfInBounds_toArray]
        try simp only [List.set_cons_succ]
        try simp only [List.set_cons_zero]
        refine Late.take (i := 2) (d := some 41) (v := ?v2_30a) rfl rfl (by kernel_rfl) (by kernel_rfl) (by kernel_rfl) (by kernel_rfl) hQ (Or.inl ⟨by rfl, ?y2_30a⟩) ?r2_30a
        case y2_30a =>
          intro w' hSw
          have k00 := (bxX.ext hSw).c2
          go_simp
          try with_reducible rfl
        try simp only [Act.put]
        try simp only [List.setIfInBounds_toArray]
        try simp only [List.set_cons_succ]
        try simp only [List.set_cons_zero]
        refine Late.take (i := 5) (d := some 44) (v := ?v5_31a) rfl rfl (by kernel_rfl) (by kernel_rfl) (by kernel_rfl) (by kernel_rfl) hQ (Or.inl ⟨by rfl, ?y5_31a⟩) ?r5_31a
        case y5_31a =>
          intro w' hSw
          have k00 := (bxX.ext hSw).c2
          go_simp
          try with_reducible rfl
        try simp only [Act.put]
        try simp only [List.setIfInBounds_toArray]
        try simp only [List.set_cons_succ]
        try simp only [List.set_cons_zero]
        refine Late.take (i := 6) (d := some 45) (v := ?v6_32a) rfl rfl (by kernel_rfl) (by kernel_rfl) (by kernel_rfl) (by kernel_rfl) hQ (Or.inl ⟨by rfl, ?y6_32a⟩) ?r6_32a
        case y6_32a =>
          intro w' hSw
          have k00 := (bxX.ext hSw).c2
          go_simp
          try with_reducible rfl
        try simp only [Act.put]
        try simp only [List.setIfInBounds_toArray]
        try simp only [List.set_cons_succ]
        try simp only [List.set_cons_zero]
        refine Late.call (i := 1) rfl (by kernel_rfl) hAl (by kernel_rfl) (by kernel_rfl) (by kernel_rfl) hQ (fun w1 e1 E1 K hK => ?_)
        go_simp
        (go_at_call 79; refine (ref_trimN Hz2.out ((hbx.ext E1).rd0 Hw2.out) (Nat.le_refl _) (by unfold maxLen; omega)).mono ?_; rintro e wk1 ⟨rfl, hw1⟩; subst hw1; have hx1 := Ext.refl w1)
        refine hK.out _ _ hx1 ?_
        clear hK K
        try simp only [Act.put]
        try simp only [List.setIfInBounds_toArray]
        try simp only [List.set_cons_succ]
        try simp only [List.set_cons_zero]
        refine Late.call (i := 3) rfl (by kernel_rfl) hAl (by kernel_rfl) (by kernel_rfl) (by kernel_rfl) hQ (fun w3 e3 E3 K hK => ?_)
        go_simp
        (go_at_call 79; refine (ref_trimN Hz2.out ((hbx.ext E3).rd0 Hw2.out) (Nat.le_refl _) (by unfold maxLen; omega)).mono ?_; rintro e wk3 ⟨rfl, hw3⟩; subst hw3; have hx3 := Ext.refl w3)
        refine hK.out _ _ hx3 ?_
        clear hK K
        try simp only [Act.put]
        try simp only [List.setIfInBounds_toArray]
        try simp only [List.set_cons_succ]
        try simp only [List.set_cons_zero]
        refine Late.call (i := 4) rfl (by kernel_rfl) hAl (by kernel_rfl) (by kernel_rfl) (by kernel_rfl) hQ (fun w4 e4 E4 K hK => ?_)
        go_simp
        (go_at_call 106; refine (ref_times1 (xs := trimL zs2) (ys := trimL zs2) rfl rfl (trimRd (hbx.ext E4) Hw2.out) (trimRd (hbx.ext E4) Hw2.out) (by have := trimL_len zs2; have := Hz2.out; omega)).mono ?_; rintro e wk4 ⟨A5, c5, us, rfl, ho5, hc5, hm5, ⟨hv5, hn5, hl5⟩, hx4⟩)
        refine hK.out _ _ hx4 ?_
        clear hK K
        try simp only [Act.put]
        try simp only [List.setIfInBounds_toArray]
        try simp only [List.set_cons_succ]
        try simp only [List.set_cons_zero]
        refine Late.call (i := 7) rfl (by kernel_rfl) hAl (by kernel_rfl) (by kernel_rfl) (by kernel_rfl) hQ (fun w7 e7 E7 K hK => ?_)
        go_simp
        (go_at_call 104; refine (ref_compare _ _ _ _ us xs _ (ho5.rd.ext e7) (k2X.ext E7) (by have := trimL_len zs2; have := Hz2.out; unfold maxLen; omega) hxs).mono ?_; rintro e wk7 ⟨rfl, hx7⟩; rw [cmpL_nrm ho5.1 k2X.1 hn5 HI.out.nrm, hv5, val_trimL, HCMP.out])
        refine hK.out _ _ hx7 ?_
        clear hK K
        try simp only [Act.put]
        try simp only [List.setIfInBounds_toArray]
        try simp only [List.set_cons_succ]
        try simp only [List.set_cons_zero]
        refine Late.take (i := 8) (d := some 47) (v := ?v8_33a) rfl rfl (by kernel_rfl) (by kernel_rfl) (by kernel_rfl) (by kernel_rfl) hQ (Or.inl ⟨by rfl, ?y8_33a⟩) ?r8_33a
        case y8_33a =>
          intro w' hSw
          have k00 := (bxX.ext hSw).c2
          go_simp
          try with_reducible rfl
        try simp only [Act.put]
        try simp only [List.setIfInBounds_toArray]
        try simp only [List.set_cons_succ]
        try simp only [List.set_cons_zero]
        refine Late.done0 (by kernel_rfl) (fun wz ez Ez => ?_)
        clear hAl hQ ES
        have hbz := hbx.ext Ez
        have hjz2 : j < zs2.length := by rw [Hz2.out]; exact hjK
        have hc0 := hbz.cell hjz2
        rw [HC2.out hjz2] at hc0
        have hf0 := hbz.frozen j
        go_upto_region 11 with (fail)
        go_region
        refine at_exit (fun Y => BlkN Y g zs ∧ Ext V2 Y) ⟨by have h := (hbz.set j HNOT.out).drewN 1; rw [HRS.out] at h; exact h, ((hext.trans Ez).setCell hgV _).drew⟩ ?_
        clear hbz hbx hext hc0 hf0 Ez ez
        rintro Y ⟨hbY, hext⟩
        go_wp2_with fail
        go_roundw
        case rel => exact ⟨i, zs, by omega, rfl, H6.out (by have h1 := HB.out; have h2 := HVAL.out; rw [h2] at h1; exact h1), hbY, hext⟩
        case measure => simp [intOf]
      · have HCMP0 := Lib.hid (show cmpI (val zs2 * val zs2) (val xs) = -1 ∨ cmpI (val zs2 * val zs2) (val xs) = 0 from cmpI_le (by omega))
        have HB := Lib.hid hbig
        clear hbig
        rcases HCMP0.out with hcm0 | hcm0
        · have HCMP := Lib.hid hcm0
          clear hcm0
          have ES0 := Ext.refl X
          refine wp_region_held_drew (S := Ext X) (by kernel_rfl) ES0.drew (fun ES => ?_)
          clear ES0
          refine Late.start0 (fun _ _ _ _ _ => ⟨fun h => h, fun h => h⟩) ES (fun hAl hQ => ?_)
          refine Late.take (i := 0) (d := some 39) (v := ?v0_29b) rfl rfl (by kernel_rfl) (by kernel_rfl) (by kernel_rfl) (by kernel_rfl) hQ (Or.inl ⟨by rfl, ?y0_29b⟩) ?r0_29b
          case y0_29b =>
            intro w' hSw
            have k00 := (bxX.ext hSw).c2
            go_simp
            try with_reducible rfl
          try simp only [Act.put]
          try simp only [List.setIfInBounds_toArray]
          try simp only [List.set_cons_succ]
          try simp only [List.set_cons_zero]
          refine Late.take (i := 2) (d := some 41) (v := ?v2_30b) rfl rfl (by kernel_rfl) (by kernel_rfl) (by kernel_rfl) (by kernel_rfl) hQ (Or.inl ⟨by rfl, ?y2_30b⟩) ?r2_30b
          case y2_30b =>
            intro w' hSw
            have k00 := (bxX.ext hSw).c2
            go_simp
            try with_reducible rfl
          try simp only [Act.put]
          try simp only [List.setIfInBounds_toArray]
          try simp only [List.set_cons_succ]
          try simp only [List.set_cons_zero]
          refine Late.take (i := 5) (d := some 44) (v := ?v5_31b) rfl rfl (by kernel_rfl) (by kernel_rfl) (by kernel_rfl) (by kernel_rfl) hQ (Or.inl ⟨by rfl, ?y5_31b⟩) ?r5_31b
          case y5_31b =>
            intro w' hSw
            have k00 := (bxX.ext hSw).c2
            go_simp
            try with_reducible rfl
          try simp only [Act.put]
          try simp only [List.setIfInBounds_toArray]
          try simp only [List.set_cons_succ]
          try simp only [List.set_cons_zero]
          refine Late.take (i := 6) (d := some 45) (v := ?v6_32b) rfl rfl (by kernel_rfl) (by kernel_rfl) (by kernel_rfl) (by kernel_rfl) hQ (Or.inl ⟨by rfl, ?y6_32b⟩) ?r6_32b
          case y6_32b =>
            intro w' hSw
            have k00 := (bxX.ext hSw).c2
            go_simp
            try with_reducible rfl
          try simp only [Act.put]
          try simp only [List.setIfInBounds_toArray]
          try simp only [List.set_cons_succ]
          try simp only [List.set_cons_zero]
          refine Late.call (i := 1) rfl (by kernel_rfl) hAl (by kernel_rfl) (by kernel_rfl) (by kernel_rfl) hQ (fun w1 e1 E1 K hK => ?_)
          go_simp
          (go_at_call 79; refine (ref_trimN Hz2.out ((hbx.ext E1).rd0 Hw2.out) (Nat.le_refl _) (by unfold maxLen; omega)).mono ?_; rintro e wk1 ⟨rfl, hw1⟩; subst hw1; have hx1 := Ext.refl w1)
          refine hK.out _ _ hx1 ?_
          clear hK K
          try simp only [Act.put]
          try simp only [List.setIfInBounds_toArray]
          try simp only [List.set_cons_succ]
          try simp only [List.set_cons_zero]
          refine Late.call (i := 3) rfl (by kernel_rfl) hAl (by kernel_rfl) (by kernel_rfl) (by kernel_rfl) hQ (fun w3 e3 E3 K hK => ?_)
          go_simp
          (go_at_call 79; refine (ref_trimN Hz2.out ((hbx.ext E3).rd0 Hw2.out) (Nat.le_refl _) (by unfold maxLen; omega)).mono ?_; rintro e wk3 ⟨rfl, hw3⟩; subst hw3; have hx3 := Ext.refl w3)
          refine hK.out _ _ hx3 ?_
          clear hK K
          try simp only [Act.put]
          try simp only [List.setIfInBounds_toArray]
          try simp only [List.set_cons_succ]
          try simp only [List.set_cons_zero]
          refine Late.call (i := 4) rfl (by kernel_rfl) hAl (by kernel_rfl) (by kernel_rfl) (by kernel_rfl) hQ (fun w4 e4 E4 K hK => ?_)
          go_simp
          (go_at_call 106; refine (ref_times1 (xs := trimL zs2) (ys := trimL zs2) rfl rfl (trimRd (hbx.ext E4) Hw2.out) (trimRd (hbx.ext E4) Hw2.out) (by have := trimL_len zs2; have := Hz2.out; omega)).mono ?_; rintro e wk4 ⟨A5, c5, us, rfl, ho5, hc5, hm5, ⟨hv5, hn5, hl5⟩, hx4⟩)
          refine hK.out _ _ hx4 ?_
          clear hK K
          try simp only [Act.put]
          try simp only [List.setIfInBounds_toArray]
          try simp only [List.set_cons_succ]
          try simp only [List.set_cons_zero]
          refine Late.call (i := 7) rfl (by kernel_rfl) hAl (by kernel_rfl) (by kernel_rfl) (by kernel_rfl) hQ (fun w7 e7 E7 K hK => ?_)
          go_simp
          (go_at_call 104; refine (ref_compare _ _ _ _ us xs _ (ho5.rd.ext e7) (k2X.ext E7) (by have := trimL_len zs2; have := Hz2.out; unfold maxLen; omega) hxs).mono ?_; rintro e wk7 ⟨rfl, hx7⟩; rw [cmpL_nrm ho5.1 k2X.1 hn5 HI.out.nrm, hv5, val_trimL, HCMP.out])
          refine hK.out _ _ hx7 ?_
          clear hK K
          try simp only [Act.put]
          try simp only [List.setIfInBounds_toArray]
          try simp only [List.set_cons_succ]
          try simp only [List.set_cons_zero]
          refine Late.take (i := 8) (d := some 47) (v := ?v8_33b) rfl rfl (by kernel_rfl) (by kernel_rfl) (by kernel_rfl) (by kernel_rfl) hQ (Or.inl ⟨by rfl, ?y8_33b⟩) ?r8_33b
          case y8_33b =>
            intro w' hSw
            have k00 := (bxX.ext hSw).c2
            go_simp
            try with_reducible rfl
          try simp only [Act.put]
          try simp only [List.setIfInBounds_toArray]
          try simp only [List.set_cons_succ]
          try simp only [List.set_cons_zero]
          refine Late.done0 (by kernel_rfl) (fun wz ez Ez => ?_)
          clear hAl hQ ES
          go_wp2_with fail
          go_roundw
          case rel => exact ⟨i, zs2, by omega, rfl, H7.out (by have h1 := HB.out; have h2 := HVAL.out; rw [h2] at h1; omega), hbx.ext Ez, hext.trans Ez⟩
          case measure => simp [intOf]
        · have HCMP := Lib.hid hcm0
          clear hcm0
          have ES0 := Ext.refl X
          refine wp_region_held_drew (S := Ext X) (by kernel_rfl) ES0.drew (fun ES => ?_)
          clear ES0
          refine Late.start0 (fun _ _ _ _ _ => ⟨fun h => h, fun h => h⟩) ES (fun hAl hQ => ?_)
          refine Late.take (i := 0) (d := some 39) (v := ?v0_29c) rfl rfl (by kernel_rfl) (by kernel_rfl) (by kernel_rfl) (by kernel_rfl) hQ (Or.inl ⟨by rfl, ?y0_29c⟩) ?r0_29c
          case y0_29c =>
            intro w' hSw
            have k00 := (bxX.ext hSw).c2
            go_simp
            try with_reducible rfl
          try simp only [Act.put]
          try simp only [List.setIfInBounds_toArray]
          try simp only [List.set_cons_succ]
          try simp only [List.set_cons_zero]
          refine Late.take (i := 2) (d := some 41) (v := ?v2_30c) rfl rfl (by kernel_rfl) (by kernel_rfl) (by kernel_rfl) (by kernel_rfl) hQ (Or.inl ⟨by rfl, ?y2_30c⟩) ?r2_30c
          case y2_30c =>
            intro w' hSw
            have k00 := (bxX.ext hSw).c2
            go_simp
            try with_reducible rfl
          try simp only [Act.put]
          try simp only [List.setIfInBounds_toArray]
          try simp only [List.set_cons_succ]
          try simp only [List.set_cons_zero]
          refine Late.take (i := 5) (d := some 44) (v := ?v5_31c) rfl rfl (by kernel_rfl) (by kernel_rfl) (by kernel_rfl) (by kernel_rfl) hQ (Or.inl ⟨by rfl, ?y5_31c⟩) ?r5_31c
          case y5_31c =>
            intro w' hSw
            have k00 := (bxX.ext hSw).c2
            go_simp
            try with_reducible rfl
          try simp only [Act.put]
          try simp only [List.setIfInBounds_toArray]
          try simp only [List.set_cons_succ]
          try simp only [List.set_cons_zero]
          refine Late.take (i := 6) (d := some 45) (v := ?v6_32c) rfl rfl (by kernel_rfl) (by kernel_rfl) (by kernel_rfl) (by kernel_rfl) hQ (Or.inl ⟨by rfl, ?y6_32c⟩) ?r6_32c
          case y6_32c =>
            intro w' hSw
            have k00 := (bxX.ext hSw).c2
            go_simp
            try with_reducible rfl
          try simp only [Act.put]
          try simp only [List.setIfInBounds_toArray]
          try simp only [List.set_cons_succ]
          try simp only [List.set_cons_zero]
          refine Late.call (i := 1) rfl (by kernel_rfl) hAl (by kernel_rfl) (by kernel_rfl) (by kernel_rfl) hQ (fun w1 e1 E1 K hK => ?_)
          go_simp
          (go_at_call 79; refine (ref_trimN Hz2.out ((hbx.ext E1).rd0 Hw2.out) (Nat.le_refl _) (by unfold maxLen; omega)).mono ?_; rintro e wk1 ⟨rfl, hw1⟩; subst hw1; have hx1 := Ext.refl w1)
          refine hK.out _ _ hx1 ?_
          clear hK K
          try simp only [Act.put]
          try simp only [List.setIfInBounds_toArray]
          try simp only [List.set_cons_succ]
          try simp only [List.set_cons_zero]
          refine Late.call (i := 3) rfl (by kernel_rfl) hAl (by kernel_rfl) (by kernel_rfl) (by kernel_rfl) hQ (fun w3 e3 E3 K hK => ?_)
          go_simp
          (go_at_call 79; refine (ref_trimN Hz2.out ((hbx.ext E3).rd0 Hw2.out) (Nat.le_refl _) (by unfold maxLen; omega)).mono ?_; rintro e wk3 ⟨rfl, hw3⟩; subst hw3; have hx3 := Ext.refl w3)
          refine hK.out _ _ hx3 ?_
          clear hK K
          try simp only [Act.put]
          try simp only [List.setIfInBounds_toArray]
          try simp only [List.set_cons_succ]
          try simp only [List.set_cons_zero]
          refine Late.call (i := 4) rfl (by kernel_rfl) hAl (by kernel_rfl) (by kernel_rfl) (by kernel_rfl) hQ (fun w4 e4 E4 K hK => ?_)
          go_simp
          (go_at_call 106; refine (ref_times1 (xs := trimL zs2) (ys := trimL zs2) rfl rfl (trimRd (hbx.ext E4) Hw2.out) (trimRd (hbx.ext E4) Hw2.out) (by have := trimL_len zs2; have := Hz2.out; omega)).mono ?_; rintro e wk4 ⟨A5, c5, us, rfl, ho5, hc5, hm5, ⟨hv5, hn5, hl5⟩, hx4⟩)
          refine hK.out _ _ hx4 ?_
          clear hK K
          try simp only [Act.put]
          try simp only [List.setIfInBounds_toArray]
          try simp only [List.set_cons_succ]
          try simp only [List.set_cons_zero]
          refine Late.call (i := 7) rfl (by kernel_rfl) hAl (by kernel_rfl) (by kernel_rfl) (by kernel_rfl) hQ (fun w7 e7 E7 K hK => ?_)
          go_simp
          (go_at_call 104; refine (ref_compare _ _ _ _ us xs _ (ho5.rd.ext e7) (k2X.ext E7) (by have := trimL_len zs2; have := Hz2.out; unfold maxLen; omega) hxs).mono ?_; rintro e wk7 ⟨rfl, hx7⟩; rw [cmpL_nrm ho5.1 k2X.1 hn5 HI.out.nrm, hv5, val_trimL, HCMP.out])
          refine hK.out _ _ hx7 ?_
          clear hK K
          try simp only [Act.put]
          try simp only [List.setIfInBounds_toArray]
          try simp only [List.set_cons_succ]
          try simp only [List.set_cons_zero]
          refine Late.take (i := 8) (d := some 47) (v := ?v8_33c) rfl rfl (by kernel_rfl) (by kernel_rfl) (by kernel_rfl) (by kernel_rfl) hQ (Or.inl ⟨by rfl, ?y8_33c⟩) ?r8_33c
          case y8_33c =>
            intro w' hSw
            have k00 := (bxX.ext hSw).c2
            go_simp
            try with_reducible rfl
          try simp only [Act.put]
          try simp only [List.setIfInBounds_toArray]
          try simp only [List.set_cons_succ]
          try simp only [List.set_cons_zero]
          refine Late.done0 (by kernel_rfl) (fun wz ez Ez => ?_)
          clear hAl hQ ES
          go_wp2_with fail
          go_roundw
          case rel => exact ⟨i, zs2, by omega, rfl, H7.out (by have h1 := HB.out; have h2 := HVAL.out; rw [h2] at h1; omega), hbx.ext Ez, hext.trans Ez⟩
          case measure => simp [intOf]
end
end Go.Proofs.YtiioodgpkdbndaaGreatDoor
namespace Go.Proofs.YtiioodgpkdbndaaGreatDoor
open Go.RowKit
attribute [local go_sem ↓] Go.wp_at_zero Go.wp_at_succ
section
variable {w w' : World} {q p r : Rat} {L : Nat} {s t s' t' u u' : Bool} {A B A' B' C D : Option Addr} {n c m d n' c' m' d' l e0 l' e' : Nat} {xs ys xs' ys' zs zs' : List Nat}
variable {z y : Int} {M : Nat}
set_option maxHeartbeats 2000000 in
theorem q_SameInt_ne (h : NI w z L s A n c) (k : NI w y M t B m d) (hne : z ≠ y) : Calls Tryz.prog 42 #[.agg #[.bool s, .slice A n c], .agg #[.bool t, .slice B m d]] w fun e w' => e = .returned (.bool false) ∧ Ext w w' := by
  obtain ⟨xs, hn, hx, hc, hcm, hi, hl⟩ := h.out
  obtain ⟨ys, hm, hy, hd, hdm, hj, hk⟩ := k.out
  have hN9 : n ≤ 9223372036854775807 := by unfold maxLen at hcm; omega
  by_cases hst : s = t
  · by_cases hnm : n = m
    · subst hst
      subst hnm
      have hxy : xs ≠ ys := fun e => hne (by rw [← hi.eq, ← hj.eq, e])
      have hex : ∃ k, ∃ hk : k < n, xs[k]'(by omega) ≠ ys[k]'(by omega) := by
        refine Classical.byContradiction fun hno => hxy (List.ext_getElem (by omega) fun k h1 h2 => ?_)
        exact Classical.byContradiction fun hn' => hno ⟨k, by omega, hn'⟩
      obtain ⟨k0, hk0, hn0⟩ := hex
      obtain ⟨f, hf, hf1, hf2⟩ := first_of (P := fun k => ∃ hk : k < n, xs[k]'(by omega) ≠ ys[k]'(by omega)) (k0 + 1) k0 (by omega) ⟨hk0, hn0⟩
      obtain ⟨hfn, hfd⟩ := hf1
      have HE := Lib.hid (fun j (hjf : j < f) (hjx : j < xs.length) (hjy : j < ys.length) => show xs[j] = ys[j] from Classical.byContradiction fun hn' => hf2 j hjf ⟨by omega, hn'⟩)
      have HF := Lib.hid (fun (h1 : f < xs.length) (h2 : f < ys.length) => show xs[f] ≠ ys[f] from hfd)
      have Hn := Lib.hid hn
      have Hm := Lib.hid hm
      clear h k hi hj hl hk hn hm hne hxy hk0 hn0 hf2 hfd
      go_enter Tryz.func42, Tryz.ntmps42
      go_upto_region 1 with (fail)
      obtain ⟨W, hW, extW, bx, by_, hz⟩ := box2 w 24 24 #[.bool s, .slice A n c] #[.bool s, .slice B n d]
      rw [← hW]
      clear hW
      replace hx := hx.ext extW
      replace hy := hy.ext extW
      have x0 := bx.cell 0 (.bool s) rfl
      have x1 := bx.cell 1 (.slice A n c) rfl
      have y0 := by_.cell 0 (.bool s) rfl
      have y1 := by_.cell 1 (.slice B n d) rfl
      have hss : (s != s) = false := by simp
      have hnn : ((n : Int) != (n : Int)) = false := by simp
      go_wp2
      clear x0 x1 y0 y1 hss hnn
      go_loopw [5] (fun i V => ∃ k : Nat, i = .int .i64 (k : Int) ∧ k ≤ f ∧ Ext W V) (fun i _ => f - (intOf i).toNat)
      case atStart => exact ⟨0, rfl, by omega, Ext.refl _⟩
      case round =>
        obtain ⟨k, rfl, hk, hext⟩ := hrel
        have x1 := (bx.ext hext).cell 1 (.slice A n c) rfl
        have y1 := (by_.ext hext).cell 1 (.slice B n d) rfl
        have hlx : k < xs.length := by rw [Hn.out]; omega
        have hly : k < ys.length := by rw [Hm.out]; omega
        obtain ⟨b1, o1, rfl, hb1, hc1⟩ := (hx.ext hext).at_ hlx
        obtain ⟨b2, o2, rfl, hb2, hc2⟩ := (hy.ext hext).at_ hly
        have i1 : (k : Int) < (n : Int) := by omega
        by_cases hlt : k < f
        · have heq := HE.out k hlt hlx hly
          generalize xs[k] = v at hc1 heq
          subst heq
          have hne : ((ys[k] : Int) != (ys[k] : Int)) = false := by simp
          go_upto_region 6 with (fail)
          go_quiet (fail)
          go_wp2_with fail
          go_roundw
          case rel => exact ⟨k + 1, by go_num, by omega, hext.drewN _⟩
          case measure => simp [intOf]; omega
        · obtain rfl : k = f := by omega
          have hfd := HF.out hlx hly
          generalize xs[k] = v at hc1 hfd
          generalize ys[k] = u at hc2 hfd
          have hne : ((v : Int) != (u : Int)) = true := by rw [bne_iff_ne]; omega
          clear hfd
          go_upto_region 6 with (fail)
          go_quiet (fail)
          go_wp2_with fail
          go_ret
          exact ⟨rfl, extW.trans (hext.drewN _)⟩
    · subst hst
      have hss : (s != s) = false := by simp
      have hnn : ((n : Int) != (m : Int)) = true := by rw [bne_iff_ne]; omega
      go_enter Tryz.func42, Tryz.ntmps42
      go_upto_region 1 with (fail)
      obtain ⟨W, hW, extW, bx, by_, hz⟩ := box2 w 24 24 #[.bool s, .slice A n c] #[.bool s, .slice B m d]
      rw [← hW]
      clear hW
      have x0 := bx.cell 0 (.bool s) rfl
      have x1 := bx.cell 1 (.slice A n c) rfl
      have y0 := by_.cell 0 (.bool s) rfl
      have y1 := by_.cell 1 (.slice B m d) rfl
      go_wp2_with fail
      go_ret
      exact ⟨rfl, extW⟩
  · have hss : (s != t) = true := by cases s <;> cases t <;> simp_all
    go_enter Tryz.func42, Tryz.ntmps42
    go_upto_region 1 with (fail)
    obtain ⟨W, hW, extW, bx, by_, hz⟩ := box2 w 24 24 #[.bool s, .slice A n c] #[.bool t, .slice B m d]
    rw [← hW]
    clear hW
    have x0 := bx.cell 0 (.bool s) rfl
    have x1 := bx.cell 1 (.slice A n c) rfl
    have y0 := by_.cell 0 (.bool t) rfl
    have y1 := by_.cell 1 (.slice B m d) rfl
    go_wp2_with fail
    go_ret
    exact ⟨rfl, extW⟩
set_option maxHeartbeats 2000000 in
theorem q_Same_ne (h : NR w q L s A n c t B m d) (k : NR w p M s' A' n' c' t' B' m' d') (hne : q.num ≠ p.num) : Calls Tryz.prog 16 #[.agg #[.bool s, .slice A n c, .bool t, .slice B m d], .agg #[.bool s', .slice A' n' c', .bool t', .slice B' m' d']] w fun e w' => e = .returned (.bool false) ∧ Ext w w' := by
  have HN := Lib.hid hne
  clear hne
  go_enter Tryz.func16, Tryz.ntmps16
  go_upto_region 1 with (fail)
  obtain ⟨W, hW, extW, bx, by_, hz⟩ := box2 w 27 27 #[.bool s, .slice A n c, .bool t, .slice B m d] #[.bool s', .slice A' n' c', .bool t', .slice B' m' d']
  rw [← hW]
  clear hW
  replace h := h.ext extW
  replace k := k.ext extW
  have x0 := bx.cell 0 (.bool s) rfl
  have x1 := bx.cell 1 (.slice A n c) rfl
  have x2 := bx.cell 2 (.bool t) rfl
  have x3 := bx.cell 3 (.slice B m d) rfl
  have y0 := by_.cell 0 (.bool s') rfl
  have y1 := by_.cell 1 (.slice A' n' c') rfl
  have y2 := by_.cell 2 (.bool t') rfl
  have y3 := by_.cell 3 (.slice B' m' d') rfl
  go_wp2_with fail
  refine (q_SameInt_ne h.num k.num HN.out).mono ?_
  rintro e wb ⟨rfl, hxb⟩
  go_wp2_with fail
  go_ret
  exact ⟨rfl, extW.trans hxb⟩
theorem q_SameIntD (h : NI w z L s A n c) (k : NI w y M t B m d) : Calls Tryz.prog 42 #[.agg #[.bool s, .slice A n c], .agg #[.bool t, .slice B m d]] w fun e w' => e = .returned (.bool (decide (z = y))) ∧ Ext w w' := by
  by_cases hzy : z = y
  · subst hzy
    rw [decide_eq_true rfl]
    exact q_SameInt h k
  · rw [decide_eq_false hzy]
    exact q_SameInt_ne h k hzy
set_option maxHeartbeats 8000000 in
set_option maxRecDepth 100000 in
theorem q_SqrtR_pos (h : NR w q L s A n c t B m d) (hL : L ≤ 50) (hq : 0 ≤ q.num) : Calls Tryz.prog 46 #[.agg #[.bool s, .slice A n c, .bool t, .slice B m d]] w (RetSq q (L + 1) w) := by
  have hd0 : (0 : Int) ≤ (q.den : Int) := by omega
  have hs0 : s = false := by rw [h.num.neg]; exact decide_eq_false (by omega)
  subst hs0
  have HQ := Lib.hid hq
  clear hq
  go_enter Tryz.func46, Tryz.ntmps46
  go_upto_region 1 with (fail)
  obtain ⟨W, hW, extW, bx, bz, hz⟩ := box2 w 27 27 #[.bool false, .slice A n c, .bool t, .slice B m d] #[Value.bool false, Value.slice none 0 0, Value.bool false, Value.slice none 0 0]
  rw [← hW]
  clear hW
  replace h := h.ext extW
  have x0 := bx.cell 0 (.bool false) rfl
  have x1 := bx.cell 1 (.slice A n c) rfl
  have x2 := bx.cell 2 (.bool t) rfl
  have x3 := bx.cell 3 (.slice B m d) rfl
  go_wp2_with fail
  refine (q_SqrtI h.num hL HQ.out).mono ?_
  rintro e wa ⟨u1, hr0, hr1, hr2, s1, A1, n1, c1, rfl, hn1, hxa⟩
  have HR := Lib.hid (And.intro hr0 (And.intro hr1 hr2))
  clear hr0 hr1 hr2
  clear x0 x1 x2 x3
  go_upto_region 4 with (fail)
  refine at_world (fun V => Ext W V ∧ Box V wa.heap.size 24 #[.bool s1, .slice A1 n1 c1] ∧ NI V u1 (L + 1) s1 A1 n1 c1) ⟨hxa.alloc _, Box.new wa _ _, hn1.ext ((Ext.refl wa).alloc _)⟩ ?_
  generalize wa.heap.size = g8
  clear hxa hn1
  rintro V ⟨EV, b8, hn1⟩
  replace bx := bx.ext EV
  replace bz := bz.ext EV
  replace h := h.ext EV
  replace extW := extW.trans EV
  clear EV
  have x2 := bx.cell 2 (.bool t) rfl
  have x3 := bx.cell 3 (.slice B m d) rfl
  go_wp2_with fail
  refine (q_SqrtI h.den hL hd0).mono ?_
  rintro e wb ⟨u2, hr0, hr1, hr2, s2, A2, n2, c2, rfl, hn2, hxb⟩
  have HR2 := Lib.hid (And.intro hr0 (And.intro hr1 hr2))
  clear hr0 hr1 hr2 x2 x3
  go_upto_region 5 with (fail)
  refine at_world (fun U => Ext V U ∧ Box U wb.heap.size 24 #[.bool s2, .slice A2 n2 c2] ∧ NI U u2 (L + 1) s2 A2 n2 c2) ⟨hxb.alloc _, Box.new wb _ _, hn2.ext ((Ext.refl wb).alloc _)⟩ ?_
  generalize wb.heap.size = g9
  clear hxb hn2
  rintro U ⟨EV, b9, hn2⟩
  replace bx := bx.ext EV
  replace bz := bz.ext EV
  replace b8 := b8.ext EV
  replace h := h.ext EV
  replace hn1 := hn1.ext EV
  replace extW := extW.trans EV
  clear EV
  obtain ⟨ok1, hok1⟩ : ∃ b, decide (u1 * u1 = q.num) = b := ⟨_, rfl⟩
  obtain ⟨ok2, hok2⟩ : ∃ b, decide (u2 * u2 = (q.den : Int)) = b := ⟨_, rfl⟩
  have HN1 := Lib.hid hok1
  have HN2 := Lib.hid hok2
  clear hok1 hok2
  cases ok1 with
  | false =>
    go_wp2_with fail
    have ES0 := Ext.refl U
    refine wp_region_held_drew (S := Ext U) (by kernel_rfl) ES0.drew (fun ES => ?_)
    clear ES0
    refine Late.start0 (fun _ _ _ _ _ => ⟨fun h => h, fun h => h⟩) ES (fun hAl hQ => ?_)
    refine Late.take (i := 0) (d := some 24) (v := ?v0_54) rfl rfl (by kernel_rfl) (by kernel_rfl) (by kernel_rfl) (by kernel_rfl) hQ (Or.inl ⟨by rfl, ?y0_54⟩) ?r0_54
    case y0_54 =>
      intro w' hSw
      have k00 := (b8.ext hSw).c2
      have k10 := (b9.ext hSw).c2
      have k20 := (bx.ext hSw).c4
      go_simp
      try with_reducible rfl
    try simp only [Act.put]
    try simp only [List.setIfInBounds_toArray]
    try simp only [List.set_cons_succ]
    try simp only [List.set_cons_zero]
    refine Late.take (i := 1) (d := some 25) (v := ?v1_55) rfl rfl (by kernel_rfl) (by kernel_rfl) (by kernel_rfl) (by kernel_rfl) hQ (Or.inl ⟨by rfl, ?y1_55⟩) ?r1_55
    case y1_55 =>
      intro w' hSw
      have k00 := (b8.ext hSw).c2
      have k10 := (b9.ext hSw).c2
      have k20 := (bx.ext hSw).c4
      go_simp
      try with_reducible rfl
    try simp only [Act.put]
    try simp only [List.setIfInBounds_toArray]
    try simp only [List.set_cons_succ]
    try simp only [List.set_cons_zero]
    refine Late.take (i := 3) (d := some 27) (v := ?v3_56) rfl rfl (by kernel_rfl) (by kernel_rfl) (by kernel_rfl) (by kernel_rfl) hQ (Or.inl ⟨by rfl, ?y3_56⟩) ?r3_56
    case y3_56 =>
      intro w' hSw
      have k00 := (b8.ext hSw).c2
      have k10 := (b9.ext hSw).c2
      have k20 := (bx.ext hSw).c4
      go_simp
      try with_reducible rfl
    try simp only [Act.put]
    try simp only [List.setIfInBounds_toArray]
    try simp only [List.set_cons_succ]
    try simp only [List.set_cons_zero]
    refine Late.take (i := 4) (d := some 28) (v := ?v4_57) rfl rfl (by kernel_rfl) (by kernel_rfl) (by kernel_rfl) (by kernel_rfl) hQ (Or.inl ⟨by rfl, ?y4_57⟩) ?r4_57
    case y4_57 =>
      intro w' hSw
      have k00 := (b8.ext hSw).c2
      have k10 := (b9.ext hSw).c2
      have k20 := (bx.ext hSw).c4
      go_simp
      try with_reducible rfl
    try simp only [Act.put]
    try simp only [List.setIfInBounds_toArray]
    try simp only [List.set_cons_succ]
    try simp only [List.set_cons_zero]
    refine Late.call (i := 2) rfl (by kernel_rfl) hAl (by kernel_rfl) (by kernel_rfl) (by kernel_rfl) hQ (fun w2 e2 E2 K hK => ?_)
    go_simp
    (go_at_call 74; refine (q_Mul (hn1.ext E2) (hn1.ext E2) (by omega) (by omega)).mono ?_; rintro e wk2 ⟨s5, A5, n5, c5, rfl, m1, hx2⟩)
    refine hK.out _ _ hx2 ?_
    clear hK K
    try simp only [Act.put]
    try simp only [List.setIfInBounds_toArray]
    try simp only [List.set_cons_succ]
    try simp only [List.set_cons_zero]
    refine Late.call (i := 5) rfl (by kernel_rfl) hAl (by kernel_rfl) (by kernel_rfl) (by kernel_rfl) hQ (fun w5 e5 E5 K hK => ?_)
    go_simp
    (replace m1 := m1.ext e5; go_at_call 42; refine (q_SameIntD m1 (h.num.ext E5)).mono ?_; rintro e wk5 ⟨rfl, hx5⟩; replace m1 := m1.ext hx5; rw [HN1.out])
    refine hK.out _ _ hx5 ?_
    clear hK K
    try simp only [Act.put]
    try simp only [List.setIfInBounds_toArray]
    try simp only [List.set_cons_succ]
    try simp only [List.set_cons_zero]
    refine Late.take (i := 6) (d := some 30) (v := ?v6_58) rfl rfl (by kernel_rfl) (by kernel_rfl) (by kernel_rfl) (by kernel_rfl) hQ (Or.inl ⟨by rfl, ?y6_58⟩) ?r6_58
    case y6_58 =>
      intro w' hSw
      have k00 := (b8.ext hSw).c2
      have k10 := (b9.ext hSw).c2
      have k20 := (bx.ext hSw).c4
      go_simp
      try with_reducible rfl
    try simp only [Act.put]
    try simp only [List.setIfInBounds_toArray]
    try simp only [List.set_cons_succ]
    try simp only [List.set_cons_zero]
    refine Late.take (i := 7) (d := some 31) (v := ?v7_59) rfl rfl (by kernel_rfl) (by kernel_rfl) (by kernel_rfl) (by kernel_rfl) hQ (Or.inl ⟨by rfl, ?y7_59⟩) ?r7_59
    case y7_59 =>
      intro w' hSw
      have k00 := (b8.ext hSw).c2
      have k10 := (b9.ext hSw).c2
      have k20 := (bx.ext hSw).c4
      go_simp
      try with_reducible rfl
    try simp only [Act.put]
    try simp only [List.setIfInBounds_toArray]
    try simp only [List.set_cons_succ]
    try simp only [List.set_cons_zero]
    refine Late.take (i := 8) (d := some 32) (v := undef) rfl rfl (by kernel_rfl) (by kernel_rfl) (by kernel_rfl) (by kernel_rfl) hQ (Or.inr ⟨by kernel_rfl, rfl⟩) ?_
    try simp only [Act.put]
    try simp only [List.setIfInBounds_toArray]
    try simp only [List.set_cons_succ]
    try simp only [List.set_cons_zero]
    refine Late.take (i := 9) (d := some 33) (v := undef) rfl rfl (by kernel_rfl) (by kernel_rfl) (by kernel_rfl) (by kernel_rfl) hQ (Or.inr ⟨by kernel_rfl, rfl⟩) ?_
    try simp only [Act.put]
    try simp only [List.setIfInBounds_toArray]
    try simp only [List.set_cons_succ]
    try simp only [List.set_cons_zero]
    refine Late.take (i := 11) (d := some 35) (v := undef) rfl rfl (by kernel_rfl) (by kernel_rfl) (by kernel_rfl) (by kernel_rfl) hQ (Or.inr ⟨by kernel_rfl, rfl⟩) ?_
    try simp only [Act.put]
    try simp only [List.setIfInBounds_toArray]
    try simp only [List.set_cons_succ]
    try simp only [List.set_cons_zero]
    refine Late.take (i := 12) (d := some 36) (v := undef) rfl rfl (by kernel_rfl) (by kernel_rfl) (by kernel_rfl) (by kernel_rfl) hQ (Or.inr ⟨by kernel_rfl, rfl⟩) ?_
    try simp only [Act.put]
    try simp only [List.setIfInBounds_toArray]
    try simp only [List.set_cons_succ]
    try simp only [List.set_cons_zero]
    refine Late.take (i := 10) (d := some 34) (v := undef) rfl rfl (by kernel_rfl) (by kernel_rfl) (by kernel_rfl) (by kernel_rfl) hQ (Or.inr ⟨by kernel_rfl, rfl⟩) ?_
    try simp only [Act.put]
    try simp only [List.setIfInBounds_toArray]
    try simp only [List.set_cons_succ]
    try simp only [List.set_cons_zero]
    refine Late.take (i := 13) (d := some 37) (v := undef) rfl rfl (by kernel_rfl) (by kernel_rfl) (by kernel_rfl) (by kernel_rfl) hQ (Or.inr ⟨by kernel_rfl, rfl⟩) ?_
    try simp only [Act.put]
    try simp only [List.setIfInBounds_toArray]
    try simp only [List.set_cons_succ]
    try simp only [List.set_cons_zero]
    refine Late.take (i := 14) (d := some 38) (v := undef) rfl rfl (by kernel_rfl) (by kernel_rfl) (by kernel_rfl) (by kernel_rfl) hQ (Or.inr ⟨by kernel_rfl, rfl⟩) ?_
    try simp only [Act.put]
    try simp only [List.setIfInBounds_toArray]
    try simp only [List.set_cons_succ]
    try simp only [List.set_cons_zero]
    refine Late.take (i := 15) (d := some 39) (v := ?v15_60) rfl rfl (by kernel_rfl) (by kernel_rfl) (by kernel_rfl) (by kernel_rfl) hQ (Or.inl ⟨by rfl, ?y15_60⟩) ?r15_60
    case y15_60 =>
      intro w' hSw
      have k00 := (b8.ext hSw).c2
      have k10 := (b9.ext hSw).c2
      have k20 := (bx.ext hSw).c4
      go_simp
      try with_reducible rfl
    try simp only [Act.put]
    try simp only [List.setIfInBounds_toArray]
    try simp only [List.set_cons_succ]
    try simp only [List.set_cons_zero]
    refine Late.done0 (by kernel_rfl) (fun wz ez Ez => ?_)
    clear hAl hQ ES
    have z0 := (bz.ext Ez).cell 0 _ rfl
    have z1 := (bz.ext Ez).cell 1 _ rfl
    have z2 := (bz.ext Ez).cell 2 _ rfl
    have z3 := (bz.ext Ez).cell 3 _ rfl
    have f0 := (bz.ext Ez).frozen 0
    have f1 := (bz.ext Ez).frozen 1
    have f2 := (bz.ext Ez).frozen 2
    have f3 := (bz.ext Ez).frozen 3
    go_wp2_with fail
    obtain ⟨b1, b2, b3, b4⟩ := fin_quad (s := false) (A := none) (n := 0) (c := 0) (t := false) (B := none) (m := 0) (d := 0) (bz.ext Ez)
    have r0 := b1.cell 0 (.bool false) rfl
    have r1 := b1.cell 1 (.slice none 0 0) rfl
    have r2 := b1.cell 2 (.bool false) rfl
    have r3 := b1.cell 3 (.slice none 0 0) rfl
    unfold set4 at r0 r1 r2 r3
    refine bodyPost_ret (v := .tuple #[.agg #[.bool false, .slice none 0 0, .bool false, .slice none 0 0], .bool false]) (by simp [results, Tryz.results46, go_sem, r0, r1, r2, r3]) rfl ⟨Or.inr ⟨fun ⟨a, b, ha, _, hab, _⟩ => by have := sq_unique ha HR.out.1 hab HR.out.2.1 HR.out.2.2; subst this; exact of_decide_eq_false HN1.out hab, rfl⟩, b3 _ (extW.trans Ez) (by omega)⟩
  | true =>
    cases ok2 with
    | false =>
      go_wp2_with fail
      have ES0 := Ext.refl U
      refine wp_region_held_drew (S := Ext U) (by kernel_rfl) ES0.drew (fun ES => ?_)
      clear ES0
      refine Late.start0 (fun _ _ _ _ _ => ⟨fun h => h, fun h => h⟩) ES (fun hAl hQ => ?_)
      refine Late.take (i := 0) (d := some 24) (v := ?v0_61) rfl rfl (by kernel_rfl) (by kernel_rfl) (by kernel_rfl) (by kernel_rfl) hQ (Or.inl ⟨by rfl, ?y0_61⟩) ?r0_61
      case y0_61 =>
        intro w' hSw
        have k00 := (b8.ext hSw).c2
        have k10 := (b9.ext hSw).c2
        have k20 := (bx.ext hSw).c4
        go_simp
        try with_reducible rfl
      try simp only [Act.put]
      try simp only [List.setIfInBounds_toArray]
      try simp only [List.set_cons_succ]
      try simp only [List.set_cons_zero]
      refine Late.take (i := 1) (d := some 25) (v := ?v1_62) rfl rfl (by kernel_rfl) (by kernel_rfl) (by kernel_rfl) (by kernel_rfl) hQ (Or.inl ⟨by rfl, ?y1_62⟩) ?r1_62
      case y1_62 =>
        intro w' hSw
        have k00 := (b8.ext hSw).c2
        have k10 := (b9.ext hSw).c2
        have k20 := (bx.ext hSw).c4
        go_simp
        try with_reducible rfl
      try simp only [Act.put]
      try simp only [List.setIfInBounds_toArray]
      try simp only [List.set_cons_succ]
      try simp only [List.set_cons_zero]
      refine Late.take (i := 3) (d := some 27) (v := ?v3_63) rfl rfl (by kernel_rfl) (by kernel_rfl) (by kernel_rfl) (by kernel_rfl) hQ (Or.inl ⟨by rfl, ?y3_63⟩) ?r3_63
      case y3_63 =>
        intro w' hSw
        have k00 := (b8.ext hSw).c2
        have k10 := (b9.ext hSw).c2
        have k20 := (bx.ext hSw).c4
        go_simp
        try with_reducible rfl
      try simp only [Act.put]
      try simp only [List.setIfInBounds_toArray]
      try simp only [List.set_cons_succ]
      try simp only [List.set_cons_zero]
      refine Late.take (i := 4) (d := some 28) (v := ?v4_64) rfl rfl (by kernel_rfl) (by kernel_rfl) (by kernel_rfl) (by kernel_rfl) hQ (Or.inl ⟨by rfl, ?y4_64⟩) ?r4_64
      case y4_64 =>
        intro w' hSw
        have k00 := (b8.ext hSw).c2
        have k10 := (b9.ext hSw).c2
        have k20 := (bx.ext hSw).c4
        go_simp
        try with_reducible rfl
      try simp only [Act.put]
      try simp only [List.setIfInBounds_toArray]
      try simp only [List.set_cons_succ]
      try simp only [List.set_cons_zero]
      refine Late.call (i := 2) rfl (by kernel_rfl) hAl (by kernel_rfl) (by kernel_rfl) (by kernel_rfl) hQ (fun w2 e2 E2 K hK => ?_)
      go_simp
      (go_at_call 74; refine (q_Mul (hn1.ext E2) (hn1.ext E2) (by omega) (by omega)).mono ?_; rintro e wk2 ⟨s5, A5, n5, c5, rfl, m1, hx2⟩)
      refine hK.out _ _ hx2 ?_
      clear hK K
      try simp only [Act.put]
      try simp only [List.setIfInBounds_toArray]
      try simp only [List.set_cons_succ]
      try simp only [List.set_cons_zero]
      refine Late.call (i := 5) rfl (by kernel_rfl) hAl (by kernel_rfl) (by kernel_rfl) (by kernel_rfl) hQ (fun w5 e5 E5 K hK => ?_)
      go_simp
      (replace m1 := m1.ext e5; go_at_call 42; refine (q_SameIntD m1 (h.num.ext E5)).mono ?_; rintro e wk5 ⟨rfl, hx5⟩; replace m1 := m1.ext hx5; rw [HN1.out])
      refine hK.out _ _ hx5 ?_
      clear hK K
      try simp only [Act.put]
      try simp only [List.setIfInBounds_toArray]
      try simp only [List.set_cons_succ]
      try simp only [List.set_cons_zero]
      refine Late.take (i := 6) (d := some 30) (v := ?v6_65) rfl rfl (by kernel_rfl) (by kernel_rfl) (by kernel_rfl) (by kernel_rfl) hQ (Or.inl ⟨by rfl, ?y6_65⟩) ?r6_65
      case y6_65 =>
        intro w' hSw
        have k00 := (b8.ext hSw).c2
        have k10 := (b9.ext hSw).c2
        have k20 := (bx.ext hSw).c4
        go_simp
        try with_reducible rfl
      try simp only [Act.put]
      try simp only [List.setIfInBounds_toArray]
      try simp only [List.set_cons_succ]
      try simp only [List.set_cons_zero]
      refine Late.take (i := 7) (d := some 31) (v := ?v7_66) rfl rfl (by kernel_rfl) (by kernel_rfl) (by kernel_rfl) (by kernel_rfl) hQ (Or.inl ⟨by rfl, ?y7_66⟩) ?r7_66
      case y7_66 =>
        intro w' hSw
        have k00 := (b8.ext hSw).c2
        have k10 := (b9.ext hSw).c2
        have k20 := (bx.ext hSw).c4
        go_simp
        try with_reducible rfl
      try simp only [Act.put]
      try simp only [List.setIfInBounds_toArray]
      try simp only [List.set_cons_succ]
      try simp only [List.set_cons_zero]
      refine Late.take (i := 8) (d := some 32) (v := ?v8_67) rfl rfl (by kernel_rfl) (by kernel_rfl) (by kernel_rfl) (by kernel_rfl) hQ (Or.inl ⟨by rfl, ?y8_67⟩) ?r8_67
      case y8_67 =>
        intro w' hSw
        have k00 := (b8.ext hSw).c2
        have k10 := (b9.ext hSw).c2
        have k20 := (bx.ext hSw).c4
        go_simp
        try with_reducible rfl
      try simp only [Act.put]
      try simp only [List.setIfInBounds_toArray]
      try simp only [List.set_cons_succ]
      try simp only [List.set_cons_zero]
      refine Late.take (i := 9) (d := some 33) (v := ?v9_68) rfl rfl (by kernel_rfl) (by kernel_rfl) (by kernel_rfl) (by kernel_rfl) hQ (Or.inl ⟨by rfl, ?y9_68⟩) ?r9_68
      case y9_68 =>
        intro w' hSw
        have k00 := (b8.ext hSw).c2
        have k10 := (b9.ext hSw).c2
        have k20 := (bx.ext hSw).c4
        go_simp
        try with_reducible rfl
      try simp only [Act.put]
      try simp only [List.setIfInBounds_toArray]
      try simp only [List.set_cons_succ]
      try simp only [List.set_cons_zero]
      refine Late.take (i := 11) (d := some 35) (v := ?v11_69) rfl rfl (by kernel_rfl) (by kernel_rfl) (by kernel_rfl) (by kernel_rfl) hQ (Or.inl ⟨by rfl, ?y11_69⟩) ?r11_69
      case y11_69 =>
        intro w' hSw
        have k00 := (b8.ext hSw).c2
        have k10 := (b9.ext hSw).c2
        have k20 := (bx.ext hSw).c4
        go_simp
        try with_reducible rfl
      try simp only [Act.put]
      try simp only [List.setIfInBounds_toArray]
      try simp only [List.set_cons_succ]
      try simp only [List.set_cons_zero]
      refine Late.take (i := 12) (d := some 36) (v := ?v12_70) rfl rfl (by kernel_rfl) (by kernel_rfl) (by kernel_rfl) (by kernel_rfl) hQ (Or.inl ⟨by rfl, ?y12_70⟩) ?r12_70
      case y12_70 =>
        intro w' hSw
        have k00 := (b8.ext hSw).c2
        have k10 := (b9.ext hSw).c2
        have k20 := (bx.ext hSw).c4
        go_simp
        try with_reducible rfl
      try simp only [Act.put]
      try simp only [List.setIfInBounds_toArray]
      try simp only [List.set_cons_succ]
      try simp only [List.set_cons_zero]
      refine Late.call (i := 10) rfl (by kernel_rfl) hAl (by kernel_rfl) (by kernel_rfl) (by kernel_rfl) hQ (fun w10 e10 E10 K hK => ?_)
      go_simp
      (replace m1 := m1.ext e10; go_at_call 74; refine (q_Mul (hn2.ext E10) (hn2.ext E10) (by omega) (by omega)).mono ?_; rintro e wk10 ⟨s6, A6, n6, c6, rfl, m2, hx10⟩; replace m1 := m1.ext hx10)
      refine hK.out _ _ hx10 ?_
      clear hK K
      try simp only [Act.put]
      try simp only [List.setIfInBounds_toArray]
      try simp only [List.set_cons_succ]
      try simp only [List.set_cons_zero]
      refine Late.call (i := 13) rfl (by kernel_rfl) hAl (by kernel_rfl) (by kernel_rfl) (by kernel_rfl) hQ (fun w13 e13 E13 K hK => ?_)
      go_simp
      (replace m1 := m1.ext e13; replace m2 := m2.ext e13; go_at_call 42; refine (q_SameIntD m2 (h.den.ext E13)).mono ?_; rintro e wk13 ⟨rfl, hx13⟩; replace m1 := m1.ext hx13; replace m2 := m2.ext hx13; rw [HN2.out])
      refine hK.out _ _ hx13 ?_
      clear hK K
      try simp only [Act.put]
      try simp only [List.setIfInBounds_toArray]
      try simp only [List.set_cons_succ]
      try simp only [List.set_cons_zero]
      refine Late.take (i := 14) (d := some 38) (v := ?v14_71) rfl rfl (by kernel_rfl) (by kernel_rfl) (by kernel_rfl) (by kernel_rfl) hQ (Or.inl ⟨by rfl, ?y14_71⟩) ?r14_71
      case y14_71 =>
        intro w' hSw
        have k00 := (b8.ext hSw).c2
        have k10 := (b9.ext hSw).c2
        have k20 := (bx.ext hSw).c4
        go_simp
        try with_reducible rfl
      try simp only [Act.put]
      try simp only [List.setIfInBounds_toArray]
      try simp only [List.set_cons_succ]
      try simp only [List.set_cons_zero]
      refine Late.take (i := 15) (d := some 39) (v := ?v15_72) rfl rfl (by kernel_rfl) (by kernel_rfl) (by kernel_rfl) (by kernel_rfl) hQ (Or.inl ⟨by rfl, ?y15_72⟩) ?r15_72
      case y15_72 =>
        intro w' hSw
        have k00 := (b8.ext hSw).c2
        have k10 := (b9.ext hSw).c2
        have k20 := (bx.ext hSw).c4
        go_simp
        try with_reducible rfl
      try simp only [Act.put]
      try simp only [List.setIfInBounds_toArray]
      try simp only [List.set_cons_succ]
      try simp only [List.set_cons_zero]
      refine Late.done0 (by kernel_rfl) (fun wz ez Ez => ?_)
      clear hAl hQ ES
      have z0 := (bz.ext Ez).cell 0 _ rfl
      have z1 := (bz.ext Ez).cell 1 _ rfl
      have z2 := (bz.ext Ez).cell 2 _ rfl
      have z3 := (bz.ext Ez).cell 3 _ rfl
      have f0 := (bz.ext Ez).frozen 0
      have f1 := (bz.ext Ez).frozen 1
      have f2 := (bz.ext Ez).frozen 2
      have f3 := (bz.ext Ez).frozen 3
      go_wp2_with fail
      obtain ⟨b1, b2, b3, b4⟩ := fin_quad (s := false) (A := none) (n := 0) (c := 0) (t := false) (B := none) (m := 0) (d := 0) (bz.ext Ez)
      have r0 := b1.cell 0 (.bool false) rfl
      have r1 := b1.cell 1 (.slice none 0 0) rfl
      have r2 := b1.cell 2 (.bool false) rfl
      have r3 := b1.cell 3 (.slice none 0 0) rfl
      unfold set4 at r0 r1 r2 r3
      refine bodyPost_ret (v := .tuple #[.agg #[.bool false, .slice none 0 0, .bool false, .slice none 0 0], .bool false]) (by simp [results, Tryz.results46, go_sem, r0, r1, r2, r3]) rfl ⟨Or.inr ⟨fun ⟨a, b, _, hb, _, hab⟩ => by have := sq_unique hb HR2.out.1 hab HR2.out.2.1 HR2.out.2.2; subst this; exact of_decide_eq_false HN2.out hab, rfl⟩, b3 _ (extW.trans Ez) (by omega)⟩
    | true =>
      go_wp2_with fail
      have ES0 := Ext.refl U
      refine wp_region_held_drew (S := Ext U) (by kernel_rfl) ES0.drew (fun ES => ?_)
      clear ES0
      refine Late.start0 (fun _ _ _ _ _ => ⟨fun h => h, fun h => h⟩) ES (fun hAl hQ => ?_)
      refine Late.take (i := 0) (d := some 24) (v := ?v0_73) rfl rfl (by kernel_rfl) (by kernel_rfl) (by kernel_rfl) (by kernel_rfl) hQ (Or.inl ⟨by rfl, ?y0_73⟩) ?r0_73
      case y0_73 =>
        intro w' hSw
        have k00 := (b8.ext hSw).c2
        have k10 := (b9.ext hSw).c2
        have k20 := (bx.ext hSw).c4
        go_simp
        try with_reducible rfl
      try simp only [Act.put]
      try simp only [List.setIfInBounds_toArray]
      try simp only [List.set_cons_succ]
      try simp only [List.set_cons_zero]
      refine Late.take (i := 1) (d := some 25) (v := ?v1_74) rfl rfl (by kernel_rfl) (by kernel_rfl) (by kernel_rfl) (by kernel_rfl) hQ (Or.inl ⟨by rfl, ?y1_74⟩) ?r1_74
      case y1_74 =>
        intro w' hSw
        have k00 := (b8.ext hSw).c2
        have k10 := (b9.ext hSw).c2
        have k20 := (bx.ext hSw).c4
        go_simp
        try with_reducible rfl
      try simp only [Act.put]
      try simp only [List.setIfInBounds_toArray]
      try simp only [List.set_cons_succ]
      try simp only [List.set_cons_zero]
      refine Late.take (i := 3) (d := some 27) (v := ?v3_75) rfl rfl (by kernel_rfl) (by kernel_rfl) (by kernel_rfl) (by kernel_rfl) hQ (Or.inl ⟨by rfl, ?y3_75⟩) ?r3_75
      case y3_75 =>
        intro w' hSw
        have k00 := (b8.ext hSw).c2
        have k10 := (b9.ext hSw).c2
        have k20 := (bx.ext hSw).c4
        go_simp
        try with_reducible rfl
      try simp only [Act.put]
      try simp only [List.setIfInBounds_toArray]
      try simp only [List.set_cons_succ]
      try simp only [List.set_cons_zero]
      refine Late.take (i := 4) (d := some 28) (v := ?v4_76) rfl rfl (by kernel_rfl) (by kernel_rfl) (by kernel_rfl) (by kernel_rfl) hQ (Or.inl ⟨by rfl, ?y4_76⟩) ?r4_76
      case y4_76 =>
        intro w' hSw
        have k00 := (b8.ext hSw).c2
        have k10 := (b9.ext hSw).c2
        have k20 := (bx.ext hSw).c4
        go_simp
        try with_reducible rfl
      try simp only [Act.put]
      try simp only [List.setIfInBounds_toArray]
      try simp only [List.set_cons_succ]
      try simp only [List.set_cons_zero]
      refine Late.call (i := 2) rfl (by kernel_rfl) hAl (by kernel_rfl) (by kernel_rfl) (by kernel_rfl) hQ (fun w2 e2 E2 K hK => ?_)
      go_simp
      (go_at_call 74; refine (q_Mul (hn1.ext E2) (hn1.ext E2) (by omega) (by omega)).mono ?_; rintro e wk2 ⟨s5, A5, n5, c5, rfl, m1, hx2⟩)
      refine hK.out _ _ hx2 ?_
      clear hK K
      try simp only [Act.put]
      try simp only [List.setIfInBounds_toArray]
      try simp only [List.set_cons_succ]
      try simp only [List.set_cons_zero]
      refine Late.call (i := 5) rfl (by kernel_rfl) hAl (by kernel_rfl) (by kernel_rfl) (by kernel_rfl) hQ (fun w5 e5 E5 K hK => ?_)
      go_simp
      (replace m1 := m1.ext e5; go_at_call 42; refine (q_SameIntD m1 (h.num.ext E5)).mono ?_; rintro e wk5 ⟨rfl, hx5⟩; replace m1 := m1.ext hx5; rw [HN1.out])
      refine hK.out _ _ hx5 ?_
      clear hK K
      try simp only [Act.put]
      try simp only [List.setIfInBounds_toArray]
      try simp only [List.set_cons_succ]
      try simp only [List.set_cons_zero]
      refine Late.take (i := 6) (d := some 30) (v := ?v6_77) rfl rfl (by kernel_rfl) (by kernel_rfl) (by kernel_rfl) (by kernel_rfl) hQ (Or.inl ⟨by rfl, ?y6_77⟩) ?r6_77
      case y6_77 =>
        intro w' hSw
        have k00 := (b8.ext hSw).c2
        have k10 := (b9.ext hSw).c2
        have k20 := (bx.ext hSw).c4
        go_simp
        try with_reducible rfl
      try simp only [Act.put]
      try simp only [List.setIfInBounds_toArray]
      try simp only [List.set_cons_succ]
      try simp only [List.set_cons_zero]
      refine Late.take (i := 7) (d := some 31) (v := ?v7_78) rfl rfl (by kernel_rfl) (by kernel_rfl) (by kernel_rfl) (by kernel_rfl) hQ (Or.inl ⟨by rfl, ?y7_78⟩) ?r7_78
      case y7_78 =>
        intro w' hSw
        have k00 := (b8.ext hSw).c2
        have k10 := (b9.ext hSw).c2
        have k20 := (bx.ext hSw).c4
        go_simp
        try with_reducible rfl
      try simp only [Act.put]
      try simp only [List.setIfInBounds_toArray]
      try simp only [List.set_cons_succ]
      try simp only [List.set_cons_zero]
      refine Late.take (i := 8) (d := some 32) (v := ?v8_79) rfl rfl (by kernel_rfl) (by kernel_rfl) (by kernel_rfl) (by kernel_rfl) hQ (Or.inl ⟨by rfl, ?y8_79⟩) ?r8_79
      case y8_79 =>
        intro w' hSw
        have k00 := (b8.ext hSw).c2
        have k10 := (b9.ext hSw).c2
        have k20 := (bx.ext hSw).c4
        go_simp
        try with_reducible rfl
      try simp only [Act.put]
      try simp only [List.setIfInBounds_toArray]
      try simp only [List.set_cons_succ]
      try simp only [List.set_cons_zero]
      refine Late.take (i := 9) (d := some 33) (v := ?v9_80) rfl rfl (by kernel_rfl) (by kernel_rfl) (by kernel_rfl) (by kernel_rfl) hQ (Or.inl ⟨by rfl, ?y9_80⟩) ?r9_80
      case y9_80 =>
        intro w' hSw
        have k00 := (b8.ext hSw).c2
        have k10 := (b9.ext hSw).c2
        have k20 := (bx.ext hSw).c4
        go_simp
        try with_reducible rfl
      try simp only [Act.put]
      try simp only [List.setIfInBounds_toArray]
      try simp only [List.set_cons_succ]
      try simp only [List.set_cons_zero]
      refine Late.take (i := 11) (d := some 35) (v := ?v11_81) rfl rfl (by kernel_rfl) (by kernel_rfl) (by kernel_rfl) (by kernel_rfl) hQ (Or.inl ⟨by rfl, ?y11_81⟩) ?r11_81
      case y11_81 =>
        intro w' hSw
        have k00 := (b8.ext hSw).c2
        have k10 := (b9.ext hSw).c2
        have k20 := (bx.ext hSw).c4
        go_simp
        try with_reducible rfl
      try simp only [Act.put]
      try simp only [List.setIfInBounds_toArray]
      try simp only [List.set_cons_succ]
      try simp only [List.set_cons_zero]
      refine Late.take (i := 12) (d := some 36) (v := ?v12_82) rfl rfl (by kernel_rfl) (by kernel_rfl) (by kernel_rfl) (by kernel_rfl) hQ (Or.inl ⟨by rfl, ?y12_82⟩) ?r12_82
      case y12_82 =>
        intro w' hSw
        have k00 := (b8.ext hSw).c2
        have k10 := (b9.ext hSw).c2
        have k20 := (bx.ext hSw).c4
        go_simp
        try with_reducible rfl
      try simp only [Act.put]
      try simp only [List.setIfInBounds_toArray]
      try simp only [List.set_cons_succ]
      try simp only [List.set_cons_zero]
      refine Late.call (i := 10) rfl (by kernel_rfl) hAl (by kernel_rfl) (by kernel_rfl) (by kernel_rfl) hQ (fun w10 e10 E10 K hK => ?_)
      go_simp
      (replace m1 := m1.ext e10; go_at_call 74; refine (q_Mul (hn2.ext E10) (hn2.ext E10) (by omega) (by omega)).mono ?_; rintro e wk10 ⟨s6, A6, n6, c6, rfl, m2, hx10⟩; replace m1 := m1.ext hx10)
      refine hK.out _ _ hx10 ?_
      clear hK K
      try simp only [Act.put]
      try simp only [List.setIfInBounds_toArray]
      try simp only [List.set_cons_succ]
      try simp only [List.set_cons_zero]
      refine Late.call (i := 13) rfl (by kernel_rfl) hAl (by kernel_rfl) (by kernel_rfl) (by kernel_rfl) hQ (fun w13 e13 E13 K hK => ?_)
      go_simp
      (replace m1 := m1.ext e13; replace m2 := m2.ext e13; go_at_call 42; refine (q_SameIntD m2 (h.den.ext E13)).mono ?_; rintro e wk13 ⟨rfl, hx13⟩; replace m1 := m1.ext hx13; replace m2 := m2.ext hx13; rw [HN2.out])
      refine hK.out _ _ hx13 ?_
      clear hK K
      try simp only [Act.put]
      try simp only [List.setIfInBounds_toArray]
      try simp only [List.set_cons_succ]
      try simp only [List.set_cons_zero]
      refine Late.take (i := 14) (d := some 38) (v := ?v14_83) rfl rfl (by kernel_rfl) (by kernel_rfl) (by kernel_rfl) (by kernel_rfl) hQ (Or.inl ⟨by rfl, ?y14_83⟩) ?r14_83
      case y14_83 =>
        intro w' hSw
        have k00 := (b8.ext hSw).c2
        have k10 := (b9.ext hSw).c2
        have k20 := (bx.ext hSw).c4
        go_simp
        try with_reducible rfl
      try simp only [Act.put]
      try simp only [List.setIfInBounds_toArray]
      try simp only [List.set_cons_succ]
      try simp only [List.set_cons_zero]
      refine Late.take (i := 15) (d := some 39) (v := ?v15_84) rfl rfl (by kernel_rfl) (by kernel_rfl) (by kernel_rfl) (by kernel_rfl) hQ (Or.inl ⟨by rfl, ?y15_84⟩) ?r15_84
      case y15_84 =>
        intro w' hSw
        have k00 := (b8.ext hSw).c2
        have k10 := (b9.ext hSw).c2
        have k20 := (bx.ext hSw).c4
        go_simp
        try with_reducible rfl
      try simp only [Act.put]
      try simp only [List.setIfInBounds_toArray]
      try simp only [List.set_cons_succ]
      try simp only [List.set_cons_zero]
      refine Late.done0 (by kernel_rfl) (fun wz ez Ez => ?_)
      clear hAl hQ ES
      have x0 := (b8.ext Ez).cell 0 (.bool s1) rfl
      have x1 := (b8.ext Ez).cell 1 (.slice A1 n1 c1) rfl
      have y0 := (b9.ext Ez).cell 0 (.bool s2) rfl
      have y1 := (b9.ext Ez).cell 1 (.slice A2 n2 c2) rfl
      have z0 := (bz.ext Ez).cell 0 _ rfl
      have z1 := (bz.ext Ez).cell 1 _ rfl
      have z2 := (bz.ext Ez).cell 2 _ rfl
      have z3 := (bz.ext Ez).cell 3 _ rfl
      have f0 := (bz.ext Ez).frozen 0
      have f1 := (bz.ext Ez).frozen 1
      have f2 := (bz.ext Ez).frozen 2
      have f3 := (bz.ext Ez).frozen 3
      go_wp2_with fail
      obtain ⟨b1, b2, b3, b4⟩ := fin_quad (s := s1) (A := A1) (n := n1) (c := c1) (t := s2) (B := A2) (m := n2) (d := c2) (bz.ext Ez)
      have r0 := b1.cell 0 (.bool s1) rfl
      have r1 := b1.cell 1 (.slice A1 n1 c1) rfl
      have r2 := b1.cell 2 (.bool s2) rfl
      have r3 := b1.cell 3 (.slice A2 n2 c2) rfl
      unfold set4 at r0 r1 r2 r3
      refine bodyPost_ret (v := .tuple #[.agg #[.bool s1, .slice A1 n1 c1, .bool s2, .slice A2 n2 c2], .bool true]) (by simp [results, Tryz.results46, go_sem, r0, r1, r2, r3]) rfl ⟨Or.inl ⟨u1, u2, HR.out.1, HR2.out.1, of_decide_eq_true HN1.out, of_decide_eq_true HN2.out, s1, A1, n1, c1, s2, A2, n2, c2, rfl, b2 _ _ _ _ _ _ (hn1.ext Ez), b2 _ _ _ _ _ _ (hn2.ext Ez)⟩, b3 _ (extW.trans Ez) (by omega)⟩
set_option maxHeartbeats 4000000 in
theorem q_SqrtR_neg (h : NR w q L s A n c t B m d) (_hL : L ≤ 50) (hq : q.num < 0) : Calls Tryz.prog 46 #[.agg #[.bool s, .slice A n c, .bool t, .slice B m d]] w (RetSq q (L + 1) w) := by
  have hs0 : s = true := by rw [h.num.neg]; exact decide_eq_true hq
  subst hs0
  have HQ := Lib.hid hq
  clear hq
  go_enter Tryz.func46, Tryz.ntmps46
  go_upto_region 1 with (fail)
  obtain ⟨W, hW, extW, bx, bz, hz⟩ := box2 w 27 27 #[.bool true, .slice A n c, .bool t, .slice B m d] #[Value.bool false, Value.slice none 0 0, Value.bool false, Value.slice none 0 0]
  rw [← hW]
  clear hW
  have x0 := bx.cell 0 (.bool true) rfl
  have x1 := bx.cell 1 (.slice A n c) rfl
  have x2 := bx.cell 2 (.bool t) rfl
  have x3 := bx.cell 3 (.slice B m d) rfl
  have hE := Ext.refl W
  have z0 := (bz.ext hE).cell 0 _ rfl
  have z1 := (bz.ext hE).cell 1 _ rfl
  have z2 := (bz.ext hE).cell 2 _ rfl
  have z3 := (bz.ext hE).cell 3 _ rfl
  have f0 := (bz.ext hE).frozen 0
  have f1 := (bz.ext hE).frozen 1
  have f2 := (bz.ext hE).frozen 2
  have f3 := (bz.ext hE).frozen 3
  go_wp2_with fail
  obtain ⟨b1, b2, b3, b4⟩ := fin_quad (s := false) (A := none) (n := 0) (c := 0) (t := false) (B := none) (m := 0) (d := 0) (bz.ext hE)
  have r0 := b1.cell 0 (.bool false) rfl
  have r1 := b1.cell 1 (.slice none 0 0) rfl
  have r2 := b1.cell 2 (.bool false) rfl
  have r3 := b1.cell 3 (.slice none 0 0) rfl
  unfold set4 at r0 r1 r2 r3
  refine bodyPost_ret (v := .tuple #[.agg #[.bool false, .slice none 0 0, .bool false, .slice none 0 0], .bool false]) (by simp [results, Tryz.results46, go_sem, r0, r1, r2, r3]) rfl ⟨Or.inr ⟨fun ⟨a, b, ha, _, hab, _⟩ => by have h1 := Int.mul_nonneg ha ha; have h2 := HQ.out; omega, rfl⟩, b3 _ (extW.trans hE) (by omega)⟩
theorem q_SqrtR (h : NR w q L s A n c t B m d) (hL : L ≤ 50) : Calls Tryz.prog 46 #[.agg #[.bool s, .slice A n c, .bool t, .slice B m d]] w (RetSq q (L + 1) w) := by
  by_cases hq : 0 ≤ q.num
  · exact q_SqrtR_pos h hL hq
  · exact q_SqrtR_neg h hL (by omega)
end
end Go.Proofs.YtiioodgpkdbndaaGreatDoor
