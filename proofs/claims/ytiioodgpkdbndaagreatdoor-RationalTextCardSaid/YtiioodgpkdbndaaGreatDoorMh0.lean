/- For every number the law RationalText returns true: Parse restores each number from its text, which is the specified one, the arguments keep their values, and the examples of the chapter hold. Condition: the five listed tables of Go's library hold what their initialisers lay (tied by the given card). -/
import Derived.Test.YtiioodgpkdbndaaGreatDoorM0
import Derived.Test.YtiioodgpkdbndaaGreatDoorM1
import Derived.Test.YtiioodgpkdbndaaGreatDoorM2
import Derived.Test.YtiioodgpkdbndaaGreatDoorM3
import Derived.Test.YtiioodgpkdbndaaGreatDoorM4
import Derived.Test.YtiioodgpkdbndaaGreatDoorM5
import Derived.Test.YtiioodgpkdbndaaGreatDoorM6
import Derived.Test.YtiioodgpkdbndaaGreatDoorM7
import Derived.Test.YtiioodgpkdbndaaGreatDoorM8
import Derived.Test.YtiioodgpkdbndaaGreatDoorM9
import Derived.Deep.RegionHeld
import Derived.BigQuiet
import Derived.Lib.ItoaNum
import Derived.Lib.Strings
import Derived.Lib.TrimByte
import Derived.Laws.BytesArg
import Derived.Test.YtiioodgpkdbndaaGreatDoorRows
import Derived.ProofKit
import Derived.Lib.SmallJoins
import Derived.Test.YtiioodgpkdbndaaGreatDoorCards
import Derived.Test.YtiioodgpkdbndaaGreatDoorTie
import Derived.LaidMore
import Derived.OpenShut
import Derived.LaidLaws
import Derived.Lay
import Derived.Lib.LaidTab
import Derived.SevenTiedAt
import Derived.Stop.Joined
import Derived.Stop.LaidErr
namespace Go.Proofs.YtiioodgpkdbndaaGreatDoor
open Go.RowKit
section
variable {P : Program} {ops : Array Oper} {Q : Exit → Act → World → Prop} {md : Region.Mode} {S : World → Prop} {W0 : World}
end
/-- what a store of an integer (a sign and a slice of words) into a box does. -/
theorem put_box {w : World} {g p q n c : Nat} {t : TypeId} {x b : Bool} {y A : Option Addr} (hb : Box w g t #[.bool x, .slice y p q]) :
    Box ((w.setCell ⟨g, 0, none⟩ (.bool b)).setCell ⟨g, 1, none⟩ (.slice A n c)) g t #[.bool b, .slice A n c] ∧
    (∀ g' t' cs', g' ≠ g → Box w g' t' cs' → Box ((w.setCell ⟨g, 0, none⟩ (.bool b)).setCell ⟨g, 1, none⟩ (.slice A n c)) g' t' cs') ∧
    (∀ A' xs, Rd w A' xs → Rd ((w.setCell ⟨g, 0, none⟩ (.bool b)).setCell ⟨g, 1, none⟩ (.slice A n c)) A' xs) ∧
    ∀ W0, Ext W0 w → W0.heap.size ≤ g → Ext W0 ((w.setCell ⟨g, 0, none⟩ (.bool b)).setCell ⟨g, 1, none⟩ (.slice A n c)) :=
  ⟨(hb.setA _).setB _, fun _ _ _ hne h => (h.far (p := ⟨g, 0, none⟩) hne _).far (p := ⟨g, 1, none⟩) hne _, fun _ _ h => (h.setBox hb NoWord.two 0 _).setBox (hb.setA _) NoWord.two 1 _, fun _ e hg => (e.setCell hg _).setCell hg _⟩
end Go.Proofs.YtiioodgpkdbndaaGreatDoor
namespace Go.Proofs.YtiioodgpkdbndaaGreatDoor
open Go.RowKit
attribute [local go_sem ↓] Go.wp_at_zero Go.wp_at_succ
theorem step_append_words {w0 w : World} {ops : Array Oper} {o : Oper} {a : Act} {K : Act → World → Prop} {Q : Exit → Act → World → Prop} {E : Prop} (hgd : o.guard = none) (s x : Operand) (t : TypeId)
    (ho : o.op = .call { callee := .builtin .append, args := #[s, x], argTypes := #[t, t] }) (ht : Tryz.prog.underlying t = some (.slice 71))
    (he : Ext w0 w) (g : Nat) (hs : a.eval s = .slice (some ⟨g, 0, none⟩) 0 0) (hg : w.heap[g]? = some (.cells #[] 71 (0, 0))) (hg0 : w0.heap.size ≤ g)
    {A : Option Addr} {n : Nat} {xs : List Nat} {c : Nat} (hx : a.eval x = .slice A n c) (hn : xs.length = n) (hr : Rd w A xs) (hl : n ≤ 1000000)
    (h : ∀ A' c' w', Own w' w0.heap.size A' xs → n ≤ c' → c' ≤ maxLen → Ext w0 w' → K (a.put o.dst (.slice A' n c')) w') :
    if Region.wanted o (yielded ops a.tmps) = true then Oper.wp Tryz.prog o a w K Q else E := by
  have hw : Region.wanted o (yielded ops a.tmps) = true := by simp [Region.wanted, hgd]
  rw [if_pos hw]
  subst hn
  obtain ⟨i0, hi, hz0, hz1, hz2⟩ := info_parts Tryz.infoW
  obtain ⟨A', c', w', hrun, h1, h2, h3, h4⟩ := run_append_words (P := Tryz.prog) t o.type i0 ht hi hz0 hz1 hz2 he g hg hg0 (c := c) hr hl
  unfold Oper.wp execOp
  simp only [ho, resolve, invoke, builtin, Sem.run_bind, Sem.run_pure, Result.andThen_ok, List.map_toArray, List.map_cons, List.map_nil, hs, hx, hrun]
  exact h A' c' w' h1 h2 h3 h4
section
variable {A B : Option Addr} {c d n m L : Nat} {xs ys : List Nat} {w : World} {s t : Bool}
end
end Go.Proofs.YtiioodgpkdbndaaGreatDoor
namespace Go.Proofs.YtiioodgpkdbndaaGreatDoor
open Go.RowKit
section
variable {A B : Option Addr} {c d n m : Nat} {xs ys : List Nat} {w : World} {s t : Bool}
set_option maxHeartbeats 2000000 in
theorem ref_Valid (hn : xs.length = n) (hx : Rd w A xs) (hc : n ≤ c) (hcm : c ≤ maxLen) (h1 : n ≤ 100000) :
    Calls Tryz.prog 41 #[.agg #[.bool s, .slice A n c]] w fun e w' => e = .returned (.bool (validB s xs)) ∧ Ext w w' := by
  obtain ⟨W, hW, extW, bx, hz⟩ := box1 w 24 #[.bool s, .slice A n c]
  have x0 := bx.cell 0 (.bool s) rfl
  have x1 := bx.cell 1 (.slice A n c) rfl
  have Hn := Lib.hid hn
  have Hv := Lib.hid (show validB s xs = (decide ((trimL xs).length = n) && (!s || decide (0 < n))) by unfold validB; rw [hn])
  clear hn
  by_cases ht : (trimL xs).length = n
  · have t1 : (((trimL xs).length : Int) == (n : Int)) = true := by rw [beq_iff_eq]; omega
    have t2 : decide ((trimL xs).length = n) = true := decide_eq_true ht
    rw [t2] at Hv
    cases s
    · have Hv2 := Lib.hid (show validB false xs = true by rw [Hv.out]; rfl)
      go_enter Tryz.func41, Tryz.ntmps41
      go_upto_region 1 with (fail)
      rw [← hW]
      clear hW
      go_quiet ((go_at_call 79; exact quiet_left (ref_trimN Hn.out (hx.ext (extW.drewN _)) hc hcm)))
      go_wp2_with fail
      go_ret
      exact ⟨by rw [Hv2.out]; rfl, by first | exact extW | exact extW.drew | exact extW.drewN _⟩
    · by_cases h0 : 0 < n
      · have Hv2 := Lib.hid (show validB true xs = true by rw [Hv.out, decide_eq_true h0]; rfl)
        have t3 : decide ((0 : Int) < (n : Int)) = true := decide_eq_true (by omega)
        go_enter Tryz.func41, Tryz.ntmps41
        go_upto_region 1 with (fail)
        rw [← hW]
        clear hW
        go_quiet ((go_at_call 79; exact quiet_left (ref_trimN Hn.out (hx.ext (extW.drewN _)) hc hcm)))
        go_wp2_with fail
        go_ret
        exact ⟨by rw [Hv2.out]; rfl, by first | exact extW | exact extW.drew | exact extW.drewN _⟩
      · have Hv2 := Lib.hid (show validB true xs = false by rw [Hv.out, decide_eq_false h0]; rfl)
        have t3 : decide ((0 : Int) < (n : Int)) = false := decide_eq_false (by omega)
        go_enter Tryz.func41, Tryz.ntmps41
        go_upto_region 1 with (fail)
        rw [← hW]
        clear hW
        go_quiet ((go_at_call 79; exact quiet_left (ref_trimN Hn.out (hx.ext (extW.drewN _)) hc hcm)))
        go_wp2_with fail
        go_ret
        exact ⟨by rw [Hv2.out]; rfl, by first | exact extW | exact extW.drew | exact extW.drewN _⟩
  · have t1 : (((trimL xs).length : Int) == (n : Int)) = false := by rw [beq_eq_false_iff_ne]; omega
    have Hv2 := Lib.hid (show validB s xs = false by rw [Hv.out, decide_eq_false ht]; rfl)
    go_enter Tryz.func41, Tryz.ntmps41
    go_upto_region 1 with (fail)
    rw [← hW]
    clear hW
    go_quiet ((go_at_call 79; exact quiet_left (ref_trimN Hn.out (hx.ext (extW.drewN _)) hc hcm)))
    go_wp2_with fail
    go_ret
    exact ⟨by rw [Hv2.out]; rfl, by first | exact extW | exact extW.drew | exact extW.drewN _⟩
end
end Go.Proofs.YtiioodgpkdbndaaGreatDoor
namespace Go.Proofs.YtiioodgpkdbndaaGreatDoor
open Go.RowKit
attribute [local go_sem ↓] Go.wp_at_zero Go.wp_at_succ
section
variable {w w' : World} {z y : Int} {q p : Rat} {L M : Nat} {s t s' t' : Bool} {A B A' B' : Option Addr} {n c m d n' c' m' d' : Nat}
set_option maxHeartbeats 1000000 in
theorem q_one (h : NI w z L s A n c) : Calls Tryz.prog 66 #[.agg #[.bool s, .slice A n c]] w fun e w' => e = .returned (.bool (decide (z = 1))) ∧ Ext w w' := by
  have h1 := h.one_iff
  by_cases hn : n = 1
  · subst hn
    obtain ⟨xs, hl, hx, _⟩ := h.out
    obtain ⟨b, off, rfl, hb, hc⟩ := hx.at_ (i := 0) (by omega)
    simp only [Nat.add_zero] at hc
    cases s with
    | true =>
      have hd : decide (z = 1) = false := decide_eq_false fun hz => by have := (h1.1 hz).1; cases this
      rw [hd]
      generalize (xs[0]'(by omega) : Nat) = k at hc
      have hc2 := ((Ext.refl w).alloc (.cells #[.bool true, .slice (some ⟨b, off, none⟩) 1 c] 24)).cellv hc
      clear h1 h hx hl
      by_cases hk : (k : Int) = 1
      · have hb1 : ((k : Int) == 1) = true := beq_iff_eq.2 hk
        go_enter Tryz.func66, Tryz.ntmps66
        go_wp2
        all_goals (go_ret; exact ⟨rfl, (Ext.refl w).alloc _⟩)
      · have hb1 : ((k : Int) == 1) = false := beq_eq_false_iff_ne.2 hk
        go_enter Tryz.func66, Tryz.ntmps66
        go_wp2
        all_goals (go_ret; exact ⟨rfl, (Ext.refl w).alloc _⟩)
    | false =>
      have hv : (decide (z = 1)) = (((xs[0]'(by omega) : Nat) : Int) == 1) := by
        by_cases hz : z = 1
        · obtain ⟨_, _, b', off', hA, hc'⟩ := h1.1 hz
          injection hA with hA
          injection hA with e1 e2
          subst e1; subst e2
          rw [hc] at hc'
          injection hc' with hc'
          injection hc' with _ hc'
          rw [hc']
          simp [hz]
        · have : ¬ ((xs[0]'(by omega) : Nat) : Int) = 1 := fun h2 => hz (h1.2 ⟨rfl, rfl, b, off, rfl, by rw [hc, h2]⟩)
          rw [decide_eq_false hz]
          exact (beq_eq_false_iff_ne.2 this).symm
      rw [hv]
      generalize (xs[0]'(by omega) : Nat) = k at hc
      have hc2 := ((Ext.refl w).alloc (.cells #[.bool false, .slice (some ⟨b, off, none⟩) 1 c] 24)).cellv hc
      clear h1 h hv hx hl
      by_cases hk : (k : Int) = 1
      · have hb1 : ((k : Int) == 1) = true := beq_iff_eq.2 hk
        rw [hb1]
        go_enter Tryz.func66, Tryz.ntmps66
        go_wp2
        all_goals (go_ret; exact ⟨rfl, (Ext.refl w).alloc _⟩)
      · have hb1 : ((k : Int) == 1) = false := beq_eq_false_iff_ne.2 hk
        rw [hb1]
        go_enter Tryz.func66, Tryz.ntmps66
        go_wp2
        all_goals (go_ret; exact ⟨rfl, (Ext.refl w).alloc _⟩)
  · have hd : decide (z = 1) = false := decide_eq_false fun hz => hn (h1.1 hz).2.1
    have hn2 : ((n : Int) == 1) = false := by rw [beq_eq_false_iff_ne]; omega
    rw [hd]
    go_enter Tryz.func66, Tryz.ntmps66
    go_wp2
    all_goals (go_ret; exact ⟨rfl, (Ext.refl w).alloc _⟩)
end
end Go.Proofs.YtiioodgpkdbndaaGreatDoor
namespace Go.Proofs.YtiioodgpkdbndaaGreatDoor
open Go.RowKit
attribute [local go_sem ↓] Go.wp_at_zero Go.wp_at_succ
section
variable {w w' : World} {z y : Int} {q p : Rat} {L M : Nat} {s t s' t' : Bool} {A B A' B' : Option Addr} {n c m d n' c' m' d' : Nat}
set_option maxHeartbeats 2000000 in
theorem q_SameInt (h : NI w z L s A n c) (k : NI w z M t B m d) : Calls Tryz.prog 42 #[.agg #[.bool s, .slice A n c], .agg #[.bool t, .slice B m d]] w fun e w' => e = .returned (.bool true) ∧ Ext w w' := by
  obtain ⟨xs, hn, hx, hc, hcm, hi, hl⟩ := h.out
  obtain ⟨ys, hm, hy, hd, hdm, hj, hk⟩ := k.out
  obtain ⟨rfl, rfl⟩ := hi.unique hj
  obtain rfl : n = m := by omega
  have hN9 : n ≤ 9223372036854775807 := by unfold maxLen at hcm; omega
  have Hn := Lib.hid hn
  clear h k hi hj hl hk hn hm
  go_enter Tryz.func42, Tryz.ntmps42
  go_upto_region 1 with (fail)
  obtain ⟨W, hW, extW, bx, by_, hz⟩ := box2 w 24 24 #[.bool s, .slice A n c] #[.bool s, .slice B n d]
  rw [← hW]
  clear hW
  replace hx := hx.ext extW
  replace hy := hy.ext extW
  have x0 := bx.cell 0 (.bool s) rfl
  have x1 := bx.cell 1 (.slice A n c) rfl
  have y0 := by_.cell 0 (.bool s) rfl
  have y1 := by_.cell 1 (.slice B n d) rfl
  have hss : (s != s) = false := by simp
  have hnn : ((n : Int) != (n : Int)) = false := by simp
  go_wp2
  clear x0 x1 y0 y1 hss hnn
  go_loopw [5] (fun i V => ∃ k : Nat, i = .int .i64 (k : Int) ∧ k ≤ n ∧ Ext W V) (fun i _ => n - (intOf i).toNat)
  case atStart => exact ⟨0, rfl, by omega, Ext.refl _⟩
  case round =>
    obtain ⟨k, rfl, hk, hext⟩ := hrel
    have x1 := (bx.ext hext).cell 1 (.slice A n c) rfl
    have y1 := (by_.ext hext).cell 1 (.slice B n d) rfl
    by_cases hlt : k < n
    · have hlx : k < xs.length := by rw [Hn.out]; exact hlt
      obtain ⟨b1, o1, rfl, hb1, hc1⟩ := (hx.ext hext).at_ hlx
      obtain ⟨b2, o2, rfl, hb2, hc2⟩ := (hy.ext hext).at_ hlx
      generalize xs[k] = v at hc1 hc2
      have hne : ((v : Int) != (v : Int)) = false := by simp
      have i1 : (k : Int) < (n : Int) := by omega
      go_upto_region 6 with (fail)
      go_quiet (fail)
      go_wp2_with fail
      go_roundw
      case rel => exact ⟨k + 1, by go_num, by omega, hext.drewN _⟩
      case measure => simp [intOf]; omega
    · have hlt2 : decide ((k : Int) < (n : Int)) = false := decide_eq_false (by omega)
      go_wp2
      go_ret
      exact ⟨rfl, extW.trans hext⟩
set_option maxHeartbeats 2000000 in
theorem q_Same (h : NR w q L s A n c t B m d) (k : NR w q M s' A' n' c' t' B' m' d') : Calls Tryz.prog 16 #[.agg #[.bool s, .slice A n c, .bool t, .slice B m d], .agg #[.bool s', .slice A' n' c', .bool t', .slice B' m' d']] w fun e w' => e = .returned (.bool true) ∧ Ext w w' := by
  go_enter Tryz.func16, Tryz.ntmps16
  go_upto_region 1 with (fail)
  obtain ⟨W, hW, extW, bx, by_, hz⟩ := box2 w 27 27 #[.bool s, .slice A n c, .bool t, .slice B m d] #[.bool s', .slice A' n' c', .bool t', .slice B' m' d']
  rw [← hW]
  clear hW
  replace h := h.ext extW
  replace k := k.ext extW
  have x0 := bx.cell 0 (.bool s) rfl
  have x1 := bx.cell 1 (.slice A n c) rfl
  have x2 := bx.cell 2 (.bool t) rfl
  have x3 := bx.cell 3 (.slice B m d) rfl
  have y0 := by_.cell 0 (.bool s') rfl
  have y1 := by_.cell 1 (.slice A' n' c') rfl
  have y2 := by_.cell 2 (.bool t') rfl
  have y3 := by_.cell 3 (.slice B' m' d') rfl
  go_wp2_with fail
  refine (q_SameInt h.num k.num).mono ?_
  rintro e wb ⟨rfl, hxb⟩
  replace bx := bx.ext hxb
  replace by_ := by_.ext hxb
  replace h := h.ext hxb
  replace k := k.ext hxb
  replace extW := extW.trans hxb
  clear hxb x0 x1 x2 x3 y0 y1 y2 y3
  have x0 := bx.cell 0 (.bool s) rfl
  have x1 := bx.cell 1 (.slice A n c) rfl
  have x2 := bx.cell 2 (.bool t) rfl
  have x3 := bx.cell 3 (.slice B m d) rfl
  have y0 := by_.cell 0 (.bool s') rfl
  have y1 := by_.cell 1 (.slice A' n' c') rfl
  have y2 := by_.cell 2 (.bool t') rfl
  have y3 := by_.cell 3 (.slice B' m' d') rfl
  go_wp2_with fail
  refine (q_SameInt h.den k.den).mono ?_
  rintro e wc ⟨rfl, hxc⟩
  go_wp2_with fail
  go_ret
  exact ⟨rfl, extW.trans hxc⟩
end
end Go.Proofs.YtiioodgpkdbndaaGreatDoor
namespace Go.Proofs.YtiioodgpkdbndaaGreatDoor
open Go.RowKit
attribute [local go_sem ↓] Go.wp_at_zero Go.wp_at_succ
theorem rdset4 {w2 : World} {g : Nat} {T : TypeId} {x y : Bool} {P Q : Option Addr} {k l i j : Nat} {A : Option Addr} {xs : List Nat} (hb : Box w2 g T #[.bool x, .slice P k l, .bool y, .slice Q i j]) (s : Bool) (v1 : Value) (t : Bool) (v2 : Value) {P1 Q1 : Option Addr} {k1 l1 i1 j1 : Nat}
    (h : Rd w2 A xs) (e1 : v1 = .slice P1 k1 l1 := by rfl) (e2 : v2 = .slice Q1 i1 j1 := by rfl) : Rd (set4 w2 g (.bool s) v1 (.bool t) v2) A xs := by
  subst e1
  subst e2
  unfold set4
  have h1 : Box (w2.setCell ⟨g, 0, none⟩ (.bool s)) g T #[.bool s, .slice P k l, .bool y, .slice Q i j] := hb.set 0 (.bool s)
  have h2 : Box ((w2.setCell ⟨g, 0, none⟩ (.bool s)).setCell ⟨g, 1, none⟩ (.slice P1 k1 l1)) g T #[.bool s, .slice P1 k1 l1, .bool y, .slice Q i j] := h1.set 1 (.slice P1 k1 l1)
  have h3 : Box (((w2.setCell ⟨g, 0, none⟩ (.bool s)).setCell ⟨g, 1, none⟩ (.slice P1 k1 l1)).setCell ⟨g, 2, none⟩ (.bool t)) g T #[.bool s, .slice P1 k1 l1, .bool t, .slice Q i j] := h2.set 2 (.bool t)
  exact (((h.setBox hb NoWord.four 0 _).setBox h1 NoWord.four 1 _).setBox h2 NoWord.four 2 _).setBox h3 NoWord.four 3 _
/-- the words of a number in lowest terms. -/
theorem NR.raw {w : World} {q : Rat} {L : Nat} {s : Bool} {A : Option Addr} {n c : Nat} {t : Bool} {B : Option Addr} {m d : Nat} (h : NR w q L s A n c t B m d) :
    ∃ xs ys, RI w A n c xs ∧ RI w B m d ys ∧ validQ s xs t ys = true ∧ n ≤ L ∧ m ≤ L ∧ (∀ w' A' c' B' d', RI w' A' n c' xs → RI w' B' m d' ys → NR w' q L s A' n c' t B' m d') := by
  obtain ⟨xs, h1, h2, h3, h4, h5, h6⟩ := h.num.out
  obtain ⟨ys, k1, k2, k3, k4, k5, k6⟩ := h.den.out
  refine ⟨xs, ys, ⟨h1, h2, h3, h4⟩, ⟨k1, k2, k3, k4⟩, ?_, h6, k6, fun w' A' c' B' d' r1 r2 => ⟨⟨xs, r1.len, r1.rd, r1.cap, r1.top, h5, h6⟩, ⟨ys, r2.len, r2.rd, r2.cap, r2.top, k5, k6⟩⟩⟩
  unfold validQ
  rw [validB_int h5, validB_int k5, h5.abs, k5.abs, k5.eq]
  have hd := q.den_pos
  have hr := q.reduced
  unfold Nat.Coprime at hr
  simp [hr]
  omega
section
variable {w w' : World} {z y : Int} {q p : Rat} {L M : Nat} {s t s' t' : Bool} {A B A' B' : Option Addr} {n c m d n' c' m' d' : Nat} {xs ys xs' ys' : List Nat}
set_option maxHeartbeats 4000000 in
theorem q_ValidRaw (h : RI w A n c xs) (k : RI w B m d ys) (h1 : n ≤ 3000) (h2 : m ≤ 3000) : Calls Tryz.prog 24 #[.agg #[.bool s, .slice A n c, .bool t, .slice B m d]] w fun e w' => e = .returned (.bool (validQ s xs t ys)) ∧ Ext w w' := by
  obtain ⟨r, hr⟩ : ∃ r, validQ s xs t ys = r := ⟨_, rfl⟩
  have HR := Lib.hid hr
  rw [hr]
  clear hr
  go_enter Tryz.func24, Tryz.ntmps24
  go_upto_region 1 with (fail)
  obtain ⟨W, hW, extW, bx, hz⟩ := box1 w 27 #[.bool s, .slice A n c, .bool t, .slice B m d]
  rw [← hW]
  clear hW
  replace h := h.ext extW
  replace k := k.ext extW
  have x0 := bx.cell 0 (.bool s) rfl
  have x1 := bx.cell 1 (.slice A n c) rfl
  have x2 := bx.cell 2 (.bool t) rfl
  have x3 := bx.cell 3 (.slice B m d) rfl
  go_wp2_with fail
  refine (ref_Valid h.len h.rd h.cap h.top (by omega)).mono ?_
  rintro e wa ⟨rfl, hxa⟩
  replace bx := bx.ext hxa
  replace h := h.ext hxa
  replace k := k.ext hxa
  replace extW := extW.trans hxa
  clear hxa x0 x1 x2 x3
  have x0 := bx.cell 0 (.bool s) rfl
  have x1 := bx.cell 1 (.slice A n c) rfl
  have x2 := bx.cell 2 (.bool t) rfl
  have x3 := bx.cell 3 (.slice B m d) rfl
  cases hv1 : validB s xs with
  | false =>
    go_wp2_with fail
    go_ret
    exact ⟨by rw [← HR.out]; unfold validQ; rw [hv1]; rfl, extW⟩
  | true =>
    go_wp2_with fail
    refine (ref_Valid k.len k.rd k.cap k.top (by omega)).mono ?_
    rintro e wb ⟨rfl, hxb⟩
    replace bx := bx.ext hxb
    replace h := h.ext hxb
    replace k := k.ext hxb
    replace extW := extW.trans hxb
    clear hxb x0 x1 x2 x3
    have x0 := bx.cell 0 (.bool s) rfl
    have x1 := bx.cell 1 (.slice A n c) rfl
    have x2 := bx.cell 2 (.bool t) rfl
    have x3 := bx.cell 3 (.slice B m d) rfl
    cases hv2 : validB t ys with
    | false =>
      go_wp2_with fail
      go_ret
      exact ⟨by rw [← HR.out]; unfold validQ; rw [hv1, hv2]; rfl, extW⟩
    | true =>
      have H1 := NI.of_raw (L := 3000) h hv1 h1
      have H2 := NI.of_raw (L := 3000) k hv2 h2
      have hvq : validQ s xs t ys = (decide (0 < ival t ys) && decide (((Nat.gcd (val xs) (val ys) : Nat) : Int) = 1)) := by unfold validQ; rw [hv1, hv2]; rfl
      rw [HR.out] at hvq
      have HVQ := Lib.hid hvq
      clear hv1 hv2 hvq HR
      go_wp2_with fail
      refine (q_Sign H2 (by omega)).mono ?_
      rintro e wc ⟨rfl, hxc⟩
      replace bx := bx.ext hxc
      replace H1 := H1.ext hxc
      replace H2 := H2.ext hxc
      replace extW := extW.trans hxc
      clear hxc x0 x1 x2 x3 h k
      have x0 := bx.cell 0 (.bool s) rfl
      have x1 := bx.cell 1 (.slice A n c) rfl
      have x2 := bx.cell 2 (.bool t) rfl
      have x3 := bx.cell 3 (.slice B m d) rfl
      by_cases hp : 0 < ival t ys
      · rw [Int.sign_eq_one_of_pos hp]
        have hvr : r = decide (((Nat.gcd (val xs) (val ys) : Nat) : Int) = 1) := by rw [HVQ.out, decide_eq_true hp, Bool.true_and]
        have HP := Lib.hid hvr
        clear HVQ hvr
        have ab1 := ival_ab s xs
        have ab2 := ival_ab t ys
        clear hp
        go_wp2_with fail
        refine (q_GCD H1 H2 (by omega) (by omega)).mono ?_
        rintro e wd ⟨s1, A1, n1, c1, rfl, hg, hxd⟩
        rw [ab1, ab2] at hg
        go_wp2_with fail
        refine (q_one hg).mono ?_
        rintro e we ⟨rfl, hxe⟩
        go_wp2_with fail
        go_ret
        exact ⟨by rw [HP.out]; rfl, extW.trans (hxd.trans hxe)⟩
      · have hvr : r = false := by rw [HVQ.out, decide_eq_false hp, Bool.false_and]
        subst hvr
        clear HVQ
        have hs : (ival t ys).sign = 0 ∨ (ival t ys).sign = -1 := by
          rcases Int.lt_trichotomy (ival t ys) 0 with h | h | h
          · exact Or.inr (Int.sign_eq_neg_one_of_neg h)
          · exact Or.inl (by rw [h]; rfl)
          · exact absurd h hp
        clear hp
        rcases hs with hs | hs
        · rw [hs]
          go_wp2_with fail
          go_ret
          exact ⟨rfl, extW⟩
        · rw [hs]
          go_wp2_with fail
          go_ret
          exact ⟨rfl, extW⟩
def fewB (n m : Nat) (s : Bool) (xs : List Nat) (t : Bool) (ys : List Nat) : Bool := decide (n ≤ 20) && (decide (m ≤ 20) && validQ s xs t ys)
set_option maxHeartbeats 2000000 in
theorem q_Few (h : RI w A n c xs) (k : RI w B m d ys) : Calls Tryz.prog 67 #[.agg #[.bool s, .slice A n c, .bool t, .slice B m d], .int .i64 20] w fun e w' => e = .returned (.bool (fewB n m s xs t ys)) ∧ Ext w w' := by
  by_cases h1 : n ≤ 20
  · have d1 : decide ((n : Int) ≤ (20 : Int)) = true := decide_eq_true (by omega)
    by_cases h2 : m ≤ 20
    · have d2 : decide ((m : Int) ≤ (20 : Int)) = true := decide_eq_true (by omega)
      have hf : fewB n m s xs t ys = validQ s xs t ys := by unfold fewB; rw [decide_eq_true h1, decide_eq_true h2]; rfl
      rw [hf]
      clear hf
      go_enter Tryz.func67, Tryz.ntmps67
      go_upto_region 1 with (fail)
      obtain ⟨W, hW, extW, bx, hz⟩ := box1 w 27 #[.bool s, .slice A n c, .bool t, .slice B m d]
      rw [← hW]
      clear hW
      replace h := h.ext extW
      replace k := k.ext extW
      have x0 := bx.cell 0 (.bool s) rfl
      have x1 := bx.cell 1 (.slice A n c) rfl
      have x2 := bx.cell 2 (.bool t) rfl
      have x3 := bx.cell 3 (.slice B m d) rfl
      go_wp2_with fail
      refine (q_ValidRaw h k (by omega) (by omega)).mono ?_
      rintro e wd ⟨rfl, hxd⟩
      go_wp2_with fail
      go_ret
      exact ⟨rfl, extW.trans hxd⟩
    · have d2 : decide ((m : Int) ≤ (20 : Int)) = false := decide_eq_false (by omega)
      have hf : fewB n m s xs t ys = false := by unfold fewB; rw [decide_eq_true h1, decide_eq_false h2]; rfl
      rw [hf]
      clear hf
      go_enter Tryz.func67, Tryz.ntmps67
      go_upto_region 1 with (fail)
      obtain ⟨W, hW, extW, bx, hz⟩ := box1 w 27 #[.bool s, .slice A n c, .bool t, .slice B m d]
      rw [← hW]
      clear hW
      replace h := h.ext extW
      replace k := k.ext extW
      have x0 := bx.cell 0 (.bool s) rfl
      have x1 := bx.cell 1 (.slice A n c) rfl
      have x2 := bx.cell 2 (.bool t) rfl
      have x3 := bx.cell 3 (.slice B m d) rfl
      go_wp2_with fail
      go_ret
      exact ⟨rfl, extW⟩
  · have d1 : decide ((n : Int) ≤ (20 : Int)) = false := decide_eq_false (by omega)
    have hf : fewB n m s xs t ys = false := by unfold fewB; rw [decide_eq_false h1]; rfl
    rw [hf]
    clear hf
    go_enter Tryz.func67, Tryz.ntmps67
    go_upto_region 1 with (fail)
    obtain ⟨W, hW, extW, bx, hz⟩ := box1 w 27 #[.bool s, .slice A n c, .bool t, .slice B m d]
    rw [← hW]
    clear hW
    replace h := h.ext extW
    replace k := k.ext extW
    have x0 := bx.cell 0 (.bool s) rfl
    have x1 := bx.cell 1 (.slice A n c) rfl
    have x2 := bx.cell 2 (.bool t) rfl
    have x3 := bx.cell 3 (.slice B m d) rfl
    go_wp2_with fail
    go_ret
    exact ⟨rfl, extW⟩
end
section
variable {A : Option Addr} {c n : Nat} {xs : List Nat} {w : World} {s : Bool}
/-- a copy, word for word. -/
def RetOw (s : Bool) (xs : List Nat) (w : World) (e : Ending) (w' : World) : Prop :=
  ∃ A' c', e = .returned (.agg #[.bool s, .slice A' xs.length c']) ∧ Rd w' A' xs ∧ xs.length ≤ c' ∧ c' ≤ maxLen ∧ Ext w w'
set_option maxHeartbeats 1000000 in
theorem law_ownInt (hn : xs.length = n) (hx : Rd w A xs) (hl : n ≤ 1000) :
    Calls Tryz.prog 14 #[.agg #[.bool s, .slice A n c]] w (RetOw s xs w) := by
  have Hn := Lib.hid hn
  clear hn
  go_enter Tryz.func14, Tryz.ntmps14
  go_upto_region 1 with (fail)
  obtain ⟨W, hW, extW, bx, bz, hz⟩ := box2 w 24 24 #[.bool s, .slice A n c] #[.bool false, .slice none 0 0]
  rw [← hW]
  clear hW
  have x0 := bx.cell 0 (.bool s) rfl
  have x1 := bx.cell 1 (.slice A n c) rfl
  have z0 := bz.cell 0 (.bool false) rfl
  have z1 := bz.cell 1 (.slice none 0 0) rfl
  have f0 := bz.frozen 0
  have f1 := bz.frozen 1
  go_region_held3 (fun w' => w'.cell? ⟨w.heap.size, 0, none⟩ = some (.bool s) ∧ w'.cell? ⟨w.heap.size, 1, none⟩ = some (.slice A n c)) (first | (go_split_ands; refine ⟨?_, ?_⟩ <;> first | (exact Ext.cellv (by assumption) (by assumption)) | (refine (cell_far2 (by omega)).trans ?_; assumption)) | go_keep)
    ((refine step_append_words (w0 := W) (by rfl) _ _ _ (by rfl) Tryz.underlying22 (((Ext.refl W).drew).alloc _) W.heap.size (by rfl) (heap_alloc_new W.drew _) (Nat.le_refl _) (by rfl) Hn.out (hx.ext (extW.drew.alloc _)) (by omega) ?_; intro A2 c2 w2 ho2 hc2 hm2 ext2; have bz2 := bz.ext ext2; have z20 := bz2.cell 0 (.bool false) rfl; have z21 := bz2.cell 1 (.slice none 0 0) rfl; have f20 := bz2.frozen 0; have f21 := bz2.frozen 1))
  go_wp2_with fail
  obtain ⟨r1, r2, r3, r4⟩ := fin_pair (b := s) (n := n) (c := c2) (extW.trans ext2) (by omega) bz2 ho2.rd
  refine bodyPost_ret (v := .agg #[.bool s, .slice A2 n c2]) (by simp [results, Tryz.results14, go_sem, r3, r4]) rfl ?_
  have hn := Hn.out
  subst hn
  exact ⟨A2, c2, rfl, r1, hc2, hm2, r2⟩
end
section
variable {w w' : World} {z y : Int} {q p : Rat} {L M : Nat} {s t s' t' : Bool} {A B A' B' : Option Addr} {n c m d n' c' m' d' : Nat} {xs ys xs' ys' : List Nat}
set_option maxHeartbeats 2000000 in
theorem law_own (h : RI w A n c xs) (k : RI w B m d ys) (h1 : n ≤ 1000) (h2 : m ≤ 1000) : Calls Tryz.prog 23 #[.agg #[.bool s, .slice A n c, .bool t, .slice B m d]] w fun e w' => ∃ A' c' B' d', e = .returned (.agg #[.bool s, .slice A' n c', .bool t, .slice B' m d']) ∧ RI w' A' n c' xs ∧ RI w' B' m d' ys ∧ Ext w w' := by
  go_enter Tryz.func23, Tryz.ntmps23
  go_upto_region 1 with (fail)
  obtain ⟨W, hW, extW, bx, bz, hz⟩ := box2 w 27 27 #[.bool s, .slice A n c, .bool t, .slice B m d] #[Value.bool false, Value.slice none 0 0, Value.bool false, Value.slice none 0 0]
  rw [← hW]
  clear hW
  replace h := h.ext extW
  replace k := k.ext extW
  refine wpL.start 7 (by kernel_rfl) (fun _ _ _ _ _ => ⟨fun h => h, fun h => h⟩) (fun hQ ES => ?_)
  refine wpL.take (i := 0) (d := some 3) (v := ?v0_29) rfl rfl (by kernel_rfl) (by kernel_rfl) (by kernel_rfl) (by kernel_rfl) hQ (Or.inl ⟨by rfl, ?y0_29⟩) ES ?r0_29
  case y0_29 =>
    intro w' hSw
    have k00 := (bx.ext hSw).c4
    go_simp
    try with_reducible rfl
  try simp only [Act.put]
  try simp only [List.setIfInBounds_toArray]
  try simp only [List.set_cons_succ]
  try simp only [List.set_cons_zero]
  refine wpL.take (i := 3) (d := some 6) (v := ?v3_30) rfl rfl (by kernel_rfl) (by kernel_rfl) (by kernel_rfl) (by kernel_rfl) hQ (Or.inl ⟨by rfl, ?y3_30⟩) ES ?r3_30
  case y3_30 =>
    intro w' hSw
    have k00 := (bx.ext hSw).c4
    go_simp
    try with_reducible rfl
  try simp only [Act.put]
  try simp only [List.setIfInBounds_toArray]
  try simp only [List.set_cons_succ]
  try simp only [List.set_cons_zero]
  refine wpL.take (i := 1) (d := some 4) (v := ?v1_31) rfl rfl (by kernel_rfl) (by kernel_rfl) (by kernel_rfl) (by kernel_rfl) hQ (Or.inl ⟨by rfl, ?y1_31⟩) ES ?r1_31
  case y1_31 =>
    intro w' hSw
    have k00 := (bx.ext hSw).c4
    go_simp
    try with_reducible rfl
  try simp only [Act.put]
  try simp only [List.setIfInBounds_toArray]
  try simp only [List.set_cons_succ]
  try simp only [List.set_cons_zero]
  refine wpL.take (i := 4) (d := some 7) (v := ?v4_32) rfl rfl (by kernel_rfl) (by kernel_rfl) (by kernel_rfl) (by kernel_rfl) hQ (Or.inl ⟨by rfl, ?y4_32⟩) ES ?r4_32
  case y4_32 =>
    intro w' hSw
    have k00 := (bx.ext hSw).c4
    go_simp
    try with_reducible rfl
  try simp only [Act.put]
  try simp only [List.setIfInBounds_toArray]
  try simp only [List.set_cons_succ]
  try simp only [List.set_cons_zero]
  refine wpL.call (i := 2) rfl (by kernel_rfl) (fun K hK => ?_)
  go_simp
  (go_at_call 14; refine (law_ownInt (s := s) (h.ext ES).len (h.ext ES).rd h1).mono ?_; rintro e wa ⟨A1, c1, rfl, g1, g2, g3, hx0⟩; have E0_1 := Ext.trans ES hx0)
  refine hK.out _ _ E0_1 ?_
  clear hK K
  try simp only [Act.put]
  try simp only [List.setIfInBounds_toArray]
  try simp only [List.set_cons_succ]
  try simp only [List.set_cons_zero]
  refine wpL.call (i := 5) rfl (by kernel_rfl) (fun K hK => ?_)
  go_simp
  (go_at_call 14; refine (law_ownInt (s := t) (k.ext E0_1).len (k.ext E0_1).rd h2).mono ?_; rintro e wb ⟨A2, c2, rfl, g4, g5, g6, hx1⟩; have E1_1 := Ext.trans E0_1 hx1)
  refine hK.out _ _ E1_1 ?_
  clear hK K
  try simp only [Act.put]
  try simp only [List.setIfInBounds_toArray]
  try simp only [List.set_cons_succ]
  try simp only [List.set_cons_zero]
  refine wpL.take (i := 6) (d := some 9) (v := ?v6_33) rfl rfl (by kernel_rfl) (by kernel_rfl) (by kernel_rfl) (by kernel_rfl) hQ (Or.inl ⟨by rfl, ?y6_33⟩) E1_1 ?r6_33
  case y6_33 =>
    intro w' hSw
    have k00 := (bx.ext hSw).c4
    go_simp
    try with_reducible rfl
  try simp only [Act.put]
  try simp only [List.setIfInBounds_toArray]
  try simp only [List.set_cons_succ]
  try simp only [List.set_cons_zero]
  have z0 := (bz.ext E1_1).cell 0 _ rfl
  have z1 := (bz.ext E1_1).cell 1 _ rfl
  have z2 := (bz.ext E1_1).cell 2 _ rfl
  have z3 := (bz.ext E1_1).cell 3 _ rfl
  have f0 := (bz.ext E1_1).frozen 0
  have f1 := (bz.ext E1_1).frozen 1
  have f2 := (bz.ext E1_1).frozen 2
  have f3 := (bz.ext E1_1).frozen 3
  refine wpL.tail (i := 7) rfl (by kernel_rfl) (by kernel_rfl) (fun K hK => ?_)
  go_simp
  refine hK.out _ _ ?_
  clear hK K
  try simp only [Act.put]
  try simp only [List.setIfInBounds_toArray]
  try simp only [List.set_cons_succ]
  try simp only [List.set_cons_zero]
  refine wpL.done (by kernel_rfl) ?_ _
  clear hQ
  go_wp2_with fail
  obtain ⟨hn, _, _, _⟩ := h
  obtain ⟨hm, _, _, _⟩ := k
  subst hn
  subst hm
  obtain ⟨b1, b2, b3, b4⟩ := fin_quad (s := s) (A := A1) (n := xs.length) (c := c1) (t := t) (B := A2) (m := ys.length) (d := c2) (bz.ext E1_1)
  have r0 := b1.cell 0 (.bool s) rfl
  have r1 := b1.cell 1 (.slice A1 xs.length c1) rfl
  have r2 := b1.cell 2 (.bool t) rfl
  have r3 := b1.cell 3 (.slice A2 ys.length c2) rfl
  unfold set4 at r0 r1 r2 r3
  refine bodyPost_ret (v := .agg #[.bool s, .slice A1 xs.length c1, .bool t, .slice A2 ys.length c2]) (by simp [results, Tryz.results23, go_sem, r0, r1, r2, r3]) rfl ⟨A1, c1, A2, c2, rfl, ⟨rfl, rdset4 (bz.ext E1_1) _ _ _ _ (g1.ext hx1), g2, g3⟩, ⟨rfl, rdset4 (bz.ext E1_1) _ _ _ _ g4, g5, g6⟩, b3 _ (extW.trans E1_1) (by omega)⟩
theorem law_ownR (h : NR w q L s A n c t B m d) (hL : L ≤ 1000) : Calls Tryz.prog 23 #[.agg #[.bool s, .slice A n c, .bool t, .slice B m d]] w (RetNR q L w) := by
  obtain ⟨xs, ys, h1, h2, _, h4, h5, h6⟩ := h.raw
  refine (law_own h1 h2 (by omega) (by omega)).mono ?_
  rintro e w' ⟨A', c', B', d', rfl, r1, r2, hx⟩
  exact ⟨s, A', n, c', t, B', m, d', rfl, h6 _ _ _ _ _ r1 r2, hx⟩
end
end Go.Proofs.YtiioodgpkdbndaaGreatDoor
namespace Go.Proofs.YtiioodgpkdbndaaGreatDoor
open Go.RowKit
theorem dv_nil : dv [] = 0 := rfl
theorem canon_dec (u : Nat) : Canon (Lib.decDigits u) := by
  induction u using Nat.strongRecOn with
  | ind u ih =>
    by_cases hu : u < 10
    · rw [Lib.decDigits, dif_pos hu]
      by_cases h0 : u = 0
      · subst h0; exact .inl rfl
      · refine .inr ⟨_, [], rfl, fun e => ?_⟩
        have := congrArg UInt8.toNat e
        rw [UInt8.toNat_ofNat_of_lt' (by show 48 + u < 256; omega)] at this
        have h48 : (48 : UInt8).toNat = 48 := rfl
        omega
    · rw [Lib.decDigits, dif_neg hu]
      rcases ih (u / 10) (by omega) with h | ⟨c, t, h, hc⟩
      · have hl := congrArg dv h
        exfalso
        have h1 : 0 < u / 10 := by omega
        have key : ∀ v, 0 < v → Lib.decDigits v ≠ [48] := by
          intro v hv e
          by_cases h10 : v < 10
          · rw [Lib.decDigits, dif_pos h10] at e
            injection e with e
            have := congrArg UInt8.toNat e
            rw [UInt8.toNat_ofNat_of_lt' (by show 48 + v < 256; omega)] at this
            have h48 : (48 : UInt8).toNat = 48 := rfl
            omega
          · rw [Lib.decDigits, dif_neg h10] at e
            have := congrArg List.length e
            rw [List.length_append] at this
            have h2 := Lib.decDigits_length (v / 10)
            have h3 := Lib.nDigits_pos (v / 10)
            simp at this
            rw [this] at h2
            simp at h2
            omega
        exact key _ h1 h
      · rw [h]
        exact .inr ⟨c, t ++ _, rfl, hc⟩
end Go.Proofs.YtiioodgpkdbndaaGreatDoor
namespace Go.Proofs.YtiioodgpkdbndaaGreatDoor
/-- the digits of a number are digits, and their number is it. -/
theorem digs_dec (u : Nat) : Digs (Lib.decDigits u) ∧ dv (Lib.decDigits u) = u := by
  induction u using Nat.strongRecOn with
  | _ u ih =>
    have hm : u % 10 < 10 := Nat.mod_lt _ (by omega)
    have hd : ∀ d, d < 10 → Dig (UInt8.ofNat (48 + d)) ∧ (UInt8.ofNat (48 + d)).toNat = 48 + d := fun d h => by
      have h3 : (UInt8.ofNat (48 + d)).toNat = 48 + d := by
        rw [UInt8.toNat_ofNat']
        exact Nat.mod_eq_of_lt (by omega)
      exact ⟨⟨by omega, by omega⟩, h3⟩
    by_cases h : u < 10
    · rw [Lib.decDigits, dif_pos h]
      refine ⟨fun c hc => ?_, ?_⟩
      · obtain rfl : c = UInt8.ofNat (48 + u) := by simpa using hc
        exact (hd u h).1
      · have := dv_snoc [] (UInt8.ofNat (48 + u))
        rw [List.nil_append] at this
        rw [this, (hd u h).2, dv_nil]
        omega
    · rw [Lib.decDigits, dif_neg h]
      obtain ⟨h1, h2⟩ := ih (u / 10) (by omega)
      refine ⟨fun c hc => ?_, ?_⟩
      · rcases List.mem_append.1 hc with hc | hc
        · exact h1 c hc
        · obtain rfl : c = UInt8.ofNat (48 + u % 10) := by simpa using hc
          exact (hd _ hm).1
      · rw [dv_snoc, h2, (hd _ hm).2]
        omega
end Go.Proofs.YtiioodgpkdbndaaGreatDoor
namespace Go.Proofs.YtiioodgpkdbndaaGreatDoor
open Go.RowKit
attribute [local go_sem ↓] Go.wp_at_zero Go.wp_at_succ
theorem conv_byte (w : World) (d : Nat) (v : Int) (hv : v = 48 + (d : Int)) : (convert 108 9 (.slice (some ⟨w.heap.size, 0, none⟩) 1 1)).run Tryz.prog (w.alloc (.cells #[.int .u8 v] 5)) = .ok (.string (strOfNums [v])) (w.alloc (.cells #[.int .u8 v] 5)) := by
  subst hv
  refine run_convert_bytes_arg _ 108 5 Tryz.underlying108 Tryz.underlying5 w.heap.size 0 1 1 [48 + (d : Int)] rfl (fun i hi => ?_) 9 Tryz.underlying9
  obtain rfl : i = 0 := by omega
  exact new_cell w _ _ 0
def strSize : Value → Nat | .string b => b.size | _ => 0
section
variable {A : Option Addr} {c n : Nat} {xs : List Nat} {w : World} {s : Bool}
set_option maxRecDepth 100000 in
set_option maxHeartbeats 2000000 in
theorem ref_Format (hn : xs.length = n) (hx : Rd w A xs) (hc : n ≤ c) (hcm : c ≤ maxLen) (h1 : n ≤ 10000) :
    Calls Tryz.prog 86 #[.agg #[.bool s, .slice A n c]] w fun e w' => ∃ str : ByteArray, e = .returned (.string str) ∧ str.data.toList = Lib.itoa (ival s xs) ∧ Ext w w' := by
  have Hn := Lib.hid hn
  clear hn
  go_enter Tryz.func86, Tryz.ntmps86
  go_upto_region 1 with (fail)
  obtain ⟨W, hW, extW, bx, hz⟩ := box1 w 24 #[.bool s, .slice A n c]
  rw [← hW]
  clear hW
  have x0 := bx.cell 0 (.bool s) rfl
  have x1 := bx.cell 1 (.slice A n c) rfl
  go_wp2_with fail
  refine (ref_Norm Hn.out (hx.ext extW) hc hcm (by omega)).mono ?_
  rintro e w1 ⟨b1, A1, c1, ps, rfl, hr1, hc1, hm1, hi1, hl1, hx1⟩
  have bx1 := bx.ext hx1
  clear x0 x1
  have x0 := bx1.cell 0 (.bool s) rfl
  have x1 := bx1.cell 1 (.slice A n c) rfl
  have f0 := bx1.frozen 0
  have f1 := bx1.frozen 1
  have hp := put_box (b := b1) (A := A1) (n := ps.length) (c := c1) bx1
  have hrp := hp.2.2.1 A1 ps hr1
  have hep := hp.2.2.2 _ (extW.trans hx1) (Nat.le_refl _)
  have hbp := hp.1
  clear hp
  go_upto_region 2 with (fail)
  refine at_world (fun Y => Ext w Y ∧ Box Y w.heap.size 24 #[.bool b1, .slice A1 ps.length c1] ∧ Rd Y A1 ps) ⟨hep, hbp, hrp⟩ ?_
  clear hep hbp hrp x0 x1 f0 f1 hr1 hx1 bx bx1
  rintro Y ⟨EY, bx, hr1⟩
  have x0 := bx.cell 0 (.bool b1) rfl
  have x1 := bx.cell 1 (.slice A1 ps.length c1) rfl
  have hpl : ps.length ≤ 10000 := by have := Hn.out; omega
  go_wp2
  go_loopw [3, 4] (fun st m wr => ∃ (acc : ByteArray) (A' : Option Addr) (c' : Nat) (ys : List Nat), st = .string acc ∧ m = .slice A' ys.length c' ∧ Rd wr A' ys ∧ Nrm ys ∧ ys.length ≤ c' ∧ c' ≤ maxLen ∧ ys.length ≤ ps.length ∧ fd (val ps) = fd (val ys) ++ acc.data.toList ∧ Ext Y wr) (fun st _ _ => (fd (val ps)).length - strSize st)
  case atStart => exact ⟨⟨#[]⟩, A1, c1, ps, rfl, rfl, hr1, hi1.nrm, hc1, hm1, Nat.le_refl _, by simp, Ext.refl _⟩
  case round =>
    obtain ⟨acc, A', c', ys, rfl, rfl, hr, hnr, hyc, hycm, hyl, hfd, hext⟩ := hrel
    have hacc : acc.size ≤ 100000 := by
      have h1 := congrArg List.length hfd
      rw [List.length_append, ← Lib.size_eq] at h1
      have h2 := fd_len_words hi1.w32
      omega
    have Hfd := Lib.hid hfd
    clear hfd
    by_cases h0 : ys = []
    · subst h0
      have hf := Hfd.out
      rw [show val [] = 0 by rfl, fd_zero, List.nil_append] at hf
      have bxr := bx.ext hext
      have y0 := bxr.cell 0 (.bool b1) rfl
      have y1 := bxr.cell 1 (.slice A1 ps.length c1) rfl
      have hz1 := itoa_fd (ival s xs)
      rw [← hi1.eq] at hz1
      have Hi := Lib.hid hi1
      by_cases hv0 : ps = []
      · subst hv0
        have ha : acc.data.toList = [] := by rw [← hf]; rfl
        have t1 : acc.toList.isEmpty = true := by rw [Lib.toList_data, ha]; rfl
        have hzz : ival b1 [] = 0 := by unfold ival; cases b1 <;> rfl
        rw [if_pos hzz] at hz1
        rw [hi1.eq] at hz1
        have Hz1 := Lib.hid hz1
        clear hz1 hf ha hi1 hzz
        go_wp2_with fail
        go_ret
        exact ⟨_, rfl, Hz1.out.symm, EY.trans hext⟩
      · have hvp : val ps ≠ 0 := fun h => hv0 (hi1.nrm.zero.1 h)
        have hfd : fd (val ps) = Lib.decDigits (val ps) := by unfold fd; rw [if_neg hvp]
        have ha : acc.data.toList ≠ [] := by
          rw [← hf, hfd]
          intro h
          have h1 := congrArg List.length h
          have h2 := Lib.decDigits_length (val ps)
          have h3 := Lib.nDigits_pos (val ps)
          rw [h2] at h1
          simp at h1
          omega
        have t1 : acc.toList.isEmpty = false := by
          rw [Lib.toList_data]
          cases hh : acc.data.toList with
          | nil => exact absurd hh ha
          | cons c t => rfl
        cases b1 with
        | true =>
          have hzz : ival true ps = -(val ps : Int) := rfl
          rw [hzz, if_neg (by omega), if_pos (by omega), show (-(val ps : Int)).natAbs = val ps by omega, hf, ← hzz, hi1.eq] at hz1
          have Hz1 := Lib.hid hz1
          clear hz1 hf ha hi1 hzz hfd hvp
          go_wp2_with fail
          go_ret
          exact ⟨_, rfl, by rw [append_toList, Hz1.out]; rfl, EY.trans hext⟩
        | false =>
          have hzz : ival false ps = (val ps : Int) := rfl
          rw [hzz, if_neg (by omega), if_neg (by omega), show ((val ps : Int)).natAbs = val ps by omega, hf, ← hzz, hi1.eq] at hz1
          have Hz1 := Lib.hid hz1
          clear hz1 hf ha hi1 hzz hfd hvp
          go_wp2_with fail
          go_ret
          exact ⟨_, rfl, Hz1.out.symm, EY.trans hext⟩
    · have hpos : 0 < ys.length := List.length_pos_iff.2 h0
      have hvp : 0 < val ys := by
        have : val ys ≠ 0 := fun h => h0 (hnr.zero.1 h)
        omega
      have Hnr := Lib.hid hnr
      clear hnr
      go_wp2_with fail
      refine (ref_by (v := 10) rfl hr (by omega) (by omega) (by omega)).mono ?_
      rintro e w2 ⟨A2, c2, zs, rfl, ho2, hc2, hm2, hv2, hn2, hl2, hx2⟩
      have Hv2 := Lib.hid hv2
      have Hn2 := Lib.hid hn2
      clear hv2 hn2
      have hd10 : val ys % 10 < 10 := Nat.mod_lt _ (by omega)
      have hfs := fd_step hvp
      generalize hdd : val ys % 10 = d at *
      have hcv := conv_byte w2 d (48 + (d : Int)) rfl
      have hsl : (strOfNums [48 + (d : Int)]).data.toList = [UInt8.ofNat (48 + d)] := by
        rw [strOfNums_data]
        simp only [List.map_cons, List.map_nil]
        congr 2
      have hss : (strOfNums [48 + (d : Int)]).size ≤ 1 := by rw [strOfNums_size]; simp
      have hs1 : 1 ≤ (strOfNums [48 + (d : Int)]).size := by rw [strOfNums_size]; simp
      generalize strOfNums [48 + (d : Int)] = st at *
      have hall : fd (val ps) = fd (val zs) ++ (st ++ acc).data.toList := by rw [Hfd.out, hfs, Hv2.out, append_toList, hsl, List.append_assoc]
      have hsz : (st ++ acc).size = st.size + acc.size := by rw [Lib.size_eq, append_toList, List.length_append, ← Lib.size_eq, ← Lib.size_eq]
      have hmeas : (fd (val ps)).length - (st ++ acc).size < (fd (val ps)).length - acc.size := by
        have h1 := congrArg List.length hall
        rw [List.length_append, ← Lib.size_eq, hsz] at h1
        rw [hsz]
        omega
      have Hall := Lib.hid hall
      have Hmeas := Lib.hid hmeas
      clear hdd hfs hsl hall hsz hmeas
      go_wp2_with fail
      go_roundw
      case rel => exact ⟨st ++ acc, A2, c2, zs, rfl, rfl, ho2.rd.ext ((Ext.refl w2).alloc _), Hn2.out, hc2, hm2, by omega, Hall.out, (hext.trans hx2).alloc _⟩
      case measure => exact Hmeas.out
end
end Go.Proofs.YtiioodgpkdbndaaGreatDoor
namespace Go.Proofs.YtiioodgpkdbndaaGreatDoor
open Go.RowKit
attribute [local go_sem ↓] Go.wp_at_zero Go.wp_at_succ
/-- numbers that few accepts. -/
theorem few_nr {w : World} {A B : Option Addr} {n c m d : Nat} {s t : Bool} {xs ys : List Nat} (h : RI w A n c xs) (k : RI w B m d ys) (hf : fewB n m s xs t ys = true) : ∃ q : Rat, NR w q 20 s A n c t B m d := by
  unfold fewB at hf
  simp only [Bool.and_eq_true, decide_eq_true_eq] at hf
  exact NR.of_raw h k hf.2.2 hf.1 hf.2.1
section
variable {w w' : World} {q p r : Rat} {L : Nat} {s t s' t' u u' : Bool} {A B A' B' C D : Option Addr} {n c m d n' c' m' d' l e0 l' e' : Nat} {xs ys xs' ys' zs zs' : List Nat}
variable {z y : Int} {M : Nat}
theorem q_FormatI (h : NI w z L s A n c) (hL : L ≤ 20) : Calls Tryz.prog 86 #[.agg #[.bool s, .slice A n c]] w fun e w' => ∃ str : ByteArray, e = .returned (.string str) ∧ str.data.toList = Lib.itoa z ∧ str.size ≤ 1000 ∧ Ext w w' := by
  obtain ⟨xs, hn, hx, hc, hcm, hi, hl⟩ := h.out
  refine (ref_Format hn hx hc hcm (by omega)).mono ?_
  rintro e w' ⟨str, rfl, hs, hxt⟩
  rw [hi.eq] at hs
  refine ⟨str, rfl, hs, ?_, hxt⟩
  rw [Lib.size_eq, hs, ← hi.eq, itoa_fd]
  have h1 := fd_len_words hx.1
  rw [ival_ab]
  split
  · simp
  · split
    · rw [List.length_cons]; omega
    · omega
set_option maxHeartbeats 2000000 in
theorem q_FormatR (h : NR w q L s A n c t B m d) (hL : L ≤ 20) : Calls Tryz.prog 49 #[.agg #[.bool s, .slice A n c, .bool t, .slice B m d]] w fun e w' => ∃ str : ByteArray, e = .returned (.string str) ∧ str.data.toList = ratText q ∧ Ext w w' := by
  go_enter Tryz.func49, Tryz.ntmps49
  go_upto_region 1 with (fail)
  obtain ⟨W, hW, extW, bx, hz⟩ := box1 w 27 #[.bool s, .slice A n c, .bool t, .slice B m d]
  rw [← hW]
  clear hW
  replace h := h.ext extW
  have x0 := bx.cell 0 (.bool s) rfl
  have x1 := bx.cell 1 (.slice A n c) rfl
  have x2 := bx.cell 2 (.bool t) rfl
  have x3 := bx.cell 3 (.slice B m d) rfl
  go_wp2_with fail
  refine (q_one h.den).mono ?_
  rintro e V ⟨rfl, hxa⟩
  replace bx := bx.ext hxa
  replace h := h.ext hxa
  replace extW := extW.trans hxa
  clear hxa
  clear x0 x1 x2 x3
  by_cases h1 : (q.den : Int) = 1
  · rw [decide_eq_true h1]
    have H1 := Lib.hid h1
    clear h1
    have x0 := bx.cell 0 (.bool s) rfl
    have x1 := bx.cell 1 (.slice A n c) rfl
    have x2 := bx.cell 2 (.bool t) rfl
    have x3 := bx.cell 3 (.slice B m d) rfl
    go_wp2_with fail
    refine (q_FormatI h.num hL).mono ?_
    rintro e wb ⟨str, rfl, hs, hsz, hxb⟩
    have HS := Lib.hid hs
    clear hs
    go_wp2_with fail
    go_ret
    exact ⟨str, rfl, by unfold ratText; rw [if_pos H1.out, List.append_nil]; exact HS.out, extW.trans hxb⟩
  · rw [decide_eq_false h1]
    have H1 := Lib.hid h1
    clear h1
    go_wp2_with fail
    have ES0 := Ext.refl V
    refine wp_region_held_drew (S := Ext V) (by kernel_rfl) ES0.drew (fun ES => ?_)
    clear ES0
    refine Late.start0 (fun _ _ _ _ _ => ⟨fun h => h, fun h => h⟩) ES (fun hAl hQ => ?_)
    refine Late.take (i := 0) (d := some 9) (v := ?v0_59) rfl rfl (by kernel_rfl) (by kernel_rfl) (by kernel_rfl) (by kernel_rfl) hQ (Or.inl ⟨by rfl, ?y0_59⟩) ?r0_59
    case y0_59 =>
      intro w' hSw
      have k00 := (bx.ext hSw).c4
      go_simp
      try with_reducible rfl
    try simp only [Act.put]
    try simp only [List.setIfInBounds_toArray]
    try simp only [List.set_cons_succ]
    try simp only [List.set_cons_zero]
    refine Late.take (i := 4) (d := some 13) (v := ?v4_60) rfl rfl (by kernel_rfl) (by kernel_rfl) (by kernel_rfl) (by kernel_rfl) hQ (Or.inl ⟨by rfl, ?y4_60⟩) ?r4_60
    case y4_60 =>
      intro w' hSw
      have k00 := (bx.ext hSw).c4
      go_simp
      try with_reducible rfl
    try simp only [Act.put]
    try simp only [List.setIfInBounds_toArray]
    try simp only [List.set_cons_succ]
    try simp only [List.set_cons_zero]
    refine Late.take (i := 1) (d := some 10) (v := ?v1_61) rfl rfl (by kernel_rfl) (by kernel_rfl) (by kernel_rfl) (by kernel_rfl) hQ (Or.inl ⟨by rfl, ?y1_61⟩) ?r1_61
    case y1_61 =>
      intro w' hSw
      have k00 := (bx.ext hSw).c4
      go_simp
      try with_reducible rfl
    try simp only [Act.put]
    try simp only [List.setIfInBounds_toArray]
    try simp only [List.set_cons_succ]
    try simp only [List.set_cons_zero]
    refine Late.take (i := 5) (d := some 14) (v := ?v5_62) rfl rfl (by kernel_rfl) (by kernel_rfl) (by kernel_rfl) (by kernel_rfl) hQ (Or.inl ⟨by rfl, ?y5_62⟩) ?r5_62
    case y5_62 =>
      intro w' hSw
      have k00 := (bx.ext hSw).c4
      go_simp
      try with_reducible rfl
    try simp only [Act.put]
    try simp only [List.setIfInBounds_toArray]
    try simp only [List.set_cons_succ]
    try simp only [List.set_cons_zero]
    refine Late.call (i := 2) rfl (by kernel_rfl) hAl (by kernel_rfl) (by kernel_rfl) (by kernel_rfl) hQ (fun w2 e2 E2 K hK => ?_)
    go_simp
    (go_at_call 86; refine (q_FormatI (h.num.ext E2) hL).mono ?_; rintro e wk2 ⟨str, rfl, hs, hsz, hx2⟩)
    refine hK.out _ _ hx2 ?_
    clear hK K
    try simp only [Act.put]
    try simp only [List.setIfInBounds_toArray]
    try simp only [List.set_cons_succ]
    try simp only [List.set_cons_zero]
    have HS := Lib.hid hs
    clear hs
    have hsb : (str ++ ⟨#[47]⟩ : ByteArray).size = str.size + 1 := ByteArray.size_append
    refine Late.take (i := 3) (d := some 12) (v := ?v3_63) rfl rfl (by kernel_rfl) (by kernel_rfl) (by kernel_rfl) (by kernel_rfl) hQ (Or.inl ⟨by rfl, ?y3_63⟩) ?r3_63
    case y3_63 =>
      intro w' hSw
      have k00 := (bx.ext hSw).c4
      go_simp
      rw [if_neg (by omega)]
    try simp only [Act.put]
    try simp only [List.setIfInBounds_toArray]
    try simp only [List.set_cons_succ]
    try simp only [List.set_cons_zero]
    refine Late.call (i := 6) rfl (by kernel_rfl) hAl (by kernel_rfl) (by kernel_rfl) (by kernel_rfl) hQ (fun w6 e6 E6 K hK => ?_)
    go_simp
    (go_at_call 86; refine (q_FormatI (h.den.ext E6) hL).mono ?_; rintro e wk6 ⟨str2, rfl, hs2, hsz2, hx6⟩; have hsa : (⟨#[47]⟩ ++ str2 : ByteArray).size = 1 + str2.size := ByteArray.size_append; have HS2 := Lib.hid hs2; clear hs2)
    refine hK.out _ _ hx6 ?_
    clear hK K
    try simp only [Act.put]
    try simp only [List.setIfInBounds_toArray]
    try simp only [List.set_cons_succ]
    try simp only [List.set_cons_zero]
    refine Late.take (i := 7) (d := some 16) (v := ?v7_64) rfl rfl (by kernel_rfl) (by kernel_rfl) (by kernel_rfl) (by kernel_rfl) hQ (Or.inl ⟨by rfl, ?y7_64⟩) ?r7_64
    case y7_64 =>
      intro w' hSw
      have k00 := (bx.ext hSw).c4
      go_simp
      rw [if_neg (by omega)]
    try simp only [Act.put]
    try simp only [List.setIfInBounds_toArray]
    try simp only [List.set_cons_succ]
    try simp only [List.set_cons_zero]
    refine Late.take (i := 8) (d := some 2) (v := ?v8_65) rfl rfl (by kernel_rfl) (by kernel_rfl) (by kernel_rfl) (by kernel_rfl) hQ (Or.inl ⟨by rfl, ?y8_65⟩) ?r8_65
    case y8_65 =>
      intro w' hSw
      have k00 := (bx.ext hSw).c4
      go_simp
      try with_reducible rfl
    try simp only [Act.put]
    try simp only [List.setIfInBounds_toArray]
    try simp only [List.set_cons_succ]
    try simp only [List.set_cons_zero]
    refine Late.done0 (by kernel_rfl) (fun wz ez Ez => ?_)
    clear hAl hQ ES
    go_wp2_with fail
    go_ret
    exact ⟨_, rfl, by unfold ratText; rw [if_neg H1.out, append_toList, append_toList, HS.out, HS2.out, List.append_assoc]; rfl, extW.trans Ez⟩
set_option maxHeartbeats 4000000 in
theorem few1 {g : Nat} (hb : Box w g 27 #[.bool s, .slice A n c, .bool t, .slice B m d]) (h0 : RI w A n c xs) (k0 : RI w B m d ys) :
    Calls Tryz.prog 25 #[.slice (some ⟨g, 0, none⟩) 1 1] w fun e w' => e = .returned (.bool (fewB n m s xs t ys)) ∧ Ext w w' := by
  go_enter Tryz.func25, Tryz.ntmps25
  go_wp2_with fail
  go_loopw [7] (fun i wr => ∃ k : Nat, k ≤ 1 ∧ i = .int .i64 (k : Int) ∧ Ext w wr ∧ ((0 < k → fewB n m s xs t ys = true))) (fun i _ => 1 - (intOf i).toNat)
  case atStart => exact ⟨0, by omega, rfl, Ext.refl _, by simp⟩
  case round =>
    obtain ⟨k, hk, rfl, hext, hall⟩ := hrel
    have HA := Lib.hid hall
    clear hall
    have c0 := (hb.ext hext).cell 0 (.bool s) rfl
    have c1 := (hb.ext hext).cell 1 (.slice A n c) rfl
    have c2 := (hb.ext hext).cell 2 (.bool t) rfl
    have c3 := (hb.ext hext).cell 3 (.slice B m d) rfl
    have hk2 : k = 0 ∨ k = 1 := by omega
    rcases hk2 with rfl | rfl
    · go_wp2_with (fail)
      refine (q_Few (h0.ext (hext.alloc _)) (k0.ext (hext.alloc _))).mono ?_
      rintro e V ⟨rfl, hxv⟩
      replace hext := (hext.alloc _).trans hxv
      cases hf : fewB n m s xs t ys with
      | true =>
        have HF := Lib.hid hf
        clear hf
        go_wp2_with fail
        go_roundw
        case rel => exact ⟨1, by omega, rfl, hext, by have := HA.out; simp [HF.out] at this ⊢⟩
        case measure => simp [intOf]
      | false =>
        have HF := Lib.hid hf
        clear hf
        go_wp2_with fail
        go_ret
        exact ⟨by have := HA.out; simp [HF.out] at this ⊢, hext⟩
    · go_wp2_with fail
      go_ret
      exact ⟨by have := HA.out; simp at this; simp [this], hext⟩
end
end Go.Proofs.YtiioodgpkdbndaaGreatDoor
namespace Go.Proofs.YtiioodgpkdbndaaGreatDoor
open Go.ChangeShapes Go.WideShapes Go.ChangeAt Go.RowKit Go.Joins
theorem Tryz.cellsI : Tryz.prog.cellsOf 24 = 2 := by kernel_rfl
theorem Tryz.cellsW : Tryz.prog.cellsOf 71 = 1 := by kernel_rfl
section
variable {H : Type} {enc : TypeId × Value → H} {W : World} {base : Nat} {held : Bool}
theorem open_words {m : Nat} {v : Value} {y : DataW H × List MemPlace} (h : DataW.trod enc Tryz.prog W base (fun _ => true) held m 22 [v] = some y) :
    ∃ A n c xs, v = .slice A n c ∧ List.length xs = n ∧ Rd W A xs ∧ n ≤ c ∧ c ≤ maxLen := by
  rcases open_ints Tryz.underlying22 Tryz.underlying71 Tryz.cellsW h with ⟨hcs, _⟩ | ⟨a, len, cap, zs, hcs, _, hl, hm, hz, _, hcell, hwf⟩
  · injection hcs with hcs _
    subst hcs
    exact ⟨none, 0, 0, [], rfl, rfl, Rd.nil _ _, Nat.le_refl _, Nat.zero_le _⟩
  · injection hcs with hcs _
    subst hcs
    simp only [if_true] at hz
    have hb : ∀ n ∈ zs, 0 ≤ n ∧ n ≤ 4294967295 := by
      intro n hn
      have := hwf n hn
      simp [Lit.wf, IntKind.min, IntKind.max, IntKind.bits, IntKind.signed] at this
      omega
    refine ⟨some a, len, cap, (zs.take len).map Int.toNat, rfl, by simp; omega, ⟨?_, ?_⟩, hl, hm⟩
    · intro x hx
      obtain ⟨n, hn, rfl⟩ := List.mem_map.1 hx
      have := hb n (List.mem_of_mem_take hn)
      omega
    · intro hne
      have hpos : 0 < zs.length := by
        rcases Nat.eq_zero_or_pos zs.length with h0 | h0
        · exfalso
          apply hne
          have : zs = [] := List.eq_nil_of_length_eq_zero h0
          rw [this]; simp
        · exact h0
      obtain ⟨b, off, spot⟩ := a
      have hc0 := hcell 0 hpos
      have hspot : spot = none := by
        cases spot with
        | none => rfl
        | some q => simp [Addr.add, World.cell?] at hc0; split at hc0 <;> simp at hc0
      subst hspot
      refine ⟨b, off, rfl, cell_lt (p := ⟨b, off, none⟩) (by simpa [Addr.add] using hc0), fun i hi => ?_⟩
      simp only [List.length_map, List.length_take] at hi
      have hc := hcell i (by omega)
      have e1 : (⟨b, off, none⟩ : Addr).add i = ⟨b, off + i, none⟩ := by unfold Addr.add; split <;> simp_all
      rw [e1] at hc
      rw [hc]
      simp only [List.getElem_map, List.getElem_take]
      have hi2 : i < zs.length := by omega
      have e2 : zs.getD i 0 = zs[i] := by simp [List.getD, hi2]
      rw [e2]
      have := hb zs[i] (List.getElem_mem hi2)
      congr 2
      omega
end
end Go.Proofs.YtiioodgpkdbndaaGreatDoor
namespace Go.Proofs.YtiioodgpkdbndaaGreatDoor
open Go.RowKit
/-- the integer of a text. -/
def PS (l : List UInt8) (z : Int) : Prop := (∃ t, l = 45 :: t ∧ Digs t ∧ Canon t ∧ t ≠ [48] ∧ z = -(dv t : Int)) ∨ (Digs l ∧ Canon l ∧ z = (dv l : Int))
section
variable {s : ByteArray} {w : World}
end
end Go.Proofs.YtiioodgpkdbndaaGreatDoor
namespace Go.Proofs.YtiioodgpkdbndaaGreatDoor
open Go.ChangeShapes Go.WideShapes Go.ChangeAt Go.RowKit Go.Joins
theorem cellsR : Tryz.prog.cellsOf 27 = 4 := by kernel_rfl
theorem cellsB : Tryz.prog.cellsOf 4 = 1 := by kernel_rfl
theorem cellsS : Tryz.prog.cellsOf 22 = 1 := by kernel_rfl
section
variable {H : Type} {enc : TypeId × Value → H} {W : World} {base : Nat} {held : Bool}
theorem open_intc {m : Nat} {c0 c1 : Value} {y : DataW H × List MemPlace} (h : DataW.trod enc Tryz.prog W base (fun _ => true) held m 24 [c0, c1] = some y) :
    ∃ s A n c xs, c0 = .bool s ∧ c1 = .slice A n c ∧ RI W A n c xs := by
  obtain ⟨y0, y1, k, _, _, h0, h1⟩ := trod_struct2 Tryz.underlying24 h
  rw [cellsB] at h0
  rw [cellsS] at h1
  simp only [List.drop_zero, List.drop_succ_cons, List.take_succ_cons, List.take_zero] at h0 h1
  obtain ⟨s, e0, _⟩ := DataW.trod_bool Tryz.underlying4 h0
  injection e0 with e0 _
  obtain ⟨A, n, c, xs, rfl, g1, g2, g3, g4⟩ := open_words h1
  exact ⟨s, A, n, c, xs, e0, rfl, g1, g2, g3, g4⟩
set_option maxRecDepth 100000 in
theorem open_rat {r : Reach} {b0 : Nat} {v : Value} {d : DataW H} {p : List MemPlace} (hv : Value.okWide Tryz.prog W r b0 27 v) (h : DataW.Trod enc Tryz.prog W base (fun _ => true) held 27 v d p) :
    ∃ s A n c t B m d xs ys, v = .agg #[.bool s, .slice A n c, .bool t, .slice B m d] ∧ RI W A n c xs ∧ RI W B m d ys := by
  obtain ⟨cs, rfl, hsz⟩ := okWide_struct Tryz.underlying27 hv
  obtain ⟨c0, c1, c2, c3, rfl⟩ := array4 (hsz.trans cellsR)
  obtain ⟨fuel, hf⟩ := h
  obtain ⟨y0, y1, k, _, _, h0, h1⟩ := trod_struct2 Tryz.underlying27 hf
  rw [Tryz.cellsI] at h0 h1
  simp only [Value.cells, List.drop_zero, List.drop_succ_cons, List.take_succ_cons, List.take_zero] at h0 h1
  obtain ⟨s, A, n, c, xs, rfl, rfl, r1⟩ := open_intc h0
  obtain ⟨t, B, m, d, ys, rfl, rfl, r2⟩ := open_intc h1
  exact ⟨s, A, n, c, t, B, m, d, xs, ys, rfl, r1, r2⟩
end
set_option maxRecDepth 100000
end Go.Proofs.YtiioodgpkdbndaaGreatDoor
namespace Go.Proofs.YtiioodgpkdbndaaGreatDoor
open Go.RowKit
attribute [local go_sem ↓] Go.wp_at_zero Go.wp_at_succ
theorem not_dig45 : ¬ Dig 45 := fun h => absurd h.1 (by decide)
section
variable {s : ByteArray} {w : World}
theorem PS.fun {l : List UInt8} {y z : Int} (h : PS l y) (k : PS l z) : y = z := by
  rcases h with ⟨t, ht, hd, _, _, rfl⟩ | ⟨hd, _, rfl⟩
  · subst ht
    rcases k with ⟨t', ht', _, _, _, rfl⟩ | ⟨hd', _⟩
    · injection ht' with _ ht'
      subst ht'
      rfl
    · exact absurd (hd' 45 (by simp)) not_dig45
  · rcases k with ⟨t', ht', _⟩ | ⟨_, _, rfl⟩
    · subst ht'
      exact absurd (hd 45 (by simp)) not_dig45
    · rfl
end
end Go.Proofs.YtiioodgpkdbndaaGreatDoor
namespace Go.Proofs.YtiioodgpkdbndaaGreatDoor
open Go.RowKit
attribute [local go_sem ↓] Go.wp_at_zero Go.wp_at_succ
theorem fd_pos {v : Nat} (h : v ≠ 0) : fd v = Lib.decDigits v := if_neg h
theorem ups_nat (q : Rat) (h0 : 0 ≤ q.num) (h1 : (q.den : Int) = 1) : UPS (Lib.decDigits q.num.natAbs) q := by
  obtain ⟨d1, d2⟩ := digs_dec q.num.natAbs
  refine .inl ⟨d1, canon_dec _, ?_⟩
  rw [d2]
  have e1 : ((q.num.natAbs : Nat) : Int) = q.num := Int.natAbs_of_nonneg h0
  rw [e1]
  have e2 : q.den = 1 := by omega
  refine Rat.ext ?_ ?_
  · rw [Rat.num_intCast]
  · rw [Rat.den_intCast, e2]
theorem ups_frac (q : Rat) (h0 : 0 ≤ q.num) (h1 : (q.den : Int) ≠ 1) : UPS (Lib.decDigits q.num.natAbs ++ 47 :: Lib.decDigits q.den) q := by
  obtain ⟨d1, d2⟩ := digs_dec q.num.natAbs
  obtain ⟨k1, k2⟩ := digs_dec q.den
  have hd := q.den_pos
  refine .inr (.inr ⟨_, _, rfl, d1, canon_dec _, k1, canon_dec _, fun e => ?_, by omega, ?_, ?_⟩)
  · rw [e] at k2
    have : dv [49] = 1 := rfl
    omega
  · rw [d2, k2]
    exact q.reduced
  · rw [d2, k2, Int.natAbs_of_nonneg h0]
    exact (Rat.mkRat_self q).symm
theorem itoa_nat {z : Int} (h : 0 < z) : Lib.itoa z = Lib.decDigits z.natAbs := by
  rw [itoa_fd, if_neg (by omega), if_neg (by omega), fd_pos (by omega)]
theorem itoa_zero : Lib.itoa 0 = Lib.decDigits 0 := by decide +kernel
theorem itoa_nn {z : Int} (h : 0 ≤ z) : Lib.itoa z = Lib.decDigits z.natAbs := by
  rcases Int.lt_or_le 0 z with h1 | h1
  · exact itoa_nat h1
  · obtain rfl : z = 0 := by omega
    exact itoa_zero
theorem itoa_neg {z : Int} (h : z < 0) : Lib.itoa z = 45 :: Lib.decDigits z.natAbs := by
  rw [itoa_fd, if_neg (by omega), if_pos h, fd_pos (by omega)]
theorem dec_no45 (v : Nat) (l : List UInt8) : ∀ t, Lib.decDigits v ++ l ≠ 45 :: t := fun t h => by
  obtain ⟨d1, _⟩ := digs_dec v
  rcases canon_dec v with e | ⟨c, r, e, _⟩
  · rw [e] at h
    injection h with h _
    exact absurd h (by decide)
  · rw [e] at h d1
    injection h with h _
    exact not_dig45 (h ▸ d1 c (List.mem_cons_self ..))
theorem ups_text (q : Rat) (h0 : 0 ≤ q.num) : UPS (Lib.decDigits q.num.natAbs ++ (if (q.den : Int) = 1 then [] else 47 :: Lib.itoa (q.den : Int))) q := by
  by_cases h1 : (q.den : Int) = 1
  · rw [if_pos h1, List.append_nil]
    exact ups_nat q h0 h1
  · rw [if_neg h1, itoa_nn (by omega)]
    exact ups_frac q h0 h1
theorem rps_text (q : Rat) : RPS (ratText q) q := by
  unfold ratText
  rcases Int.lt_or_le q.num 0 with h | h
  · rw [itoa_neg h, List.cons_append, rps_neg]
    refine ⟨fun e => by rw [e] at h; exact absurd h (by decide), ?_⟩
    have := ups_text (-q) (by rw [Rat.neg_num]; omega)
    rw [Rat.neg_num, Int.natAbs_neg, Rat.neg_den] at this
    exact this
  · rw [itoa_nn h, rps_pos (dec_no45 _ _)]
    exact ups_text q h
theorem text_len {w : World} {q : Rat} {s : Bool} {A : Option Addr} {n c : Nat} {t : Bool} {B : Option Addr} {m d : Nat} (h : NR w q 20 s A n c t B m d) : (ratText q).length ≤ 500 := by
  have key : ∀ {z : Int} {s : Bool} {A : Option Addr} {n c : Nat}, NI w z 20 s A n c → (Lib.itoa z).length ≤ 201 := by
    intro z s A n c h
    obtain ⟨xs, hn, hx, hc, hcm, hi, hl⟩ := h.out
    have h1 := fd_len_words hx.1
    rw [← hi.eq, itoa_fd, ival_ab]
    split
    · simp
    · split
      · rw [List.length_cons]; omega
      · omega
  have k1 := key h.num
  have k2 := key h.den
  unfold ratText
  rw [List.length_append]
  split
  · simp; omega
  · rw [List.length_cons]; omega
section
variable {w w' : World} {q p r : Rat} {L : Nat} {s t s' t' u u' : Bool} {A B A' B' C D : Option Addr} {n c m d n' c' m' d' l e0 l' e' : Nat} {xs ys xs' ys' zs zs' : List Nat}
set_option maxHeartbeats 16000000 in
set_option maxRecDepth 100000 in
theorem text2_yes (hA : Awake2) (hT : Tab w) (hP : TabP w) (h : NR w q 20 s A n c t B m d) :
    Calls Tryz.prog 10 #[.agg #[.bool s, .slice A n c, .bool t, .slice B m d]] w fun e w' => e = .returned (.bool true) ∧ Ext w w' := by
  have hlen := text_len h
  have HL := Lib.hid hlen
  clear hlen
  obtain ⟨xs, ys, ra0, rb0, hv0, hn0, hm0, _⟩ := h.raw
  have HF := Lib.hid (show (fewB n m s xs t ys) = true by unfold fewB; rw [decide_eq_true hn0, decide_eq_true hm0, hv0]; rfl)
  have hr0 := And.intro ra0 rb0
  clear ra0 rb0 hv0 hn0 hm0
  have HA := Lib.hid hA
  clear hA
  go_enter Tryz.func10, Tryz.ntmps10
  go_upto_region 1 with (fail)
  obtain ⟨W0, hW, extW, bx, hzz⟩ := box1 w 27 #[.bool s, .slice A n c, .bool t, .slice B m d]
  rw [← hW]
  clear hW hzz
  go_wp2_with fail
  refine (HA.out _ (hT.ext extW) (hP.ext extW)).mono ?_
  rintro e W ⟨rfl, hxt⟩
  replace extW := extW.trans hxt
  replace bx := bx.ext hxt
  clear hxt
  have bx0 := bx.cell 0 (.bool s) rfl
  have bx1 := bx.cell 1 (.slice A n c) rfl
  have bx2 := bx.cell 2 (.bool t) rfl
  have bx3 := bx.cell 3 (.slice B m d) rfl
  have hnb := Box.new W 27 #[.bool s, .slice A n c, .bool t, .slice B m d]
  have e1 := (Ext.refl W).alloc (.cells #[.bool s, .slice A n c, .bool t, .slice B m d] 27)
  go_wp2_with fail
  refine (few1 hnb (hr0.1.ext (extW.trans e1)) (hr0.2.ext (extW.trans e1))).mono ?_
  rintro e W1 ⟨rfl, hxt⟩
  rw [HF.out]
  have ES := e1.trans hxt
  clear hnb e1 hxt
  clear bx0 bx1 bx2 bx3
  clear hr0 HF
  replace bx := bx.ext ES
  replace extW := extW.trans ES
  replace h := h.ext extW
  clear ES
  have bx0 := bx.cell 0 (.bool s) rfl
  have bx1 := bx.cell 1 (.slice A n c) rfl
  have bx2 := bx.cell 2 (.bool t) rfl
  have bx3 := bx.cell 3 (.slice B m d) rfl
  go_wp2_with fail
  refine (law_ownR h (by omega)).mono ?_
  rintro e wa ⟨s1, A1, n1, c1, t1, B1, m1, d1, rfl, h1, hxa⟩
  go_wp2_with fail
  refine (p_FormatR h1 (by omega) (hP.ext (extW.trans hxa))).mono ?_
  rintro e wb ⟨str, rfl, hs, hxb⟩
  have hsz : str.size ≤ 500 := by rw [Lib.size_eq, hs]; exact HL.out
  have HS := Lib.hid hs
  clear h1 hs bx0 bx1 bx2 bx3
  go_wp2_with fail
  refine (p_ParseR str (by omega) (hT.ext (extW.trans (hxa.trans hxb)))).mono ?_
  intro e wc hps
  obtain ⟨s2, A2, n2, c2, t2, B2, m2, d2, rfl, hr, hxc⟩ : RetNRE q 1000 wb e wc := by
    rw [HS.out] at hps
    rcases hps with ⟨q', hq', h⟩ | ⟨hn, _⟩
    · rw [(rps_text q).fun hq']; exact h
    · exact absurd (rps_text q) (hn _)
  clear hps
  go_upto_region 5 with (fail)
  refine at_world (fun V => Ext W1 V ∧ Box V wc.heap.size 27 #[.bool s2, .slice A2 n2 c2, .bool t2, .slice B2 m2 d2] ∧ NR V q 1000 s2 A2 n2 c2 t2 B2 m2 d2) ⟨(hxa.trans (hxb.trans hxc)).alloc _, Box.new wc _ _, hr.ext ((Ext.refl wc).alloc _)⟩ ?_
  generalize wc.heap.size = g4
  clear hxa hxb hxc hr
  rintro V ⟨EV, b4, hr⟩
  replace bx := bx.ext EV
  replace h := h.ext EV
  replace extW := extW.trans EV
  clear EV
  have bx0 := bx.cell 0 (.bool s) rfl
  have bx1 := bx.cell 1 (.slice A n c) rfl
  have bx2 := bx.cell 2 (.bool t) rfl
  have bx3 := bx.cell 3 (.slice B m d) rfl
  go_wp2_with fail
  refine (q_FormatR h (by omega)).mono ?_
  rintro e wd ⟨str2, rfl, hs2, hxd⟩
  obtain rfl : str = str2 := bytes_ext (HS.out.trans hs2.symm)
  clear hs2 bx0 bx1 bx2 bx3
  replace bx := bx.ext hxd
  replace b4 := b4.ext hxd
  replace h := h.ext hxd
  replace hr := hr.ext hxd
  replace extW := extW.trans hxd
  clear hxd
  have bx0 := bx.cell 0 (.bool s) rfl
  have bx1 := bx.cell 1 (.slice A n c) rfl
  have bx2 := bx.cell 2 (.bool t) rfl
  have bx3 := bx.cell 3 (.slice B m d) rfl
  have b40 := b4.cell 0 (.bool s2) rfl
  have b41 := b4.cell 1 (.slice A2 n2 c2) rfl
  have b42 := b4.cell 2 (.bool t2) rfl
  have b43 := b4.cell 3 (.slice B2 m2 d2) rfl
  go_wp2_with fail
  refine (q_Same h hr).mono ?_
  rintro e we ⟨rfl, hxe⟩
  go_wp2_with fail
  go_ret
  exact ⟨rfl, extW.trans hxe⟩
set_option maxHeartbeats 2000000 in
theorem text2_no (hA : Awake2) (hT : Tab w) (hP : TabP w) (hr0 : RI w A n c xs ∧ RI w B m d ys) (hf : (fewB n m s xs t ys) = false) :
    Calls Tryz.prog 10 #[.agg #[.bool s, .slice A n c, .bool t, .slice B m d]] w fun e w' => e = .returned (.bool true) ∧ Ext w w' := by
  have HF := Lib.hid hf
  clear hf
  have HA := Lib.hid hA
  clear hA
  go_enter Tryz.func10, Tryz.ntmps10
  go_upto_region 1 with (fail)
  obtain ⟨W0, hW, extW, bx, hzz⟩ := box1 w 27 #[.bool s, .slice A n c, .bool t, .slice B m d]
  rw [← hW]
  clear hW hzz
  go_wp2_with fail
  refine (HA.out _ (hT.ext extW) (hP.ext extW)).mono ?_
  rintro e W ⟨rfl, hxt⟩
  replace extW := extW.trans hxt
  replace bx := bx.ext hxt
  clear hxt
  have bx0 := bx.cell 0 (.bool s) rfl
  have bx1 := bx.cell 1 (.slice A n c) rfl
  have bx2 := bx.cell 2 (.bool t) rfl
  have bx3 := bx.cell 3 (.slice B m d) rfl
  have hnb := Box.new W 27 #[.bool s, .slice A n c, .bool t, .slice B m d]
  have e1 := (Ext.refl W).alloc (.cells #[.bool s, .slice A n c, .bool t, .slice B m d] 27)
  go_wp2_with fail
  refine (few1 hnb (hr0.1.ext (extW.trans e1)) (hr0.2.ext (extW.trans e1))).mono ?_
  rintro e W1 ⟨rfl, hxt⟩
  rw [HF.out]
  have ES := e1.trans hxt
  clear hnb e1 hxt
  clear bx0 bx1 bx2 bx3
  go_wp2_with fail
  refine (HA.out _ (hT.ext (extW.trans ES)) (hP.ext (extW.trans ES))).mono ?_
  rintro e W2 ⟨rfl, hxt⟩
  go_wp2_with fail
  go_ret
  exact ⟨rfl, (extW.trans ES).trans hxt⟩
theorem text2_any (hA : Awake2) (hT : Tab w) (hP : TabP w) (hr0 : RI w A n c xs ∧ RI w B m d ys) :
    Calls Tryz.prog 10 #[.agg #[.bool s, .slice A n c, .bool t, .slice B m d]] w fun e w' => e = .returned (.bool true) ∧ Ext w w' := by
  cases hf : (fewB n m s xs t ys) with
  | false => exact text2_no hA hT hP hr0 hf
  | true =>
    skip
    have f0 := hf
    obtain ⟨q, h⟩ := few_nr hr0.1 hr0.2 f0
    exact text2_yes hA hT hP h
end
end Go.Proofs.YtiioodgpkdbndaaGreatDoor
namespace Go.Proofs.YtiioodgpkdbndaaGreatDoor
open Go.ChangeShapes Go.WideShapes Go.ChangeAt Go.RowKit Go.Joins
set_option maxRecDepth 100000
theorem text2_laid : Rows.rationalTextRow.laid = laidR := by kernel_rfl
theorem text2_lifted (os : Os) (started : os.Started) (H : Type) (enc : TypeId × Value → H) :
    ReturnsInHanded {} Tryz.checked os 10 .any (fun w args => (Rows.rationalTextSpec.pre enc Tryz.prog Tryz.f10 [] false w args ∧ laidMetH Tryz.prog Rows.rationalTextRow.laid w) ∧ sizedMet enc Tryz.prog Tryz.f10 (OpenSpec.ofChange Rows.rationalTextSpec) false w args)
      (Rows.rationalTextSpec.post enc Tryz.prog Tryz.f10 false true false false) := by
  refine returnsInHanded_of_change_and (C := Tryz.checked) (X := fun w _ => laidMetH Tryz.prog Rows.rationalTextRow.laid w) (fun _ _ _ hh h => h.of_heap hh) Tryz.own started (by kernel_rfl) Tryz.func10
    (ChangeSpec.witness_shaped (enc := enc) (C := Tryz.checked) (os := os) (X := fun w _ => laidMetH Tryz.prog Rows.rationalTextRow.laid w) false (World.laidAll Tryz.prog os Rows.rationalTextRow.laid) #[Value.agg #[.bool false, .slice none 0 0, .bool false, .slice none 0 0]] 8 (World.laidAll_os _ _ _)
      (World.shaped_of_ZipB (by kernel_rfl) (by kernel_rfl)) (by kernel_rfl) (by kernel_rfl) (by kernel_rfl)
      (by rw [MakeChecks.laidMetH_plain _ _ _ (by kernel_rfl)]; exact laidMet_laidAll _ (by kernel_rfl) (by kernel_rfl))) ?_
  intro W base args ds gs before hval0 hW _ _ hL _
  have hval : ∀ (j : Nat) t v, Tryz.f10.params[j]? = some t → args[j]? = some v → Value.okWide Tryz.prog W .any base t v := hval0
  have hW' := hW
  have hlt : ∀ p ∈ before, p.block < W.heap.size := fun p hp => hW.lt p hp
  obtain ⟨p, q, hA0, hV, rfl, _, _⟩ := hW
  have hA : DataW.TrodAll enc Tryz.prog W 0 (fun _ => true) true Tryz.f10.params.toList args.toList ds p := hA0
  rw [Tryz.params10] at hA hval
  obtain ⟨v0, d0, rfl, rfl, h0⟩ := trodAll_one hA
  obtain ⟨rfl, rfl⟩ := trodVars_none hV
  simp only [List.append_nil] at hW' hlt
  obtain ⟨s, A, n, c, t, B, m, d, xs, ys, rfl, hr0, hk0⟩ := open_rat (hval 0 27 v0 rfl rfl) h0
  clear hA0 hval0
  rw [text2_laid] at hL
  obtain ⟨hT, hP⟩ := tabs_of_laid hL
  refine (text2_any awake2 hT hP ⟨hr0, hk0⟩).mono fun e W' ⟨he, hext⟩ => ?_
  subst he
  have hb : Below W.heap.size W W' := hext
  have g0 := Below.trod Tryz.laidOut (by kernel_rfl) (of_decide_eq_true (by kernel_rfl)) h0 hb (fun p hp => hlt p hp)
  exact ⟨_, rfl, _, _, _, [], p, [], hW', trodAll_mk1 (shut_bool Tryz.underlying4 true), trodAll_mk1 g0, rfl, Below.frame hb _, fun h => by cases h⟩
theorem text2_row_holds : Rows.RationalTextSaid :=
  OpenClaim.holds_of_wide 10 Tryz.f10 rfl rfl rfl rfl rfl rfl rfl ⟨rfl, rfl, rfl, rfl, rfl⟩ rfl rfl rfl rfl rfl (by kernel_rfl) Tryz.func10 (by kernel_rfl)
    (of_decide_eq_true (by kernel_rfl)) (by unfold Func.isWrapper; first | (rw [if_neg (of_decide_eq_false (by kernel_rfl))]; exact ⟨rfl, rfl⟩) | (rw [if_pos (by decide +kernel)]; kernel_rfl))
    (fun os started H enc _ => text2_lifted os started H enc)
theorem text2_holds : Rows.RationalTextCardSaid :=
  Claim7.holds_tied_plain_at .later [] [.data, .data, .data, .data, .pinned] true Rows.rationalTextCard.stood.harness false
    text2_row_holds (fun _ h => by cases h) (by kernel_rfl) (fun _ h => by cases h) rationalText_row_tie rfl ⟨rfl, rfl⟩ (by kernel_rfl) rfl
    (fun f fn hf hfn => by
      obtain rfl : f = 10 := Option.some.inj ((show Tryz.prog.funcNamed "setsquare/setsquarelaw02.RationalText" = some 10 by kernel_rfl).symm.trans hf) |>.symm
      obtain rfl : fn = Tryz.f10 := (Option.some.inj (Tryz.func10.symm.trans hfn)).symm
      exact ⟨by kernel_rfl, fun j t ht => by
        rw [Tryz.params10] at ht
        have hm : t ∈ [27] := by simpa using Array.mem_of_getElem? ht
        have hall : ([27].all fun u => !Tryz.prog.wantsStandIn u) = true := by kernel_rfl
        exact (show Tryz.prog.wantsStandIn t = false by simpa using List.all_eq_true.1 hall t hm)⟩)
    (by kernel_rfl)
end Go.Proofs.YtiioodgpkdbndaaGreatDoor
