/- Walks and laws, a part. -/
import Derived.Test.YtgagcochepnelaaGreatDoorP4
import Derived.Test.YtgagcochepnelaaGreatDoorP5
import Derived.Test.YtgagcochepnelaaGreatDoorP3
import Derived.Test.YtgagcochepnelaaGreatDoorP0
import Derived.Test.YtgagcochepnelaaGreatDoorP2
import Derived.Test.YtgagcochepnelaaGreatDoorP1
import Derived.Lib.ItoaNum
import Derived.Lib.Strings
import Derived.Lib.TrimByte
import Derived.Test.YtgagcochepnelaaGreatDoorProg
import Derived.Lib.ItoaMem
import Derived.Laws.BytesArg
import Derived.Maps.AppendAt
set_option linter.unusedSimpArgs false
set_option linter.unusedVariables false
set_option maxHeartbeats 64000000
namespace Go.Proofs.YtgagcochepnelaaGreatDoor
section
open Go.RowKit
section
variable {P : Program} {ops : Array Oper} {Q : Exit -> Act -> World -> Prop} {md : Region.Mode} {W0 : World} {z : Nat}
theorem wpL.first2 {i m : Nat} {oi : Oper} {v : Value} (hi : ops[i]? = some oi) (hs : Region.noSelect ops = true) (hiz : i ≠ z) (him : i ≠ m) (hw1 : Waits md ops i m) (hw2 : Waits md ops m z) (hQ : QStill Q) :
  ∀ (f : Nat) (L : Array Bool) (a : Act) (w : World), L.size = ops.size -> L.getD z false = false -> L.getD m false = false -> L.getD m true = false ->
   (∀ j oj, ops[j]? = some oj -> j ≠ i -> L.getD j true = false -> (∀ e ∈ oj.after, Region.binds md e = true -> e.on ≠ i) -> oi.apart ops oj = true) ->
   i ∈ Region.ready md ops L -> YieldsIf P ops (Ext W0) oi v a -> Ext W0 w ->
   wpL P md ops Q W0 z f (L.setIfInBounds i true) (a.put oi.dst v) w -> wpL P md ops Q W0 z (f + 1) L a w := by
 have hsel := Region.noSelect_spec hs;intro f
 induction f with
 | zero =>
  intro L a w _ _ _ _ _ hr hy hS H;refine ⟨(fun h0 => by rw [h0] at hr; cases hr), fun j hj => ?_⟩
  by_cases hji : j = i
  ·subst hji; exact hy.wpOp hi hS ⟨.inr hS, H⟩
  ·have := ready_mono hj hji
   rw [H.1] at this
   cases this
 | succ f ih =>
  intro L a w hsz hzL hmL hmT hfree hr hy hS H;refine ⟨(fun h0 => by rw [h0] at hr; cases hr), fun j hj => ?_⟩
  by_cases hji : j = i
  ·subst hji; exact hy.wpOp hi hS ⟨.inr hS, H⟩
  ·have hiL := (mem_ready.1 hr).1
   have hjz : j ≠ z := fun e => waits_not hw2 hmT hzL hsz (e ▸ hj)
   have hjm : j ≠ m := fun e => waits_not hw1 hiL hmL hsz (e ▸ hj)
   obtain ⟨hjun, oj, hoj, hall⟩ := mem_ready.1 hj
   have hnot : ∀ e ∈ oj.after, Region.binds md e = true -> e.on ≠ i := fun e he hb hh => by
    have h1 := hall e he hb;rw [hh] at h1
    have hlt : i < L.size := by
     rcases Nat.lt_or_ge i L.size with h | h
     ·exact h
     ·simp [h] at h1
    simp [hlt] at h1 hiL;rw [h1] at hiL
    cases hiL
   have h1 := H.2 j (ready_mono hj hji);have h2 := wpOp_putIf hoj (hfree j oj hoj hji hjun hnot) (fun cs b => hsel i oi cs b hi) (fun cs b => hsel j oj cs b hoj) (fun c a w => (hQ.put c a _ _ w).1) hy h1;refine wpOp_mono (fun a' w' h3 => ?_) h2;obtain ⟨hy', hS', H'⟩ := h3
   have hzz : ((L.setIfInBounds i true).setIfInBounds j true).getD z false = false := by
    rw [getD_set_ne false hjz, getD_set_ne false hiz]; exact hzL
   have hE : Ext W0 w' := by
    rcases hS' with h | h
    ·rw [hzz] at h; cases h
    ·exact h
   refine ⟨.inr hE, ih (L.setIfInBounds j true) a' w' (by simpa using hsz) (by rw [getD_set_ne false hjz]; exact hzL) (by rw [getD_set_ne false hjm]; exact hmL) (by rw [getD_set_ne true hjm]; exact hmT) ?_ (ready_mono hr (Ne.symm hji)) hy' hE ?_⟩
   ·intro k ok hk hki hun hno
    refine hfree k ok hk hki ?_ hno
    by_cases hjk : j = k
    ·subst hjk; exact hjun
    ·rwa [getD_set_ne true hjk] at hun
   ·rw [Array.setIfInBounds_comm _ _ hji]
    exact H'
theorem wpL.take2 {f i : Nat} {oi : Oper} {d : Option Tmp} {v : Value} {L : Array Bool} {a : Act} {w : World} (m : Nat) (hi : ops[i]? = some oi) (hd : oi.dst = d) (hs : Region.noSelect ops = true) (hf : Region.free md ops L i = true)
  (hr : (Region.ready md ops L).contains i = true) (hz : (i != z && i != m && waitsB md ops i m && waitsB md ops m z && !L.getD z false && !L.getD m false && !L.getD m true && L.size == ops.size) = true) (hQ : QStill Q) (hy : YieldsIf P ops (Ext W0) oi v a) (hS : Ext W0 w)
  (h : wpL P md ops Q W0 z f (L.setIfInBounds i true) (a.put d v) w) : wpL P md ops Q W0 z (f + 1) L a w := by
 subst hd;simp only [Bool.and_eq_true, bne_iff_ne, Bool.not_eq_true', beq_iff_eq] at hz;obtain ⟨⟨⟨⟨⟨⟨⟨h1, h2⟩, h3⟩, h4⟩, h5⟩, h6⟩, h7⟩, h8⟩ := hz;exact wpL.first2 hi hs h1 h2 (waitsB_spec h3) (waitsB_spec h4) hQ f L a w h8 h5 h6 h7 (fun j oj hj hne hun hno => Region.free_spec hi hf j oj hj hne hun hno) (by simpa using hr) hy hS h
theorem wpL.firstB {i : Nat} {oi : Oper} {v : Value} (B : List Nat) (hi : ops[i]? = some oi) (hs : Region.noSelect ops = true) (hB : ∀ k ∈ B, ∃ k' ∈ i :: B, Waits md ops k' k) (hzB : z ∈ B) (hiB : i ∉ B) (hQ : QStill Q) :
  ∀ (f : Nat) (L : Array Bool) (a : Act) (w : World), L.size = ops.size -> (∀ k ∈ B, L.getD k false = false /\ L.getD k true = false) ->
   (∀ j oj, ops[j]? = some oj -> j ≠ i -> L.getD j true = false -> (∀ e ∈ oj.after, Region.binds md e = true -> e.on ≠ i) -> oi.apart ops oj = true) ->
   i ∈ Region.ready md ops L -> YieldsIf P ops (Ext W0) oi v a -> Ext W0 w ->
   wpL P md ops Q W0 z f (L.setIfInBounds i true) (a.put oi.dst v) w -> wpL P md ops Q W0 z (f + 1) L a w := by
 have hsel := Region.noSelect_spec hs;have hiz : i ≠ z := fun e => hiB (e ▸ hzB)
 intro f
 induction f with
 | zero =>
  intro L a w _ _ _ hr hy hS H;refine ⟨(fun h0 => by rw [h0] at hr; cases hr), fun j hj => ?_⟩
  by_cases hji : j = i
  ·subst hji; exact hy.wpOp hi hS ⟨.inr hS, H⟩
  ·have := ready_mono hj hji
   rw [H.1] at this
   cases this
 | succ f ih =>
  intro L a w hsz hBL hfree hr hy hS H;refine ⟨(fun h0 => by rw [h0] at hr; cases hr), fun j hj => ?_⟩
  by_cases hji : j = i
  ·subst hji; exact hy.wpOp hi hS ⟨.inr hS, H⟩
  ·have hiL := (mem_ready.1 hr).1
   have hjB : j ∉ B := fun hb => by
    obtain ⟨k', hk', hw⟩ := hB j hb
    have hk1 : L.getD k' true = false := by
     rcases List.mem_cons.1 hk' with rfl | hk'
     ·exact hiL
     ·exact (hBL k' hk').2
    exact waits_not hw hk1 (hBL j hb).1 hsz hj
   have hjz : j ≠ z := fun e => hjB (e ▸ hzB)
   obtain ⟨hjun, oj, hoj, hall⟩ := mem_ready.1 hj
   have hnot : ∀ e ∈ oj.after, Region.binds md e = true -> e.on ≠ i := fun e he hb hh => by
    have h1 := hall e he hb;rw [hh] at h1
    have hlt : i < L.size := by
     rcases Nat.lt_or_ge i L.size with h | h
     ·exact h
     ·simp [h] at h1
    simp [hlt] at h1 hiL;rw [h1] at hiL
    cases hiL
   have h1 := H.2 j (ready_mono hj hji);have h2 := wpOp_putIf hoj (hfree j oj hoj hji hjun hnot) (fun cs b => hsel i oi cs b hi) (fun cs b => hsel j oj cs b hoj) (fun c a w => (hQ.put c a _ _ w).1) hy h1;refine wpOp_mono (fun a' w' h3 => ?_) h2;obtain ⟨hy', hS', H'⟩ := h3
   have hzz : ((L.setIfInBounds i true).setIfInBounds j true).getD z false = false := by
    rw [getD_set_ne false hjz, getD_set_ne false hiz]; exact (hBL z hzB).1
   have hE : Ext W0 w' := by
    rcases hS' with h | h
    ·rw [hzz] at h; cases h
    ·exact h
   refine ⟨.inr hE, ih (L.setIfInBounds j true) a' w' (by simpa using hsz) (fun k hk => ?_) ?_ (ready_mono hr (Ne.symm hji)) hy' hE ?_⟩
   ·have hjk : j ≠ k := fun e => hjB (e ▸ hk)
    rw [getD_set_ne false hjk, getD_set_ne true hjk];exact hBL k hk
   ·intro k ok hk hki hun hno
    refine hfree k ok hk hki ?_ hno
    by_cases hjk : j = k
    ·subst hjk; exact hjun
    ·rwa [getD_set_ne true hjk] at hun
   ·rw [Array.setIfInBounds_comm _ _ hji]
    exact H'
theorem wpL.takeB {f i : Nat} {oi : Oper} {d : Option Tmp} {v : Value} {L : Array Bool} {a : Act} {w : World} (B : List Nat) (hi : ops[i]? = some oi) (hd : oi.dst = d) (hs : Region.noSelect ops = true) (hf : Region.free md ops L i = true)
  (hr : (Region.ready md ops L).contains i = true) (hz : (B.all (fun k => (i :: B).any (fun k' => waitsB md ops k' k)) && B.contains z && !B.contains i && B.all (fun k => !L.getD k false && !L.getD k true) && L.size == ops.size) = true) (hQ : QStill Q) (hy : YieldsIf P ops (Ext W0) oi v a) (hS : Ext W0 w)
  (h : wpL P md ops Q W0 z f (L.setIfInBounds i true) (a.put d v) w) : wpL P md ops Q W0 z (f + 1) L a w := by
 subst hd;simp only [Bool.and_eq_true, Bool.not_eq_true', beq_iff_eq, List.all_eq_true, List.any_eq_true] at hz;obtain ⟨⟨⟨⟨h1, h2⟩, h3⟩, h4⟩, h5⟩ := hz;refine wpL.firstB B hi hs (fun k hk => ?_) (by simpa using h2) (by simpa using h3) hQ f L a w h5 (fun k hk => ?_) (fun j oj hj hne hun hno => Region.free_spec hi hf j oj hj hne hun hno) (by simpa using hr) hy hS h
 ·obtain ⟨k', hk', hw⟩ := h1 k hk
  exact ⟨k', hk', waitsB_spec hw⟩
 ·exact h4 k hk
theorem wpL.tkB {f i : Nat} {oi : Oper} {d : Option Tmp} {v : Value} {L : Array Bool} {a : Act} {w : World} (B : List Nat) (hi : ops[i]? = some oi) (hd : oi.dst = d) (hQ : QStill Q) (hy : YieldsIf P ops (Ext W0) oi v a) (hS : Ext W0 w) (h : wpL P md ops Q W0 z f (L.setIfInBounds i true) (a.put d v) w) (hs : Region.noSelect ops = true := by kernel_rfl) (hf : Region.free md ops L i = true := by kernel_rfl) (hr : (Region.ready md ops L).contains i = true := by kernel_rfl) (hz : (B.all (fun k => (i :: B).any (fun k' => waitsB md ops k' k)) && B.contains z && !B.contains i && B.all (fun k => !L.getD k false && !L.getD k true) && L.size == ops.size) = true := by kernel_rfl) : wpL P md ops Q W0 z (f + 1) L a w := wpL.takeB B hi hd hs hf hr hz hQ hy hS h
theorem wpL.tB {f : Nat} {oi : Oper} {L : Array Bool} {a : Act} {w : World} (B : List Nat) (i : Nat) (d : Tmp) (v : Value) (hQ : QStill Q) (hy : ∀ w, Ext W0 w -> (execOp a.eval oi).run P w = .ok (.value v) w) (hS : Ext W0 w) (h : wpL P md ops Q W0 z f (L.setIfInBounds i true) (a.put (some d) v) w) (hi : ops[i]? = some oi := by exact rfl) (hd : oi.dst = some d := by exact rfl) (hw : Region.wanted oi (yielded ops a.tmps) = true := by exact rfl) (hs : Region.noSelect ops = true := by kernel_rfl) (hf : Region.free md ops L i = true := by kernel_rfl) (hr : (Region.ready md ops L).contains i = true := by kernel_rfl) (hz : (B.all (fun k => (i :: B).any (fun k' => waitsB md ops k' k)) && B.contains z && !B.contains i && B.all (fun k => !L.getD k false && !L.getD k true) && L.size == ops.size) = true := by kernel_rfl) : wpL P md ops Q W0 z (f + 1) L a w := wpL.takeB B hi hd hs hf hr hz hQ (Or.inl ⟨hw, hy⟩) hS h
theorem wpL.uB {f : Nat} {oi : Oper} {v : Value} {L : Array Bool} {a : Act} {w : World} (B : List Nat) (i : Nat) (d : Tmp) (hQ : QStill Q) (hS : Ext W0 w) (h : wpL P md ops Q W0 z f (L.setIfInBounds i true) (a.put (some d) v) w) (hi : ops[i]? = some oi := by exact rfl) (hd : oi.dst = some d := by exact rfl) (hw : Region.wanted oi (yielded ops a.tmps) = true := by exact rfl) (hs : Region.noSelect ops = true := by kernel_rfl) (hf : Region.free md ops L i = true := by kernel_rfl) (hr : (Region.ready md ops L).contains i = true := by kernel_rfl) (hz : (B.all (fun k => (i :: B).any (fun k' => waitsB md ops k' k)) && B.contains z && !B.contains i && B.all (fun k => !L.getD k false && !L.getD k true) && L.size == ops.size) = true := by kernel_rfl) (hy : ∀ w, Ext W0 w -> (execOp a.eval oi).run P w = .ok (.value v) w := by intro w hSw; go_simp; try rfl) : wpL P md ops Q W0 z (f + 1) L a w := wpL.takeB B hi hd hs hf hr hz hQ (Or.inl ⟨hw, hy⟩) hS h
theorem wpL.firstT {i : Nat} {oi : Oper} {v : Value} (hi : ops[i]? = some oi) (hs : Region.noSelect ops = true) (hiz : i ≠ z) (hQ : QStill Q) :
  ∀ (f : Nat) (L : Array Bool) (a : Act) (w : World),
   (∀ j oj, ops[j]? = some oj -> j ≠ i -> L.getD j true = false -> (∀ e ∈ oj.after, Region.binds md e = true -> e.on ≠ i) -> oi.apart ops oj = true) ->
   i ∈ Region.ready md ops L -> YieldsIf P ops (fun _ => True) oi v a -> (L.getD z false = true \/ Ext W0 w) ->
   wpL P md ops Q W0 z f (L.setIfInBounds i true) (a.put oi.dst v) w -> wpL P md ops Q W0 z (f + 1) L a w := by
 have hsel := Region.noSelect_spec hs;intro f
 induction f with
 | zero =>
  intro L a w _ hr hy hS H;refine ⟨(fun h0 => by rw [h0] at hr; cases hr), fun j hj => ?_⟩
  by_cases hji : j = i
  ·subst hji; exact hy.wpOp hi trivial ⟨by rw [getD_set_ne false hiz]; exact hS, H⟩
  ·have := ready_mono hj hji
   rw [H.1] at this
   cases this
 | succ f ih =>
  intro L a w hfree hr hy hS H;refine ⟨(fun h0 => by rw [h0] at hr; cases hr), fun j hj => ?_⟩
  by_cases hji : j = i
  ·subst hji; exact hy.wpOp hi trivial ⟨by rw [getD_set_ne false hiz]; exact hS, H⟩
  ·have hiL := (mem_ready.1 hr).1
   obtain ⟨hjun, oj, hoj, hall⟩ := mem_ready.1 hj
   have hnot : ∀ e ∈ oj.after, Region.binds md e = true -> e.on ≠ i := fun e he hb hh => by
    have h1 := hall e he hb;rw [hh] at h1
    have hlt : i < L.size := by
     rcases Nat.lt_or_ge i L.size with h | h
     ·exact h
     ·simp [h] at h1
    simp [hlt] at h1 hiL;rw [h1] at hiL
    cases hiL
   have h1 := H.2 j (ready_mono hj hji);have h2 := wpOp_putIf hoj (hfree j oj hoj hji hjun hnot) (fun cs b => hsel i oi cs b hi) (fun cs b => hsel j oj cs b hoj) (fun c a w => (hQ.put c a _ _ w).1) hy h1;refine wpOp_mono (fun a' w' h3 => ?_) h2;obtain ⟨hy', hS', H'⟩ := h3;have hcm : (L.setIfInBounds i true).setIfInBounds j true = (L.setIfInBounds j true).setIfInBounds i true := Array.setIfInBounds_comm _ _ (Ne.symm hji)
   have hS2 : (L.setIfInBounds j true).getD z false = true \/ Ext W0 w' := by
    rcases hS' with h | h
    ·rw [hcm, getD_set_ne false hiz] at h; exact .inl h
    ·exact .inr h
   refine ⟨hS2, ih (L.setIfInBounds j true) a' w' ?_ (ready_mono hr (Ne.symm hji)) hy' hS2 ?_⟩
   ·intro k ok hk hki hun hno
    refine hfree k ok hk hki ?_ hno
    by_cases hjk : j = k
    ·subst hjk; exact hjun
    ·rwa [getD_set_ne true hjk] at hun
   ·rw [Array.setIfInBounds_comm _ _ hji]
    exact H'
theorem wpL.takeT {f i : Nat} {oi : Oper} {d : Option Tmp} {v : Value} {L : Array Bool} {a : Act} {w : World} (hi : ops[i]? = some oi) (hd : oi.dst = d) (hs : Region.noSelect ops = true) (hf : Region.free md ops L i = true)
  (hr : (Region.ready md ops L).contains i = true) (hz : (i != z) = true) (hQ : QStill Q) (hy : YieldsIf P ops (fun _ => True) oi v a) (hS : L.getD z false = true \/ Ext W0 w)
  (h : wpL P md ops Q W0 z f (L.setIfInBounds i true) (a.put d v) w) : wpL P md ops Q W0 z (f + 1) L a w := by
 subst hd;exact wpL.firstT hi hs (by simpa using hz) hQ f L a w (fun j oj hj hne hun hno => Region.free_spec hi hf j oj hj hne hun hno) (by simpa using hr) hy hS h
end
end
section
open Go.RowKit
attribute [local go_sem ↓] Go.wp_at_zero Go.wp_at_succ
section
variable {w w' : World} {z y : Int} {q p : Rat} {L M : Nat} {s t s' t' : Bool} {A B A' B' : Option Addr} {n c m d n' c' m' d' : Nat}
theorem at_exit {F : Exit -> Act -> World -> Prop} {e : Exit} {a : Act} {w : World} (C : World -> Prop) (h : C w) (k : ∀ W, C W -> F e a W) : F e a w := k w h
def RetNRE (q : Rat) (L : Nat) (w : World) (e : Ending) (w' : World) : Prop :=
 ∃ s A n c t B m d, e = .returned (.tuple #[.agg #[.bool s, .slice A n c, .bool t, .slice B m d], .int .i64 0]) /\ NR w' q L s A n c t B m d /\ Ext w w'
theorem q_one (h : NI w z L s A n c) : Calls Tryz.prog 55 #[.agg #[.bool s, .slice A n c]] w fun e w' => e = .returned (.bool (decide (z = 1))) /\ Ext w w' := by
 have h1 := h.one_iff
 by_cases hn : n = 1
 ·subst hn
  obtain ⟨xs, hl, hx, _⟩ := h.out;obtain ⟨b, off, rfl, hb, hc⟩ := hx.at_ (i := 0) (by omega);simp only [Nat.add_zero] at hc
  cases s with
  | true =>
   have hd : decide (z = 1) = false := decide_eq_false fun hz => by have := (h1.1 hz).1; cases this
   rw [hd];generalize (xs[0]'(by omega) : Nat) = k at hc;have hc2 := ((Ext.refl w).alloc (.cells #[.bool true, .slice (some ⟨b, off, none⟩) 1 c] 28)).cellv hc;clear h1 h hx hl
   by_cases hk : (k : Int) = 1
   ·have hb1 : ((k : Int) == 1) = true := beq_iff_eq.2 hk
    go_enter Tryz.func55, Tryz.ntmps55
    go_wp2
    all_goals (go_ret; exact ⟨rfl, (Ext.refl w).alloc _⟩)
   ·have hb1 : ((k : Int) == 1) = false := beq_eq_false_iff_ne.2 hk
    go_enter Tryz.func55, Tryz.ntmps55
    go_wp2
    all_goals (go_ret; exact ⟨rfl, (Ext.refl w).alloc _⟩)
  | false =>
   have hv : (decide (z = 1)) = (((xs[0]'(by omega) : Nat) : Int) == 1) := by
    by_cases hz : z = 1
    ·obtain ⟨_, _, b', off', hA, hc'⟩ := h1.1 hz
     injection hA with hA
     injection hA with e1 e2
     subst e1; subst e2;rw [hc] at hc'
     injection hc' with hc'
     injection hc' with _ hc'
     rw [hc'];simp [hz]
    ·have : ¬ ((xs[0]'(by omega) : Nat) : Int) = 1 := fun h2 => hz (h1.2 ⟨rfl, rfl, b, off, rfl, by rw [hc, h2]⟩)
     rw [decide_eq_false hz];exact (beq_eq_false_iff_ne.2 this).symm
   rw [hv];generalize (xs[0]'(by omega) : Nat) = k at hc;have hc2 := ((Ext.refl w).alloc (.cells #[.bool false, .slice (some ⟨b, off, none⟩) 1 c] 28)).cellv hc;clear h1 h hv hx hl
   by_cases hk : (k : Int) = 1
   ·have hb1 : ((k : Int) == 1) = true := beq_iff_eq.2 hk
    rw [hb1]
    go_enter Tryz.func55, Tryz.ntmps55
    go_wp2
    all_goals (go_ret; exact ⟨rfl, (Ext.refl w).alloc _⟩)
   ·have hb1 : ((k : Int) == 1) = false := beq_eq_false_iff_ne.2 hk
    rw [hb1]
    go_enter Tryz.func55, Tryz.ntmps55
    go_wp2
    all_goals (go_ret; exact ⟨rfl, (Ext.refl w).alloc _⟩)
 ·have hd : decide (z = 1) = false := decide_eq_false fun hz => hn (h1.1 hz).2.1
  have hn2 : ((n : Int) == 1) = false := by rw [beq_eq_false_iff_ne]; omega
  rw [hd]
  go_enter Tryz.func55, Tryz.ntmps55
  go_wp2
  all_goals (go_ret; exact ⟨rfl, (Ext.refl w).alloc _⟩)
theorem q_FromIntR (k : Int) (h0 : -9223372036854775808 <= k) (h1 : k < 9223372036854775808) : Calls Tryz.prog 40 #[.int .i64 k] w (RetNR (k : Rat) 2 w) := by
 go_enter Tryz.func40, Tryz.ntmps40
 go_upto_region 1 with (fail)
 obtain ⟨W, hW, extW, bz, hz⟩ := box1 w 30 #[Value.bool false, Value.slice none 0 0, Value.bool false, Value.slice none 0 0];rw [<- hW];clear hW
 go_wp2_with fail
 refine (q_FromInt k h0 h1).mono ?_;rintro e wa ⟨s1, A1, n1, c1, rfl, hk, hx0⟩
 go_wp2_with fail
 refine (q_FromInt 1 (by omega) (by omega)).mono ?_;rintro e wb ⟨s2, A2, n2, c2, rfl, hr, hx1⟩;have hE := hx0.trans hx1;have z0 := (bz.ext hE).cell 0 _ rfl;have z1 := (bz.ext hE).cell 1 _ rfl;have z2 := (bz.ext hE).cell 2 _ rfl;have z3 := (bz.ext hE).cell 3 _ rfl;have f0 := (bz.ext hE).frozen 0;have f1 := (bz.ext hE).frozen 1;have f2 := (bz.ext hE).frozen 2;have f3 := (bz.ext hE).frozen 3
 go_wp2_with fail
 obtain ⟨b1, b2, b3, b4⟩ := fin_quad (s := s1) (A := A1) (n := n1) (c := c1) (t := s2) (B := A2) (m := n2) (d := c2) (bz.ext hE);have r0 := b1.cell 0 (.bool s1) rfl;have r1 := b1.cell 1 (.slice A1 n1 c1) rfl;have r2 := b1.cell 2 (.bool s2) rfl;have r3 := b1.cell 3 (.slice A2 n2 c2) rfl;unfold set4 at r0 r1 r2 r3;refine bodyPost_ret (v := .agg #[.bool s1, .slice A1 n1 c1, .bool s2, .slice A2 n2 c2]) (by simp [results, Tryz.results40, go_sem, r0, r1, r2, r3]) rfl ⟨s1, A1, n1, c1, s2, A2, n2, c2, rfl, ⟨?_, ?_⟩, b3 _ (extW.trans hE) (by omega)⟩
 ·exact b2 _ _ _ _ _ _ (hk.ext hx1)
 ·exact b2 _ _ _ _ _ _ hr
theorem q_SameInt (h : NI w z L s A n c) (k : NI w z M t B m d) : Calls Tryz.prog 81 #[.agg #[.bool s, .slice A n c], .agg #[.bool t, .slice B m d]] w fun e w' => e = .returned (.bool true) /\ Ext w w' := by
 obtain ⟨xs, hn, hx, hc, hcm, hi, hl⟩ := h.out;obtain ⟨ys, hm, hy, hd, hdm, hj, hk⟩ := k.out;obtain ⟨rfl, rfl⟩ := hi.unique hj;obtain rfl : n = m := by omega
 have hN9 : n <= 9223372036854775807 := by unfold maxLen at hcm; omega
 have Hn := Lib.hid hn;clear h k hi hj hl hk hn hm
 go_enter Tryz.func81, Tryz.ntmps81
 go_upto_region 1 with (fail)
 obtain ⟨W, hW, extW, bx, by_, hz⟩ := box2 w 28 28 #[.bool s, .slice A n c] #[.bool s, .slice B n d];rw [<- hW];clear hW;replace hx := hx.ext extW;replace hy := hy.ext extW;have x0 := bx.cell 0 (.bool s) rfl;have x1 := bx.cell 1 (.slice A n c) rfl;have y0 := by_.cell 0 (.bool s) rfl;have y1 := by_.cell 1 (.slice B n d) rfl;have hss : (s != s) = false := by simp
 have hnn : ((n : Int) != (n : Int)) = false := by simp
 go_wp2
 clear x0 x1 y0 y1 hss hnn
 go_loopw [5] (fun i V => ∃ k : Nat, i = .int .i64 (k : Int) /\ k <= n /\ Ext W V) (fun i _ => n - (intOf i).toNat)
 case atStart => exact ⟨0, rfl, by omega, Ext.refl _⟩
 case round =>
  obtain ⟨k, rfl, hk, hext⟩ := hrel;have x1 := (bx.ext hext).cell 1 (.slice A n c) rfl;have y1 := (by_.ext hext).cell 1 (.slice B n d) rfl
  by_cases hlt : k < n
  ·have hlx : k < xs.length := by rw [Hn.out]; exact hlt
   obtain ⟨b1, o1, rfl, hb1, hc1⟩ := (hx.ext hext).at_ hlx;obtain ⟨b2, o2, rfl, hb2, hc2⟩ := (hy.ext hext).at_ hlx;generalize xs[k] = v at hc1 hc2;have hne : ((v : Int) != (v : Int)) = false := by simp
   have i1 : (k : Int) < (n : Int) := by omega
   go_upto_region 6 with (fail)
   go_quiet (fail)
   go_wp2_with fail
   go_roundw
   case rel => exact ⟨k + 1, by go_num, by omega, hext.drewN _⟩
   case measure => simp [intOf]; omega
  ·have hlt2 : decide ((k : Int) < (n : Int)) = false := decide_eq_false (by omega)
   go_wp2
   go_ret
   exact ⟨rfl, extW.trans hext⟩
theorem q_Same (h : NR w q L s A n c t B m d) (k : NR w q M s' A' n' c' t' B' m' d') : Calls Tryz.prog 37 #[.agg #[.bool s, .slice A n c, .bool t, .slice B m d], .agg #[.bool s', .slice A' n' c', .bool t', .slice B' m' d']] w fun e w' => e = .returned (.bool true) /\ Ext w w' := by
 go_enter Tryz.func37, Tryz.ntmps37
 go_upto_region 1 with (fail)
 obtain ⟨W, hW, extW, bx, by_, hz⟩ := box2 w 30 30 #[.bool s, .slice A n c, .bool t, .slice B m d] #[.bool s', .slice A' n' c', .bool t', .slice B' m' d'];rw [<- hW];clear hW;replace h := h.ext extW;replace k := k.ext extW;have x0 := bx.cell 0 (.bool s) rfl;have x1 := bx.cell 1 (.slice A n c) rfl;have x2 := bx.cell 2 (.bool t) rfl;have x3 := bx.cell 3 (.slice B m d) rfl;have y0 := by_.cell 0 (.bool s') rfl;have y1 := by_.cell 1 (.slice A' n' c') rfl;have y2 := by_.cell 2 (.bool t') rfl;have y3 := by_.cell 3 (.slice B' m' d') rfl
 go_wp2_with fail
 refine (q_SameInt h.num k.num).mono ?_;rintro e wb ⟨rfl, hxb⟩;replace bx := bx.ext hxb;replace by_ := by_.ext hxb;replace h := h.ext hxb;replace k := k.ext hxb;replace extW := extW.trans hxb;clear hxb x0 x1 x2 x3 y0 y1 y2 y3;have x0 := bx.cell 0 (.bool s) rfl;have x1 := bx.cell 1 (.slice A n c) rfl;have x2 := bx.cell 2 (.bool t) rfl;have x3 := bx.cell 3 (.slice B m d) rfl;have y0 := by_.cell 0 (.bool s') rfl;have y1 := by_.cell 1 (.slice A' n' c') rfl;have y2 := by_.cell 2 (.bool t') rfl;have y3 := by_.cell 3 (.slice B' m' d') rfl
 go_wp2_with fail
 refine (q_SameInt h.den k.den).mono ?_;rintro e wc ⟨rfl, hxc⟩
 go_wp2_with fail
 go_ret
 exact ⟨rfl, extW.trans hxc⟩
end
theorem ival_abs {s : Bool} {xs : List Nat} (h : 0 <= ival s xs) : ival s xs = (val xs : Int) := by
 unfold ival at *
 cases s <;> simp at h ⊢ <;> omega
theorem validB_int {z : Int} {b : Bool} {rs : List Nat} (h : IsInt z b rs) : validB b rs = true := by
 have hn := h.nrm;unfold Nrm at hn;have hs := h.sgn;unfold validB;rw [hn]
 cases rs with
 | nil => rw [hs rfl]; rfl
 | cons a l => simp
structure RI (w : World) (A : Option Addr) (n c : Nat) (xs : List Nat) : Prop where
 len : xs.length = n
 rd : Rd w A xs
 cap : n <= c
 top : c <= maxLen
theorem RI.ext {w w' : World} {A : Option Addr} {n c : Nat} {xs : List Nat} (h : RI w A n c xs) (e : Ext w w') : RI w' A n c xs := ⟨h.len, h.rd.ext e, h.cap, h.top⟩
def validQ (s : Bool) (xs : List Nat) (t : Bool) (ys : List Nat) : Bool := validB s xs && (validB t ys && (decide (0 < ival t ys) && decide (((Nat.gcd (val xs) (val ys) : Nat) : Int) = 1)))
theorem validB_is {s : Bool} {xs : List Nat} (h : validB s xs = true) (hw : W32 xs) : IsInt (ival s xs) s xs := by
 unfold validB at h;rw [Bool.and_eq_true, decide_eq_true_eq] at h;obtain ⟨h1, h2⟩ := h;have hn : Nrm xs := by unfold Nrm; rw [trimL_take, h1, List.take_length]
 refine ⟨hw, hn, fun h0 => ?_, rfl⟩;subst h0
 simpa using h2
theorem NI.of_raw {w : World} {s : Bool} {A : Option Addr} {n c : Nat} {xs : List Nat} {L : Nat} (h : RI w A n c xs) (hv : validB s xs = true) (hl : n <= L) : NI w (ival s xs) L s A n c :=
 ⟨xs, h.len, h.rd, h.cap, h.top, validB_is hv h.rd.1, hl⟩
theorem NR.of_raw {w : World} {s : Bool} {A : Option Addr} {n c : Nat} {xs : List Nat} {t : Bool} {B : Option Addr} {m d : Nat} {ys : List Nat} {L : Nat} (h : RI w A n c xs) (k : RI w B m d ys) (hv : validQ s xs t ys = true) (hn : n <= L) (hm : m <= L) :
  ∃ q : Rat, NR w q L s A n c t B m d := by
 unfold validQ at hv;simp only [Bool.and_eq_true, decide_eq_true_eq] at hv;obtain ⟨h1, h2, h3, h4⟩ := hv;have hg : Nat.gcd (val xs) (val ys) = 1 := by omega
 have hy : ival t ys = (val ys : Int) := ival_abs (by omega);refine ⟨⟨ival s xs, val ys, by omega, by rw [ival_ab]; exact hg⟩, NI.of_raw h h1 hn, ?_⟩
 show NI w ((val ys : Nat) : Int) L t B m d
 rw [<- hy];exact NI.of_raw k h2 hm
theorem NR.raw {w : World} {q : Rat} {L : Nat} {s : Bool} {A : Option Addr} {n c : Nat} {t : Bool} {B : Option Addr} {m d : Nat} (h : NR w q L s A n c t B m d) :
  ∃ xs ys, RI w A n c xs /\ RI w B m d ys /\ validQ s xs t ys = true /\ n <= L /\ m <= L /\ (∀ w' A' c' B' d', RI w' A' n c' xs -> RI w' B' m d' ys -> NR w' q L s A' n c' t B' m d') := by
 obtain ⟨xs, h1, h2, h3, h4, h5, h6⟩ := h.num.out;obtain ⟨ys, k1, k2, k3, k4, k5, k6⟩ := h.den.out;refine ⟨xs, ys, ⟨h1, h2, h3, h4⟩, ⟨k1, k2, k3, k4⟩, ?_, h6, k6, fun w' A' c' B' d' r1 r2 => ⟨⟨xs, r1.len, r1.rd, r1.cap, r1.top, h5, h6⟩, ⟨ys, r2.len, r2.rd, r2.cap, r2.top, k5, k6⟩⟩⟩;unfold validQ;rw [validB_int h5, validB_int k5, h5.abs, k5.abs, k5.eq];have hd := q.den_pos;have hr := q.reduced;unfold Nat.Coprime at hr;simp [hr];omega
section
variable {w w' : World} {z y : Int} {q p : Rat} {L M : Nat} {s t s' t' : Bool} {A B A' B' : Option Addr} {n c m d n' c' m' d' : Nat} {xs ys xs' ys' : List Nat}
theorem q_ValidRaw (h : RI w A n c xs) (k : RI w B m d ys) (h1 : n <= 3000) (h2 : m <= 3000) : Calls Tryz.prog 18 #[.agg #[.bool s, .slice A n c, .bool t, .slice B m d]] w fun e w' => e = .returned (.bool (validQ s xs t ys)) /\ Ext w w' := by
 obtain ⟨r, hr⟩ : ∃ r, validQ s xs t ys = r := ⟨_, rfl⟩;have HR := Lib.hid hr;rw [hr];clear hr
 go_enter Tryz.func18, Tryz.ntmps18
 go_upto_region 1 with (fail)
 obtain ⟨W, hW, extW, bx, hz⟩ := box1 w 30 #[.bool s, .slice A n c, .bool t, .slice B m d];rw [<- hW];clear hW;replace h := h.ext extW;replace k := k.ext extW;have x0 := bx.cell 0 (.bool s) rfl;have x1 := bx.cell 1 (.slice A n c) rfl;have x2 := bx.cell 2 (.bool t) rfl;have x3 := bx.cell 3 (.slice B m d) rfl
 go_wp2_with fail
 refine (ref_Valid h.len h.rd h.cap h.top (by omega)).mono ?_;rintro e wa ⟨rfl, hxa⟩;replace bx := bx.ext hxa;replace h := h.ext hxa;replace k := k.ext hxa;replace extW := extW.trans hxa;clear hxa x0 x1 x2 x3;have x0 := bx.cell 0 (.bool s) rfl;have x1 := bx.cell 1 (.slice A n c) rfl;have x2 := bx.cell 2 (.bool t) rfl;have x3 := bx.cell 3 (.slice B m d) rfl
 cases hv1 : validB s xs with
 | false =>
  go_wp2_with fail
  go_ret
  exact ⟨by rw [<- HR.out]; unfold validQ; rw [hv1]; rfl, extW⟩
 | true =>
  go_wp2_with fail
  refine (ref_Valid k.len k.rd k.cap k.top (by omega)).mono ?_;rintro e wb ⟨rfl, hxb⟩;replace bx := bx.ext hxb;replace h := h.ext hxb;replace k := k.ext hxb;replace extW := extW.trans hxb;clear hxb x0 x1 x2 x3;have x0 := bx.cell 0 (.bool s) rfl;have x1 := bx.cell 1 (.slice A n c) rfl;have x2 := bx.cell 2 (.bool t) rfl;have x3 := bx.cell 3 (.slice B m d) rfl
  cases hv2 : validB t ys with
  | false =>
   go_wp2_with fail
   go_ret
   exact ⟨by rw [<- HR.out]; unfold validQ; rw [hv1, hv2]; rfl, extW⟩
  | true =>
   have H1 := NI.of_raw (L := 3000) h hv1 h1;have H2 := NI.of_raw (L := 3000) k hv2 h2;have hvq : validQ s xs t ys = (decide (0 < ival t ys) && decide (((Nat.gcd (val xs) (val ys) : Nat) : Int) = 1)) := by unfold validQ; rw [hv1, hv2]; rfl
   rw [HR.out] at hvq;have HVQ := Lib.hid hvq;clear hv1 hv2 hvq HR
   go_wp2_with fail
   refine (q_Sign H2 (by omega)).mono ?_;rintro e wc ⟨rfl, hxc⟩;replace bx := bx.ext hxc;replace H1 := H1.ext hxc;replace H2 := H2.ext hxc;replace extW := extW.trans hxc;clear hxc x0 x1 x2 x3 h k;have x0 := bx.cell 0 (.bool s) rfl;have x1 := bx.cell 1 (.slice A n c) rfl;have x2 := bx.cell 2 (.bool t) rfl;have x3 := bx.cell 3 (.slice B m d) rfl
   by_cases hp : 0 < ival t ys
   ·rw [Int.sign_eq_one_of_pos hp]
    have hvr : r = decide (((Nat.gcd (val xs) (val ys) : Nat) : Int) = 1) := by rw [HVQ.out, decide_eq_true hp, Bool.true_and]
    have HP := Lib.hid hvr;clear HVQ hvr;have ab1 := ival_ab s xs;have ab2 := ival_ab t ys;clear hp
    go_wp2_with fail
    refine (q_GCD H1 H2 (by omega) (by omega)).mono ?_;rintro e wd ⟨s1, A1, n1, c1, rfl, hg, hxd⟩;rw [ab1, ab2] at hg
    go_wp2_with fail
    refine (q_one hg).mono ?_;rintro e we ⟨rfl, hxe⟩
    go_wp2_with fail
    go_ret
    exact ⟨by rw [HP.out]; rfl, extW.trans (hxd.trans hxe)⟩
   ·have hvr : r = false := by rw [HVQ.out, decide_eq_false hp, Bool.false_and]
    subst hvr;clear HVQ
    have hs : (ival t ys).sign = 0 \/ (ival t ys).sign = -1 := by
     rcases Int.lt_trichotomy (ival t ys) 0 with h | h | h
     ·exact Or.inr (Int.sign_eq_neg_one_of_neg h)
     ·exact Or.inl (by rw [h]; rfl)
     ·exact absurd h hp
    clear hp
    rcases hs with hs | hs
    ·rw [hs]
     go_wp2_with fail
     go_ret
     exact ⟨rfl, extW⟩
    ·rw [hs]
     go_wp2_with fail
     go_ret
     exact ⟨rfl, extW⟩
theorem p_ValidRaw (h : RI w A n c xs) (k : RI w B m d ys) (h1 : n <= 30000) (h2 : m <= 30000) (hT : Tab w) : Calls Tryz.prog 46 #[.agg #[.bool s, .slice A n c, .bool t, .slice B m d]] w fun e w' => e = .returned (.bool (validQ s xs t ys)) /\ Ext w w' := by
 obtain ⟨r, hr⟩ : ∃ r, validQ s xs t ys = r := ⟨_, rfl⟩;have HR := Lib.hid hr;rw [hr];clear hr
 go_enter Tryz.func46, Tryz.ntmps46
 go_upto_region 1 with (fail)
 obtain ⟨W, hW, extW, bx, hz⟩ := box1 w 30 #[.bool s, .slice A n c, .bool t, .slice B m d];rw [<- hW];clear hW;replace h := h.ext extW;replace k := k.ext extW;have x0 := bx.cell 0 (.bool s) rfl;have x1 := bx.cell 1 (.slice A n c) rfl;have x2 := bx.cell 2 (.bool t) rfl;have x3 := bx.cell 3 (.slice B m d) rfl
 go_wp2_with fail
 refine (int_Valid h.len h.rd h.cap h.top (by omega)).mono ?_;rintro e wa ⟨rfl, hxa⟩;replace bx := bx.ext hxa;replace h := h.ext hxa;replace k := k.ext hxa;replace extW := extW.trans hxa;clear hxa x0 x1 x2 x3;have x0 := bx.cell 0 (.bool s) rfl;have x1 := bx.cell 1 (.slice A n c) rfl;have x2 := bx.cell 2 (.bool t) rfl;have x3 := bx.cell 3 (.slice B m d) rfl
 cases hv1 : validB s xs with
 | false =>
  go_wp2_with fail
  go_ret
  exact ⟨by rw [<- HR.out]; unfold validQ; rw [hv1]; rfl, extW⟩
 | true =>
  go_wp2_with fail
  refine (int_Valid k.len k.rd k.cap k.top (by omega)).mono ?_;rintro e wb ⟨rfl, hxb⟩;replace bx := bx.ext hxb;replace h := h.ext hxb;replace k := k.ext hxb;replace extW := extW.trans hxb;clear hxb x0 x1 x2 x3;have x0 := bx.cell 0 (.bool s) rfl;have x1 := bx.cell 1 (.slice A n c) rfl;have x2 := bx.cell 2 (.bool t) rfl;have x3 := bx.cell 3 (.slice B m d) rfl
  cases hv2 : validB t ys with
  | false =>
   go_wp2_with fail
   go_ret
   exact ⟨by rw [<- HR.out]; unfold validQ; rw [hv1, hv2]; rfl, extW⟩
  | true =>
   have H1 := NI.of_raw (L := 30000) h hv1 h1;have H2 := NI.of_raw (L := 30000) k hv2 h2;have hvq : validQ s xs t ys = (decide (0 < ival t ys) && decide (((Nat.gcd (val xs) (val ys) : Nat) : Int) = 1)) := by unfold validQ; rw [hv1, hv2]; rfl
   rw [HR.out] at hvq;have HVQ := Lib.hid hvq;clear hv1 hv2 hvq HR
   go_wp2_with fail
   refine (p_Sign H2 (by omega)).mono ?_;rintro e wc ⟨rfl, hxc⟩;replace bx := bx.ext hxc;replace H1 := H1.ext hxc;replace H2 := H2.ext hxc;replace extW := extW.trans hxc;clear hxc x0 x1 x2 x3 h k;have x0 := bx.cell 0 (.bool s) rfl;have x1 := bx.cell 1 (.slice A n c) rfl;have x2 := bx.cell 2 (.bool t) rfl;have x3 := bx.cell 3 (.slice B m d) rfl
   by_cases hp : 0 < ival t ys
   ·rw [Int.sign_eq_one_of_pos hp]
    have hvr : r = decide (((Nat.gcd (val xs) (val ys) : Nat) : Int) = 1) := by rw [HVQ.out, decide_eq_true hp, Bool.true_and]
    have HP := Lib.hid hvr;clear HVQ hvr;have ab1 := ival_ab s xs;have ab2 := ival_ab t ys;clear hp
    go_wp2_with fail
    refine (p_isOne H2).mono ?_;rintro e wo ⟨rfl, hxo⟩;replace bx := bx.ext hxo;replace H1 := H1.ext hxo;replace H2 := H2.ext hxo;replace extW := extW.trans hxo;clear hxo x0 x1 x2 x3;have x0 := bx.cell 0 (.bool s) rfl;have x1 := bx.cell 1 (.slice A n c) rfl;have x2 := bx.cell 2 (.bool t) rfl;have x3 := bx.cell 3 (.slice B m d) rfl
    by_cases h1d : ival t ys = 1
    ·rw [decide_eq_true h1d]
     have hv1 : val ys = 1 := by rw [h1d] at ab2; exact ab2.symm
     have hr1 : r = true := by rw [HP.out, hv1, Nat.gcd_one_right]; rfl
     go_wp2_with fail
     go_ret
     exact ⟨by rw [hr1]; rfl, extW⟩
    rw [decide_eq_false h1d]
    go_wp2_with fail
    refine (p_GCD H1 H2 (by omega) (by omega) (hT.ext extW)).mono ?_;rintro e wd ⟨s1, A1, n1, c1, rfl, hg, hxd⟩;rw [ab1, ab2] at hg
    go_wp2_with fail
    refine (p_isOne hg).mono ?_;rintro e we ⟨rfl, hxe⟩
    go_wp2_with fail
    go_ret
    exact ⟨by rw [HP.out]; rfl, extW.trans (hxd.trans hxe)⟩
   ·have hvr : r = false := by rw [HVQ.out, decide_eq_false hp, Bool.false_and]
    subst hvr;clear HVQ
    have hs : (ival t ys).sign = 0 \/ (ival t ys).sign = -1 := by
     rcases Int.lt_trichotomy (ival t ys) 0 with h | h | h
     ·exact Or.inr (Int.sign_eq_neg_one_of_neg h)
     ·exact Or.inl (by rw [h]; rfl)
     ·exact absurd h hp
    clear hp
    rcases hs with hs | hs
    ·rw [hs]
     go_wp2_with fail
     go_ret
     exact ⟨rfl, extW⟩
    ·rw [hs]
     go_wp2_with fail
     go_ret
     exact ⟨rfl, extW⟩
def mkQ (z y : Int) : Rat := if y < 0 then mkRat (-z) (-y).natAbs else mkRat z y.natAbs
theorem p_Make_pos (h : NI w z L s A n c) (k : NI w y M t B m d) (hL : L <= 30000) (hM : M <= 30000) (hy : 0 < y) (hT : Tab w) : Calls Tryz.prog 103 #[.agg #[.bool s, .slice A n c], .agg #[.bool t, .slice B m d]] w (RetNRE (mkQ z y) (max L M) w) := by
 have hs : y.sign = 1 := Int.sign_eq_one_of_pos hy;have hq : mkQ z y = mkRat z y.natAbs := if_neg (by omega);rw [hq];clear hq
 go_enter Tryz.func103, Tryz.ntmps103
 go_upto_region 1 with (fail)
 obtain ⟨W, hW, extW, bx, by_, bz, hz⟩ := box3 w 28 28 30 #[.bool s, .slice A n c] #[.bool t, .slice B m d] #[Value.bool false, Value.slice none 0 0, Value.bool false, Value.slice none 0 0];rw [<- hW];clear hW;replace h := h.ext extW;replace k := k.ext extW;refine wpL.st 4 (fun hQ ES => ?_);refine wpL.t 0 7 ?v_0 hQ ?y_0 ES ?_
 case y_0 => intro w' hSw;have k00 := (bx.ext hSw).c2;have k10 := (by_.ext hSw).c2;go_simp;try rfl
 try simp only [zP]
 refine wpL.take2 3 (i := 2) (d := some 9) (v := ?v_1) rfl rfl (by kernel_rfl) (by kernel_rfl) (by kernel_rfl) (by kernel_rfl) hQ (Or.inl ⟨by rfl, ?y_1⟩) ES ?r_1
 case y_1 => intro w' hSw;have k00 := (bx.ext hSw).c2;have k10 := (by_.ext hSw).c2;go_simp;try rfl
 try simp only [zP]
 refine wpL.cl (i := 1) rfl (fun K hK => ?_);go_simp
 (go_at_call 92; refine (p_Norm (h.ext ES) (by omega)).mono ?_; rintro e wk1 ⟨s1, A1, n1, c1, rfl, h1, hx0⟩; have E0_1 := Ext.trans ES hx0)
 refine hK.out _ _ E0_1 ?_;clear hK K
 try simp only [zP]
 refine wpL.cl (i := 3) rfl (fun K hK => ?_);go_simp
 (go_at_call 92; refine (p_Norm (k.ext E0_1) (by omega)).mono ?_; rintro e wk2 ⟨s2, A2, n2, c2, rfl, h2, hx1⟩; have E1_1 := Ext.trans E0_1 hx1)
 refine hK.out _ _ E1_1 ?_;clear hK K
 try simp only [zP]
 have z0 := (bx.ext E1_1).cell 0 _ rfl;have z1 := (bx.ext E1_1).cell 1 _ rfl;have f0 := (bx.ext E1_1).frozen 0;have f1 := (bx.ext E1_1).frozen 1;have u0 := (by_.ext E1_1).cell 0 _ rfl;have u1 := (by_.ext E1_1).cell 1 _ rfl;have v0 := (by_.ext E1_1).frozen 0;have v1 := (by_.ext E1_1).frozen 1;refine wpL.tl (i := 4) rfl (fun K hK => ?_);go_simp;refine hK.out _ _ ?_;clear hK K
 try simp only [zP]
 refine wpL.tl (i := 5) rfl (fun K hK => ?_);go_simp;refine hK.out _ _ ?_;clear hK K
 try simp only [zP]
 refine wpL.done (by kernel_rfl) ?_ _;clear hQ;refine at_exit (fun U => Ext w U /\ Box U w.heap.size 28 #[.bool s1, .slice A1 n1 c1] /\ Box U (w.heap.size + 1) 28 #[.bool s2, .slice A2 n2 c2] /\ Box U (w.heap.size + 1 + 1) 30 #[Value.bool false, Value.slice none 0 0, Value.bool false, Value.slice none 0 0] /\ NI U (z) L s1 A1 n1 c1 /\ NI U (y) M s2 A2 n2 c2) ?_ ?_
 ·have q1 := fin_dual (s := s1) (A := A1) (n := n1) (c := c1) (bx.ext E1_1)
  have q2 := fin_dual (s := s2) (A := A2) (n := n2) (c := c2) (q1.2.2.2 _ _ _ (by omega) (by_.ext E1_1));exact ⟨q2.2.2.1 _ (q1.2.2.1 _ (extW.trans E1_1) (by omega)) (by omega), q2.2.2.2 _ _ _ (by omega) q1.1, q2.1, q2.2.2.2 _ _ _ (by omega) (q1.2.2.2 _ _ _ (by omega) (bz.ext E1_1)), q2.2.1 _ _ _ _ _ _ (q1.2.1 _ _ _ _ _ _ (h1.ext hx1)), q2.2.1 _ _ _ _ _ _ (q1.2.1 _ _ _ _ _ _ h2)⟩
 clear extW bx by_ bz h k;rintro U ⟨extW, bx, by_, bz, h, k⟩;have y0 := by_.cell 0 (.bool s2) rfl;have y1 := by_.cell 1 (.slice A2 n2 c2) rfl
 go_wp2_with fail
 refine (p_Sign k (by omega)).mono ?_;rintro e V ⟨rfl, hxa⟩;replace bx := bx.ext hxa;replace by_ := by_.ext hxa;replace bz := bz.ext hxa;replace h := h.ext hxa;replace k := k.ext hxa;replace extW := extW.trans hxa;clear hxa y0 y1;rw [hs];have y0 := by_.cell 0 (.bool s2) rfl;have y1 := by_.cell 1 (.slice A2 n2 c2) rfl
 go_wp2_with fail
 refine (p_isOne k).mono ?_;rintro e Vo ⟨rfl, hxo⟩;replace bx := bx.ext hxo;replace by_ := by_.ext hxo;replace bz := bz.ext hxo;replace h := h.ext hxo;replace k := k.ext hxo;replace extW := extW.trans hxo;clear hxo y0 y1
 by_cases hone : y = 1
 ·rw [decide_eq_true hone]
  obtain ⟨m1, m2⟩ := mkRat_parts (z) (D := (y).natAbs) (by omega);have hab : (y).natAbs = 1 := by omega
  rw [hab, Nat.gcd_one_right, Nat.div_one] at m2;rw [hab, Nat.gcd_one_right] at m1;have m3 : ((mkRat (z) (y).natAbs).num) = z := by rw [hab, m1]; exact Int.ediv_one _
  have m4 : (((mkRat (z) (y).natAbs).den : Nat) : Int) = y := by rw [hab, m2]; exact hone.symm
  have hE := Ext.refl Vo;have x0 := bx.cell 0 (.bool s1) rfl;have x1 := bx.cell 1 (.slice A1 n1 c1) rfl;have y0 := by_.cell 0 (.bool s2) rfl;have y1 := by_.cell 1 (.slice A2 n2 c2) rfl;have z0 := (bz.ext hE).cell 0 _ rfl;have z1 := (bz.ext hE).cell 1 _ rfl;have z2 := (bz.ext hE).cell 2 _ rfl;have z3 := (bz.ext hE).cell 3 _ rfl;have f0 := (bz.ext hE).frozen 0;have f1 := (bz.ext hE).frozen 1;have f2 := (bz.ext hE).frozen 2;have f3 := (bz.ext hE).frozen 3
  go_wp2_with fail
  obtain ⟨b1, b2, b3, b4⟩ := fin_quad (s := s1) (A := A1) (n := n1) (c := c1) (t := s2) (B := A2) (m := n2) (d := c2) (bz.ext hE);have r0 := b1.cell 0 (.bool s1) rfl;have r1 := b1.cell 1 (.slice A1 n1 c1) rfl;have r2 := b1.cell 2 (.bool s2) rfl;have r3 := b1.cell 3 (.slice A2 n2 c2) rfl;unfold set4 at r0 r1 r2 r3;refine bodyPost_ret (v := .tuple #[.agg #[.bool s1, .slice A1 n1 c1, .bool s2, .slice A2 n2 c2], .int .i64 0]) (by simp [results, Tryz.results103, go_sem, r0, r1, r2, r3]) rfl ⟨s1, A1, n1, c1, s2, A2, n2, c2, rfl, ⟨(b2 _ _ _ _ _ _ (by rw [m3]; exact h)).le (by omega), (b2 _ _ _ _ _ _ (by rw [m4]; exact k)).le (by omega)⟩, b3 _ (extW.trans hE) (by omega)⟩
 rw [decide_eq_false hone];clear hone;have hEo := Ext.refl Vo;have x0 := bx.cell 0 (.bool s1) rfl;have x1 := bx.cell 1 (.slice A1 n1 c1) rfl;have y0 := by_.cell 0 (.bool s2) rfl;have y1 := by_.cell 1 (.slice A2 n2 c2) rfl
 go_wp2_with fail
 refine (p_GCD h k (by omega) (by omega) (hT.ext extW)).mono ?_;rintro e we ⟨s4, A4, n4, c4, rfl, hg, hxe⟩;obtain ⟨g, hge⟩ : ∃ g, Nat.gcd (z).natAbs (y).natAbs = g := ⟨_, rfl⟩;rw [hge] at hg;have hgz : g ∣ (z).natAbs := by rw [<- hge]; exact Nat.gcd_dvd_left _ _
 have hgy : g ∣ (y).natAbs := by rw [<- hge]; exact Nat.gcd_dvd_right _ _
 have hy0 : (y).natAbs ≠ 0 := by omega
 have hg0 : (g : Int) ≠ 0 := by
  intro h0;have : g = 0 := by omega
  rw [this] at hgy;exact hy0 (Nat.eq_zero_of_zero_dvd hgy)
 obtain ⟨m1, m2⟩ := mkRat_parts (z) (D := (y).natAbs) hy0;rw [hge] at m1 m2;have Hm1 := Lib.hid m1;have Hm2 := Lib.hid m2;have Hg0 := Lib.hid hg0;have Hgz := Lib.hid (Int.ofNat_dvd_left.2 hgz);have Hgy := Lib.hid (Int.ofNat_dvd_left.2 hgy);have Hya := Lib.hid (show (((y).natAbs : Nat) : Int) = y from Int.natAbs_of_nonneg (by omega));clear hge hg0 hgz hgy m1 m2 hy0 x0 x1 y0 y1
 go_upto_region 10 with (fail)
 refine at_world (fun V9 => Ext Vo V9 /\ Box V9 we.heap.size 28 #[.bool s4, .slice A4 n4 c4] /\ NI V9 (g : Int) (max L M) s4 A4 n4 c4) ⟨hxe.alloc _, Box.new we _ _, hg.ext ((Ext.refl we).alloc _)⟩ ?_;generalize we.heap.size = g8;clear hxe hg;rintro V9 ⟨EV, b8, hg⟩;replace bx := bx.ext EV;replace by_ := by_.ext EV;replace bz := bz.ext EV;replace h := h.ext EV;replace k := k.ext EV;replace extW := extW.trans EV;clear EV
 go_wp2_with fail
 refine wpL.st 7 (fun hQ ES => ?_);refine wpL.t 0 30 ?v_2 hQ ?y_2 ES ?_
 case y_2 => intro w' hSw;have k00 := (bx.ext hSw).c2;have k10 := (by_.ext hSw).c2;have k20 := (b8.ext hSw).c2;go_simp;try rfl
 try simp only [zP]
 refine wpL.t 1 31 ?v_3 hQ ?y_3 ES ?_
 case y_3 => intro w' hSw;have k00 := (bx.ext hSw).c2;have k10 := (by_.ext hSw).c2;have k20 := (b8.ext hSw).c2;go_simp;try rfl
 try simp only [zP]
 refine wpL.t 3 33 ?v_4 hQ ?y_4 ES ?_
 case y_4 => intro w' hSw;have k00 := (bx.ext hSw).c2;have k10 := (by_.ext hSw).c2;have k20 := (b8.ext hSw).c2;go_simp;try rfl
 try simp only [zP]
 refine wpL.t 4 34 ?v_5 hQ ?y_5 ES ?_
 case y_5 => intro w' hSw;have k00 := (bx.ext hSw).c2;have k10 := (by_.ext hSw).c2;have k20 := (b8.ext hSw).c2;go_simp;try rfl
 try simp only [zP]
 refine wpL.cl (i := 2) rfl (fun K hK => ?_);go_simp
 (go_at_call 100; refine (p_divide (h.ext ES) (hg.ext ES) (by omega) (by omega) Hg0.out Hgz.out).mono ?_; rintro e wk5 ⟨s5, A5, n5, c5, rfl, h5, hx0⟩; have E0_10 := Ext.trans ES hx0)
 refine hK.out _ _ E0_10 ?_;clear hK K
 try simp only [zP]
 refine wpL.cl (i := 5) rfl (fun K hK => ?_);go_simp
 (go_at_call 100; refine (p_divide (k.ext E0_10) (hg.ext E0_10) (by omega) (by omega) Hg0.out Hgy.out).mono ?_; rintro e wk6 ⟨s6, A6, n6, c6, rfl, h6, hx1⟩; have E1_10 := Ext.trans E0_10 hx1)
 refine hK.out _ _ E1_10 ?_;clear hK K
 try simp only [zP]
 refine wpL.u 6 36 hQ E1_10 ?_
 try simp only [zP]
 have z0 := (bz.ext E1_10).cell 0 _ rfl;have z1 := (bz.ext E1_10).cell 1 _ rfl;have z2 := (bz.ext E1_10).cell 2 _ rfl;have z3 := (bz.ext E1_10).cell 3 _ rfl;have f0 := (bz.ext E1_10).frozen 0;have f1 := (bz.ext E1_10).frozen 1;have f2 := (bz.ext E1_10).frozen 2;have f3 := (bz.ext E1_10).frozen 3;refine wpL.tl (i := 7) rfl (fun K hK => ?_);go_simp;refine hK.out _ _ ?_;clear hK K
 try simp only [zP]
 refine wpL.tl (i := 8) rfl (fun K hK => ?_);go_simp;refine hK.out _ _ ?_;clear hK K
 try simp only [zP]
 refine wpL.done (by kernel_rfl) ?_ _;clear hQ
 go_wp2_with fail
 have hk1 : (y) / (g : Int) = ((mkRat (z) (y).natAbs).den : Int) := by rw [Hm2.out, Int.natCast_ediv, Hya.out]
 rw [hk1] at h6;rw [<- Hm1.out] at h5;obtain ⟨b1, b2, b3, b4⟩ := fin_quad (s := s5) (A := A5) (n := n5) (c := c5) (t := s6) (B := A6) (m := n6) (d := c6) (bz.ext E1_10);have r0 := b1.cell 0 (.bool s5) rfl;have r1 := b1.cell 1 (.slice A5 n5 c5) rfl;have r2 := b1.cell 2 (.bool s6) rfl;have r3 := b1.cell 3 (.slice A6 n6 c6) rfl;unfold set4 at r0 r1 r2 r3;refine bodyPost_ret (v := .tuple #[.agg #[.bool s5, .slice A5 n5 c5, .bool s6, .slice A6 n6 c6], .int .i64 0]) (by simp [results, Tryz.results103, go_sem, r0, r1, r2, r3]) rfl ⟨s5, A5, n5, c5, s6, A6, n6, c6, rfl, ⟨(b2 _ _ _ _ _ _ (h5.ext hx1)).le (by omega), (b2 _ _ _ _ _ _ h6).le (by omega)⟩, b3 _ (extW.trans E1_10) (by omega)⟩
theorem p_Make_neg (h : NI w z L s A n c) (k : NI w y M t B m d) (hL : L <= 30000) (hM : M <= 30000) (hy : y < 0) (hT : Tab w) : Calls Tryz.prog 103 #[.agg #[.bool s, .slice A n c], .agg #[.bool t, .slice B m d]] w (RetNRE (mkQ z y) (max L M) w) := by
 have hs : y.sign = -1 := Int.sign_eq_neg_one_of_neg hy;have hq : mkQ z y = mkRat (-z) (-y).natAbs := if_pos hy;rw [hq];clear hq
 go_enter Tryz.func103, Tryz.ntmps103
 go_upto_region 1 with (fail)
 obtain ⟨W, hW, extW, bx, by_, bz, hz⟩ := box3 w 28 28 30 #[.bool s, .slice A n c] #[.bool t, .slice B m d] #[Value.bool false, Value.slice none 0 0, Value.bool false, Value.slice none 0 0];rw [<- hW];clear hW;replace h := h.ext extW;replace k := k.ext extW;refine wpL.st 4 (fun hQ ES => ?_);refine wpL.t 0 7 ?v_0 hQ ?y_0 ES ?_
 case y_0 => intro w' hSw;have k00 := (bx.ext hSw).c2;have k10 := (by_.ext hSw).c2;go_simp;try rfl
 try simp only [zP]
 refine wpL.take2 3 (i := 2) (d := some 9) (v := ?v_1) rfl rfl (by kernel_rfl) (by kernel_rfl) (by kernel_rfl) (by kernel_rfl) hQ (Or.inl ⟨by rfl, ?y_1⟩) ES ?r_1
 case y_1 => intro w' hSw;have k00 := (bx.ext hSw).c2;have k10 := (by_.ext hSw).c2;go_simp;try rfl
 try simp only [zP]
 refine wpL.cl (i := 1) rfl (fun K hK => ?_);go_simp
 (go_at_call 92; refine (p_Norm (h.ext ES) (by omega)).mono ?_; rintro e wk1 ⟨s1, A1, n1, c1, rfl, h1, hx0⟩; have E0_1 := Ext.trans ES hx0)
 refine hK.out _ _ E0_1 ?_;clear hK K
 try simp only [zP]
 refine wpL.cl (i := 3) rfl (fun K hK => ?_);go_simp
 (go_at_call 92; refine (p_Norm (k.ext E0_1) (by omega)).mono ?_; rintro e wk2 ⟨s2, A2, n2, c2, rfl, h2, hx1⟩; have E1_1 := Ext.trans E0_1 hx1)
 refine hK.out _ _ E1_1 ?_;clear hK K
 try simp only [zP]
 have z0 := (bx.ext E1_1).cell 0 _ rfl;have z1 := (bx.ext E1_1).cell 1 _ rfl;have f0 := (bx.ext E1_1).frozen 0;have f1 := (bx.ext E1_1).frozen 1;have u0 := (by_.ext E1_1).cell 0 _ rfl;have u1 := (by_.ext E1_1).cell 1 _ rfl;have v0 := (by_.ext E1_1).frozen 0;have v1 := (by_.ext E1_1).frozen 1;refine wpL.tl (i := 4) rfl (fun K hK => ?_);go_simp;refine hK.out _ _ ?_;clear hK K
 try simp only [zP]
 refine wpL.tl (i := 5) rfl (fun K hK => ?_);go_simp;refine hK.out _ _ ?_;clear hK K
 try simp only [zP]
 refine wpL.done (by kernel_rfl) ?_ _;clear hQ;refine at_exit (fun U => Ext w U /\ Box U w.heap.size 28 #[.bool s1, .slice A1 n1 c1] /\ Box U (w.heap.size + 1) 28 #[.bool s2, .slice A2 n2 c2] /\ Box U (w.heap.size + 1 + 1) 30 #[Value.bool false, Value.slice none 0 0, Value.bool false, Value.slice none 0 0] /\ NI U (z) L s1 A1 n1 c1 /\ NI U (y) M s2 A2 n2 c2) ?_ ?_
 ·have q1 := fin_dual (s := s1) (A := A1) (n := n1) (c := c1) (bx.ext E1_1)
  have q2 := fin_dual (s := s2) (A := A2) (n := n2) (c := c2) (q1.2.2.2 _ _ _ (by omega) (by_.ext E1_1));exact ⟨q2.2.2.1 _ (q1.2.2.1 _ (extW.trans E1_1) (by omega)) (by omega), q2.2.2.2 _ _ _ (by omega) q1.1, q2.1, q2.2.2.2 _ _ _ (by omega) (q1.2.2.2 _ _ _ (by omega) (bz.ext E1_1)), q2.2.1 _ _ _ _ _ _ (q1.2.1 _ _ _ _ _ _ (h1.ext hx1)), q2.2.1 _ _ _ _ _ _ (q1.2.1 _ _ _ _ _ _ h2)⟩
 clear extW bx by_ bz h k;rintro U ⟨extW, bx, by_, bz, h, k⟩;have y0 := by_.cell 0 (.bool s2) rfl;have y1 := by_.cell 1 (.slice A2 n2 c2) rfl
 go_wp2_with fail
 refine (p_Sign k (by omega)).mono ?_;rintro e V ⟨rfl, hxa⟩;replace bx := bx.ext hxa;replace by_ := by_.ext hxa;replace bz := bz.ext hxa;replace h := h.ext hxa;replace k := k.ext hxa;replace extW := extW.trans hxa;clear hxa y0 y1;rw [hs]
 go_upto_region 6 with (fail)
 refine wpL.st 4 (fun hQ ES => ?_);refine wpL.t 0 18 ?v_2 hQ ?y_2 ES ?_
 case y_2 => intro w' hSw;have k00 := (bx.ext hSw).c2;have k10 := (by_.ext hSw).c2;go_simp;try rfl
 try simp only [zP]
 refine wpL.take2 3 (i := 2) (d := some 20) (v := ?v_3) rfl rfl (by kernel_rfl) (by kernel_rfl) (by kernel_rfl) (by kernel_rfl) hQ (Or.inl ⟨by rfl, ?y_3⟩) ES ?r_3
 case y_3 => intro w' hSw;have k00 := (bx.ext hSw).c2;have k10 := (by_.ext hSw).c2;go_simp;try rfl
 try simp only [zP]
 refine wpL.cl (i := 1) rfl (fun K hK => ?_);go_simp
 (go_at_call 119; refine (p_Neg (h.ext ES) (by omega)).mono ?_; rintro e wk3 ⟨s3, A3, n3, c3, rfl, h1, hx0⟩; have E0_6 := Ext.trans ES hx0)
 refine hK.out _ _ E0_6 ?_;clear hK K
 try simp only [zP]
 refine wpL.cl (i := 3) rfl (fun K hK => ?_);go_simp
 (go_at_call 119; refine (p_Neg (k.ext E0_6) (by omega)).mono ?_; rintro e wk4 ⟨s3', A3', n3', c3', rfl, h2, hx1⟩; have E1_6 := Ext.trans E0_6 hx1)
 refine hK.out _ _ E1_6 ?_;clear hK K
 try simp only [zP]
 have z0 := (bx.ext E1_6).cell 0 _ rfl;have z1 := (bx.ext E1_6).cell 1 _ rfl;have f0 := (bx.ext E1_6).frozen 0;have f1 := (bx.ext E1_6).frozen 1;have u0 := (by_.ext E1_6).cell 0 _ rfl;have u1 := (by_.ext E1_6).cell 1 _ rfl;have v0 := (by_.ext E1_6).frozen 0;have v1 := (by_.ext E1_6).frozen 1;refine wpL.tl (i := 4) rfl (fun K hK => ?_);go_simp;refine hK.out _ _ ?_;clear hK K
 try simp only [zP]
 refine wpL.tl (i := 5) rfl (fun K hK => ?_);go_simp;refine hK.out _ _ ?_;clear hK K
 try simp only [zP]
 refine wpL.done (by kernel_rfl) ?_ _;clear hQ;refine at_exit (fun V2 => Ext w V2 /\ Box V2 w.heap.size 28 #[.bool s3, .slice A3 n3 c3] /\ Box V2 (w.heap.size + 1) 28 #[.bool s3', .slice A3' n3' c3'] /\ Box V2 (w.heap.size + 1 + 1) 30 #[Value.bool false, Value.slice none 0 0, Value.bool false, Value.slice none 0 0] /\ NI V2 (-z) L s3 A3 n3 c3 /\ NI V2 (-y) M s3' A3' n3' c3') ?_ ?_
 ·have q1 := fin_dual (s := s3) (A := A3) (n := n3) (c := c3) (bx.ext E1_6)
  have q2 := fin_dual (s := s3') (A := A3') (n := n3') (c := c3') (q1.2.2.2 _ _ _ (by omega) (by_.ext E1_6));exact ⟨q2.2.2.1 _ (q1.2.2.1 _ (extW.trans E1_6) (by omega)) (by omega), q2.2.2.2 _ _ _ (by omega) q1.1, q2.1, q2.2.2.2 _ _ _ (by omega) (q1.2.2.2 _ _ _ (by omega) (bz.ext E1_6)), q2.2.1 _ _ _ _ _ _ (q1.2.1 _ _ _ _ _ _ (h1.ext hx1)), q2.2.1 _ _ _ _ _ _ (q1.2.1 _ _ _ _ _ _ h2)⟩
 clear extW bx by_ bz h k;rintro V2 ⟨extW, bx, by_, bz, h, k⟩;have y0 := by_.cell 0 (.bool s3') rfl;have y1 := by_.cell 1 (.slice A3' n3' c3') rfl
 go_wp2_with fail
 refine (p_isOne k).mono ?_;rintro e V2o ⟨rfl, hxo⟩;replace bx := bx.ext hxo;replace by_ := by_.ext hxo;replace bz := bz.ext hxo;replace h := h.ext hxo;replace k := k.ext hxo;replace extW := extW.trans hxo;clear hxo y0 y1
 by_cases hone : -y = 1
 ·rw [decide_eq_true hone]
  obtain ⟨m1, m2⟩ := mkRat_parts (-z) (D := (-y).natAbs) (by omega);have hab : (-y).natAbs = 1 := by omega
  rw [hab, Nat.gcd_one_right, Nat.div_one] at m2;rw [hab, Nat.gcd_one_right] at m1;have m3 : ((mkRat (-z) (-y).natAbs).num) = -z := by rw [hab, m1]; exact Int.ediv_one _
  have m4 : (((mkRat (-z) (-y).natAbs).den : Nat) : Int) = -y := by rw [hab, m2]; exact hone.symm
  have hE := Ext.refl V2o;have x0 := bx.cell 0 (.bool s3) rfl;have x1 := bx.cell 1 (.slice A3 n3 c3) rfl;have y0 := by_.cell 0 (.bool s3') rfl;have y1 := by_.cell 1 (.slice A3' n3' c3') rfl;have z0 := (bz.ext hE).cell 0 _ rfl;have z1 := (bz.ext hE).cell 1 _ rfl;have z2 := (bz.ext hE).cell 2 _ rfl;have z3 := (bz.ext hE).cell 3 _ rfl;have f0 := (bz.ext hE).frozen 0;have f1 := (bz.ext hE).frozen 1;have f2 := (bz.ext hE).frozen 2;have f3 := (bz.ext hE).frozen 3
  go_wp2_with fail
  obtain ⟨b1, b2, b3, b4⟩ := fin_quad (s := s3) (A := A3) (n := n3) (c := c3) (t := s3') (B := A3') (m := n3') (d := c3') (bz.ext hE);have r0 := b1.cell 0 (.bool s3) rfl;have r1 := b1.cell 1 (.slice A3 n3 c3) rfl;have r2 := b1.cell 2 (.bool s3') rfl;have r3 := b1.cell 3 (.slice A3' n3' c3') rfl;unfold set4 at r0 r1 r2 r3;refine bodyPost_ret (v := .tuple #[.agg #[.bool s3, .slice A3 n3 c3, .bool s3', .slice A3' n3' c3'], .int .i64 0]) (by simp [results, Tryz.results103, go_sem, r0, r1, r2, r3]) rfl ⟨s3, A3, n3, c3, s3', A3', n3', c3', rfl, ⟨(b2 _ _ _ _ _ _ (by rw [m3]; exact h)).le (by omega), (b2 _ _ _ _ _ _ (by rw [m4]; exact k)).le (by omega)⟩, b3 _ (extW.trans hE) (by omega)⟩
 rw [decide_eq_false hone];clear hone;have hEo := Ext.refl V2o;have x0 := bx.cell 0 (.bool s3) rfl;have x1 := bx.cell 1 (.slice A3 n3 c3) rfl;have y0 := by_.cell 0 (.bool s3') rfl;have y1 := by_.cell 1 (.slice A3' n3' c3') rfl
 go_wp2_with fail
 refine (p_GCD h k (by omega) (by omega) (hT.ext extW)).mono ?_;rintro e we ⟨s4, A4, n4, c4, rfl, hg, hxe⟩;obtain ⟨g, hge⟩ : ∃ g, Nat.gcd (-z).natAbs (-y).natAbs = g := ⟨_, rfl⟩;rw [hge] at hg;have hgz : g ∣ (-z).natAbs := by rw [<- hge]; exact Nat.gcd_dvd_left _ _
 have hgy : g ∣ (-y).natAbs := by rw [<- hge]; exact Nat.gcd_dvd_right _ _
 have hy0 : (-y).natAbs ≠ 0 := by omega
 have hg0 : (g : Int) ≠ 0 := by
  intro h0;have : g = 0 := by omega
  rw [this] at hgy;exact hy0 (Nat.eq_zero_of_zero_dvd hgy)
 obtain ⟨m1, m2⟩ := mkRat_parts (-z) (D := (-y).natAbs) hy0;rw [hge] at m1 m2;have Hm1 := Lib.hid m1;have Hm2 := Lib.hid m2;have Hg0 := Lib.hid hg0;have Hgz := Lib.hid (Int.ofNat_dvd_left.2 hgz);have Hgy := Lib.hid (Int.ofNat_dvd_left.2 hgy);have Hya := Lib.hid (show (((-y).natAbs : Nat) : Int) = -y from Int.natAbs_of_nonneg (by omega));clear hge hg0 hgz hgy m1 m2 hy0 x0 x1 y0 y1
 go_upto_region 10 with (fail)
 refine at_world (fun V9 => Ext V2o V9 /\ Box V9 we.heap.size 28 #[.bool s4, .slice A4 n4 c4] /\ NI V9 (g : Int) (max L M) s4 A4 n4 c4) ⟨hxe.alloc _, Box.new we _ _, hg.ext ((Ext.refl we).alloc _)⟩ ?_;generalize we.heap.size = g8;clear hxe hg;rintro V9 ⟨EV, b8, hg⟩;replace bx := bx.ext EV;replace by_ := by_.ext EV;replace bz := bz.ext EV;replace h := h.ext EV;replace k := k.ext EV;replace extW := extW.trans EV;clear EV
 go_wp2_with fail
 refine wpL.st 7 (fun hQ ES => ?_);refine wpL.t 0 30 ?v_4 hQ ?y_4 ES ?_
 case y_4 => intro w' hSw;have k00 := (bx.ext hSw).c2;have k10 := (by_.ext hSw).c2;have k20 := (b8.ext hSw).c2;go_simp;try rfl
 try simp only [zP]
 refine wpL.t 1 31 ?v_5 hQ ?y_5 ES ?_
 case y_5 => intro w' hSw;have k00 := (bx.ext hSw).c2;have k10 := (by_.ext hSw).c2;have k20 := (b8.ext hSw).c2;go_simp;try rfl
 try simp only [zP]
 refine wpL.t 3 33 ?v_6 hQ ?y_6 ES ?_
 case y_6 => intro w' hSw;have k00 := (bx.ext hSw).c2;have k10 := (by_.ext hSw).c2;have k20 := (b8.ext hSw).c2;go_simp;try rfl
 try simp only [zP]
 refine wpL.t 4 34 ?v_7 hQ ?y_7 ES ?_
 case y_7 => intro w' hSw;have k00 := (bx.ext hSw).c2;have k10 := (by_.ext hSw).c2;have k20 := (b8.ext hSw).c2;go_simp;try rfl
 try simp only [zP]
 refine wpL.cl (i := 2) rfl (fun K hK => ?_);go_simp
 (go_at_call 100; refine (p_divide (h.ext ES) (hg.ext ES) (by omega) (by omega) Hg0.out Hgz.out).mono ?_; rintro e wk5 ⟨s5, A5, n5, c5, rfl, h5, hx0⟩; have E0_10 := Ext.trans ES hx0)
 refine hK.out _ _ E0_10 ?_;clear hK K
 try simp only [zP]
 refine wpL.cl (i := 5) rfl (fun K hK => ?_);go_simp
 (go_at_call 100; refine (p_divide (k.ext E0_10) (hg.ext E0_10) (by omega) (by omega) Hg0.out Hgy.out).mono ?_; rintro e wk6 ⟨s6, A6, n6, c6, rfl, h6, hx1⟩; have E1_10 := Ext.trans E0_10 hx1)
 refine hK.out _ _ E1_10 ?_;clear hK K
 try simp only [zP]
 refine wpL.u 6 36 hQ E1_10 ?_
 try simp only [zP]
 have z0 := (bz.ext E1_10).cell 0 _ rfl;have z1 := (bz.ext E1_10).cell 1 _ rfl;have z2 := (bz.ext E1_10).cell 2 _ rfl;have z3 := (bz.ext E1_10).cell 3 _ rfl;have f0 := (bz.ext E1_10).frozen 0;have f1 := (bz.ext E1_10).frozen 1;have f2 := (bz.ext E1_10).frozen 2;have f3 := (bz.ext E1_10).frozen 3;refine wpL.tl (i := 7) rfl (fun K hK => ?_);go_simp;refine hK.out _ _ ?_;clear hK K
 try simp only [zP]
 refine wpL.tl (i := 8) rfl (fun K hK => ?_);go_simp;refine hK.out _ _ ?_;clear hK K
 try simp only [zP]
 refine wpL.done (by kernel_rfl) ?_ _;clear hQ
 go_wp2_with fail
 have hk1 : (-y) / (g : Int) = ((mkRat (-z) (-y).natAbs).den : Int) := by rw [Hm2.out, Int.natCast_ediv, Hya.out]
 rw [hk1] at h6;rw [<- Hm1.out] at h5;obtain ⟨b1, b2, b3, b4⟩ := fin_quad (s := s5) (A := A5) (n := n5) (c := c5) (t := s6) (B := A6) (m := n6) (d := c6) (bz.ext E1_10);have r0 := b1.cell 0 (.bool s5) rfl;have r1 := b1.cell 1 (.slice A5 n5 c5) rfl;have r2 := b1.cell 2 (.bool s6) rfl;have r3 := b1.cell 3 (.slice A6 n6 c6) rfl;unfold set4 at r0 r1 r2 r3;refine bodyPost_ret (v := .tuple #[.agg #[.bool s5, .slice A5 n5 c5, .bool s6, .slice A6 n6 c6], .int .i64 0]) (by simp [results, Tryz.results103, go_sem, r0, r1, r2, r3]) rfl ⟨s5, A5, n5, c5, s6, A6, n6, c6, rfl, ⟨(b2 _ _ _ _ _ _ (h5.ext hx1)).le (by omega), (b2 _ _ _ _ _ _ h6).le (by omega)⟩, b3 _ (extW.trans E1_10) (by omega)⟩
theorem p_Make_nz (h : NI w z L s A n c) (k : NI w y M t B m d) (hL : L <= 30000) (hM : M <= 30000) (hy : y ≠ 0) (hT : Tab w) : Calls Tryz.prog 103 #[.agg #[.bool s, .slice A n c], .agg #[.bool t, .slice B m d]] w (RetNRE (mkQ z y) (max L M) w) := by
 rcases Int.lt_trichotomy y 0 with h1 | h1 | h1
 ·exact p_Make_neg h k hL hM h1 hT
 ·exact absurd h1 hy
 ·exact p_Make_pos h k hL hM h1 hT
end
end
section
open Go.RowKit
theorem owns_ext {w w' : World} {base : Nat} {e : TypeId} {size : Nat} {v : Value} {n : Nat} {xs : List Value} (h : w.ownsRow base e size v n xs) (k : Ext w w') : w'.ownsRow base e size v n xs := by
 refine ⟨h.1, h.2.imp id ?_⟩;rintro ⟨g, cap, cur, hv, hb, hh, h1⟩;have hb' : Below w.heap.size w w' := k
 have hlt : g < w.heap.size := by
  rcases Nat.lt_or_ge g w.heap.size with hlt | hge
  ·exact hlt
  ·rw [Array.getElem?_eq_none hge] at hh; cases hh
 exact ⟨g, cap, cur, hv, hb, (hb'.block g hlt).trans hh, h1⟩
theorem owns_nil (w : World) (base : Nat) (e : TypeId) (size : Nat) : w.ownsRow base e size (.slice none 0 0) 0 [] := ⟨by simp, .inl ⟨rfl, rfl⟩⟩
theorem owns_block {w : World} {base : Nat} {e : TypeId} {size : Nat} {v : Value} {n : Nat} {xs : List Value} (h : w.ownsRow base e size v n xs) : ∀ k, v.ownBlock = some k -> base <= k := by
 intro k hk
 rcases h.2 with ⟨rfl, _⟩ | ⟨g, cap, cur, rfl, hb, _⟩
 ·cases hk
 ·injection hk with hk
  subst hk;exact hb
theorem info_partsB {P : Program} {e : TypeId} {z : Value} {a b : Nat} (h : (P.info? e).map (fun i => (i.zero, i.size, i.bytes)) = some (some z, a, b)) : ∃ i, P.info? e = some i /\ i.zero = some z /\ i.size = a /\ i.bytes = b := by
 cases hi : P.info? e with
 | none => rw [hi] at h; cases h
 | some i =>
  rw [hi] at h;simp only [Option.map_some, Option.some.injEq, Prod.mk.injEq] at h;exact ⟨i, rfl, h.1, h.2.1, h.2.2⟩
def RatAt (w : World) (b o : Nat) (q : Rat) (L : Nat) : Prop :=
 ∃ s A n c t B m d, w.cell? ⟨b, o, none⟩ = some (.bool s) /\ w.cell? ⟨b, o + 1, none⟩ = some (.slice A n c) /\ w.cell? ⟨b, o + 2, none⟩ = some (.bool t) /\ w.cell? ⟨b, o + 3, none⟩ = some (.slice B m d) /\ NR w q L s A n c t B m d
structure RatsAt (w : World) (b o : Nat) (qs : List Rat) (L : Nat) : Prop where
 at_ : ∀ i (h : i < qs.length), RatAt w b (o + 4 * i) qs[i] L
inductive CellsOf (w : World) (L : Nat) : List Rat -> List Value -> Prop
 | nil : CellsOf w L [] []
 | cons {q : Rat} {qs : List Rat} {s : Bool} {A : Option Addr} {n c : Nat} {t : Bool} {B : Option Addr} {m d : Nat} {cs : List Value} : NR w q L s A n c t B m d -> CellsOf w L qs cs -> CellsOf w L (q :: qs) (.bool s :: .slice A n c :: .bool t :: .slice B m d :: cs)
section
variable {w w' : World} {q lo hi : Rat} {L M : Nat} {s t s' t' : Bool} {A B A' B' : Option Addr} {n c m d n' c' m' d' b o : Nat} {qs ps : List Rat} {cs ds : List Value}
theorem RatAt.ext (h : RatAt w b o q L) (e : Ext w w') : RatAt w' b o q L := by
 obtain ⟨s, A, n, c, t, B, m, d, h0, h1, h2, h3, h4⟩ := h;exact ⟨s, A, n, c, t, B, m, d, e.cellv h0, e.cellv h1, e.cellv h2, e.cellv h3, h4.ext e⟩
theorem RatsAt.ext (h : RatsAt w b o qs L) (e : Ext w w') : RatsAt w' b o qs L := ⟨fun i hi => (h.at_ i hi).ext e⟩
theorem CellsOf.ext (h : CellsOf w L qs cs) (e : Ext w w') : CellsOf w' L qs cs := by
 induction h with
 | nil => exact .nil
 | cons h _ ih => exact .cons (h.ext e) ih
theorem CellsOf.len (h : CellsOf w L qs cs) : cs.length = qs.length * 4 := by
 induction h with
 | nil => rfl
 | cons _ _ ih => simp only [List.length_cons, ih]; omega
theorem CellsOf.append (h : CellsOf w L qs cs) (k : CellsOf w L ps ds) : CellsOf w L (qs ++ ps) (cs ++ ds) := by
 induction h with
 | nil => exact k
 | cons h _ ih => exact .cons h ih
theorem CellsOf.le (h : CellsOf w L qs cs) (hl : L <= M) : CellsOf w M qs cs := by
 induction h with
 | nil => exact .nil
 | cons h _ ih => exact .cons (h.le hl) ih
theorem CellsOf.get (h : CellsOf w L qs cs) : ∀ i (hi : i < qs.length), ∃ s A n c t B m d, cs[4 * i]? = some (.bool s) /\ cs[4 * i + 1]? = some (.slice A n c) /\ cs[4 * i + 2]? = some (.bool t) /\ cs[4 * i + 3]? = some (.slice B m d) /\ NR w qs[i] L s A n c t B m d := by
 induction h with
 | nil => intro i hi; simp at hi
 | @cons q qs s A n c t B m d cs h _ ih =>
  intro i hi
  cases i with
  | zero => exact ⟨s, A, n, c, t, B, m, d, rfl, rfl, rfl, rfl, h⟩
  | succ i =>
   obtain ⟨s1, A1, n1, c1, t1, B1, m1, d1, k0, k1, k2, k3, k4⟩ := ih i (by simpa using hi);refine ⟨s1, A1, n1, c1, t1, B1, m1, d1, ?_, ?_, ?_, ?_, k4⟩
   ·rw [show 4 * (i + 1) = 4 * i + 1 + 1 + 1 + 1 by omega]; exact k0
   ·rw [show 4 * (i + 1) + 1 = 4 * i + 1 + 1 + 1 + 1 + 1 by omega]; exact k1
   ·rw [show 4 * (i + 1) + 2 = 4 * i + 2 + 1 + 1 + 1 + 1 by omega]; exact k2
   ·rw [show 4 * (i + 1) + 3 = 4 * i + 3 + 1 + 1 + 1 + 1 by omega]; exact k3
theorem CellsOf.one (h : CellsOf w L qs cs) : ∀ u ∈ cs, u.oneCell' = true := by
 induction h with
 | nil => intro u hu; cases hu
 | cons _ _ ih =>
  intro u hu;simp only [List.mem_cons] at hu
  rcases hu with rfl | rfl | rfl | rfl | hu
  ·rfl
  ·rfl
  ·rfl
  ·rfl
  ·exact ih u hu
theorem RatsAt.of_box {g : Nat} {T : TypeId} (hb : Box w g T cs.toArray) (h : CellsOf w L qs cs) : RatsAt w g 0 qs L := by
 refine ⟨fun i hi => ?_⟩;obtain ⟨s, A, n, c, t, B, m, d, k0, k1, k2, k3, k4⟩ := h.get i hi;rw [Nat.zero_add];exact ⟨s, A, n, c, t, B, m, d, hb.cell (4 * i) _ (by simpa using k0), hb.cell (4 * i + 1) _ (by simpa using k1), hb.cell (4 * i + 2) _ (by simpa using k2), hb.cell (4 * i + 3) _ (by simpa using k3), k4⟩
def RatsOwn (w : World) (base : Nat) (v : Value) (qs : List Rat) (L : Nat) : Prop := ∃ cs, w.ownsRow base 30 4 v qs.length cs /\ CellsOf w L qs cs
theorem RatsOwn.rd {base g cap k : Nat} (h : RatsOwn w base (.slice (some ⟨g, 0, none⟩) k cap) qs L) : RatsAt w g 0 qs L := by
 obtain ⟨cs, ⟨hl, h1⟩, h2⟩ := h
 rcases h1 with ⟨h1, _⟩ | ⟨g', cap', cur, h1, _, hg, hn, _, hsz, htk⟩
 ·cases h1
 ·injection h1 with h1
  injection h1 with h1
  injection h1 with h1
  subst h1
  have hcell : ∀ j u, cs[j]? = some u -> w.cell? ⟨g, j, none⟩ = some u := by
   intro j u hu
   have hj : j < cs.length := by
    rcases Nat.lt_or_ge j cs.length with h | h
    ·exact h
    ·rw [List.getElem?_eq_none h] at hu; cases hu
   rw [<- htk, List.getElem?_take, if_pos (by rw [<- hl]; exact hj)] at hu;rw [cell_of_row w g j _ _ (0, 0) hg]
   simpa using hu
  refine ⟨fun i hi => ?_⟩;obtain ⟨s, A, n, c, t, B, m, d, k0, k1, k2, k3, k4⟩ := h2.get i hi;rw [Nat.zero_add];exact ⟨s, A, n, c, t, B, m, d, hcell _ _ k0, hcell _ _ k1, hcell _ _ k2, hcell _ _ k3, k4⟩
end
def NWL (l : List Value) : Prop := ∀ u ∈ l, ∀ k, u ≠ .int .u32 k
theorem NWL.arr {l : List Value} (h : NWL l) : NoWord l.toArray := by
 intro i k hk;exact h _ (List.mem_of_getElem? (by simpa using hk)) k rfl
theorem NWL.of {cs : Array Value} (h : NoWord cs) : NWL cs.toList := by
 intro u hu k e;obtain ⟨i, hi⟩ := List.mem_iff_getElem?.1 hu;exact h i k (by rw [<- e, <- hi]; simp)
theorem NWL.append {l l' : List Value} (h : NWL l) (h' : NWL l') : NWL (l ++ l') := by
 intro u hu
 rcases List.mem_append.1 hu with hu | hu
 ·exact h u hu
 ·exact h' u hu
theorem NWL.take {l : List Value} (h : NWL l) (n : Nat) : NWL (l.take n) := fun u hu => h u (List.mem_of_mem_take hu)
theorem NWL.drop {l : List Value} (h : NWL l) (n : Nat) : NWL (l.drop n) := fun u hu => h u (List.mem_of_mem_drop hu)
theorem NWL.zero {z : Array Value} (h : NWL z.toList) (n : Nat) : NWL (Builtin.zeroCells z n).toList := by
 intro u hu k e;simp only [Builtin.zeroCells, Array.mem_toList_iff, Array.mem_map, Array.mem_range] at hu;obtain ⟨i, hi, rfl⟩ := hu
 have hz : 0 < z.size := by
  rcases Nat.eq_zero_or_pos z.size with h0 | h0
  ·rw [h0] at hi; omega
  ·exact h0
 have hm : i % z.size < z.size := Nat.mod_lt _ hz;rw [getElem!_pos z _ hm] at e;exact h _ (by simp) k e
theorem NWL.arr' {cs : Array Value} (h : NWL cs.toList) : NoWord cs := h.arr
def NWB (w : World) (v : Value) : Prop := ∀ g, v.ownBlock = some g -> ∃ cur e fz, w.heap[g]? = some (.cells cur e fz) /\ NoWord cur
section
variable {P : Program} {w : World}
theorem run_append_nw {base : Nat} {t ty e : TypeId} {i : TypeInfo} {z : Value} {bytes : Nat} (ht : P.underlying t = some (.slice e)) (hi : P.info? e = some i) (hz : i.zero = some z)
  (hby : i.bytes = bytes) (hzs : z.cells.size = i.size) (hsz : 0 < i.size) (hzw : NWL z.cells.toList)
  {v : Value} {n : Nat} {xs : List Value} (hown : w.ownsRow base e i.size v n xs) (hv : NWB w v)
  {a : Addr} {m c : Nat} {news : List Value} (hl : news.length = m * i.size) (hnews : ∀ j u, news[j]? = some u -> w.cell? (a.add j) = some u) (h1 : ∀ u ∈ news, u.oneCell' = true) (hnw : NWL news) (hm : 0 < m)
  (h63 : n + m <= maxLen) (hbytes : (n + m) * bytes <= 140737488355328) (hbase : base <= w.heap.size) :
  ∃ v' w', (Builtin.append_ #[t, t] ty #[v, .slice (some a) m c]).run P w = .ok v' w' /\ w'.ownsRow base e i.size v' (n + m) (xs ++ news) /\ w.grownBy w' v.ownBlock /\
   (v'.ownBlock = v.ownBlock \/ v'.ownBlock = some w.heap.size) /\ NWB w' v' := by
 obtain ⟨v', w', hr, h2, h3, _, h5⟩ := run_append_own_at (P := P) w base t ty e i z i.size bytes ht hi hz rfl hby hzs hsz v n xs hown a m c news hl hnews h1 h63 hbytes hbase;refine ⟨v', w', hr, h2, h3, h5, ?_⟩;subst hby;have hsmall : n + m <= 9223372036854775807 := by simp only [maxLen] at h63; omega
 rcases hown.2 with ⟨rfl, rfl⟩ | ⟨g, cap, cur, rfl, hbg, hg, hnc, hcm, hcs, htake⟩
 ·have hr2 := run_append_nil (P := P) w t ty e i z ht hi hz a m c news hl hnews hm (by omega) (by have hb := hbytes; simp only [Nat.zero_add] at hb; omega)
  rw [hr] at hr2
  injection hr2 with e1 e2
  subst e1 e2;intro g hg
  injection hg with hg
  subst hg;refine ⟨_, _, _, heap_alloc_new w.drew _, ?_⟩;refine NWL.arr' ?_;rw [Array.toList_append];exact hnw.append (hzw.zero _)
 ·obtain ⟨cur', e', fz, hg', hcw⟩ := hv g rfl
  rw [hg] at hg'
  injection hg' with hg'
  injection hg' with q1 q2 q3
  subst q1;have hc := NWL.of hcw
  by_cases hroom : n + m <= cap
  ·have hfit : n * i.size + news.length <= cur.size := by rw [hl, hcs, <- Nat.add_mul]; exact Nat.mul_le_mul_right _ hroom
   have hr2 := run_append_room (P := P) w t ty e i ht hi g n cap cur hg a m c news hl hnews h1 hroom hfit;rw [hr] at hr2
   injection hr2 with e1 e2
   subst e1 e2;intro g' hg'
   injection hg' with hg'
   subst hg';exact ⟨_, _, _, setRow_heap w g cur _ e _ hg, (((hc.take _).append hnw).append (hc.drop _)).arr⟩
  ·have holds : ∀ j u, xs[j]? = some u -> w.cell? ((⟨g, 0, none⟩ : Addr).add j) = some u := hown.cells (g := g) rfl
   have hr2 := run_append_grow (P := P) w t ty e i z ht hi hz ⟨g, 0, none⟩ n cap xs hown.1 holds a m c news hl hnews (by omega) (by omega) (growslice_fits (by omega) hbytes);rw [hr] at hr2
   injection hr2 with e1 e2
   subst e1 e2;intro g' hg'
   injection hg' with hg'
   subst hg';refine ⟨_, _, _, heap_alloc_new w.drew _, ?_⟩;have hx : NWL xs := by rw [<- htake]; exact hc.take _
   refine NWL.arr' ?_;rw [Array.toList_append, Array.toList_append];exact (hx.append hnw).append (hzw.zero _)
variable {w' : World} {A A' B B' : Option Addr} {xs : List Nat} {v : Value} {z : Int} {L n c m d n' c' m' d' : Nat} {s t s' t' : Bool} {q lo hi : Rat}
theorem ext_none (h : w.grownBy w' none) : Ext w w' := ⟨h.os, h.tape, h.output, h.size, fun i hi => h.block i hi (by simp)⟩
theorem Rd.own (h : Rd w A xs) (hv : NWB w v) (k : w.grownBy w' v.ownBlock) : Rd w' A xs := by
 cases hb : v.ownBlock with
 | none => rw [hb] at k; exact h.ext (ext_none k)
 | some g =>
  rw [hb] at k;refine h.mod k ?_;intro hx a ha hag;obtain ⟨b, off, hA, _, hc⟩ := h.2 hx;rw [ha] at hA
  injection hA with hA
  subst hA;obtain ⟨cur, e, fz, hg, hn⟩ := hv g hb;have h0 : 0 < xs.length := List.length_pos_iff.2 hx;have hc0 := hc 0 h0;have hag' : b = g := hag;subst hag';rw [cell_of_row w b _ _ _ _ hg] at hc0;exact hn _ _ hc0
theorem NI.own (h : NI w z L s A n c) (hv : NWB w v) (k : w.grownBy w' v.ownBlock) : NI w' z L s A n c := by
 obtain ⟨xs, h1, h2, h3⟩ := h.out;exact ⟨xs, h1, h2.own hv k, h3⟩
theorem NR.own (h : NR w q L s A n c t B m d) (hv : NWB w v) (k : w.grownBy w' v.ownBlock) : NR w' q L s A n c t B m d := ⟨h.num.own hv k, h.den.own hv k⟩
theorem CellsOf.own {qs : List Rat} {cs : List Value} (h : CellsOf w L qs cs) (hv : NWB w v) (k : w.grownBy w' v.ownBlock) : CellsOf w' L qs cs := by
 induction h with
 | nil => exact .nil
 | cons h _ ih => exact .cons (h.own hv k) ih
theorem CellsOf.nwl {qs : List Rat} {cs : List Value} (h : CellsOf w L qs cs) : NWL cs := by
 induction h with
 | nil => intro u hu; cases hu
 | cons _ _ ih =>
  intro u hu;simp only [List.mem_cons] at hu
  rcases hu with rfl | rfl | rfl | rfl | hu
  ·intro k e; cases e
  ·intro k e; cases e
  ·intro k e; cases e
  ·intro k e; cases e
  ·exact ih u hu
theorem Box.own {g : Nat} {T : TypeId} {cs : Array Value} (h : Box w g T cs) (k : w.grownBy w' v.ownBlock) (hne : v.ownBlock ≠ some g) : Box w' g T cs := by
 have hlt := h.lt;unfold Box at h ⊢;rw [<- h];exact k.block g hlt (fun e => hne e.symm)
end
end
end Go.Proofs.YtgagcochepnelaaGreatDoor
