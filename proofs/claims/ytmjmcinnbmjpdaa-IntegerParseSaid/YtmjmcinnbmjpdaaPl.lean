/- Regions that draw their order and end in a store to what they have read: the condition on the world is asked till the store has come up. -/
import Derived.Test.YtmjmcinnbmjpdaaPo
namespace Go.Proofs.Ytmjmcinnbmjpdaa
open Go.RowKit
section
variable {P : Program} {ops : Array Oper} {Q : Exit → Act → World → Prop} {md : Region.Mode} {W0 : World} {z : Nat}
/-- whatever order is picked; till z has come up, nothing that was there in W0 has turned. -/
def wpL (P : Program) (md : Region.Mode) (ops : Array Oper) (Q : Exit → Act → World → Prop) (W0 : World) (z : Nat) : Nat → Array Bool → Act → World → Prop
  | 0, L, a, w => Region.ready md ops L = [] ∧ Q .normal a w
  | f + 1, L, a, w =>
    (Region.ready md ops L = [] → Q .normal a w) ∧
    ∀ i ∈ Region.ready md ops L, wpOp P ops Q i (fun a' w' => ((L.setIfInBounds i true).getD z false = true ∨ Ext W0 w') ∧ wpL P md ops Q W0 z f (L.setIfInBounds i true) a' w') a w
theorem wpL.any : ∀ (f : Nat) (L : Array Bool) (a : Act) (w : World), wpL P md ops Q W0 z f L a w → wpAny P md ops Q f L a w
  | 0, _, _, _, h => h
  | f + 1, _, _, _, h => ⟨h.1, fun i hi => wpOp_mono (fun a' w' h' => wpL.any f _ a' w' h'.2) (h.2 i hi)⟩
theorem wpL.start {id : Nat} {a : Act} {w : World} (z : Nat) (hm : P.follows .mixedOrders = true) (hQ : QStill Q) (h : QStill Q → Ext w w.drew → wpL P .any ops Q w z ops.size (Array.replicate ops.size false) a w.drew) : (Code.region id ops true).wp P Q a w :=
  wp_region_any hm (wpL.any _ _ _ _ (h hQ (Ext.refl w).drew))
def allBut (n i z : Nat) : Array Bool := ((Array.replicate n true).setIfInBounds i false).setIfInBounds z false
theorem allBut_on {n i z k : Nat} (h1 : k ≠ i) (h2 : k ≠ z) (hk : k < n) : (allBut n i z).getD k false = true := by
  unfold allBut
  simp [Ne.symm h1, Ne.symm h2, hk]
/-- z waits for i, by way of what it waits for: with all but the two listed it may not come up. -/
def Waits (md : Region.Mode) (ops : Array Oper) (i z : Nat) : Prop := ∃ o, ops[z]? = some o ∧ ∃ e ∈ o.after, Region.binds md e = true ∧ (allBut ops.size i z).getD e.on false = false
theorem waits_not {i : Nat} {L : Array Bool} (h : Waits md ops i z) (hi : L.getD i true = false) (hz : L.getD z false = false) (hsz : L.size = ops.size) : z ∉ Region.ready md ops L := by
  intro hr
  obtain ⟨_, o, ho, hall⟩ := mem_ready.1 hr
  obtain ⟨o', ho', e, he, hb, hf⟩ := h
  rw [ho] at ho'
  injection ho' with ho'
  subst ho'
  have h1 := hall e he hb
  have hlt : e.on < L.size := by
    rcases Nat.lt_or_ge e.on L.size with h | h
    · exact h
    · simp [h] at h1
  have hne1 : e.on ≠ i := by
    intro hh
    rw [← hh] at hi
    simp [hlt] at h1 hi
    rw [h1] at hi
    cases hi
  have hne2 : e.on ≠ z := by
    intro hh
    rw [hh, hz] at h1
    cases h1
  rw [allBut_on hne1 hne2 (by omega)] at hf
  cases hf
theorem wpL.first {i : Nat} {oi : Oper} {v : Value} (hi : ops[i]? = some oi) (hs : Region.noSelect ops = true) (hiz : i ≠ z) (hw : Waits md ops i z) (hQ : QStill Q) :
    ∀ (f : Nat) (L : Array Bool) (a : Act) (w : World), L.size = ops.size → L.getD z false = false →
      (∀ j oj, ops[j]? = some oj → j ≠ i → L.getD j true = false → (∀ e ∈ oj.after, Region.binds md e = true → e.on ≠ i) → oi.apart ops oj = true) →
      i ∈ Region.ready md ops L → YieldsIf P ops (Ext W0) oi v a → Ext W0 w →
      wpL P md ops Q W0 z f (L.setIfInBounds i true) (a.put oi.dst v) w → wpL P md ops Q W0 z (f + 1) L a w := by
  have hsel := Region.noSelect_spec hs
  intro f
  induction f with
  | zero =>
    intro L a w _ _ _ hr hy hS H
    refine ⟨(fun h0 => by rw [h0] at hr; cases hr), fun j hj => ?_⟩
    by_cases hji : j = i
    · subst hji; exact hy.wpOp hi hS ⟨.inr hS, H⟩
    · have := ready_mono hj hji
      rw [H.1] at this
      cases this
  | succ f ih =>
    intro L a w hsz hzL hfree hr hy hS H
    refine ⟨(fun h0 => by rw [h0] at hr; cases hr), fun j hj => ?_⟩
    by_cases hji : j = i
    · subst hji; exact hy.wpOp hi hS ⟨.inr hS, H⟩
    · have hiL := (mem_ready.1 hr).1
      have hjz : j ≠ z := fun e => waits_not hw hiL hzL hsz (e ▸ hj)
      obtain ⟨hjun, oj, hoj, hall⟩ := mem_ready.1 hj
      have hnot : ∀ e ∈ oj.after, Region.binds md e = true → e.on ≠ i := fun e he hb hh => by
        have h1 := hall e he hb
        rw [hh] at h1
        have hlt : i < L.size := by
          rcases Nat.lt_or_ge i L.size with h | h
          · exact h
          · simp [h] at h1
        simp [hlt] at h1 hiL
        rw [h1] at hiL
        cases hiL
      have h1 := H.2 j (ready_mono hj hji)
      have h2 := wpOp_putIf hoj (hfree j oj hoj hji hjun hnot) (fun cs b => hsel i oi cs b hi) (fun cs b => hsel j oj cs b hoj) (fun c a w => (hQ.put c a _ _ w).1) hy h1
      refine wpOp_mono (fun a' w' h3 => ?_) h2
      obtain ⟨hy', hS', H'⟩ := h3
      have hzz : ((L.setIfInBounds i true).setIfInBounds j true).getD z false = false := by
        rw [getD_set_ne false hjz, getD_set_ne false hiz]; exact hzL
      have hE : Ext W0 w' := by
        rcases hS' with h | h
        · rw [hzz] at h; cases h
        · exact h
      refine ⟨.inr hE, ih (L.setIfInBounds j true) a' w' (by simpa using hsz) (by rw [getD_set_ne false hjz]; exact hzL) ?_ (ready_mono hr (Ne.symm hji)) hy' hE ?_⟩
      · intro k ok hk hki hun hno
        refine hfree k ok hk hki ?_ hno
        by_cases hjk : j = k
        · subst hjk; exact hjun
        · rwa [getD_set_ne true hjk] at hun
      · rw [Array.setIfInBounds_comm _ _ hji]
        exact H'
def waitsB (md : Region.Mode) (ops : Array Oper) (i z : Nat) : Bool := match ops[z]? with
  | some o => o.after.toList.any fun e => Region.binds md e && !(allBut ops.size i z).getD e.on false
  | none => false
theorem waitsB_spec {i : Nat} (h : waitsB md ops i z = true) : Waits md ops i z := by
  unfold waitsB at h
  cases ho : ops[z]? with
  | none => rw [ho] at h; cases h
  | some o =>
    rw [ho] at h
    obtain ⟨e, he, hb⟩ := List.any_eq_true.1 h
    rw [Bool.and_eq_true, Bool.not_eq_true'] at hb
    exact ⟨o, ho, e, Array.mem_toList_iff.1 he, hb.1, hb.2⟩
theorem wpL.take {f i : Nat} {oi : Oper} {d : Option Tmp} {v : Value} {L : Array Bool} {a : Act} {w : World} (hi : ops[i]? = some oi) (hd : oi.dst = d) (hs : Region.noSelect ops = true) (hf : Region.free md ops L i = true)
    (hr : (Region.ready md ops L).contains i = true) (hz : (i != z && waitsB md ops i z && !L.getD z false && L.size == ops.size) = true) (hQ : QStill Q) (hy : YieldsIf P ops (Ext W0) oi v a) (hS : Ext W0 w)
    (h : wpL P md ops Q W0 z f (L.setIfInBounds i true) (a.put d v) w) : wpL P md ops Q W0 z (f + 1) L a w := by
  subst hd
  simp only [Bool.and_eq_true, bne_iff_ne, Bool.not_eq_true', beq_iff_eq] at hz
  obtain ⟨⟨⟨h1, h2⟩, h3⟩, h4⟩ := hz
  exact wpL.first hi hs h1 (waitsB_spec h2) hQ f L a w h4 h3 (fun j oj hj hne hun hno => Region.free_spec hi hf j oj hj hne hun hno) (by simpa using hr) hy hS h
theorem wpL.call {f i : Nat} {o : Oper} {L : Array Bool} {a : Act} {w : World} (ho : ops[i]? = some o) (hr : Region.ready md ops L = [i])
    (h : ∀ K : Act → World → Prop, Shut (∀ a' w', Ext W0 w' → wpL P md ops Q W0 z f (L.setIfInBounds i true) a' w' → K a' w') → if Region.wanted o (yielded ops a.tmps) = true then Oper.wp P o a w K Q else K (a.put o.dst undef) w) : wpL P md ops Q W0 z (f + 1) L a w := by
  refine ⟨(fun h0 => by rw [hr] at h0; cases h0), fun j hj => ?_⟩
  rw [hr, List.mem_singleton] at hj
  subst hj
  exact wpOp_step ho fun K hK => h K (fun a' w' e hL => hK a' w' ⟨.inr e, hL⟩)
theorem wpL.tail {f i : Nat} {o : Oper} {L : Array Bool} {a : Act} {w : World} (ho : ops[i]? = some o) (hr : Region.ready md ops L = [i]) (hz : (L.setIfInBounds i true).getD z false = true)
    (h : ∀ K : Act → World → Prop, Shut (∀ a' w', wpL P md ops Q W0 z f (L.setIfInBounds i true) a' w' → K a' w') → if Region.wanted o (yielded ops a.tmps) = true then Oper.wp P o a w K Q else K (a.put o.dst undef) w) : wpL P md ops Q W0 z (f + 1) L a w := by
  refine ⟨(fun h0 => by rw [hr] at h0; cases h0), fun j hj => ?_⟩
  rw [hr, List.mem_singleton] at hj
  subst hj
  exact wpOp_step ho fun K hK => h K (fun a' w' hL => hK a' w' ⟨.inl hz, hL⟩)
theorem wpL.done {L : Array Bool} {a : Act} {w : World} (hr : Region.ready md ops L = []) (h : Q .normal a w) : ∀ f, wpL P md ops Q W0 z f L a w
  | 0 => ⟨hr, h⟩
  | _ + 1 => ⟨fun _ => h, by rw [hr]; simp⟩
end
end Go.Proofs.Ytmjmcinnbmjpdaa
