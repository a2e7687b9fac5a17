/- Walks and laws, part 12. -/
import Derived.Test.YtmjmcinnbmjpdaaDoorMt0
import Derived.Deep.RegionHeld
namespace Go.Proofs.YtmjmcinnbmjpdaaDoor
open Go.RowKit

/-- an allocation of a region: its number, its slot, the type and the cells of the variable. -/
structure Al where
  i : Nat
  d : Tmp
  t : TypeId
  cs : Array Value
def lay (a : Act) (y : Al × Nat) : Act := a.put (some y.1.d) (.pointer (some ⟨y.2, 0, none⟩))
def mark (L : Array Bool) (y : Al × Nat) : Array Bool := L.setIfInBounds y.1.i true
def lays (a : Act) (D : List (Al × Nat)) : Act := D.foldl lay a
def marks (L : Array Bool) (D : List (Al × Nat)) : Array Bool := D.foldl mark L
structure Val (W0 : World) (AL : List Al) (w : World) (D : List (Al × Nat)) : Prop where
  mem : ∀ y ∈ D, y.1 ∈ AL
  nd : (D.map fun y => y.1.i).Nodup
  ng : (D.map fun y => y.2).Nodup
  box : ∀ y ∈ D, Box w y.2 y.1.t y.1.cs
  ge : ∀ y ∈ D, W0.heap.size ≤ y.2
theorem Val.ext {AL : List Al} {W0 w w' : World} {D : List (Al × Nat)} (h : Val W0 AL w D) (e : Ext w w') : Val W0 AL w' D :=
  ⟨h.mem, h.nd, h.ng, fun y hy => (h.box y hy).ext e, h.ge⟩
theorem Val.nil {AL : List Al} {W0 w : World} : Val W0 AL w [] := ⟨(fun _ h => by cases h), List.nodup_nil, List.nodup_nil, (fun _ h => by cases h), (fun _ h => by cases h)⟩
theorem len_of_sub : ∀ (l m : List Nat), l.Nodup → (∀ x ∈ l, x ∈ m) → l.length ≤ m.length
  | [], _, _, _ => Nat.zero_le _
  | b :: l, m, hn, hs => by
    have hb := hs b List.mem_cons_self
    rw [List.nodup_cons] at hn
    have := len_of_sub l (m.erase b) hn.2 (fun x hx => by
      have hne : x ≠ b := fun e => hn.1 (e ▸ hx)
      exact (List.mem_erase_of_ne hne).2 (hs x (List.mem_cons_of_mem _ hx)))
    rw [List.length_erase_of_mem hb] at this
    have hp := List.length_pos_of_mem hb
    simp only [List.length_cons]
    omega
theorem Val.len {AL : List Al} {W0 w : World} {D : List (Al × Nat)} (h : Val W0 AL w D) : D.length ≤ AL.length := by
  have := len_of_sub (D.map fun y => y.1.i) (AL.map (·.i)) h.nd (fun x hx => by
    obtain ⟨y, hy, rfl⟩ := List.mem_map.1 hx
    exact List.mem_map.2 ⟨y.1, h.mem y hy, rfl⟩)
  simpa using this
theorem Val.len_lt {AL : List Al} {W0 w : World} {D : List (Al × Nat)} (h : Val W0 AL w D) {x : Al} (hx : x ∈ AL) (hn : ∀ y ∈ D, y.1.i ≠ x.i) : D.length < AL.length := by
  have := len_of_sub (x.i :: D.map fun y => y.1.i) (AL.map (·.i)) (by
    rw [List.nodup_cons]
    refine ⟨fun hm => ?_, h.nd⟩
    obtain ⟨y, hy, e⟩ := List.mem_map.1 hm
    exact hn y hy e) (fun z hz => by
    rcases List.mem_cons.1 hz with rfl | hz
    · exact List.mem_map.2 ⟨x, hx, rfl⟩
    · obtain ⟨y, hy, rfl⟩ := List.mem_map.1 hz
      exact List.mem_map.2 ⟨y.1, h.mem y hy, rfl⟩)
  simp at this
  omega
theorem Val.snoc {AL : List Al} {W0 w : World} {D : List (Al × Nat)} (h : Val W0 AL w D) {x : Al} (hx : x ∈ AL) (hn : ∀ y ∈ D, y.1.i ≠ x.i) (hB : Ext W0 w) :
    Val W0 AL (w.alloc (.cells x.cs x.t)) (D ++ [(x, w.heap.size)]) := by
  refine ⟨fun y hy => ?_, ?_, ?_, fun y hy => ?_, fun y hy => ?_⟩
  · rcases List.mem_append.1 hy with hy | hy
    · exact h.mem y hy
    · rw [List.mem_singleton.1 hy]; exact hx
  · rw [List.map_append, List.nodup_append]
    refine ⟨h.nd, by simp, fun a ha b hb => ?_⟩
    obtain ⟨y, hy, rfl⟩ := List.mem_map.1 ha
    simp at hb
    subst hb
    exact hn y hy
  · rw [List.map_append, List.nodup_append]
    refine ⟨h.ng, by simp, fun a ha b hb => ?_⟩
    obtain ⟨y, hy, rfl⟩ := List.mem_map.1 ha
    simp at hb
    subst hb
    exact Nat.ne_of_lt (h.box y hy).lt
  · rcases List.mem_append.1 hy with hy | hy
    · exact (h.box y hy).ext ((Ext.refl w).alloc _)
    · rw [List.mem_singleton.1 hy]; exact Box.new w _ _
  · rcases List.mem_append.1 hy with hy | hy
    · exact h.ge y hy
    · rw [List.mem_singleton.1 hy]; exact hB.size
theorem lays_snoc (a : Act) (D : List (Al × Nat)) (y : Al × Nat) : lays a (D ++ [y]) = lay (lays a D) y := by simp [lays]
theorem marks_snoc (L : Array Bool) (D : List (Al × Nat)) (y : Al × Nat) : marks L (D ++ [y]) = mark (marks L D) y := by simp [marks]
theorem lays_put : ∀ (D : List (Al × Nat)) (a : Act) (d : Option Tmp) (v : Value), (∀ y ∈ D, d ≠ some y.1.d) → lays (a.put d v) D = (lays a D).put d v
  | [], _, _, _, _ => rfl
  | y :: D, a, d, v, h => by
    show lays (lay (a.put d v) y) D = (lays (lay a y) D).put d v
    rw [← lays_put D (lay a y) d v (fun z hz => h z (List.mem_cons_of_mem _ hz))]
    unfold lay
    rw [Act.put_comm a v _ (fun e he he' => h y List.mem_cons_self (he.trans he'.symm))]
theorem marks_set : ∀ (D : List (Al × Nat)) (L : Array Bool) (i : Nat), (∀ y ∈ D, y.1.i ≠ i) → marks (L.setIfInBounds i true) D = (marks L D).setIfInBounds i true
  | [], _, _, _ => rfl
  | y :: D, L, i, h => by
    show marks (mark (L.setIfInBounds i true) y) D = (marks (mark L y) D).setIfInBounds i true
    rw [← marks_set D (mark L y) i (fun z hz => h z (List.mem_cons_of_mem _ hz))]
    unfold mark
    rw [Array.setIfInBounds_comm _ _ (Ne.symm (h y List.mem_cons_self))]
theorem marks_un : ∀ (D : List (Al × Nat)) (L : Array Bool) (j : Nat), (marks L D).getD j true = false → L.getD j true = false ∧ ∀ y ∈ D, y.1.i ≠ j
  | [], _, _, h => ⟨h, fun _ hy => by cases hy⟩
  | y :: D, L, j, h => by
    obtain ⟨h1, h2⟩ := marks_un D (mark L y) j h
    have hne : y.1.i ≠ j := by
      rintro rfl
      unfold mark at h1
      by_cases hl : y.1.i < L.size
      · simp [hl] at h1
      · simp [hl] at h1
    refine ⟨by rw [← getD_set_ne true hne]; exact h1, fun z hz => ?_⟩
    rcases List.mem_cons.1 hz with rfl | hz
    · exact hne
    · exact h2 z hz

section
variable {P : Program} {ops : Array Oper} {Q : Exit → Act → World → Prop} {md : Region.Mode} {S : World → Prop} {W0 : World}
/-- the operation x is an allocation that waits for nothing. -/
def IsAl (P : Program) (ops : Array Oper) (x : Al) : Prop := ∃ o, ops[x.i]? = some o ∧ o.dst = some x.d ∧ o.guard = none ∧ ∀ (a : Act) (w : World), (execOp a.eval o).run P w = .ok (.value (.pointer (some ⟨w.heap.size, 0, none⟩))) (w.alloc (.cells x.cs x.t))
def QStill (Q : Exit → Act → World → Prop) : Prop := ∀ c (a : Act) (d : Tmp) v w, Q (.panic c) (a.put (some d) v) w ↔ Q (.panic c) a w
theorem QStill.put (h : QStill Q) (c) (a : Act) (d : Option Tmp) (v) (w) : Q (.panic c) (a.put d v) w ↔ Q (.panic c) a w := by
  cases d with
  | none => exact Iff.rfl
  | some d => exact h c a d v w
/-- whatever of the allocations AL has been done: the rest goes in whatever order, in every greater world. -/
def Late (P : Program) (md : Region.Mode) (ops : Array Oper) (Q : Exit → Act → World → Prop) (W0 : World) (AL : List Al) (n : Nat) (L : Array Bool) (a : Act) (w : World) : Prop :=
  ∀ w', Ext w w' → Ext W0 w' → ∀ D, Val W0 AL w' D → ∀ f, n + AL.length = f + D.length → wpAnyH P md ops Q (Ext W0) f (marks L D) (lays a D) w'
theorem Late.start {AL : List Al} {n f : Nat} {L : Array Bool} {a : Act} {w : World} (h : Late P md ops Q W0 AL n L a w) (hS : Ext W0 w) (hf : n + AL.length = f) : wpAnyH P md ops Q (Ext W0) f L a w :=
  h w (Ext.refl w) hS [] Val.nil f (by simpa using hf)
theorem Late.start1 {x : Al} {n f : Nat} {L : Array Bool} {a : Act} {w : World} (hx : IsAl P ops x) (hQ : QStill Q) (hS : Ext W0 w) (hf : n + 1 = f)
    (h : (∀ z ∈ [x], IsAl P ops z) → QStill Q → Late P md ops Q W0 [x] n L a w) : wpAnyH P md ops Q (Ext W0) f L a w :=
  Late.start (h (by simpa using hx) hQ) hS hf
theorem Late.start2 {x y : Al} {n f : Nat} {L : Array Bool} {a : Act} {w : World} (hx : IsAl P ops x) (hy : IsAl P ops y) (hQ : QStill Q) (hS : Ext W0 w) (hf : n + 2 = f)
    (h : (∀ z ∈ [x, y], IsAl P ops z) → QStill Q → Late P md ops Q W0 [x, y] n L a w) : wpAnyH P md ops Q (Ext W0) f L a w :=
  Late.start (h (by simp [hx, hy]) hQ) hS hf
theorem ready_marks {j : Nat} : ∀ (D : List (Al × Nat)) (L : Array Bool), j ∈ Region.ready md ops L → (∀ y ∈ D, y.1.i ≠ j) → j ∈ Region.ready md ops (marks L D)
  | [], _, h, _ => h
  | y :: D, L, h, hn => ready_marks D (mark L y) (ready_mono h (Ne.symm (hn y List.mem_cons_self))) (fun z hz => hn z (List.mem_cons_of_mem _ hz))
/-- operation i is none of the allocations, and does not touch their slots. -/
def sep (ops : Array Oper) (AL : List Al) (i : Nat) (o : Oper) : Bool := AL.all fun x => x.i != i && !(o.looksAt ops).contains x.d && o.dst != some x.d
theorem sep_spec {AL : List Al} {i : Nat} {o : Oper} (h : sep ops AL i o = true) {x : Al} (hx : x ∈ AL) : x.i ≠ i ∧ x.d ∉ o.looksAt ops ∧ o.dst ≠ some x.d := by
  have := List.all_eq_true.1 h x hx
  simpa [and_assoc] using this
theorem yields_lays {o : Oper} {v : Value} (hs : ∀ cs b, o.op ≠ .select cs b) : ∀ (D : List (Al × Nat)) (a : Act), (∀ y ∈ D, y.1.d ∉ o.looksAt ops) → YieldsIf P ops S o v a → YieldsIf P ops S o v (lays a D)
  | [], _, _, h => h
  | y :: D, a, hn, h => yields_lays hs D (lay a y) (fun z hz => hn z (List.mem_cons_of_mem _ hz)) (by
      have hd : ∀ d, some y.1.d = some d → d ∉ o.looksAt ops := fun d he => by injection he with he; subst he; exact hn y List.mem_cons_self
      exact h.of_same (execOp_put o hs a _ _ hd) (wanted_put o a _ _ hd))
/-- an operation that yields its value in every world that meets S may be taken first. -/
theorem Late.take {AL : List Al} {n i : Nat} {oi : Oper} {d : Option Tmp} {v : Value} {L : Array Bool} {a : Act} {w : World} (hi : ops[i]? = some oi) (hd : oi.dst = d) (hs : Region.noSelect ops = true) (hf : Region.free md ops L i = true)
    (hr : (Region.ready md ops L).contains i = true) (hp : sep ops AL i oi = true) (hQ : QStill Q) (hy : YieldsIf P ops (Ext W0) oi v a)
    (h : Late P md ops Q W0 AL n (L.setIfInBounds i true) (a.put d v) w) : Late P md ops Q W0 AL (n + 1) L a w := by
  subst hd
  intro w' e hS D hD f hl
  have hlen := hD.len
  obtain ⟨f, rfl⟩ : ∃ k, f = k + 1 := ⟨f - 1, by omega⟩
  have hsep := fun y (hy : y ∈ D) => sep_spec hp (hD.mem y hy)
  refine wpAnyH_first hi (Region.noSelect_spec hs) (fun c a w => (hQ.put c a _ _ w).1) f _ _ w' ?_ (ready_marks D L (by simpa using hr) (fun y hy => (hsep y hy).1)) (yields_lays (fun cs b => Region.noSelect_spec hs i oi cs b hi) D a (fun y hy => (hsep y hy).2.1) hy) hS ?_
  · intro j oj hj hne hun hno
    exact Region.free_spec hi hf j oj hj hne (marks_un D L j hun).1 hno
  · have := h w' e hS D hD f (by omega)
    rwa [marks_set D L i (fun y hy => (hsep y hy).1), lays_put D a _ _ (fun y hy => (hsep y hy).2.2)] at this
/-- what an operation does that does not look at a slot does not hang on it. -/
theorem wpOp_lay {j : Nat} {oj : Oper} {d : Tmp} {v : Value} (hj : ops[j]? = some oj) (hs : ∀ cs b, oj.op ≠ .select cs b) (h1 : d ∉ oj.looksAt ops) (h2 : oj.dst ≠ some d) (hQ : QStill Q)
    {K : Act → World → Prop} {a : Act} {w : World} (h : wpOp P ops Q j (fun a' w' => K (a'.put (some d) v) w') a w) : wpOp P ops Q j K (a.put (some d) v) w := by
  have hd : ∀ e, some d = some e → e ∉ oj.looksAt ops := fun e he => by injection he with he; subst he; exact h1
  have hc : ∀ e, some d = some e → oj.dst ≠ some e := fun e he => by injection he with he; subst he; exact h2
  have eqw := wanted_put oj a (some d) v hd
  have eqe := execOp_put oj hs a (some d) v hd
  unfold wpOp at h ⊢
  simp only [hj] at h ⊢
  rw [eqw]
  split
  · rename_i hw
    rw [if_pos hw] at h
    rcases h with h | ⟨hasks, hlets⟩
    · left
      unfold Oper.wp at h ⊢
      rw [eqe]
      cases hr : (execOp a.eval oj).run P w with
      | ok x w' =>
        rw [hr] at h
        cases x <;> simp only [Oper.upon] at h ⊢
        case value u => rw [Act.put_comm a v u hc]; exact h
        case skip => rw [Act.put_comm a v undef hc]; exact h
        case defer q => rw [Act.put_defers, Act.put_comm _ v undef hc]; exact h
        case row row args => exact Rows.mono h fun u w'' he => by rw [Act.put_comm a v u hc]; exact he
        case enter g args =>
          refine Calls.mono h fun e w'' he => ?_
          cases e with
          | returned u => simp only at he ⊢; rw [Act.put_comm a v u hc]; exact he
          | panicked c => exact (hQ _ _ _ _ _).2 he
          | outgrown => exact he
      | halt x w' =>
        rw [hr] at h
        cases x <;> simp only [Oper.upon] at h ⊢
        exact (hQ _ _ _ _ _).2 h
    · right
      refine ⟨?_, hlets⟩
      unfold Oper.asks at hasks ⊢
      rw [eqe]
      exact hasks
  · rename_i hw
    rw [if_neg hw] at h
    rw [Act.put_comm a v undef hc]
    exact h
theorem wpOp_lays {j : Nat} {oj : Oper} (hj : ops[j]? = some oj) (hs : ∀ cs b, oj.op ≠ .select cs b) (hQ : QStill Q) {w : World} : ∀ (D : List (Al × Nat)) (K : Act → World → Prop) (a : Act), (∀ y ∈ D, y.1.d ∉ oj.looksAt ops ∧ oj.dst ≠ some y.1.d) →
    wpOp P ops Q j (fun a' w' => K (lays a' D) w') a w → wpOp P ops Q j K (lays a D) w
  | [], _, _, _, h => h
  | y :: D, K, a, hn, h =>
    wpOp_lays hj hs hQ D K (lay a y) (fun z hz => hn z (List.mem_cons_of_mem _ hz)) (wpOp_lay (K := fun a' w' => K (lays a' D) w') hj hs (hn y List.mem_cons_self).1 (hn y List.mem_cons_self).2 hQ h)
/-- one of the allocations comes up. -/
theorem wpOp_alloc {x : Al} {K : Act → World → Prop} {a : Act} {w : World} (hx : IsAl P ops x) (h : K (lay a (x, w.heap.size)) (w.alloc (.cells x.cs x.t))) : wpOp P ops Q x.i K a w := by
  obtain ⟨o, ho, hd, hg, hrun⟩ := hx
  unfold wpOp
  simp only [ho]
  have hw : Region.wanted o (yielded ops a.tmps) = true := by simp [Region.wanted, hg]
  rw [if_pos hw]
  left
  unfold Oper.wp
  rw [hrun, Oper.upon_value, hd]
  exact h
def allMarks (L : Array Bool) (AL : List Al) : Array Bool := AL.foldl (fun L x => L.setIfInBounds x.i true) L
theorem allMarks_on : ∀ (AL : List Al) (L : Array Bool) (k : Nat), L.getD k false = true → (allMarks L AL).getD k false = true
  | [], _, _, h => h
  | _ :: AL, _, k, h => allMarks_on AL _ k (getD_set_true h)
theorem allMarks_at : ∀ (AL : List Al) (L : Array Bool) (x : Al), x ∈ AL → x.i < L.size → (allMarks L AL).getD x.i false = true
  | _ :: AL, _, x, h, hl => by
    rcases List.mem_cons.1 h with rfl | h
    · exact allMarks_on AL _ _ (by simp [hl])
    · exact allMarks_at AL _ x h (by simpa using hl)
theorem allMarks_off : ∀ (AL : List Al) (L : Array Bool) (k : Nat), L.getD k true = false → (∀ x ∈ AL, x.i ≠ k) → (allMarks L AL).getD k true = false
  | [], _, _, h, _ => h
  | x :: AL, L, k, h, hn => allMarks_off AL _ k (by rw [getD_set_ne true (hn x List.mem_cons_self)]; exact h) (fun z hz => hn z (List.mem_cons_of_mem _ hz))
theorem marks_on : ∀ (D : List (Al × Nat)) (L : Array Bool) (k : Nat), (marks L D).getD k false = true → L.getD k false = true ∨ ∃ y ∈ D, y.1.i = k ∧ k < L.size
  | [], _, _, h => .inl h
  | y :: D, L, k, h => by
    rcases marks_on D (mark L y) k h with h | ⟨z, hz, e, hl⟩
    · by_cases hk : y.1.i = k
      · right
        refine ⟨y, List.mem_cons_self, hk, ?_⟩
        unfold mark at h
        rcases Nat.lt_or_ge k L.size with hl | hl
        · exact hl
        · simp [hl] at h
      · left
        unfold mark at h
        rwa [getD_set_ne false hk] at h
    · exact .inr ⟨z, List.mem_cons_of_mem _ hz, e, by simpa [mark] using hl⟩
theorem ready_all {AL : List Al} {L : Array Bool} {j : Nat} {D : List (Al × Nat)} (hD : ∀ y ∈ D, y.1 ∈ AL) (h : j ∈ Region.ready md ops (marks L D)) (hj : ∀ x ∈ AL, x.i ≠ j) : j ∈ Region.ready md ops (allMarks L AL) := by
  rw [mem_ready] at h ⊢
  obtain ⟨h0, o, ho, hall⟩ := h
  refine ⟨allMarks_off AL L j (marks_un D L j h0).1 hj, o, ho, fun e he hb => ?_⟩
  rcases marks_on D L e.on (hall e he hb) with h | ⟨y, hy, hyi, hl⟩
  · exact allMarks_on AL L _ h
  · rw [← hyi]; exact allMarks_at AL L y.1 (hD y hy) (by rw [hyi]; exact hl)
/-- the one operation besides the allocations that may come up. -/
theorem Late.call {AL : List Al} {n i : Nat} {o : Oper} {L : Array Bool} {a : Act} {w : World} (ho : ops[i]? = some o) (hs : Region.noSelect ops = true) (hal : ∀ x ∈ AL, IsAl P ops x)
    (hr : Region.ready md ops (allMarks L AL) = [i]) (hri : (Region.ready md ops L).contains i = true) (hp : sep ops AL i o = true) (hQ : QStill Q)
    (h : ∀ w', Ext w w' → Ext W0 w' → ∀ K : Act → World → Prop, Shut (∀ a' w'', Ext w' w'' → Late P md ops Q W0 AL n (L.setIfInBounds i true) a' w'' → K a' w'') → if Region.wanted o (yielded ops a.tmps) = true then Oper.wp P o a w' K Q else K (a.put o.dst undef) w') :
    Late P md ops Q W0 AL (n + 1) L a w := by
  have go : ∀ (k : Nat) w', Ext w w' → Ext W0 w' → ∀ D, Val W0 AL w' D → AL.length ≤ D.length + k → ∀ f, n + 1 + AL.length = f + D.length → wpAnyH P md ops Q (Ext W0) f (marks L D) (lays a D) w' := by
    intro k
    induction k with
    | zero =>
      intro w' e hS D hD hk f hl
      have hlen := hD.len
      obtain ⟨f, rfl⟩ : ∃ k, f = k + 1 := ⟨f - 1, by omega⟩
      have hsep := fun y (hy : y ∈ D) => sep_spec hp (hD.mem y hy)
      have hir : i ∈ Region.ready md ops (marks L D) := ready_marks D L (by simpa using hri) (fun y hy => (hsep y hy).1)
      refine ⟨(fun h0 => by rw [h0] at hir; cases hir), fun j hj => ?_⟩
      have hji : j = i := by
        by_cases hx : ∃ x ∈ AL, x.i = j
        · obtain ⟨x, hx, rfl⟩ := hx
          have hun := (marks_un D L x.i (mem_ready.1 hj).1).2
          have := hD.len_lt hx hun
          omega
        · have := ready_all hD.mem hj (fun x hx' e => hx ⟨x, hx', e⟩)
          rw [hr] at this
          simpa using this
      subst hji
      refine wpOp_lays ho (fun cs b => Region.noSelect_spec hs j o cs b ho) hQ D _ a (fun y hy => (hsep y hy).2) (wpOp_step ho fun K' hK => h w' e hS K' (fun a' w'' e' hL => hK a' w'' ?_))
      have hS' := hS.trans e'
      refine ⟨hS', ?_⟩
      have := hL w'' (Ext.refl _) hS' D (hD.ext e') f (by omega)
      rwa [marks_set D L j (fun y hy => (hsep y hy).1)] at this
    | succ k ih =>
      intro w' e hS D hD hk f hl
      have hlen := hD.len
      obtain ⟨f, rfl⟩ : ∃ k, f = k + 1 := ⟨f - 1, by omega⟩
      have hsep := fun y (hy : y ∈ D) => sep_spec hp (hD.mem y hy)
      have hir : i ∈ Region.ready md ops (marks L D) := ready_marks D L (by simpa using hri) (fun y hy => (hsep y hy).1)
      refine ⟨(fun h0 => by rw [h0] at hir; cases hir), fun j hj => ?_⟩
      by_cases hx : ∃ x ∈ AL, x.i = j
      · obtain ⟨x, hx, rfl⟩ := hx
        have hun := (marks_un D L x.i (mem_ready.1 hj).1).2
        refine wpOp_alloc (hal x hx) ?_
        have e1 := (Ext.refl w').alloc (.cells x.cs x.t)
        have hS1 := hS.trans e1
        refine ⟨hS1, ?_⟩
        have := ih (w'.alloc (.cells x.cs x.t)) (e.trans e1) hS1 (D ++ [(x, w'.heap.size)]) (hD.snoc hx hun hS) (by simp; omega) f (by simp; omega)
        rwa [marks_snoc, lays_snoc] at this
      · have := ready_all hD.mem hj (fun x hx' e => hx ⟨x, hx', e⟩)
        rw [hr] at this
        have hji : j = i := by simpa using this
        subst hji
        refine wpOp_lays ho (fun cs b => Region.noSelect_spec hs j o cs b ho) hQ D _ a (fun y hy => (hsep y hy).2) (wpOp_step ho fun K' hK => h w' e hS K' (fun a' w'' e' hL => hK a' w'' ?_))
        have hS' := hS.trans e'
        refine ⟨hS', ?_⟩
        have := hL w'' (Ext.refl _) hS' D (hD.ext e') f (by omega)
        rwa [marks_set D L j (fun y hy => (hsep y hy).1)] at this
  exact fun w' e hS D hD f hl => go AL.length w' e hS D hD (by omega) f hl
/-- nothing but allocations may come up. -/
theorem Late.finish {AL : List Al} {n : Nat} {L : Array Bool} {a : Act} {w : World} (hnd : (AL.map (·.i)).Nodup) (hal : ∀ x ∈ AL, IsAl P ops x)
    (hr : ∀ x ∈ AL, ∀ j ∈ Region.ready md ops (allMarks L (AL.filter fun y => y.i != x.i)), j = x.i) (hrx : AL.all (fun x => (Region.ready md ops L).contains x.i) = true)
    (h : ∀ w', Ext w w' → Ext W0 w' → ∀ D, Val W0 AL w' D → D.length = AL.length → wpAnyH P md ops Q (Ext W0) n (marks L D) (lays a D) w') :
    Late P md ops Q W0 AL n L a w := by
  have go : ∀ (k : Nat) w', Ext w w' → Ext W0 w' → ∀ D, Val W0 AL w' D → AL.length ≤ D.length + k → ∀ f, n + AL.length = f + D.length → wpAnyH P md ops Q (Ext W0) f (marks L D) (lays a D) w' := by
    intro k
    induction k with
    | zero =>
      intro w' e hS D hD hk f hl
      have hlen := hD.len
      obtain rfl : n = f := by omega
      exact h w' e hS D hD (by omega)
    | succ k ih =>
      intro w' e hS D hD hk f hl
      have hlen := hD.len
      by_cases hfull : D.length = AL.length
      · obtain rfl : n = f := by omega
        exact h w' e hS D hD hfull
      obtain ⟨f, rfl⟩ : ∃ k, f = k + 1 := ⟨f - 1, by omega⟩
      obtain ⟨x, hx, hxD⟩ : ∃ x ∈ AL, ∀ y ∈ D, y.1.i ≠ x.i := by
        refine Decidable.byContradiction fun hno => ?_
        refine hfull (Nat.le_antisymm hlen ?_)
        have := len_of_sub (AL.map (·.i)) (D.map fun y => y.1.i) hnd (fun z hz => by
          obtain ⟨x, hx, rfl⟩ := List.mem_map.1 hz
          refine Decidable.byContradiction fun hc => hno ⟨x, hx, fun y hy e => hc (List.mem_map.2 ⟨y, hy, e⟩)⟩)
        simpa using this
      have hxr : x.i ∈ Region.ready md ops (marks L D) := ready_marks D L (by simpa using List.all_eq_true.1 hrx x hx) (fun y hy => hxD y hy)
      refine ⟨(fun h0 => by rw [h0] at hxr; cases hxr), fun j hj => ?_⟩
      by_cases hz : ∃ z ∈ AL, z.i = j
      · obtain ⟨z, hz, rfl⟩ := hz
        have hun := (marks_un D L z.i (mem_ready.1 hj).1).2
        refine wpOp_alloc (hal z hz) ?_
        have e1 := (Ext.refl w').alloc (.cells z.cs z.t)
        have hS1 := hS.trans e1
        refine ⟨hS1, ?_⟩
        have := ih (w'.alloc (.cells z.cs z.t)) (e.trans e1) hS1 (D ++ [(z, w'.heap.size)]) (hD.snoc hz hun hS) (by simp; omega) f (by simp; omega)
        rwa [marks_snoc, lays_snoc] at this
      · have := ready_all (AL := AL.filter fun y => y.i != x.i) (fun y hy => by
          rw [List.mem_filter]
          exact ⟨hD.mem y hy, by simpa using hxD y hy⟩) hj (fun z hz' e => hz ⟨z, (List.mem_filter.1 hz').1, e⟩)
        exact absurd (hr x hx j this).symm (fun e => hz ⟨x, hx, e⟩)
  exact fun w' e hS D hD f hl => go AL.length w' e hS D hD (by omega) f hl
theorem Late.finish1 {x : Al} {n : Nat} {L : Array Bool} {a : Act} {w : World} (hx : IsAl P ops x) (hr : Region.ready md ops L = [x.i])
    (h : ∀ w' g, Ext w w' → Ext W0 w' → W0.heap.size ≤ g → Box w' g x.t x.cs → wpAnyH P md ops Q (Ext W0) n (L.setIfInBounds x.i true) (a.put (some x.d) (.pointer (some ⟨g, 0, none⟩))) w') :
    Late P md ops Q W0 [x] n L a w := by
  refine Late.finish (by simp) (by simpa using hx) ?_ (by simp [hr]) ?_
  · intro z hz j hj
    rw [List.mem_singleton] at hz
    subst hz
    simp only [List.filter_cons, bne_self_eq_false, List.filter_nil, allMarks] at hj
    rw [if_neg (by simp)] at hj
    simpa [hr] using hj
  · intro w' e hS D hD hl
    match D, hl with
    | [y], _ =>
      obtain ⟨u, g⟩ := y
      have hu := hD.mem (u, g) List.mem_cons_self
      simp only [List.mem_singleton] at hu
      subst hu
      exact h w' g e hS (hD.ge (u, g) List.mem_cons_self) (hD.box (u, g) List.mem_cons_self)
theorem Late.finish2 {x y : Al} {n : Nat} {L : Array Bool} {a : Act} {w : World} (hx : IsAl P ops x) (hy : IsAl P ops y) (hne : x.i ≠ y.i) (hd : x.d ≠ y.d)
    (hrx : Region.ready md ops (L.setIfInBounds y.i true) = [x.i]) (hry : Region.ready md ops (L.setIfInBounds x.i true) = [y.i])
    (hr : ((Region.ready md ops L).contains x.i && (Region.ready md ops L).contains y.i) = true)
    (h : ∀ w' g k, Ext w w' → Ext W0 w' → W0.heap.size ≤ g → W0.heap.size ≤ k → g ≠ k → Box w' g x.t x.cs → Box w' k y.t y.cs →
      wpAnyH P md ops Q (Ext W0) n ((L.setIfInBounds x.i true).setIfInBounds y.i true) ((a.put (some x.d) (.pointer (some ⟨g, 0, none⟩))).put (some y.d) (.pointer (some ⟨k, 0, none⟩))) w') :
    Late P md ops Q W0 [x, y] n L a w := by
  have hne' : (y.i == x.i) = false := by simpa using Ne.symm hne
  have hne2 : (x.i == y.i) = false := by simpa using hne
  refine Late.finish (by simp [hne]) (by simp [hx, hy]) ?_ (by simpa using hr) ?_
  · intro z hz j hj
    rcases List.mem_cons.1 hz with rfl | hz
    · simp [bne, hne', allMarks] at hj
      simpa [hrx] using hj
    · rw [List.mem_singleton] at hz
      subst hz
      simp [bne, hne2, allMarks] at hj
      simpa [hry] using hj
  · intro w' e hS D hD hl
    match D, hl with
    | [(u, g), (v, k)], _ =>
      have hu := hD.mem (u, g) (by simp)
      have hv := hD.mem (v, k) (by simp)
      have hnd := hD.nd
      have hng := hD.ng
      simp only [List.map_cons, List.map_nil, List.nodup_cons, List.mem_singleton, List.not_mem_nil, not_false_eq_true, List.nodup_nil, and_true] at hnd hng
      have bu := hD.box (u, g) (by simp)
      have bv := hD.box (v, k) (by simp)
      have gu := hD.ge (u, g) (by simp)
      have gv := hD.ge (v, k) (by simp)
      rcases List.mem_cons.1 hu with rfl | hu
      · rcases List.mem_cons.1 hv with rfl | hv
        · exact absurd rfl hnd
        · rw [List.mem_singleton] at hv
          subst hv
          exact h w' g k e hS gu gv hng bu bv
      · rw [List.mem_singleton] at hu
        subst hu
        rcases List.mem_cons.1 hv with rfl | hv
        · have := h w' k g e hS gv gu (Ne.symm hng) bv bu
          rw [Act.put_comm a _ _ (fun d h1 h2 => by injection h1 with h1; injection h2 with h2; exact hd (h1.trans h2.symm)), Array.setIfInBounds_comm _ _ hne] at this
          exact this
        · rw [List.mem_singleton] at hv
          subst hv
          exact absurd rfl hnd
/-- a region without allocations. -/
theorem Late.start0 {n : Nat} {L : Array Bool} {a : Act} {w : World} (hQ : QStill Q) (hS : Ext W0 w) (h : (∀ z ∈ ([] : List Al), IsAl P ops z) → QStill Q → Late P md ops Q W0 [] n L a w) : wpAnyH P md ops Q (Ext W0) n L a w :=
  Late.start (h (fun _ hz => by cases hz) hQ) hS rfl
theorem Late.done0 {n : Nat} {L : Array Bool} {a : Act} {w : World} (hr : Region.ready md ops L = []) (h : ∀ w', Ext w w' → Ext W0 w' → Q .normal a w') : Late P md ops Q W0 [] n L a w := by
  intro w' e hS D hD f _
  match D with
  | [] => exact wpAnyH_done hr (h w' e hS) f
  | y :: D => exact absurd (hD.mem y List.mem_cons_self) (by simp)
/-- the world behind a step, opaque. -/
theorem any_world (F : World → Prop) {S : World → Prop} {n : Nat} {L : Array Bool} {a : Act} {w : World} (h : F w) (k : ∀ V, F V → wpAnyH P md ops Q S n L a V) : wpAnyH P md ops Q S n L a w := k w h
end
/-- what a store of an integer (a sign and a slice of words) into a box does. -/
theorem put_box {w : World} {g p q n c : Nat} {t : TypeId} {x b : Bool} {y A : Option Addr} (hb : Box w g t #[.bool x, .slice y p q]) :
    Box ((w.setCell ⟨g, 0, none⟩ (.bool b)).setCell ⟨g, 1, none⟩ (.slice A n c)) g t #[.bool b, .slice A n c] ∧
    (∀ g' t' cs', g' ≠ g → Box w g' t' cs' → Box ((w.setCell ⟨g, 0, none⟩ (.bool b)).setCell ⟨g, 1, none⟩ (.slice A n c)) g' t' cs') ∧
    (∀ A' xs, Rd w A' xs → Rd ((w.setCell ⟨g, 0, none⟩ (.bool b)).setCell ⟨g, 1, none⟩ (.slice A n c)) A' xs) ∧
    ∀ W0, Ext W0 w → W0.heap.size ≤ g → Ext W0 ((w.setCell ⟨g, 0, none⟩ (.bool b)).setCell ⟨g, 1, none⟩ (.slice A n c)) :=
  ⟨(hb.setA _).setB _, fun _ _ _ hne h => (h.far (p := ⟨g, 0, none⟩) hne _).far (p := ⟨g, 1, none⟩) hne _, fun _ _ h => (h.setBox hb NoWord.two 0 _).setBox (hb.setA _) NoWord.two 1 _, fun _ e hg => (e.setCell hg _).setCell hg _⟩
end Go.Proofs.YtmjmcinnbmjpdaaDoor
