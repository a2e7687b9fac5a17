/- Walks and laws, part 18. -/
import Derived.Test.YtmjmcinnbmjpdaaDoorMt9
import Derived.Test.YtmjmcinnbmjpdaaDoorMt12
import Derived.Test.YtmjmcinnbmjpdaaDoorMt16
import Derived.Test.YtmjmcinnbmjpdaaDoorMt17
namespace Go.Proofs.YtmjmcinnbmjpdaaDoor
open Go.RowKit
section
variable {P : Program} {ops : Array Oper} {Q : Exit → Act → World → Prop} {md : Region.Mode} {W0 : World} {z : Nat}
/-- whatever order is picked; till z has come up, nothing that was there in W0 has turned. -/
def wpL (P : Program) (md : Region.Mode) (ops : Array Oper) (Q : Exit → Act → World → Prop) (W0 : World) (z : Nat) : Nat → Array Bool → Act → World → Prop
  | 0, L, a, w => Region.ready md ops L = [] ∧ Q .normal a w
  | f + 1, L, a, w =>
    (Region.ready md ops L = [] → Q .normal a w) ∧
    ∀ i ∈ Region.ready md ops L, wpOp P ops Q i (fun a' w' => ((L.setIfInBounds i true).getD z false = true ∨ Ext W0 w') ∧ wpL P md ops Q W0 z f (L.setIfInBounds i true) a' w') a w
theorem wpL.any : ∀ (f : Nat) (L : Array Bool) (a : Act) (w : World), wpL P md ops Q W0 z f L a w → wpAny P md ops Q f L a w
  | 0, _, _, _, h => h
  | f + 1, _, _, _, h => ⟨h.1, fun i hi => wpOp_mono (fun a' w' h' => wpL.any f _ a' w' h'.2) (h.2 i hi)⟩
theorem wpL.start {id : Nat} {a : Act} {w : World} (z : Nat) (hm : P.follows .mixedOrders = true) (hQ : QStill Q) (h : QStill Q → Ext w w.drew → wpL P .any ops Q w z ops.size (Array.replicate ops.size false) a w.drew) : (Code.region id ops true).wp P Q a w :=
  wp_region_any hm (wpL.any _ _ _ _ (h hQ (Ext.refl w).drew))
def allBut (n i z : Nat) : Array Bool := ((Array.replicate n true).setIfInBounds i false).setIfInBounds z false
theorem allBut_on {n i z k : Nat} (h1 : k ≠ i) (h2 : k ≠ z) (hk : k < n) : (allBut n i z).getD k false = true := by
  unfold allBut
  simp [Ne.symm h1, Ne.symm h2, hk]
/-- z waits for i, by way of what it waits for: with all but the two listed it may not come up. -/
def Waits (md : Region.Mode) (ops : Array Oper) (i z : Nat) : Prop := ∃ o, ops[z]? = some o ∧ ∃ e ∈ o.after, Region.binds md e = true ∧ (allBut ops.size i z).getD e.on false = false
theorem waits_not {i : Nat} {L : Array Bool} (h : Waits md ops i z) (hi : L.getD i true = false) (hz : L.getD z false = false) (hsz : L.size = ops.size) : z ∉ Region.ready md ops L := by
  intro hr
  obtain ⟨_, o, ho, hall⟩ := mem_ready.1 hr
  obtain ⟨o', ho', e, he, hb, hf⟩ := h
  rw [ho] at ho'
  injection ho' with ho'
  subst ho'
  have h1 := hall e he hb
  have hlt : e.on < L.size := by
    rcases Nat.lt_or_ge e.on L.size with h | h
    · exact h
    · simp [h] at h1
  have hne1 : e.on ≠ i := by
    intro hh
    rw [← hh] at hi
    simp [hlt] at h1 hi
    rw [h1] at hi
    cases hi
  have hne2 : e.on ≠ z := by
    intro hh
    rw [hh, hz] at h1
    cases h1
  rw [allBut_on hne1 hne2 (by omega)] at hf
  cases hf
theorem wpL.first {i : Nat} {oi : Oper} {v : Value} (hi : ops[i]? = some oi) (hs : Region.noSelect ops = true) (hiz : i ≠ z) (hw : Waits md ops i z) (hQ : QStill Q) :
    ∀ (f : Nat) (L : Array Bool) (a : Act) (w : World), L.size = ops.size → L.getD z false = false →
      (∀ j oj, ops[j]? = some oj → j ≠ i → L.getD j true = false → (∀ e ∈ oj.after, Region.binds md e = true → e.on ≠ i) → oi.apart ops oj = true) →
      i ∈ Region.ready md ops L → YieldsIf P ops (Ext W0) oi v a → Ext W0 w →
      wpL P md ops Q W0 z f (L.setIfInBounds i true) (a.put oi.dst v) w → wpL P md ops Q W0 z (f + 1) L a w := by
  have hsel := Region.noSelect_spec hs
  intro f
  induction f with
  | zero =>
    intro L a w _ _ _ hr hy hS H
    refine ⟨(fun h0 => by rw [h0] at hr; cases hr), fun j hj => ?_⟩
    by_cases hji : j = i
    · subst hji; exact hy.wpOp hi hS ⟨.inr hS, H⟩
    · have := ready_mono hj hji
      rw [H.1] at this
      cases this
  | succ f ih =>
    intro L a w hsz hzL hfree hr hy hS H
    refine ⟨(fun h0 => by rw [h0] at hr; cases hr), fun j hj => ?_⟩
    by_cases hji : j = i
    · subst hji; exact hy.wpOp hi hS ⟨.inr hS, H⟩
    · have hiL := (mem_ready.1 hr).1
      have hjz : j ≠ z := fun e => waits_not hw hiL hzL hsz (e ▸ hj)
      obtain ⟨hjun, oj, hoj, hall⟩ := mem_ready.1 hj
      have hnot : ∀ e ∈ oj.after, Region.binds md e = true → e.on ≠ i := fun e he hb hh => by
        have h1 := hall e he hb
        rw [hh] at h1
        have hlt : i < L.size := by
          rcases Nat.lt_or_ge i L.size with h | h
          · exact h
          · simp [h] at h1
        simp [hlt] at h1 hiL
        rw [h1] at hiL
        cases hiL
      have h1 := H.2 j (ready_mono hj hji)
      have h2 := wpOp_putIf hoj (hfree j oj hoj hji hjun hnot) (fun cs b => hsel i oi cs b hi) (fun cs b => hsel j oj cs b hoj) (fun c a w => (hQ.put c a _ _ w).1) hy h1
      refine wpOp_mono (fun a' w' h3 => ?_) h2
      obtain ⟨hy', hS', H'⟩ := h3
      have hzz : ((L.setIfInBounds i true).setIfInBounds j true).getD z false = false := by
        rw [getD_set_ne false hjz, getD_set_ne false hiz]; exact hzL
      have hE : Ext W0 w' := by
        rcases hS' with h | h
        · rw [hzz] at h; cases h
        · exact h
      refine ⟨.inr hE, ih (L.setIfInBounds j true) a' w' (by simpa using hsz) (by rw [getD_set_ne false hjz]; exact hzL) ?_ (ready_mono hr (Ne.symm hji)) hy' hE ?_⟩
      · intro k ok hk hki hun hno
        refine hfree k ok hk hki ?_ hno
        by_cases hjk : j = k
        · subst hjk; exact hjun
        · rwa [getD_set_ne true hjk] at hun
      · rw [Array.setIfInBounds_comm _ _ hji]
        exact H'
def waitsB (md : Region.Mode) (ops : Array Oper) (i z : Nat) : Bool := match ops[z]? with
  | some o => o.after.toList.any fun e => Region.binds md e && !(allBut ops.size i z).getD e.on false
  | none => false
theorem waitsB_spec {i : Nat} (h : waitsB md ops i z = true) : Waits md ops i z := by
  unfold waitsB at h
  cases ho : ops[z]? with
  | none => rw [ho] at h; cases h
  | some o =>
    rw [ho] at h
    obtain ⟨e, he, hb⟩ := List.any_eq_true.1 h
    rw [Bool.and_eq_true, Bool.not_eq_true'] at hb
    exact ⟨o, ho, e, Array.mem_toList_iff.1 he, hb.1, hb.2⟩
theorem wpL.take {f i : Nat} {oi : Oper} {d : Option Tmp} {v : Value} {L : Array Bool} {a : Act} {w : World} (hi : ops[i]? = some oi) (hd : oi.dst = d) (hs : Region.noSelect ops = true) (hf : Region.free md ops L i = true)
    (hr : (Region.ready md ops L).contains i = true) (hz : (i != z && waitsB md ops i z && !L.getD z false && L.size == ops.size) = true) (hQ : QStill Q) (hy : YieldsIf P ops (Ext W0) oi v a) (hS : Ext W0 w)
    (h : wpL P md ops Q W0 z f (L.setIfInBounds i true) (a.put d v) w) : wpL P md ops Q W0 z (f + 1) L a w := by
  subst hd
  simp only [Bool.and_eq_true, bne_iff_ne, Bool.not_eq_true', beq_iff_eq] at hz
  obtain ⟨⟨⟨h1, h2⟩, h3⟩, h4⟩ := hz
  exact wpL.first hi hs h1 (waitsB_spec h2) hQ f L a w h4 h3 (fun j oj hj hne hun hno => Region.free_spec hi hf j oj hj hne hun hno) (by simpa using hr) hy hS h
theorem wpL.call {f i : Nat} {o : Oper} {L : Array Bool} {a : Act} {w : World} (ho : ops[i]? = some o) (hr : Region.ready md ops L = [i])
    (h : ∀ K : Act → World → Prop, Shut (∀ a' w', Ext W0 w' → wpL P md ops Q W0 z f (L.setIfInBounds i true) a' w' → K a' w') → if Region.wanted o (yielded ops a.tmps) = true then Oper.wp P o a w K Q else K (a.put o.dst undef) w) : wpL P md ops Q W0 z (f + 1) L a w := by
  refine ⟨(fun h0 => by rw [hr] at h0; cases h0), fun j hj => ?_⟩
  rw [hr, List.mem_singleton] at hj
  subst hj
  exact wpOp_step ho fun K hK => h K (fun a' w' e hL => hK a' w' ⟨.inr e, hL⟩)
theorem wpL.tail {f i : Nat} {o : Oper} {L : Array Bool} {a : Act} {w : World} (ho : ops[i]? = some o) (hr : Region.ready md ops L = [i]) (hz : (L.setIfInBounds i true).getD z false = true)
    (h : ∀ K : Act → World → Prop, Shut (∀ a' w', wpL P md ops Q W0 z f (L.setIfInBounds i true) a' w' → K a' w') → if Region.wanted o (yielded ops a.tmps) = true then Oper.wp P o a w K Q else K (a.put o.dst undef) w) : wpL P md ops Q W0 z (f + 1) L a w := by
  refine ⟨(fun h0 => by rw [hr] at h0; cases h0), fun j hj => ?_⟩
  rw [hr, List.mem_singleton] at hj
  subst hj
  exact wpOp_step ho fun K hK => h K (fun a' w' hL => hK a' w' ⟨.inl hz, hL⟩)
theorem wpL.done {L : Array Bool} {a : Act} {w : World} (hr : Region.ready md ops L = []) (h : Q .normal a w) : ∀ f, wpL P md ops Q W0 z f L a w
  | 0 => ⟨hr, h⟩
  | _ + 1 => ⟨fun _ => h, by rw [hr]; simp⟩
end
end Go.Proofs.YtmjmcinnbmjpdaaDoor
namespace Go.Proofs.YtmjmcinnbmjpdaaDoor
open Go.RowKit
attribute [local go_sem ↓] Go.wp_at_zero Go.wp_at_succ
theorem ps_pos {l : List UInt8} (hp : ∀ t, l ≠ 45 :: t) (hd : Digs l) (z : Int) (hz : z = (dv l : Int)) : (Lib.itoa z = l → PS l z) ∧ (Lib.itoa z ≠ l → ∀ y, ¬ PS l y) := by
  subst hz
  have e : Lib.itoa (dv l : Int) = Lib.decDigits (dv l) := by unfold Lib.itoa; rw [if_neg (by omega)]; rfl
  refine ⟨fun h => .inr ⟨hd, (dec_iff hd).1 (e.symm.trans h), rfl⟩, fun h y hy => ?_⟩
  rcases hy with ⟨t, ht, _⟩ | ⟨_, hc, _⟩
  · exact hp t ht
  · exact h (e.trans ((dec_iff hd).2 hc))
theorem not_dig45 : ¬ Dig 45 := fun h => absurd h.1 (by decide)
theorem ps_neg {t : List UInt8} (hd : Digs t) (z : Int) (hz : z = -(dv t : Int)) : (Lib.itoa z = 45 :: t → PS (45 :: t) z) ∧ (Lib.itoa z ≠ 45 :: t → ∀ y, ¬ PS (45 :: t) y) := by
  subst hz
  by_cases h0 : dv t = 0
  · rw [h0]
    have e : Lib.itoa (-((0 : Nat) : Int)) = [48] := by rw [itoa_fd]; rfl
    rw [e]
    refine ⟨fun h => (by injection h with h _; cases h), fun _ y hy => ?_⟩
    rcases hy with ⟨t', ht, hd', hc, hn, _⟩ | ⟨h1, _⟩
    · injection ht with _ ht
      subst ht
      exact hn (dv_zero_canon hd' hc h0)
    · exact not_dig45 (h1 45 (by simp))
  · have e : Lib.itoa (-(dv t : Int)) = 45 :: Lib.decDigits (dv t) := by unfold Lib.itoa; rw [if_pos (by omega)]; congr 2; omega
    rw [e]
    refine ⟨fun h => ?_, fun h y hy => ?_⟩
    · injection h with _ h
      refine .inl ⟨t, rfl, hd, (dec_iff hd).1 h, ?_, rfl⟩
      rintro rfl
      exact h0 rfl
    · rcases hy with ⟨t', ht, _, hc, _⟩ | ⟨h1, _⟩
      · injection ht with _ ht
        subst ht
        exact h (by rw [(dec_iff hd).2 hc])
      · exact not_dig45 (h1 45 (by simp))
theorem ps_nd {l : List UInt8} (hp : ∀ t, l ≠ 45 :: t) (hd : ¬ Digs l) : ∀ y, ¬ PS l y := fun y hy => by
  rcases hy with ⟨t, ht, _⟩ | ⟨h, _⟩
  · exact hp t ht
  · exact hd h
theorem ps_ndn {t : List UInt8} (hd : ¬ Digs t) : ∀ y, ¬ PS (45 :: t) y := fun y hy => by
  rcases hy with ⟨t', ht, h, _⟩ | ⟨h, _⟩
  · injection ht with _ ht
    subst ht
    exact hd h
  · exact not_dig45 (h 45 (by simp))
/-- what Parse returns. -/
def PSOut (l : List UInt8) (len : Nat) (w : World) (e : Ending) (w' : World) : Prop := (∃ z, PS l z ∧ RetIE z len 0 w e w') ∨ ((∀ z, ¬ PS l z) ∧ RetIE 0 0 2 w e w')
section
variable {s : ByteArray} {w : World}
theorem int_Parse (hs : s.size ≤ 1000) : Calls Tryd.prog 16 #[.string s] w (PSOut s.data.toList 10000 w) := by
  by_cases hn : ∃ t, s.data.toList = 45 :: t
  · obtain ⟨t, ht⟩ := hn
    by_cases hd : Digs t ∧ Canon t
    · by_cases h0 : t = [48]
      · subst h0
        refine (parse_n0 (by omega) ht).mono fun e w' h => .inr ⟨fun z hz => ?_, h⟩
        rw [ht] at hz
        rcases hz with ⟨t', h1, _, _, h2, _⟩ | ⟨h1, _⟩
        · injection h1 with _ h1
          exact h2 h1.symm
        · exact not_dig45 (h1 45 (by simp))
      · refine (parse_n (z := -(dv t : Int)) (by omega) ht hd.1 hd.2 h0 rfl).mono fun e w' h => .inl ⟨-(dv t : Int), by rw [ht]; exact .inl ⟨t, rfl, hd.1, hd.2, h0, rfl⟩, ?_⟩
        obtain ⟨b, A, c, ys, h1, h2, h3, h4, h5, h6, h7⟩ := h
        exact ⟨b, A, c, ys, h1, h2, h3, h4, h5, by omega, h7⟩
    · refine (parse_ne (by omega) ht hd).mono fun e w' h => .inr ⟨fun z hz => ?_, h⟩
      rw [ht] at hz
      rcases hz with ⟨t', h1, h2, h3, _⟩ | ⟨h1, _⟩
      · injection h1 with _ h1
        subst h1
        exact hd ⟨h2, h3⟩
      · exact not_dig45 (h1 45 (by simp))
  · have hp : ∀ t, s.data.toList ≠ 45 :: t := fun t h => hn ⟨t, h⟩
    by_cases hd : Digs s.data.toList ∧ Canon s.data.toList
    · refine (parse_p (z := (dv s.data.toList : Int)) (by omega) hp hd.1 hd.2 rfl).mono fun e w' h => .inl ⟨(dv s.data.toList : Int), .inr ⟨hd.1, hd.2, rfl⟩, ?_⟩
      obtain ⟨b, A, c, ys, h1, h2, h3, h4, h5, h6, h7⟩ := h
      exact ⟨b, A, c, ys, h1, h2, h3, h4, h5, by omega, h7⟩
    · refine (parse_pe (by omega) hp hd).mono fun e w' h => .inr ⟨fun z hz => ?_, h⟩
      rcases hz with ⟨t, h1, _⟩ | ⟨h1, h2, _⟩
      · exact hp t h1
      · exact hd ⟨h1, h2⟩
theorem PS.fun {l : List UInt8} {y z : Int} (h : PS l y) (k : PS l z) : y = z := by
  rcases h with ⟨t, ht, hd, _, _, rfl⟩ | ⟨hd, _, rfl⟩
  · subst ht
    rcases k with ⟨t', ht', _, _, _, rfl⟩ | ⟨hd', _⟩
    · injection ht' with _ ht'
      subst ht'
      rfl
    · exact absurd (hd' 45 (by simp)) not_dig45
  · rcases k with ⟨t', ht', _⟩ | ⟨_, _, rfl⟩
    · subst ht'
      exact absurd (hd 45 (by simp)) not_dig45
    · rfl
end
end Go.Proofs.YtmjmcinnbmjpdaaDoor
namespace Go.Proofs.YtmjmcinnbmjpdaaDoor
open Go.RowKit
attribute [local go_sem ↓] Go.wp_at_zero Go.wp_at_succ
/-- q is the quotient, rounded down, and r the remainder. -/
def IsDM (a b q r : Int) : Prop := a = q * b + r ∧ (r = 0 ∨ (0 < b ∧ 0 < r ∧ r < b) ∨ (b < 0 ∧ b < r ∧ r < 0))
/-- two integers and an error's number. -/
def RetDM (a b : Int) (lq lr : Nat) (w : World) (e : Ending) (w' : World) : Prop :=
  ∃ b3 A3 c3 qs b4 A4 c4 rs q r, e = .returned (.tuple #[.agg #[.bool b3, .slice A3 (List.length qs) c3], .agg #[.bool b4, .slice A4 (List.length rs) c4], .int .i64 0]) ∧ Rd w' A3 qs ∧ Rd w' A4 rs ∧ qs.length ≤ c3 ∧ c3 ≤ maxLen ∧ rs.length ≤ c4 ∧ c4 ≤ maxLen ∧
    IsInt q b3 qs ∧ IsInt r b4 rs ∧ IsDM a b q r ∧ qs.length ≤ lq ∧ rs.length ≤ lr ∧ Ext w w'
theorem box4 (w : World) (t u v z : TypeId) (a b c d : Array Value) : ∃ W, W = (((w.alloc (.cells a t)).alloc (.cells b u)).alloc (.cells c v)).alloc (.cells d z) ∧ Ext w W ∧ Box W w.heap.size t a ∧ Box W (w.heap.size + 1) u b ∧ Box W (w.heap.size + 1 + 1) v c ∧ Box W (w.heap.size + 1 + 1 + 1) z d ∧ w.heap.size + 4 ≤ W.heap.size := by
  obtain ⟨W, rfl, h1, h2, h3, h4, h5⟩ := box3 w t u v a b c
  have h6 := Box.new (((w.alloc (.cells a t)).alloc (.cells b u)).alloc (.cells c v)) z d
  simp only [World.size_alloc] at h6
  exact ⟨_, rfl, h1.alloc _, h2.ext ((Ext.refl _).alloc _), h3.ext ((Ext.refl _).alloc _), h4.ext ((Ext.refl _).alloc _), h6, by simp⟩
theorem dm_near {s t : Bool} {x y q r : Nat} (hy : 0 < y) (h : x = q * y + r) (hr : r < y) (hc : (s == t) = true ∨ r = 0) :
    IsDM (if s then -(x : Int) else (x : Int)) (if t then -(y : Int) else (y : Int)) (if (!(s == t)) = true then -(q : Int) else (q : Int)) (if t then -(r : Int) else (r : Int)) := by
  subst h
  have e : (((q * y + r : Nat)) : Int) = (q : Int) * (y : Int) + (r : Int) := by rw [Int.natCast_add, Int.natCast_mul]
  rw [e]
  refine ⟨?_, ?_⟩
  · cases s <;> cases t <;> simp at hc ⊢ <;> (try subst hc) <;> simp [Int.neg_mul, Int.mul_neg] <;> omega
  · cases t
    · simp; omega
    · simp; omega
theorem dm_far {s t : Bool} {x y q r : Nat} (hr0 : 0 < r) (h : x = q * y + r) (hr : r < y) (hc : (s == t) = false) :
    IsDM (if s then -(x : Int) else (x : Int)) (if t then -(y : Int) else (y : Int)) (-((q + 1 : Nat) : Int)) (if t then -((y - r : Nat) : Int) else ((y - r : Nat) : Int)) := by
  subst h
  have e : (((q * y + r : Nat)) : Int) = (q : Int) * (y : Int) + (r : Int) := by rw [Int.natCast_add, Int.natCast_mul]
  have e2 : ((y - r : Nat) : Int) = (y : Int) - (r : Int) := by omega
  rw [e, e2]
  refine ⟨?_, ?_⟩
  · cases s <;> cases t <;> simp at hc ⊢ <;> rw [Int.neg_mul] <;> (try rw [Int.mul_neg]) <;> rw [Int.add_mul] <;> omega
  · cases t
    · simp; omega
    · simp; omega
theorem fin_two {w w2 : World} {g h : Nat} {ty : TypeId} {x x' : Bool} {y y' : Option Addr} {p q p' q' : Nat} {A A' : Option Addr} {rs rs' : List Nat} {b b' : Bool} {n c n' c' : Nat} (hext : Ext w w2) (hg : w.heap.size ≤ g) (hh : w.heap.size ≤ h) (hne : g ≠ h)
    (hb : Box w2 g ty #[.bool x, .slice y p q]) (hb' : Box w2 h ty #[.bool x', .slice y' p' q']) (hr : Rd w2 A rs) (hr' : Rd w2 A' rs') (v0 v1 v2 v3 : Value) (e0 : v0 = .bool b) (e1 : v1 = .slice A n c) (e2 : v2 = .bool b') (e3 : v3 = .slice A' n' c') :
    ∃ W', W' = (((w2.setCell ⟨g, 0, none⟩ v0).setCell ⟨g, 1, none⟩ v1).setCell ⟨h, 0, none⟩ v2).setCell ⟨h, 1, none⟩ v3 ∧ Rd W' A rs ∧ Rd W' A' rs' ∧ Ext w W' ∧ W'.cell? ⟨g, 0, none⟩ = some (.bool b) ∧ W'.cell? ⟨g, 1, none⟩ = some (.slice A n c) ∧ W'.cell? ⟨h, 0, none⟩ = some (.bool b') ∧ W'.cell? ⟨h, 1, none⟩ = some (.slice A' n' c') := by
  subst e0 e1 e2 e3
  obtain ⟨r1, r2, _, _⟩ := fin_pair (b := b) (n := n) (c := c) hext hg hb hr
  have q1 := (hr'.setBox hb NoWord.two 0 (.bool b)).setBox (hb.setA (.bool b)) NoWord.two 1 (.slice A n c)
  have k1 := (hb.setA (.bool b)).setB (.slice A n c)
  have k2 := (hb'.far (p := ⟨g, 0, none⟩) (far_ne (Ne.symm hne)) (.bool b)).far (p := ⟨g, 1, none⟩) (far_ne (Ne.symm hne)) (.slice A n c)
  obtain ⟨s1, s2, s3, s4⟩ := fin_pair (b := b') (n := n') (c := c') r2 hh k2 q1
  have t1 := (r1.setBox k2 NoWord.two 0 (.bool b')).setBox (k2.setA (.bool b')) NoWord.two 1 (.slice A' n' c')
  have k3 := (k1.far (p := ⟨h, 0, none⟩) (far_ne hne) (.bool b')).far (p := ⟨h, 1, none⟩) (far_ne hne) (.slice A' n' c')
  exact ⟨_, rfl, t1, s1, s2, k3.cell 0 _ rfl, k3.cell 1 _ rfl, s3, s4⟩
section
variable {A B : Option Addr} {c d n m L : Nat} {xs ys : List Nat} {w : World} {s t : Bool}
set_option maxHeartbeats 1000000 in
theorem int_DivMod_0 (hn : xs.length = n) (hm : ys.length = m) (hx : Rd w A xs) (hy : Rd w B ys) (hc : n ≤ c) (hcm : c ≤ maxLen) (hd : m ≤ d) (hdm : d ≤ maxLen) (_h1 : n ≤ 100000) (_h2 : m ≤ 100000) (h0 : val ys = 0) :
    Calls Tryd.prog 13 #[.agg #[.bool s, .slice A n c], .agg #[.bool t, .slice B m d]] w fun e w' => e = .returned (.tuple #[.agg #[.bool false, .slice none 0 0], .agg #[.bool false, .slice none 0 0], .int .i64 6]) ∧ Ext w w' := by
  have Hn := Lib.hid hn
  have Hm := Lib.hid hm
  clear hn hm
  have lx := trimL_len xs
  have ly := trimL_len ys
  have hxt : Rd w A (trimL xs) := by rw [trimL_take]; exact hx.take _
  have hyt : Rd w B (trimL ys) := by rw [trimL_take]; exact hy.take _
  go_enter Tryd.func13, Tryd.ntmps13
  go_upto_region 1 with (fail)
  obtain ⟨W, hW, extW, bx, by_, bz, bu, hz⟩ := box4 w 24 24 24 24 #[.bool s, .slice A n c] #[.bool t, .slice B m d] #[.bool false, .slice none 0 0] #[.bool false, .slice none 0 0]
  rw [← hW]
  clear hW
  have x0 := bx.cell 0 (.bool s) rfl
  have x1 := bx.cell 1 (.slice A n c) rfl
  have y0 := by_.cell 0 (.bool t) rfl
  have y1 := by_.cell 1 (.slice B m d) rfl
  go_quiet (first | (go_at_call_of 26 A; exact quiet_left (int_trimN Hn.out (hx.ext (extW.drewN _)) hc hcm)) | (go_at_call_of 26 B; exact quiet_left (int_trimN Hm.out (hy.ext (extW.drewN _)) hd hdm)))
  refine at_then (fun N => Ext w N ∧ Box N w.heap.size 24 #[.bool s, .slice A n c] ∧ Box N (w.heap.size + 1) 24 #[.bool t, .slice B m d] ∧ Box N (w.heap.size + 1 + 1) 24 #[.bool false, .slice none 0 0] ∧ Box N (w.heap.size + 1 + 1 + 1) 24 #[.bool false, .slice none 0 0] ∧ w.heap.size + 4 ≤ N.heap.size) ⟨extW.drewN _, bx.ext ((Ext.refl _).drewN _), by_.ext ((Ext.refl _).drewN _), bz.ext ((Ext.refl _).drewN _), bu.ext ((Ext.refl _).drewN _), hz⟩ ?_
  clear x0 x1 y0 y1 extW bx by_ bz bu hz
  rintro N ⟨extN, bx, by_, bz, bu, hz⟩
  have x0 := bx.cell 0 (.bool s) rfl
  have y0 := by_.cell 0 (.bool t) rfl
  have hl0 : (trimL ys).length = 0 := by rw [(Nrm.trimL ys).zero.1 (by rw [val_trimL]; exact h0)]; rfl
  have ht0 : (((trimL ys).length : Int) == 0) = true := by rw [beq_iff_eq]; omega
  have z0 := bz.cell 0 (.bool false) rfl
  have z1 := bz.cell 1 (.slice none 0 0) rfl
  have f0 := bz.frozen 0
  have f1 := bz.frozen 1
  have u0 := bu.cell 0 (.bool false) rfl
  have u1 := bu.cell 1 (.slice none 0 0) rfl
  have g0 := bu.frozen 0
  have g1 := bu.frozen 1
  go_wp2_with fail
  obtain ⟨W', hW', r1, r2, r3, r4, r5, r6, r7⟩ := fin_two (b := false) (A := none) (n := 0) (c := 0) (b' := false) (A' := none) (n' := 0) (c' := 0) (rs := []) (rs' := []) extN (show w.heap.size ≤ w.heap.size + 1 + 1 by omega) (show w.heap.size ≤ w.heap.size + 1 + 1 + 1 by omega) (by omega) bz bu (Rd.nil _ _) (Rd.nil _ _) _ _ _ _ rfl rfl rfl rfl
  rw [← hW']
  exact bodyPost_ret (v := .tuple #[.agg #[.bool false, .slice none 0 0], .agg #[.bool false, .slice none 0 0], .int .i64 6]) (by simp [results, Tryd.results13, go_sem, r4, r5, r6, r7]) rfl ⟨rfl, r3⟩

set_option maxHeartbeats 1000000 in
theorem int_DivMod_L (hD : DivideOK L) (hn : xs.length = n) (hm : ys.length = m) (hx : Rd w A xs) (hy : Rd w B ys) (hc : n ≤ c) (hcm : c ≤ maxLen) (hd : m ≤ d) (hdm : d ≤ maxLen) (h1 : n ≤ 100000) (h2 : m ≤ 100000) (hL : n ≤ L) (h0 : val ys ≠ 0) :
    Calls Tryd.prog 13 #[.agg #[.bool s, .slice A n c], .agg #[.bool t, .slice B m d]] w (RetDM (ival s xs) (ival t ys) (xs.length + 1) (max xs.length ys.length) w) := by
  have Hn := Lib.hid hn
  have Hm := Lib.hid hm
  clear hn hm
  have lx := trimL_len xs
  have ly := trimL_len ys
  have hxt : Rd w A (trimL xs) := by rw [trimL_take]; exact hx.take _
  have hyt : Rd w B (trimL ys) := by rw [trimL_take]; exact hy.take _
  go_enter Tryd.func13, Tryd.ntmps13
  go_upto_region 1 with (fail)
  obtain ⟨W, hW, extW, bx, by_, bz, bu, hz⟩ := box4 w 24 24 24 24 #[.bool s, .slice A n c] #[.bool t, .slice B m d] #[.bool false, .slice none 0 0] #[.bool false, .slice none 0 0]
  rw [← hW]
  clear hW
  have x0 := bx.cell 0 (.bool s) rfl
  have x1 := bx.cell 1 (.slice A n c) rfl
  have y0 := by_.cell 0 (.bool t) rfl
  have y1 := by_.cell 1 (.slice B m d) rfl
  go_quiet (first | (go_at_call_of 26 A; exact quiet_left (int_trimN Hn.out (hx.ext (extW.drewN _)) hc hcm)) | (go_at_call_of 26 B; exact quiet_left (int_trimN Hm.out (hy.ext (extW.drewN _)) hd hdm)))
  refine at_then (fun N => Ext w N ∧ Box N w.heap.size 24 #[.bool s, .slice A n c] ∧ Box N (w.heap.size + 1) 24 #[.bool t, .slice B m d] ∧ Box N (w.heap.size + 1 + 1) 24 #[.bool false, .slice none 0 0] ∧ Box N (w.heap.size + 1 + 1 + 1) 24 #[.bool false, .slice none 0 0] ∧ w.heap.size + 4 ≤ N.heap.size) ⟨extW.drewN _, bx.ext ((Ext.refl _).drewN _), by_.ext ((Ext.refl _).drewN _), bz.ext ((Ext.refl _).drewN _), bu.ext ((Ext.refl _).drewN _), hz⟩ ?_
  clear x0 x1 y0 y1 extW bx by_ bz bu hz
  rintro N ⟨extN, bx, by_, bz, bu, hz⟩
  have x0 := bx.cell 0 (.bool s) rfl
  have y0 := by_.cell 0 (.bool t) rfl
  have hpy : val (trimL ys) ≠ 0 := by rw [val_trimL]; exact h0
  have hly : 0 < (trimL ys).length := by
    rcases Nat.eq_zero_or_pos (trimL ys).length with h | h
    · exact absurd ((Nrm.trimL ys).zero.2 (List.eq_nil_of_length_eq_zero h)) hpy
    · exact h
  have ht0 : (((trimL ys).length : Int) == 0) = false := by rw [beq_eq_false_iff_ne]; omega
  have HD := Lib.hid hD
  have H0 := Lib.hid h0
  clear hD h0 hpy
  go_wp2_with fail
  refine (HD.out A B c d _ _ (trimL xs) (trimL ys) N rfl rfl (hxt.ext extN) (hyt.ext extN) (by have := Hn.out; omega) hcm (by have := Hm.out; omega) hdm (Nrm.trimL xs) (Nrm.trimL ys) hly (by have := Hn.out; omega) (by have := Hm.out; omega)).mono ?_
  rintro e w1 ⟨A5, c5, qs, A6, c6, rs, rfl, ho5, ho6, hc5, hm5, hc6, hm6, ⟨hv5, hv6, hn5, hn6, hl5, hl6⟩, hext1⟩
  have Hv5 := Lib.hid hv5
  have Hv6 := Lib.hid hv6
  clear hv5 hv6
  replace extN := extN.trans hext1
  replace bx := bx.ext hext1
  replace by_ := by_.ext hext1
  replace bz := bz.ext hext1
  replace bu := bu.ext hext1
  have hs1 := hext1.size
  clear x0 y0
  have x0 := bx.cell 0 (.bool s) rfl
  have y0 := by_.cell 0 (.bool t) rfl
  have hrs0 : rs.length = 0 → val rs = 0 := fun h => by rw [List.eq_nil_of_length_eq_zero h]; rfl
  have hdm1 : val (trimL xs) = val qs * val (trimL ys) + val rs := by
    rw [Hv5.out, Hv6.out, Nat.mul_comm]; exact (Nat.div_add_mod _ _).symm
  have hdm2 : val rs < val (trimL ys) := by rw [Hv6.out]; exact Nat.mod_lt _ (by rw [val_trimL]; have := H0.out; omega)
  rw [val_trimL, val_trimL] at hdm1
  rw [val_trimL] at hdm2
  have Hdm1 := Lib.hid hdm1
  have Hdm2 := Lib.hid hdm2
  have Hrs0 := Lib.hid hrs0
  clear hdm1 hdm2 hrs0
  by_cases hcase : (s == t) = true ∨ rs.length = 0
  · have Hcase := Lib.hid hcase
    rcases hcase with hst | hr0
    · have hnot : (!(s == t)) = false := by rw [hst]; rfl
      go_wp2_with fail
      go_region_held3 (fun w' => w'.cell? ⟨w.heap.size + 1, 0, none⟩ = some (.bool t)) (first | (first | (exact Ext.cellv (by assumption) (by assumption)) | (refine (cell_far2 (by omega)).trans ?_; assumption)) | go_keep)
        (first | (go_at_call_of 24 A5; refine (int_signed rfl (ho5.rd.ext (by first | exact Ext.refl _ | exact (Ext.refl _).drew)) hc5 hm5 hn5).mono ?_; rintro e w3 ⟨b3, A3, c3, ps, rfl, hr3, hc3, hm3, hi3, hl3, hext3⟩; have ext3 := (Ext.refl w1).drew.trans hext3) | (go_at_call_of 24 A6; refine (int_signed rfl (ho6.rd.ext ext3) hc6 hm6 hn6).mono ?_; rintro e w4 ⟨b4, A4, c4, us, rfl, hr4, hc4, hm4, hi4, hl4, hext4⟩; have ext4 := ext3.trans hext4; have bz4 := bz.ext ext4; have bu4 := bu.ext ext4; have z0 := bz4.cell 0 (.bool false) rfl; have z1 := bz4.cell 1 (.slice none 0 0) rfl; have f0 := bz4.frozen 0; have f1 := bz4.frozen 1; have u0 := bu4.cell 0 (.bool false) rfl; have u1 := bu4.cell 1 (.slice none 0 0) rfl; have g0 := bu4.frozen 0; have g1 := bu4.frozen 1))
      go_wp2_with fail
      obtain ⟨W', hW', r1, r2, r3, r4, r5, r6, r7⟩ := fin_two (b := b3) (A := A3) (n := ps.length) (c := c3) (b' := b4) (A' := A4) (n' := us.length) (c' := c4) (extN.trans ext4) (show w.heap.size ≤ w.heap.size + 1 + 1 by omega) (show w.heap.size ≤ w.heap.size + 1 + 1 + 1 by omega) (by omega) bz4 bu4 (hr3.ext hext4) hr4 _ _ _ _ rfl rfl rfl rfl
      rw [← hW']
      refine bodyPost_ret (v := .tuple #[.agg #[.bool b3, .slice A3 ps.length c3], .agg #[.bool b4, .slice A4 us.length c4], .int .i64 0]) (by simp [results, Tryd.results13, go_sem, r4, r5, r6, r7]) rfl ⟨b3, A3, c3, ps, b4, A4, c4, us, _, _, rfl, r1, r2, hc3, hm3, hc4, hm4, hi3, hi4, ?_, by omega, by omega, r3⟩
      have e := dm_near (s := s) (t := t) (x := val xs) (y := val ys) (q := val qs) (r := val rs) (by have := H0.out; omega) Hdm1.out Hdm2.out (Hcase.out.imp id Hrs0.out)
      first | simp only [hst, Bool.not_true] at e | simp only [hst, Bool.not_false] at e | simp only [hst] at e
      exact e
    · have hd1 : decide ((0 : Int) < (rs.length : Int)) = false := decide_eq_false (by omega)
      have hd2 : decide (0 < rs.length) = false := decide_eq_false (by omega)
      have Hr0 := Lib.hid hr0
      clear hr0
      cases hst : (s == t)
      all_goals
        go_wp2_with fail
        go_region_held3 (fun w' => w'.cell? ⟨w.heap.size + 1, 0, none⟩ = some (.bool t)) (first | (first | (exact Ext.cellv (by assumption) (by assumption)) | (refine (cell_far2 (by omega)).trans ?_; assumption)) | go_keep)
          (first | (go_at_call_of 24 A5; refine (int_signed rfl (ho5.rd.ext (by first | exact Ext.refl _ | exact (Ext.refl _).drew)) hc5 hm5 hn5).mono ?_; rintro e w3 ⟨b3, A3, c3, ps, rfl, hr3, hc3, hm3, hi3, hl3, hext3⟩; have ext3 := (Ext.refl w1).drew.trans hext3) | (go_at_call_of 24 A6; refine (int_signed rfl (ho6.rd.ext ext3) hc6 hm6 hn6).mono ?_; rintro e w4 ⟨b4, A4, c4, us, rfl, hr4, hc4, hm4, hi4, hl4, hext4⟩; have ext4 := ext3.trans hext4; have bz4 := bz.ext ext4; have bu4 := bu.ext ext4; have z0 := bz4.cell 0 (.bool false) rfl; have z1 := bz4.cell 1 (.slice none 0 0) rfl; have f0 := bz4.frozen 0; have f1 := bz4.frozen 1; have u0 := bu4.cell 0 (.bool false) rfl; have u1 := bu4.cell 1 (.slice none 0 0) rfl; have g0 := bu4.frozen 0; have g1 := bu4.frozen 1))
        go_wp2_with fail
        obtain ⟨W', hW', r1, r2, r3, r4, r5, r6, r7⟩ := fin_two (b := b3) (A := A3) (n := ps.length) (c := c3) (b' := b4) (A' := A4) (n' := us.length) (c' := c4) (extN.trans ext4) (show w.heap.size ≤ w.heap.size + 1 + 1 by omega) (show w.heap.size ≤ w.heap.size + 1 + 1 + 1 by omega) (by omega) bz4 bu4 (hr3.ext hext4) hr4 _ _ _ _ rfl rfl rfl rfl
        rw [← hW']
        refine bodyPost_ret (v := .tuple #[.agg #[.bool b3, .slice A3 ps.length c3], .agg #[.bool b4, .slice A4 us.length c4], .int .i64 0]) (by simp [results, Tryd.results13, go_sem, r4, r5, r6, r7]) rfl ⟨b3, A3, c3, ps, b4, A4, c4, us, _, _, rfl, r1, r2, hc3, hm3, hc4, hm4, hi3, hi4, ?_, by omega, by omega, r3⟩
        have e := dm_near (s := s) (t := t) (x := val xs) (y := val ys) (q := val qs) (r := val rs) (by have := H0.out; omega) Hdm1.out Hdm2.out (Hcase.out.imp id Hrs0.out)
        first | simp only [hst, Bool.not_true] at e | simp only [hst, Bool.not_false] at e | simp only [hst] at e
        exact e
  · have hst : (s == t) = false := by
      cases h : (s == t) with
      | true => exact absurd (.inl h) hcase
      | false => rfl
    have hrl : 0 < rs.length := by
      rcases Nat.eq_zero_or_pos rs.length with h | h
      · exact absurd (.inr h) hcase
      · exact h
    clear hcase
    have hd1 : decide ((0 : Int) < (rs.length : Int)) = true := decide_eq_true (by omega)
    have hd2 : decide (0 < rs.length) = true := decide_eq_true (by omega)
    go_wp2_with fail
    have hnew := BlkN.lit w1 [1] #[.int .u32 1] rfl
    refine (int_add (xs := qs) (ys := [1]) rfl rfl (ho5.rd.ext ((Ext.refl w1).alloc _)) (hnew.rd0 (W32.one (by omega))) (by have := Hn.out; omega) (by simp)).mono ?_
    rintro e w5 ⟨A7, c7, q2, rfl, ho7, hc7, hm7, ⟨hv7, hn7, hl7⟩, hext7⟩
    have ext7 := ((Ext.refl w1).alloc (.cells #[.int .u32 1] 43)).trans hext7
    have Hv7 := Lib.hid hv7
    clear hv7
    go_wp2_with fail
    refine (int_subtract (xs := trimL ys) (ys := rs) rfl rfl (hyt.ext (extN.trans ext7)) (ho6.rd.ext ext7) (len_le hyt.1 hn6 (by rw [val_trimL]; exact Nat.le_of_lt Hdm2.out)) (by rw [val_trimL]; exact Nat.le_of_lt Hdm2.out) (by have := Hm.out; omega)).mono ?_
    rintro e w6 ⟨A8, c8, r2', rfl, ho8, hc8, hm8, ⟨hv8, hn8, hl8⟩, hext8⟩
    have ext8 := ext7.trans hext8
    have Hv8 := Lib.hid hv8
    clear hv8
    replace extN := extN.trans ext8
    replace bx := bx.ext ext8
    replace by_ := by_.ext ext8
    replace bz := bz.ext ext8
    replace bu := bu.ext ext8
    have ho7' := ho7.rd.ext hext8
    clear x0 y0
    have y0 := by_.cell 0 (.bool t) rfl
    go_wp2_with fail
    go_region_held3 (fun w' => w'.cell? ⟨w.heap.size + 1, 0, none⟩ = some (.bool t)) (first | (first | (exact Ext.cellv (by assumption) (by assumption)) | (refine (cell_far2 (by omega)).trans ?_; assumption)) | go_keep)
      (first | (go_at_call_of 24 A7; refine (int_signed rfl (ho7'.ext (by first | exact Ext.refl _ | exact (Ext.refl _).drew)) hc7 hm7 hn7).mono ?_; rintro e w3 ⟨b3, A3, c3, ps, rfl, hr3, hc3, hm3, hi3, hl3, hext3⟩; have ext3 := (Ext.refl w6).drew.trans hext3) | (go_at_call_of 24 A8; refine (int_signed rfl (ho8.rd.ext ext3) hc8 hm8 hn8).mono ?_; rintro e w4 ⟨b4, A4, c4, us, rfl, hr4, hc4, hm4, hi4, hl4, hext4⟩; have ext4 := ext3.trans hext4; have bz4 := bz.ext ext4; have bu4 := bu.ext ext4; have z0 := bz4.cell 0 (.bool false) rfl; have z1 := bz4.cell 1 (.slice none 0 0) rfl; have f0 := bz4.frozen 0; have f1 := bz4.frozen 1; have u0 := bu4.cell 0 (.bool false) rfl; have u1 := bu4.cell 1 (.slice none 0 0) rfl; have g0 := bu4.frozen 0; have g1 := bu4.frozen 1))
    go_wp2_with fail
    obtain ⟨W', hW', r1, r2, r3, r4, r5, r6, r7⟩ := fin_two (b := b3) (A := A3) (n := ps.length) (c := c3) (b' := b4) (A' := A4) (n' := us.length) (c' := c4) (extN.trans ext4) (show w.heap.size ≤ w.heap.size + 1 + 1 by omega) (show w.heap.size ≤ w.heap.size + 1 + 1 + 1 by omega) (by omega) bz4 bu4 (hr3.ext hext4) hr4 _ _ _ _ rfl rfl rfl rfl
    rw [← hW']
    refine bodyPost_ret (v := .tuple #[.agg #[.bool b3, .slice A3 ps.length c3], .agg #[.bool b4, .slice A4 us.length c4], .int .i64 0]) (by simp [results, Tryd.results13, go_sem, r4, r5, r6, r7]) rfl ⟨b3, A3, c3, ps, b4, A4, c4, us, _, _, rfl, r1, r2, hc3, hm3, hc4, hm4, hi3, hi4, ?_, by (simp at hl7; omega), by omega, r3⟩
    have h7 := Hv7.out
    have h8 := Hv8.out
    rw [val_one] at h7
    rw [val_trimL] at h8
    have hrp : 0 < val rs := by
      have := hn6.zero
      rcases Nat.eq_zero_or_pos (val rs) with h | h
      · rw [this.1 h] at hrl; simp at hrl
      · exact h
    have e := dm_far (s := s) (t := t) (x := val xs) (y := val ys) (q := val qs) (r := val rs) hrp Hdm1.out Hdm2.out hst
    rw [← h7, ← h8] at e
    exact e

end
end Go.Proofs.YtmjmcinnbmjpdaaDoor
