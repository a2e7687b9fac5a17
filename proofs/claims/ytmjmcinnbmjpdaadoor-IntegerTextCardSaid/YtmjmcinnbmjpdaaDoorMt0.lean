/- Walks and laws, part 0. -/
import Derived.WalkKit
import Derived.WalkSpells
import Derived.Lib.Hide
import Derived.Deep.Draws
import Derived.BigQuiet
import Derived.Deep.QuietTactic
import Derived.Maps.AppendAt
import Derived.Laws.CopyOwn
namespace Go.Proofs.YtmjmcinnbmjpdaaDoor
open Go.RowKit

/-- every block that was there is as it was. -/
def Ext (w w' : World) : Prop := Below w.heap.size w w'
section
variable {w w' a b c : World}
theorem Ext.refl (w : World) : Ext w w := Below.refl _ _
theorem Ext.size (h : Ext w w') : w.heap.size ≤ w'.heap.size := Below.size h
theorem Ext.trans (h : Ext a b) (k : Ext b c) : Ext a c := Below.trans h (Below.mono k h.size)
theorem Ext.drew (h : Ext a w) : Ext a w.drew := Below.drew h
theorem Ext.drewN (h : Ext a w) (n : Nat) : Ext a (w.drewN n) := by
  have hb : Below a.heap.size a w := h
  exact ⟨hb.os, hb.tape, hb.output, hb.size, hb.block⟩
theorem Ext.alloc (h : Ext a w) (o : Obj) : Ext a (w.alloc o) := Below.alloc h h.size o
theorem Ext.setCell (h : Ext a w) {p : Addr} (hp : a.heap.size ≤ p.block) (u : Value) : Ext a (w.setCell p u) := Below.setCell h hp u
theorem Ext.cell (h : Ext w w') {p : Addr} (hp : p.block < w.heap.size) : w'.cell? p = w.cell? p := Below.cell h hp
theorem Ext.frozen (h : Ext w w') {p : Addr} (hp : p.block < w.heap.size) : w'.frozen? p = w.frozen? p := Below.frozen h hp
theorem cell_lt {p : Addr} {v : Value} (h : w.cell? p = some v) : p.block < w.heap.size := by
  rcases Nat.lt_or_ge p.block w.heap.size with hlt | hge
  · exact hlt
  · simp [World.cell?, Array.getElem?_eq_none hge] at h
theorem Ext.cellv (h : Ext w w') {p : Addr} {v : Value} (hp : w.cell? p = some v) : w'.cell? p = some v := (h.cell (cell_lt hp)).trans hp
/-- a cell of a block that was just laid. -/
theorem new_cell (w : World) (cs : Array Value) (t : TypeId) (i : Nat) : (w.alloc (.cells cs t)).cell? ⟨w.heap.size, i, none⟩ = cs[i]? := cell_of_row _ _ _ _ t (0, 0) (heap_alloc_new w _)
theorem new_cell_ext {cs : Array Value} {t : TypeId} (h : Ext (w.alloc (.cells cs t)) w') (i : Nat) (v : Value) (hv : cs[i]? = some v) : w'.cell? ⟨w.heap.size, i, none⟩ = some v :=
  h.cellv ((new_cell w cs t i).trans hv)
end

/-- block g is known whole. -/
def Box (w : World) (g : Nat) (t : TypeId) (cs : Array Value) : Prop := w.heap[g]? = some (.cells cs t (0, 0))
section
variable {w w' : World} {g : Nat} {t : TypeId} {cs : Array Value}
theorem Box.lt (h : Box w g t cs) : g < w.heap.size := by
  rcases Nat.lt_or_ge g w.heap.size with hlt | hge
  · exact hlt
  · unfold Box at h; rw [Array.getElem?_eq_none hge] at h; cases h
theorem Box.new (w : World) (t : TypeId) (cs : Array Value) : Box (w.alloc (.cells cs t)) w.heap.size t cs := heap_alloc_new w _
theorem Box.ext (h : Box w g t cs) (e : Ext w w') : Box w' g t cs := by
  have hb : Below w.heap.size w w' := e
  exact (hb.block g h.lt).trans h
theorem Box.cell (h : Box w g t cs) (i : Nat) (v : Value) (hv : cs[i]? = some v) : w.cell? ⟨g, i, none⟩ = some v := (cell_of_row w g i cs t (0, 0) h).trans hv
theorem Box.frozen (h : Box w g t cs) (i : Nat) : w.frozen? ⟨g, i, none⟩ = false := by
  unfold Box at h
  simp [World.frozen?, h]
theorem Box.set (h : Box w g t cs) (i : Nat) (u : Value) : Box (w.setCell ⟨g, i, none⟩ u) g t (cs.setIfInBounds i u) := by
  unfold Box at h ⊢
  simp [World.setCell, Array.getElem?_modify, h]
theorem Box.far (h : Box w g t cs) {p : Addr} (hp : g ≠ p.block) (u : Value) : Box (w.setCell p u) g t cs := (Below.heap_setCell w p u g hp).trans h
end
/-- a world behind a box, two boxes, three. -/
theorem boxes1 (w : World) (t : TypeId) (a : Array Value) (k : Nat) : ∃ W, W = (w.alloc (.cells a t)).drewN k ∧ Ext w W ∧ Box W w.heap.size t a ∧ w.heap.size + 1 ≤ W.heap.size :=
  ⟨_, rfl, ((Ext.refl w).alloc _).drewN k, (Box.new w t a).ext ((Ext.refl _).drewN k), by simp [World.drewN]⟩
theorem boxes2 (w : World) (t u : TypeId) (a b : Array Value) (k : Nat) : ∃ W, W = ((w.alloc (.cells a t)).alloc (.cells b u)).drewN k ∧ Ext w W ∧ Box W w.heap.size t a ∧ Box W (w.heap.size + 1) u b ∧ w.heap.size + 2 ≤ W.heap.size := by
  have h2 := Box.new (w.alloc (.cells a t)) u b
  simp only [World.size_alloc] at h2
  exact ⟨_, rfl, (((Ext.refl w).alloc _).alloc _).drewN k, (Box.new w t a).ext (((Ext.refl _).alloc _).drewN k), h2.ext ((Ext.refl _).drewN k), by simp [World.drewN]⟩
theorem boxes3 (w : World) (t u v : TypeId) (a b c : Array Value) (k : Nat) : ∃ W, W = (((w.alloc (.cells a t)).alloc (.cells b u)).alloc (.cells c v)).drewN k ∧ Ext w W ∧ Box W w.heap.size t a ∧ Box W (w.heap.size + 1) u b ∧ Box W (w.heap.size + 1 + 1) v c ∧ w.heap.size + 3 ≤ W.heap.size := by
  have h2 := Box.new (w.alloc (.cells a t)) u b
  have h3 := Box.new ((w.alloc (.cells a t)).alloc (.cells b u)) v c
  simp only [World.size_alloc] at h2 h3
  exact ⟨_, rfl, ((((Ext.refl w).alloc _).alloc _).alloc _).drewN k, (Box.new w t a).ext ((((Ext.refl _).alloc _).alloc _).drewN k), h2.ext (((Ext.refl _).alloc _).drewN k), h3.ext ((Ext.refl _).drewN k), by simp [World.drewN]⟩
theorem cell_far1 {w : World} {g h i j : Nat} {a : Value} (hne : h ≠ g) : (w.setCell ⟨g, j, none⟩ a).cell? ⟨h, i, none⟩ = w.cell? ⟨h, i, none⟩ :=
  World.cell?_of_block (a := ⟨h, i, none⟩) (Below.heap_setCell w ⟨g, j, none⟩ a h hne)
theorem cell_far2 {w : World} {g h i : Nat} {a b : Value} (hne : h ≠ g) : ((w.setCell ⟨g, 0, none⟩ a).setCell ⟨g, 1, none⟩ b).cell? ⟨h, i, none⟩ = w.cell? ⟨h, i, none⟩ :=
  (cell_far1 hne).trans (cell_far1 hne)
theorem box1 (w : World) (t : TypeId) (a : Array Value) : ∃ W, W = w.alloc (.cells a t) ∧ Ext w W ∧ Box W w.heap.size t a ∧ w.heap.size + 1 ≤ W.heap.size :=
  ⟨_, rfl, (Ext.refl w).alloc _, Box.new w t a, by simp⟩
theorem box2 (w : World) (t u : TypeId) (a b : Array Value) : ∃ W, W = (w.alloc (.cells a t)).alloc (.cells b u) ∧ Ext w W ∧ Box W w.heap.size t a ∧ Box W (w.heap.size + 1) u b ∧ w.heap.size + 2 ≤ W.heap.size := by
  have h2 := Box.new (w.alloc (.cells a t)) u b
  simp only [World.size_alloc] at h2
  exact ⟨_, rfl, ((Ext.refl w).alloc _).alloc _, (Box.new w t a).ext ((Ext.refl _).alloc _), h2, by simp⟩
theorem box3 (w : World) (t u v : TypeId) (a b c : Array Value) : ∃ W, W = ((w.alloc (.cells a t)).alloc (.cells b u)).alloc (.cells c v) ∧ Ext w W ∧ Box W w.heap.size t a ∧ Box W (w.heap.size + 1) u b ∧ Box W (w.heap.size + 1 + 1) v c ∧ w.heap.size + 3 ≤ W.heap.size := by
  have h2 := Box.new (w.alloc (.cells a t)) u b
  have h3 := Box.new ((w.alloc (.cells a t)).alloc (.cells b u)) v c
  simp only [World.size_alloc] at h2 h3
  exact ⟨_, rfl, (((Ext.refl w).alloc _).alloc _).alloc _, (Box.new w t a).ext (((Ext.refl _).alloc _).alloc _), h2.ext ((Ext.refl _).alloc _), h3, by simp⟩
/-- only block g (and what is new) may have turned. -/
def Mod (w w' : World) (g : Nat) : Prop := w.grownBy w' (some g)
section
variable {w w' a b c : World} {g : Nat}
theorem Mod.refl (w : World) (g : Nat) : Mod w w g := World.grownBy.refl w _
theorem Mod.size (h : Mod w w' g) : w.heap.size ≤ w'.heap.size := World.grownBy.size h
theorem Mod.trans (h : Mod a b g) (k : Mod b c g) : Mod a c g :=
  ⟨k.os.trans h.os, k.tape.trans h.tape, k.output.trans h.output, Nat.le_trans h.size k.size, fun i hi hn => (k.block i (Nat.lt_of_lt_of_le hi h.size) hn).trans (h.block i hi hn)⟩
theorem Mod.drew (h : Mod a w g) : Mod a w.drew g := ⟨h.os, h.tape, h.output, h.size, h.block⟩
theorem Mod.drewN (h : Mod a w g) (n : Nat) : Mod a (w.drewN n) g := ⟨h.os, h.tape, h.output, h.size, h.block⟩
theorem Mod.setCell (h : Mod a w g) (i : Nat) (u : Value) : Mod a (w.setCell ⟨g, i, none⟩ u) g :=
  ⟨h.os, h.tape, h.output, by simpa [World.setCell] using h.size, fun k hk hne => (Below.heap_setCell w ⟨g, i, none⟩ u k (fun e => hne (by rw [e]))).trans (h.block k hk hne)⟩
theorem Ext.mod (h : Ext w w') (g : Nat) : Mod w w' g := by
  have hb : Below w.heap.size w w' := h
  exact ⟨hb.os, hb.tape, hb.output, hb.size, fun i hi _ => hb.block i hi⟩
theorem Mod.ext (h : Ext a b) (k : Mod b c g) (hg : a.heap.size ≤ g) : Ext a c :=
  Below.grown h k h.size (fun k hk => by injection hk with hk; omega)
theorem Mod.cell (h : Mod w w' g) {p : Addr} (hp : p.block < w.heap.size) (hne : p.block ≠ g) : w'.cell? p = w.cell? p := World.cell?_of_block (h.block p.block hp (fun e => hne (by injection e)))
end

def W32 (xs : List Nat) : Prop := ∀ x ∈ xs, x < 4294967296

/-- the slice that starts at A reads as the list xs. -/
def Rd (w : World) (A : Option Addr) (xs : List Nat) : Prop :=
  W32 xs ∧ (xs ≠ [] → ∃ b off, A = some ⟨b, off, none⟩ ∧ b < w.heap.size ∧ ∀ i (h : i < xs.length), w.cell? ⟨b, off + i, none⟩ = some (.int .u32 (xs[i] : Nat)))
def Apart (A : Option Addr) (xs : List Nat) (g : Nat) : Prop := xs ≠ [] → ∀ a, A = some a → a.block ≠ g
section
variable {w w' : World} {A : Option Addr} {xs : List Nat} {g : Nat}
theorem Rd.nil (w : World) (A : Option Addr) : Rd w A [] := ⟨fun x h => (by cases h), fun h => absurd rfl h⟩
theorem Rd.ext (h : Rd w A xs) (e : Ext w w') : Rd w' A xs := by
  refine ⟨h.1, fun hn => ?_⟩
  obtain ⟨b, off, hA, hb, hc⟩ := h.2 hn
  exact ⟨b, off, hA, Nat.lt_of_lt_of_le hb e.size, fun i hi => (e.cell hb).trans (hc i hi)⟩
theorem Rd.mod (h : Rd w A xs) (e : Mod w w' g) (hg : Apart A xs g) : Rd w' A xs := by
  refine ⟨h.1, fun hn => ?_⟩
  obtain ⟨b, off, hA, hb, hc⟩ := h.2 hn
  exact ⟨b, off, hA, Nat.lt_of_lt_of_le hb e.size, fun i hi => (e.cell (p := ⟨b, off + i, none⟩) hb (hg hn ⟨b, off, none⟩ hA)).trans (hc i hi)⟩
theorem Rd.at_ (h : Rd w A xs) {i : Nat} (hi : i < xs.length) : ∃ b off, A = some ⟨b, off, none⟩ ∧ b < w.heap.size ∧ w.cell? ⟨b, off + i, none⟩ = some (.int .u32 (xs[i] : Nat)) := by
  obtain ⟨b, off, hA, hb, hc⟩ := h.2 (by rintro rfl; simp at hi)
  exact ⟨b, off, hA, hb, hc i hi⟩
theorem Rd.apart (h : Rd w A xs) (hg : w.heap.size ≤ g) : Apart A xs g := by
  intro hn a ha
  obtain ⟨b, off, hA, hb, _⟩ := h.2 hn
  rw [ha] at hA
  injection hA with hA
  subst hA
  show b ≠ g
  omega
theorem Rd.take (h : Rd w A xs) (k : Nat) : Rd w A (xs.take k) := by
  refine ⟨fun x hx => h.1 x (List.mem_of_mem_take hx), fun hn => ?_⟩
  obtain ⟨b, off, hA, hb, hc⟩ := h.2 (by rintro rfl; simp at hn)
  refine ⟨b, off, hA, hb, fun i hi => ?_⟩
  rw [List.length_take] at hi
  rw [List.getElem_take]
  exact hc i (by omega)
theorem Rd.drop {b off : Nat} (h : Rd w (some ⟨b, off, none⟩) xs) (k : Nat) : Rd w (some ⟨b, off + k, none⟩) (xs.drop k) := by
  refine ⟨fun x hx => h.1 x (List.mem_of_mem_drop hx), fun hn => ?_⟩
  obtain ⟨b', off', hA, hb, hc⟩ := h.2 (by rintro rfl; simp at hn)
  injection hA with hA
  injection hA with h1 h2
  subst h1; subst h2
  refine ⟨b, off + k, rfl, hb, fun i hi => ?_⟩
  rw [List.length_drop] at hi
  rw [List.getElem_drop, Nat.add_assoc]
  exact hc (k + i) (by omega)
end

theorem Box.setA {w : World} {g : Nat} {t : TypeId} {a b : Value} (h : Box w g t #[a, b]) (v : Value) : Box (w.setCell ⟨g, 0, none⟩ v) g t #[v, b] := by
  have := h.set 0 v
  rwa [show (#[a, b]).setIfInBounds 0 v = #[v, b] from rfl] at this
theorem Box.setB {w : World} {g : Nat} {t : TypeId} {a b : Value} (h : Box w g t #[a, b]) (v : Value) : Box (w.setCell ⟨g, 1, none⟩ v) g t #[a, v] := by
  have := h.set 1 v
  rwa [show (#[a, b]).setIfInBounds 1 v = #[a, v] from rfl] at this
/-- a box holds no words, so a store into it turns no slice of words. -/
def NoWord (cs : Array Value) : Prop := ∀ (i : Nat) (n : Int), cs[i]? ≠ some (.int .u32 n)
theorem NoWord.two {b : Bool} {A : Option Addr} {n c : Nat} : NoWord #[.bool b, .slice A n c] := by
  intro i n h
  match i with
  | 0 => simp at h
  | 1 => simp at h
  | i + 2 => simp at h
theorem Rd.setBox {w : World} {A : Option Addr} {xs : List Nat} {g : Nat} {t : TypeId} {cs : Array Value} (h : Rd w A xs) (hb : Box w g t cs) (hn : NoWord cs) (i : Nat) (u : Value) : Rd (w.setCell ⟨g, i, none⟩ u) A xs := by
  refine h.mod ((Mod.refl w g).setCell i u) ?_
  intro hx a ha hag
  obtain ⟨b, off, hA, _, hc⟩ := h.2 hx
  rw [ha] at hA
  injection hA with hA
  subst hA
  have hg : b = g := hag
  subst hg
  have hl : 0 < xs.length := List.length_pos_iff.2 hx
  have h0 := hc 0 hl
  rw [cell_of_row w b (off + 0) cs t (0, 0) hb] at h0
  exact hn _ _ h0
/-- a pair of a bool and a slice is stored into the box of the result. -/
theorem fin_pair {w w2 : World} {g : Nat} {t : TypeId} {x : Bool} {y : Option Addr} {p q : Nat} {A : Option Addr} {rs : List Nat} {b : Bool} {n c : Nat} (hext : Ext w w2) (hg : w.heap.size ≤ g) (hb : Box w2 g t #[.bool x, .slice y p q]) (hr : Rd w2 A rs) :
    Rd ((w2.setCell ⟨g, 0, none⟩ (.bool b)).setCell ⟨g, 1, none⟩ (.slice A n c)) A rs ∧ Ext w ((w2.setCell ⟨g, 0, none⟩ (.bool b)).setCell ⟨g, 1, none⟩ (.slice A n c)) ∧
    ((w2.setCell ⟨g, 0, none⟩ (.bool b)).setCell ⟨g, 1, none⟩ (.slice A n c)).cell? ⟨g, 0, none⟩ = some (.bool b) ∧ ((w2.setCell ⟨g, 0, none⟩ (.bool b)).setCell ⟨g, 1, none⟩ (.slice A n c)).cell? ⟨g, 1, none⟩ = some (.slice A n c) := by
  have h1 := hb.set 0 (.bool b)
  have e1 : (#[Value.bool x, .slice y p q]).setIfInBounds 0 (.bool b) = #[.bool b, .slice y p q] := rfl
  rw [e1] at h1
  have h2 := h1.set 1 (.slice A n c)
  have e2 : (#[Value.bool b, .slice y p q]).setIfInBounds 1 (.slice A n c) = #[.bool b, .slice A n c] := rfl
  rw [e2] at h2
  exact ⟨(hr.setBox hb NoWord.two 0 _).setBox h1 NoWord.two 1 _, (hext.setCell hg _).setCell hg _, h2.cell 0 _ rfl, h2.cell 1 _ rfl⟩

/-! A block of words of the call's own: its first cells are ns. -/
def Wd (n : Nat) : Value := .int .u32 (n : Nat)
def BlkN (w : World) (g : Nat) (ns : List Nat) : Prop := ∃ cs : List Value, w.heap[g]? = some (.cells cs.toArray 43 (0, 0)) ∧ cs.take ns.length = ns.map Wd
section
variable {w w' : World} {g g' : Nat} {ns ms : List Nat}
theorem BlkN.lt (h : BlkN w g ns) : g < w.heap.size := by
  obtain ⟨cs, h, _⟩ := h
  rcases Nat.lt_or_ge g w.heap.size with hlt | hge
  · exact hlt
  · rw [Array.getElem?_eq_none hge] at h; cases h
theorem BlkN.cell (h : BlkN w g ns) {i : Nat} (hi : i < ns.length) : w.cell? ⟨g, i, none⟩ = some (.int .u32 (ns[i] : Nat)) := by
  obtain ⟨cs, h, ht⟩ := h
  rw [cell_of_row w g i _ _ (0, 0) h]
  have := congrArg (fun l : List Value => l[i]?) ht
  simp only [List.getElem?_take, if_pos hi, List.getElem?_map, List.getElem?_eq_getElem hi, Option.map_some] at this
  simpa [Wd] using this
theorem BlkN.frozen (h : BlkN w g ns) (i : Nat) : w.frozen? ⟨g, i, none⟩ = false := by
  obtain ⟨cs, h, _⟩ := h
  simp [World.frozen?, h]
theorem BlkN.ext (h : BlkN w g ns) (e : Ext w w') : BlkN w' g ns := by
  have hb : Below w.heap.size w w' := e
  have hl := h.lt
  obtain ⟨cs, h, ht⟩ := h
  exact ⟨cs, (hb.block g hl).trans h, ht⟩
theorem BlkN.mod (h : BlkN w g ns) (e : Mod w w' g') (hn : g ≠ g') : BlkN w' g ns := by
  have hl := h.lt
  obtain ⟨cs, h, ht⟩ := h
  exact ⟨cs, (e.block g hl (fun e => hn (by injection e))).trans h, ht⟩
theorem BlkN.drewN (h : BlkN w g ns) (n : Nat) : BlkN (w.drewN n) g ns := h
theorem BlkN.take (h : BlkN w g ns) (k : Nat) : BlkN w g (ns.take k) := by
  obtain ⟨cs, h, ht⟩ := h
  refine ⟨cs, h, ?_⟩
  rw [List.map_take, ← ht, List.take_take, List.length_take]
theorem BlkN.set (h : BlkN w g ns) (i : Nat) {v : Int} {n : Nat} (hv : v = n) : BlkN (w.setCell ⟨g, i, none⟩ (.int .u32 v)) g (ns.set i n) := by
  subst hv
  obtain ⟨cs, h, ht⟩ := h
  refine ⟨cs.set i (Wd n), ?_, ?_⟩
  · simp [World.setCell, Array.getElem?_modify, h, Wd]
  · rw [List.length_set, List.take_set, ht, List.map_set]
theorem madeCells_words (n : Nat) : madeCells #[.int .u32 0] n = ((List.replicate n 0).map Wd).toArray := by
  apply Array.toList_inj.1
  rw [toList_madeCells_one]
  simp [Wd]
theorem BlkN.new (w : World) (n : Nat) : BlkN (w.alloc (.cells (madeCells #[.int .u32 0] n) 43)) w.heap.size (List.replicate n 0) := by
  refine ⟨(List.replicate n 0).map Wd, ?_, List.take_of_length_le (by simp)⟩
  rw [← madeCells_words]
  exact heap_alloc_new w _
theorem BlkN.lit (w : World) (ns : List Nat) (cs : Array Value) (hc : cs = (ns.map Wd).toArray) : BlkN (w.alloc (.cells cs 43)) w.heap.size ns := by
  subst hc
  exact ⟨ns.map Wd, heap_alloc_new w _, List.take_of_length_le (by simp)⟩
theorem BlkN.rd (h : BlkN w g ns) (hw : W32 ns) {off n : Nat} (hn : off + n ≤ ns.length) : Rd w (some ⟨g, off, none⟩) ((ns.drop off).take n) := by
  refine ⟨fun x hx => hw x (List.mem_of_mem_drop (List.mem_of_mem_take hx)), fun _ => ⟨g, off, rfl, h.lt, fun i hi => ?_⟩⟩
  rw [List.length_take, List.length_drop] at hi
  rw [List.getElem_take, List.getElem_drop]
  exact h.cell (by omega)
theorem BlkN.rd0 (h : BlkN w g ns) (hw : W32 ns) : Rd w (some ⟨g, 0, none⟩) ns := by
  have := h.rd hw (off := 0) (n := ns.length) (by omega)
  simpa using this
theorem BlkN.mid {pre zs post : List Nat} (h : BlkN w g (pre ++ zs ++ post)) (hw : W32 zs) {off : Nat} (ho : pre.length = off) : Rd w (some ⟨g, off, none⟩) zs := by
  subst ho
  refine ⟨hw, fun _ => ⟨g, pre.length, rfl, h.lt, fun i hi => ?_⟩⟩
  have := h.cell (i := pre.length + i) (by simp; omega)
  rw [this]
  simp only [List.append_assoc]
  rw [List.getElem_append_right (by omega)]
  simp only [Nat.add_sub_cancel_left]
  rw [List.getElem_append_left hi]
theorem BlkN.setMid {pre zs post : List Nat} (h : BlkN w g (pre ++ zs ++ post)) {off i : Nat} (ho : pre.length = off) (hi : i < zs.length) {v : Int} {n : Nat} (hv : v = n) :
    BlkN (w.setCell ⟨g, off + i, none⟩ (.int .u32 v)) g (pre ++ zs.set i n ++ post) := by
  subst ho
  have := h.set (pre.length + i) hv
  rw [List.append_assoc, List.set_append_right _ _ (by omega), Nat.add_sub_cancel_left, List.set_append_left _ _ hi, ← List.append_assoc] at this
  exact this
end
/-- the slice at A is empty, or lies at the head of a block of words with number lo or more. -/
def Own (w : World) (lo : Nat) (A : Option Addr) (ns : List Nat) : Prop := W32 ns ∧ (ns = [] ∨ ∃ g, A = some ⟨g, 0, none⟩ ∧ lo ≤ g ∧ BlkN w g ns)
section
variable {w w' : World} {lo lo' : Nat} {A : Option Addr} {ns : List Nat}
theorem Own.rd (h : Own w lo A ns) : Rd w A ns := by
  obtain ⟨h1, rfl | ⟨g, rfl, _, hb⟩⟩ := h
  · exact Rd.nil _ _
  · exact hb.rd0 h1
theorem Own.ext (h : Own w lo A ns) (e : Ext w w') : Own w' lo A ns :=
  ⟨h.1, h.2.imp id fun ⟨g, a, b, c⟩ => ⟨g, a, b, c.ext e⟩⟩
theorem Own.mono (h : Own w lo A ns) (hl : lo' ≤ lo) : Own w lo' A ns :=
  ⟨h.1, h.2.imp id fun ⟨g, a, b, c⟩ => ⟨g, a, Nat.le_trans hl b, c⟩⟩
theorem Own.take (h : Own w lo A ns) (k : Nat) : Own w lo A (ns.take k) :=
  ⟨fun x hx => h.1 x (List.mem_of_mem_take hx), by
    rcases h.2 with rfl | ⟨g, a, b, c⟩
    · exact .inl (by simp)
    · exact .inr ⟨g, a, b, c.take k⟩⟩
theorem Own.of_blk {g : Nat} (h : BlkN w g ns) (hw : W32 ns) (hg : lo ≤ g) : Own w lo (some ⟨g, 0, none⟩) ns := ⟨hw, .inr ⟨g, rfl, hg, h⟩⟩
theorem Own.of_row {base : Nat} {A : Option Addr} {n c : Nat} (h : w.ownsRow base 43 1 (.slice A n c) n (ns.map Wd)) (hw : W32 ns) : Own w base A ns ∧ ns.length = n ∧ (n = 0 ∨ n ≤ c ∧ c ≤ maxLen) := by
  have hl : ns.length = n := by simpa using h.1
  rcases h.2 with ⟨_, h0⟩ | ⟨g, cap, cur, hv, hb, hh, hn, hm, _, ht⟩
  · have : ns = [] := List.eq_nil_of_length_eq_zero (by omega)
    exact ⟨⟨hw, .inl this⟩, hl, .inl h0⟩
  · injection hv with h1 _ h3
    subst h1; subst h3
    refine ⟨⟨hw, .inr ⟨g, rfl, hb, cur.toList, by simpa using hh, ?_⟩⟩, hl, .inr ⟨hn, hm⟩⟩
    rw [← ht, hl, Nat.mul_one]
end
theorem cells_of_rd {w : World} {ad : Addr} {xs : List Nat} (hr : Rd w (some ad) xs) : ∀ j u, (xs.map Wd)[j]? = some u → w.cell? (ad.add j) = some u := by
  intro j u hu
  rw [List.getElem?_map] at hu
  by_cases hj : j < xs.length
  · obtain ⟨b, off, hA, _, hc⟩ := hr.2 (by rintro rfl; simp at hj)
    injection hA with hA
    subst hA
    rw [List.getElem?_eq_getElem hj] at hu
    simp only [Option.map_some, Option.some.injEq] at hu
    subst hu
    refine Eq.trans ?_ (hc j hj)
    congr 1
    unfold Addr.add
    split <;> simp_all
  · rw [List.getElem?_eq_none (by omega)] at hu
    cases hu
theorem oneCell_words (xs : List Nat) : ∀ u ∈ xs.map Wd, u.oneCell' = true := by
  intro u hu
  obtain ⟨n, _, rfl⟩ := List.mem_map.1 hu
  rfl
/-- append of words onto a new empty slice. -/
theorem run_append_words {P : Program} {w0 w : World} (t ty : TypeId) (i : TypeInfo) (ht : P.underlying t = some (.slice 43)) (hi : P.info? 43 = some i) (hz : i.zero = some (.int .u32 0)) (hsize : i.size = 1) (hby : i.bytes = 4)
    (he : Ext w0 w) (g : Nat) (hg : w.heap[g]? = some (.cells #[] 43 (0, 0))) (hg0 : w0.heap.size ≤ g) {A : Option Addr} {xs : List Nat} {c : Nat} (hr : Rd w A xs) (hl : xs.length ≤ 1000000) :
    ∃ A' c' w', (Builtin.append_ #[t, t] ty #[.slice (some ⟨g, 0, none⟩) 0 0, .slice A xs.length c]).run P w = .ok (.slice A' xs.length c') w' ∧ Own w' w0.heap.size A' xs ∧ xs.length ≤ c' ∧ c' ≤ maxLen ∧ Ext w0 w' := by
  have hown : w.ownsRow w0.heap.size 43 1 (.slice (some ⟨g, 0, none⟩) 0 0) 0 [] := ⟨by simp, .inr ⟨g, 0, #[], rfl, hg0, hg, Nat.le_refl _, by unfold maxLen; omega, by simp, by simp⟩⟩
  by_cases h0 : xs = []
  · subst h0
    refine ⟨some ⟨g, 0, none⟩, 0, w, ?_, ⟨hr.1, .inl rfl⟩, by simp, by unfold maxLen; omega, he⟩
    cases A with
    | none => simp [Builtin.append_, run_underlying ht, sizeOf, typeInfo, hi, Builtin.lenOf, Builtin.firstCells, storeCells]
    | some ad => simp [Builtin.append_, run_underlying ht, sizeOf, typeInfo, hi, Builtin.lenOf, Builtin.firstCells, loadCells, loadCellsFrom, storeCells]
  · obtain ⟨b, off, rfl, _, _⟩ := hr.2 h0
    obtain ⟨v', w', hrun, hown', hgr, _, _⟩ := run_append_own_at (P := P) w w0.heap.size t ty 43 i (.int .u32 0) 1 4 ht hi hz hsize hby rfl (by omega) _ 0 [] hown ⟨b, off, none⟩ xs.length c (xs.map Wd)
      (by simp) (cells_of_rd hr) (oneCell_words xs) (by unfold maxLen; omega) (by omega) he.size
    simp only [Nat.zero_add, List.nil_append] at hown'
    have hsh : ∃ A' c', v' = .slice A' xs.length c' := by
      rcases hown'.2 with ⟨rfl, h⟩ | ⟨g', cap, _, rfl, _⟩
      · rw [h]; exact ⟨_, _, rfl⟩
      · exact ⟨_, _, rfl⟩
    obtain ⟨A', c', rfl⟩ := hsh
    obtain ⟨ho, _, hb⟩ := Own.of_row hown' hr.1
    have hpos : 0 < xs.length := List.length_pos_iff.2 h0
    have hb' : xs.length ≤ c' ∧ c' ≤ maxLen := by rcases hb with h | h; omega; exact h
    exact ⟨A', c', w', hrun, ho, hb'.1, hb'.2, Below.grown he hgr he.size (fun k hk => by simp [Value.ownBlock] at hk; omega)⟩
/-- 'make' of words. -/
theorem run_make_rowN {P : Program} (t e : TypeId) (i : TypeInfo) (z : Value) (ht : P.underlying t = some (.slice e)) (hi : P.info? e = some i) (hz : i.zero = some z)
    (kl kc : IntKind) (n c : Nat) (hnc : n ≤ c) (hbytes : i.bytes * c ≤ 281474976710656) (h63 : c ≤ 9223372036854775807) (w : World) :
    (Instr.makeSlice t (.int kl (n : Int)) (.int kc (c : Int))).run P w = .ok (.slice (some ⟨w.heap.size, 0, none⟩) n c) (w.alloc (.cells (madeCells z.cells (c * i.size)) e)) := by
  have hb : (i.bytes : Int) * (c : Int) ≤ 281474976710656 := by
    have h : ((i.bytes * c : Nat) : Int) ≤ 281474976710656 := by omega
    rwa [Int.natCast_mul] at h
  have hr := run_make (P := P) w t e i z ht hi hz kl kc n c (by omega) (by omega) hb (by omega)
  simp only [Int.toNat_natCast] at hr
  exact hr

def lenV : Value → Nat | .slice _ n _ => n | _ => 0
def boolV : Value → Bool | .bool b => b | _ => false
/-- the result is a slice that reads as a list with P. -/
def RetL (P : List Nat → Prop) (w : World) (e : Ending) (w' : World) : Prop :=
  ∃ A c ys, e = .returned (.slice A ys.length c) ∧ Rd w' A ys ∧ ys.length ≤ c ∧ c ≤ maxLen ∧ P ys ∧ Ext w w'
/-- the same, and the slice lies in new memory. -/
def RetN (P : List Nat → Prop) (w : World) (e : Ending) (w' : World) : Prop :=
  ∃ A c ys, e = .returned (.slice A ys.length c) ∧ Own w' w.heap.size A ys ∧ ys.length ≤ c ∧ c ≤ maxLen ∧ P ys ∧ Ext w w'
theorem RetN.L {P : List Nat → Prop} {w : World} {e : Ending} {w' : World} (h : RetN P w e w') : RetL P w e w' := by
  obtain ⟨A, c, ys, h1, h2, h3, h4, h5, h6⟩ := h
  exact ⟨A, c, ys, h1, h2.rd, h3, h4, h5, h6⟩
theorem ret_slice' {A : Option Addr} {n m c : Nat} (h : n = m) : Ending.returned (.slice A n c) = .returned (.slice A m c) := by rw [h]
end Go.Proofs.YtmjmcinnbmjpdaaDoor
