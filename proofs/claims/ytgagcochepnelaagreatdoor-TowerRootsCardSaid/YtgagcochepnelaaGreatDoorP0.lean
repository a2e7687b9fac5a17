/- Walks and laws, a part. -/
import Derived.WalkKit
import Derived.WalkSpells
import Derived.Lib.Hide
import Derived.Deep.Draws
import Derived.BigQuiet
import Derived.Deep.QuietTactic
import Derived.Maps.AppendAt
import Derived.Laws.CopyOwn
import Derived.Deep.RegionHeld
import Derived.Test.YtgagcochepnelaaGreatDoorRows
set_option linter.unusedSimpArgs false
set_option linter.unusedVariables false
set_option maxHeartbeats 64000000
namespace Go.Proofs.YtgagcochepnelaaGreatDoor
section
open Go.RowKit
def Ext (w w' : World) : Prop := Below w.heap.size w w'
section
variable {w w' a b c : World}
theorem Ext.refl (w : World) : Ext w w := Below.refl _ _
theorem Ext.size (h : Ext w w') : w.heap.size <= w'.heap.size := Below.size h
theorem Ext.trans (h : Ext a b) (k : Ext b c) : Ext a c := Below.trans h (Below.mono k h.size)
theorem Ext.drew (h : Ext a w) : Ext a w.drew := Below.drew h
theorem Ext.drewN (h : Ext a w) (n : Nat) : Ext a (w.drewN n) := by
 have hb : Below a.heap.size a w := h;exact ⟨hb.os, hb.tape, hb.output, hb.size, hb.block⟩
theorem Ext.alloc (h : Ext a w) (o : Obj) : Ext a (w.alloc o) := Below.alloc h h.size o
theorem Ext.setCell (h : Ext a w) {p : Addr} (hp : a.heap.size <= p.block) (u : Value) : Ext a (w.setCell p u) := Below.setCell h hp u
theorem Ext.cell (h : Ext w w') {p : Addr} (hp : p.block < w.heap.size) : w'.cell? p = w.cell? p := Below.cell h hp
theorem cell_lt {p : Addr} {v : Value} (h : w.cell? p = some v) : p.block < w.heap.size := by
 rcases Nat.lt_or_ge p.block w.heap.size with hlt | hge
 ·exact hlt
 ·simp [World.cell?, Array.getElem?_eq_none hge] at h
theorem Ext.cellv (h : Ext w w') {p : Addr} {v : Value} (hp : w.cell? p = some v) : w'.cell? p = some v := (h.cell (cell_lt hp)).trans hp
end
def Box (w : World) (g : Nat) (t : TypeId) (cs : Array Value) : Prop := w.heap[g]? = some (.cells cs t (0, 0))
section
variable {w w' : World} {g : Nat} {t : TypeId} {cs : Array Value}
theorem Box.lt (h : Box w g t cs) : g < w.heap.size := by
 rcases Nat.lt_or_ge g w.heap.size with hlt | hge
 ·exact hlt
 ·unfold Box at h; rw [Array.getElem?_eq_none hge] at h; cases h
theorem Box.new (w : World) (t : TypeId) (cs : Array Value) : Box (w.alloc (.cells cs t)) w.heap.size t cs := heap_alloc_new w _
theorem Box.ext (h : Box w g t cs) (e : Ext w w') : Box w' g t cs := by
 have hb : Below w.heap.size w w' := e;exact (hb.block g h.lt).trans h
theorem Box.cell (h : Box w g t cs) (i : Nat) (v : Value) (hv : cs[i]? = some v) : w.cell? ⟨g, i, none⟩ = some v := (cell_of_row w g i cs t (0, 0) h).trans hv
theorem Box.frozen (h : Box w g t cs) (i : Nat) : w.frozen? ⟨g, i, none⟩ = false := by
 unfold Box at h;simp [World.frozen?, h]
theorem Box.set (h : Box w g t cs) (i : Nat) (u : Value) : Box (w.setCell ⟨g, i, none⟩ u) g t (cs.setIfInBounds i u) := by
 unfold Box at h ⊢;simp [World.setCell, Array.getElem?_modify, h]
theorem Box.far (h : Box w g t cs) {p : Addr} (hp : g ≠ p.block) (u : Value) : Box (w.setCell p u) g t cs := (Below.heap_setCell w p u g hp).trans h
end
theorem cell_far1 {w : World} {g h i j : Nat} {a : Value} (hne : h ≠ g) : (w.setCell ⟨g, j, none⟩ a).cell? ⟨h, i, none⟩ = w.cell? ⟨h, i, none⟩ :=
 World.cell?_of_block (a := ⟨h, i, none⟩) (Below.heap_setCell w ⟨g, j, none⟩ a h hne)
theorem cell_far2 {w : World} {g h i : Nat} {a b : Value} (hne : h ≠ g) : ((w.setCell ⟨g, 0, none⟩ a).setCell ⟨g, 1, none⟩ b).cell? ⟨h, i, none⟩ = w.cell? ⟨h, i, none⟩ :=
 (cell_far1 hne).trans (cell_far1 hne)
theorem box1 (w : World) (t : TypeId) (a : Array Value) : ∃ W, W = w.alloc (.cells a t) /\ Ext w W /\ Box W w.heap.size t a /\ w.heap.size + 1 <= W.heap.size :=
 ⟨_, rfl, (Ext.refl w).alloc _, Box.new w t a, by simp⟩
theorem box2 (w : World) (t u : TypeId) (a b : Array Value) : ∃ W, W = (w.alloc (.cells a t)).alloc (.cells b u) /\ Ext w W /\ Box W w.heap.size t a /\ Box W (w.heap.size + 1) u b /\ w.heap.size + 2 <= W.heap.size := by
 have h2 := Box.new (w.alloc (.cells a t)) u b;simp only [World.size_alloc] at h2;exact ⟨_, rfl, ((Ext.refl w).alloc _).alloc _, (Box.new w t a).ext ((Ext.refl _).alloc _), h2, by simp⟩
theorem box3 (w : World) (t u v : TypeId) (a b c : Array Value) : ∃ W, W = ((w.alloc (.cells a t)).alloc (.cells b u)).alloc (.cells c v) /\ Ext w W /\ Box W w.heap.size t a /\ Box W (w.heap.size + 1) u b /\ Box W (w.heap.size + 1 + 1) v c /\ w.heap.size + 3 <= W.heap.size := by
 have h2 := Box.new (w.alloc (.cells a t)) u b;have h3 := Box.new ((w.alloc (.cells a t)).alloc (.cells b u)) v c;simp only [World.size_alloc] at h2 h3;exact ⟨_, rfl, (((Ext.refl w).alloc _).alloc _).alloc _, (Box.new w t a).ext (((Ext.refl _).alloc _).alloc _), h2.ext ((Ext.refl _).alloc _), h3, by simp⟩
def Mod (w w' : World) (g : Nat) : Prop := w.grownBy w' (some g)
section
variable {w w' a b c : World} {g : Nat}
theorem Mod.refl (w : World) (g : Nat) : Mod w w g := World.grownBy.refl w _
theorem Mod.size (h : Mod w w' g) : w.heap.size <= w'.heap.size := World.grownBy.size h
theorem Mod.trans (h : Mod a b g) (k : Mod b c g) : Mod a c g :=
 ⟨k.os.trans h.os, k.tape.trans h.tape, k.output.trans h.output, Nat.le_trans h.size k.size, fun i hi hn => (k.block i (Nat.lt_of_lt_of_le hi h.size) hn).trans (h.block i hi hn)⟩
theorem Mod.drew (h : Mod a w g) : Mod a w.drew g := ⟨h.os, h.tape, h.output, h.size, h.block⟩
theorem Mod.drewN (h : Mod a w g) (n : Nat) : Mod a (w.drewN n) g := ⟨h.os, h.tape, h.output, h.size, h.block⟩
theorem Mod.setCell (h : Mod a w g) (i : Nat) (u : Value) : Mod a (w.setCell ⟨g, i, none⟩ u) g :=
 ⟨h.os, h.tape, h.output, by simpa [World.setCell] using h.size, fun k hk hne => (Below.heap_setCell w ⟨g, i, none⟩ u k (fun e => hne (by rw [e]))).trans (h.block k hk hne)⟩
theorem Ext.mod (h : Ext w w') (g : Nat) : Mod w w' g := by
 have hb : Below w.heap.size w w' := h;exact ⟨hb.os, hb.tape, hb.output, hb.size, fun i hi _ => hb.block i hi⟩
theorem Mod.ext (h : Ext a b) (k : Mod b c g) (hg : a.heap.size <= g) : Ext a c :=
 Below.grown h k h.size (fun k hk => by injection hk with hk; omega)
theorem Mod.cell (h : Mod w w' g) {p : Addr} (hp : p.block < w.heap.size) (hne : p.block ≠ g) : w'.cell? p = w.cell? p := World.cell?_of_block (h.block p.block hp (fun e => hne (by injection e)))
end
def W32 (xs : List Nat) : Prop := ∀ x ∈ xs, x < 4294967296
def Rd (w : World) (A : Option Addr) (xs : List Nat) : Prop :=
 W32 xs /\ (xs ≠ [] -> ∃ b off, A = some ⟨b, off, none⟩ /\ b < w.heap.size /\ ∀ i (h : i < xs.length), w.cell? ⟨b, off + i, none⟩ = some (.int .u32 (xs[i] : Nat)))
def Apart (A : Option Addr) (xs : List Nat) (g : Nat) : Prop := xs ≠ [] -> ∀ a, A = some a -> a.block ≠ g
section
variable {w w' : World} {A : Option Addr} {xs : List Nat} {g : Nat}
theorem Rd.nil (w : World) (A : Option Addr) : Rd w A [] := ⟨fun x h => (by cases h), fun h => absurd rfl h⟩
theorem Rd.ext (h : Rd w A xs) (e : Ext w w') : Rd w' A xs := by
 refine ⟨h.1, fun hn => ?_⟩;obtain ⟨b, off, hA, hb, hc⟩ := h.2 hn;exact ⟨b, off, hA, Nat.lt_of_lt_of_le hb e.size, fun i hi => (e.cell hb).trans (hc i hi)⟩
theorem Rd.mod (h : Rd w A xs) (e : Mod w w' g) (hg : Apart A xs g) : Rd w' A xs := by
 refine ⟨h.1, fun hn => ?_⟩;obtain ⟨b, off, hA, hb, hc⟩ := h.2 hn;exact ⟨b, off, hA, Nat.lt_of_lt_of_le hb e.size, fun i hi => (e.cell (p := ⟨b, off + i, none⟩) hb (hg hn ⟨b, off, none⟩ hA)).trans (hc i hi)⟩
theorem Rd.at_ (h : Rd w A xs) {i : Nat} (hi : i < xs.length) : ∃ b off, A = some ⟨b, off, none⟩ /\ b < w.heap.size /\ w.cell? ⟨b, off + i, none⟩ = some (.int .u32 (xs[i] : Nat)) := by
 obtain ⟨b, off, hA, hb, hc⟩ := h.2 (by rintro rfl; simp at hi);exact ⟨b, off, hA, hb, hc i hi⟩
theorem Rd.apart (h : Rd w A xs) (hg : w.heap.size <= g) : Apart A xs g := by
 intro hn a ha;obtain ⟨b, off, hA, hb, _⟩ := h.2 hn;rw [ha] at hA
 injection hA with hA
 subst hA
 show b ≠ g
 omega
theorem Rd.take (h : Rd w A xs) (k : Nat) : Rd w A (xs.take k) := by
 refine ⟨fun x hx => h.1 x (List.mem_of_mem_take hx), fun hn => ?_⟩;obtain ⟨b, off, hA, hb, hc⟩ := h.2 (by rintro rfl; simp at hn);refine ⟨b, off, hA, hb, fun i hi => ?_⟩;rw [List.length_take] at hi;rw [List.getElem_take];exact hc i (by omega)
theorem Rd.drop {b off : Nat} (h : Rd w (some ⟨b, off, none⟩) xs) (k : Nat) : Rd w (some ⟨b, off + k, none⟩) (xs.drop k) := by
 refine ⟨fun x hx => h.1 x (List.mem_of_mem_drop hx), fun hn => ?_⟩;obtain ⟨b', off', hA, hb, hc⟩ := h.2 (by rintro rfl; simp at hn)
 injection hA with hA
 injection hA with h1 h2
 subst h1; subst h2;refine ⟨b, off + k, rfl, hb, fun i hi => ?_⟩;rw [List.length_drop] at hi;rw [List.getElem_drop, Nat.add_assoc];exact hc (k + i) (by omega)
end
theorem Box.setA {w : World} {g : Nat} {t : TypeId} {a b : Value} (h : Box w g t #[a, b]) (v : Value) : Box (w.setCell ⟨g, 0, none⟩ v) g t #[v, b] := by
 have := h.set 0 v
 rwa [show (#[a, b]).setIfInBounds 0 v = #[v, b] from rfl] at this
theorem Box.setB {w : World} {g : Nat} {t : TypeId} {a b : Value} (h : Box w g t #[a, b]) (v : Value) : Box (w.setCell ⟨g, 1, none⟩ v) g t #[a, v] := by
 have := h.set 1 v
 rwa [show (#[a, b]).setIfInBounds 1 v = #[a, v] from rfl] at this
def NoWord (cs : Array Value) : Prop := ∀ (i : Nat) (n : Int), cs[i]? ≠ some (.int .u32 n)
theorem NoWord.two {b : Bool} {A : Option Addr} {n c : Nat} : NoWord #[.bool b, .slice A n c] := by
 intro i n h
 match i with
 | 0 => simp at h
 | 1 => simp at h
 | i + 2 => simp at h
theorem Rd.setBox {w : World} {A : Option Addr} {xs : List Nat} {g : Nat} {t : TypeId} {cs : Array Value} (h : Rd w A xs) (hb : Box w g t cs) (hn : NoWord cs) (i : Nat) (u : Value) : Rd (w.setCell ⟨g, i, none⟩ u) A xs := by
 refine h.mod ((Mod.refl w g).setCell i u) ?_;intro hx a ha hag;obtain ⟨b, off, hA, _, hc⟩ := h.2 hx;rw [ha] at hA
 injection hA with hA
 subst hA;have hg : b = g := hag;subst hg;have hl : 0 < xs.length := List.length_pos_iff.2 hx;have h0 := hc 0 hl;rw [cell_of_row w b (off + 0) cs t (0, 0) hb] at h0;exact hn _ _ h0
theorem fin_pair {w w2 : World} {g : Nat} {t : TypeId} {x : Bool} {y : Option Addr} {p q : Nat} {A : Option Addr} {rs : List Nat} {b : Bool} {n c : Nat} (hext : Ext w w2) (hg : w.heap.size <= g) (hb : Box w2 g t #[.bool x, .slice y p q]) (hr : Rd w2 A rs) :
  Rd ((w2.setCell ⟨g, 0, none⟩ (.bool b)).setCell ⟨g, 1, none⟩ (.slice A n c)) A rs /\ Ext w ((w2.setCell ⟨g, 0, none⟩ (.bool b)).setCell ⟨g, 1, none⟩ (.slice A n c)) /\
  ((w2.setCell ⟨g, 0, none⟩ (.bool b)).setCell ⟨g, 1, none⟩ (.slice A n c)).cell? ⟨g, 0, none⟩ = some (.bool b) /\ ((w2.setCell ⟨g, 0, none⟩ (.bool b)).setCell ⟨g, 1, none⟩ (.slice A n c)).cell? ⟨g, 1, none⟩ = some (.slice A n c) := by
 have h1 := hb.set 0 (.bool b);have e1 : (#[Value.bool x, .slice y p q]).setIfInBounds 0 (.bool b) = #[.bool b, .slice y p q] := rfl;rw [e1] at h1;have h2 := h1.set 1 (.slice A n c);have e2 : (#[Value.bool b, .slice y p q]).setIfInBounds 1 (.slice A n c) = #[.bool b, .slice A n c] := rfl;rw [e2] at h2;exact ⟨(hr.setBox hb NoWord.two 0 _).setBox h1 NoWord.two 1 _, (hext.setCell hg _).setCell hg _, h2.cell 0 _ rfl, h2.cell 1 _ rfl⟩
/-! A block of words of the call's own: its first cells are ns. -/
def Wd (n : Nat) : Value := .int .u32 (n : Nat)
def BlkN (w : World) (g : Nat) (ns : List Nat) : Prop := ∃ cs : List Value, w.heap[g]? = some (.cells cs.toArray 89 (0, 0)) /\ cs.take ns.length = ns.map Wd
section
variable {w w' : World} {g g' : Nat} {ns ms : List Nat}
theorem BlkN.lt (h : BlkN w g ns) : g < w.heap.size := by
 obtain ⟨cs, h, _⟩ := h
 rcases Nat.lt_or_ge g w.heap.size with hlt | hge
 ·exact hlt
 ·rw [Array.getElem?_eq_none hge] at h; cases h
theorem BlkN.cell (h : BlkN w g ns) {i : Nat} (hi : i < ns.length) : w.cell? ⟨g, i, none⟩ = some (.int .u32 (ns[i] : Nat)) := by
 obtain ⟨cs, h, ht⟩ := h;rw [cell_of_row w g i _ _ (0, 0) h];have := congrArg (fun l : List Value => l[i]?) ht;simp only [List.getElem?_take, if_pos hi, List.getElem?_map, List.getElem?_eq_getElem hi, Option.map_some] at this
 simpa [Wd] using this
theorem BlkN.frozen (h : BlkN w g ns) (i : Nat) : w.frozen? ⟨g, i, none⟩ = false := by
 obtain ⟨cs, h, _⟩ := h;simp [World.frozen?, h]
theorem BlkN.ext (h : BlkN w g ns) (e : Ext w w') : BlkN w' g ns := by
 have hb : Below w.heap.size w w' := e;have hl := h.lt;obtain ⟨cs, h, ht⟩ := h;exact ⟨cs, (hb.block g hl).trans h, ht⟩
theorem BlkN.mod (h : BlkN w g ns) (e : Mod w w' g') (hn : g ≠ g') : BlkN w' g ns := by
 have hl := h.lt;obtain ⟨cs, h, ht⟩ := h;exact ⟨cs, (e.block g hl (fun e => hn (by injection e))).trans h, ht⟩
theorem BlkN.drewN (h : BlkN w g ns) (n : Nat) : BlkN (w.drewN n) g ns := h
theorem BlkN.take (h : BlkN w g ns) (k : Nat) : BlkN w g (ns.take k) := by
 obtain ⟨cs, h, ht⟩ := h;refine ⟨cs, h, ?_⟩;rw [List.map_take, <- ht, List.take_take, List.length_take]
theorem BlkN.set (h : BlkN w g ns) (i : Nat) {v : Int} {n : Nat} (hv : v = n) : BlkN (w.setCell ⟨g, i, none⟩ (.int .u32 v)) g (ns.set i n) := by
 subst hv;obtain ⟨cs, h, ht⟩ := h;refine ⟨cs.set i (Wd n), ?_, ?_⟩
 ·simp [World.setCell, Array.getElem?_modify, h, Wd]
 ·rw [List.length_set, List.take_set, ht, List.map_set]
theorem madeCells_words (n : Nat) : madeCells #[.int .u32 0] n = ((List.replicate n 0).map Wd).toArray := by
 apply Array.toList_inj.1
 rw [toList_madeCells_one];simp [Wd]
theorem BlkN.new (w : World) (n : Nat) : BlkN (w.alloc (.cells (madeCells #[.int .u32 0] n) 89)) w.heap.size (List.replicate n 0) := by
 refine ⟨(List.replicate n 0).map Wd, ?_, List.take_of_length_le (by simp)⟩;rw [<- madeCells_words];exact heap_alloc_new w _
theorem BlkN.lit (w : World) (ns : List Nat) (cs : Array Value) (hc : cs = (ns.map Wd).toArray) : BlkN (w.alloc (.cells cs 89)) w.heap.size ns := by
 subst hc;exact ⟨ns.map Wd, heap_alloc_new w _, List.take_of_length_le (by simp)⟩
theorem BlkN.rd (h : BlkN w g ns) (hw : W32 ns) {off n : Nat} (hn : off + n <= ns.length) : Rd w (some ⟨g, off, none⟩) ((ns.drop off).take n) := by
 refine ⟨fun x hx => hw x (List.mem_of_mem_drop (List.mem_of_mem_take hx)), fun _ => ⟨g, off, rfl, h.lt, fun i hi => ?_⟩⟩;rw [List.length_take, List.length_drop] at hi;rw [List.getElem_take, List.getElem_drop];exact h.cell (by omega)
theorem BlkN.rd0 (h : BlkN w g ns) (hw : W32 ns) : Rd w (some ⟨g, 0, none⟩) ns := by
 have := h.rd hw (off := 0) (n := ns.length) (by omega)
 simpa using this
theorem BlkN.mid {pre zs post : List Nat} (h : BlkN w g (pre ++ zs ++ post)) (hw : W32 zs) {off : Nat} (ho : pre.length = off) : Rd w (some ⟨g, off, none⟩) zs := by
 subst ho;refine ⟨hw, fun _ => ⟨g, pre.length, rfl, h.lt, fun i hi => ?_⟩⟩;have := h.cell (i := pre.length + i) (by simp; omega);rw [this];simp only [List.append_assoc];rw [List.getElem_append_right (by omega)];simp only [Nat.add_sub_cancel_left];rw [List.getElem_append_left hi]
theorem BlkN.setMid {pre zs post : List Nat} (h : BlkN w g (pre ++ zs ++ post)) {off i : Nat} (ho : pre.length = off) (hi : i < zs.length) {v : Int} {n : Nat} (hv : v = n) :
  BlkN (w.setCell ⟨g, off + i, none⟩ (.int .u32 v)) g (pre ++ zs.set i n ++ post) := by
 subst ho;have := h.set (pre.length + i) hv;rw [List.append_assoc, List.set_append_right _ _ (by omega), Nat.add_sub_cancel_left, List.set_append_left _ _ hi, <- List.append_assoc] at this;exact this
end
def Own (w : World) (lo : Nat) (A : Option Addr) (ns : List Nat) : Prop := W32 ns /\ (ns = [] \/ ∃ g, A = some ⟨g, 0, none⟩ /\ lo <= g /\ BlkN w g ns)
section
variable {w w' : World} {lo lo' : Nat} {A : Option Addr} {ns : List Nat}
theorem Own.rd (h : Own w lo A ns) : Rd w A ns := by
 obtain ⟨h1, rfl | ⟨g, rfl, _, hb⟩⟩ := h
 ·exact Rd.nil _ _
 ·exact hb.rd0 h1
theorem Own.ext (h : Own w lo A ns) (e : Ext w w') : Own w' lo A ns :=
 ⟨h.1, h.2.imp id fun ⟨g, a, b, c⟩ => ⟨g, a, b, c.ext e⟩⟩
theorem Own.mono (h : Own w lo A ns) (hl : lo' <= lo) : Own w lo' A ns :=
 ⟨h.1, h.2.imp id fun ⟨g, a, b, c⟩ => ⟨g, a, Nat.le_trans hl b, c⟩⟩
theorem Own.take (h : Own w lo A ns) (k : Nat) : Own w lo A (ns.take k) :=
 ⟨fun x hx => h.1 x (List.mem_of_mem_take hx), by
  rcases h.2 with rfl | ⟨g, a, b, c⟩
  ·exact .inl (by simp)
  ·exact .inr ⟨g, a, b, c.take k⟩⟩
theorem Own.of_blk {g : Nat} (h : BlkN w g ns) (hw : W32 ns) (hg : lo <= g) : Own w lo (some ⟨g, 0, none⟩) ns := ⟨hw, .inr ⟨g, rfl, hg, h⟩⟩
theorem Own.of_row {base : Nat} {A : Option Addr} {n c : Nat} (h : w.ownsRow base 89 1 (.slice A n c) n (ns.map Wd)) (hw : W32 ns) : Own w base A ns /\ ns.length = n /\ (n = 0 \/ n <= c /\ c <= maxLen) := by
 have hl : ns.length = n := by simpa using h.1
 rcases h.2 with ⟨_, h0⟩ | ⟨g, cap, cur, hv, hb, hh, hn, hm, _, ht⟩
 ·have : ns = [] := List.eq_nil_of_length_eq_zero (by omega)
  exact ⟨⟨hw, .inl this⟩, hl, .inl h0⟩
 ·injection hv with h1 _ h3
  subst h1; subst h3;refine ⟨⟨hw, .inr ⟨g, rfl, hb, cur.toList, by simpa using hh, ?_⟩⟩, hl, .inr ⟨hn, hm⟩⟩;rw [<- ht, hl, Nat.mul_one]
end
theorem cells_of_rd {w : World} {ad : Addr} {xs : List Nat} (hr : Rd w (some ad) xs) : ∀ j u, (xs.map Wd)[j]? = some u -> w.cell? (ad.add j) = some u := by
 intro j u hu;rw [List.getElem?_map] at hu
 by_cases hj : j < xs.length
 ·obtain ⟨b, off, hA, _, hc⟩ := hr.2 (by rintro rfl; simp at hj)
  injection hA with hA
  subst hA;rw [List.getElem?_eq_getElem hj] at hu;simp only [Option.map_some, Option.some.injEq] at hu;subst hu;refine Eq.trans ?_ (hc j hj)
  congr 1
  unfold Addr.add
  split <;> simp_all
 ·rw [List.getElem?_eq_none (by omega)] at hu
  cases hu
theorem oneCell_words (xs : List Nat) : ∀ u ∈ xs.map Wd, u.oneCell' = true := by
 intro u hu;obtain ⟨n, _, rfl⟩ := List.mem_map.1 hu
 rfl
theorem run_append_words {P : Program} {w0 w : World} (t ty : TypeId) (i : TypeInfo) (ht : P.underlying t = some (.slice 89)) (hi : P.info? 89 = some i) (hz : i.zero = some (.int .u32 0)) (hsize : i.size = 1) (hby : i.bytes = 4)
  (he : Ext w0 w) (g : Nat) (hg : w.heap[g]? = some (.cells #[] 89 (0, 0))) (hg0 : w0.heap.size <= g) {A : Option Addr} {xs : List Nat} {c : Nat} (hr : Rd w A xs) (hl : xs.length * 4 <= 140737488355328) :
  ∃ A' c' w', (Builtin.append_ #[t, t] ty #[.slice (some ⟨g, 0, none⟩) 0 0, .slice A xs.length c]).run P w = .ok (.slice A' xs.length c') w' /\ Own w' w0.heap.size A' xs /\ xs.length <= c' /\ c' <= maxLen /\ Ext w0 w' := by
 have hown : w.ownsRow w0.heap.size 89 1 (.slice (some ⟨g, 0, none⟩) 0 0) 0 [] := ⟨by simp, .inr ⟨g, 0, #[], rfl, hg0, hg, Nat.le_refl _, by unfold maxLen; omega, by simp, by simp⟩⟩
 by_cases h0 : xs = []
 ·subst h0
  refine ⟨some ⟨g, 0, none⟩, 0, w, ?_, ⟨hr.1, .inl rfl⟩, by simp, by unfold maxLen; omega, he⟩
  cases A with
  | none => simp [Builtin.append_, run_underlying ht, sizeOf, typeInfo, hi, Builtin.lenOf, Builtin.firstCells, storeCells]
  | some ad => simp [Builtin.append_, run_underlying ht, sizeOf, typeInfo, hi, Builtin.lenOf, Builtin.firstCells, loadCells, loadCellsFrom, storeCells]
 ·obtain ⟨b, off, rfl, _, _⟩ := hr.2 h0
  obtain ⟨v', w', hrun, hown', hgr, _, _⟩ := run_append_own_at (P := P) w w0.heap.size t ty 89 i (.int .u32 0) 1 4 ht hi hz hsize hby rfl (by omega) _ 0 [] hown ⟨b, off, none⟩ xs.length c (xs.map Wd)
   (by simp) (cells_of_rd hr) (oneCell_words xs) (by unfold maxLen; omega) (by omega) he.size
  simp only [Nat.zero_add, List.nil_append] at hown'
  have hsh : ∃ A' c', v' = .slice A' xs.length c' := by
   rcases hown'.2 with ⟨rfl, h⟩ | ⟨g', cap, _, rfl, _⟩
   ·rw [h]; exact ⟨_, _, rfl⟩
   ·exact ⟨_, _, rfl⟩
  obtain ⟨A', c', rfl⟩ := hsh;obtain ⟨ho, _, hb⟩ := Own.of_row hown' hr.1;have hpos : 0 < xs.length := List.length_pos_iff.2 h0;have hb' : xs.length <= c' /\ c' <= maxLen := by rcases hb with h | h; omega; exact h
  exact ⟨A', c', w', hrun, ho, hb'.1, hb'.2, Below.grown he hgr he.size (fun k hk => by simp [Value.ownBlock] at hk; omega)⟩
theorem run_make_rowN {P : Program} (t e : TypeId) (i : TypeInfo) (z : Value) (ht : P.underlying t = some (.slice e)) (hi : P.info? e = some i) (hz : i.zero = some z)
  (kl kc : IntKind) (n c : Nat) (hnc : n <= c) (hbytes : i.bytes * c <= 281474976710656) (h63 : c <= 9223372036854775807) (w : World) :
  (Instr.makeSlice t (.int kl (n : Int)) (.int kc (c : Int))).run P w = .ok (.slice (some ⟨w.heap.size, 0, none⟩) n c) (w.alloc (.cells (madeCells z.cells (c * i.size)) e)) := by
 have hb : (i.bytes : Int) * (c : Int) <= 281474976710656 := by
  have h : ((i.bytes * c : Nat) : Int) <= 281474976710656 := by omega
  rwa [Int.natCast_mul] at h
 have hr := run_make (P := P) w t e i z ht hi hz kl kc n c (by omega) (by omega) hb (by omega);simp only [Int.toNat_natCast] at hr;exact hr
def lenV : Value -> Nat | .slice _ n _ => n | _ => 0
def RetN (P : List Nat -> Prop) (w : World) (e : Ending) (w' : World) : Prop :=
 ∃ A c ys, e = .returned (.slice A ys.length c) /\ Own w' w.heap.size A ys /\ ys.length <= c /\ c <= maxLen /\ P ys /\ Ext w w'
theorem sA1 {α : Type} (xs : List α) (i : Nat) (a : α) : xs.toArray.setIfInBounds i a = (xs.set i a).toArray := by simp
theorem sS1 {α : Type} (x : α) (xs : List α) (i : Nat) (a : α) : (x :: xs).set (i + 1) a = x :: xs.set i a := rfl
theorem sZ1 {α : Type} (x : α) (xs : List α) (a : α) : (x :: xs).set 0 a = a :: xs := rfl
theorem zP : (∀ (a : Act) (v : Value) (d : Tmp), a.put (some d) v = { tmps := a.tmps.setIfInBounds d v, defers := a.defers }) /\ (∀ {α : Type} (l : List α) (i : Nat) (a : α), l.toArray.setIfInBounds i a = (l.set i a).toArray) /\ (∀ {α : Type} {x : α} {xs : List α} {i : Nat} {a : α}, (x :: xs).set (i + 1) a = x :: xs.set i a) /\ (∀ {α : Type} {x : α} {xs : List α} {a : α}, (x :: xs).set 0 a = a :: xs) := ⟨fun _ _ _ => rfl, sA1, sS1 _ _ _ _, sZ1 _ _ _⟩
theorem Box.c2 {w : World} {g : Nat} {t : TypeId} {a b : Value} (h : Box w g t #[a, b]) : w.cell? ⟨g, 0, none⟩ = some a /\ w.cell? ⟨g, 1, none⟩ = some b := ⟨h.cell 0 _ rfl, h.cell 1 _ rfl⟩
theorem Box.c4 {w : World} {g : Nat} {t : TypeId} {a b c d : Value} (h : Box w g t #[a, b, c, d]) : w.cell? ⟨g, 0, none⟩ = some a /\ w.cell? ⟨g, 1, none⟩ = some b /\ w.cell? ⟨g, 2, none⟩ = some c /\ w.cell? ⟨g, 3, none⟩ = some d := ⟨h.cell 0 _ rfl, h.cell 1 _ rfl, h.cell 2 _ rfl, h.cell 3 _ rfl⟩
theorem Box.c8 {w : World} {g : Nat} {t : TypeId} {a b c d e f i j : Value} (h : Box w g t #[a, b, c, d, e, f, i, j]) : w.cell? ⟨g, 0, none⟩ = some a /\ w.cell? ⟨g, 1, none⟩ = some b /\ w.cell? ⟨g, 2, none⟩ = some c /\ w.cell? ⟨g, 3, none⟩ = some d /\ w.cell? ⟨g, 4, none⟩ = some e /\ w.cell? ⟨g, 5, none⟩ = some f /\ w.cell? ⟨g, 6, none⟩ = some i /\ w.cell? ⟨g, 7, none⟩ = some j := ⟨h.cell 0 _ rfl, h.cell 1 _ rfl, h.cell 2 _ rfl, h.cell 3 _ rfl, h.cell 4 _ rfl, h.cell 5 _ rfl, h.cell 6 _ rfl, h.cell 7 _ rfl⟩
end
section
def val : List Nat -> Nat
 | [] => 0
 | x :: xs => x + 4294967296 * val xs
theorem val_append (xs ys : List Nat) : val (xs ++ ys) = val xs + 4294967296 ^ xs.length * val ys := by
 induction xs with
 | nil => simp [val]
 | cons x xs ih =>
  simp only [List.cons_append, val, ih, List.length_cons, Nat.pow_succ];rw [Nat.mul_add, Nat.mul_comm (4294967296 ^ xs.length) 4294967296, Nat.mul_assoc]; omega
theorem val_one (x : Nat) : val [x] = x := by simp [val]
theorem take_succ' {xs : List Nat} {k : Nat} (h : k < xs.length) : xs.take (k + 1) = xs.take k ++ [xs[k]] := List.take_succ_eq_append_getElem h
theorem val_take_succ (xs : List Nat) (k : Nat) (h : k < xs.length) : val (xs.take (k + 1)) = val (xs.take k) + 4294967296 ^ k * xs[k] := by
 rw [take_succ' h, val_append, val_one, List.length_take, Nat.min_eq_left (by omega)]
theorem val_split (xs : List Nat) (k : Nat) (h : k <= xs.length) : val xs = val (xs.take k) + 4294967296 ^ k * val (xs.drop k) := by
 conv => lhs; rw [<- List.take_append_drop k xs]
 rw [val_append, List.length_take, Nat.min_eq_left h]
theorem W32.nil : W32 [] := fun _ h => by cases h
theorem W32.append {xs ys : List Nat} (hx : W32 xs) (hy : W32 ys) : W32 (xs ++ ys) := fun z hz => by
 rcases List.mem_append.1 hz with h | h
 ·exact hx z h
 ·exact hy z h
theorem W32.take {xs : List Nat} (hx : W32 xs) (k : Nat) : W32 (xs.take k) := fun z hz => hx z (List.mem_of_mem_take hz)
theorem W32.drop {xs : List Nat} (hx : W32 xs) (k : Nat) : W32 (xs.drop k) := fun z hz => hx z (List.mem_of_mem_drop hz)
theorem W32.set {xs : List Nat} (hx : W32 xs) (k : Nat) {v : Nat} (hv : v < 4294967296) : W32 (xs.set k v) := fun z hz => by
 rcases List.mem_or_eq_of_mem_set hz with h | h
 ·exact hx z h
 ·rw [h]; exact hv
theorem W32.replicate (n : Nat) : W32 (List.replicate n 0) := fun z hz => by rw [(List.mem_replicate.1 hz).2]; omega
theorem W32.get {xs : List Nat} (hx : W32 xs) {k : Nat} (h : k < xs.length) : xs[k] < 4294967296 := hx _ (List.getElem_mem h)
theorem W32.cons {x : Nat} {xs : List Nat} (hx : x < 4294967296) (h : W32 xs) : W32 (x :: xs) := fun z hz => by
 rcases List.mem_cons.1 hz with e | e
 ·rw [e]; exact hx
 ·exact h z e
theorem W32.one {x : Nat} (hx : x < 4294967296) : W32 [x] := W32.cons hx W32.nil
theorem val_lt {xs : List Nat} (h : W32 xs) : val xs < 4294967296 ^ xs.length := by
 induction xs with
 | nil => simp [val]
 | cons x xs ih =>
  have hx := h x (by simp);have := ih fun z hz => h z (by simp [hz])
  simp only [val, List.length_cons, Nat.pow_succ];have : 4294967296 * (val xs + 1) <= 4294967296 * 4294967296 ^ xs.length := Nat.mul_le_mul_left _ (by omega);omega
theorem val_replicate (n : Nat) : val (List.replicate n 0) = 0 := by
 induction n with
 | zero => rfl
 | succ n ih => simp [List.replicate_succ, val, ih]
/-! the form without zeros at the end -/
def trimL (xs : List Nat) : List Nat := (xs.reverse.dropWhile (· == 0)).reverse
def Nrm (xs : List Nat) : Prop := trimL xs = xs
theorem trimL_snoc_zero (xs : List Nat) : trimL (xs ++ [0]) = trimL xs := by simp [trimL]
theorem trimL_snoc_pos (xs : List Nat) {x : Nat} (h : x ≠ 0) : trimL (xs ++ [x]) = xs ++ [x] := by simp [trimL, h]
theorem trimL_zero (xs : List Nat) (k : Nat) (h : k < xs.length) (h0 : xs[k] = 0) : trimL (xs.take (k+1)) = trimL (xs.take k) := by
 rw [take_succ' h, h0, trimL_snoc_zero]
theorem trimL_pos (xs : List Nat) (k : Nat) (h : k < xs.length) (h0 : xs[k] ≠ 0) : trimL (xs.take (k+1)) = xs.take (k+1) := by
 rw [take_succ' h, trimL_snoc_pos _ h0]
theorem snoc_ind {P : List Nat -> Prop} (h0 : P []) (h1 : ∀ xs x, P xs -> P (xs ++ [x])) (xs : List Nat) : P xs := by
 have : ∀ ys : List Nat, P ys.reverse := by
  intro ys
  induction ys with
  | nil => exact h0
  | cons y ys ih => rw [List.reverse_cons]; exact h1 _ _ ih
 rw [<- List.reverse_reverse xs];exact this _
theorem trimL_prefix (xs : List Nat) : ∃ k, k <= xs.length /\ trimL xs = xs.take k := by
 induction xs using snoc_ind with
 | h0 => exact ⟨0, by simp, rfl⟩
 | h1 xs x ih =>
  by_cases hx : x = 0
  ·subst hx
   obtain ⟨k, hk, he⟩ := ih;exact ⟨k, by simp; omega, by rw [trimL_snoc_zero, he, List.take_append_of_le_length hk]⟩
  ·exact ⟨xs.length + 1, by simp, by rw [trimL_snoc_pos _ hx, List.take_of_length_le (by simp)]⟩
theorem trimL_len (xs : List Nat) : (trimL xs).length <= xs.length := by
 obtain ⟨k, hk, he⟩ := trimL_prefix xs;rw [he, List.length_take]; omega
theorem trimL_take (xs : List Nat) : trimL xs = xs.take (trimL xs).length := by
 obtain ⟨k, hk, he⟩ := trimL_prefix xs;rw [he, List.length_take, Nat.min_eq_left hk]
theorem W32.trimL {xs : List Nat} (h : W32 xs) : W32 (trimL xs) := by rw [trimL_take]; exact h.take _
theorem val_trimL (xs : List Nat) : val (trimL xs) = val xs := by
 induction xs using snoc_ind with
 | h0 => rfl
 | h1 xs x ih =>
  by_cases hx : x = 0
  ·subst hx; rw [trimL_snoc_zero, ih, val_append]; simp [val]
  ·rw [trimL_snoc_pos _ hx]
theorem trimL_trimL (xs : List Nat) : trimL (trimL xs) = trimL xs := by
 induction xs using snoc_ind with
 | h0 => rfl
 | h1 xs x ih =>
  by_cases hx : x = 0
  ·subst hx; rw [trimL_snoc_zero, ih]
  ·rw [trimL_snoc_pos _ hx, trimL_snoc_pos _ hx]
theorem Nrm.trimL (xs : List Nat) : Nrm (trimL xs) := trimL_trimL xs
theorem Nrm.nil : Nrm [] := rfl
theorem Nrm.snoc (xs : List Nat) {x : Nat} (h : x ≠ 0) : Nrm (xs ++ [x]) := trimL_snoc_pos xs h
theorem Nrm.cases {xs : List Nat} (h : Nrm xs) : xs = [] \/ ∃ ys x, xs = ys ++ [x] /\ x ≠ 0 := by
 induction xs using snoc_ind with
 | h0 => exact .inl rfl
 | h1 xs x _ =>
  refine .inr ⟨xs, x, rfl, fun hx => ?_⟩;subst hx;unfold Nrm at h;rw [trimL_snoc_zero] at h;have := trimL_len xs;rw [h] at this;simp at this;omega
theorem Nrm.last {xs : List Nat} (h : Nrm xs) (hn : 0 < xs.length) : xs[xs.length - 1]'(by omega) ≠ 0 := by
 rcases h.cases with rfl | ⟨ys, x, rfl, hx⟩
 ·simp at hn
 ·simpa using hx
theorem Nrm.ge {xs : List Nat} (h : Nrm xs) (hn : xs ≠ []) : 4294967296 ^ (xs.length - 1) <= val xs := by
 rcases h.cases with rfl | ⟨ys, x, rfl, hx⟩
 ·exact absurd rfl hn
 ·rw [val_append, val_one]
  simp only [List.length_append, List.length_cons, List.length_nil, Nat.zero_add, Nat.add_sub_cancel];have : 4294967296 ^ ys.length * 1 <= 4294967296 ^ ys.length * x := Nat.mul_le_mul_left _ (by omega);omega
theorem Nrm.zero {xs : List Nat} (h : Nrm xs) : val xs = 0 ↔ xs = [] := by
 constructor
 ·intro h0
  by_cases hn : xs = []
  ·exact hn
  ·have := h.ge hn
   have := Nat.pow_pos (n := xs.length - 1) (show 0 < 4294967296 by omega);omega
 ·rintro rfl; rfl
theorem val_lt_of_len {xs ys : List Nat} (hx : W32 xs) (hy : Nrm ys) (h : xs.length < ys.length) : val xs < val ys := by
 have h1 := val_lt hx;have h2 := hy.ge (by rintro rfl; simp at h);have : 4294967296 ^ xs.length <= 4294967296 ^ (ys.length - 1) := Nat.pow_le_pow_right (by omega) (by omega);omega
theorem val_inj_len {xs ys : List Nat} (hx : W32 xs) (hy : W32 ys) (hl : xs.length = ys.length) (h : val xs = val ys) : xs = ys := by
 induction xs generalizing ys with
 | nil => cases ys with
  | nil => rfl
  | cons y ys => simp at hl
 | cons x xs ih =>
  cases ys with
  | nil => simp at hl
  | cons y ys =>
   have a := hx x (by simp);have b := hy y (by simp);simp only [val] at h;have e1 : x = y := by omega
   have e2 : val xs = val ys := by omega
   rw [e1, ih (fun z hz => hx z (by simp [hz])) (fun z hz => hy z (by simp [hz])) (by simpa using hl) e2]
theorem nrm_inj {xs ys : List Nat} (hx : W32 xs) (hy : W32 ys) (nx : Nrm xs) (ny : Nrm ys) (h : val xs = val ys) : xs = ys := by
 rcases Nat.lt_trichotomy xs.length ys.length with hl | hl | hl
 ·have := val_lt_of_len hx ny hl; omega
 ·exact val_inj_len hx hy hl h
 ·have := val_lt_of_len hy nx hl; omega
/-! comparing -/
def cmpI (a b : Nat) : Int := if a < b then -1 else if b < a then 1 else 0
def cmpL (xs ys : List Nat) : Int := if xs.length = ys.length then cmpI (val xs) (val ys) else cmpI xs.length ys.length
theorem cmpI_self (a : Nat) : cmpI a a = 0 := by simp [cmpI]
theorem cmpL_self (xs : List Nat) : cmpL xs xs = 0 := by simp [cmpL, cmpI_self]
theorem cmpL_nrm {xs ys : List Nat} (hx : W32 xs) (hy : W32 ys) (nx : Nrm xs) (ny : Nrm ys) : cmpL xs ys = cmpI (val xs) (val ys) := by
 unfold cmpL
 split
 ·rfl
 ·rename_i hne
  rcases Nat.lt_or_ge xs.length ys.length with hl | hl
  ·have := val_lt_of_len hx ny hl
   simp [cmpI, hl, this]
  ·have hl' : ys.length < xs.length := by omega
   have := val_lt_of_len hy nx hl';simp [cmpI, hl', this, show ¬ xs.length < ys.length by omega, show ¬ val xs < val ys by omega]
theorem val_lt_at {xs ys : List Nat} (hx : W32 xs) (k : Nat) (hkx : k < xs.length) (hky : k < ys.length) (ht : xs.drop (k + 1) = ys.drop (k + 1)) (h : xs[k] < ys[k]) : val xs < val ys := by
 rw [val_split xs (k + 1) (by omega), val_split ys (k + 1) (by omega), ht, val_take_succ _ _ hkx, val_take_succ _ _ hky];have h1 := val_lt (hx.take k);rw [List.length_take, Nat.min_eq_left (by omega)] at h1;have h2 : 4294967296 ^ k * (xs[k] + 1) <= 4294967296 ^ k * ys[k] := Nat.mul_le_mul_left _ (by omega);rw [Nat.mul_add] at h2;omega
theorem cmpL_lt {xs ys : List Nat} (hx : W32 xs) (hl : xs.length = ys.length) (k : Nat) (hkx : k < xs.length) (hky : k < ys.length) (ht : xs.drop (k + 1) = ys.drop (k + 1)) (h : xs[k] < ys[k]) : cmpL xs ys = -1 := by
 simp [cmpL, hl, cmpI, val_lt_at hx k hkx hky ht h]
theorem cmpL_gt {xs ys : List Nat} (hy : W32 ys) (hl : xs.length = ys.length) (k : Nat) (hkx : k < xs.length) (hky : k < ys.length) (ht : xs.drop (k + 1) = ys.drop (k + 1)) (h : ys[k] < xs[k]) : cmpL xs ys = 1 := by
 have := val_lt_at hy k hky hkx ht.symm h;simp [cmpL, hl, cmpI, this, show ¬ val xs < val ys by omega]
theorem cmpL_len_lt {xs ys : List Nat} (h : xs.length < ys.length) : cmpL xs ys = -1 := by simp [cmpL, cmpI, h, show xs.length ≠ ys.length by omega]
theorem cmpL_len_gt {xs ys : List Nat} (h : ys.length < xs.length) : cmpL xs ys = 1 := by simp [cmpL, cmpI, h, show xs.length ≠ ys.length by omega, show ¬ xs.length < ys.length by omega]
theorem cmpL_len_lt' {xs ys : List Nat} (h : xs.length < ys.length) : cmpL xs ys = cmpI xs.length ys.length := by simp [cmpL, show xs.length ≠ ys.length by omega]
theorem cmpL_len_gt' {xs ys : List Nat} (h : ys.length < xs.length) : cmpL xs ys = cmpI xs.length ys.length := by simp [cmpL, show xs.length ≠ ys.length by omega]
theorem cmpL_at {xs ys : List Nat} (hx : W32 xs) (hy : W32 ys) (hl : xs.length = ys.length) (k : Nat) (hkx : k < xs.length) (hky : k < ys.length) (ht : xs.drop (k + 1) = ys.drop (k + 1)) (h : xs[k] ≠ ys[k]) : cmpL xs ys = cmpI xs[k] ys[k] := by
 rcases Nat.lt_or_ge xs[k] ys[k] with h1 | h1
 ·rw [cmpL_lt hx hl k hkx hky ht h1]; simp [cmpI, h1]
 ·rw [cmpL_gt hy hl k hkx hky ht (by omega)]; simp [cmpI, show ys[k] < xs[k] by omega]; omega
theorem drop_eq_step {xs ys : List Nat} (k : Nat) (hkx : k < xs.length) (hky : k < ys.length) (ht : xs.drop (k + 1) = ys.drop (k + 1)) (h : xs[k] = ys[k]) : xs.drop k = ys.drop k := by
 rw [List.drop_eq_getElem_cons hkx, List.drop_eq_getElem_cons hky, ht, h]
/-! steps with a carry -/
theorem val_take_getD (xs : List Nat) (k : Nat) : val (xs.take (k + 1)) = val (xs.take k) + 4294967296 ^ k * xs.getD k 0 := by
 by_cases h : k < xs.length
 ·rw [val_take_succ xs k h]; simp [List.getD, h]
 ·rw [List.take_of_length_le (by omega), List.take_of_length_le (by omega)]; simp [List.getD, h]
theorem take_set_self (zs : List Nat) (k v : Nat) : (zs.set k v).take k = zs.take k := by
 rw [List.take_set];exact List.set_eq_of_length_le (by rw [List.length_take]; omega)
theorem val_take_set {zs : List Nat} {k : Nat} (v : Nat) (h : k < zs.length) : val ((zs.set k v).take (k + 1)) = val (zs.take k) + 4294967296 ^ k * v := by
 rw [val_take_succ _ _ (by simpa using h), take_set_self];simp
theorem drop_set_succ (zs : List Nat) (k v : Nat) : (zs.set k v).drop (k + 1) = zs.drop (k + 1) := by
 rw [List.drop_set];simp
theorem pow_carry (k s : Nat) : 4294967296 ^ k * (s % 4294967296) + 4294967296 ^ (k + 1) * (s / 4294967296) = 4294967296 ^ k * s := by
 rw [Nat.pow_succ, Nat.mul_assoc, <- Nat.mul_add]
 congr 1
 omega
theorem getD_lt {xs : List Nat} (h : W32 xs) (k : Nat) : xs.getD k 0 < 4294967296 := by
 by_cases hk : k < xs.length
 ·simpa [List.getD, hk] using h.get hk
 ·simp [List.getD, hk]
theorem getD_at {xs : List Nat} {k : Nat} (h : k < xs.length) : xs.getD k 0 = xs[k] := by simp [List.getD, h]
theorem getD_out {xs : List Nat} {k : Nat} (h : ¬ k < xs.length) : xs.getD k 0 = 0 := by simp [List.getD, h]
structure PlusInv (xs ys : List Nat) (k : Nat) (zs : List Nat) (cy : Nat) : Prop where
 len1 : zs.length <= xs.length + 1
 len2 : xs.length + 1 <= zs.length
 w32 : W32 zs
 hcy : cy <= 1
 eq : val (zs.take k) + 4294967296 ^ k * cy = val (xs.take k) + val (ys.take k)
theorem PlusInv.start (xs ys : List Nat) : PlusInv xs ys 0 (List.replicate (xs.length + 1) 0) 0 := ⟨by simp, by simp, W32.replicate _, by omega, by simp [val]⟩
theorem PlusInv.step {xs ys zs : List Nat} {k cy : Nat} (h : PlusInv xs ys k zs cy) (hx : W32 xs) (hy : W32 ys) (hk : k < xs.length) {s : Nat} (hs : s = cy + xs.getD k 0 + ys.getD k 0) :
  PlusInv xs ys (k + 1) (zs.set k (s % 4294967296)) (s / 4294967296) := by
 have h1 := getD_lt hx k;have h2 := getD_lt hy k;have h3 := h.hcy;refine ⟨by simpa using h.len1, by simpa using h.len2, h.w32.set _ (by omega), by omega, ?_⟩;rw [val_take_set _ (by have := h.len2; omega), val_take_getD xs, val_take_getD ys, Nat.add_assoc, pow_carry];have := h.eq;rw [hs, Nat.mul_add, Nat.mul_add];omega
theorem PlusInv.done {xs ys zs : List Nat} {cy : Nat} (h : PlusInv xs ys xs.length zs cy) (hl : ys.length <= xs.length) : val (trimL (zs.set xs.length cy)) = val xs + val ys := by
 rw [val_trimL];have e := h.eq;have e2 := val_take_set (zs := zs) (k := xs.length) cy (by have := h.len2; omega);rw [List.take_of_length_le (by simp; exact h.len1)] at e2;rw [List.take_of_length_le (l := xs) (Nat.le_refl _), List.take_of_length_le hl] at e;omega
/-! in place -/
structure AddInv (zs0 bs : List Nat) (k : Nat) (zs : List Nat) (cy : Nat) : Prop where
 len : zs.length = zs0.length
 w32 : W32 zs
 hcy : cy <= 1
 rest : zs.drop k = zs0.drop k
 eq : val (zs.take k) + 4294967296 ^ k * cy = val (zs0.take k) + val (bs.take k)
theorem AddInv.start {zs0 bs : List Nat} (h : W32 zs0) : AddInv zs0 bs 0 zs0 0 := ⟨rfl, h, by omega, rfl, by simp [val]⟩
theorem AddInv.at_ {zs0 bs zs : List Nat} {k cy : Nat} (h : AddInv zs0 bs k zs cy) (hk : k < zs.length) : zs[k] = zs0.getD k 0 := by
 have := congrArg (fun l : List Nat => l.getD 0 0) h.rest;simp only [List.getD, List.getElem?_drop, Nat.add_zero] at this;rw [List.getElem?_eq_getElem hk] at this
 simpa [List.getD] using this
theorem AddInv.step {zs0 bs zs : List Nat} {k cy : Nat} (h : AddInv zs0 bs k zs cy) (_h0 : W32 zs0) (hb : W32 bs) (hk : k < zs.length) {s : Nat} (hs : s = cy + zs[k] + bs.getD k 0) :
  AddInv zs0 bs (k + 1) (zs.set k (s % 4294967296)) (s / 4294967296) := by
 have h1 := h.w32.get hk;have h2 := getD_lt hb k;have h3 := h.hcy;refine ⟨by simpa using h.len, h.w32.set _ (by omega), by omega, ?_, ?_⟩
 ·rw [drop_set_succ, <- List.drop_drop, h.rest, List.drop_drop]
 ·rw [val_take_set _ hk, val_take_getD zs0, val_take_getD bs, Nat.add_assoc, pow_carry, <- h.at_ hk]
  have := h.eq;rw [hs, Nat.mul_add, Nat.mul_add];omega
theorem AddInv.done {zs0 bs zs : List Nat} {k cy : Nat} (h : AddInv zs0 bs k zs cy) (hk : bs.length <= k) (hkz : k <= zs.length) (he : cy = 0 \/ k = zs.length) :
  ∃ c, c <= 1 /\ val zs + 4294967296 ^ zs.length * c = val zs0 + val bs := by
 have hl := h.len;have e := h.eq;rw [List.take_of_length_le hk] at e;have e1 := val_split zs k hkz;have e2 := val_split zs0 k (by omega);rw [h.rest] at e1
 rcases he with rfl | rfl
 ·exact ⟨0, by omega, by omega⟩
 ·refine ⟨cy, h.hcy, ?_⟩
  rw [List.drop_of_length_le (by omega)] at e1 e2;simp only [val] at e1 e2;omega
theorem carry_zero {z p b cy s : Nat} (h : z + p * b * cy = s) (hs : s < p * b) : cy = 0 := by
 cases cy with
 | zero => rfl
 | succ c =>
  have : p * b <= p * b * (c + 1) := Nat.le_mul_of_pos_right _ (Nat.succ_pos c);omega
theorem two_lt {a b p q : Nat} (h1 : a < p) (h2 : b < q) (h3 : q <= p) (d : Nat) (hd : 2 <= d) : a + b < p * d := by
 have : p * 2 <= p * d := Nat.mul_le_mul_left _ hd;omega
theorem add_done {xs ys zs : List Nat} {cy : Nat} (hx : W32 xs) (hy : W32 ys) (hl : ys.length <= xs.length)
  (h : val zs + 4294967296 ^ (xs.length + 1) * cy = val (xs ++ (List.replicate (xs.length + 1) 0).drop xs.length) + val ys) : val zs = val xs + val ys := by
 have e : val (xs ++ (List.replicate (xs.length + 1) 0).drop xs.length) = val xs := by
  rw [val_append, List.drop_replicate, val_replicate];simp
 rw [e, Nat.pow_succ] at h;have := carry_zero h (two_lt (val_lt hx) (val_lt hy) (Nat.pow_le_pow_right (by omega) hl) _ (by omega));rw [this, Nat.mul_zero, Nat.add_zero] at h;exact h
theorem borrow_low {z y c : Nat} (hz : z < 4294967296) (hy : y < 4294967296) (hc : c <= 1) (h : ¬ y + c <= z) :
  IntKind.u64.wrap (IntKind.u64.wrap ((z : Int) - (y : Int)) - (c : Int)) % 4294967296 = ((z + 4294967296 - y - c : Nat) : Int) := by
 rw [IntKind.wrap_u64, IntKind.wrap_u64]; omega
theorem borrow_top {z y c : Nat} (hz : z < 4294967296) (hy : y < 4294967296) (hc : c <= 1) (h : ¬ y + c <= z) :
  IntKind.u64.wrap (IntKind.u64.wrap ((z : Int) - (y : Int)) - (c : Int)) / 9223372036854775808 = 1 := by
 rw [IntKind.wrap_u64, IntKind.wrap_u64]; omega
theorem borrow_low1 {z : Nat} (hz : z < 4294967296) (h : ¬ 1 <= z) : IntKind.u64.wrap ((z : Int) - 1) % 4294967296 = ((z + 4294967296 - 1 : Nat) : Int) := by
 rw [IntKind.wrap_u64]; omega
theorem borrow_top1 {z : Nat} (hz : z < 4294967296) (h : ¬ 1 <= z) : IntKind.u64.wrap ((z : Int) - 1) / 9223372036854775808 = 1 := by
 rw [IntKind.wrap_u64]; omega
structure SubInv (zs0 bs : List Nat) (k : Nat) (zs : List Nat) (bw : Nat) : Prop where
 len : zs.length = zs0.length
 w32 : W32 zs
 hbw : bw <= 1
 rest : zs.drop k = zs0.drop k
 eq : val (zs.take k) + val (bs.take k) = val (zs0.take k) + 4294967296 ^ k * bw
theorem SubInv.start {zs0 bs : List Nat} (h : W32 zs0) : SubInv zs0 bs 0 zs0 0 := ⟨rfl, h, by omega, rfl, by simp [val]⟩
theorem SubInv.at_ {zs0 bs zs : List Nat} {k bw : Nat} (h : SubInv zs0 bs k zs bw) (hk : k < zs.length) : zs[k] = zs0.getD k 0 := by
 have := congrArg (fun l : List Nat => l.getD 0 0) h.rest;simp only [List.getD, List.getElem?_drop, Nat.add_zero] at this;rw [List.getElem?_eq_getElem hk] at this
 simpa [List.getD] using this
theorem SubInv.step {zs0 bs zs : List Nat} {k bw d bw' : Nat} (h : SubInv zs0 bs k zs bw) (hk : k < zs.length) (hd : d < 4294967296) (hbw : bw' <= 1) (hs : d + bs.getD k 0 + bw = zs[k] + 4294967296 * bw') :
  SubInv zs0 bs (k + 1) (zs.set k d) bw' := by
 refine ⟨by simpa using h.len, h.w32.set _ hd, hbw, ?_, ?_⟩
 ·rw [drop_set_succ, <- List.drop_drop, h.rest, List.drop_drop]
 ·rw [val_take_set _ hk, val_take_getD zs0, val_take_getD bs, <- h.at_ hk]
  have := h.eq;have e := congrArg (fun n => 4294967296 ^ k * n) hs;simp only [Nat.mul_add] at e;rw [Nat.pow_succ, Nat.mul_assoc];omega
theorem SubInv.lt {zs0 bs zs : List Nat} {k bw : Nat} (h : SubInv zs0 bs k zs bw) (hk : bs.length <= k) (hv : val bs <= val zs0) (hb : bw ≠ 0) : k < zs.length := by
 rcases Nat.lt_or_ge k zs.length with h1 | h1
 ·exact h1
 ·have hl := h.len
  have e := h.eq;have := h.hbw;have hb1 : bw = 1 := by omega
  subst hb1;rw [List.take_of_length_le hk, List.take_of_length_le h1, List.take_of_length_le (by omega)] at e;have h2 := val_lt h.w32;have : 4294967296 ^ zs.length <= 4294967296 ^ k := Nat.pow_le_pow_right (by omega) h1;omega
theorem SubInv.done {zs0 bs zs : List Nat} {k : Nat} (h : SubInv zs0 bs k zs 0) (hk : bs.length <= k) (hkz : k <= zs.length) : val zs + val bs = val zs0 := by
 have hl := h.len;have e := h.eq;rw [List.take_of_length_le hk] at e;have e1 := val_split zs k hkz;have e2 := val_split zs0 k (by omega);rw [h.rest] at e1;omega
/-! a difference in new memory -/
structure MinInv (xs ys : List Nat) (k : Nat) (zs : List Nat) (bw : Nat) : Prop where
 len1 : zs.length <= xs.length
 len2 : xs.length <= zs.length
 w32 : W32 zs
 hbw : bw <= 1
 eq : val (zs.take k) + val (ys.take k) = val (xs.take k) + 4294967296 ^ k * bw
theorem MinInv.start (xs ys : List Nat) : MinInv xs ys 0 (List.replicate xs.length 0) 0 := ⟨by simp, by simp, W32.replicate _, by omega, by simp [val]⟩
theorem MinInv.step {xs ys zs : List Nat} {k bw d bw' : Nat} (h : MinInv xs ys k zs bw) (hk : k < xs.length) (hd : d < 4294967296) (hbw : bw' <= 1) (hs : d + ys.getD k 0 + bw = xs.getD k 0 + 4294967296 * bw') :
  MinInv xs ys (k + 1) (zs.set k d) bw' := by
 refine ⟨by simpa using h.len1, by simpa using h.len2, h.w32.set _ hd, hbw, ?_⟩;rw [val_take_set _ (by have := h.len2; omega), val_take_getD xs, val_take_getD ys];have := h.eq;have e := congrArg (fun n => 4294967296 ^ k * n) hs;simp only [Nat.mul_add] at e;rw [Nat.pow_succ, Nat.mul_assoc];omega
theorem MinInv.done {xs ys zs : List Nat} {bw : Nat} (h : MinInv xs ys xs.length zs bw) (hl : ys.length <= xs.length) (hv : val ys <= val xs) : val zs + val ys = val xs := by
 have e := h.eq;have h2 := val_lt h.w32;have l1 := h.len1;have l2 := h.len2;have hz : zs.length = xs.length := by omega
 rw [List.take_of_length_le l1, List.take_of_length_le hl, List.take_of_length_le (Nat.le_refl _)] at e;rw [hz] at h2;have := h.hbw
 have : bw = 0 := by
  rcases Nat.eq_zero_or_pos bw with h0 | h0
  ·exact h0
  ·have : bw = 1 := by omega
   subst this;omega
 subst this;omega
theorem mkRat_parts (N : Int) {D : Nat} (hD : D ≠ 0) : (mkRat N D).num = N / (N.natAbs.gcd D : Nat) /\ (mkRat N D).den = D / N.natAbs.gcd D := by
 rw [Rat.num_mkRat, Rat.den_mkRat, if_neg hD, if_neg hD, Nat.gcd_comm];exact ⟨rfl, rfl⟩
theorem rat_mul (a b : Rat) {g h : Nat} (hg : g = a.num.natAbs.gcd b.den) (hh : h = b.num.natAbs.gcd a.den) :
  (a * b).num = a.num / (g : Int) * (b.num / (h : Int)) /\ (a * b).den = a.den / h * (b.den / g) := by
 subst hg;subst hh
 show (Rat.mul a b).num = _ /\ (Rat.mul a b).den = _
 delta Rat.mul
 exact ⟨rfl, rfl⟩
end
section
open Go.RowKit
structure SInv (A0 B0 : Nat) (e : Bool) (a b u1 u2 v1 v2 : Nat) : Prop where
 la : if e then a + u1 * A0 = v1 * B0 else a + v1 * B0 = u1 * A0
 lb : if e then b + v2 * B0 = u2 * A0 else b + u2 * A0 = v2 * B0
 ia : A0 = v2 * a + v1 * b
 le : b <= a
 l2 : u2 <= v2
 l1 : u1 + u2 <= v1 + v2
 dt : if e then v1 * u2 = u1 * v2 + 1 else u1 * v2 = v1 * u2 + 1
 pos : 1 <= v2
 lv : v1 <= v2
structure SRes (A0 B0 : Nat) (e : Bool) (p a u0 u1 v0 v1 : Nat) : Prop where
 lp : if e then p + v0 * B0 = u0 * A0 else p + u0 * A0 = v0 * B0
 la : if e then a + u1 * A0 = v1 * B0 else a + v1 * B0 = u1 * A0
 ia : A0 = v1 * p + v0 * a
 hv : v1 <= a
 hp : a + v0 + v1 <= p
 l1 : u1 <= v1
 l0 : u0 + u1 <= v0 + v1
 dt : if e then u0 * v1 = v0 * u1 + 1 else v0 * u1 = u0 * v1 + 1
 pos : 1 <= v1
 lv : v0 <= v1
theorem SInv.start {A0 B0 : Nat} (h : B0 <= A0) : SInv A0 B0 false A0 B0 1 0 0 1 :=
 ⟨by simp, by simp, by omega, h, by omega, by omega, by simp, by omega, by omega⟩
theorem SInv.step {A0 B0 : Nat} {e : Bool} {a b u1 u2 v1 v2 : Nat} (h : SInv A0 B0 e a b u1 u2 v1 v2) (hb : v2 <= b) (hc : b + v1 + v2 <= a) :
  SInv A0 B0 (!e) b (a % b) u2 (u1 + a / b * u2) v2 (v1 + a / b * v2) /\ SRes A0 B0 (!e) a b u1 u2 v1 v2 /\ v1 + a / b * v2 <= A0 := by
 obtain ⟨la, lb, ia, le, l2, l1, dt, pos, lv⟩ := h;have hb0 : 0 < b := by omega
 have hq : 1 <= a / b := (Nat.le_div_iff_mul_le hb0).2 (by omega);have hab := Nat.div_add_mod a b;have hr := Nat.mod_lt a hb0;generalize a / b = q at *;generalize a % b = r at *;have e1 : A0 = (v1 + q * v2) * b + v2 * r := by rw [ia, <- hab]; grind
 have m3 : 1 * 1 <= q * v2 := Nat.mul_le_mul hq pos;have m4 : v2 <= v1 + q * v2 := by have := Nat.mul_le_mul_right v2 hq; omega
 have m2 : u1 + q * u2 <= v1 + q * v2 := by
  obtain ⟨k, rfl⟩ : ∃ k, q = k + 1 := ⟨q - 1, by omega⟩;have := Nat.mul_le_mul_left k l2;rw [Nat.add_mul, Nat.add_mul];omega
 refine ⟨⟨?_, ?_, e1, by omega, m2, by omega, ?_, by omega, m4⟩, ⟨?_, ?_, ?_, hb, by omega, l2, by omega, ?_, pos, lv⟩, ?_⟩
 ·cases e <;> simp at lb ⊢ <;> omega
 ·cases e
  ·simp at la lb ⊢
   subst hab
   grind
  ·simp at la lb ⊢
   subst hab
   grind
 ·cases e
  ·simp at dt ⊢; grind
  ·simp at dt ⊢; grind
 ·cases e <;> simp at la ⊢ <;> omega
 ·cases e <;> simp at lb ⊢ <;> omega
 ·exact ia
 ·cases e
  ·simp at dt ⊢; grind
  ·simp at dt ⊢; grind
 ·have h1 : (v1 + q * v2) * 1 <= (v1 + q * v2) * b := Nat.mul_le_mul_left _ hb0
  omega
theorem sq_lt {x y : Nat} (h : x * x < y * y) : x < y := by
 refine Nat.lt_of_not_le fun hle => ?_
 have := Nat.mul_le_mul hle hle;omega
theorem SRes.small {A0 B0 : Nat} {e : Bool} {p a u0 u1 v0 v1 : Nat} (h : SRes A0 B0 e p a u0 u1 v0 v1) (hA : A0 < 4611686018427387904) : v1 < 2147483648 /\ v0 + v1 <= A0 := by
 obtain ⟨_, _, ia, hv, hp, _, _, _, pos, _⟩ := h;have h1 : v1 * v1 <= v1 * p := Nat.mul_le_mul_left _ (by omega);have h2 : 1 * p <= v1 * p := Nat.mul_le_mul_right _ pos;refine ⟨sq_lt (y := 2147483648) ?_, ?_⟩
 ·generalize v1 * v1 = s at *
  generalize v1 * p = t at *;generalize v0 * a = u at *;omega
 ·generalize v1 * p = t at *
  generalize v0 * a = u at *;omega
theorem SRes.real {A0 B0 K s t : Nat} {e : Bool} {p a u0 u1 v0 v1 : Nat} (h : SRes A0 B0 e p a u0 u1 v0 v1) (hs : s < K) (ht : t < K) :
  ∃ R S, (if e then R + v0 * (K * B0 + t) = u0 * (K * A0 + s) /\ S + u1 * (K * A0 + s) = v1 * (K * B0 + t) else R + u0 * (K * A0 + s) = v0 * (K * B0 + t) /\ S + v1 * (K * B0 + t) = u1 * (K * A0 + s)) /\ S < R := by
 obtain ⟨lp, la, ia, hv, hp, l1, l0, dt, pos, _⟩ := h;have k1 : u1 * s <= v1 * K := Nat.mul_le_mul l1 (by omega);have k2 : v1 * t <= v1 * K := Nat.mul_le_mul_left _ (by omega);have k3 : K * v1 <= K * a := Nat.mul_le_mul_left _ hv;have k4 : K * (a + v0 + v1) <= K * p := Nat.mul_le_mul_left _ hp;have k5 : (v0 + v1) * (t + 1) <= (v0 + v1) * K := Nat.mul_le_mul_left _ (by omega);have k6 : (u0 + u1) * s <= (v0 + v1) * s := Nat.mul_le_mul_right _ l0;have k7 : (v0 + v1) * (s + 1) <= (v0 + v1) * K := Nat.mul_le_mul_left _ (by omega);have k8 : K * (a + v0 + v1) = K * a + (v0 + v1) * K := by grind
 have k9 : (v0 + v1) * (t + 1) = v0 * t + v1 * t + v0 + v1 := by grind
 have k10 : (v0 + v1) * (s + 1) = (v0 + v1) * s + v0 + v1 := by grind
 have k11 : (u0 + u1) * s = u0 * s + u1 * s := by grind
 have k12 : (v0 + v1) * K = v0 * K + v1 * K := by grind
 have k13 : K * v1 = v1 * K := Nat.mul_comm _ _
 cases e with
 | true =>
  simp at lp la ⊢;have e1 : K * p + v0 * (K * B0) = u0 * (K * A0) := by grind
  have e2 : K * a + u1 * (K * A0) = v1 * (K * B0) := by grind
  refine ⟨K * p + u0 * s - v0 * t, K * a + v1 * t - u1 * s, ⟨?_, ?_⟩, ?_⟩
  ·rw [Nat.mul_add, Nat.mul_add]; omega
  ·rw [Nat.mul_add, Nat.mul_add]; omega
  ·omega
 | false =>
  simp at lp la ⊢;have e1 : K * p + u0 * (K * A0) = v0 * (K * B0) := by grind
  have e2 : K * a + v1 * (K * B0) = u1 * (K * A0) := by grind
  refine ⟨K * p + v0 * t - u0 * s, K * a + u1 * s - v1 * t, ⟨?_, ?_⟩, ?_⟩
  ·rw [Nat.mul_add, Nat.mul_add]; omega
  ·rw [Nat.mul_add, Nat.mul_add]; omega
  ·omega
theorem SRes.back {A0 B0 x y R S : Nat} {e : Bool} {p a u0 u1 v0 v1 : Nat} (h : SRes A0 B0 e p a u0 u1 v0 v1)
  (hr : if e then R + v0 * y = u0 * x /\ S + u1 * x = v1 * y else R + u0 * x = v0 * y /\ S + v1 * y = u1 * x) : x = v1 * R + v0 * S /\ y = u1 * R + u0 * S := by
 have dt := h.dt
 cases e with
 | true =>
  simp at hr dt;obtain ⟨h1, h2⟩ := hr
  constructor
  ·have : v1 * (R + v0 * y) + v0 * (S + u1 * x) = v1 * (u0 * x) + v0 * (v1 * y) := by rw [h1, h2]
   have e3 : v1 * (u0 * x) = v0 * u1 * x + x := by rw [<- Nat.mul_assoc, Nat.mul_comm v1 u0, dt]; grind
   grind
  ·have : u1 * (R + v0 * y) + u0 * (S + u1 * x) = u1 * (u0 * x) + u0 * (v1 * y) := by rw [h1, h2]
   have e3 : u0 * (v1 * y) = v0 * u1 * y + y := by rw [<- Nat.mul_assoc, dt]; grind
   grind
 | false =>
  simp at hr dt;obtain ⟨h1, h2⟩ := hr
  constructor
  ·have : v1 * (R + u0 * x) + v0 * (S + v1 * y) = v1 * (v0 * y) + v0 * (u1 * x) := by rw [h1, h2]
   have e3 : v0 * (u1 * x) = u0 * v1 * x + x := by rw [<- Nat.mul_assoc, dt]; grind
   grind
  ·have : u1 * (R + u0 * x) + u0 * (S + v1 * y) = u1 * (v0 * y) + u0 * (u1 * x) := by rw [h1, h2]
   have e3 : u1 * (v0 * y) = u0 * v1 * y + y := by rw [<- Nat.mul_assoc, Nat.mul_comm u1 v0, dt]; grind
   grind
theorem SRes.gcd {A0 B0 x y R S : Nat} {e : Bool} {p a u0 u1 v0 v1 : Nat} (h : SRes A0 B0 e p a u0 u1 v0 v1)
  (hr : if e then R + v0 * y = u0 * x /\ S + u1 * x = v1 * y else R + u0 * x = v0 * y /\ S + v1 * y = u1 * x) : Nat.gcd R S = Nat.gcd x y := by
 obtain ⟨hx, hy⟩ := h.back hr;refine Nat.dvd_antisymm (Nat.dvd_gcd ?_ ?_) (Nat.dvd_gcd ?_ ?_)
 ·rw [hx]; exact Nat.dvd_add (Nat.dvd_mul_left_of_dvd (Nat.gcd_dvd_left _ _) _) (Nat.dvd_mul_left_of_dvd (Nat.gcd_dvd_right _ _) _)
 ·rw [hy]; exact Nat.dvd_add (Nat.dvd_mul_left_of_dvd (Nat.gcd_dvd_left _ _) _) (Nat.dvd_mul_left_of_dvd (Nat.gcd_dvd_right _ _) _)
 ·have d1 := Nat.dvd_mul_left_of_dvd (Nat.gcd_dvd_left x y) u0
  have d2 := Nat.dvd_mul_left_of_dvd (Nat.gcd_dvd_right x y) v0
  cases e with
  | true => simp at hr; rw [<- hr.1] at d1; exact (Nat.dvd_add_left d2).1 d1
  | false => simp at hr; rw [<- hr.1] at d2; exact (Nat.dvd_add_left d1).1 d2
 ·have d1 := Nat.dvd_mul_left_of_dvd (Nat.gcd_dvd_left x y) u1
  have d2 := Nat.dvd_mul_left_of_dvd (Nat.gcd_dvd_right x y) v1
  cases e with
  | true => simp at hr; rw [<- hr.2] at d2; exact (Nat.dvd_add_left d1).1 d2
  | false => simp at hr; rw [<- hr.2] at d1; exact (Nat.dvd_add_left d2).1 d1
theorem SRes.factors {A0 B0 : Nat} {e : Bool} {p a u0 u1 v0 v1 : Nat} (h : SRes A0 B0 e p a u0 u1 v0 v1) (hA : A0 < 4611686018427387904) : u0 <= 2147483647 /\ u1 <= 2147483647 /\ v0 <= 2147483647 /\ v1 <= 2147483647 := by
 have h1 := (h.small hA).1;have l1 := h.l1;have lv := h.lv;have dt := h.dt;have pos := h.pos;have l0 := h.l0;refine ⟨?_, by omega, by omega, by omega⟩
 cases e with
 | true =>
  simp at dt;have h2 : v0 * u1 <= v0 * v1 := Nat.mul_le_mul_left _ l1
  by_cases h3 : u0 <= v0 + 1
  ·by_cases h4 : v1 = 1
   ·omega
   ·by_cases h5 : u0 <= v0
    ·omega
    ·have h6 : (v0 + 1) * v1 <= u0 * v1 := Nat.mul_le_mul_right _ (by omega)
     rw [Nat.add_mul] at h6;omega
  ·have h6 : (v0 + 2) * v1 <= u0 * v1 := Nat.mul_le_mul_right _ (by omega)
   rw [Nat.add_mul] at h6;omega
 | false =>
  simp at dt;have h2 : v0 * u1 <= v0 * v1 := Nat.mul_le_mul_left _ l1;refine Nat.le_of_not_lt fun h3 => ?_
  have h6 : v0 * v1 <= u0 * v1 := Nat.mul_le_mul_right _ (by omega);omega
structure Al where
 i : Nat
 d : Tmp
 t : TypeId
 cs : Array Value
def lay (a : Act) (y : Al × Nat) : Act := a.put (some y.1.d) (.pointer (some ⟨y.2, 0, none⟩))
def mark (L : Array Bool) (y : Al × Nat) : Array Bool := L.setIfInBounds y.1.i true
def lays (a : Act) (D : List (Al × Nat)) : Act := D.foldl lay a
def marks (L : Array Bool) (D : List (Al × Nat)) : Array Bool := D.foldl mark L
structure Val (W0 : World) (AL : List Al) (w : World) (D : List (Al × Nat)) : Prop where
 mem : ∀ y ∈ D, y.1 ∈ AL
 nd : (D.map fun y => y.1.i).Nodup
 ng : (D.map fun y => y.2).Nodup
 box : ∀ y ∈ D, Box w y.2 y.1.t y.1.cs
 ge : ∀ y ∈ D, W0.heap.size <= y.2
theorem Val.ext {AL : List Al} {W0 w w' : World} {D : List (Al × Nat)} (h : Val W0 AL w D) (e : Ext w w') : Val W0 AL w' D :=
 ⟨h.mem, h.nd, h.ng, fun y hy => (h.box y hy).ext e, h.ge⟩
theorem Val.nil {AL : List Al} {W0 w : World} : Val W0 AL w [] := ⟨(fun _ h => by cases h), List.nodup_nil, List.nodup_nil, (fun _ h => by cases h), (fun _ h => by cases h)⟩
theorem len_of_sub : ∀ (l m : List Nat), l.Nodup -> (∀ x ∈ l, x ∈ m) -> l.length <= m.length
 | [], _, _, _ => Nat.zero_le _
 | b :: l, m, hn, hs => by
  have hb := hs b List.mem_cons_self;rw [List.nodup_cons] at hn
  have := len_of_sub l (m.erase b) hn.2 (fun x hx => by
   have hne : x ≠ b := fun e => hn.1 (e ▸ hx)
   exact (List.mem_erase_of_ne hne).2 (hs x (List.mem_cons_of_mem _ hx)))
  rw [List.length_erase_of_mem hb] at this;have hp := List.length_pos_of_mem hb;simp only [List.length_cons];omega
theorem Val.len {AL : List Al} {W0 w : World} {D : List (Al × Nat)} (h : Val W0 AL w D) : D.length <= AL.length := by
 have := len_of_sub (D.map fun y => y.1.i) (AL.map (·.i)) h.nd (fun x hx => by
  obtain ⟨y, hy, rfl⟩ := List.mem_map.1 hx;exact List.mem_map.2 ⟨y.1, h.mem y hy, rfl⟩)
 simpa using this
theorem Val.len_lt {AL : List Al} {W0 w : World} {D : List (Al × Nat)} (h : Val W0 AL w D) {x : Al} (hx : x ∈ AL) (hn : ∀ y ∈ D, y.1.i ≠ x.i) : D.length < AL.length := by
 have := len_of_sub (x.i :: D.map fun y => y.1.i) (AL.map (·.i)) (by
  rw [List.nodup_cons];refine ⟨fun hm => ?_, h.nd⟩;obtain ⟨y, hy, e⟩ := List.mem_map.1 hm;exact hn y hy e) (fun z hz => by
  rcases List.mem_cons.1 hz with rfl | hz
  ·exact List.mem_map.2 ⟨x, hx, rfl⟩
  ·obtain ⟨y, hy, rfl⟩ := List.mem_map.1 hz
   exact List.mem_map.2 ⟨y.1, h.mem y hy, rfl⟩)
 simp at this;omega
theorem Val.snoc {AL : List Al} {W0 w : World} {D : List (Al × Nat)} (h : Val W0 AL w D) {x : Al} (hx : x ∈ AL) (hn : ∀ y ∈ D, y.1.i ≠ x.i) (hB : Ext W0 w) :
  Val W0 AL (w.alloc (.cells x.cs x.t)) (D ++ [(x, w.heap.size)]) := by
 refine ⟨fun y hy => ?_, ?_, ?_, fun y hy => ?_, fun y hy => ?_⟩
 ·rcases List.mem_append.1 hy with hy | hy
  ·exact h.mem y hy
  ·rw [List.mem_singleton.1 hy]; exact hx
 ·rw [List.map_append, List.nodup_append]
  refine ⟨h.nd, by simp, fun a ha b hb => ?_⟩;obtain ⟨y, hy, rfl⟩ := List.mem_map.1 ha;simp at hb;subst hb;exact hn y hy
 ·rw [List.map_append, List.nodup_append]
  refine ⟨h.ng, by simp, fun a ha b hb => ?_⟩;obtain ⟨y, hy, rfl⟩ := List.mem_map.1 ha;simp at hb;subst hb;exact Nat.ne_of_lt (h.box y hy).lt
 ·rcases List.mem_append.1 hy with hy | hy
  ·exact (h.box y hy).ext ((Ext.refl w).alloc _)
  ·rw [List.mem_singleton.1 hy]; exact Box.new w _ _
 ·rcases List.mem_append.1 hy with hy | hy
  ·exact h.ge y hy
  ·rw [List.mem_singleton.1 hy]; exact hB.size
theorem lays_snoc (a : Act) (D : List (Al × Nat)) (y : Al × Nat) : lays a (D ++ [y]) = lay (lays a D) y := by simp [lays]
theorem marks_snoc (L : Array Bool) (D : List (Al × Nat)) (y : Al × Nat) : marks L (D ++ [y]) = mark (marks L D) y := by simp [marks]
theorem lays_put : ∀ (D : List (Al × Nat)) (a : Act) (d : Option Tmp) (v : Value), (∀ y ∈ D, d ≠ some y.1.d) -> lays (a.put d v) D = (lays a D).put d v
 | [], _, _, _, _ => rfl
 | y :: D, a, d, v, h => by
  show lays (lay (a.put d v) y) D = (lays (lay a y) D).put d v
  rw [<- lays_put D (lay a y) d v (fun z hz => h z (List.mem_cons_of_mem _ hz))];unfold lay;rw [Act.put_comm a v _ (fun e he he' => h y List.mem_cons_self (he.trans he'.symm))]
theorem marks_set : ∀ (D : List (Al × Nat)) (L : Array Bool) (i : Nat), (∀ y ∈ D, y.1.i ≠ i) -> marks (L.setIfInBounds i true) D = (marks L D).setIfInBounds i true
 | [], _, _, _ => rfl
 | y :: D, L, i, h => by
  show marks (mark (L.setIfInBounds i true) y) D = (marks (mark L y) D).setIfInBounds i true
  rw [<- marks_set D (mark L y) i (fun z hz => h z (List.mem_cons_of_mem _ hz))];unfold mark;rw [Array.setIfInBounds_comm _ _ (Ne.symm (h y List.mem_cons_self))]
theorem marks_un : ∀ (D : List (Al × Nat)) (L : Array Bool) (j : Nat), (marks L D).getD j true = false -> L.getD j true = false /\ ∀ y ∈ D, y.1.i ≠ j
 | [], _, _, h => ⟨h, fun _ hy => by cases hy⟩
 | y :: D, L, j, h => by
  obtain ⟨h1, h2⟩ := marks_un D (mark L y) j h
  have hne : y.1.i ≠ j := by
   rintro rfl;unfold mark at h1
   by_cases hl : y.1.i < L.size
   ·simp [hl] at h1
   ·simp [hl] at h1
  refine ⟨by rw [<- getD_set_ne true hne]; exact h1, fun z hz => ?_⟩
  rcases List.mem_cons.1 hz with rfl | hz
  ·exact hne
  ·exact h2 z hz
section
variable {P : Program} {ops : Array Oper} {Q : Exit -> Act -> World -> Prop} {md : Region.Mode} {S : World -> Prop} {W0 : World}
def IsAl (P : Program) (ops : Array Oper) (x : Al) : Prop := ∃ o, ops[x.i]? = some o /\ o.dst = some x.d /\ o.guard = none /\ ∀ (a : Act) (w : World), (execOp a.eval o).run P w = .ok (.value (.pointer (some ⟨w.heap.size, 0, none⟩))) (w.alloc (.cells x.cs x.t))
def QStill (Q : Exit -> Act -> World -> Prop) : Prop := ∀ c (a : Act) (d : Tmp) v w, Q (.panic c) (a.put (some d) v) w ↔ Q (.panic c) a w
theorem QStill.put (h : QStill Q) (c) (a : Act) (d : Option Tmp) (v) (w) : Q (.panic c) (a.put d v) w ↔ Q (.panic c) a w := by
 cases d with
 | none => exact Iff.rfl
 | some d => exact h c a d v w
def Late (P : Program) (md : Region.Mode) (ops : Array Oper) (Q : Exit -> Act -> World -> Prop) (W0 : World) (AL : List Al) (n : Nat) (L : Array Bool) (a : Act) (w : World) : Prop :=
 ∀ w', Ext w w' -> Ext W0 w' -> ∀ D, Val W0 AL w' D -> ∀ f, n + AL.length = f + D.length -> wpAnyH P md ops Q (Ext W0) f (marks L D) (lays a D) w'
theorem Late.start {AL : List Al} {n f : Nat} {L : Array Bool} {a : Act} {w : World} (h : Late P md ops Q W0 AL n L a w) (hS : Ext W0 w) (hf : n + AL.length = f) : wpAnyH P md ops Q (Ext W0) f L a w :=
 h w (Ext.refl w) hS [] Val.nil f (by simpa using hf)
theorem Late.start1 {x : Al} {n f : Nat} {L : Array Bool} {a : Act} {w : World} (hx : IsAl P ops x) (hQ : QStill Q) (hS : Ext W0 w) (hf : n + 1 = f)
  (h : (∀ z ∈ [x], IsAl P ops z) -> QStill Q -> Late P md ops Q W0 [x] n L a w) : wpAnyH P md ops Q (Ext W0) f L a w :=
 Late.start (h (by simpa using hx) hQ) hS hf
theorem Late.start2 {x y : Al} {n f : Nat} {L : Array Bool} {a : Act} {w : World} (hx : IsAl P ops x) (hy : IsAl P ops y) (hQ : QStill Q) (hS : Ext W0 w) (hf : n + 2 = f)
  (h : (∀ z ∈ [x, y], IsAl P ops z) -> QStill Q -> Late P md ops Q W0 [x, y] n L a w) : wpAnyH P md ops Q (Ext W0) f L a w :=
 Late.start (h (by simp [hx, hy]) hQ) hS hf
theorem ready_marks {j : Nat} : ∀ (D : List (Al × Nat)) (L : Array Bool), j ∈ Region.ready md ops L -> (∀ y ∈ D, y.1.i ≠ j) -> j ∈ Region.ready md ops (marks L D)
 | [], _, h, _ => h
 | y :: D, L, h, hn => ready_marks D (mark L y) (ready_mono h (Ne.symm (hn y List.mem_cons_self))) (fun z hz => hn z (List.mem_cons_of_mem _ hz))
def sep (ops : Array Oper) (AL : List Al) (i : Nat) (o : Oper) : Bool := AL.all fun x => x.i != i && !(o.looksAt ops).contains x.d && o.dst != some x.d
theorem sep_spec {AL : List Al} {i : Nat} {o : Oper} (h : sep ops AL i o = true) {x : Al} (hx : x ∈ AL) : x.i ≠ i /\ x.d ∉ o.looksAt ops /\ o.dst ≠ some x.d := by
 have := List.all_eq_true.1 h x hx
 simpa [and_assoc] using this
theorem yields_lays {o : Oper} {v : Value} (hs : ∀ cs b, o.op ≠ .select cs b) : ∀ (D : List (Al × Nat)) (a : Act), (∀ y ∈ D, y.1.d ∉ o.looksAt ops) -> YieldsIf P ops S o v a -> YieldsIf P ops S o v (lays a D)
 | [], _, _, h => h
 | y :: D, a, hn, h => yields_lays hs D (lay a y) (fun z hz => hn z (List.mem_cons_of_mem _ hz)) (by
   have hd : ∀ d, some y.1.d = some d -> d ∉ o.looksAt ops := fun d he => by injection he with he; subst he; exact hn y List.mem_cons_self
   exact h.of_same (execOp_put o hs a _ _ hd) (wanted_put o a _ _ hd))
theorem Late.take {AL : List Al} {n i : Nat} {oi : Oper} {d : Option Tmp} {v : Value} {L : Array Bool} {a : Act} {w : World} (hi : ops[i]? = some oi) (hd : oi.dst = d) (hs : Region.noSelect ops = true) (hf : Region.free md ops L i = true)
  (hr : (Region.ready md ops L).contains i = true) (hp : sep ops AL i oi = true) (hQ : QStill Q) (hy : YieldsIf P ops (Ext W0) oi v a)
  (h : Late P md ops Q W0 AL n (L.setIfInBounds i true) (a.put d v) w) : Late P md ops Q W0 AL (n + 1) L a w := by
 subst hd;intro w' e hS D hD f hl;have hlen := hD.len;obtain ⟨f, rfl⟩ : ∃ k, f = k + 1 := ⟨f - 1, by omega⟩;have hsep := fun y (hy : y ∈ D) => sep_spec hp (hD.mem y hy)
 refine wpAnyH_first hi (Region.noSelect_spec hs) (fun c a w => (hQ.put c a _ _ w).1) f _ _ w' ?_ (ready_marks D L (by simpa using hr) (fun y hy => (hsep y hy).1)) (yields_lays (fun cs b => Region.noSelect_spec hs i oi cs b hi) D a (fun y hy => (hsep y hy).2.1) hy) hS ?_
 ·intro j oj hj hne hun hno
  exact Region.free_spec hi hf j oj hj hne (marks_un D L j hun).1 hno
 ·have := h w' e hS D hD f (by omega)
  rwa [marks_set D L i (fun y hy => (hsep y hy).1), lays_put D a _ _ (fun y hy => (hsep y hy).2.2)] at this
theorem Late.tk {AL : List Al} {n i : Nat} {oi : Oper} {d : Option Tmp} {v : Value} {L : Array Bool} {a : Act} {w : World} (hi : ops[i]? = some oi) (hd : oi.dst = d) (hQ : QStill Q) (hy : YieldsIf P ops (Ext W0) oi v a) (h : Late P md ops Q W0 AL n (L.setIfInBounds i true) (a.put d v) w) (hs : Region.noSelect ops = true := by kernel_rfl) (hf : Region.free md ops L i = true := by kernel_rfl) (hr : (Region.ready md ops L).contains i = true := by kernel_rfl) (hp : sep ops AL i oi = true := by kernel_rfl) : Late P md ops Q W0 AL (n + 1) L a w := Late.take hi hd hs hf hr hp hQ hy h
theorem Late.t {AL : List Al} {n : Nat} {oi : Oper} {L : Array Bool} {a : Act} {w : World} (i : Nat) (d : Tmp) (v : Value) (hQ : QStill Q) (hy : ∀ w, Ext W0 w -> (execOp a.eval oi).run P w = .ok (.value v) w) (h : Late P md ops Q W0 AL n (L.setIfInBounds i true) (a.put (some d) v) w) (hi : ops[i]? = some oi := by exact rfl) (hd : oi.dst = some d := by exact rfl) (hw : Region.wanted oi (yielded ops a.tmps) = true := by exact rfl) (hs : Region.noSelect ops = true := by kernel_rfl) (hf : Region.free md ops L i = true := by kernel_rfl) (hr : (Region.ready md ops L).contains i = true := by kernel_rfl) (hp : sep ops AL i oi = true := by kernel_rfl) : Late P md ops Q W0 AL (n + 1) L a w := Late.take hi hd hs hf hr hp hQ (Or.inl ⟨hw, hy⟩) h
theorem Late.ta {AL : List Al} {n : Nat} {oi : Oper} {L : Array Bool} {a : Act} {w : World} (i : Nat) (d : Tmp) (v : Value) (hQ : QStill Q) (hy : ∀ w, Ext W0 w -> (execOp a.eval oi).run P w = .ok (.value v) w) (h : Late P md ops Q W0 AL n (L.setIfInBounds i true) (a.put (some d) v) w) (hi : ops[i]? = some oi := by exact rfl) (hd : oi.dst = some d := by exact rfl) (hw : Region.wanted oi (yielded ops a.tmps) = true := by exact rfl) (hs : Region.noSelect ops = true := by as_aux_lemma => kernel_rfl) (hf : Region.free md ops L i = true := by as_aux_lemma => kernel_rfl) (hr : (Region.ready md ops L).contains i = true := by as_aux_lemma => kernel_rfl) (hp : sep ops AL i oi = true := by as_aux_lemma => kernel_rfl) : Late P md ops Q W0 AL (n + 1) L a w := Late.take hi hd hs hf hr hp hQ (Or.inl ⟨hw, hy⟩) h
theorem Late.u {AL : List Al} {n : Nat} {oi : Oper} {v : Value} {L : Array Bool} {a : Act} {w : World} (i : Nat) (d : Tmp) (hQ : QStill Q) (h : Late P md ops Q W0 AL n (L.setIfInBounds i true) (a.put (some d) v) w) (hi : ops[i]? = some oi := by exact rfl) (hd : oi.dst = some d := by exact rfl) (hw : Region.wanted oi (yielded ops a.tmps) = true := by exact rfl) (hs : Region.noSelect ops = true := by kernel_rfl) (hf : Region.free md ops L i = true := by kernel_rfl) (hr : (Region.ready md ops L).contains i = true := by kernel_rfl) (hp : sep ops AL i oi = true := by kernel_rfl) (hy : ∀ w, Ext W0 w -> (execOp a.eval oi).run P w = .ok (.value v) w := by intro w hSw; go_simp; try rfl) : Late P md ops Q W0 AL (n + 1) L a w := Late.take hi hd hs hf hr hp hQ (Or.inl ⟨hw, hy⟩) h
theorem Late.ua {AL : List Al} {n : Nat} {oi : Oper} {v : Value} {L : Array Bool} {a : Act} {w : World} (i : Nat) (d : Tmp) (hQ : QStill Q) (h : Late P md ops Q W0 AL n (L.setIfInBounds i true) (a.put (some d) v) w) (hi : ops[i]? = some oi := by exact rfl) (hd : oi.dst = some d := by exact rfl) (hw : Region.wanted oi (yielded ops a.tmps) = true := by exact rfl) (hs : Region.noSelect ops = true := by as_aux_lemma => kernel_rfl) (hf : Region.free md ops L i = true := by as_aux_lemma => kernel_rfl) (hr : (Region.ready md ops L).contains i = true := by as_aux_lemma => kernel_rfl) (hp : sep ops AL i oi = true := by as_aux_lemma => kernel_rfl) (hy : ∀ w, Ext W0 w -> (execOp a.eval oi).run P w = .ok (.value v) w := by intro w hSw; go_simp; try rfl) : Late P md ops Q W0 AL (n + 1) L a w := Late.take hi hd hs hf hr hp hQ (Or.inl ⟨hw, hy⟩) h
theorem wpOp_lay {j : Nat} {oj : Oper} {d : Tmp} {v : Value} (hj : ops[j]? = some oj) (hs : ∀ cs b, oj.op ≠ .select cs b) (h1 : d ∉ oj.looksAt ops) (h2 : oj.dst ≠ some d) (hQ : QStill Q)
  {K : Act -> World -> Prop} {a : Act} {w : World} (h : wpOp P ops Q j (fun a' w' => K (a'.put (some d) v) w') a w) : wpOp P ops Q j K (a.put (some d) v) w := by
 have hd : ∀ e, some d = some e -> e ∉ oj.looksAt ops := fun e he => by injection he with he; subst he; exact h1
 have hc : ∀ e, some d = some e -> oj.dst ≠ some e := fun e he => by injection he with he; subst he; exact h2
 have eqw := wanted_put oj a (some d) v hd;have eqe := execOp_put oj hs a (some d) v hd;unfold wpOp at h ⊢;simp only [hj] at h ⊢;rw [eqw]
 split
 ·rename_i hw
  rw [if_pos hw] at h
  rcases h with h | ⟨hasks, hlets⟩
  ·left
   unfold Oper.wp at h ⊢;rw [eqe]
   cases hr : (execOp a.eval oj).run P w with
   | ok x w' =>
    rw [hr] at h
    cases x <;> simp only [Oper.upon] at h ⊢
    case value u => rw [Act.put_comm a v u hc]; exact h
    case skip => rw [Act.put_comm a v undef hc]; exact h
    case defer q => rw [Act.put_defers, Act.put_comm _ v undef hc]; exact h
    case row row args => exact Rows.mono h fun u w'' he => by rw [Act.put_comm a v u hc]; exact he
    case enter g args =>
     refine Calls.mono h fun e w'' he => ?_
     cases e with
     | returned u => simp only at he ⊢; rw [Act.put_comm a v u hc]; exact he
     | panicked c => exact (hQ _ _ _ _ _).2 he
     | outgrown => exact he
   | halt x w' =>
    rw [hr] at h
    cases x <;> simp only [Oper.upon] at h ⊢
    exact (hQ _ _ _ _ _).2 h
  ·right
   refine ⟨?_, hlets⟩;unfold Oper.asks at hasks ⊢;rw [eqe];exact hasks
 ·rename_i hw
  rw [if_neg hw] at h;rw [Act.put_comm a v undef hc];exact h
theorem wpOp_lays {j : Nat} {oj : Oper} (hj : ops[j]? = some oj) (hs : ∀ cs b, oj.op ≠ .select cs b) (hQ : QStill Q) {w : World} : ∀ (D : List (Al × Nat)) (K : Act -> World -> Prop) (a : Act), (∀ y ∈ D, y.1.d ∉ oj.looksAt ops /\ oj.dst ≠ some y.1.d) ->
  wpOp P ops Q j (fun a' w' => K (lays a' D) w') a w -> wpOp P ops Q j K (lays a D) w
 | [], _, _, _, h => h
 | y :: D, K, a, hn, h =>
  wpOp_lays hj hs hQ D K (lay a y) (fun z hz => hn z (List.mem_cons_of_mem _ hz)) (wpOp_lay (K := fun a' w' => K (lays a' D) w') hj hs (hn y List.mem_cons_self).1 (hn y List.mem_cons_self).2 hQ h)
theorem wpOp_alloc {x : Al} {K : Act -> World -> Prop} {a : Act} {w : World} (hx : IsAl P ops x) (h : K (lay a (x, w.heap.size)) (w.alloc (.cells x.cs x.t))) : wpOp P ops Q x.i K a w := by
 obtain ⟨o, ho, hd, hg, hrun⟩ := hx;unfold wpOp;simp only [ho];have hw : Region.wanted o (yielded ops a.tmps) = true := by simp [Region.wanted, hg]
 rw [if_pos hw]
 left
 unfold Oper.wp;rw [hrun, Oper.upon_value, hd];exact h
def allMarks (L : Array Bool) (AL : List Al) : Array Bool := AL.foldl (fun L x => L.setIfInBounds x.i true) L
theorem allMarks_on : ∀ (AL : List Al) (L : Array Bool) (k : Nat), L.getD k false = true -> (allMarks L AL).getD k false = true
 | [], _, _, h => h
 | _ :: AL, _, k, h => allMarks_on AL _ k (getD_set_true h)
theorem allMarks_at : ∀ (AL : List Al) (L : Array Bool) (x : Al), x ∈ AL -> x.i < L.size -> (allMarks L AL).getD x.i false = true
 | _ :: AL, _, x, h, hl => by
  rcases List.mem_cons.1 h with rfl | h
  ·exact allMarks_on AL _ _ (by simp [hl])
  ·exact allMarks_at AL _ x h (by simpa using hl)
theorem allMarks_off : ∀ (AL : List Al) (L : Array Bool) (k : Nat), L.getD k true = false -> (∀ x ∈ AL, x.i ≠ k) -> (allMarks L AL).getD k true = false
 | [], _, _, h, _ => h
 | x :: AL, L, k, h, hn => allMarks_off AL _ k (by rw [getD_set_ne true (hn x List.mem_cons_self)]; exact h) (fun z hz => hn z (List.mem_cons_of_mem _ hz))
theorem marks_on : ∀ (D : List (Al × Nat)) (L : Array Bool) (k : Nat), (marks L D).getD k false = true -> L.getD k false = true \/ ∃ y ∈ D, y.1.i = k /\ k < L.size
 | [], _, _, h => .inl h
 | y :: D, L, k, h => by
  rcases marks_on D (mark L y) k h with h | ⟨z, hz, e, hl⟩
  ·by_cases hk : y.1.i = k
   ·right
    refine ⟨y, List.mem_cons_self, hk, ?_⟩;unfold mark at h
    rcases Nat.lt_or_ge k L.size with hl | hl
    ·exact hl
    ·simp [hl] at h
   ·left
    unfold mark at h
    rwa [getD_set_ne false hk] at h
  ·exact .inr ⟨z, List.mem_cons_of_mem _ hz, e, by simpa [mark] using hl⟩
theorem ready_all {AL : List Al} {L : Array Bool} {j : Nat} {D : List (Al × Nat)} (hD : ∀ y ∈ D, y.1 ∈ AL) (h : j ∈ Region.ready md ops (marks L D)) (hj : ∀ x ∈ AL, x.i ≠ j) : j ∈ Region.ready md ops (allMarks L AL) := by
 rw [mem_ready] at h ⊢;obtain ⟨h0, o, ho, hall⟩ := h;refine ⟨allMarks_off AL L j (marks_un D L j h0).1 hj, o, ho, fun e he hb => ?_⟩
 rcases marks_on D L e.on (hall e he hb) with h | ⟨y, hy, hyi, hl⟩
 ·exact allMarks_on AL L _ h
 ·rw [<- hyi]; exact allMarks_at AL L y.1 (hD y hy) (by rw [hyi]; exact hl)
theorem Late.call {AL : List Al} {n i : Nat} {o : Oper} {L : Array Bool} {a : Act} {w : World} (ho : ops[i]? = some o) (hs : Region.noSelect ops = true) (hal : ∀ x ∈ AL, IsAl P ops x)
  (hr : Region.ready md ops (allMarks L AL) = [i]) (hri : (Region.ready md ops L).contains i = true) (hp : sep ops AL i o = true) (hQ : QStill Q)
  (h : ∀ w', Ext w w' -> Ext W0 w' -> ∀ K : Act -> World -> Prop, Shut (∀ a' w'', Ext w' w'' -> Late P md ops Q W0 AL n (L.setIfInBounds i true) a' w'' -> K a' w'') -> if Region.wanted o (yielded ops a.tmps) = true then Oper.wp P o a w' K Q else K (a.put o.dst undef) w') :
  Late P md ops Q W0 AL (n + 1) L a w := by
 have go : ∀ (k : Nat) w', Ext w w' -> Ext W0 w' -> ∀ D, Val W0 AL w' D -> AL.length <= D.length + k -> ∀ f, n + 1 + AL.length = f + D.length -> wpAnyH P md ops Q (Ext W0) f (marks L D) (lays a D) w' := by
  intro k
  induction k with
  | zero =>
   intro w' e hS D hD hk f hl;have hlen := hD.len;obtain ⟨f, rfl⟩ : ∃ k, f = k + 1 := ⟨f - 1, by omega⟩;have hsep := fun y (hy : y ∈ D) => sep_spec hp (hD.mem y hy)
   have hir : i ∈ Region.ready md ops (marks L D) := ready_marks D L (by simpa using hri) (fun y hy => (hsep y hy).1);refine ⟨(fun h0 => by rw [h0] at hir; cases hir), fun j hj => ?_⟩
   have hji : j = i := by
    by_cases hx : ∃ x ∈ AL, x.i = j
    ·obtain ⟨x, hx, rfl⟩ := hx
     have hun := (marks_un D L x.i (mem_ready.1 hj).1).2;have := hD.len_lt hx hun;omega
    ·have := ready_all hD.mem hj (fun x hx' e => hx ⟨x, hx', e⟩)
     rw [hr] at this
     simpa using this
   subst hji;refine wpOp_lays ho (fun cs b => Region.noSelect_spec hs j o cs b ho) hQ D _ a (fun y hy => (hsep y hy).2) (wpOp_step ho fun K' hK => h w' e hS K' (fun a' w'' e' hL => hK a' w'' ?_));have hS' := hS.trans e';refine ⟨hS', ?_⟩;have := hL w'' (Ext.refl _) hS' D (hD.ext e') f (by omega)
   rwa [marks_set D L j (fun y hy => (hsep y hy).1)] at this
  | succ k ih =>
   intro w' e hS D hD hk f hl;have hlen := hD.len;obtain ⟨f, rfl⟩ : ∃ k, f = k + 1 := ⟨f - 1, by omega⟩;have hsep := fun y (hy : y ∈ D) => sep_spec hp (hD.mem y hy)
   have hir : i ∈ Region.ready md ops (marks L D) := ready_marks D L (by simpa using hri) (fun y hy => (hsep y hy).1);refine ⟨(fun h0 => by rw [h0] at hir; cases hir), fun j hj => ?_⟩
   by_cases hx : ∃ x ∈ AL, x.i = j
   ·obtain ⟨x, hx, rfl⟩ := hx
    have hun := (marks_un D L x.i (mem_ready.1 hj).1).2;refine wpOp_alloc (hal x hx) ?_;have e1 := (Ext.refl w').alloc (.cells x.cs x.t);have hS1 := hS.trans e1;refine ⟨hS1, ?_⟩;have := ih (w'.alloc (.cells x.cs x.t)) (e.trans e1) hS1 (D ++ [(x, w'.heap.size)]) (hD.snoc hx hun hS) (by simp; omega) f (by simp; omega)
    rwa [marks_snoc, lays_snoc] at this
   ·have := ready_all hD.mem hj (fun x hx' e => hx ⟨x, hx', e⟩)
    rw [hr] at this;have hji : j = i := by simpa using this
    subst hji;refine wpOp_lays ho (fun cs b => Region.noSelect_spec hs j o cs b ho) hQ D _ a (fun y hy => (hsep y hy).2) (wpOp_step ho fun K' hK => h w' e hS K' (fun a' w'' e' hL => hK a' w'' ?_));have hS' := hS.trans e';refine ⟨hS', ?_⟩;have := hL w'' (Ext.refl _) hS' D (hD.ext e') f (by omega)
    rwa [marks_set D L j (fun y hy => (hsep y hy).1)] at this
 exact fun w' e hS D hD f hl => go AL.length w' e hS D hD (by omega) f hl
theorem Late.cl {AL : List Al} {n i : Nat} {o : Oper} {L : Array Bool} {a : Act} {w : World} (ho : ops[i]? = some o) (hal : ∀ x ∈ AL, IsAl P ops x) (hQ : QStill Q) (h : ∀ w', Ext w w' -> Ext W0 w' -> ∀ K : Act -> World -> Prop, Shut (∀ a' w'', Ext w' w'' -> Late P md ops Q W0 AL n (L.setIfInBounds i true) a' w'' -> K a' w'') -> if Region.wanted o (yielded ops a.tmps) = true then Oper.wp P o a w' K Q else K (a.put o.dst undef) w') (hs : Region.noSelect ops = true := by kernel_rfl) (hr : Region.ready md ops (allMarks L AL) = [i] := by kernel_rfl) (hri : (Region.ready md ops L).contains i = true := by kernel_rfl) (hp : sep ops AL i o = true := by kernel_rfl) : Late P md ops Q W0 AL (n + 1) L a w := Late.call ho hs hal hr hri hp hQ h
theorem Late.cla {AL : List Al} {n i : Nat} {o : Oper} {L : Array Bool} {a : Act} {w : World} (ho : ops[i]? = some o) (hal : ∀ x ∈ AL, IsAl P ops x) (hQ : QStill Q) (h : ∀ w', Ext w w' -> Ext W0 w' -> ∀ K : Act -> World -> Prop, Shut (∀ a' w'', Ext w' w'' -> Late P md ops Q W0 AL n (L.setIfInBounds i true) a' w'' -> K a' w'') -> if Region.wanted o (yielded ops a.tmps) = true then Oper.wp P o a w' K Q else K (a.put o.dst undef) w') (hs : Region.noSelect ops = true := by as_aux_lemma => kernel_rfl) (hr : Region.ready md ops (allMarks L AL) = [i] := by as_aux_lemma => kernel_rfl) (hri : (Region.ready md ops L).contains i = true := by as_aux_lemma => kernel_rfl) (hp : sep ops AL i o = true := by as_aux_lemma => kernel_rfl) : Late P md ops Q W0 AL (n + 1) L a w := Late.call ho hs hal hr hri hp hQ h
theorem Late.finish {AL : List Al} {n : Nat} {L : Array Bool} {a : Act} {w : World} (hnd : (AL.map (·.i)).Nodup) (hal : ∀ x ∈ AL, IsAl P ops x)
  (hr : ∀ x ∈ AL, ∀ j ∈ Region.ready md ops (allMarks L (AL.filter fun y => y.i != x.i)), j = x.i) (hrx : AL.all (fun x => (Region.ready md ops L).contains x.i) = true)
  (h : ∀ w', Ext w w' -> Ext W0 w' -> ∀ D, Val W0 AL w' D -> D.length = AL.length -> wpAnyH P md ops Q (Ext W0) n (marks L D) (lays a D) w') :
  Late P md ops Q W0 AL n L a w := by
 have go : ∀ (k : Nat) w', Ext w w' -> Ext W0 w' -> ∀ D, Val W0 AL w' D -> AL.length <= D.length + k -> ∀ f, n + AL.length = f + D.length -> wpAnyH P md ops Q (Ext W0) f (marks L D) (lays a D) w' := by
  intro k
  induction k with
  | zero =>
   intro w' e hS D hD hk f hl;have hlen := hD.len;obtain rfl : n = f := by omega
   exact h w' e hS D hD (by omega)
  | succ k ih =>
   intro w' e hS D hD hk f hl;have hlen := hD.len
   by_cases hfull : D.length = AL.length
   ·obtain rfl : n = f := by omega
    exact h w' e hS D hD hfull
   obtain ⟨f, rfl⟩ : ∃ k, f = k + 1 := ⟨f - 1, by omega⟩
   obtain ⟨x, hx, hxD⟩ : ∃ x ∈ AL, ∀ y ∈ D, y.1.i ≠ x.i := by
    refine Decidable.byContradiction fun hno => ?_
    refine hfull (Nat.le_antisymm hlen ?_)
    have := len_of_sub (AL.map (·.i)) (D.map fun y => y.1.i) hnd (fun z hz => by
     obtain ⟨x, hx, rfl⟩ := List.mem_map.1 hz;refine Decidable.byContradiction fun hc => hno ⟨x, hx, fun y hy e => hc (List.mem_map.2 ⟨y, hy, e⟩)⟩)
    simpa using this
   have hxr : x.i ∈ Region.ready md ops (marks L D) := ready_marks D L (by simpa using List.all_eq_true.1 hrx x hx) (fun y hy => hxD y hy);refine ⟨(fun h0 => by rw [h0] at hxr; cases hxr), fun j hj => ?_⟩
   by_cases hz : ∃ z ∈ AL, z.i = j
   ·obtain ⟨z, hz, rfl⟩ := hz
    have hun := (marks_un D L z.i (mem_ready.1 hj).1).2;refine wpOp_alloc (hal z hz) ?_;have e1 := (Ext.refl w').alloc (.cells z.cs z.t);have hS1 := hS.trans e1;refine ⟨hS1, ?_⟩;have := ih (w'.alloc (.cells z.cs z.t)) (e.trans e1) hS1 (D ++ [(z, w'.heap.size)]) (hD.snoc hz hun hS) (by simp; omega) f (by simp; omega)
    rwa [marks_snoc, lays_snoc] at this
   ·have := ready_all (AL := AL.filter fun y => y.i != x.i) (fun y hy => by
     rw [List.mem_filter];exact ⟨hD.mem y hy, by simpa using hxD y hy⟩) hj (fun z hz' e => hz ⟨z, (List.mem_filter.1 hz').1, e⟩)
    exact absurd (hr x hx j this).symm (fun e => hz ⟨x, hx, e⟩)
 exact fun w' e hS D hD f hl => go AL.length w' e hS D hD (by omega) f hl
theorem Late.finish1 {x : Al} {n : Nat} {L : Array Bool} {a : Act} {w : World} (hx : IsAl P ops x) (hr : Region.ready md ops L = [x.i])
  (h : ∀ w' g, Ext w w' -> Ext W0 w' -> W0.heap.size <= g -> Box w' g x.t x.cs -> wpAnyH P md ops Q (Ext W0) n (L.setIfInBounds x.i true) (a.put (some x.d) (.pointer (some ⟨g, 0, none⟩))) w') :
  Late P md ops Q W0 [x] n L a w := by
 refine Late.finish (by simp) (by simpa using hx) ?_ (by simp [hr]) ?_
 ·intro z hz j hj
  rw [List.mem_singleton] at hz;subst hz;simp only [List.filter_cons, bne_self_eq_false, List.filter_nil, allMarks] at hj;rw [if_neg (by simp)] at hj
  simpa [hr] using hj
 ·intro w' e hS D hD hl
  match D, hl with
  | [y], _ =>
   obtain ⟨u, g⟩ := y;have hu := hD.mem (u, g) List.mem_cons_self;simp only [List.mem_singleton] at hu;subst hu;exact h w' g e hS (hD.ge (u, g) List.mem_cons_self) (hD.box (u, g) List.mem_cons_self)
theorem Late.finish2 {x y : Al} {n : Nat} {L : Array Bool} {a : Act} {w : World} (hx : IsAl P ops x) (hy : IsAl P ops y) (hne : x.i ≠ y.i) (hd : x.d ≠ y.d)
  (hrx : Region.ready md ops (L.setIfInBounds y.i true) = [x.i]) (hry : Region.ready md ops (L.setIfInBounds x.i true) = [y.i])
  (hr : ((Region.ready md ops L).contains x.i && (Region.ready md ops L).contains y.i) = true)
  (h : ∀ w' g k, Ext w w' -> Ext W0 w' -> W0.heap.size <= g -> W0.heap.size <= k -> g ≠ k -> Box w' g x.t x.cs -> Box w' k y.t y.cs ->
   wpAnyH P md ops Q (Ext W0) n ((L.setIfInBounds x.i true).setIfInBounds y.i true) ((a.put (some x.d) (.pointer (some ⟨g, 0, none⟩))).put (some y.d) (.pointer (some ⟨k, 0, none⟩))) w') :
  Late P md ops Q W0 [x, y] n L a w := by
 have hne' : (y.i == x.i) = false := by simpa using Ne.symm hne
 have hne2 : (x.i == y.i) = false := by simpa using hne
 refine Late.finish (by simp [hne]) (by simp [hx, hy]) ?_ (by simpa using hr) ?_
 ·intro z hz j hj
  rcases List.mem_cons.1 hz with rfl | hz
  ·simp [bne, hne', allMarks] at hj
   simpa [hrx] using hj
  ·rw [List.mem_singleton] at hz
   subst hz;simp [bne, hne2, allMarks] at hj
   simpa [hry] using hj
 ·intro w' e hS D hD hl
  match D, hl with
  | [(u, g), (v, k)], _ =>
   have hu := hD.mem (u, g) (by simp);have hv := hD.mem (v, k) (by simp);have hnd := hD.nd;have hng := hD.ng;simp only [List.map_cons, List.map_nil, List.nodup_cons, List.mem_singleton, List.not_mem_nil, not_false_eq_true, List.nodup_nil, and_true] at hnd hng;have bu := hD.box (u, g) (by simp);have bv := hD.box (v, k) (by simp);have gu := hD.ge (u, g) (by simp);have gv := hD.ge (v, k) (by simp)
   rcases List.mem_cons.1 hu with rfl | hu
   ·rcases List.mem_cons.1 hv with rfl | hv
    ·exact absurd rfl hnd
    ·rw [List.mem_singleton] at hv
     subst hv;exact h w' g k e hS gu gv hng bu bv
   ·rw [List.mem_singleton] at hu
    subst hu
    rcases List.mem_cons.1 hv with rfl | hv
    ·have := h w' k g e hS gv gu (Ne.symm hng) bv bu
     rw [Act.put_comm a _ _ (fun d h1 h2 => by injection h1 with h1; injection h2 with h2; exact hd (h1.trans h2.symm)), Array.setIfInBounds_comm _ _ hne] at this;exact this
    ·rw [List.mem_singleton] at hv
     subst hv;exact absurd rfl hnd
theorem Late.start0 {n : Nat} {L : Array Bool} {a : Act} {w : World} (hQ : QStill Q) (hS : Ext W0 w) (h : (∀ z ∈ ([] : List Al), IsAl P ops z) -> QStill Q -> Late P md ops Q W0 [] n L a w) : wpAnyH P md ops Q (Ext W0) n L a w :=
 Late.start (h (fun _ hz => by cases hz) hQ) hS rfl
theorem Late.s0 {n : Nat} {L : Array Bool} {a : Act} {w : World} (hS : Ext W0 w) (h : (∀ z ∈ ([] : List Al), IsAl P ops z) -> QStill Q -> Late P md ops Q W0 [] n L a w) (hQ : QStill Q := by exact (fun _ _ _ _ _ => ⟨fun h => h, fun h => h⟩)) : wpAnyH P md ops Q (Ext W0) n L a w := Late.start0 hQ hS h
theorem Late.done0 {n : Nat} {L : Array Bool} {a : Act} {w : World} (hr : Region.ready md ops L = []) (h : ∀ w', Ext w w' -> Ext W0 w' -> Q .normal a w') : Late P md ops Q W0 [] n L a w := by
 intro w' e hS D hD f _
 match D with
 | [] => exact wpAnyH_done hr (h w' e hS) f
 | y :: D => exact absurd (hD.mem y List.mem_cons_self) (by simp)
theorem Late.d0 {n : Nat} {L : Array Bool} {a : Act} {w : World} (h : ∀ w', Ext w w' -> Ext W0 w' -> Q .normal a w') (hr : Region.ready md ops L = [] := by kernel_rfl) : Late P md ops Q W0 [] n L a w := Late.done0 hr h
theorem Late.d0a {n : Nat} {L : Array Bool} {a : Act} {w : World} (h : ∀ w', Ext w w' -> Ext W0 w' -> Q .normal a w') (hr : Region.ready md ops L = [] := by as_aux_lemma => kernel_rfl) : Late P md ops Q W0 [] n L a w := Late.done0 hr h
theorem any_world (F : World -> Prop) {S : World -> Prop} {n : Nat} {L : Array Bool} {a : Act} {w : World} (h : F w) (k : ∀ V, F V -> wpAnyH P md ops Q S n L a V) : wpAnyH P md ops Q S n L a w := k w h
end
theorem ret_slice {A : Option Addr} {n m c : Nat} (h : n = m) : Ending.returned (.slice A n c) = .returned (.slice A m c) := by rw [h]
theorem quiet_add_left {P : Program} {f : FuncId} {args : Array Value} {w : World} {a n : Nat} {v : Value}
  (h : Calls P f args (w.drewN (a + n)) fun e w' => e = .returned v /\ w.drewN (a + n) = w') :
  Calls P f args (w.drewN (a + n)) fun e w'' => e = .returned v /\ ∃ m, w'' = w.drewN (a + m) :=
 h.mono fun _ _ ⟨he, hm⟩ => ⟨he, n, hm.symm⟩
theorem quiet_left {P : Program} {f : FuncId} {args : Array Value} {w : World} {n : Nat} {v : Value}
  (h : Calls P f args (w.drewN n) fun e w' => e = .returned v /\ w.drewN n = w') : Calls P f args (w.drewN n) fun e w'' => e = .returned v /\ ∃ m, w'' = w.drewN m :=
 h.mono fun _ _ ⟨he, hm⟩ => ⟨he, n, hm.symm⟩
theorem ret_int {k : IntKind} {a b : Int} (h : a = b) : Ending.returned (.int k a) = .returned (.int k b) := by rw [h]
section
variable (A : Option Addr) (c : Nat) (xs : List Nat) (w : World)
theorem ref_trim (hr : Rd w A xs) (hc : xs.length <= c) (hm : c <= maxLen) :
  Calls Tryz.prog 93 #[.slice A xs.length c] w fun e w' => e = .returned (.slice A (trimL xs).length c) /\ w = w' := by
 unfold maxLen at hm
 go_enter Tryz.func93, Tryz.ntmps93
 go_wp2
 go_loop [0] (fun m => ∃ k : Nat, k <= xs.length /\ m = .slice A k c /\ trimL (xs.take k) = trimL xs) (fun m => lenV m)
 case atStart => exact ⟨xs.length, Nat.le_refl _, rfl, by simp⟩
 case round =>
  obtain ⟨k, hk, rfl, hx⟩ := hrel;have hx' := Lib.hid hx;clear hx
  by_cases h0 : k = 0
  ·subst h0
   go_wp2
   go_ret
   exact ⟨ret_slice (by have := hx'.out; rw [<- this]; rfl), rfl⟩
  ·obtain ⟨j, rfl⟩ : ∃ j, k = j + 1 := ⟨k - 1, by omega⟩
   obtain ⟨b, off, rfl, hb, hc1⟩ := hr.at_ (i := j) (by omega);have hz' := Lib.hid (trimL_zero xs j (by omega));have hp' := Lib.hid (trimL_pos xs j (by omega))
   by_cases hq : xs[j] = 0
   ·have ht : (((xs[j] : Nat) : Int) == 0) = true := by simp [hq]
    have Hq := Lib.hid hq;clear hq
    go_wp2
    exact ⟨⟨j, by omega, rfl, by rw [<- hz'.out Hq.out, hx'.out]⟩, by simp [lenV]⟩
   ·have ht : (((xs[j] : Nat) : Int) == 0) = false := by simp [hq]
    have Hq := Lib.hid hq;clear hq
    go_wp2
    go_ret
    exact ⟨ret_slice (by rw [<- hx'.out, hp'.out Hq.out, List.length_take]; omega), rfl⟩
theorem int_trim (hr : Rd w A xs) (hc : xs.length <= c) (hm : c <= maxLen) :
  Calls Tryz.prog 114 #[.slice A xs.length c] w fun e w' => e = .returned (.slice A (trimL xs).length c) /\ w = w' := by
 unfold maxLen at hm
 go_enter Tryz.func114, Tryz.ntmps114
 go_wp2
 go_loop [3] (fun m => ∃ k : Nat, k <= xs.length /\ m = .int .i64 (k : Int) /\ trimL (xs.take k) = trimL xs) (fun m => (intOf m).toNat)
 case atStart => exact ⟨xs.length, Nat.le_refl _, rfl, by simp⟩
 case round =>
  obtain ⟨k, hk, rfl, hx⟩ := hrel;have hx' := Lib.hid hx;clear hx
  by_cases h0 : k = 0
  ·subst h0
   go_wp2
   go_ret
   exact ⟨ret_slice (by have := hx'.out; rw [<- this]; rfl), rfl⟩
  ·obtain ⟨j, rfl⟩ : ∃ j, k = j + 1 := ⟨k - 1, by omega⟩
   obtain ⟨b, off, rfl, hb, hc1⟩ := hr.at_ (i := j) (by omega);have hz' := Lib.hid (trimL_zero xs j (by omega));have hp' := Lib.hid (trimL_pos xs j (by omega))
   by_cases hq : xs[j] = 0
   ·have ht : (((xs[j] : Nat) : Int) == 0) = true := by simp [hq]
    have Hq := Lib.hid hq;clear hq
    go_wp2
    go_round
    case rel => exact ⟨j, by omega, by go_num, by rw [<- hz'.out Hq.out, hx'.out]⟩
    case measure => simp [intOf]
   ·have ht : (((xs[j] : Nat) : Int) == 0) = false := by simp [hq]
    have Hq := Lib.hid hq;clear hq
    go_wp2
    go_ret
    exact ⟨ret_slice (by rw [<- hx'.out, hp'.out Hq.out, List.length_take]; omega), rfl⟩
end
theorem ref_trimN {A : Option Addr} {c n : Nat} {xs : List Nat} {w : World} (hn : xs.length = n) (hr : Rd w A xs) (hc : n <= c) (hm : c <= maxLen) :
  Calls Tryz.prog 93 #[.slice A n c] w fun e w' => e = .returned (.slice A (trimL xs).length c) /\ w = w' := by
 subst hn; exact ref_trim A c xs w hr hc hm
theorem int_trimN {A : Option Addr} {c n : Nat} {xs : List Nat} {w : World} (hn : xs.length = n) (hr : Rd w A xs) (hc : n <= c) (hm : c <= maxLen) :
  Calls Tryz.prog 114 #[.slice A n c] w fun e w' => e = .returned (.slice A (trimL xs).length c) /\ w = w' := by
 subst hn; exact int_trim A c xs w hr hc hm
theorem isnan_int (a : Int) (w : World) : Calls Tryz.prog 173 #[.int .i64 a] w fun e w' => e = .returned (.bool false) /\ w = w' := by
 go_enter Tryz.func173, Tryz.ntmps173
 go_wp2
 go_ret
 exact ⟨rfl, rfl⟩
theorem isnan_u32 (a : Int) (w : World) : Calls Tryz.prog 174 #[.int .u32 a] w fun e w' => e = .returned (.bool false) /\ w = w' := by
 go_enter Tryz.func174, Tryz.ntmps174
 go_wp2
 go_ret
 exact ⟨rfl, rfl⟩
theorem cmp_int (a b : Nat) (w : World) : Calls Tryz.prog 157 #[.int .i64 (a : Int), .int .i64 (b : Int)] w fun e w' => e = .returned (.int .i64 (cmpI a b)) /\ w = w' := by
 go_enter Tryz.func157, Tryz.ntmps157
 go_wp2_with (go_at_call 173; refine (isnan_int _ _).mono ?_; rintro e w' ⟨rfl, rfl⟩)
 all_goals go_ret
 all_goals (refine ⟨ret_int ?_, rfl⟩; simp [cmpI, *])
theorem cmp_u32 (a b : Nat) (w : World) : Calls Tryz.prog 158 #[.int .u32 (a : Int), .int .u32 (b : Int)] w fun e w' => e = .returned (.int .i64 (cmpI a b)) /\ w = w' := by
 go_enter Tryz.func158, Tryz.ntmps158
 go_wp2_with (go_at_call 174; refine (isnan_u32 _ _).mono ?_; rintro e w' ⟨rfl, rfl⟩)
 all_goals go_ret
 all_goals (refine ⟨ret_int ?_, rfl⟩; simp [cmpI, *])
section
variable (A B : Option Addr) (c d : Nat) (xs ys : List Nat) (w : World)
theorem ref_compare (hx : Rd w A xs) (hy : Rd w B ys) (hm : xs.length <= maxLen) (_hm' : ys.length <= maxLen) :
  Calls Tryz.prog 128 #[.slice A xs.length c, .slice B ys.length d] w fun e w' => e = .returned (.int .i64 (cmpL xs ys)) /\ Ext w w' := by
 unfold maxLen at hm
 rcases Nat.lt_trichotomy xs.length ys.length with hl | hl | hl
 ·have ht : ((xs.length : Int) == (ys.length : Int)) = false := by rw [beq_eq_false_iff_ne]; omega
  have ht' : ((xs.length : Int) != (ys.length : Int)) = true := by rw [bne_iff_ne]; omega
  have hv := Lib.hid (cmpL_len_lt (xs := xs) (ys := ys) hl)
  go_enter Tryz.func128, Tryz.ntmps128
  go_wp2
  go_ret
  exact ⟨ret_int (by rw [hv.out]; try rfl), Ext.refl _⟩
 ·have HL := Lib.hid hl
  have hm2 : xs.length <= 2 ^ 63 - 1 := hm;have hl1 : xs.length <= ys.length := by omega
  have hl2 : ys.length <= xs.length := by omega
  have ht : ((xs.length : Int) == (ys.length : Int)) = true := by rw [beq_iff_eq]; omega
  have ht' : ((xs.length : Int) != (ys.length : Int)) = false := by rw [bne_eq_false_iff_eq]; omega
  clear hl
  go_enter Tryz.func128, Tryz.ntmps128
  go_wp2
  go_loopw [5] (fun i wr => ∃ k : Nat, k <= xs.length /\ i = .int .i64 ((k : Int) - 1) /\ xs.drop k = ys.drop k /\ Ext w wr) (fun i _ => (intOf i + 1).toNat)
  case atStart => exact ⟨xs.length, Nat.le_refl _, rfl, by rw [List.drop_eq_nil_of_le (by omega), List.drop_eq_nil_of_le (by omega)], Ext.refl _⟩
  case round =>
   obtain ⟨k, hk, rfl, hdr, hext⟩ := hrel;have Hd := Lib.hid hdr;clear hdr
   by_cases h0 : k = 0
   ·subst h0
    have he := Lib.hid (show cmpL xs ys = 0 by have := Hd.out; simp at this; rw [this, cmpL_self])
    go_wp2
    go_ret
    exact ⟨ret_int he.out.symm, hext⟩
   ·obtain ⟨j, rfl⟩ : ∃ j, k = j + 1 := ⟨k - 1, by omega⟩
    obtain ⟨b, off, rfl, hb, hc1⟩ := (hx.ext hext).at_ (i := j) (by omega);obtain ⟨b', off', rfl, hb', hc2⟩ := (hy.ext hext).at_ (i := j) (by omega);rw [show (((j + 1 : Nat) : Int) - 1) = (j : Int) by omega];have hlt := Lib.hid (cmpL_lt hx.1 HL.out j (by omega) (by omega) Hd.out);have hgt := Lib.hid (cmpL_gt hy.1 HL.out j (by omega) (by omega) Hd.out);have hst := Lib.hid (drop_eq_step j (by omega) (by omega) Hd.out)
    rcases Nat.lt_trichotomy xs[j] ys[j] with hq | hq | hq
    ·have ht1 : decide (xs[j] < ys[j]) = true := by simp [hq]
     have Hq := Lib.hid hq;clear hq
     go_wp2
     go_quiet (fail)
     go_wp2
     go_ret
     exact ⟨ret_int (hlt.out Hq.out).symm, by first | exact hext.drewN _ | exact (hext.drewN _).drewN _⟩
    ·have ht1 : decide (xs[j] < ys[j]) = false := by simp; omega
     have ht2 : decide (ys[j] < xs[j]) = false := by simp; omega
     have Hq := Lib.hid hq;clear hq
     go_wp2
     go_quiet (fail)
     go_wp2
     go_quiet (fail)
     go_wp2
     go_roundw
     case rel => exact ⟨j, by omega, rfl, hst.out Hq.out, by first | exact hext.drewN _ | exact (hext.drewN _).drewN _⟩
     case measure => simp [intOf]
    ·have ht1 : decide (xs[j] < ys[j]) = false := by simp; omega
     have ht2 : decide (ys[j] < xs[j]) = true := by simp; omega
     have Hq := Lib.hid hq;clear hq
     go_wp2
     go_quiet (fail)
     go_wp2
     go_quiet (fail)
     go_wp2
     go_ret
     exact ⟨ret_int (hgt.out Hq.out).symm, by first | exact hext.drewN _ | exact (hext.drewN _).drewN _⟩
 ·have ht : ((xs.length : Int) == (ys.length : Int)) = false := by rw [beq_eq_false_iff_ne]; omega
  have ht' : ((xs.length : Int) != (ys.length : Int)) = true := by rw [bne_iff_ne]; omega
  have hv := Lib.hid (cmpL_len_gt (xs := xs) (ys := ys) hl)
  go_enter Tryz.func128, Tryz.ntmps128
  go_wp2
  go_ret
  exact ⟨ret_int (by rw [hv.out]; try rfl), Ext.refl _⟩
theorem int_compare (hx : Rd w A xs) (hy : Rd w B ys) (hm : xs.length <= maxLen) (_hm' : ys.length <= maxLen) :
  Calls Tryz.prog 139 #[.slice A xs.length c, .slice B ys.length d] w fun e w' => e = .returned (.int .i64 (cmpL xs ys)) /\ Ext w w' := by
 unfold maxLen at hm
 rcases Nat.lt_trichotomy xs.length ys.length with hl | hl | hl
 ·have ht : ((xs.length : Int) == (ys.length : Int)) = false := by rw [beq_eq_false_iff_ne]; omega
  have ht' : ((xs.length : Int) != (ys.length : Int)) = true := by rw [bne_iff_ne]; omega
  have hv := Lib.hid (cmpL_len_lt' (xs := xs) (ys := ys) hl)
  go_enter Tryz.func139, Tryz.ntmps139
  go_wp2_with (go_at_call 157; refine (cmp_int _ _ _).mono ?_; rintro e w' ⟨rfl, rfl⟩)
  go_ret
  exact ⟨ret_int (by rw [hv.out]), Ext.refl _⟩
 ·have HL := Lib.hid hl
  have hm2 : xs.length <= 2 ^ 63 - 1 := hm;have hl1 : xs.length <= ys.length := by omega
  have hl2 : ys.length <= xs.length := by omega
  have ht : ((xs.length : Int) == (ys.length : Int)) = true := by rw [beq_iff_eq]; omega
  have ht' : ((xs.length : Int) != (ys.length : Int)) = false := by rw [bne_eq_false_iff_eq]; omega
  clear hl
  go_enter Tryz.func139, Tryz.ntmps139
  go_wp2
  go_loopw [5] (fun i wr => ∃ k : Nat, k <= xs.length /\ i = .int .i64 ((k : Int) - 1) /\ xs.drop k = ys.drop k /\ Ext w wr) (fun i _ => (intOf i + 1).toNat)
  case atStart => exact ⟨xs.length, Nat.le_refl _, rfl, by rw [List.drop_eq_nil_of_le (by omega), List.drop_eq_nil_of_le (by omega)], Ext.refl _⟩
  case round =>
   obtain ⟨k, hk, rfl, hdr, hext⟩ := hrel;have Hd := Lib.hid hdr;clear hdr
   by_cases h0 : k = 0
   ·subst h0
    have he := Lib.hid (show cmpL xs ys = 0 by have := Hd.out; simp at this; rw [this, cmpL_self])
    go_wp2
    go_ret
    exact ⟨ret_int he.out.symm, hext⟩
   ·obtain ⟨j, rfl⟩ : ∃ j, k = j + 1 := ⟨k - 1, by omega⟩
    obtain ⟨b, off, rfl, hb, hc1⟩ := (hx.ext hext).at_ (i := j) (by omega);obtain ⟨b', off', rfl, hb', hc2⟩ := (hy.ext hext).at_ (i := j) (by omega);rw [show (((j + 1 : Nat) : Int) - 1) = (j : Int) by omega];have hne := Lib.hid (cmpL_at hx.1 hy.1 HL.out j (by omega) (by omega) Hd.out);have hst := Lib.hid (drop_eq_step j (by omega) (by omega) Hd.out)
    by_cases hq : xs[j] = ys[j]
    ·have ht1 : (((xs[j] : Nat) : Int) == ((ys[j] : Nat) : Int)) = true := by rw [beq_iff_eq]; omega
     have ht2 : (((xs[j] : Nat) : Int) != ((ys[j] : Nat) : Int)) = false := by rw [bne_eq_false_iff_eq]; omega
     have Hq := Lib.hid hq;clear hq
     go_wp2
     go_quiet (fail)
     go_wp2
     go_roundw
     case rel => exact ⟨j, by omega, rfl, hst.out Hq.out, hext.drewN _⟩
     case measure => simp [intOf]
    ·have ht1 : (((xs[j] : Nat) : Int) == ((ys[j] : Nat) : Int)) = false := by rw [beq_eq_false_iff_ne]; omega
     have ht2 : (((xs[j] : Nat) : Int) != ((ys[j] : Nat) : Int)) = true := by rw [bne_iff_ne]; omega
     have Hq := Lib.hid hq;clear hq
     go_wp2
     go_quiet (fail)
     go_wp2
     go_quiet ((go_at_call 158; exact quiet_add_left (cmp_u32 _ _ _)))
     go_wp2
     go_ret
     exact ⟨ret_int (hne.out Hq.out).symm, by first | exact hext.drewN _ | exact (hext.drewN _).drewN _⟩
 ·have ht : ((xs.length : Int) == (ys.length : Int)) = false := by rw [beq_eq_false_iff_ne]; omega
  have ht' : ((xs.length : Int) != (ys.length : Int)) = true := by rw [bne_iff_ne]; omega
  have hv := Lib.hid (cmpL_len_gt' (xs := xs) (ys := ys) hl)
  go_enter Tryz.func139, Tryz.ntmps139
  go_wp2_with (go_at_call 157; refine (cmp_int _ _ _).mono ?_; rintro e w' ⟨rfl, rfl⟩)
  go_ret
  exact ⟨ret_int (by rw [hv.out]), Ext.refl _⟩
end
theorem Tryz.infoW : (Tryz.prog.info? 89).map (fun i => (i.zero, i.size, i.bytes)) = some (some (.int .u32 0), 1, 4) := by kernel_rfl
theorem mk_words (T : TypeId) (hT : Tryz.prog.underlying T = some (.slice 89)) (n : Nat) (hn : n <= 1000000) (W : World) :
  (Instr.makeSlice T (.int .i64 (n : Int)) (.int .i64 (n : Int))).run Tryz.prog W = .ok (.slice (some ⟨W.heap.size, 0, none⟩) n n) (W.alloc (.cells (madeCells #[.int .u32 0] n) 89)) := by
 obtain ⟨i0, hi, hz0, hz1, hz2⟩ := info_parts Tryz.infoW;have h := run_make_rowN (P := Tryz.prog) T 89 i0 (.int .u32 0) hT hi hz0 .i64 .i64 n n (Nat.le_refl _) (by rw [hz2]; omega) (by omega) W;rw [hz1] at h
 simpa only [Nat.mul_one, Value.cells] using h
theorem mk_words1 (T : TypeId) (hT : Tryz.prog.underlying T = some (.slice 89)) (n : Nat) (hn : n <= 100000) (W : World) :
  (Instr.makeSlice T (.int .i64 ((n : Int) + 1)) (.int .i64 ((n : Int) + 1))).run Tryz.prog W = .ok (.slice (some ⟨W.heap.size, 0, none⟩) (n + 1) (n + 1)) (W.alloc (.cells (madeCells #[.int .u32 0] (n + 1)) 89)) :=
 mk_words T hT (n + 1) (by omega) W
section
variable (A B : Option Addr) (c d : Nat) (xs ys : List Nat) (w : World)
theorem ref_minus1 (hx : Rd w A xs) (hy : Rd w B ys) (hl : ys.length <= xs.length) (hv : val ys <= val xs) (hm : xs.length <= 100000) :
  Calls Tryz.prog 134 #[.slice A xs.length c, .slice B ys.length d] w (RetN (fun zs => val zs = val xs - val ys /\ Nrm zs /\ zs.length <= xs.length) w) := by
 have hmk := mk_words 26 Tryz.underlying26 xs.length (by omega);have Hv := Lib.hid hv;clear hv
 go_enter Tryz.func134, Tryz.ntmps134
 go_wp2
 go_loopw [6, 7] (fun cr i wr => ∃ (k : Nat) (zs : List Nat) (cy : Nat), k <= xs.length /\ i = .int .i64 (k : Int) /\ cr = .int .u64 (cy : Int) /\ MinInv xs ys k zs cy /\ BlkN wr w.heap.size zs /\ Ext w wr) (fun _ i _ => xs.length - (intOf i).toNat)
 case atStart => exact ⟨0, List.replicate xs.length 0, 0, by omega, rfl, rfl, MinInv.start xs ys, BlkN.new w _, (Ext.refl w).alloc _⟩
 case round =>
  obtain ⟨k, zs, cy, hk, rfl, rfl, hinv, hblk, hext⟩ := hrel;have hcy := hinv.hbw;have hzl := hinv.len1;have hzl2 := hinv.len2
  by_cases hlt : k < xs.length
  ·obtain ⟨b, off, rfl, hb, hc1⟩ := (hx.ext hext).at_ hlt
   have hxk := hx.1.get hlt;have hzk := hblk.cell (i := k) (by omega);have hfz := hblk.frozen k
   by_cases hly : k < ys.length
   ·obtain ⟨b', off', rfl, hb', hc2⟩ := (hy.ext hext).at_ hly
    have hyk := hy.1.get hly
    go_wp2
    go_roundw
    case rel => exact ⟨k + 1, _, 1 - (xs[k] + 4294967296 - ys[k] - cy) / 4294967296, by omega, by go_num, by go_num, hinv.step hlt (d := (xs[k] + 4294967296 - ys[k] - cy) % 4294967296) (by omega) (by omega) (by rw [getD_at hlt, getD_at hly]; omega), hblk.set k (by go_num), hext.setCell (Nat.le_refl _) _⟩
    case measure => simp [intOf]; omega
   ·go_wp2
    go_roundw
    case rel => exact ⟨k + 1, _, 1 - (xs[k] + 4294967296 - cy) / 4294967296, by omega, by go_num, by go_num, hinv.step hlt (d := (xs[k] + 4294967296 - cy) % 4294967296) (by omega) (by omega) (by rw [getD_at hlt, getD_out hly]; omega), hblk.set k (by go_num), hext.setCell (Nat.le_refl _) _⟩
    case measure => simp [intOf]; omega
  ·have hk' : k = xs.length := by omega
   subst hk';have hrd := hblk.rd0 hinv.w32;have Hd := Lib.hid (hinv.done hl Hv.out)
   go_wp2_with (go_at_call 93; refine (ref_trimN (xs := zs) (by omega) hrd (by omega) (by unfold maxLen; omega)).mono ?_; rintro e w' ⟨rfl, rfl⟩)
   go_ret
   have hlen := trimL_len zs;refine ⟨_, _, trimL zs, rfl, ?_, by omega, by unfold maxLen; omega, ⟨by rw [val_trimL]; have := Hd.out; omega, Nrm.trimL _, by omega⟩, hext⟩;rw [trimL_take];exact (Own.of_blk hblk hinv.w32 (Nat.le_refl _)).take _
theorem ref_minus {A B : Option Addr} {c d n m : Nat} {xs ys : List Nat} {w : World} (hn : xs.length = n) (hm : ys.length = m) (hx : Rd w A xs) (hy : Rd w B ys) (hl : m <= n) (hv : val ys <= val xs) (h1 : n <= 100000) :
  Calls Tryz.prog 134 #[.slice A n c, .slice B m d] w (RetN (fun zs => val zs = val xs - val ys /\ Nrm zs /\ zs.length <= xs.length) w) := by
 subst hn; subst hm;exact ref_minus1 A B c d xs ys w hx hy hl hv h1
def Turned (w : World) (g : Nat) (pre : List Nat) (n : Nat) (post : List Nat) (P : List Nat -> Prop) (e : Ending) (w' : World) : Prop :=
 ∃ zs, e = .returned (.tuple #[]) /\ zs.length = n /\ W32 zs /\ BlkN w' g (pre ++ zs ++ post) /\ P zs /\ Mod w w' g
theorem int_addTo {g off n m cz : Nat} {pre zs0 post : List Nat} (hblk0 : BlkN w g (pre ++ zs0 ++ post)) (hoff : pre.length = off) (hn : zs0.length = n) (hw : W32 zs0) (hy : Rd w B ys) (hm : ys.length = m) (hap : Apart B ys g) (hl : m <= n) (h1 : n <= 1000000) :
  Calls Tryz.prog 156 #[.slice (some ⟨g, off, none⟩) n cz, .slice B m d] w (Turned w g pre n post fun zs => ∃ cy, cy <= 1 /\ val zs + 4294967296 ^ n * cy = val zs0 + val ys) := by
 subst hm;have Hoff := Lib.hid hoff;have Hn := Lib.hid hn;clear hoff hn
 go_enter Tryz.func156, Tryz.ntmps156
 go_wp2
 go_loopw [4, 10] (fun cr i wr => ∃ (k : Nat) (zs : List Nat) (cy : Nat), k <= ys.length /\ i = .int .i64 (k : Int) /\ cr = .int .u64 (cy : Int) /\ AddInv zs0 ys k zs cy /\ BlkN wr g (pre ++ zs ++ post) /\ Mod w wr g) (fun _ i _ => ys.length - (intOf i).toNat)
 case atStart => exact ⟨0, zs0, 0, by omega, rfl, rfl, AddInv.start hw, hblk0, Mod.refl _ _⟩
 case round =>
  obtain ⟨k, zs, cy, hk, rfl, rfl, hinv, hblk, hmod⟩ := hrel;have hcy := hinv.hcy;have hzl : n <= zs.length := by rw [hinv.len, Hn.out]; omega
  have hzl2 : zs.length <= n := by rw [hinv.len, Hn.out]; omega
  by_cases hlt : k < ys.length
  ·obtain ⟨b, off', rfl, hb, hc1⟩ := (hy.mod hmod hap).at_ hlt
   have hyk := hy.1.get hlt;obtain ⟨b2, off2, he, hb2, hc2⟩ := (hblk.mid hinv.w32 Hoff.out).at_ (i := k) (by omega)
   injection he with he
   injection he with he1 he2
   subst he1; subst he2;have hzk := hinv.w32.get (k := k) (by omega);have hfz := hblk.frozen (off + k)
   go_wp2
   go_roundw
   case rel => exact ⟨k + 1, _, _, by omega, by go_num, by go_num, hinv.step hw hy.1 (by omega) (s := cy + zs[k] + ys[k]) (by rw [getD_at hlt]), hblk.setMid Hoff.out (by omega) (by go_num), hmod.setCell _ _⟩
   case measure => simp [intOf]; omega
  ·have hk' : k = ys.length := by omega
   subst hk';clear hlt hk
   go_wp2
   go_loopw [4, 7] (fun cr i wr => ∃ (k : Nat) (zs : List Nat) (cy : Nat), ys.length <= k /\ k <= n /\ i = .int .i64 (k : Int) /\ cr = .int .u64 (cy : Int) /\ AddInv zs0 ys k zs cy /\ BlkN wr g (pre ++ zs ++ post) /\ Mod w wr g) (fun _ i _ => n - (intOf i).toNat)
   case atStart => exact ⟨ys.length, zs, cy, by omega, by omega, rfl, rfl, hinv, hblk, hmod⟩
   case round =>
    clear hinv hblk hmod hcy hzl hzl2;obtain ⟨k, zs, cy, hky, hk, rfl, rfl, hinv, hblk, hmod⟩ := hrel;have hcy := hinv.hcy;have hzl : n <= zs.length := by rw [hinv.len, Hn.out]; omega
    have hzl2 : zs.length <= n := by rw [hinv.len, Hn.out]; omega
    by_cases hc0 : cy = 0
    ·have Hd := Lib.hid (hinv.done hky (by omega) (.inl hc0))
     subst hc0
     go_wp2
     go_end0
     exact ⟨zs, rfl, by omega, hinv.w32, hblk, by have h := Hd.out; rw [hinv.len, Hn.out] at h; exact h, hmod⟩
    ·have hc1 : (((cy : Nat) : Int) == 0) = false := by rw [beq_eq_false_iff_ne]; omega
     have hc2 : (((cy : Nat) : Int) != 0) = true := by rw [bne_iff_ne]; omega
     by_cases hlt : k < n
     ·obtain ⟨b2, off2, he, hb2, hc2⟩ := (hblk.mid hinv.w32 Hoff.out).at_ (i := k) (by omega)
      injection he with he
      injection he with he1 he2
      subst he1; subst he2;have hzk := hinv.w32.get (k := k) (by omega);have hfz := hblk.frozen (off + k)
      go_wp2
      go_roundw
      case rel => exact ⟨k + 1, _, _, by omega, by omega, by go_num, by go_num, hinv.step hw hy.1 (by omega) (s := cy + zs[k]) (by rw [getD_out (by omega)]; rfl), hblk.setMid Hoff.out (by omega) (by go_num), hmod.setCell _ _⟩
      case measure => simp [intOf]; omega
     ·have Hd := Lib.hid (hinv.done hky (by omega) (.inr (by omega)))
      go_wp2
      go_end0
      exact ⟨zs, rfl, by omega, hinv.w32, hblk, by have h := Hd.out; rw [hinv.len, Hn.out] at h; exact h, hmod⟩
end
end
end Go.Proofs.YtgagcochepnelaaGreatDoor
