/- Walks and laws, a part. -/
import Derived.Test.YtgagcochepnelaaGreatDoorP6
import Derived.Test.YtgagcochepnelaaGreatDoorP4
import Derived.Test.YtgagcochepnelaaGreatDoorP3
import Derived.Test.YtgagcochepnelaaGreatDoorP5
import Derived.Test.YtgagcochepnelaaGreatDoorP0
import Derived.Laws.CopyRow
import Derived.Laws.CopyOwn
import Derived.Maps.AppendAt
import Derived.Deep.Slices
import Derived.WalkKit
set_option linter.unusedSimpArgs false
set_option linter.unusedVariables false
set_option maxHeartbeats 64000000
namespace Go.Proofs.YtgagcochepnelaaGreatDoor
section
open Go.RowKit
theorem Tryz.infoR : (Tryz.prog.info? 30).map (fun i => (i.zero, i.size, i.bytes)) = some (some (.agg #[.bool false, .slice none 0 0, .bool false, .slice none 0 0]), 4, 64) := by kernel_rfl
structure Row4 (w : World) (base : Nat) (v : Value) (qs : List Rat) (L : Nat) : Prop where
 own : RatsOwn w base v qs L
 nwb : NWB w v
section
variable {w w' : World} {base L M : Nat} {v : Value} {qs : List Rat} {q : Rat} {s t : Bool} {A B : Option Addr} {n c m d g : Nat}
theorem NWB.ext (h : NWB w v) (e : Ext w w') : NWB w' v := by
 intro g hg;obtain ⟨cur, e', fz, h1, h2⟩ := h g hg;refine ⟨cur, e', fz, ?_, h2⟩
 have hlt : g < w.heap.size := by
  rcases Nat.lt_or_ge g w.heap.size with k | k
  ·exact k
  ·rw [Array.getElem?_eq_none k] at h1; cases h1
 rw [<- h1];exact Below.block e g hlt
theorem Row4.ext (h : Row4 w base v qs L) (e : Ext w w') : Row4 w' base v qs L := by
 obtain ⟨cs, h1, h2⟩ := h.own;exact ⟨⟨cs, owns_ext h1 e, h2.ext e⟩, h.nwb.ext e⟩
theorem Row4.nil (w : World) (base L : Nat) : Row4 w base (.slice none 0 0) [] L := ⟨⟨[], owns_nil _ _ _ _, .nil⟩, fun g hg => by cases hg⟩
theorem Row4.block (h : Row4 w base v qs L) : ∀ k, v.ownBlock = some k -> base <= k /\ k < w.heap.size := by
 intro k hk;obtain ⟨cs, h1, _⟩ := h.own;refine ⟨owns_block h1 k hk, ?_⟩;obtain ⟨cur, e', fz, h2, _⟩ := h.nwb k hk
 rcases Nat.lt_or_ge k w.heap.size with j | j
 ·exact j
 ·rw [Array.getElem?_eq_none j] at h2; cases h2
theorem Row4.shape (h : Row4 w base v qs L) (hq : qs ≠ []) : ∃ g cap, v = .slice (some ⟨g, 0, none⟩) qs.length cap /\ RatsAt w g 0 qs L := by
 obtain ⟨cs, h1, h2⟩ := h.own
 rcases h1.2 with ⟨rfl, h0⟩ | ⟨g, cap, cur, rfl, _⟩
 ·exact absurd (List.length_eq_zero_iff.1 h0) hq
 ·exact ⟨g, cap, rfl, RatsOwn.rd ⟨cs, h1, h2⟩⟩
theorem run_append_rat {ty : TypeId} (h : Row4 w base v qs L) (hq : NR w q L s A n c t B m d) (hb : Box w g 30 #[.bool s, .slice A n c, .bool t, .slice B m d]) (hl : qs.length <= 1000) (hbase : base <= w.heap.size) :
  ∃ v' w', (Builtin.append_ #[23, 23] ty #[v, .slice (some ⟨g, 0, none⟩) 1 1]).run Tryz.prog w = .ok v' w' /\ Row4 w' base v' (qs ++ [q]) L /\ w.grownBy w' v.ownBlock /\ (v'.ownBlock = v.ownBlock \/ v'.ownBlock = some w.heap.size) := by
 obtain ⟨i0, hi, hz0, hz1, hz2⟩ := info_partsB Tryz.infoR;obtain ⟨cs, h1, h2⟩ := h.own;have hone : CellsOf w L [q] [.bool s, .slice A n c, .bool t, .slice B m d] := .cons hq .nil
 have hnews : ∀ j u, ([.bool s, .slice A n c, .bool t, .slice B m d] : List Value)[j]? = some u -> w.cell? ((⟨g, 0, none⟩ : Addr).add j) = some u := by
  intro j u hj
  match j, hj with
  | 0, hj => exact hb.cell 0 u hj
  | 1, hj => exact hb.cell 1 u hj
  | 2, hj => exact hb.cell 2 u hj
  | 3, hj => exact hb.cell 3 u hj
  | j + 4, hj => simp at hj
 rw [<- hz1] at h1
 obtain ⟨v', w', hr, k1, k2, k3, k4⟩ := run_append_nw (P := Tryz.prog) (ty := ty) (c := 1) Tryz.underlying23 hi hz0 hz2 (by rw [hz1]; rfl) (by omega) (by
  intro u hu k e;simp [Value.cells] at hu
  rcases hu with rfl | rfl | rfl | rfl <;> cases e) h1 h.nwb (m := 1) (by rw [hz1]; rfl) hnews hone.one hone.nwl (by omega) (by unfold maxLen; omega) (by omega) hbase
 rw [hz1] at k1;refine ⟨v', w', hr, ⟨⟨cs ++ [.bool s, .slice A n c, .bool t, .slice B m d], ?_, (h2.own h.nwb k2).append (hone.own h.nwb k2)⟩, k4⟩, k2, k3⟩;rw [List.length_append];exact k1
end
theorem wpList_append_rat {w : World} {base L : Nat} {v : Value} {qs : List Rat} {q : Rat} {s t : Bool} {A B : Option Addr} {n c m d g : Nat} {ops : Array Oper} {rest : List Oper} {o : Oper} {a : Act} {Q : Exit -> Act -> World -> Prop} (hgd : o.guard = none) (x y : Operand)
  (ho : o.op = .call { callee := .builtin .append, args := #[x, y], argTypes := #[23, 23] })
  (hx : a.eval x = v) (hy : a.eval y = .slice (some ⟨g, 0, none⟩) 1 1)
  (h : Row4 w base v qs L) (hq : NR w q L s A n c t B m d) (hb : Box w g 30 #[.bool s, .slice A n c, .bool t, .slice B m d]) (hl : qs.length <= 1000) (hbase : base <= w.heap.size)
  (hK : ∀ v' w', Row4 w' base v' (qs ++ [q]) L -> w.grownBy w' v.ownBlock -> (v'.ownBlock = v.ownBlock \/ v'.ownBlock = some w.heap.size) -> wpList Tryz.prog ops Q rest (a.put o.dst v') w') :
  wpList Tryz.prog ops Q (o :: rest) a w := by
 refine wpList_plain hgd fun K hKK => ?_
 obtain ⟨v', w', hr, h2, h3, h5⟩ := run_append_rat (ty := o.type) h hq hb hl hbase;unfold Oper.wp execOp;simp only [ho, resolve, invoke, builtin, Sem.run_bind, Sem.run_pure, Result.andThen_ok, List.map_toArray, List.map_cons, List.map_nil, hx, hy, hr];exact hKK _ _ (hK v' w' h2 h3 h5)
def zeroC : Nat -> List Value
 | 0 => []
 | n + 1 => .bool false :: .slice none 0 0 :: .bool false :: .slice none 0 0 :: zeroC n
theorem zeroC_len : ∀ n, (zeroC n).length = n * 4
 | 0 => rfl
 | n + 1 => by simp only [zeroC, List.length_cons, zeroC_len n]; omega
theorem zeroC_nwl : ∀ n, NWL (zeroC n)
 | 0 => fun u hu => by cases hu
 | n + 1 => by
  intro u hu;simp only [zeroC, List.mem_cons] at hu
  rcases hu with rfl | rfl | rfl | rfl | hu
  ·intro k e; cases e
  ·intro k e; cases e
  ·intro k e; cases e
  ·intro k e; cases e
  ·exact zeroC_nwl n u hu
theorem zeroC_at : ∀ (n i : Nat) (h : i < (zeroC n).length), (zeroC n)[i] = (#[Value.bool false, .slice none 0 0, .bool false, .slice none 0 0] : Array Value)[i % 4]!
 | 0, i, h => by simp [zeroC] at h
 | n + 1, 0, _ => rfl
 | n + 1, 1, _ => rfl
 | n + 1, 2, _ => rfl
 | n + 1, 3, _ => rfl
 | n + 1, i + 4, h => by
  have h' : i < (zeroC n).length := by simp only [zeroC, List.length_cons] at h; omega
  have := zeroC_at n i h';rw [Nat.add_mod_right];exact this
theorem made_rats (n : Nat) : madeCells #[Value.bool false, .slice none 0 0, .bool false, .slice none 0 0] (n * 4) = (zeroC n).toArray := by
 refine Array.ext (by rw [size_madeCells]; simp [zeroC_len]) (fun i h1 h2 => ?_);have h3 : i < (zeroC n).length := by simpa using h2
 have e2 : (zeroC n).toArray[i] = (zeroC n)[i] := by simp
 rw [e2, zeroC_at n i h3];simp [madeCells]
theorem mk_rats (n : Nat) (hn : n <= 100000) (W : World) :
  (Instr.makeSlice 23 (.int .i64 (n : Int)) (.int .i64 (n : Int))).run Tryz.prog W = .ok (.slice (some ⟨W.heap.size, 0, none⟩) n n) (W.alloc (.cells (zeroC n).toArray 30)) := by
 obtain ⟨i0, hi, hz0, hz1, hz2⟩ := info_parts Tryz.infoR;have h := run_make_rowN (P := Tryz.prog) 23 30 i0 _ Tryz.underlying23 hi hz0 .i64 .i64 n n (Nat.le_refl _) (by rw [hz2]; omega) (by omega) W;rw [hz1] at h;rw [<- made_rats];exact h
structure Fill (w : World) (g n : Nat) (qs : List Rat) (L : Nat) : Prop where
 out : ∃ ds, Box w g 30 (ds ++ zeroC (n - qs.length)).toArray /\ CellsOf w L qs ds
 le : qs.length <= n
section
variable {w w' : World} {g n L : Nat} {qs : List Rat} {q : Rat} {s t : Bool} {A B : Option Addr} {a c b d : Nat}
theorem Fill.ext (h : Fill w g n qs L) (e : Ext w w') : Fill w' g n qs L := by
 obtain ⟨⟨ds, h1, h2⟩, h3⟩ := h;exact ⟨⟨ds, h1.ext e, h2.ext e⟩, h3⟩
theorem Fill.new (w : World) (n L : Nat) : Fill (w.alloc (.cells (zeroC n).toArray 30)) w.heap.size n [] L :=
 ⟨⟨[], by rw [List.nil_append]; exact Box.new w _ _, .nil⟩, Nat.zero_le _⟩
theorem Fill.rats (h : Fill w g n qs L) (hn : qs.length = n) : RatsAt w g 0 qs L := by
 obtain ⟨⟨ds, h1, h2⟩, _⟩ := h;rw [hn, Nat.sub_self, zeroC, List.append_nil] at h1;exact RatsAt.of_box h1 h2
theorem set_at {l r : List Value} {v u : Value} (k : Nat) (hk : l.length = k) : (l ++ v :: r).set k u = l ++ u :: r := by
 subst hk;rw [List.set_append_right _ _ (Nat.le_refl _), Nat.sub_self, List.set_cons_zero]
theorem Fill.cells (h : Fill w g n qs L) (hk : qs.length < n) :
  w.cell? ⟨g, qs.length * 4, none⟩ = some (.bool false) /\ w.cell? ⟨g, qs.length * 4 + 1, none⟩ = some (.slice none 0 0) /\ w.cell? ⟨g, qs.length * 4 + 2, none⟩ = some (.bool false) /\ w.cell? ⟨g, qs.length * 4 + 3, none⟩ = some (.slice none 0 0) := by
 obtain ⟨⟨ds, h1, h2⟩, _⟩ := h;have hl := h2.len;obtain ⟨m, hm⟩ : ∃ m, n - qs.length = m + 1 := ⟨n - qs.length - 1, by omega⟩;rw [hm, zeroC] at h1;refine ⟨h1.cell _ _ ?_, h1.cell _ _ ?_, h1.cell _ _ ?_, h1.cell _ _ ?_⟩
 all_goals
  rw [<- hl];simp
theorem Fill.frozen (h : Fill w g n qs L) (i : Nat) : w.frozen? ⟨g, i, none⟩ = false := by
 obtain ⟨⟨ds, h1, _⟩, _⟩ := h;exact h1.frozen i
theorem Fill.lt (h : Fill w g n qs L) : g < w.heap.size := by
 obtain ⟨⟨ds, h1, _⟩, _⟩ := h;exact h1.lt
structure FinRow (w2 w3 : World) (g : Nat) (T : TypeId) (l : List Value) : Prop where
 box : Box w3 g T l.toArray
 nwl : NWL l
 ni : ∀ z L s' A' n' c', NI w2 z L s' A' n' c' -> NI w3 z L s' A' n' c'
 ext : ∀ W, Ext W w2 -> W.heap.size <= g -> Ext W w3
 far : ∀ g' T' cs', g' ≠ g -> Box w2 g' T' cs' -> Box w3 g' T' cs'
theorem FinRow.refl {w2 : World} {T : TypeId} {l : List Value} (hb : Box w2 g T l.toArray) (hn : NWL l) : FinRow w2 w2 g T l := ⟨hb, hn, fun _ _ _ _ _ _ h => h, fun _ h _ => h, fun _ _ _ _ h => h⟩
theorem FinRow.step {w2 w3 : World} {T : TypeId} {l : List Value} (h : FinRow w2 w3 g T l) (i : Nat) {v : Value} (hv : ∀ k, v ≠ .int .u32 k) : FinRow w2 (w3.setCell ⟨g, i, none⟩ v) g T (l.set i v) := by
 refine ⟨?_, ?_, fun _ _ _ _ _ _ k => (h.ni _ _ _ _ _ _ k).set h.box h.nwl.arr i v, fun _ e hg => (h.ext _ e hg).setCell hg _, fun _ _ _ hg k => (h.far _ _ _ hg k).far hg _⟩
 ·have := h.box.set i v
  rwa [List.setIfInBounds_toArray] at this
 ·intro u hu k e
  rcases List.mem_or_eq_of_mem_set hu with hu | hu
  ·exact h.nwl u hu k e
  ·exact hv k (hu.symm.trans e)
theorem CellsOf.ni {w w' : World} (hf : ∀ z L s' A' n' c', NI w z L s' A' n' c' -> NI w' z L s' A' n' c') {ds : List Value} (h : CellsOf w L qs ds) : CellsOf w' L qs ds := by
 induction h with
 | nil => exact .nil
 | cons h _ ih => exact .cons ⟨hf _ _ _ _ _ _ h.num, hf _ _ _ _ _ _ h.den⟩ ih
theorem Fill.put {k : Nat} (h : Fill w g n qs L) (hk : qs.length = k) (hkn : k < n) (hq : NR w q L s A a c t B b d) :
  Fill ((((w.setCell ⟨g, k * 4, none⟩ (.bool s)).setCell ⟨g, k * 4 + 1, none⟩ (.slice A a c)).setCell ⟨g, k * 4 + 2, none⟩ (.bool t)).setCell ⟨g, k * 4 + 3, none⟩ (.slice B b d)) g n (qs ++ [q]) L /\
  (∀ z L s' A' n' c', NI w z L s' A' n' c' -> NI ((((w.setCell ⟨g, k * 4, none⟩ (.bool s)).setCell ⟨g, k * 4 + 1, none⟩ (.slice A a c)).setCell ⟨g, k * 4 + 2, none⟩ (.bool t)).setCell ⟨g, k * 4 + 3, none⟩ (.slice B b d)) z L s' A' n' c') /\
  (∀ W, Ext W w -> W.heap.size <= g -> Ext W ((((w.setCell ⟨g, k * 4, none⟩ (.bool s)).setCell ⟨g, k * 4 + 1, none⟩ (.slice A a c)).setCell ⟨g, k * 4 + 2, none⟩ (.bool t)).setCell ⟨g, k * 4 + 3, none⟩ (.slice B b d))) /\
  (∀ g' T' cs', g' ≠ g -> Box w g' T' cs' -> Box ((((w.setCell ⟨g, k * 4, none⟩ (.bool s)).setCell ⟨g, k * 4 + 1, none⟩ (.slice A a c)).setCell ⟨g, k * 4 + 2, none⟩ (.bool t)).setCell ⟨g, k * 4 + 3, none⟩ (.slice B b d)) g' T' cs') := by
 obtain ⟨⟨ds, h1, h2⟩, _⟩ := h;have hl := h2.len;rw [hk] at hl h1;obtain ⟨m, hm⟩ : ∃ m, n - k = m + 1 := ⟨n - k - 1, by omega⟩;rw [hm, zeroC] at h1;have F := ((((FinRow.refl h1 (h2.nwl.append (zeroC_nwl (m + 1)))).step (k * 4) (v := .bool s) (by intro k h; cases h)).step (k * 4 + 1) (v := .slice A a c) (by intro k h; cases h)).step (k * 4 + 2) (v := .bool t) (by intro k h; cases h)).step (k * 4 + 3) (v := .slice B b d) (by intro k h; cases h)
 have e : ((((ds ++ .bool false :: .slice none 0 0 :: .bool false :: .slice none 0 0 :: zeroC m).set (k * 4) (.bool s)).set (k * 4 + 1) (.slice A a c)).set (k * 4 + 2) (.bool t)).set (k * 4 + 3) (.slice B b d) = (ds ++ [.bool s, .slice A a c, .bool t, .slice B b d]) ++ zeroC m := by
  rw [set_at _ hl];rw [show ds ++ Value.bool s :: .slice none 0 0 :: .bool false :: .slice none 0 0 :: zeroC m = (ds ++ [.bool s]) ++ .slice none 0 0 :: .bool false :: .slice none 0 0 :: zeroC m by simp];rw [set_at (k * 4 + 1) (by simp [hl])];rw [show (ds ++ [Value.bool s]) ++ .slice A a c :: .bool false :: .slice none 0 0 :: zeroC m = (ds ++ [.bool s, .slice A a c]) ++ .bool false :: .slice none 0 0 :: zeroC m by simp];rw [set_at (k * 4 + 2) (by simp [hl])];rw [show (ds ++ [Value.bool s, .slice A a c]) ++ .bool t :: .slice none 0 0 :: zeroC m = (ds ++ [.bool s, .slice A a c, .bool t]) ++ .slice none 0 0 :: zeroC m by simp];rw [set_at (k * 4 + 3) (by simp [hl])];simp
 rw [e] at F;refine ⟨⟨⟨_, ?_, (h2.ni F.ni).append (.cons ⟨F.ni _ _ _ _ _ _ hq.num, F.ni _ _ _ _ _ _ hq.den⟩ .nil)⟩, by rw [List.length_append]; simp; omega⟩, F.ni, F.ext, F.far⟩;have hb := F.box;rw [show n - (qs ++ [q]).length = m by rw [List.length_append, hk]; simp; omega];exact hb
end
end
section
open Go.RowKit
attribute [local go_sem ↓] Go.wp_at_zero Go.wp_at_succ
structure Pol (w : World) (A : Option Addr) (n c : Nat) (qs : List Rat) (L : Nat) : Prop where
 len : qs.length = n
 cap : n <= c
 top : c <= maxLen
 at_ : qs ≠ [] -> ∃ b off, A = some ⟨b, off, none⟩ /\ RatsAt w b off qs L
def RetPol (qs : List Rat) (L : Nat) (w : World) (e : Ending) (w' : World) : Prop := ∃ A n c, e = .returned (.slice A n c) /\ Pol w' A n c qs L /\ Ext w w'
section
variable {w w' : World} {A : Option Addr} {n c L : Nat} {qs : List Rat}
theorem Pol.ext (h : Pol w A n c qs L) (e : Ext w w') : Pol w' A n c qs L :=
 ⟨h.len, h.cap, h.top, fun hq => by obtain ⟨b, off, h1, h2⟩ := h.at_ hq; exact ⟨b, off, h1, h2.ext e⟩⟩
theorem RatsAt.take {b o : Nat} (h : RatsAt w b o qs L) (k : Nat) : RatsAt w b o (qs.take k) L := ⟨fun i hi => by
 have hi' : i < qs.length := by rw [List.length_take] at hi; omega
 have := h.at_ i hi';rw [List.getElem_take];exact this⟩
theorem Pol.take (h : Pol w A n c qs L) {k : Nat} (hk : k <= n) : Pol w A k c (qs.take k) L := by
 refine ⟨by rw [List.length_take, h.len]; omega, Nat.le_trans hk h.cap, h.top, fun hq => ?_⟩;obtain ⟨b, off, h1, h2⟩ := h.at_ (fun e => hq (by rw [e]; simp));exact ⟨b, off, h1, h2.take k⟩
theorem Pol.none (w : World) (L : Nat) : Pol w none 0 0 [] L := ⟨rfl, Nat.le_refl _, Nat.zero_le _, fun h => absurd rfl h⟩
theorem Fill.pol {g : Nat} (h : Fill w g n qs L) (hn : qs.length = n) (hm : n <= maxLen) : Pol w (some ⟨g, 0, none⟩) n n qs L := ⟨hn, Nat.le_refl _, hm, fun _ => ⟨g, 0, rfl, h.rats hn⟩⟩
end
end
section
open Go.RowKit
structure Half (w : World) (g : Nat) (rs qs : List Rat) (M L : Nat) : Prop where
 out : ∃ ds es, Box w g 30 (ds ++ es).toArray /\ CellsOf w M rs ds /\ CellsOf w L qs es
section
variable {w w' : World} {A B : Option Addr} {a b c d g n o L M : Nat} {s t : Bool} {q q0 : Rat} {qs rs : List Rat}
theorem Half.put {k : Nat} (h : Half w g rs (q0 :: qs) M L) (hk : rs.length = k) (hq : NR w q M s A a c t B b d) :
  Half ((((w.setCell ⟨g, k * 4, none⟩ (.bool s)).setCell ⟨g, k * 4 + 1, none⟩ (.slice A a c)).setCell ⟨g, k * 4 + 2, none⟩ (.bool t)).setCell ⟨g, k * 4 + 3, none⟩ (.slice B b d)) g (rs ++ [q]) qs M L /\
  (∀ z L s' A' n' c', NI w z L s' A' n' c' -> NI ((((w.setCell ⟨g, k * 4, none⟩ (.bool s)).setCell ⟨g, k * 4 + 1, none⟩ (.slice A a c)).setCell ⟨g, k * 4 + 2, none⟩ (.bool t)).setCell ⟨g, k * 4 + 3, none⟩ (.slice B b d)) z L s' A' n' c') /\
  (∀ W, Ext W w -> W.heap.size <= g -> Ext W ((((w.setCell ⟨g, k * 4, none⟩ (.bool s)).setCell ⟨g, k * 4 + 1, none⟩ (.slice A a c)).setCell ⟨g, k * 4 + 2, none⟩ (.bool t)).setCell ⟨g, k * 4 + 3, none⟩ (.slice B b d))) := by
 obtain ⟨ds, es, h1, h2, h3⟩ := h.out;have hl := h2.len;rw [hk] at hl;have hn := h2.nwl.append h3.nwl
 cases h3 with
 | @cons _ _ s0 A0 n0 c0 t0 B0 m0 d0 es hq0 hr =>
  have F := ((((FinRow.refl h1 hn).step (k * 4) (v := .bool s) (by intro k h; cases h)).step (k * 4 + 1) (v := .slice A a c) (by intro k h; cases h)).step (k * 4 + 2) (v := .bool t) (by intro k h; cases h)).step (k * 4 + 3) (v := .slice B b d) (by intro k h; cases h)
  have e : ((((ds ++ .bool s0 :: .slice A0 n0 c0 :: .bool t0 :: .slice B0 m0 d0 :: es).set (k * 4) (.bool s)).set (k * 4 + 1) (.slice A a c)).set (k * 4 + 2) (.bool t)).set (k * 4 + 3) (.slice B b d) = (ds ++ [.bool s, .slice A a c, .bool t, .slice B b d]) ++ es := by
   rw [set_at _ hl];rw [show ds ++ Value.bool s :: .slice A0 n0 c0 :: .bool t0 :: .slice B0 m0 d0 :: es = (ds ++ [.bool s]) ++ .slice A0 n0 c0 :: .bool t0 :: .slice B0 m0 d0 :: es by simp];rw [set_at (k * 4 + 1) (by simp [hl])];rw [show (ds ++ [Value.bool s]) ++ .slice A a c :: .bool t0 :: .slice B0 m0 d0 :: es = (ds ++ [.bool s, .slice A a c]) ++ .bool t0 :: .slice B0 m0 d0 :: es by simp];rw [set_at (k * 4 + 2) (by simp [hl])];rw [show (ds ++ [Value.bool s, .slice A a c]) ++ .bool t :: .slice B0 m0 d0 :: es = (ds ++ [.bool s, .slice A a c, .bool t]) ++ .slice B0 m0 d0 :: es by simp];rw [set_at (k * 4 + 3) (by simp [hl])];simp
  rw [e] at F;exact ⟨⟨_, es, F.box, (h2.ni F.ni).append (.cons ⟨F.ni _ _ _ _ _ _ hq.num, F.ni _ _ _ _ _ _ hq.den⟩ .nil), hr.ni F.ni⟩, F.ni, F.ext⟩
theorem addr_add (b o j : Nat) : (⟨b, o, none⟩ : Addr).add j = ⟨b, o + j, none⟩ := by
 unfold Addr.add
 split
 ·rename_i h; rw [h]; rfl
 ·rfl
theorem RatsAt.list (h : RatsAt w b o qs L) : ∃ cs, CellsOf w L qs cs /\ ∀ j u, cs[j]? = some u -> w.cell? ((⟨b, o, none⟩ : Addr).add j) = some u := by
 induction qs generalizing o with
 | nil => exact ⟨[], .nil, fun j u h => by simp at h⟩
 | cons q qs ih =>
  obtain ⟨s, A, n, c, t, B, m, d, e0, e1, e2, e3, hq⟩ := h.at_ 0 (by simp)
  have ht : RatsAt w b (o + 4) qs L := ⟨fun i hi => by
   have := h.at_ (i + 1) (by simp; omega);rw [show o + 4 * (i + 1) = o + 4 + 4 * i by omega] at this;exact this⟩
  obtain ⟨cs, h1, h2⟩ := ih ht;refine ⟨_, .cons hq h1, fun j u hj => ?_⟩
  match j with
  | 0 => simp at hj; subst hj; simpa [Addr.add] using e0
  | 1 => simp at hj; subst hj; simpa [Addr.add] using e1
  | 2 => simp at hj; subst hj; simpa [Addr.add] using e2
  | 3 => simp at hj; subst hj; simpa [Addr.add] using e3
  | j + 4 =>
   simp at hj;have := h2 j u hj;rw [addr_add] at this ⊢;rw [show o + (j + 4) = o + 4 + j by omega];exact this
end
end
section
open Go.RowKit
attribute [local go_sem ↓] Go.wp_at_zero Go.wp_at_succ
def rawQ (s : Bool) (xs : List Nat) (t : Bool) (ys : List Nat) : Rat := mkRat (ival s xs) (ival t ys).toNat
theorem Rd.uniq {w : World} {A : Option Addr} {xs ys : List Nat} (h : Rd w A xs) (k : Rd w A ys) (hl : xs.length = ys.length) : xs = ys := by
 by_cases h0 : xs = []
 ·subst h0; exact (List.length_eq_zero_iff.1 hl.symm).symm
 have k0 : ys ≠ [] := fun e => h0 (List.length_eq_zero_iff.1 (by rw [hl, e]; rfl))
 obtain ⟨b, off, hA, _, hc⟩ := h.2 h0;obtain ⟨b', off', hA', _, hc'⟩ := k.2 k0;rw [hA] at hA'
 injection hA' with hA'
 injection hA' with q1 q2
 subst q1 q2;refine List.ext_getElem hl (fun i h1 h2 => ?_);have e := (hc i h1).symm.trans (hc' i h2)
 injection e with e
 injection e with e1 e2
 omega
theorem NR.of_raw' {w : World} {s : Bool} {A : Option Addr} {n c : Nat} {xs : List Nat} {t : Bool} {B : Option Addr} {m d : Nat} {ys : List Nat} {L : Nat} (h : RI w A n c xs) (k : RI w B m d ys) (hv : validQ s xs t ys = true) (hn : n <= L) (hm : m <= L) :
  NR w (rawQ s xs t ys) L s A n c t B m d := by
 obtain ⟨q, hq⟩ := NR.of_raw h k hv hn hm;obtain ⟨xs0, a1, a2, _, _, a3, _⟩ := hq.num.out;obtain ⟨ys0, b1, b2, _, _, b3, _⟩ := hq.den.out;have e1 : xs0 = xs := a2.uniq h.rd (by rw [a1, h.len]);have e2 : ys0 = ys := b2.uniq k.rd (by rw [b1, k.len]);subst e1 e2
 have e3 : rawQ s xs0 t ys0 = q := by
  unfold rawQ;rw [a3.eq, b3.eq, Int.toNat_natCast];exact Rat.mkRat_self q
 rw [e3];exact hq
structure RawR where
 s : Bool
 xs : List Nat
 t : Bool
 ys : List Nat
def RawR.q (r : RawR) : Rat := rawQ r.s r.xs r.t r.ys
def RawAt (w : World) (b o : Nat) (r : RawR) : Prop :=
 ∃ A n c B m d, w.cell? ⟨b, o, none⟩ = some (.bool r.s) /\ w.cell? ⟨b, o + 1, none⟩ = some (.slice A n c) /\ w.cell? ⟨b, o + 2, none⟩ = some (.bool r.t) /\ w.cell? ⟨b, o + 3, none⟩ = some (.slice B m d) /\ RI w A n c r.xs /\ RI w B m d r.ys
structure RawP (w : World) (A : Option Addr) (n c : Nat) (rs : List RawR) : Prop where
 len : rs.length = n
 cap : n <= c
 top : c <= maxLen
 at_ : rs ≠ [] -> ∃ b off, A = some ⟨b, off, none⟩ /\ ∀ i (h : i < rs.length), RawAt w b (off + 4 * i) rs[i]
section
variable {w w' : World} {r : RawR} {rs : List RawR} {A B : Option Addr} {n c m d b o : Nat}
theorem RawAt.ext (h : RawAt w b o r) (e : Ext w w') : RawAt w' b o r := by
 obtain ⟨A, n, c, B, m, d, h0, h1, h2, h3, h4, h5⟩ := h;exact ⟨A, n, c, B, m, d, e.cellv h0, e.cellv h1, e.cellv h2, e.cellv h3, h4.ext e, h5.ext e⟩
theorem RawP.ext (h : RawP w A n c rs) (e : Ext w w') : RawP w' A n c rs :=
 ⟨h.len, h.cap, h.top, fun hq => by obtain ⟨b, off, h1, h2⟩ := h.at_ hq; exact ⟨b, off, h1, fun i hi => (h2 i hi).ext e⟩⟩
end
end
section
open Go.RowKit
structure RawT (w : World) (A : Option Addr) (n c : Nat) (ts : List (List RawR)) : Prop where
 len : ts.length = n
 cap : n <= c
 top : c <= maxLen
 at_ : ts ≠ [] -> ∃ b off, A = some ⟨b, off, none⟩ /\ ∀ i (h : i < ts.length), ∃ A' n' c', w.cell? ⟨b, off + i, none⟩ = some (.slice A' n' c') /\ RawP w A' n' c' ts[i]
structure PolT (w : World) (A : Option Addr) (n c : Nat) (ts : List (List Rat)) (L : Nat) : Prop where
 len : ts.length = n
 cap : n <= c
 top : c <= maxLen
 at_ : ts ≠ [] -> ∃ b off, A = some ⟨b, off, none⟩ /\ ∀ i (h : i < ts.length), ∃ A' n' c', w.cell? ⟨b, off + i, none⟩ = some (.slice A' n' c') /\ Pol w A' n' c' ts[i] L
def RawR.valid (r : RawR) : Bool := validQ r.s r.xs r.t r.ys
def RawR.le (r : RawR) (k : Nat) : Bool := decide (r.xs.length <= k) && decide (r.ys.length <= k)
def validL (rs : List RawR) (k : Nat) : Bool := decide (rs.length = k) && rs.all RawR.valid
def towerB : List (List RawR) -> Nat -> Bool
 | [], _ => true
 | l :: ts, k => validL l (2 ^ k) && towerB ts (k + 1)
def fewL (ts : List (List RawR)) : Bool := ts.all fun l => decide (l.length <= 16) && l.all fun r => r.le 4
section
variable {w w' : World} {ts us : List (List RawR)} {qs : List (List Rat)} {rs : List RawR} {ps : List Rat} {A B : Option Addr} {n c m d b o k L M : Nat}
theorem RawT.ext (h : RawT w A n c ts) (e : Ext w w') : RawT w' A n c ts :=
 ⟨h.len, h.cap, h.top, fun hq => by
  obtain ⟨b, off, h1, h2⟩ := h.at_ hq;refine ⟨b, off, h1, fun i hi => ?_⟩;obtain ⟨A', n', c', h3, h4⟩ := h2 i hi;exact ⟨A', n', c', e.cellv h3, h4.ext e⟩⟩
theorem PolT.ext (h : PolT w A n c qs L) (e : Ext w w') : PolT w' A n c qs L :=
 ⟨h.len, h.cap, h.top, fun hq => by
  obtain ⟨b, off, h1, h2⟩ := h.at_ hq;refine ⟨b, off, h1, fun i hi => ?_⟩;obtain ⟨A', n', c', h3, h4⟩ := h2 i hi;exact ⟨A', n', c', e.cellv h3, h4.ext e⟩⟩
theorem RawT.none (w : World) : RawT w none 0 0 [] := ⟨rfl, Nat.le_refl _, Nat.zero_le _, fun h => absurd rfl h⟩
theorem RawT.one {g : Nat} {T : TypeId} (hb : Box w g T #[.slice A n c]) (h : RawP w A n c rs) : RawT w (some ⟨g, 0, .none⟩) 1 1 [rs] :=
 ⟨rfl, Nat.le_refl _, by unfold maxLen; omega, fun _ => ⟨g, 0, rfl, fun i hi => by
  have hi' : i = 0 := by simp at hi; omega
  subst hi';exact ⟨A, n, c, hb.cell 0 _ rfl, h⟩⟩⟩
theorem RawT.two {g : Nat} {T : TypeId} {rs' : List RawR} (hb : Box w g T #[.slice A n c, .slice B m d]) (h : RawP w A n c rs) (h' : RawP w B m d rs') : RawT w (some ⟨g, 0, .none⟩) 2 2 [rs, rs'] :=
 ⟨rfl, Nat.le_refl _, by unfold maxLen; omega, fun _ => ⟨g, 0, rfl, fun i hi => by
  have hi' : i = 0 \/ i = 1 := by simp at hi; omega
  rcases hi' with rfl | rfl
  ·exact ⟨A, n, c, hb.cell 0 _ rfl, h⟩
  ·exact ⟨B, m, d, hb.cell 1 _ rfl, h'⟩⟩⟩
theorem RawT.take (h : RawT w A n c ts) {k : Nat} (hk : k <= n) : RawT w A k c (ts.take k) := by
 refine ⟨by rw [List.length_take, h.len]; omega, Nat.le_trans hk h.cap, h.top, fun hq => ?_⟩;obtain ⟨b, off, h1, h2⟩ := h.at_ (fun e => hq (by rw [e]; simp));refine ⟨b, off, h1, fun i hi => ?_⟩;have hi' : i < ts.length := by rw [List.length_take] at hi; omega
 rw [List.getElem_take];exact h2 i hi'
theorem PolT.take (h : PolT w A n c qs L) {k : Nat} (hk : k <= n) : PolT w A k c (qs.take k) L := by
 refine ⟨by rw [List.length_take, h.len]; omega, Nat.le_trans hk h.cap, h.top, fun hq => ?_⟩;obtain ⟨b, off, h1, h2⟩ := h.at_ (fun e => hq (by rw [e]; simp));refine ⟨b, off, h1, fun i hi => ?_⟩;have hi' : i < qs.length := by rw [List.length_take] at hi; omega
 rw [List.getElem_take];exact h2 i hi'
theorem RawP.polV (h : RawP w A n c rs) (hs : rs.all RawR.valid = true) (hl : rs.all (fun r => r.le L) = true) : Pol w A n c (rs.map RawR.q) L := by
 refine ⟨by rw [List.length_map]; exact h.len, h.cap, h.top, fun hq => ?_⟩;obtain ⟨b, off, h1, h2⟩ := h.at_ (fun e => hq (by rw [e]; rfl));refine ⟨b, off, h1, ⟨fun i hi => ?_⟩⟩;have hi' : i < rs.length := by rw [List.length_map] at hi; exact hi
 obtain ⟨A, n, c, B, m, d, h0, h1, h2, h3, h4, h5⟩ := h2 i hi';have hsi := List.all_eq_true.1 hs rs[i] (List.getElem_mem hi');have hli := List.all_eq_true.1 hl rs[i] (List.getElem_mem hi');unfold RawR.le at hli;simp only [Bool.and_eq_true, decide_eq_true_eq] at hli;rw [List.getElem_map];exact ⟨_, A, n, c, _, B, m, d, h0, h1, h2, h3, NR.of_raw' h4 h5 hsi (by rw [<- h4.len]; exact hli.1) (by rw [<- h5.len]; exact hli.2)⟩
theorem RawT.polT (h : RawT w A n c ts) (hs : ∀ l ∈ ts, l.all RawR.valid = true) (hl : ∀ l ∈ ts, l.all (fun r => r.le L) = true) : PolT w A n c (ts.map fun l => l.map RawR.q) L := by
 refine ⟨by rw [List.length_map]; exact h.len, h.cap, h.top, fun hq => ?_⟩;obtain ⟨b, off, h1, h2⟩ := h.at_ (fun e => hq (by rw [e]; rfl));refine ⟨b, off, h1, fun i hi => ?_⟩;have hi' : i < ts.length := by rw [List.length_map] at hi; exact hi
 obtain ⟨A', n', c', h3, h4⟩ := h2 i hi';rw [List.getElem_map];exact ⟨A', n', c', h3, h4.polV (hs _ (List.getElem_mem hi')) (hl _ (List.getElem_mem hi'))⟩
theorem towerB_app : ∀ (ts us : List (List RawR)) (k : Nat), towerB (ts ++ us) k = (towerB ts k && towerB us (k + ts.length))
 | [], us, k => by simp [towerB]
 | l :: ts, us, k => by
  rw [List.cons_append, towerB, towerB, towerB_app ts us (k + 1), Bool.and_assoc, List.length_cons]
  congr 3
  omega
theorem towerB_step {i : Nat} (hi : i < ts.length) (h : towerB (ts.take i) 0 = true) : towerB (ts.take (i + 1)) 0 = validL ts[i] (2 ^ i) := by
 rw [List.take_succ_eq_append_getElem hi, towerB_app, h, Bool.true_and, List.length_take, Nat.min_eq_left (by omega), Nat.zero_add, towerB, towerB, Bool.and_true]
theorem towerB_stop {i : Nat} (hi : i < ts.length) (h : validL ts[i] (2 ^ i) = false) : towerB ts 0 = false := by
 rw [<- List.take_append_drop i ts, towerB_app, List.length_take, Nat.min_eq_left (by omega), Nat.zero_add, List.drop_eq_getElem_cons hi, towerB, h];simp
end
end
section
open Go.RowKit
attribute [local go_sem ↓] Go.wp_at_zero Go.wp_at_succ
def formedB (ts us : List (List RawR)) : Bool := towerB ts 0 && us.all fun l => validL l (2 ^ ts.length)
section
variable {w w' : World} {q x : Rat} {L M : Nat} {s t : Bool} {A B : Option Addr} {n c m d : Nat} {sx tx : Bool} {Ax Bx : Option Addr} {nx cx mx dx : Nat} {qs ps : List Rat} {rs : List RawR} {ts us : List (List RawR)}
theorem p_validT (h : RawP w A n c rs) (k : Nat) (hk0 : k <= 100000) (hr : rs.all (fun r => r.le 7000) = true) (hT : Tab w) : Calls Tryz.prog 91 #[.slice A n c, .int .i64 (k : Int)] w fun e w' => e = .returned (.bool (validL rs k)) /\ Ext w w' := by
 have Hlen := Lib.hid h.len
 by_cases hb : n = k
 ·subst hb
  go_enter Tryz.func91, Tryz.ntmps91
  go_wp2_with fail
  go_loopw [13] (fun i wr => ∃ k : Nat, k <= n /\ i = .int .i64 (k : Int) /\ Ext w wr /\ (rs.take k).all RawR.valid = true) (fun i _ => n - (intOf i).toNat)
  case atStart => exact ⟨0, by omega, rfl, Ext.refl _, by simp⟩
  case round =>
   obtain ⟨k, hk, rfl, ext, hall⟩ := hrel;have HA := Lib.hid hall;clear hall
   by_cases hlt : k < n
   ·have hj : k < rs.length := by rw [Hlen.out]; exact hlt
    have hI : (k : Int) < (n : Int) := by omega
    obtain ⟨p, off, rfl, hr'⟩ := h.at_ (fun e => by rw [e] at hj; exact absurd hj (Nat.not_lt_zero _));obtain ⟨Ax, nx, cx, Bx, mx, dx, e0, e1, e2, e3, hx, hy⟩ := (hr' k hj).ext ext;have HT := Lib.hid (show (rs.take (k + 1)).all RawR.valid = ((rs.take k).all RawR.valid && RawR.valid rs[k]) by rw [List.take_succ_eq_append_getElem hj, List.all_append]; simp)
    have HM := Lib.hid (fun hf : RawR.valid rs[k] = false => show validL rs n = false by
     unfold validL;rw [Bool.and_eq_false_iff]
     right
     rw [List.all_eq_false];exact ⟨rs[k], List.getElem_mem hj, by rw [hf]; simp⟩)
    have hle := List.all_eq_true.1 hr rs[k] (List.getElem_mem hj);unfold RawR.le at hle;simp only [Bool.and_eq_true, decide_eq_true_eq] at hle;have l1 := hle.1;have l2 := hle.2;have x1 := hx.len;have x2 := hy.len;clear hle;generalize rs[k] = r at e0 e1 e2 e3 hx hy HT HM l1 l2 x1 x2;have l3 : nx <= 7000 := by omega
    have l4 : mx <= 7000 := by omega
    clear l1 l2 x1 x2;have e0' : wr.cell? ⟨p, off + k * 4, none⟩ = some (.bool r.s) := by rw [Nat.mul_comm]; exact e0
    have e1' : wr.cell? ⟨p, off + k * 4 + 1, none⟩ = some (.slice Ax nx cx) := by rw [Nat.mul_comm]; exact e1
    have e2' : wr.cell? ⟨p, off + k * 4 + 2, none⟩ = some (.bool r.t) := by rw [Nat.mul_comm]; exact e2
    have e3' : wr.cell? ⟨p, off + k * 4 + 3, none⟩ = some (.slice Bx mx dx) := by rw [Nat.mul_comm]; exact e3
    go_upto_region 6 with (fail)
    obtain ⟨W, hW, extW, bx, hz⟩ := box1 wr 30 #[.bool r.s, .slice Ax nx cx, .bool r.t, .slice Bx mx dx];rw [<- hW];clear hW hz;have x0 := bx.cell 0 (.bool r.s) rfl;have x1 := bx.cell 1 (.slice Ax nx cx) rfl;have x2 := bx.cell 2 (.bool r.t) rfl;have x3 := bx.cell 3 (.slice Bx mx dx) rfl;replace ext := ext.trans extW
    cases hs : validQ r.s r.xs r.t r.ys with
    | false =>
     have HS := Lib.hid hs;clear hs
     go_wp2_with fail
     refine (p_ValidRaw (hx.ext extW) (hy.ext extW) (by omega) (by omega) (hT.ext ext)).mono ?_;rintro e V ⟨rfl, hxv⟩;rw [HS.out]
     go_wp2_with fail
     go_ret
     exact ⟨by rw [HM.out HS.out]; rfl, ext.trans hxv⟩
    | true =>
     have HS := Lib.hid hs;clear hs
     go_wp2_with fail
     refine (p_ValidRaw (hx.ext extW) (hy.ext extW) (by omega) (by omega) (hT.ext ext)).mono ?_;rintro e V ⟨rfl, hxv⟩;rw [HS.out]
     go_wp2_with fail
     go_roundw
     case rel => exact ⟨k + 1, by omega, by go_num, ext.trans hxv, by rw [HT.out, HA.out]; exact HS.out⟩
     case measure => simp [intOf]; omega
   ·have hI : (n : Int) <= (k : Int) := by omega
    go_wp2_with fail
    go_ret
    refine ⟨?_, ext⟩;have ha := HA.out;rw [List.take_of_length_le (by rw [Hlen.out]; omega)] at ha;have : validL rs n = true := by unfold validL; rw [ha, Hlen.out]; simp
    rw [this]; rfl
 ·have hg : ((n : Int) == (k : Int)) = false := beq_eq_false_iff_ne.2 (by omega)
  have hs : validL rs k = false := by unfold validL; rw [Hlen.out, decide_eq_false hb]; rfl
  rw [hs];clear hs
  go_enter Tryz.func91, Tryz.ntmps91
  go_wp2_with fail
  go_ret
  exact ⟨rfl, Ext.refl _⟩
theorem p_formedTG (h : RawT w A n c ts) (k : RawT w B m d us) (hn : n <= 16) (hm : m <= 16) (hr : ∀ l ∈ ts, l.all (fun r => r.le 7000) = true) (hr' : ∀ l ∈ us, l.all (fun r => r.le 7000) = true) (hT : Tab w) :
  Calls Tryz.prog 49 #[.slice A n c, .slice B m d] w fun e w' => e = .returned (.bool (formedB ts us)) /\ Ext w w' := by
 have Hlen := Lib.hid h.len;have Hlen' := Lib.hid k.len
 go_enter Tryz.func49, Tryz.ntmps49
 go_wp2_with fail
 go_loopw [5, 12] (fun ln i wr => ∃ j P : Nat, j <= n /\ P = 2 ^ j /\ i = .int .i64 (j : Int) /\ ln = .int .i64 (P : Int) /\ Ext w wr /\ towerB (ts.take j) 0 = true) (fun _ i _ => n - (intOf i).toNat)
 case atStart => exact ⟨0, 1, by omega, rfl, rfl, rfl, Ext.refl _, rfl⟩
 case round =>
  obtain ⟨j, P, hj, hP, rfl, rfl, ext, hall⟩ := hrel
  have hPb : P <= 65536 := by
   rw [hP];exact Nat.le_trans (Nat.pow_le_pow_right (by omega) (show j <= 16 by omega)) (by decide)
  have HA := Lib.hid hall;have HP := Lib.hid hP;clear hall hP
  by_cases hlt : j < n
  ·have hjl : j < ts.length := by rw [Hlen.out]; exact hlt
   have hI : (j : Int) < (n : Int) := by omega
   obtain ⟨p, off, rfl, hr0⟩ := h.at_ (fun e => by rw [e] at hjl; exact absurd hjl (Nat.not_lt_zero _));obtain ⟨A', n', c', e0, hx⟩ := hr0 j hjl;replace e0 := ext.cellv e0;have hle := hr ts[j] (List.getElem_mem hjl);have HT := Lib.hid (towerB_step hjl HA.out);have HM := Lib.hid (fun hf : validL ts[j] (2 ^ j) = false => towerB_stop hjl hf);generalize ts[j] = l at hx hle HT HM
   cases hs : validL l P with
   | false =>
    have HS := Lib.hid hs;clear hs
    go_wp2_with fail
    refine (p_validT (hx.ext ext) P (by omega) hle (hT.ext ext)).mono ?_;rintro e V ⟨rfl, hxv⟩;rw [HS.out]
    go_wp2_with fail
    go_ret
    exact ⟨by unfold formedB; rw [HM.out (by rw [<- HP.out]; exact HS.out)]; rfl, ext.trans hxv⟩
   | true =>
    have HS := Lib.hid hs;clear hs
    go_wp2_with fail
    refine (p_validT (hx.ext ext) P (by omega) hle (hT.ext ext)).mono ?_;rintro e V ⟨rfl, hxv⟩;rw [HS.out]
    go_wp2_with fail
    go_roundw
    case rel => exact ⟨j + 1, P * 2, by omega, by rw [Nat.pow_succ, HP.out], by go_num, by go_num, ext.trans hxv, by rw [HT.out, <- HP.out]; exact HS.out⟩
    case measure => simp [intOf]; omega
  ·have hI : (n : Int) <= (j : Int) := by omega
   have hjn : j = n := by omega
   have ha := HA.out;rw [List.take_of_length_le (by rw [Hlen.out]; omega)] at ha;have Ha := Lib.hid ha;have hP2 : P = 2 ^ ts.length := by rw [HP.out, hjn, Hlen.out]
   have HP2 := Lib.hid hP2;clear ha hP2 hjn
   go_wp2_with fail
   go_loopw [25] (fun i wr => ∃ o : Nat, o <= m /\ i = .int .i64 (o : Int) /\ Ext w wr /\ (us.take o).all (fun l => validL l P) = true) (fun i _ => m - (intOf i).toNat)
   case atStart => exact ⟨0, by omega, rfl, ext, by simp⟩
   case round =>
    clear ext;obtain ⟨o, ho, rfl, ext, hall⟩ := hrel;have HO := Lib.hid hall;clear hall
    by_cases hlt : o < m
    ·have hjl : o < us.length := by rw [Hlen'.out]; exact hlt
     have hI : (o : Int) < (m : Int) := by omega
     obtain ⟨p, off, rfl, hr0⟩ := k.at_ (fun e => by rw [e] at hjl; exact absurd hjl (Nat.not_lt_zero _));obtain ⟨A', n', c', e0, hx⟩ := hr0 o hjl;replace e0 := ext.cellv e0;have hle := hr' us[o] (List.getElem_mem hjl);have HT := Lib.hid (show (us.take (o + 1)).all (fun l => validL l P) = ((us.take o).all (fun l => validL l P) && validL us[o] P) by rw [List.take_succ_eq_append_getElem hjl, List.all_append]; simp)
     have HM := Lib.hid (fun hf : validL us[o] P = false => show us.all (fun l => validL l P) = false by
      rw [List.all_eq_false];exact ⟨us[o], List.getElem_mem hjl, by rw [hf]; simp⟩)
     generalize us[o] = l at hx hle HT HM
     cases hs : validL l P with
     | false =>
      have HS := Lib.hid hs;clear hs
      go_wp2_with fail
      refine (p_validT (hx.ext ext) P (by omega) hle (hT.ext ext)).mono ?_;rintro e V ⟨rfl, hxv⟩;rw [HS.out]
      go_wp2_with fail
      go_ret
      exact ⟨by unfold formedB; rw [<- HP2.out, HM.out HS.out, Bool.and_false]; rfl, ext.trans hxv⟩
     | true =>
      have HS := Lib.hid hs;clear hs
      go_wp2_with fail
      refine (p_validT (hx.ext ext) P (by omega) hle (hT.ext ext)).mono ?_;rintro e V ⟨rfl, hxv⟩;rw [HS.out]
      go_wp2_with fail
      go_roundw
      case rel => exact ⟨o + 1, by omega, by go_num, ext.trans hxv, by rw [HT.out, HO.out]; exact HS.out⟩
      case measure => simp [intOf]; omega
    ·have hI : (m : Int) <= (o : Int) := by omega
     go_wp2_with fail
     go_ret
     refine ⟨?_, ext⟩;have ho := HO.out;rw [List.take_of_length_le (by rw [Hlen'.out]; omega)] at ho;have : formedB ts us = true := by unfold formedB; rw [Ha.out, <- HP2.out, ho]; rfl
     rw [this]; rfl
end
def zeroB (qs : List Rat) : Bool := qs.all fun q => decide (q = 0)
section
variable {w w' : World} {q x : Rat} {L M : Nat} {s t : Bool} {A B : Option Addr} {n c m d : Nat} {sx tx : Bool} {Ax Bx : Option Addr} {nx cx mx dx : Nat} {qs ps : List Rat} {rs : List RawR} {ts us : List (List RawR)}
theorem p_cloneT (h : NR w q L s A n c t B m d) (hL : L <= 100000) : Calls Tryz.prog 52 #[.agg #[.bool s, .slice A n c, .bool t, .slice B m d]] w (RetNR q L w) := by
 go_enter Tryz.func52, Tryz.ntmps52
 go_upto_region 1 with (fail)
 obtain ⟨W, hW, extW, bx, bz, hz⟩ := box2 w 30 30 #[.bool s, .slice A n c, .bool t, .slice B m d] #[Value.bool false, Value.slice none 0 0, Value.bool false, Value.slice none 0 0];rw [<- hW];clear hW;refine wpL.st 7 (fun hQ ES => ?_);refine wpL.u 0 3 hQ ES ?_
 try simp only [zP]
 refine wpL.u 3 6 hQ ES ?_
 try simp only [zP]
 refine wpL.t 1 4 ?v_2 hQ ?y_2 ES ?_
 case y_2 => intro w' hSw;have k00 := (bx.ext hSw).c4;go_simp;try rfl
 try simp only [zP]
 refine wpL.t 4 7 ?v_3 hQ ?y_3 ES ?_
 case y_3 => intro w' hSw;have k00 := (bx.ext hSw).c4;go_simp;try rfl
 try simp only [zP]
 refine wpL.cl (i := 2) rfl (fun K hK => ?_);go_simp
 (go_at_call 92; refine (p_Norm (h.num.ext (extW.trans ES)) hL).mono ?_; rintro e wa ⟨s1, A1, n1, c1, rfl, h1, hx0⟩; have E0_1 := Ext.trans ES hx0)
 refine hK.out _ _ E0_1 ?_;clear hK K
 try simp only [zP]
 refine wpL.cl (i := 5) rfl (fun K hK => ?_);go_simp
 (go_at_call 92; refine (p_Norm (h.den.ext (extW.trans E0_1)) hL).mono ?_; rintro e wb ⟨s2, A2, n2, c2, rfl, h2, hx1⟩; have E1_1 := Ext.trans E0_1 hx1)
 refine hK.out _ _ E1_1 ?_;clear hK K
 try simp only [zP]
 refine wpL.u 6 9 hQ E1_1 ?_
 try simp only [zP]
 have z0 := (bz.ext E1_1).cell 0 _ rfl;have z1 := (bz.ext E1_1).cell 1 _ rfl;have z2 := (bz.ext E1_1).cell 2 _ rfl;have z3 := (bz.ext E1_1).cell 3 _ rfl;have f0 := (bz.ext E1_1).frozen 0;have f1 := (bz.ext E1_1).frozen 1;have f2 := (bz.ext E1_1).frozen 2;have f3 := (bz.ext E1_1).frozen 3;refine wpL.tl (i := 7) rfl (fun K hK => ?_);go_simp;refine hK.out _ _ ?_;clear hK K
 try simp only [zP]
 refine wpL.done (by kernel_rfl) ?_ _;clear hQ
 go_wp2_with fail
 obtain ⟨b1, b2, b3, b4⟩ := fin_quad (s := s1) (A := A1) (n := n1) (c := c1) (t := s2) (B := A2) (m := n2) (d := c2) (bz.ext E1_1);have r0 := b1.cell 0 (.bool s1) rfl;have r1 := b1.cell 1 (.slice A1 n1 c1) rfl;have r2 := b1.cell 2 (.bool s2) rfl;have r3 := b1.cell 3 (.slice A2 n2 c2) rfl;unfold set4 at r0 r1 r2 r3;refine bodyPost_ret (v := .agg #[.bool s1, .slice A1 n1 c1, .bool s2, .slice A2 n2 c2]) (by simp [results, Tryz.results52, go_sem, r0, r1, r2, r3]) rfl ⟨s1, A1, n1, c1, s2, A2, n2, c2, rfl, ⟨?_, ?_⟩, b3 _ (extW.trans E1_1) (by omega)⟩
 ·exact b2 _ _ _ _ _ _ (h1.ext hx1)
 ·exact b2 _ _ _ _ _ _ h2
theorem p_zerosT (n : Nat) (hn : n <= 1000) : Calls Tryz.prog 51 #[.int .i64 (n : Int)] w fun e w' => e = .returned (.slice (some ⟨w.heap.size, 0, none⟩) n n) /\ Fill w' w.heap.size n (List.replicate n 0) 2 /\ Ext w w' := by
 have hmk := mk_rats n (by omega)
 go_enter Tryz.func51, Tryz.ntmps51
 go_wp2_with fail
 go_loopw [9] (fun i wr => ∃ k : Nat, k <= n /\ i = .int .i64 (k : Int) /\ Ext w wr /\ Fill wr w.heap.size n (List.replicate k 0) 2) (fun i _ => n - (intOf i).toNat)
 case atStart => exact ⟨0, Nat.zero_le _, rfl, (Ext.refl w).alloc _, Fill.new w n _⟩
 case round =>
  obtain ⟨k, hk, rfl, ext, hF⟩ := hrel
  by_cases hlt : k < n
  ·have hkl : (List.replicate k (0 : Rat)).length = k := List.length_replicate
   have HR := Lib.hid (List.replicate_succ' (n := k) (a := (0 : Rat)))
   go_wp2_with fail
   refine (p_FromIntR 0 (by omega) (by omega)).mono ?_;rintro e V ⟨s7, A7, n7, c7, t7, B7, m7, d7, rfl, h7, hxt⟩;replace hF := hF.ext hxt;replace ext := ext.trans hxt;have hcs := hF.cells (by rw [hkl]; exact hlt);rw [hkl] at hcs;obtain ⟨p0, p1, p2, p3⟩ := hcs;have f0 := hF.frozen (k * 4);have f1 := hF.frozen (k * 4 + 1);have f2 := hF.frozen (k * 4 + 2);have f3 := hF.frozen (k * 4 + 3)
   go_wp2_with fail
   have P := hF.put hkl hlt h7
   go_roundw
   case rel => exact ⟨k + 1, by omega, by go_num, P.2.2.1 _ ext (Nat.le_refl _), by rw [HR.out]; exact P.1⟩
   case measure => simp [intOf]; omega
  ·have hkn : k = n := by omega
   subst hkn
   go_wp2_with fail
   go_ret
   exact ⟨rfl, hF, ext⟩
theorem num_zeroT {q : Rat} (h : q = 0) : q.num.sign = 0 := by rw [h]; rfl
theorem num_nzT {q : Rat} (h : q ≠ 0) : q.num.sign ≠ 0 := fun e => h (Rat.num_eq_zero.1 (Int.sign_eq_zero_iff_zero.1 e))
theorem p_ZeroT (h : Pol w A n c qs L) (hL : L <= 7000) (hn : n <= 100000) : Calls Tryz.prog 35 #[.slice A n c] w fun e w' => e = .returned (.bool (zeroB qs)) /\ Ext w w' := by
 have Hlen := Lib.hid h.len
 go_enter Tryz.func35, Tryz.ntmps35
 go_wp2_with fail
 go_loopw [7] (fun i wr => ∃ k : Nat, k <= n /\ i = .int .i64 (k : Int) /\ Ext w wr /\ zeroB (qs.take k) = true) (fun i _ => n - (intOf i).toNat)
 case atStart => exact ⟨0, by omega, rfl, Ext.refl _, by simp [zeroB]⟩
 case round =>
  obtain ⟨k, hk, rfl, ext, hall⟩ := hrel;have HA := Lib.hid hall;clear hall
  by_cases hlt : k < n
  ·have hj : k < qs.length := by rw [Hlen.out]; exact hlt
   have hI : (k : Int) < (n : Int) := by omega
   obtain ⟨p, off, rfl, hr⟩ := h.at_ (fun e => by rw [e] at hj; exact absurd hj (Nat.not_lt_zero _));obtain ⟨sx, Ax, nx, cx, tx, Bx, mx, dx, e0, e1, e2, e3, hx⟩ := (hr.ext ext).at_ k hj;have e0' : wr.cell? ⟨p, off + k * 4, none⟩ = some (.bool sx) := by rw [Nat.mul_comm]; exact e0
   have e1' : wr.cell? ⟨p, off + k * 4 + 1, none⟩ = some (.slice Ax nx cx) := by rw [Nat.mul_comm]; exact e1
   have e2' : wr.cell? ⟨p, off + k * 4 + 2, none⟩ = some (.bool tx) := by rw [Nat.mul_comm]; exact e2
   have e3' : wr.cell? ⟨p, off + k * 4 + 3, none⟩ = some (.slice Bx mx dx) := by rw [Nat.mul_comm]; exact e3
   have HT := Lib.hid (show zeroB (qs.take (k + 1)) = (zeroB (qs.take k) && decide (qs[k] = 0)) by unfold zeroB; rw [List.take_succ_eq_append_getElem hj, List.all_append]; simp)
   have HM := Lib.hid (fun hf : qs[k] ≠ 0 => show zeroB qs = false by
    unfold zeroB;rw [List.all_eq_false];exact ⟨qs[k], List.getElem_mem hj, by simpa using hf⟩)
   generalize qs[k] = r at hx HT HM
   go_upto_region 4 with (fail)
   obtain ⟨W, hW, extW, bx, hz⟩ := box1 wr 30 #[.bool sx, .slice Ax nx cx, .bool tx, .slice Bx mx dx];rw [<- hW];clear hW hz e0 e1 e2 e3 e0' e1' e2' e3';replace hx := hx.ext extW;replace ext := ext.trans extW;have x0 := bx.cell 0 (.bool sx) rfl;have x1 := bx.cell 1 (.slice Ax nx cx) rfl;have x2 := bx.cell 2 (.bool tx) rfl;have x3 := bx.cell 3 (.slice Bx mx dx) rfl
   by_cases hq : r = 0
   ·have HS := Lib.hid (num_zeroT hq)
    have HQ := Lib.hid hq;clear hq
    go_wp2_with fail
    refine (p_SignR hx (by omega)).mono ?_;rintro e V ⟨rfl, hxt⟩;rw [HS.out]
    go_wp2_with fail
    go_roundw
    case rel => exact ⟨k + 1, by omega, by go_num, ext.trans hxt, by rw [HT.out, HA.out, decide_eq_true HQ.out]; rfl⟩
    case measure => simp [intOf]; omega
   ·obtain ⟨S, hS, dS⟩ : ∃ S, r.num.sign = S /\ (S == 0) = false := ⟨_, rfl, beq_eq_false_iff_ne.2 (num_nzT hq)⟩
    have HS := Lib.hid hS;have HQ := Lib.hid hq;clear hS hq
    go_wp2_with fail
    refine (p_SignR hx (by omega)).mono ?_;rintro e V ⟨rfl, hxt⟩;rw [HS.out]
    go_wp2_with fail
    go_ret
    exact ⟨by rw [HM.out HQ.out]; rfl, ext.trans hxt⟩
  ·have hI : (n : Int) <= (k : Int) := by omega
   go_wp2_with fail
   go_ret
   refine ⟨?_, ext⟩;have ha := HA.out;rw [List.take_of_length_le (by rw [Hlen.out]; omega)] at ha;rw [ha]; rfl
end
def TowL (ts : List (List Rat)) : Prop := ∀ i (h : i < ts.length), ts[i].length = 2 ^ i
section
variable {w w' : World} {ts : List (List Rat)} {us : List (List RawR)} {rs : List RawR} {qs ps : List Rat} {A B : Option Addr} {n c m d b o k L M : Nat}
theorem NR.rawR {q : Rat} {s t : Bool} (h : NR w q L s A n c t B m d) : ∃ xs ys, RI w A n c xs /\ RI w B m d ys /\ (RawR.mk s xs t ys).valid = true /\ (RawR.mk s xs t ys).le L = true := by
 obtain ⟨xs, ys, h1, h2, h3, h4, h5, _⟩ := h.raw;refine ⟨xs, ys, h1, h2, h3, ?_⟩;have := h1.len;have := h2.len;unfold RawR.le;simp only [Bool.and_eq_true, decide_eq_true_eq];omega
theorem Pol.raw (h : Pol w A n c qs L) : ∃ rs : List RawR, RawP w A n c rs /\ rs.all RawR.valid = true /\ rs.all (fun r => r.le L) = true /\ rs.length = qs.length := by
 rcases Nat.eq_zero_or_pos n with h0 | h0
 ·exact ⟨[], ⟨h0.symm, h.cap, h.top, fun e => absurd rfl e⟩, rfl, rfl, by rw [h.len, h0]; rfl⟩
 obtain ⟨b, off, rfl, hr⟩ := h.at_ (fun e => by have := h.len; rw [e] at this; simp at this; omega)
 have key : ∀ i, i < n -> ∃ r : RawR, RawAt w b (off + 4 * i) r /\ r.valid = true /\ r.le L = true := by
  intro i hi;obtain ⟨s, A', n', c', t, B', m', d', e0, e1, e2, e3, hx⟩ := hr.at_ i (by rw [h.len]; exact hi);obtain ⟨xs, ys, h1, h2, h3, h4⟩ := hx.rawR;exact ⟨⟨s, xs, t, ys⟩, ⟨A', n', c', B', m', d', e0, e1, e2, e3, h1, h2⟩, h3, h4⟩
 haveI : Inhabited RawR := ⟨⟨false, [], false, []⟩⟩
 obtain ⟨F, hF⟩ := Deep.choose_lt (n := n) (α := RawR) (p := fun i r => RawAt w b (off + 4 * i) r /\ r.valid = true /\ r.le L = true) key;refine ⟨(List.range n).map F, ⟨by simp, h.cap, h.top, fun _ => ⟨b, off, rfl, fun i hi => ?_⟩⟩, ?_, ?_, by simp [h.len]⟩
 ·have hi2 : i < n := by simpa using hi
  have := (hF i hi2).1
  simpa using this
 ·rw [List.all_eq_true]
  intro r hr';obtain ⟨i, hi, rfl⟩ := List.mem_map.1 hr';exact (hF i (List.mem_range.1 hi)).2.1
 ·rw [List.all_eq_true]
  intro r hr';obtain ⟨i, hi, rfl⟩ := List.mem_map.1 hr';exact (hF i (List.mem_range.1 hi)).2.2
theorem PolT.raw (h : PolT w A n c ts L) : ∃ us : List (List RawR), RawT w A n c us /\ us.length = n /\ (∀ l ∈ us, l.all (fun r => r.le L) = true) /\ ∀ i (h : i < us.length) (h' : i < ts.length), us[i].all RawR.valid = true /\ us[i].length = ts[i].length := by
 rcases Nat.eq_zero_or_pos n with h0 | h0
 ·exact ⟨[], ⟨h0.symm, h.cap, h.top, fun e => absurd rfl e⟩, h0.symm, fun l hl => (by cases hl), fun i hi => (by cases hi)⟩
 obtain ⟨b, off, rfl, hr⟩ := h.at_ (fun e => by have := h.len; rw [e] at this; simp at this; omega)
 have key : ∀ i, i < n -> ∃ r : List RawR, (∃ A' n' c', w.cell? ⟨b, off + i, none⟩ = some (.slice A' n' c') /\ RawP w A' n' c' r) /\ r.all (fun r => r.le L) = true /\ ∀ h' : i < ts.length, r.all RawR.valid = true /\ r.length = ts[i].length := by
  intro i hi;have hi' : i < ts.length := by rw [h.len]; exact hi
  obtain ⟨A', n', c', e0, hx⟩ := hr i hi';obtain ⟨rs, h1, h2, h3, h4⟩ := hx.raw;exact ⟨rs, ⟨A', n', c', e0, h1⟩, h3, fun _ => ⟨h2, h4⟩⟩
 obtain ⟨F, hF⟩ := Deep.choose_lt (n := n) (α := List RawR) (p := fun i r => (∃ A' n' c', w.cell? ⟨b, off + i, none⟩ = some (.slice A' n' c') /\ RawP w A' n' c' r) /\ r.all (fun r => r.le L) = true /\ ∀ h' : i < ts.length, r.all RawR.valid = true /\ r.length = ts[i].length) key;refine ⟨(List.range n).map F, ⟨by simp, h.cap, h.top, fun _ => ⟨b, off, rfl, fun i hi => ?_⟩⟩, by simp, ?_, ?_⟩
 ·have hi2 : i < n := by simpa using hi
  have := (hF i hi2).1
  simpa using this
 ·intro l hl
  obtain ⟨i, hi, rfl⟩ := List.mem_map.1 hl;exact (hF i (List.mem_range.1 hi)).2.1
 ·intro i hi hi'
  have hi2 : i < n := by simpa using hi
  have := (hF i hi2).2.2 hi'
  simpa using this
theorem towerB_of : ∀ (us : List (List RawR)) (k : Nat), (∀ i (h : i < us.length), validL us[i] (2 ^ (k + i)) = true) -> towerB us k = true
 | [], _, _ => rfl
 | l :: us, k, h => by
  rw [towerB];have h0 := h 0 (by simp);simp only [List.getElem_cons_zero, Nat.add_zero] at h0
  rw [h0, towerB_of us (k + 1) (fun i hi => by
   have := h (i + 1) (by simp; omega);simp only [List.getElem_cons_succ] at this;rw [show k + 1 + i = k + (i + 1) by omega];exact this)]
  rfl
theorem validL_of (hv : rs.all RawR.valid = true) (hl : rs.length = k) : validL rs k = true := by unfold validL; rw [hv, decide_eq_true hl]; rfl
theorem PolT.tower (h : PolT w A n c ts L) (ht : TowL ts) (hL : L <= 7000) : ∃ us : List (List RawR), RawT w A n c us /\ us.length = n /\ (∀ l ∈ us, l.all (fun r => r.le 7000) = true) /\ towerB us 0 = true := by
 obtain ⟨us, h1, h2, h3, h4⟩ := h.raw
 have hle : ∀ l : List RawR, l.all (fun r => r.le L) = true -> l.all (fun r => r.le 7000) = true := fun l hl => by
  rw [List.all_eq_true] at hl ⊢;intro r hr;have := hl r hr;unfold RawR.le at this ⊢;simp only [Bool.and_eq_true, decide_eq_true_eq] at this ⊢;omega
 refine ⟨us, h1, h2, fun l hl => hle l (h3 l hl), towerB_of us 0 (fun i hi => ?_)⟩;have hi' : i < ts.length := by rw [h.len, <- h2]; exact hi
 rw [Nat.zero_add];exact validL_of (h4 i hi hi').1 ((h4 i hi hi').2.trans (ht i hi'))
theorem Pol.rawK (h : Pol w A n c qs L) (hL : L <= 7000) : ∃ rs : List RawR, RawP w A n c rs /\ rs.all RawR.valid = true /\ rs.all (fun r => r.le 7000) = true /\ rs.length = qs.length := by
 obtain ⟨rs, h1, h2, h3, h4⟩ := h.raw;refine ⟨rs, h1, h2, ?_, h4⟩;rw [List.all_eq_true] at h3 ⊢;intro r hr;have := h3 r hr;unfold RawR.le at this ⊢;simp only [Bool.and_eq_true, decide_eq_true_eq] at this ⊢;omega
theorem p_formed0 (h : PolT w A n c ts L) (ht : TowL ts) (hL : L <= 7000) (hn : n <= 16) (hT : Tab w) : Calls Tryz.prog 49 #[.slice A n c, .slice none 0 0] w fun e w' => e = .returned (.bool true) /\ Ext w w' := by
 obtain ⟨us, h1, h2, h3, h4⟩ := h.tower ht hL;refine (p_formedTG h1 (RawT.none w) hn (by omega) h3 (fun l hl => by cases hl) hT).mono ?_;rintro e w' ⟨rfl, hx⟩;exact ⟨by unfold formedB; rw [h4]; rfl, hx⟩
theorem p_formed1 {g : Nat} {T : TypeId} (h : PolT w A n c ts L) (ht : TowL ts) (hb : Box w g T #[.slice B m d]) (hq : Pol w B m d qs L) (hm : m = 2 ^ n) (hL : L <= 7000) (hn : n <= 16) (hT : Tab w) : Calls Tryz.prog 49 #[.slice A n c, .slice (some ⟨g, 0, none⟩) 1 1] w fun e w' => e = .returned (.bool true) /\ Ext w w' := by
 obtain ⟨us, h1, h2, h3, h4⟩ := h.tower ht hL;obtain ⟨rs, k1, k2, k3, k4⟩ := hq.rawK hL;refine (p_formedTG h1 (RawT.one hb k1) hn (by omega) h3 (fun l hl => by rw [List.mem_singleton.1 hl]; exact k3) hT).mono ?_;rintro e w' ⟨rfl, hx⟩;exact ⟨by unfold formedB; rw [h4, h2]; simp [validL_of k2 (show rs.length = 2 ^ n by rw [k4, hq.len, hm])], hx⟩
theorem p_formed2 {g : Nat} {T : TypeId} {D : Option Addr} {l e0 : Nat} (h : PolT w A n c ts L) (ht : TowL ts) (hb : Box w g T #[.slice B m d, .slice D l e0]) (hq : Pol w B m d qs L) (hp : Pol w D l e0 ps L) (hm : m = 2 ^ n) (hl : l = 2 ^ n) (hL : L <= 7000) (hn : n <= 16) (hT : Tab w) : Calls Tryz.prog 49 #[.slice A n c, .slice (some ⟨g, 0, none⟩) 2 2] w fun e w' => e = .returned (.bool true) /\ Ext w w' := by
 obtain ⟨us, h1, h2, h3, h4⟩ := h.tower ht hL;obtain ⟨rs, k1, k2, k3, k4⟩ := hq.rawK hL;obtain ⟨ss, j1, j2, j3, j4⟩ := hp.rawK hL
 refine (p_formedTG h1 (RawT.two hb k1 j1) hn (by omega) h3 (fun l hl => by
  rcases List.mem_cons.1 hl with rfl | hl
  ·exact k3
  ·rw [List.mem_singleton.1 hl]; exact j3) hT).mono ?_
 rintro e w' ⟨rfl, hx⟩;exact ⟨by unfold formedB; rw [h4, h2]; simp [validL_of k2 (show rs.length = 2 ^ n by rw [k4, hq.len, hm]), validL_of j2 (show ss.length = 2 ^ n by rw [j4, hp.len, hl])], hx⟩
end
end
section
open Go.RowKit
def RRow (w : World) (g : Nat) (qs : List Rat) (L : Nat) : Prop := ∃ cs : List Value, Box w g 30 cs.toArray /\ CellsOf w L qs cs
section
variable {w w' : World} {qs ps : List Rat} {q : Rat} {A B : Option Addr} {n c m d a b g k L M : Nat} {s t : Bool} {cs : List Value}
theorem CellsOf.split : ∀ (ps : List Rat) {cs : List Value}, CellsOf w L (ps ++ qs) cs -> ∃ ds es, cs = ds ++ es /\ CellsOf w L ps ds /\ CellsOf w L qs es
 | [], cs, h => ⟨[], cs, rfl, .nil, h⟩
 | p :: ps, cs, h => by
  cases h with
  | cons hq hr =>
   obtain ⟨ds, es, rfl, h1, h2⟩ := CellsOf.split ps hr;exact ⟨_, es, rfl, .cons hq h1, h2⟩
theorem RRow.ext (h : RRow w g qs L) (e : Ext w w') : RRow w' g qs L := by
 obtain ⟨cs, h1, h2⟩ := h;exact ⟨cs, h1.ext e, h2.ext e⟩
theorem RRow.le (h : RRow w g qs L) (hl : L <= M) : RRow w g qs M := by
 obtain ⟨cs, h1, h2⟩ := h;exact ⟨cs, h1, h2.le hl⟩
theorem RRow.lt (h : RRow w g qs L) : g < w.heap.size := by
 obtain ⟨cs, h1, _⟩ := h;exact h1.lt
theorem RRow.frozen (h : RRow w g qs L) (i : Nat) : w.frozen? ⟨g, i, none⟩ = false := by
 obtain ⟨cs, h1, _⟩ := h;exact h1.frozen i
theorem RRow.rats (h : RRow w g qs L) : RatsAt w g 0 qs L := by
 obtain ⟨cs, h1, h2⟩ := h;exact RatsAt.of_box h1 h2
theorem RRow.pol (h : RRow w g qs L) (hn : qs.length = n) (hm : n <= maxLen) : Pol w (some ⟨g, 0, none⟩) n n qs L := ⟨hn, Nat.le_refl _, hm, fun _ => ⟨g, 0, rfl, h.rats⟩⟩
theorem Fill.rrow (h : Fill w g n qs L) (hn : qs.length = n) : RRow w g qs L := by
 obtain ⟨⟨ds, h1, h2⟩, _⟩ := h;rw [hn, Nat.sub_self, zeroC, List.append_nil] at h1;exact ⟨ds, h1, h2⟩
theorem RRow.get (h : RRow w g qs L) (hk : k < qs.length) : ∃ s A n c t B m d, w.cell? ⟨g, k * 4, none⟩ = some (.bool s) /\ w.cell? ⟨g, k * 4 + 1, none⟩ = some (.slice A n c) /\ w.cell? ⟨g, k * 4 + 2, none⟩ = some (.bool t) /\ w.cell? ⟨g, k * 4 + 3, none⟩ = some (.slice B m d) /\ NR w qs[k] L s A n c t B m d := by
 obtain ⟨cs, h1, h2⟩ := h;obtain ⟨s, A, n, c, t, B, m, d, e0, e1, e2, e3, e4⟩ := h2.get k hk;rw [Nat.mul_comm 4 k] at e0 e1 e2 e3;exact ⟨s, A, n, c, t, B, m, d, h1.cell _ _ (by simpa using e0), h1.cell _ _ (by simpa using e1), h1.cell _ _ (by simpa using e2), h1.cell _ _ (by simpa using e3), e4⟩
theorem RRow.put (h : RRow w g qs L) (hk : k < qs.length) (hq : NR w q L s A a c t B b d) :
  RRow ((((w.setCell ⟨g, k * 4, none⟩ (.bool s)).setCell ⟨g, k * 4 + 1, none⟩ (.slice A a c)).setCell ⟨g, k * 4 + 2, none⟩ (.bool t)).setCell ⟨g, k * 4 + 3, none⟩ (.slice B b d)) g (qs.set k q) L /\
  (∀ z L s' A' n' c', NI w z L s' A' n' c' -> NI ((((w.setCell ⟨g, k * 4, none⟩ (.bool s)).setCell ⟨g, k * 4 + 1, none⟩ (.slice A a c)).setCell ⟨g, k * 4 + 2, none⟩ (.bool t)).setCell ⟨g, k * 4 + 3, none⟩ (.slice B b d)) z L s' A' n' c') /\
  (∀ W, Ext W w -> W.heap.size <= g -> Ext W ((((w.setCell ⟨g, k * 4, none⟩ (.bool s)).setCell ⟨g, k * 4 + 1, none⟩ (.slice A a c)).setCell ⟨g, k * 4 + 2, none⟩ (.bool t)).setCell ⟨g, k * 4 + 3, none⟩ (.slice B b d))) := by
 obtain ⟨cs, h1, h2⟩ := h;have e1 : qs = qs.take k ++ qs[k] :: qs.drop (k + 1) := by rw [<- List.drop_eq_getElem_cons hk, List.take_append_drop]
 rw [e1] at h2;obtain ⟨ds, es, rfl, h3, h4⟩ := CellsOf.split _ h2;have hH : Half w g (qs.take k) (qs[k] :: qs.drop (k + 1)) L L := ⟨ds, es, h1, h3, h4⟩;have hlk : (qs.take k).length = k := by rw [List.length_take]; omega
 obtain ⟨p1, p2, p3⟩ := hH.put (k := k) hlk hq;refine ⟨?_, p2, p3⟩;obtain ⟨ds', es', b1, b2, b3⟩ := p1.out;refine ⟨ds' ++ es', b1, ?_⟩;rw [List.set_eq_take_append_cons_drop, if_pos hk];have := b2.append b3
 rwa [List.append_assoc] at this
end
end
section
open Go.RowKit
attribute [local go_sem ↓] Go.wp_at_zero Go.wp_at_succ
section
variable {w w' : World} {q x : Rat} {L M : Nat} {s t : Bool} {A B : Option Addr} {n c m d : Nat} {sx tx : Bool} {Ax Bx : Option Addr} {nx cx mx dx : Nat} {qs ps : List Rat} {rs : List RawR} {ts us : List (List RawR)}
theorem p_RootT {T : List (List Rat)} (h : PolT w A n c T L) (ht : TowL T) (i : Nat) (hi : i < n) (hL : L <= 1000) (hn : n <= 9) (hT : Tab w) : Calls Tryz.prog 24 #[.slice A n c, .int .i64 (i : Int)] w (RetPol ((List.replicate (2 ^ n) 0).set (2 ^ i) 1) 2 w) := by
 obtain ⟨P, hP⟩ : ∃ P, P = 2 ^ n := ⟨_, rfl⟩;obtain ⟨R, hR⟩ : ∃ R, R = 2 ^ i := ⟨_, rfl⟩;have hP1 : P <= 512 := by rw [hP]; exact Nat.le_trans (Nat.pow_le_pow_right (by omega) hn) (by decide)
 have hRP : R < P := by rw [hR, hP]; exact Nat.pow_lt_pow_right (by omega) hi
 have HP := Lib.hid hP;have HR := Lib.hid hR;have g1 : decide ((i : Int) < 0) = false := decide_eq_false (by omega);have g2 : decide ((n : Int) <= (i : Int)) = false := decide_eq_false (by omega);have g3 : decide (n <= i) = false := decide_eq_false (by omega);have hI0 : (R : Int) < (P : Int) := by omega
 have hW2 : wrap64 ((2 : Int) ^ n) = (P : Int) := by
  rw [hP];have e1 : ((2 : Int) ^ n) = ((2 ^ n : Nat) : Int) := by push_cast; rfl
  rw [e1];unfold wrap64;omega
 have hW3 : wrap64 ((2 : Int) ^ i) = (R : Int) := by
  rw [hR];have e1 : ((2 : Int) ^ i) = ((2 ^ i : Nat) : Int) := by push_cast; rfl
  rw [e1];unfold wrap64;omega
 have hW4 : IntKind.i64.wrap ((2 : Int) ^ i) = (R : Int) := by rw [<- hW3, IntKind.wrap_i64]; unfold wrap64; omega
 clear hP hR
 go_enter Tryz.func24, Tryz.ntmps24
 go_wp2_with fail
 refine (p_formed0 h ht (by omega) (by omega) hT).mono ?_;rintro e V ⟨rfl, hxt⟩
 go_wp2_with fail
 rw [hW2];refine (p_zerosT P (by omega)).mono ?_;rintro e V3 ⟨rfl, hF, hxv⟩;have hR : RRow V3 V.heap.size (List.replicate P 0) 2 := hF.rrow (by simp);have hlr : R < (List.replicate P (0 : Rat)).length := by simp; omega
 go_upto_region 4 with (fail)
 refine wpL.st 5 (fun hQ ES => ?_);refine wpL.u 0 23 hQ ES ?_
 try simp only [zP]
 refine wpL.u 1 24 hQ ES ?_
 try simp only [zP]
 refine wpL.u 2 25 hQ ES ?_
 try simp only [zP]
 refine wpL.cl (i := 3) rfl (fun K hK => ?_);go_simp
 (go_at_call 47; refine (p_FromIntR 1 (by omega) (by omega)).mono ?_; rintro e wa ⟨s7, A7, n7, c7, t7, B7, m7, d7, rfl, h7, hx0⟩; have E0_4 := Ext.trans ES hx0)
 refine hK.out _ _ E0_4 ?_;clear hK K
 try simp only [zP]
 refine wpL.u 4 27 hQ E0_4 ?_
 try simp only [zP]
 replace hR := hR.ext E0_4;obtain ⟨s8, A8, n8, c8, t8, B8, m8, d8, p0, p1, p2, p3, _⟩ := hR.get hlr;have f0 := hR.frozen (R * 4);have f1 := hR.frozen (R * 4 + 1);have f2 := hR.frozen (R * 4 + 2);have f3 := hR.frozen (R * 4 + 3);refine wpL.tl (i := 5) rfl (fun K hK => ?_);go_simp;refine hK.out _ _ ?_;clear hK K
 try simp only [zP]
 refine wpL.done (by kernel_rfl) ?_ _;clear hQ
 go_wp2_with fail
 have hPut := hR.put hlr h7
 go_ret
 refine ⟨_, P, P, rfl, ?_, hPut.2.2 _ ((hxt.trans hxv).trans E0_4) hxt.size⟩;rw [<- HP.out, <- HR.out];exact hPut.1.pol (by simp) (by unfold maxLen; omega)
end
section
variable {w w' : World} {q x : Rat} {L M : Nat} {s t : Bool} {A B : Option Addr} {n c m d : Nat} {sx tx : Bool} {Ax Bx : Option Addr} {nx cx mx dx : Nat} {qs ps : List Rat} {rs : List RawR} {ts us : List (List RawR)}
variable {sy ty : Bool} {Ay By : Option Addr} {ny cy my dy : Nat}
set_option maxRecDepth 100000 in
theorem p_each6_clone (h : Pol w A n c qs L) (hL : L <= 900) (hn : n <= 1000) : Calls Tryz.prog 61 #[.slice A n c, (.func (.func 52) #[] #[])] w (fun e w' => e = .returned (.slice (some ⟨w.heap.size, 0, none⟩) n n) /\ RRow w' w.heap.size (qs.map (fun x : Rat => x)) (L) /\ Ext w w') := by
 have hmk := mk_rats n (by omega);have Hlen := Lib.hid h.len
 go_enter Tryz.func61, Tryz.ntmps61
 go_wp2_with fail
 go_loopw [12] (fun i wr => ∃ k : Nat, k <= n /\ i = .int .i64 (k : Int) /\ Ext w wr /\ Fill wr w.heap.size n ((qs.take k).map (fun x : Rat => x)) (L)) (fun i _ => n - (intOf i).toNat)
 case atStart => exact ⟨0, Nat.zero_le _, rfl, (Ext.refl w).alloc _, Fill.new w n _⟩
 case round =>
  obtain ⟨k, hk, rfl, ext, hF⟩ := hrel
  by_cases hlt : k < n
  ·have hj : k < qs.length := by rw [Hlen.out]; exact hlt
   obtain ⟨b, off, rfl, hr⟩ := h.at_ (fun e => by rw [e] at hj; exact absurd hj (Nat.not_lt_zero _));obtain ⟨sx, Ax, nx, cx, tx, Bx, mx, dx, e0, e1, e2, e3, hx⟩ := (hr.ext ext).at_ k hj;have e0' : wr.cell? ⟨b, off + k * 4, none⟩ = some (.bool sx) := by rw [Nat.mul_comm]; exact e0
   have e1' : wr.cell? ⟨b, off + k * 4 + 1, none⟩ = some (.slice Ax nx cx) := by rw [Nat.mul_comm]; exact e1
   have e2' : wr.cell? ⟨b, off + k * 4 + 2, none⟩ = some (.bool tx) := by rw [Nat.mul_comm]; exact e2
   have e3' : wr.cell? ⟨b, off + k * 4 + 3, none⟩ = some (.slice Bx mx dx) := by rw [Nat.mul_comm]; exact e3
   have HT := Lib.hid (show (qs.take (k + 1)).map (fun x : Rat => x) = (qs.take k).map (fun x : Rat => x) ++ [(fun x : Rat => x) qs[k]] by rw [List.take_succ_eq_append_getElem hj, List.map_append]; rfl);have hkl : ((qs.take k).map (fun x : Rat => x)).length = k := by rw [List.length_map, List.length_take, Hlen.out]; omega
   go_wp2_with fail
   refine (p_cloneT hx (by omega)).mono ?_;rintro e V ⟨s7, A7, n7, c7, t7, B7, m7, d7, rfl, h7, hxt⟩;replace hF := hF.ext hxt;replace ext := ext.trans hxt;have hcs := hF.cells (by rw [hkl]; exact hlt);rw [hkl] at hcs;obtain ⟨p0, p1, p2, p3⟩ := hcs;have f0 := hF.frozen (k * 4);have f1 := hF.frozen (k * 4 + 1);have f2 := hF.frozen (k * 4 + 2);have f3 := hF.frozen (k * 4 + 3)
   go_wp2_with fail
   have P := hF.put hkl hlt h7
   go_roundw
   case rel => exact ⟨k + 1, by omega, by go_num, P.2.2.1 _ ext (Nat.le_refl _), by rw [HT.out]; exact P.1⟩
   case measure => simp [intOf]; omega
  ·have hkn : k = n := by omega
   subst hkn;have hml : ((qs.take k).map (fun x : Rat => x)).length = k := by rw [List.length_map, List.length_take, Hlen.out]; omega
   have hp := hF.rrow hml;rw [List.take_of_length_le (Nat.le_of_eq Hlen.out)] at hp
   go_wp2_with fail
   go_ret
   exact ⟨rfl, hp, ext⟩
end
end
section
def El (K : Type) : Nat -> Type
 | 0 => K
 | h + 1 => El K h × El K h
class RingK (K : Type) [Add K] [Mul K] [Neg K] [OfNat K 0] [OfNat K 1] : Prop where
 add_assoc : ∀ a b c : K, a + b + c = a + (b + c)
 add_comm : ∀ a b : K, a + b = b + a
 add_zero : ∀ a : K, a + 0 = a
 neg_add_cancel : ∀ a : K, -a + a = 0
 mul_comm : ∀ a b : K, a * b = b * a
 mul_assoc : ∀ a b c : K, a * b * c = a * (b * c)
 left_distrib : ∀ a b c : K, a * (b + c) = a * b + a * c
 mul_zero : ∀ a : K, a * 0 = 0
 mul_one : ∀ a : K, a * 1 = a
 one_mul : ∀ a : K, 1 * a = a
 mul_neg : ∀ a b : K, a * -b = -(a * b)
 neg_one : ∀ a : K, -a = -1 * a
 neg_neg : ∀ a : K, - -a = a
 neg_add : ∀ a b : K, -(a + b) = -a + -b
instance ringInt : RingK Int := ⟨Int.add_assoc, Int.add_comm, Int.add_zero, Int.add_left_neg, Int.mul_comm, Int.mul_assoc, Int.mul_add, Int.mul_zero, Int.mul_one, Int.one_mul, fun a b => by rw [Int.mul_neg], fun a => by rw [Int.neg_mul, Int.one_mul], Int.neg_neg, fun a b => Int.neg_add⟩
instance ringRat : RingK Rat := ⟨Rat.add_assoc, Rat.add_comm, Rat.add_zero, Rat.neg_add_cancel, Rat.mul_comm, Rat.mul_assoc, Rat.mul_add, Rat.mul_zero, Rat.mul_one, Rat.one_mul, fun a b => by rw [Rat.mul_neg], fun a => by rw [Rat.neg_mul, Rat.one_mul], Rat.neg_neg, fun a b => by rw [Rat.neg_add]⟩
section
variable {K : Type} [Add K] [Mul K] [Neg K] [OfNat K 0] [OfNat K 1] [RingK K]
def El.zero : (h : Nat) -> El K h
 | 0 => (0 : K)
 | h + 1 => (El.zero h, El.zero h)
def El.one : (h : Nat) -> El K h
 | 0 => (1 : K)
 | h + 1 => (El.one h, El.zero h)
def El.add : (h : Nat) -> El K h -> El K h -> El K h
 | 0 => fun (a b : K) => a + b
 | h + 1 => fun a b => (El.add h a.1 b.1, El.add h a.2 b.2)
def El.neg : (h : Nat) -> El K h -> El K h
 | 0 => fun (a : K) => -a
 | h + 1 => fun a => (El.neg h a.1, El.neg h a.2)
def El.mul (R : (h : Nat) -> El K h) : (h : Nat) -> El K h -> El K h -> El K h
 | 0 => fun (a b : K) => a * b
 | h + 1 => fun a b => (El.add h (El.mul R h a.1 b.1) (El.mul R h (El.mul R h a.2 b.2) (R h)), El.add h (El.mul R h a.1 b.2) (El.mul R h a.2 b.1))
def El.smul : (h : Nat) -> K -> El K h -> El K h
 | 0 => fun (k a : K) => k * a
 | h + 1 => fun k a => (El.smul h k a.1, El.smul h k a.2)
theorem El.ext {K : Type} {h : Nat} {a b : El K (h + 1)} (h1 : a.1 = b.1) (h2 : a.2 = b.2) : a = b := Prod.ext h1 h2
theorem El.add_assoc : (h : Nat) -> (a b c : El K h) -> El.add h (El.add h a b) c = El.add h a (El.add h b c)
 | 0, a, b, c => RingK.add_assoc (K := K) a b c
 | h + 1, a, b, c => El.ext (El.add_assoc h a.1 b.1 c.1) (El.add_assoc h a.2 b.2 c.2)
theorem El.add_comm : (h : Nat) -> (a b : El K h) -> El.add h a b = El.add h b a
 | 0, a, b => RingK.add_comm (K := K) a b
 | h + 1, a, b => El.ext (El.add_comm h a.1 b.1) (El.add_comm h a.2 b.2)
theorem El.add_zero : (h : Nat) -> (a : El K h) -> El.add h a (El.zero h) = a
 | 0, a => RingK.add_zero (K := K) a
 | h + 1, a => El.ext (El.add_zero h a.1) (El.add_zero h a.2)
theorem El.neg_add : (h : Nat) -> (a : El K h) -> El.add h (El.neg h a) a = El.zero h
 | 0, a => RingK.neg_add_cancel (K := K) a
 | h + 1, a => El.ext (El.neg_add h a.1) (El.neg_add h a.2)
theorem El.add4 (h : Nat) (a b c d : El K h) : El.add h (El.add h a b) (El.add h c d) = El.add h (El.add h a c) (El.add h b d) := by
 rw [El.add_assoc, El.add_assoc, <- El.add_assoc h b, El.add_comm h b c, El.add_assoc h c]
variable (R : (h : Nat) -> El K h)
theorem El.mul_comm : (h : Nat) -> (a b : El K h) -> El.mul R h a b = El.mul R h b a
 | 0, a, b => RingK.mul_comm (K := K) a b
 | h + 1, a, b => by
  refine El.ext ?_ ?_
  ·show El.add h (El.mul R h a.1 b.1) (El.mul R h (El.mul R h a.2 b.2) (R h)) = El.add h (El.mul R h b.1 a.1) (El.mul R h (El.mul R h b.2 a.2) (R h))
   rw [El.mul_comm h a.1 b.1, El.mul_comm h a.2 b.2]
  ·show El.add h (El.mul R h a.1 b.2) (El.mul R h a.2 b.1) = El.add h (El.mul R h b.1 a.2) (El.mul R h b.2 a.1)
   rw [El.mul_comm h a.1 b.2, El.mul_comm h a.2 b.1, El.add_comm]
theorem El.mul_add : (h : Nat) -> (a b c : El K h) -> El.mul R h a (El.add h b c) = El.add h (El.mul R h a b) (El.mul R h a c)
 | 0, a, b, c => RingK.left_distrib (K := K) a b c
 | h + 1, a, b, c => by
  have hr : ∀ x y z : El K h, El.mul R h (El.add h x y) z = El.add h (El.mul R h x z) (El.mul R h y z) := fun x y z => by
   rw [El.mul_comm R h, El.mul_add h, El.mul_comm R h z x, El.mul_comm R h z y]
  refine El.ext ?_ ?_
  ·show El.add h (El.mul R h a.1 (El.add h b.1 c.1)) (El.mul R h (El.mul R h a.2 (El.add h b.2 c.2)) (R h)) = El.add h (El.add h (El.mul R h a.1 b.1) (El.mul R h (El.mul R h a.2 b.2) (R h))) (El.add h (El.mul R h a.1 c.1) (El.mul R h (El.mul R h a.2 c.2) (R h)))
   rw [El.mul_add h, El.mul_add h, hr, El.add4]
  ·show El.add h (El.mul R h a.1 (El.add h b.2 c.2)) (El.mul R h a.2 (El.add h b.1 c.1)) = El.add h (El.add h (El.mul R h a.1 b.2) (El.mul R h a.2 b.1)) (El.add h (El.mul R h a.1 c.2) (El.mul R h a.2 c.1))
   rw [El.mul_add h, El.mul_add h, El.add4]
theorem El.add_mul (h : Nat) (a b c : El K h) : El.mul R h (El.add h a b) c = El.add h (El.mul R h a c) (El.mul R h b c) := by
 rw [El.mul_comm, El.mul_add, El.mul_comm R h c a, El.mul_comm R h c b]
theorem El.add_abcd (h : Nat) (a b c d : El K h) : El.add h (El.add h a b) (El.add h c d) = El.add h (El.add h a d) (El.add h c b) := by
 rw [El.add_comm h c d, El.add4, El.add_comm h b c]
theorem El.mul_assoc : (h : Nat) -> (a b c : El K h) -> El.mul R h (El.mul R h a b) c = El.mul R h a (El.mul R h b c)
 | 0, a, b, c => RingK.mul_assoc (K := K) a b c
 | h + 1, a, b, c => by
  have hc : ∀ x y z : El K h, El.mul R h (El.mul R h x y) z = El.mul R h (El.mul R h x z) y := fun x y z => by
   rw [El.mul_assoc h, El.mul_comm R h y z, <- El.mul_assoc h]
  refine El.ext ?_ ?_
  ·show El.add h (El.mul R h (El.add h (El.mul R h a.1 b.1) (El.mul R h (El.mul R h a.2 b.2) (R h))) c.1) (El.mul R h (El.mul R h (El.add h (El.mul R h a.1 b.2) (El.mul R h a.2 b.1)) c.2) (R h)) =
    El.add h (El.mul R h a.1 (El.add h (El.mul R h b.1 c.1) (El.mul R h (El.mul R h b.2 c.2) (R h)))) (El.mul R h (El.mul R h a.2 (El.add h (El.mul R h b.1 c.2) (El.mul R h b.2 c.1))) (R h))
   simp only [El.mul_add R h, El.add_mul R h, <- El.mul_assoc h];rw [hc _ (R h) c.1, El.add_abcd, El.add4, El.add_abcd]
  ·show El.add h (El.mul R h (El.add h (El.mul R h a.1 b.1) (El.mul R h (El.mul R h a.2 b.2) (R h))) c.2) (El.mul R h (El.add h (El.mul R h a.1 b.2) (El.mul R h a.2 b.1)) c.1) =
    El.add h (El.mul R h a.1 (El.add h (El.mul R h b.1 c.2) (El.mul R h b.2 c.1))) (El.mul R h a.2 (El.add h (El.mul R h b.1 c.1) (El.mul R h (El.mul R h b.2 c.2) (R h))))
   simp only [El.mul_add R h, El.add_mul R h, <- El.mul_assoc h];rw [hc _ (R h) c.2, El.add4, El.add_comm h (El.mul R h (El.mul R h a.2 b.1) c.1)]
theorem El.mul_zero : (h : Nat) -> (a : El K h) -> El.mul R h a (El.zero h) = El.zero h
 | 0, a => RingK.mul_zero (K := K) a
 | h + 1, a => by
  refine El.ext ?_ ?_
  ·show El.add h (El.mul R h a.1 (El.zero h)) (El.mul R h (El.mul R h a.2 (El.zero h)) (R h)) = El.zero h
   rw [El.mul_zero h, El.mul_zero h, El.mul_comm, El.mul_zero h, El.add_zero]
  ·show El.add h (El.mul R h a.1 (El.zero h)) (El.mul R h a.2 (El.zero h)) = El.zero h
   rw [El.mul_zero h, El.mul_zero h, El.add_zero]
theorem El.mul_one : (h : Nat) -> (a : El K h) -> El.mul R h a (El.one h) = a
 | 0, a => RingK.mul_one (K := K) a
 | h + 1, a => by
  refine El.ext ?_ ?_
  ·show El.add h (El.mul R h a.1 (El.one h)) (El.mul R h (El.mul R h a.2 (El.zero h)) (R h)) = a.1
   rw [El.mul_one h, El.mul_zero, El.mul_comm, El.mul_zero, El.add_zero]
  ·show El.add h (El.mul R h a.1 (El.zero h)) (El.mul R h a.2 (El.one h)) = a.2
   rw [El.mul_one h, El.mul_zero, El.add_comm, El.add_zero]
def toE : (h : Nat) -> List K -> El K h
 | 0, l => l.headD 0
 | h + 1, l => (toE h (l.take (2 ^ h)), toE h (l.drop (2 ^ h)))
def addL (a b : List K) : List K := List.zipWith (· + ·) a b
def negL (a : List K) : List K := a.map (- ·)
def mulL (R : Nat -> List K) : Nat -> List K -> List K -> List K
 | 0, a, b => [a.headD 0 * b.headD 0]
 | h + 1, a, b =>
  addL (mulL R h (a.take (2 ^ h)) (b.take (2 ^ h))) (mulL R h (mulL R h (a.drop (2 ^ h)) (b.drop (2 ^ h))) (R h)) ++
   addL (mulL R h (a.take (2 ^ h)) (b.drop (2 ^ h))) (mulL R h (a.drop (2 ^ h)) (b.take (2 ^ h)))
theorem two_pow_s (h : Nat) : 2 ^ (h + 1) = 2 ^ h + 2 ^ h := by rw [Nat.pow_succ, Nat.mul_two]
theorem addL_len {K : Type} [Add K] {a b : List K} {n : Nat} (ha : a.length = n) (hb : b.length = n) : (addL a b).length = n := by
 unfold addL; rw [List.length_zipWith, ha, hb, Nat.min_self]
theorem negL_len {K : Type} [Neg K] (a : List K) : (negL a).length = a.length := List.length_map _
theorem take_len {K : Type} {a : List K} {h : Nat} (ha : a.length = 2 ^ (h + 1)) : (a.take (2 ^ h)).length = 2 ^ h := by
 rw [List.length_take, ha, two_pow_s]; omega
theorem drop_len {K : Type} {a : List K} {h : Nat} (ha : a.length = 2 ^ (h + 1)) : (a.drop (2 ^ h)).length = 2 ^ h := by
 rw [List.length_drop, ha, two_pow_s]; omega
theorem mulL_len {K : Type} [Add K] [Mul K] [OfNat K 0] {R : Nat -> List K} : {h : Nat} -> {a b : List K} -> (mulL R h a b).length = 2 ^ h
 | 0, _, _ => rfl
 | h + 1, _, _ => by
  rw [mulL, List.length_append, addL_len mulL_len mulL_len, addL_len mulL_len mulL_len, two_pow_s]
theorem addL_take {K : Type} [Add K] (a b : List K) (n : Nat) : (addL a b).take n = addL (a.take n) (b.take n) := by unfold addL; rw [List.take_zipWith]
theorem addL_drop {K : Type} [Add K] (a b : List K) (n : Nat) : (addL a b).drop n = addL (a.drop n) (b.drop n) := by unfold addL; rw [List.drop_zipWith]
theorem toE_add {K : Type} [Add K] [OfNat K 0] : {h : Nat} -> {a b : List K} -> a.length = 2 ^ h -> b.length = 2 ^ h -> toE h (addL a b) = El.add h (toE h a) (toE h b)
 | 0, a, b, ha, hb => by
  match a, b, ha, hb with
  | [x], [y], _, _ => rfl
 | h + 1, a, b, ha, hb => by
  simp only [toE, El.add];rw [addL_take, addL_drop, toE_add (take_len ha) (take_len hb), toE_add (drop_len ha) (drop_len hb)]
theorem toE_neg {K : Type} [Neg K] [OfNat K 0] : {h : Nat} -> {a : List K} -> a.length = 2 ^ h -> toE h (negL a) = El.neg h (toE h a)
 | 0, a, ha => by
  match a, ha with
  | [x], _ => rfl
 | h + 1, a, ha => by
  have e1 : (negL a).take (2 ^ h) = negL (a.take (2 ^ h)) := by unfold negL; rw [List.map_take]
  have e2 : (negL a).drop (2 ^ h) = negL (a.drop (2 ^ h)) := by unfold negL; rw [List.map_drop]
  simp only [toE, El.neg];rw [e1, e2, toE_neg (take_len ha), toE_neg (drop_len ha)]
theorem toE_app {K : Type} [OfNat K 0] {h : Nat} {a b : List K} (ha : a.length = 2 ^ h) (_hb : b.length = 2 ^ h) : toE (h + 1) (a ++ b) = (toE h a, toE h b) := by
 simp only [toE];rw [<- ha, List.take_left, List.drop_left]
theorem toE_mul {K : Type} [Add K] [Mul K] [OfNat K 0] {R : Nat -> List K} (hR : ∀ i, (R i).length = 2 ^ i) : {h : Nat} -> {a b : List K} -> a.length = 2 ^ h -> b.length = 2 ^ h -> toE h (mulL R h a b) = El.mul (fun i => toE i (R i)) h (toE h a) (toE h b)
 | 0, a, b, ha, hb => by
  match a, b, ha, hb with
  | [x], [y], _, _ => rfl
 | h + 1, a, b, ha, hb => by
  rw [mulL, toE_app (addL_len mulL_len mulL_len) (addL_len mulL_len mulL_len), toE_add mulL_len mulL_len, toE_add mulL_len mulL_len];rw [toE_mul hR (take_len ha) (take_len hb), toE_mul hR (mulL_len) (hR h), toE_mul hR (drop_len ha) (drop_len hb), toE_mul hR (take_len ha) (drop_len hb), toE_mul hR (drop_len ha) (take_len hb)]
  rfl
theorem toE_inj {K : Type} [OfNat K 0] : {h : Nat} -> {a b : List K} -> a.length = 2 ^ h -> b.length = 2 ^ h -> toE h a = toE h b -> a = b
 | 0, a, b, ha, hb, e => by
  match a, b, ha, hb with
  | [x], [y], _, _ => exact congrArg (fun z : K => [z]) e
 | h + 1, a, b, ha, hb, e => by
  have e1 := congrArg Prod.fst e;have e2 := congrArg Prod.snd e;rw [<- List.take_append_drop (2 ^ h) a, <- List.take_append_drop (2 ^ h) b, toE_inj (take_len ha) (take_len hb) e1, toE_inj (drop_len ha) (drop_len hb) e2]
theorem El.smul_add : (h : Nat) -> (k : K) -> (a b : El K h) -> El.smul h k (El.add h a b) = El.add h (El.smul h k a) (El.smul h k b)
 | 0, k, a, b => RingK.left_distrib (K := K) k a b
 | h + 1, k, a, b => by simp only [El.smul, El.add, El.smul_add h]; exact El.ext rfl rfl
theorem El.smul_smul : (h : Nat) -> (k l : K) -> (a : El K h) -> El.smul h k (El.smul h l a) = El.smul h (k * l) a
 | 0, k, l, a => (RingK.mul_assoc (K := K) k l a).symm
 | h + 1, k, l, a => by simp only [El.smul, El.smul_smul h]; exact El.ext rfl rfl
theorem El.smul_one : (h : Nat) -> (a : El K h) -> El.smul h 1 a = a
 | 0, a => RingK.one_mul (K := K) a
 | h + 1, a => by simp only [El.smul, El.smul_one h]; exact El.ext rfl rfl
theorem El.smul_zero : (h : Nat) -> (k : K) -> El.smul h k (El.zero h) = El.zero h
 | 0, k => RingK.mul_zero (K := K) k
 | h + 1, k => by simp only [El.smul, El.zero, El.smul_zero h]; exact El.ext rfl rfl
variable (R : (h : Nat) -> El K h)
theorem El.smul_mul : (h : Nat) -> (k : K) -> (a b : El K h) -> El.mul R h (El.smul h k a) b = El.smul h k (El.mul R h a b)
 | 0, k, a, b => RingK.mul_assoc (K := K) k a b
 | h + 1, k, a, b => by simp only [El.mul, El.smul, El.smul_mul h, El.smul_add]; exact El.ext rfl rfl
theorem El.mul_smul (h : Nat) (k : K) (a b : El K h) : El.mul R h a (El.smul h k b) = El.smul h k (El.mul R h a b) := by
 rw [El.mul_comm, El.smul_mul, El.mul_comm]
def El.psi (D : Nat -> K) : (h : Nat) -> El K h -> El K h
 | 0 => fun a => a
 | h + 1 => fun a => (El.psi D h a.1, El.smul h (D h) (El.psi D h a.2))
theorem El.psi_add (D : Nat -> K) : (h : Nat) -> (a b : El K h) -> El.psi D h (El.add h a b) = El.add h (El.psi D h a) (El.psi D h b)
 | 0, _, _ => rfl
 | h + 1, a, b => by simp only [El.psi, El.add, El.psi_add D h, El.smul_add]; exact El.ext rfl rfl
theorem El.psi_mul (D : Nat -> K) {T : (h : Nat) -> El K h} : (h : Nat) -> (∀ i, i < h -> El.psi D i (R i) = El.smul i (D i * D i) (T i)) -> (a b : El K h) -> El.psi D h (El.mul R h a b) = El.mul T h (El.psi D h a) (El.psi D h b)
 | 0, _, _, _ => rfl
 | h + 1, hR, a, b => by
  have ih := El.psi_mul D (T := T) h (fun i hi => hR i (by omega));simp only [El.psi, El.mul, El.psi_add, ih, hR h (by omega), El.smul_add];refine Prod.ext ?_ ?_
  ·simp only [El.smul_mul, El.mul_smul, El.smul_smul]
  ·simp only [El.smul_mul, El.mul_smul]
def facL (D : Nat -> K) : Nat -> List K
 | 0 => [1]
 | h + 1 => facL D h ++ (facL D h).map (· * D h)
def timesL (a b : List K) : List K := List.zipWith (· * ·) a b
theorem facL_len {K : Type} [Mul K] [OfNat K 1] (D : Nat -> K) : ∀ h, (facL D h).length = 2 ^ h
 | 0 => rfl
 | h + 1 => by rw [facL, List.length_append, List.length_map, facL_len D h, two_pow_s]
theorem facL_take {K : Type} [Mul K] [OfNat K 1] (D : Nat -> K) (h : Nat) : (facL D (h + 1)).take (2 ^ h) = facL D h := by
 rw [facL, <- facL_len D h, List.take_left]
theorem facL_drop {K : Type} [Mul K] [OfNat K 1] (D : Nat -> K) (h : Nat) : (facL D (h + 1)).drop (2 ^ h) = (facL D h).map (· * D h) := by
 rw [facL, <- facL_len D h, List.drop_left]
theorem timesL_len {K : Type} [Mul K] {a b : List K} {n : Nat} (ha : a.length = n) (hb : b.length = n) : (timesL a b).length = n := by
 unfold timesL; rw [List.length_zipWith, ha, hb, Nat.min_self]
theorem toE_map_mul {K : Type} [Mul K] [OfNat K 0] : {h : Nat} -> {a : List K} -> a.length = 2 ^ h -> (k : K) -> toE h (a.map (k * ·)) = El.smul h k (toE h a)
 | 0, a, ha, k => by
  match a, ha with
  | [x], _ => rfl
 | h + 1, a, ha, k => by
  simp only [toE, El.smul];rw [<- List.map_take, <- List.map_drop, toE_map_mul (take_len ha), toE_map_mul (drop_len ha)]
theorem toE_fac (D : Nat -> K) : {h : Nat} -> {a : List K} -> a.length = 2 ^ h -> toE h (timesL a (facL D h)) = El.psi D h (toE h a)
 | 0, a, ha => by
  match a, ha with
  | [x], _ => exact RingK.mul_one (K := K) x
 | h + 1, a, ha => by
  have e1 : (timesL a (facL D (h + 1))).take (2 ^ h) = timesL (a.take (2 ^ h)) (facL D h) := by
   unfold timesL; rw [List.take_zipWith, facL_take]
  have e2 : (timesL a (facL D (h + 1))).drop (2 ^ h) = (timesL (a.drop (2 ^ h)) (facL D h)).map (D h * ·) := by
   unfold timesL;rw [List.drop_zipWith, facL_drop, List.zipWith_map_right, List.map_zipWith]
   congr 1
   funext x y
   rw [<- RingK.mul_assoc, RingK.mul_comm]
  simp only [toE, El.psi];rw [e1, e2, toE_map_mul (timesL_len (drop_len ha) (facL_len D h)), toE_fac D (take_len ha), toE_fac D (drop_len ha)]
end
end
section
open Go.RowKit
attribute [local go_sem ↓] Go.wp_at_zero Go.wp_at_succ
section
variable {w w' : World} {q x : Rat} {L M : Nat} {s t : Bool} {A B : Option Addr} {n c m d b o N : Nat} {sx tx : Bool} {Ax Bx : Option Addr} {nx cx mx dx : Nat} {qs ps : List Rat} {rs : List RawR} {ts us : List (List RawR)}
theorem NR.leT {q : Rat} {s t : Bool} (h : NR w q L s A n c t B m d) (hl : L <= M) : NR w q M s A n c t B m d := h.le hl
theorem RatsAt.le (h : RatsAt w b o qs L) (hl : L <= M) : RatsAt w b o qs M := ⟨fun i hi => by
 obtain ⟨s, A, n, c, t, B, m, d, h0, h1, h2, h3, h4⟩ := h.at_ i hi;exact ⟨s, A, n, c, t, B, m, d, h0, h1, h2, h3, h4.le hl⟩⟩
theorem Pol.le (h : Pol w A n c qs L) (hl : L <= M) : Pol w A n c qs M := ⟨h.len, h.cap, h.top, fun hq => by
 obtain ⟨b, off, h1, h2⟩ := h.at_ hq;exact ⟨b, off, h1, h2.le hl⟩⟩
theorem PolT.le {T : List (List Rat)} (h : PolT w A n c T L) (hl : L <= M) : PolT w A n c T M := ⟨h.len, h.cap, h.top, fun hq => by
 obtain ⟨b, off, h1, h2⟩ := h.at_ hq;refine ⟨b, off, h1, fun i hi => ?_⟩;obtain ⟨A', n', c', h3, h4⟩ := h2 i hi;exact ⟨A', n', c', h3, h4.le hl⟩⟩
end
section
variable {w w' : World} {q x : Rat} {L M : Nat} {s t : Bool} {A B : Option Addr} {n c m d : Nat} {sx tx : Bool} {Ax Bx : Option Addr} {nx cx mx dx : Nat} {qs ps : List Rat} {rs : List RawR} {ts us : List (List RawR)}
theorem q_rightT (h : RawP w A n c rs) (k : Nat) (hn : n <= 100000) (hk0 : k <= 100000) (hr : rs.all (fun r => r.le 1000) = true) : Calls Tryz.prog 50 #[.slice A n c, .int .i64 (k : Int)] w fun e w' => e = .returned (.bool (validL rs k)) /\ Ext w w' := by
 have Hlen := Lib.hid h.len
 go_enter Tryz.func50, Tryz.ntmps50
 go_wp2_with fail
 go_loopw [5] (fun i wr => ∃ k : Nat, k <= n /\ i = .int .i64 (k : Int) /\ Ext w wr /\ (rs.take k).all RawR.valid = true) (fun i _ => n - (intOf i).toNat)
 case atStart => exact ⟨0, by omega, rfl, Ext.refl _, by simp⟩
 case round =>
  obtain ⟨j, hk, rfl, ext, hall⟩ := hrel;have HA := Lib.hid hall;clear hall
  by_cases hlt : j < n
  ·have hj : j < rs.length := by rw [Hlen.out]; exact hlt
   have hI : (j : Int) < (n : Int) := by omega
   obtain ⟨p, off, rfl, hr'⟩ := h.at_ (fun e => by rw [e] at hj; exact absurd hj (Nat.not_lt_zero _));obtain ⟨Ax, nx, cx, Bx, mx, dx, e0, e1, e2, e3, hx, hy⟩ := (hr' j hj).ext ext;have HT := Lib.hid (show (rs.take (j + 1)).all RawR.valid = ((rs.take j).all RawR.valid && RawR.valid rs[j]) by rw [List.take_succ_eq_append_getElem hj, List.all_append]; simp)
   have HM := Lib.hid (fun hf : RawR.valid rs[j] = false => show validL rs k = false by
    unfold validL;rw [Bool.and_eq_false_iff]
    right
    rw [List.all_eq_false];exact ⟨rs[j], List.getElem_mem hj, by rw [hf]; simp⟩)
   have hle := List.all_eq_true.1 hr rs[j] (List.getElem_mem hj);unfold RawR.le at hle;simp only [Bool.and_eq_true, decide_eq_true_eq] at hle;have l1 := hle.1;have l2 := hle.2;have x1 := hx.len;have x2 := hy.len;clear hle;generalize rs[j] = r at e0 e1 e2 e3 hx hy HT HM l1 l2 x1 x2;have l3 : nx <= 1000 := by omega
   have l4 : mx <= 1000 := by omega
   clear l1 l2 x1 x2;have e0' : wr.cell? ⟨p, off + j * 4, none⟩ = some (.bool r.s) := by rw [Nat.mul_comm]; exact e0
   have e1' : wr.cell? ⟨p, off + j * 4 + 1, none⟩ = some (.slice Ax nx cx) := by rw [Nat.mul_comm]; exact e1
   have e2' : wr.cell? ⟨p, off + j * 4 + 2, none⟩ = some (.bool r.t) := by rw [Nat.mul_comm]; exact e2
   have e3' : wr.cell? ⟨p, off + j * 4 + 3, none⟩ = some (.slice Bx mx dx) := by rw [Nat.mul_comm]; exact e3
   cases hs : validQ r.s r.xs r.t r.ys with
   | false =>
    have HS := Lib.hid hs;clear hs
    go_wp2_with fail
    refine (q_ValidRaw hx hy (by omega) (by omega)).mono ?_;rintro e V ⟨rfl, hxv⟩;rw [HS.out]
    go_wp2_with fail
    go_ret
    exact ⟨by rw [HM.out HS.out]; rfl, ext.trans hxv⟩
   | true =>
    have HS := Lib.hid hs;clear hs
    go_wp2_with fail
    refine (q_ValidRaw hx hy (by omega) (by omega)).mono ?_;rintro e V ⟨rfl, hxv⟩;rw [HS.out]
    go_wp2_with fail
    go_roundw
    case rel => exact ⟨j + 1, by omega, by go_num, ext.trans hxv, by rw [HT.out, HA.out]; exact HS.out⟩
    case measure => simp [intOf]; omega
  ·have hI : (n : Int) <= (j : Int) := by omega
   have ha := HA.out;rw [List.take_of_length_le (by rw [Hlen.out]; omega)] at ha;have hv : validL rs k = decide (n = k) := by unfold validL; rw [ha, Hlen.out, Bool.and_true]
   have Hv := Lib.hid hv
   have hbq : ((n : Int) == (k : Int)) = decide (n = k) := by
    by_cases h : n = k
    ·subst h; simp
    ·rw [decide_eq_false h]; exact beq_eq_false_iff_ne.2 (by omega)
   have Hbq := Lib.hid hbq;clear ha hv hbq
   go_wp2_with fail
   go_ret
   exact ⟨by rw [Hv.out, <- Hbq.out]; rfl, ext⟩
theorem q_TowerT (h : RawT w A n c ts) (hn : n <= 16) (hr : ∀ l ∈ ts, l.all (fun r => r.le 1000) = true) (hrl : ∀ l ∈ ts, l.length <= 100000) : Calls Tryz.prog 17 #[.slice A n c] w fun e w' => e = .returned (.bool (towerB ts 0)) /\ Ext w w' := by
 have Hlen := Lib.hid h.len
 go_enter Tryz.func17, Tryz.ntmps17
 go_wp2_with fail
 go_loopw [3] (fun i wr => ∃ k : Nat, k <= n /\ i = .int .i64 (k : Int) /\ Ext w wr /\ towerB (ts.take k) 0 = true) (fun i _ => n - (intOf i).toNat)
 case atStart => exact ⟨0, by omega, rfl, Ext.refl _, rfl⟩
 case round =>
  obtain ⟨j, hj, rfl, ext, hall⟩ := hrel;have HA := Lib.hid hall;clear hall
  by_cases hlt : j < n
  ·have hjl : j < ts.length := by rw [Hlen.out]; exact hlt
   have hI : (j : Int) < (n : Int) := by omega
   obtain ⟨P, hP⟩ : ∃ P, P = 2 ^ j := ⟨_, rfl⟩
   have hPb : P <= 65536 := by
    rw [hP];exact Nat.le_trans (Nat.pow_le_pow_right (by omega) (show j <= 16 by omega)) (by decide)
   have hW3 : wrap64 ((2 : Int) ^ j) = (P : Int) := by
    rw [hP];have e1 : ((2 : Int) ^ j) = ((2 ^ j : Nat) : Int) := by push_cast; rfl
    rw [e1];unfold wrap64;omega
   have hW4 : IntKind.i64.wrap ((2 : Int) ^ j) = (P : Int) := by rw [<- hW3, IntKind.wrap_i64]; unfold wrap64; omega
   have HP := Lib.hid hP;clear hP;obtain ⟨p, off, rfl, hr0⟩ := h.at_ (fun e => by rw [e] at hjl; exact absurd hjl (Nat.not_lt_zero _));obtain ⟨A', n', c', e0, hx⟩ := hr0 j hjl;replace e0 := ext.cellv e0;replace hx := hx.ext ext;have hle := hr ts[j] (List.getElem_mem hjl);have hnl : n' <= 100000 := by rw [<- hx.len]; exact hrl ts[j] (List.getElem_mem hjl)
   have HT := Lib.hid (towerB_step hjl HA.out);have HM := Lib.hid (fun hf : validL ts[j] (2 ^ j) = false => towerB_stop hjl hf);generalize ts[j] = l at hx hle HT HM
   go_upto_region 4 with (fail)
   have ES0 := Ext.refl wr;refine wp_region_held_drew (S := Ext wr) (by kernel_rfl) ES0.drew (fun ES => ?_);clear ES0;refine Late.s0 ES (fun hAl hQ => ?_);refine Late.u 0 10 hQ ?_
   try simp only [zP]
   refine Late.u 1 11 hQ ?_
   try simp only [zP]
   refine Late.u 4 14 hQ ?_
   try simp only [zP]
   refine Late.u 2 12 hQ ?_
   try simp only [zP]
   refine Late.u 5 15 hQ ?_
   try simp only [zP]
   refine Late.t 3 13 ?v_5 hQ ?y_5 ?_
   case y_5 => intro w' hSw;have q0_ := hSw.cellv e0;go_simp;try rfl
   try simp only [zP]
   refine Late.cl (i := 6) rfl hAl hQ (fun w6 e6 E6 K hK => ?_);go_simp
   (go_at_call 50; refine (q_rightT (hx.ext E6) P hnl (by omega) hle).mono ?_; rintro e wk6 ⟨rfl, hx6⟩)
   refine hK.out _ _ hx6 ?_;clear hK K
   try simp only [zP]
   refine Late.u 7 17 hQ ?_
   try simp only [zP]
   refine Late.d0 (fun wz ez Ez => ?_);clear hAl hQ ES
   cases hs : validL l P with
   | false =>
    have HS := Lib.hid hs;clear hs
    go_wp2_with fail
    go_ret
    exact ⟨by rw [HM.out (by rw [<- HP.out]; exact HS.out)]; rfl, ext.trans Ez⟩
   | true =>
    have HS := Lib.hid hs;clear hs
    go_wp2_with fail
    go_roundw
    case rel => exact ⟨j + 1, by omega, by go_num, ext.trans Ez, by rw [HT.out, <- HP.out]; exact HS.out⟩
    case measure => simp [intOf]; omega
  ·have hI : (n : Int) <= (j : Int) := by omega
   have ha := HA.out;rw [List.take_of_length_le (by rw [Hlen.out]; omega)] at ha;have Ha := Lib.hid ha;clear ha
   go_wp2_with fail
   go_ret
   exact ⟨by rw [Ha.out]; rfl, ext⟩
theorem q_FormedT (h : RawT w A n c ts) (ha : RawP w B m d rs) (hn : n <= 16) (hm : m <= 100000) (hr : ∀ l ∈ ts, l.all (fun r => r.le 1000) = true) (hrl : ∀ l ∈ ts, l.length <= 100000) (hr' : rs.all (fun r => r.le 1000) = true) : Calls Tryz.prog 15 #[.slice A n c, .slice B m d] w fun e w' => e = .returned (.bool (formedB ts [rs])) /\ Ext w w' := by
 obtain ⟨P, hP⟩ : ∃ P, P = 2 ^ n := ⟨_, rfl⟩
 have hPb : P <= 65536 := by
  rw [hP];exact Nat.le_trans (Nat.pow_le_pow_right (by omega) hn) (by decide)
 have hW3 : wrap64 ((2 : Int) ^ n) = (P : Int) := by
  rw [hP];have e1 : ((2 : Int) ^ n) = ((2 ^ n : Nat) : Int) := by push_cast; rfl
  rw [e1];unfold wrap64;omega
 have hW4 : IntKind.i64.wrap ((2 : Int) ^ n) = (P : Int) := by rw [<- hW3, IntKind.wrap_i64]; unfold wrap64; omega
 have hfb : formedB ts [rs] = (towerB ts 0 && validL rs P) := by unfold formedB; rw [h.len, <- hP]; simp
 have Hfb := Lib.hid hfb;clear hP hfb
 cases ht : towerB ts 0 with
 | false =>
  have HT := Lib.hid ht;clear ht
  go_enter Tryz.func15, Tryz.ntmps15
  go_wp2_with fail
  refine (q_TowerT h hn hr hrl).mono ?_;rintro e V ⟨rfl, hx⟩;rw [HT.out]
  go_wp2_with fail
  go_ret
  exact ⟨by rw [Hfb.out, HT.out]; rfl, hx⟩
 | true =>
  have HT := Lib.hid ht;clear ht
  go_enter Tryz.func15, Tryz.ntmps15
  go_wp2_with fail
  refine (q_TowerT h hn hr hrl).mono ?_;rintro e V ⟨rfl, hx⟩;rw [HT.out]
  go_wp2_with fail
  refine (q_rightT (ha.ext hx) P hm (by omega) hr').mono ?_;rintro e V2 ⟨rfl, hx2⟩
  go_wp2_with fail
  go_ret
  exact ⟨by rw [Hfb.out, HT.out]; rfl, hx.trans hx2⟩
end
end
end Go.Proofs.YtgagcochepnelaaGreatDoor
