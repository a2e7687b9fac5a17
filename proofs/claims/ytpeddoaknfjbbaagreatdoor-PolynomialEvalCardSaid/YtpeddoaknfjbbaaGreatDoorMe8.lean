/- Walks and laws, a part. -/
import Derived.Test.YtpeddoaknfjbbaaGreatDoorMe7
import Derived.Test.YtpeddoaknfjbbaaGreatDoorMe4
import Derived.Test.YtpeddoaknfjbbaaGreatDoorMe5
import Derived.Test.YtpeddoaknfjbbaaGreatDoorMe0
import Derived.Laws.CopyRow
import Derived.Laws.CopyOwn
import Derived.RangeFuncLeaves
import Derived.RangeFuncBox
import Derived.RangeFuncCalls
import Derived.RangeFuncNested
import Derived.OrdersIn
import Derived.Maps.AppendAt
set_option linter.unusedSimpArgs false
set_option linter.unusedVariables false
set_option maxHeartbeats 64000000
namespace Go.Proofs.YtpeddoaknfjbbaaGreatDoor
section
open Go.RowKit
def zeroC : Nat -> List Value
 | 0 => []
 | n + 1 => .bool false :: .slice none 0 0 :: .bool false :: .slice none 0 0 :: zeroC n
theorem zeroC_len : ∀ n, (zeroC n).length = n * 4
 | 0 => rfl
 | n + 1 => by simp only [zeroC, List.length_cons, zeroC_len n]; omega
theorem zeroC_nwl : ∀ n, NWL (zeroC n)
 | 0 => fun u hu => by cases hu
 | n + 1 => by
  intro u hu;simp only [zeroC, List.mem_cons] at hu
  rcases hu with rfl | rfl | rfl | rfl | hu
  ·intro k e; cases e
  ·intro k e; cases e
  ·intro k e; cases e
  ·intro k e; cases e
  ·exact zeroC_nwl n u hu
theorem zeroC_at : ∀ (n i : Nat) (h : i < (zeroC n).length), (zeroC n)[i] = (#[Value.bool false, .slice none 0 0, .bool false, .slice none 0 0] : Array Value)[i % 4]!
 | 0, i, h => by simp [zeroC] at h
 | n + 1, 0, _ => rfl
 | n + 1, 1, _ => rfl
 | n + 1, 2, _ => rfl
 | n + 1, 3, _ => rfl
 | n + 1, i + 4, h => by
  have h' : i < (zeroC n).length := by simp only [zeroC, List.length_cons] at h; omega
  have := zeroC_at n i h';rw [Nat.add_mod_right];exact this
theorem made_rats (n : Nat) : madeCells #[Value.bool false, .slice none 0 0, .bool false, .slice none 0 0] (n * 4) = (zeroC n).toArray := by
 refine Array.ext (by rw [size_madeCells]; simp [zeroC_len]) (fun i h1 h2 => ?_);have h3 : i < (zeroC n).length := by simpa using h2
 have e2 : (zeroC n).toArray[i] = (zeroC n)[i] := by simp
 rw [e2, zeroC_at n i h3];simp [madeCells]
theorem mk_rats (n : Nat) (hn : n <= 100000) (W : World) :
  (Instr.makeSlice 22 (.int .i64 (n : Int)) (.int .i64 (n : Int))).run Tryz.prog W = .ok (.slice (some ⟨W.heap.size, 0, none⟩) n n) (W.alloc (.cells (zeroC n).toArray 27)) := by
 obtain ⟨i0, hi, hz0, hz1, hz2⟩ := info_parts Tryz.infoR;have h := run_make_rowN (P := Tryz.prog) 22 27 i0 _ Tryz.underlying22 hi hz0 .i64 .i64 n n (Nat.le_refl _) (by rw [hz2]; omega) (by omega) W;rw [hz1] at h;rw [<- made_rats];exact h
structure Fill (w : World) (g n : Nat) (qs : List Rat) (L : Nat) : Prop where
 out : ∃ ds, Box w g 27 (ds ++ zeroC (n - qs.length)).toArray /\ CellsOf w L qs ds
 le : qs.length <= n
section
variable {w w' : World} {g n L : Nat} {qs : List Rat} {q : Rat} {s t : Bool} {A B : Option Addr} {a c b d : Nat}
theorem Fill.ext (h : Fill w g n qs L) (e : Ext w w') : Fill w' g n qs L := by
 obtain ⟨⟨ds, h1, h2⟩, h3⟩ := h;exact ⟨⟨ds, h1.ext e, h2.ext e⟩, h3⟩
theorem Fill.new (w : World) (n L : Nat) : Fill (w.alloc (.cells (zeroC n).toArray 27)) w.heap.size n [] L :=
 ⟨⟨[], by rw [List.nil_append]; exact Box.new w _ _, .nil⟩, Nat.zero_le _⟩
theorem Fill.rats (h : Fill w g n qs L) (hn : qs.length = n) : RatsAt w g 0 qs L := by
 obtain ⟨⟨ds, h1, h2⟩, _⟩ := h;rw [hn, Nat.sub_self, zeroC, List.append_nil] at h1;exact RatsAt.of_box h1 h2
theorem set_at {l r : List Value} {v u : Value} (k : Nat) (hk : l.length = k) : (l ++ v :: r).set k u = l ++ u :: r := by
 subst hk;rw [List.set_append_right _ _ (Nat.le_refl _), Nat.sub_self, List.set_cons_zero]
theorem Fill.cells (h : Fill w g n qs L) (hk : qs.length < n) :
  w.cell? ⟨g, qs.length * 4, none⟩ = some (.bool false) /\ w.cell? ⟨g, qs.length * 4 + 1, none⟩ = some (.slice none 0 0) /\ w.cell? ⟨g, qs.length * 4 + 2, none⟩ = some (.bool false) /\ w.cell? ⟨g, qs.length * 4 + 3, none⟩ = some (.slice none 0 0) := by
 obtain ⟨⟨ds, h1, h2⟩, _⟩ := h;have hl := h2.len;obtain ⟨m, hm⟩ : ∃ m, n - qs.length = m + 1 := ⟨n - qs.length - 1, by omega⟩;rw [hm, zeroC] at h1;refine ⟨h1.cell _ _ ?_, h1.cell _ _ ?_, h1.cell _ _ ?_, h1.cell _ _ ?_⟩
 all_goals
  rw [<- hl];simp
theorem Fill.frozen (h : Fill w g n qs L) (i : Nat) : w.frozen? ⟨g, i, none⟩ = false := by
 obtain ⟨⟨ds, h1, _⟩, _⟩ := h;exact h1.frozen i
theorem Fill.lt (h : Fill w g n qs L) : g < w.heap.size := by
 obtain ⟨⟨ds, h1, _⟩, _⟩ := h;exact h1.lt
structure FinRow (w2 w3 : World) (g : Nat) (T : TypeId) (l : List Value) : Prop where
 box : Box w3 g T l.toArray
 nwl : NWL l
 ni : ∀ z L s' A' n' c', NI w2 z L s' A' n' c' -> NI w3 z L s' A' n' c'
 ext : ∀ W, Ext W w2 -> W.heap.size <= g -> Ext W w3
 far : ∀ g' T' cs', g' ≠ g -> Box w2 g' T' cs' -> Box w3 g' T' cs'
theorem FinRow.refl {w2 : World} {T : TypeId} {l : List Value} (hb : Box w2 g T l.toArray) (hn : NWL l) : FinRow w2 w2 g T l := ⟨hb, hn, fun _ _ _ _ _ _ h => h, fun _ h _ => h, fun _ _ _ _ h => h⟩
theorem FinRow.step {w2 w3 : World} {T : TypeId} {l : List Value} (h : FinRow w2 w3 g T l) (i : Nat) {v : Value} (hv : ∀ k, v ≠ .int .u32 k) : FinRow w2 (w3.setCell ⟨g, i, none⟩ v) g T (l.set i v) := by
 refine ⟨?_, ?_, fun _ _ _ _ _ _ k => (h.ni _ _ _ _ _ _ k).set h.box h.nwl.arr i v, fun _ e hg => (h.ext _ e hg).setCell hg _, fun _ _ _ hg k => (h.far _ _ _ hg k).far hg _⟩
 ·have := h.box.set i v
  rwa [List.setIfInBounds_toArray] at this
 ·intro u hu k e
  rcases List.mem_or_eq_of_mem_set hu with hu | hu
  ·exact h.nwl u hu k e
  ·exact hv k (hu.symm.trans e)
theorem CellsOf.ni {w w' : World} (hf : ∀ z L s' A' n' c', NI w z L s' A' n' c' -> NI w' z L s' A' n' c') {ds : List Value} (h : CellsOf w L qs ds) : CellsOf w' L qs ds := by
 induction h with
 | nil => exact .nil
 | cons h _ ih => exact .cons ⟨hf _ _ _ _ _ _ h.num, hf _ _ _ _ _ _ h.den⟩ ih
theorem Fill.put {k : Nat} (h : Fill w g n qs L) (hk : qs.length = k) (hkn : k < n) (hq : NR w q L s A a c t B b d) :
  Fill ((((w.setCell ⟨g, k * 4, none⟩ (.bool s)).setCell ⟨g, k * 4 + 1, none⟩ (.slice A a c)).setCell ⟨g, k * 4 + 2, none⟩ (.bool t)).setCell ⟨g, k * 4 + 3, none⟩ (.slice B b d)) g n (qs ++ [q]) L /\
  (∀ z L s' A' n' c', NI w z L s' A' n' c' -> NI ((((w.setCell ⟨g, k * 4, none⟩ (.bool s)).setCell ⟨g, k * 4 + 1, none⟩ (.slice A a c)).setCell ⟨g, k * 4 + 2, none⟩ (.bool t)).setCell ⟨g, k * 4 + 3, none⟩ (.slice B b d)) z L s' A' n' c') /\
  (∀ W, Ext W w -> W.heap.size <= g -> Ext W ((((w.setCell ⟨g, k * 4, none⟩ (.bool s)).setCell ⟨g, k * 4 + 1, none⟩ (.slice A a c)).setCell ⟨g, k * 4 + 2, none⟩ (.bool t)).setCell ⟨g, k * 4 + 3, none⟩ (.slice B b d))) /\
  (∀ g' T' cs', g' ≠ g -> Box w g' T' cs' -> Box ((((w.setCell ⟨g, k * 4, none⟩ (.bool s)).setCell ⟨g, k * 4 + 1, none⟩ (.slice A a c)).setCell ⟨g, k * 4 + 2, none⟩ (.bool t)).setCell ⟨g, k * 4 + 3, none⟩ (.slice B b d)) g' T' cs') := by
 obtain ⟨⟨ds, h1, h2⟩, _⟩ := h;have hl := h2.len;rw [hk] at hl h1;obtain ⟨m, hm⟩ : ∃ m, n - k = m + 1 := ⟨n - k - 1, by omega⟩;rw [hm, zeroC] at h1;have F := ((((FinRow.refl h1 (h2.nwl.append (zeroC_nwl (m + 1)))).step (k * 4) (v := .bool s) (by intro k h; cases h)).step (k * 4 + 1) (v := .slice A a c) (by intro k h; cases h)).step (k * 4 + 2) (v := .bool t) (by intro k h; cases h)).step (k * 4 + 3) (v := .slice B b d) (by intro k h; cases h)
 have e : ((((ds ++ .bool false :: .slice none 0 0 :: .bool false :: .slice none 0 0 :: zeroC m).set (k * 4) (.bool s)).set (k * 4 + 1) (.slice A a c)).set (k * 4 + 2) (.bool t)).set (k * 4 + 3) (.slice B b d) = (ds ++ [.bool s, .slice A a c, .bool t, .slice B b d]) ++ zeroC m := by
  rw [set_at _ hl];rw [show ds ++ Value.bool s :: .slice none 0 0 :: .bool false :: .slice none 0 0 :: zeroC m = (ds ++ [.bool s]) ++ .slice none 0 0 :: .bool false :: .slice none 0 0 :: zeroC m by simp];rw [set_at (k * 4 + 1) (by simp [hl])];rw [show (ds ++ [Value.bool s]) ++ .slice A a c :: .bool false :: .slice none 0 0 :: zeroC m = (ds ++ [.bool s, .slice A a c]) ++ .bool false :: .slice none 0 0 :: zeroC m by simp];rw [set_at (k * 4 + 2) (by simp [hl])];rw [show (ds ++ [Value.bool s, .slice A a c]) ++ .bool t :: .slice none 0 0 :: zeroC m = (ds ++ [.bool s, .slice A a c, .bool t]) ++ .slice none 0 0 :: zeroC m by simp];rw [set_at (k * 4 + 3) (by simp [hl])];simp
 rw [e] at F;refine ⟨⟨⟨_, ?_, (h2.ni F.ni).append (.cons ⟨F.ni _ _ _ _ _ _ hq.num, F.ni _ _ _ _ _ _ hq.den⟩ .nil)⟩, by rw [List.length_append]; simp; omega⟩, F.ni, F.ext, F.far⟩;have hb := F.box;rw [show n - (qs ++ [q]).length = m by rw [List.length_append, hk]; simp; omega];exact hb
end
end
section
open Go.RowKit
attribute [local go_sem ↓] Go.wp_at_zero Go.wp_at_succ
structure Pol (w : World) (A : Option Addr) (n c : Nat) (qs : List Rat) (L : Nat) : Prop where
 len : qs.length = n
 cap : n <= c
 top : c <= maxLen
 at_ : qs ≠ [] -> ∃ b off, A = some ⟨b, off, none⟩ /\ RatsAt w b off qs L
def RetPol (qs : List Rat) (L : Nat) (w : World) (e : Ending) (w' : World) : Prop := ∃ A n c, e = .returned (.slice A n c) /\ Pol w' A n c qs L /\ Ext w w'
section
variable {w w' : World} {A : Option Addr} {n c L : Nat} {qs : List Rat}
theorem Pol.ext (h : Pol w A n c qs L) (e : Ext w w') : Pol w' A n c qs L :=
 ⟨h.len, h.cap, h.top, fun hq => by obtain ⟨b, off, h1, h2⟩ := h.at_ hq; exact ⟨b, off, h1, h2.ext e⟩⟩
theorem RatsAt.take {b o : Nat} (h : RatsAt w b o qs L) (k : Nat) : RatsAt w b o (qs.take k) L := ⟨fun i hi => by
 have hi' : i < qs.length := by rw [List.length_take] at hi; omega
 have := h.at_ i hi';rw [List.getElem_take];exact this⟩
theorem Pol.take (h : Pol w A n c qs L) {k : Nat} (hk : k <= n) : Pol w A k c (qs.take k) L := by
 refine ⟨by rw [List.length_take, h.len]; omega, Nat.le_trans hk h.cap, h.top, fun hq => ?_⟩;obtain ⟨b, off, h1, h2⟩ := h.at_ (fun e => hq (by rw [e]; simp));exact ⟨b, off, h1, h2.take k⟩
theorem Pol.none (w : World) (L : Nat) : Pol w none 0 0 [] L := ⟨rfl, Nat.le_refl _, Nat.zero_le _, fun h => absurd rfl h⟩
theorem Fill.pol {g : Nat} (h : Fill w g n qs L) (hn : qs.length = n) (hm : n <= maxLen) : Pol w (some ⟨g, 0, none⟩) n n qs L := ⟨hn, Nat.le_refl _, hm, fun _ => ⟨g, 0, rfl, h.rats hn⟩⟩
theorem num_zero {q : Rat} (h : q = 0) : q.num.sign = 0 := by rw [h]; rfl
theorem num_nz {q : Rat} (h : q ≠ 0) : q.num.sign ≠ 0 := fun e => h (Rat.num_eq_zero.1 (Int.sign_eq_zero_iff_zero.1 e))
end
section
variable {w w' : World} {q x : Rat} {L M : Nat} {s t : Bool} {A B : Option Addr} {n c m d : Nat} {sx tx : Bool} {Ax Bx : Option Addr} {nx cx mx dx : Nat} {qs ps : List Rat}
theorem p_cutR (h : Pol w A n c qs L) (hL : L <= 1000) (hn : n <= 1000) : Calls Tryz.prog 51 #[.slice A n c, .func (.func 52) #[] #[]] w (RetPol (trimP qs) L w) := by
 go_enter Tryz.func51, Tryz.ntmps51
 go_wp2_with fail
 go_loopw [0] (fun v wr => ∃ k : Nat, k <= n /\ v = .slice A k c /\ Ext w wr /\ trimP (qs.take k) = trimP qs) (fun v _ => lenV v)
 case atStart => exact ⟨n, Nat.le_refl _, rfl, Ext.refl _, by rw [List.take_of_length_le (Nat.le_of_eq h.len)]⟩
 case round =>
  obtain ⟨k, hk, rfl, ext, ht⟩ := hrel;have HT := Lib.hid ht;clear ht
  rcases Nat.eq_zero_or_pos k with h0 | h0
  ·subst h0
   go_wp2_with fail
   go_ret
   have ht := HT.out;exact ⟨A, 0, c, rfl, by rw [<- ht]; exact (h.ext ext).take (Nat.zero_le _), ext⟩
  ·obtain ⟨j, rfl⟩ : ∃ j, k = j + 1 := ⟨k - 1, by omega⟩
   have hj : j < qs.length := by rw [h.len]; omega
   have hjc : (j : Int) <= (c : Int) := by have := h.cap; omega
   obtain ⟨b, off, rfl, hr⟩ := h.at_ (fun e => by rw [e] at hj; exact absurd hj (Nat.not_lt_zero _));obtain ⟨sx, Ax, nx, cx, tx, Bx, mx, dx, e0, e1, e2, e3, hx⟩ := (hr.ext ext).at_ j hj;have e0' : wr.cell? ⟨b, off + j * 4, none⟩ = some (.bool sx) := by rw [Nat.mul_comm]; exact e0
   have e1' : wr.cell? ⟨b, off + j * 4 + 1, none⟩ = some (.slice Ax nx cx) := by rw [Nat.mul_comm]; exact e1
   have e2' : wr.cell? ⟨b, off + j * 4 + 2, none⟩ = some (.bool tx) := by rw [Nat.mul_comm]; exact e2
   have e3' : wr.cell? ⟨b, off + j * 4 + 3, none⟩ = some (.slice Bx mx dx) := by rw [Nat.mul_comm]; exact e3
   by_cases hq : qs[j] = 0
   ·have HS := Lib.hid (num_zero hq)
    have HQ := Lib.hid hq;clear hq
    go_wp2_with fail
    refine (p_SignR hx (by omega)).mono ?_;rintro e V ⟨rfl, hxt⟩;rw [HS.out]
    go_wp2_with fail
    go_roundw
    case rel => exact ⟨j, by omega, by go_num, ext.trans hxt, trimP_step hj HQ.out HT.out⟩
    case measure => simp [lenV]
   ·obtain ⟨S, hS, dS⟩ : ∃ S, (qs[j]).num.sign = S /\ (S == 0) = false := ⟨_, rfl, beq_eq_false_iff_ne.2 (num_nz hq)⟩
    have HS := Lib.hid hS;have HQ := Lib.hid hq;clear hS hq
    go_wp2_with fail
    refine (p_SignR hx (by omega)).mono ?_;rintro e V ⟨rfl, hxt⟩;rw [HS.out]
    go_wp2_with fail
    go_ret
    refine ⟨some ⟨b, off, none⟩, j + 1, c, rfl, ?_, ext.trans hxt⟩;rw [trimP_stop hj HQ.out HT.out];exact (h.ext (ext.trans hxt)).take hk
end
end
section
open Go.RowKit
structure Half (w : World) (g : Nat) (rs qs : List Rat) (M L : Nat) : Prop where
 out : ∃ ds es, Box w g 27 (ds ++ es).toArray /\ CellsOf w M rs ds /\ CellsOf w L qs es
section
variable {w w' : World} {A B : Option Addr} {a b c d g n o L M : Nat} {s t : Bool} {q q0 : Rat} {qs rs : List Rat}
theorem Half.ext (h : Half w g rs qs M L) (e : Ext w w') : Half w' g rs qs M L := by
 obtain ⟨ds, es, h1, h2, h3⟩ := h.out;exact ⟨ds, es, h1.ext e, h2.ext e, h3.ext e⟩
theorem Half.frozen (h : Half w g rs qs M L) (i : Nat) : w.frozen? ⟨g, i, none⟩ = false := by
 obtain ⟨ds, es, h1, _⟩ := h.out;exact h1.frozen i
theorem Half.get {k : Nat} (h : Half w g rs (q0 :: qs) M L) (hk : rs.length = k) :
  ∃ s A n c t B m d, w.cell? ⟨g, k * 4, none⟩ = some (.bool s) /\ w.cell? ⟨g, k * 4 + 1, none⟩ = some (.slice A n c) /\ w.cell? ⟨g, k * 4 + 2, none⟩ = some (.bool t) /\ w.cell? ⟨g, k * 4 + 3, none⟩ = some (.slice B m d) /\ NR w q0 L s A n c t B m d := by
 obtain ⟨ds, es, h1, h2, h3⟩ := h.out;have hl := h2.len;rw [hk] at hl
 cases h3 with
 | @cons _ _ s A n c t B m d es hq hr =>
  refine ⟨s, A, n, c, t, B, m, d, h1.cell _ _ ?_, h1.cell _ _ ?_, h1.cell _ _ ?_, h1.cell _ _ ?_, hq⟩
  all_goals
   rw [<- hl];simp
theorem Half.put {k : Nat} (h : Half w g rs (q0 :: qs) M L) (hk : rs.length = k) (hq : NR w q M s A a c t B b d) :
  Half ((((w.setCell ⟨g, k * 4, none⟩ (.bool s)).setCell ⟨g, k * 4 + 1, none⟩ (.slice A a c)).setCell ⟨g, k * 4 + 2, none⟩ (.bool t)).setCell ⟨g, k * 4 + 3, none⟩ (.slice B b d)) g (rs ++ [q]) qs M L /\
  (∀ z L s' A' n' c', NI w z L s' A' n' c' -> NI ((((w.setCell ⟨g, k * 4, none⟩ (.bool s)).setCell ⟨g, k * 4 + 1, none⟩ (.slice A a c)).setCell ⟨g, k * 4 + 2, none⟩ (.bool t)).setCell ⟨g, k * 4 + 3, none⟩ (.slice B b d)) z L s' A' n' c') /\
  (∀ W, Ext W w -> W.heap.size <= g -> Ext W ((((w.setCell ⟨g, k * 4, none⟩ (.bool s)).setCell ⟨g, k * 4 + 1, none⟩ (.slice A a c)).setCell ⟨g, k * 4 + 2, none⟩ (.bool t)).setCell ⟨g, k * 4 + 3, none⟩ (.slice B b d))) := by
 obtain ⟨ds, es, h1, h2, h3⟩ := h.out;have hl := h2.len;rw [hk] at hl;have hn := h2.nwl.append h3.nwl
 cases h3 with
 | @cons _ _ s0 A0 n0 c0 t0 B0 m0 d0 es hq0 hr =>
  have F := ((((FinRow.refl h1 hn).step (k * 4) (v := .bool s) (by intro k h; cases h)).step (k * 4 + 1) (v := .slice A a c) (by intro k h; cases h)).step (k * 4 + 2) (v := .bool t) (by intro k h; cases h)).step (k * 4 + 3) (v := .slice B b d) (by intro k h; cases h)
  have e : ((((ds ++ .bool s0 :: .slice A0 n0 c0 :: .bool t0 :: .slice B0 m0 d0 :: es).set (k * 4) (.bool s)).set (k * 4 + 1) (.slice A a c)).set (k * 4 + 2) (.bool t)).set (k * 4 + 3) (.slice B b d) = (ds ++ [.bool s, .slice A a c, .bool t, .slice B b d]) ++ es := by
   rw [set_at _ hl];rw [show ds ++ Value.bool s :: .slice A0 n0 c0 :: .bool t0 :: .slice B0 m0 d0 :: es = (ds ++ [.bool s]) ++ .slice A0 n0 c0 :: .bool t0 :: .slice B0 m0 d0 :: es by simp];rw [set_at (k * 4 + 1) (by simp [hl])];rw [show (ds ++ [Value.bool s]) ++ .slice A a c :: .bool t0 :: .slice B0 m0 d0 :: es = (ds ++ [.bool s, .slice A a c]) ++ .bool t0 :: .slice B0 m0 d0 :: es by simp];rw [set_at (k * 4 + 2) (by simp [hl])];rw [show (ds ++ [Value.bool s, .slice A a c]) ++ .bool t :: .slice B0 m0 d0 :: es = (ds ++ [.bool s, .slice A a c, .bool t]) ++ .slice B0 m0 d0 :: es by simp];rw [set_at (k * 4 + 3) (by simp [hl])];simp
  rw [e] at F;exact ⟨⟨_, es, F.box, (h2.ni F.ni).append (.cons ⟨F.ni _ _ _ _ _ _ hq.num, F.ni _ _ _ _ _ _ hq.den⟩ .nil), hr.ni F.ni⟩, F.ni, F.ext⟩
theorem addr_add (b o j : Nat) : (⟨b, o, none⟩ : Addr).add j = ⟨b, o + j, none⟩ := by
 unfold Addr.add
 split
 ·rename_i h; rw [h]; rfl
 ·rfl
theorem RatsAt.list (h : RatsAt w b o qs L) : ∃ cs, CellsOf w L qs cs /\ ∀ j u, cs[j]? = some u -> w.cell? ((⟨b, o, none⟩ : Addr).add j) = some u := by
 induction qs generalizing o with
 | nil => exact ⟨[], .nil, fun j u h => by simp at h⟩
 | cons q qs ih =>
  obtain ⟨s, A, n, c, t, B, m, d, e0, e1, e2, e3, hq⟩ := h.at_ 0 (by simp)
  have ht : RatsAt w b (o + 4) qs L := ⟨fun i hi => by
   have := h.at_ (i + 1) (by simp; omega);rw [show o + 4 * (i + 1) = o + 4 + 4 * i by omega] at this;exact this⟩
  obtain ⟨cs, h1, h2⟩ := ih ht;refine ⟨_, .cons hq h1, fun j u hj => ?_⟩
  match j with
  | 0 => simp at hj; subst hj; simpa [Addr.add] using e0
  | 1 => simp at hj; subst hj; simpa [Addr.add] using e1
  | 2 => simp at hj; subst hj; simpa [Addr.add] using e2
  | 3 => simp at hj; subst hj; simpa [Addr.add] using e3
  | j + 4 =>
   simp at hj;have := h2 j u hj;rw [addr_add] at this ⊢;rw [show o + (j + 4) = o + 4 + j by omega];exact this
end
def zeroI : Nat -> List Value
 | 0 => []
 | n + 1 => .bool false :: .slice none 0 0 :: zeroI n
theorem zeroI_len : ∀ n, (zeroI n).length = n * 2
 | 0 => rfl
 | n + 1 => by simp only [zeroI, List.length_cons, zeroI_len n]; omega
theorem zeroI_at : ∀ (n i : Nat) (h : i < (zeroI n).length), (zeroI n)[i] = (#[Value.bool false, .slice none 0 0] : Array Value)[i % 2]!
 | 0, i, h => by simp [zeroI] at h
 | n + 1, 0, _ => rfl
 | n + 1, 1, _ => rfl
 | n + 1, i + 2, h => by
  have h' : i < (zeroI n).length := by simp only [zeroI, List.length_cons] at h; omega
  have := zeroI_at n i h';rw [Nat.add_mod_right];exact this
theorem made_ints (n : Nat) : madeCells #[Value.bool false, .slice none 0 0] (n * 2) = (zeroI n).toArray := by
 refine Array.ext (by rw [size_madeCells]; simp [zeroI_len]) (fun i h1 h2 => ?_);have h3 : i < (zeroI n).length := by simpa using h2
 have e2 : (zeroI n).toArray[i] = (zeroI n)[i] := by simp
 rw [e2, zeroI_at n i h3];simp [madeCells]
theorem Tryz.infoInt : (Tryz.prog.info? 25).map (fun i => (i.zero, i.size, i.bytes)) = some (some (.agg #[.bool false, .slice none 0 0]), 2, 32) := by kernel_rfl
theorem mk_ints (n : Nat) (hn : n <= 100000) (W : World) :
  (Instr.makeSlice 46 (.int .i64 (n : Int)) (.int .i64 (n : Int))).run Tryz.prog W = .ok (.slice (some ⟨W.heap.size, 0, none⟩) n n) (W.alloc (.cells (zeroI n).toArray 25)) := by
 obtain ⟨i0, hi, hz0, hz1, hz2⟩ := info_parts Tryz.infoInt;have h := run_make_rowN (P := Tryz.prog) 46 25 i0 _ Tryz.underlying46 hi hz0 .i64 .i64 n n (Nat.le_refl _) (by rw [hz2]; omega) (by omega) W;rw [hz1] at h;rw [<- made_ints];exact h
inductive ICells (w : World) (L : Nat) : List Int -> List Value -> Prop
 | nil : ICells w L [] []
 | cons {z : Int} {zs : List Int} {s : Bool} {A : Option Addr} {n c : Nat} {cs : List Value} : NI w z L s A n c -> ICells w L zs cs -> ICells w L (z :: zs) (.bool s :: .slice A n c :: cs)
structure IntsAt (w : World) (b o : Nat) (zs : List Int) (L : Nat) : Prop where
 at_ : ∀ i (h : i < zs.length), ∃ s A n c, w.cell? ⟨b, o + 2 * i, none⟩ = some (.bool s) /\ w.cell? ⟨b, o + 2 * i + 1, none⟩ = some (.slice A n c) /\ NI w zs[i] L s A n c
structure IPol (w : World) (A : Option Addr) (n c : Nat) (zs : List Int) (L : Nat) : Prop where
 len : zs.length = n
 cap : n <= c
 top : c <= maxLen
 at_ : zs ≠ [] -> ∃ b off, A = some ⟨b, off, none⟩ /\ IntsAt w b off zs L
def RetIPol (zs : List Int) (L : Nat) (w : World) (e : Ending) (w' : World) : Prop := ∃ A n c, e = .returned (.slice A n c) /\ IPol w' A n c zs L /\ Ext w w'
def IRow (w : World) (g : Nat) (zs : List Int) (L : Nat) : Prop := ∃ cs : List Value, Box w g 25 cs.toArray /\ ICells w L zs cs
section
variable {w w' : World} {z : Int} {zs ys : List Int} {L M b o g n c k : Nat} {s : Bool} {A : Option Addr} {cs ds : List Value}
theorem ICells.ext (h : ICells w L zs cs) (e : Ext w w') : ICells w' L zs cs := by
 induction h with
 | nil => exact .nil
 | cons h _ ih => exact .cons (h.ext e) ih
theorem ICells.len (h : ICells w L zs cs) : cs.length = zs.length * 2 := by
 induction h with
 | nil => rfl
 | cons _ _ ih => simp only [List.length_cons, ih]; omega
theorem ICells.append (h : ICells w L zs cs) (k : ICells w L ys ds) : ICells w L (zs ++ ys) (cs ++ ds) := by
 induction h with
 | nil => exact k
 | cons h _ ih => exact .cons h ih
theorem ICells.le (h : ICells w L zs cs) (hl : L <= M) : ICells w M zs cs := by
 induction h with
 | nil => exact .nil
 | cons h _ ih => exact .cons (h.le hl) ih
theorem ICells.nwl (h : ICells w L zs cs) : NWL cs := by
 induction h with
 | nil => intro u hu; cases hu
 | cons _ _ ih =>
  intro u hu;simp only [List.mem_cons] at hu
  rcases hu with rfl | rfl | hu
  ·intro k e; cases e
  ·intro k e; cases e
  ·exact ih u hu
theorem ICells.one (h : ICells w L zs cs) : ∀ u ∈ cs, u.oneCell' = true := by
 induction h with
 | nil => intro u hu; cases hu
 | cons _ _ ih =>
  intro u hu;simp only [List.mem_cons] at hu
  rcases hu with rfl | rfl | hu
  ·rfl
  ·rfl
  ·exact ih u hu
theorem ICells.ni (hf : ∀ z L s' A' n' c', NI w z L s' A' n' c' -> NI w' z L s' A' n' c') (h : ICells w L zs cs) : ICells w' L zs cs := by
 induction h with
 | nil => exact .nil
 | cons h _ ih => exact .cons (hf _ _ _ _ _ _ h) ih
theorem ICells.get (h : ICells w L zs cs) : ∀ i (hi : i < zs.length), ∃ s A n c, cs[2 * i]? = some (.bool s) /\ cs[2 * i + 1]? = some (.slice A n c) /\ NI w zs[i] L s A n c := by
 induction h with
 | nil => intro i hi; simp at hi
 | @cons z zs s A n c cs h _ ih =>
  intro i hi
  cases i with
  | zero => exact ⟨s, A, n, c, rfl, rfl, h⟩
  | succ i =>
   obtain ⟨s1, A1, n1, c1, k0, k1, k2⟩ := ih i (by simpa using hi);refine ⟨s1, A1, n1, c1, ?_, ?_, k2⟩
   ·rw [show 2 * (i + 1) = 2 * i + 1 + 1 by omega]; exact k0
   ·rw [show 2 * (i + 1) + 1 = 2 * i + 1 + 1 + 1 by omega]; exact k1
theorem ICells.set (h : ICells w L zs cs) (hz : NI w z L s A n c) : ∀ k, k < zs.length -> ICells w L (zs.set k z) ((cs.set (k * 2) (.bool s)).set (k * 2 + 1) (.slice A n c)) := by
 induction h with
 | nil => intro k hk; simp at hk
 | @cons z0 zs s0 A0 n0 c0 cs h0 h1 ih =>
  intro k hk
  cases k with
  | zero => exact .cons hz h1
  | succ k =>
   have := ih k (by simpa using hk);rw [show (k + 1) * 2 = k * 2 + 1 + 1 by omega];simp only [List.set_cons_succ];exact .cons h0 this
theorem ICells.zero (w : World) (L : Nat) : ∀ n, ICells w L (List.replicate n 0) (zeroI n)
 | 0 => .nil
 | n + 1 => by rw [List.replicate_succ]; exact .cons (NI.nil w L) (ICells.zero w L n)
theorem IntsAt.ext (h : IntsAt w b o zs L) (e : Ext w w') : IntsAt w' b o zs L := ⟨fun i hi => by
 obtain ⟨s, A, n, c, h1, h2, h3⟩ := h.at_ i hi;exact ⟨s, A, n, c, e.cellv h1, e.cellv h2, h3.ext e⟩⟩
theorem IntsAt.take (h : IntsAt w b o zs L) (k : Nat) : IntsAt w b o (zs.take k) L := ⟨fun i hi => by
 have hi' : i < zs.length := by rw [List.length_take] at hi; omega
 have := h.at_ i hi';rw [List.getElem_take];exact this⟩
theorem IPol.ext (h : IPol w A n c zs L) (e : Ext w w') : IPol w' A n c zs L :=
 ⟨h.len, h.cap, h.top, fun hq => by obtain ⟨b, off, h1, h2⟩ := h.at_ hq; exact ⟨b, off, h1, h2.ext e⟩⟩
theorem IPol.take (h : IPol w A n c zs L) {k : Nat} (hk : k <= n) : IPol w A k c (zs.take k) L := by
 refine ⟨by rw [List.length_take, h.len]; omega, Nat.le_trans hk h.cap, h.top, fun hq => ?_⟩;obtain ⟨b, off, h1, h2⟩ := h.at_ (fun e => hq (by rw [e]; simp));exact ⟨b, off, h1, h2.take k⟩
theorem IPol.none (w : World) (L : Nat) : IPol w none 0 0 [] L := ⟨rfl, Nat.le_refl _, Nat.zero_le _, fun h => absurd rfl h⟩
theorem IRow.ext (h : IRow w g zs L) (e : Ext w w') : IRow w' g zs L := by
 obtain ⟨cs, h1, h2⟩ := h;exact ⟨cs, h1.ext e, h2.ext e⟩
theorem IRow.frozen (h : IRow w g zs L) (i : Nat) : w.frozen? ⟨g, i, none⟩ = false := by
 obtain ⟨cs, h1, _⟩ := h;exact h1.frozen i
theorem IRow.lt (h : IRow w g zs L) : g < w.heap.size := by
 obtain ⟨cs, h1, _⟩ := h;exact h1.lt
theorem IRow.le (h : IRow w g zs L) (hl : L <= M) : IRow w g zs M := by
 obtain ⟨cs, h1, h2⟩ := h;exact ⟨cs, h1, h2.le hl⟩
theorem IRow.ints (h : IRow w g zs L) : IntsAt w g 0 zs L := by
 obtain ⟨cs, h1, h2⟩ := h;refine ⟨fun i hi => ?_⟩;obtain ⟨s, A, n, c, k0, k1, k2⟩ := h2.get i hi;rw [Nat.zero_add];exact ⟨s, A, n, c, h1.cell (2 * i) _ (by simpa using k0), h1.cell (2 * i + 1) _ (by simpa using k1), k2⟩
theorem IRow.pol (h : IRow w g zs L) (hn : zs.length = n) (hm : n <= maxLen) : IPol w (some ⟨g, 0, none⟩) n n zs L := ⟨hn, Nat.le_refl _, hm, fun _ => ⟨g, 0, rfl, h.ints⟩⟩
theorem IRow.new (w : World) (n L : Nat) : IRow (w.alloc (.cells (zeroI n).toArray 25)) w.heap.size (List.replicate n 0) L := ⟨zeroI n, Box.new w _ _, ICells.zero _ L n⟩
theorem IRow.get (h : IRow w g zs L) (hk : k < zs.length) : ∃ s A n c, w.cell? ⟨g, k * 2, none⟩ = some (.bool s) /\ w.cell? ⟨g, k * 2 + 1, none⟩ = some (.slice A n c) /\ NI w zs[k] L s A n c := by
 obtain ⟨s, A, n, c, h1, h2, h3⟩ := h.ints.at_ k hk;rw [Nat.zero_add, Nat.mul_comm] at h1 h2;exact ⟨s, A, n, c, h1, h2, h3⟩
theorem IRow.put (h : IRow w g zs L) (hk : k < zs.length) (hz : NI w z L s A n c) :
  IRow ((w.setCell ⟨g, k * 2, none⟩ (.bool s)).setCell ⟨g, k * 2 + 1, none⟩ (.slice A n c)) g (zs.set k z) L /\
  (∀ z L s' A' n' c', NI w z L s' A' n' c' -> NI ((w.setCell ⟨g, k * 2, none⟩ (.bool s)).setCell ⟨g, k * 2 + 1, none⟩ (.slice A n c)) z L s' A' n' c') /\
  (∀ W, Ext W w -> W.heap.size <= g -> Ext W ((w.setCell ⟨g, k * 2, none⟩ (.bool s)).setCell ⟨g, k * 2 + 1, none⟩ (.slice A n c))) /\
  (∀ g' T' cs', g' ≠ g -> Box w g' T' cs' -> Box ((w.setCell ⟨g, k * 2, none⟩ (.bool s)).setCell ⟨g, k * 2 + 1, none⟩ (.slice A n c)) g' T' cs') := by
 obtain ⟨cs, h1, h2⟩ := h;have F := ((FinRow.refl h1 h2.nwl).step (k * 2) (v := .bool s) (by intro k h; cases h)).step (k * 2 + 1) (v := .slice A n c) (by intro k h; cases h);exact ⟨⟨_, F.box, (h2.set hz k hk).ni F.ni⟩, F.ni, F.ext, F.far⟩
end
end
section
def cfI (l : List Int) (i : Nat) : Int := l.getD i 0
theorem cfI_lt {l : List Int} {i : Nat} (h : i < l.length) : cfI l i = l[i] := by unfold cfI; simp [h]
theorem cfI_ge {l : List Int} {i : Nat} (h : l.length <= i) : cfI l i = 0 := by unfold cfI; simp [h]
def psum (f : Nat -> Int) : Nat -> Int
 | 0 => 0
 | n + 1 => psum f n + f n
def termI (xs ys : List Int) (s i : Nat) : Int := if i <= s then cfI xs i * cfI ys (s - i) else 0
def mulI (xs ys : List Int) : List Int := (List.range (xs.length + ys.length - 1)).map fun s => psum (termI xs ys s) xs.length
def midI (xs ys : List Int) (i j : Nat) : List Int := (List.range (xs.length + ys.length - 1)).map fun s => psum (termI xs ys s) i + if i <= s /\ s < i + j then cfI xs i * cfI ys (s - i) else 0
variable (xs ys : List Int)
theorem midI_len (i j : Nat) : (midI xs ys i j).length = xs.length + ys.length - 1 := by unfold midI; simp
theorem midI_at (i j s : Nat) (h : s < (midI xs ys i j).length) : (midI xs ys i j)[s] = psum (termI xs ys s) i + if i <= s /\ s < i + j then cfI xs i * cfI ys (s - i) else 0 := by simp [midI]
theorem midI_zero : midI xs ys 0 0 = List.replicate (xs.length + ys.length - 1) 0 := by
 refine List.ext_getElem (by rw [midI_len]; simp) (fun s h1 h2 => ?_);rw [midI_at, List.getElem_replicate, if_neg (by omega)]
 rfl
theorem midI_row (i : Nat) : midI xs ys i ys.length = midI xs ys (i + 1) 0 := by
 refine List.ext_getElem (by rw [midI_len, midI_len]) (fun s h1 h2 => ?_);rw [midI_at, midI_at, if_neg (c := i + 1 <= s /\ s < i + 1 + 0) (by omega), Int.add_zero]
 show _ = psum (termI xs ys s) i + termI xs ys s i
 congr 1
 unfold termI
 by_cases h : i <= s
 ·rw [if_pos h]
  by_cases h3 : s < i + ys.length
  ·rw [if_pos ⟨h, h3⟩]
  ·rw [if_neg (by omega), cfI_ge (l := ys) (by omega), Int.mul_zero]
 ·rw [if_neg (by omega), if_neg h]
theorem midI_end : midI xs ys xs.length 0 = mulI xs ys := by
 refine List.ext_getElem (by rw [midI_len]; simp [mulI]) (fun s h1 h2 => ?_);rw [midI_at, if_neg (by omega), Int.add_zero];simp [mulI]
theorem midI_step {i j : Nat} (hi : i < xs.length) (hj : j < ys.length) (h : i + j < (midI xs ys i j).length) : (midI xs ys i j).set (i + j) ((midI xs ys i j)[i + j] + xs[i] * ys[j]) = midI xs ys i (j + 1) := by
 refine List.ext_getElem (by rw [List.length_set, midI_len, midI_len]) (fun s h1 h2 => ?_);rw [List.getElem_set]
 by_cases e : i + j = s
 ·subst e
  rw [if_pos rfl, midI_at, midI_at, if_neg (by omega), if_pos (by omega), Int.add_zero, cfI_lt hi, show i + j - i = j by omega, cfI_lt hj]
 ·rw [if_neg e, midI_at, midI_at]
  congr 1
  by_cases h3 : i <= s /\ s < i + j
  ·rw [if_pos h3, if_pos (by omega)]
  ·rw [if_neg h3, if_neg (by omega)]
theorem cfI_abs {l : List Int} {X : Nat} (h : ∀ x ∈ l, x.natAbs <= X) (i : Nat) : (cfI l i).natAbs <= X := by
 by_cases hi : i < l.length
 ·rw [cfI_lt hi]; exact h _ (List.getElem_mem hi)
 ·rw [cfI_ge (by omega)]; exact Nat.zero_le _
theorem psum_abs {f : Nat -> Int} {B : Nat} (h : ∀ i, (f i).natAbs <= B) : ∀ n, (psum f n).natAbs <= n * B
 | 0 => by simp [psum]
 | n + 1 => by
  have h1 := psum_abs h n;have h2 := h n;have h3 := Int.natAbs_add_le (psum f n) (f n)
  show (psum f n + f n).natAbs <= _
  rw [Nat.succ_mul];omega
theorem termI_abs {X Y : Nat} (hx : ∀ x ∈ xs, x.natAbs <= X) (hy : ∀ y ∈ ys, y.natAbs <= Y) (s i : Nat) : (termI xs ys s i).natAbs <= X * Y := by
 unfold termI
 split
 ·rw [Int.natAbs_mul]; exact Nat.mul_le_mul (cfI_abs hx _) (cfI_abs hy _)
 ·exact Nat.zero_le _
theorem midI_abs {X Y : Nat} (hx : ∀ x ∈ xs, x.natAbs <= X) (hy : ∀ y ∈ ys, y.natAbs <= Y) (i j : Nat) : ∀ z ∈ midI xs ys i j, z.natAbs <= (i + 1) * (X * Y) := by
 intro z hz;obtain ⟨s, _, rfl⟩ := List.mem_map.1 hz;have h1 := psum_abs (termI_abs xs ys hx hy s) i
 have h2 : (if i <= s /\ s < i + j then cfI xs i * cfI ys (s - i) else 0 : Int).natAbs <= X * Y := by
  split
  ·rw [Int.natAbs_mul]; exact Nat.mul_le_mul (cfI_abs hx _) (cfI_abs hy _)
  ·exact Nat.zero_le _
 refine Nat.le_trans (Int.natAbs_add_le _ _) ?_;rw [Nat.succ_mul];omega
end
section
open Go.RowKit
attribute [local go_sem ↓] Go.wp_at_zero Go.wp_at_succ
def trimI (l : List Int) : List Int := (l.reverse.dropWhile (fun x => decide (x = 0))).reverse
theorem trimI_zero (l : List Int) : trimI (l ++ [0]) = trimI l := by
 unfold trimI;rw [List.reverse_append];simp
theorem trimI_snoc (l : List Int) {x : Int} (h : x ≠ 0) : trimI (l ++ [x]) = l ++ [x] := by
 unfold trimI;rw [List.reverse_append];simp [h]
theorem trimI_step {l : List Int} {n : Nat} (hn : n < l.length) (h0 : l[n] = 0) (h : trimI (l.take (n + 1)) = trimI l) : trimI (l.take n) = trimI l := by
 rw [<- h, List.take_succ_eq_append_getElem hn, h0, trimI_zero]
theorem trimI_stop {l : List Int} {n : Nat} (hn : n < l.length) (h0 : l[n] ≠ 0) (h : trimI (l.take (n + 1)) = trimI l) : trimI l = l.take (n + 1) := by
 rw [<- h, List.take_succ_eq_append_getElem hn, trimI_snoc _ h0]
theorem trimI_pre (l : List Int) : ∃ k, l = trimI l ++ List.replicate k 0 := by
 have : ∀ m : List Int, ∃ k, m.reverse = trimI m.reverse ++ List.replicate k 0 := by
  intro m
  induction m with
  | nil => exact ⟨0, rfl⟩
  | cons x m ih =>
   rw [List.reverse_cons]
   by_cases h : x = 0
   ·subst h
    obtain ⟨k, hk⟩ := ih;refine ⟨k + 1, ?_⟩;rw [trimI_zero, List.replicate_succ', <- List.append_assoc, <- hk]
   ·exact ⟨0, by rw [trimI_snoc _ h]; simp⟩
 have := this l.reverse
 rwa [List.reverse_reverse] at this
theorem trimI_take (l : List Int) : l.take (trimI l).length = trimI l := by
 obtain ⟨k, hk⟩ := trimI_pre l;exact (congrArg (List.take (trimI l).length) hk).trans (List.take_left ..)
theorem trimI_len (l : List Int) : (trimI l).length <= l.length := by
 obtain ⟨k, hk⟩ := trimI_pre l;have := congrArg List.length hk;rw [List.length_append] at this;omega
section
variable {w w' : World} {z y : Int} {zs ys : List Int} {L M : Nat} {s t : Bool} {A B : Option Addr} {n c m d : Nat}
theorem p_exact (h : NI w z L s A n c) (k : NI w y M t B m d) (hL : L <= 8000) (hM : M <= 8000) (h0 : y ≠ 0) (hd : y ∣ z) : Calls Tryz.prog 108 #[.agg #[.bool s, .slice A n c], .agg #[.bool t, .slice B m d]] w (RetNI (z / y) L w) := by
 go_enter Tryz.func108, Tryz.ntmps108
 go_upto_region 1 with (fail)
 obtain ⟨W, hW, extW, bx, by_, bz, hz⟩ := box3 w 25 25 25 #[.bool s, .slice A n c] #[.bool t, .slice B m d] #[Value.bool false, Value.slice none 0 0];rw [<- hW];clear hW;have x0 := bx.cell 0 (.bool s) rfl;have x1 := bx.cell 1 (.slice A n c) rfl;have y0 := by_.cell 0 (.bool t) rfl;have y1 := by_.cell 1 (.slice B m d) rfl
 go_wp2_with fail
 refine (p_DivMod (h.ext extW) (k.ext extW) (by omega) (by omega) h0).mono ?_;rintro e wb ⟨s1, A1, n1, c1, s2, A2, n2, c2, q, r, rfl, hq, hr, hdm, hx1⟩;obtain ⟨_, hqe, hql⟩ := (dm_q_le hdm h0).2.2 hd;rw [hqe] at hq hql;have hq' := hq.tight h (by simpa using hql);clear x0 x1 y0 y1
 go_upto_region 2 with (fail)
 refine at_world (fun V => Ext W V /\ Box V wb.heap.size 25 #[.bool s1, .slice A1 n1 c1] /\ NI V (z / y) L s1 A1 n1 c1) ?_ ?_
 ·obtain ⟨e1, e2, e3⟩ := two_new wb 25 #[.bool s1, .slice A1 n1 c1] #[.bool s2, .slice A2 n2 c2]
  exact ⟨hx1.trans e1, e2, hq'.ext e1⟩
 generalize wb.heap.size = g5;rintro V ⟨EV, b5, hqV⟩;have x0 := b5.cell 0 _ rfl;have x1 := b5.cell 1 _ rfl;have z0 := (bz.ext EV).cell 0 _ rfl;have z1 := (bz.ext EV).cell 1 _ rfl;have f0 := (bz.ext EV).frozen 0;have f1 := (bz.ext EV).frozen 1
 go_wp2_with fail
 obtain ⟨b1, b2, b3, b4⟩ := fin_dual (s := s1) (A := A1) (n := n1) (c := c1) (bz.ext EV);have r0 := b1.cell 0 (.bool s1) rfl;have r1 := b1.cell 1 (.slice A1 n1 c1) rfl;unfold set2 at r0 r1;refine bodyPost_ret (v := .agg #[.bool s1, .slice A1 n1 c1]) (by simp [results, Tryz.results108, go_sem, r0, r1]) rfl ⟨s1, A1, n1, c1, rfl, ?_, b3 _ (extW.trans EV) (by omega)⟩;exact b2 _ _ _ _ _ _ hqV
theorem p_cutI_same (h : IPol w A n c zs L) (hL : L <= 10000) (hn : n <= 1000) : Calls Tryz.prog 109 #[.slice A n c, .func (.func 96) #[] #[]] w fun e w' => e = .returned (.slice A (trimI zs).length c) /\ Ext w w' := by
 go_enter Tryz.func109, Tryz.ntmps109
 go_wp2_with fail
 go_loopw [0] (fun v wr => ∃ k : Nat, k <= n /\ v = .slice A k c /\ Ext w wr /\ trimI (zs.take k) = trimI zs) (fun v _ => lenV v)
 case atStart => exact ⟨n, Nat.le_refl _, rfl, Ext.refl _, by rw [List.take_of_length_le (Nat.le_of_eq h.len)]⟩
 case round =>
  obtain ⟨k, hk, rfl, ext, ht⟩ := hrel;have HT := Lib.hid ht;clear ht
  rcases Nat.eq_zero_or_pos k with h0 | h0
  ·subst h0
   go_wp2_with fail
   go_ret
   have ht := HT.out;exact ⟨by rw [<- ht]; rfl, ext⟩
  ·obtain ⟨j, rfl⟩ : ∃ j, k = j + 1 := ⟨k - 1, by omega⟩
   have hj : j < zs.length := by rw [h.len]; omega
   have hjc : (j : Int) <= (c : Int) := by have := h.cap; omega
   obtain ⟨b, off, rfl, hr⟩ := h.at_ (fun e => by rw [e] at hj; exact absurd hj (Nat.not_lt_zero _));obtain ⟨sx, Ax, nx, cx, e0, e1, hx⟩ := (hr.ext ext).at_ j hj;have e0' : wr.cell? ⟨b, off + j * 2, none⟩ = some (.bool sx) := by rw [Nat.mul_comm]; exact e0
   have e1' : wr.cell? ⟨b, off + j * 2 + 1, none⟩ = some (.slice Ax nx cx) := by rw [Nat.mul_comm]; exact e1
   by_cases hq : zs[j] = 0
   ·have HS := Lib.hid (show (zs[j]).sign = 0 by rw [hq]; rfl)
    have HQ := Lib.hid hq;clear hq
    go_wp2_with fail
    refine (p_Sign hx (by omega)).mono ?_;rintro e V ⟨rfl, hxt⟩;rw [HS.out]
    go_wp2_with fail
    go_roundw
    case rel => exact ⟨j, by omega, by go_num, ext.trans hxt, trimI_step hj HQ.out HT.out⟩
    case measure => simp [lenV]
   ·obtain ⟨S, hS, dS⟩ : ∃ S, (zs[j]).sign = S /\ (S == 0) = false := ⟨_, rfl, beq_eq_false_iff_ne.2 (fun e => hq (Int.sign_eq_zero_iff_zero.1 e))⟩
    have HS := Lib.hid hS;have HQ := Lib.hid hq;clear hS hq
    go_wp2_with fail
    refine (p_Sign hx (by omega)).mono ?_;rintro e V ⟨rfl, hxt⟩;rw [HS.out]
    go_wp2_with fail
    go_ret
    refine ⟨?_, ext.trans hxt⟩;rw [trimI_stop hj HQ.out HT.out, List.length_take, Nat.min_eq_left (by omega)]
    rfl
end
theorem NI.le_pow {w : World} {z : Int} {L : Nat} {s : Bool} {A : Option Addr} {n c : Nat} (h : NI w z L s A n c) : z.natAbs <= 4294967296 ^ L := by
 obtain ⟨xs, h1, h2, h3, h4, h5, h6⟩ := h.out;rw [<- h5.abs];exact Nat.le_trans (Nat.le_of_lt (val_lt h5.w32)) (Nat.pow_le_pow_right (by omega) (by omega))
theorem IPol.abs {w : World} {A : Option Addr} {n c L : Nat} {zs : List Int} (h : IPol w A n c zs L) : ∀ z ∈ zs, z.natAbs <= 4294967296 ^ L := by
 intro z hz;obtain ⟨i, hi, rfl⟩ := List.mem_iff_getElem.1 hz;obtain ⟨b, off, _, h2⟩ := h.at_ (fun e => by rw [e] at hi; exact absurd hi (Nat.not_lt_zero _));obtain ⟨s, A, n, c, _, _, h3⟩ := h2.at_ i hi;exact h3.le_pow
theorem mid_tight {xs ys : List Int} {L M i j k N : Nat} (hx : ∀ x ∈ xs, x.natAbs <= 4294967296 ^ L) (hy : ∀ y ∈ ys, y.natAbs <= 4294967296 ^ M) (hi : i < 1000) (hk : k < (midI xs ys i j).length) {w : World} {s : Bool} {A : Option Addr} {n c : Nat} (h : NI w (midI xs ys i j)[k] N s A n c) : NI w (midI xs ys i j)[k] (L + M + 1) s A n c := by
 refine h.tight' ?_;have h1 := midI_abs xs ys hx hy i j _ (List.getElem_mem hk);have h2 : 0 < 4294967296 ^ L * 4294967296 ^ M := Nat.mul_pos (Nat.pow_pos (by omega)) (Nat.pow_pos (by omega));rw [Nat.pow_succ, Nat.pow_add];generalize 4294967296 ^ L * 4294967296 ^ M = P at h1 h2 ⊢;refine Nat.lt_of_le_of_lt h1 ?_;rw [Nat.mul_comm];exact Nat.mul_lt_mul_of_pos_left (by omega) h2
section
variable {w w' : World} {z y : Int} {xs ys : List Int} {L M : Nat} {s t : Bool} {A B : Option Addr} {n c m d : Nat}
end
def denP (qs : List Rat) : Nat := qs.foldl (fun d q => Nat.lcm d q.den) 1
theorem denP_snoc (qs : List Rat) (q : Rat) : denP (qs ++ [q]) = Nat.lcm (denP qs) q.den := by unfold denP; rw [List.foldl_append]; rfl
theorem foldl_lcm (qs : List Rat) : ∀ d, 0 < d -> 0 < qs.foldl (fun d q => Nat.lcm d q.den) d /\ d ∣ qs.foldl (fun d q => Nat.lcm d q.den) d /\ ∀ q ∈ qs, q.den ∣ qs.foldl (fun d q => Nat.lcm d q.den) d := by
 induction qs with
 | nil => intro d hd; exact ⟨hd, Nat.dvd_refl _, fun q h => by cases h⟩
 | cons p qs ih =>
  intro d hd;obtain ⟨h1, h2, h3⟩ := ih (Nat.lcm d p.den) (Nat.lcm_pos hd p.den_pos);refine ⟨h1, Nat.dvd_trans (Nat.dvd_lcm_left _ _) h2, fun q hq => ?_⟩
  rcases List.mem_cons.1 hq with rfl | hq
  ·exact Nat.dvd_trans (Nat.dvd_lcm_right _ _) h2
  ·exact h3 q hq
theorem denP_pos (qs : List Rat) : 0 < denP qs := (foldl_lcm qs 1 Nat.one_pos).1
theorem denP_dvd {qs : List Rat} {q : Rat} (h : q ∈ qs) : q.den ∣ denP qs := (foldl_lcm qs 1 Nat.one_pos).2.2 q h
def numsP (qs : List Rat) : List Int := qs.map fun q => q.num * (((denP qs : Nat) : Int) / ((q.den : Nat) : Int))
theorem numsP_len (qs : List Rat) : (numsP qs).length = qs.length := List.length_map _
theorem numsP_at (qs : List Rat) (j : Nat) (h : j < (numsP qs).length) (h' : j < qs.length) : (numsP qs)[j] = qs[j].num * (((denP qs : Nat) : Int) / ((qs[j].den : Nat) : Int)) := by simp [numsP]
theorem lcm_step (d e : Nat) : (d : Int) * ((e : Int) / ((Nat.gcd d e : Nat) : Int)) = ((Nat.lcm d e : Nat) : Int) := by
 unfold Nat.lcm;rw [Nat.mul_div_assoc _ (Nat.gcd_dvd_right d e)]
 push_cast
 rfl
theorem set_fill {l : List Int} {k n : Nat} (hk : k < l.length) (hn : l.length = n) : (l.take k ++ List.replicate (n - k) 0).set k l[k] = l.take (k + 1) ++ List.replicate (n - (k + 1)) 0 := by
 have e : n - k = (n - (k + 1)) + 1 := by omega
 rw [e, List.replicate_succ, List.set_append_right _ _ (by rw [List.length_take]; omega), List.length_take, Nat.min_eq_left (by omega), Nat.sub_self, List.set_cons_zero, List.take_succ_eq_append_getElem hk, List.append_assoc]
 rfl
def RetSplit (zs : List Int) (d : Nat) (L M : Nat) (w : World) (e : Ending) (w' : World) : Prop :=
 ∃ A n c s B m k, e = .returned (.tuple #[.slice A n c, .agg #[.bool s, .slice B m k]]) /\ IPol w' A n c zs L /\ NI w' (d : Int) M s B m k /\ Ext w w'
section
variable {w w' : World} {q x : Rat} {L M : Nat} {s t : Bool} {A B : Option Addr} {n c m d : Nat} {sx tx : Bool} {Ax Bx : Option Addr} {nx cx mx dx : Nat} {qs ps : List Rat}
theorem denP_take (qs : List Rat) (j : Nat) : denP (qs.take j) ∣ denP qs := by
 have e : denP qs = (qs.drop j).foldl (fun d q => Nat.lcm d q.den) (denP (qs.take j)) := by
  unfold denP;rw [<- List.foldl_append, List.take_append_drop]
 rw [e];exact (foldl_lcm _ _ (denP_pos _)).2.1
theorem p_MulW {z y : Int} (h : NI w z L s A n c) (k : NI w y M t B m d) (hL : L <= 50000) (hM : M <= 50000) (hv : Hid (L < 64 \/ M < 64 \/ (z * y).natAbs < 4294967296 ^ 126)) : Calls Tryz.prog 64 #[.agg #[.bool s, .slice A n c], .agg #[.bool t, .slice B m d]] w (RetNI (z * y) (L + M) w) := by
 by_cases h1 : L < 64
 ·exact p_Mul h k hL hM (by omega)
 by_cases h2 : M < 64
 ·exact p_Mul h k hL hM (by omega)
 have hv' : (z * y).natAbs < 4294967296 ^ 126 := by
  rcases hv.out with e | e | e
  ·exact absurd e h1
  ·exact absurd e h2
  ·exact e
 by_cases h0 : y = 0
 ·refine (p_Mul h (k.tight' (M := 0) (by rw [h0]; decide)) hL (by omega) (by omega)).mono ?_
  rintro e V ⟨s1, A1, n1, c1, rfl, h3, hx⟩;exact ⟨s1, A1, n1, c1, rfl, h3.le (by omega), hx⟩
 by_cases h3 : z.natAbs < 4294967296 ^ 63
 ·refine (p_Mul (h.tight' h3) k (by omega) hM (by omega)).mono ?_
  rintro e V ⟨s1, A1, n1, c1, rfl, h3, hx⟩;exact ⟨s1, A1, n1, c1, rfl, h3.le (by omega), hx⟩
 ·have h4 : y.natAbs < 4294967296 ^ 63 := by
   refine Decidable.byContradiction fun hc => ?_
   have h5 : 4294967296 ^ 63 * 4294967296 ^ 63 <= z.natAbs * y.natAbs := Nat.mul_le_mul (Nat.le_of_not_lt h3) (Nat.le_of_not_lt hc);rw [<- Nat.pow_add, <- Int.natAbs_mul] at h5;exact absurd hv' (Nat.not_lt.2 h5)
  refine (p_Mul h (k.tight' h4) hL (by omega) (by omega)).mono ?_;rintro e V ⟨s1, A1, n1, c1, rfl, h3, hx⟩;exact ⟨s1, A1, n1, c1, rfl, h3.le (by omega), hx⟩
set_option maxRecDepth 100000 in
theorem p_splitV (h : Pol w A n c qs L) (hL : L <= 500) (hn : n <= 40) (hNL : n * L <= 2900) (hC : L < 64 \/ (denP qs < 4294967296 ^ 126 /\ ∀ z ∈ numsP qs, z.natAbs < 4294967296 ^ 126)) (hT : Tab w) : Calls Tryz.prog 61 #[.slice A n c] w (RetSplit (trimI (numsP qs)) (denP qs) (n * L + L + 2) (n * L + 2) w) := by
 have HC := Lib.hid hC;clear hC;have hmk := mk_ints n (by omega);have Hlen := Lib.hid h.len;have Hnl := Lib.hid ((numsP_len qs).trans h.len)
 go_enter Tryz.func61, Tryz.ntmps61
 go_upto_region 1 with (fail)
 obtain ⟨W, hW, extW, b3, hz⟩ := box1 w 25 #[Value.bool false, Value.slice none 0 0];rw [<- hW];clear hW
 go_wp2_with fail
 refine (p_FromInt 1 (by omega) (by omega)).mono ?_;rintro e W1 ⟨s1, A1, n1, c1, rfl, h1, hx1⟩
 go_upto_region 2 with (fail)
 have ha := (Ext.refl W1).alloc (.cells #[.bool s1, .slice A1 n1 c1] 25);refine at_world (fun V => Ext w V /\ Box V w.heap.size 25 #[Value.bool false, Value.slice none 0 0] /\ Box V W1.heap.size 25 #[.bool s1, .slice A1 n1 c1] /\ NI V 1 2 s1 A1 n1 c1) ⟨(extW.trans hx1).trans ha, (b3.ext hx1).ext ha, Box.new W1 _ _, h1.ext ha⟩ ?_;have hg4 : w.heap.size < W1.heap.size := by have := hx1.size; omega
 clear ha b3 hz hx1 extW h1;generalize W1.heap.size = g4 at hg4 ⊢;rintro V ⟨ext0, b3, b4, h1⟩
 go_wp2_with fail
 go_loopw [13] (fun i wr => ∃ (k : Nat) (s : Bool) (A' : Option Addr) (n' c' : Nat), k <= n /\ i = .int .i64 (k : Int) /\ Ext w wr /\ Box wr w.heap.size 25 #[Value.bool false, Value.slice none 0 0] /\ Box wr g4 25 #[.bool s, .slice A' n' c'] /\ NI wr ((denP (qs.take k) : Nat) : Int) (k * L + 2) s A' n' c') (fun i _ => n - (intOf i).toNat)
 case atStart => exact ⟨0, s1, A1, n1, c1, Nat.zero_le _, rfl, ext0, b3, b4, by rw [List.take_zero, Nat.zero_mul]; exact h1⟩
 case round =>
  clear b3 b4 h1 ext0;obtain ⟨k, sd, Ad, nd, cd, hk, rfl, ext, b3, b4, hd⟩ := hrel;have hkL : k * L <= n * L := Nat.mul_le_mul_right _ hk
  by_cases hlt : k < n
  ·have hj : k < qs.length := by rw [Hlen.out]; exact hlt
   have hI : (k : Int) < (n : Int) := by omega
   obtain ⟨p, off, rfl, hr⟩ := h.at_ (fun e => by rw [e] at hj; exact absurd hj (Nat.not_lt_zero _));obtain ⟨sx, Ax, nx, cx, tx, Bx, mx, dx, e0, e1, e2, e3, hx⟩ := (hr.ext ext).at_ k hj;have e0' : wr.cell? ⟨p, off + k * 4, none⟩ = some (.bool sx) := by rw [Nat.mul_comm]; exact e0
   have e1' : wr.cell? ⟨p, off + k * 4 + 1, none⟩ = some (.slice Ax nx cx) := by rw [Nat.mul_comm]; exact e1
   have e2' : wr.cell? ⟨p, off + k * 4 + 2, none⟩ = some (.bool tx) := by rw [Nat.mul_comm]; exact e2
   have e3' : wr.cell? ⟨p, off + k * 4 + 3, none⟩ = some (.slice Bx mx dx) := by rw [Nat.mul_comm]; exact e3
   clear e0 e1 e2 e3;have HT := Lib.hid (show qs.take (k + 1) = qs.take k ++ [qs[k]] from List.take_succ_eq_append_getElem hj);generalize qs[k] = q at hx HT;have hgp : 0 < Nat.gcd (denP (qs.take k)) q.den := Nat.gcd_pos_of_pos_right _ q.den_pos;have HG := Lib.hid (show ((Nat.gcd (denP (qs.take k)) q.den : Nat) : Int) ≠ 0 /\ ((Nat.gcd (denP (qs.take k)) q.den : Nat) : Int) ∣ ((q.den : Nat) : Int) from ⟨by omega, Int.natCast_dvd_natCast.2 (Nat.gcd_dvd_right _ _)⟩);clear hgp
   have HM : Hid (k * L + 2 < 64 \/ L < 64 \/ (((denP (qs.take k) : Nat) : Int) * (((q.den : Nat) : Int) / ((Nat.gcd (denP (qs.take k)) q.den : Nat) : Int))).natAbs < 4294967296 ^ 126) := Lib.hid (by
    rcases HC.out with e | ⟨e, _⟩
    ·exact .inr (.inl e)
    ·refine .inr (.inr ?_)
     rw [lcm_step, <- denP_snoc, <- HT.out, Int.natAbs_natCast];exact Nat.lt_of_le_of_lt (Nat.le_of_dvd (denP_pos qs) (denP_take qs (k + 1))) e)
   go_upto_region 5 with (fail)
   obtain ⟨W6, hW6, ext6, b6, hz6⟩ := box1 wr 27 #[.bool sx, .slice Ax nx cx, .bool tx, .slice Bx mx dx];rw [<- hW6];clear hW6 hz6 e0' e1' e2' e3';replace hx := hx.ext ext6;replace hd := hd.ext ext6;replace b3 := b3.ext ext6;replace b4 := b4.ext ext6;replace ext := ext.trans ext6;clear ext6;refine wpL.st 9 (fun hQ ES => ?_);refine wpL.tB [8,9] 0 17 ?v_0 hQ ?y_0 ES ?_
   case y_0 => intro w' hSw;have k00 := (b4.ext hSw).c2;have k10 := (b6.ext hSw).c4;go_simp;try rfl
   try simp only [zP]
   refine wpL.tB [2,7,8,9] 1 18 ?v_1 hQ ?y_1 ES ?_
   case y_1 => intro w' hSw;go_simp;try rfl
   try simp only [zP]
   refine wpL.tB [6,7,8,9] 3 20 ?v_2 hQ ?y_2 ES ?_
   case y_2 => intro w' hSw;have k00 := (b4.ext hSw).c2;have k10 := (b6.ext hSw).c4;go_simp;try rfl
   try simp only [zP]
   refine wpL.tB [5,6,7,8,9] 4 21 ?v_3 hQ ?y_3 ES ?_
   case y_3 => intro w' hSw;go_simp;try rfl
   try simp only [zP]
   refine wpL.tB [7,8,9] 2 19 ?v_4 hQ ?y_4 ES ?_
   case y_4 => intro w' hSw;have k00 := (b4.ext hSw).c2;have k10 := (b6.ext hSw).c4;go_simp;try rfl
   try simp only [zP]
   refine wpL.tB [6,7,8,9] 5 22 ?v_5 hQ ?y_5 ES ?_
   case y_5 => intro w' hSw;have k00 := (b4.ext hSw).c2;have k10 := (b6.ext hSw).c4;go_simp;try rfl
   try simp only [zP]
   refine wpL.cl (i := 6) rfl (fun K hK => ?_);go_simp
   (go_at_call 102; refine (p_GCD (hd.ext ES) (hx.den.ext ES) (by omega) (by omega) (hT.ext (ext.trans ES))).mono ?_; rintro e wa ⟨s1, A1, n1, c1, rfl, h1, hx0⟩; rw [Int.natAbs_natCast, Int.natAbs_natCast] at h1; have E0_5 := Ext.trans ES hx0)
   refine hK.out _ _ E0_5 ?_;clear hK K
   try simp only [zP]
   refine wpL.cl (i := 7) rfl (fun K hK => ?_);go_simp
   (go_at_call 108; refine (p_exact (hx.den.ext E0_5) h1 (by omega) (by omega) HG.out.1 HG.out.2).mono ?_; rintro e wb ⟨s2, A2, n2, c2, rfl, h2, hx1⟩; have E1_5 := Ext.trans E0_5 hx1)
   refine hK.out _ _ E1_5 ?_;clear hK K
   try simp only [zP]
   refine wpL.cl (i := 8) rfl (fun K hK => ?_);go_simp
   (go_at_call 64; refine (p_MulW (hd.ext E1_5) h2 (by omega) (by omega) HM).mono ?_; rintro e wc ⟨s3, A3, n3, c3, rfl, h3, hx2⟩; have E2_5 := Ext.trans E1_5 hx2)
   refine hK.out _ _ E2_5 ?_;clear hK K
   try simp only [zP]
   have z0 := (b4.ext E2_5).cell 0 _ rfl;have z1 := (b4.ext E2_5).cell 1 _ rfl;have f0 := (b4.ext E2_5).frozen 0;have f1 := (b4.ext E2_5).frozen 1;refine wpL.tl (i := 9) rfl (fun K hK => ?_);go_simp;refine hK.out _ _ ?_;clear hK K
   try simp only [zP]
   refine wpL.done (by kernel_rfl) ?_ _;clear hQ
   go_wp2_with fail
   obtain ⟨q1, q2, q3, q4⟩ := fin_dual (s := s3) (A := A3) (n := n3) (c := c3) (b4.ext E2_5);unfold set2 at q1 q2 q3 q4;have extk := q3 _ (ext.trans E2_5) (by omega);have b3k := q4 _ _ _ (by omega) (b3.ext E2_5);have hdk := q2 _ _ _ _ _ _ h3;rw [lcm_step, <- denP_snoc, <- HT.out] at hdk
   go_roundw
   case rel => exact ⟨k + 1, s3, A3, n3, c3, by omega, by go_num, extk, b3k, q1, hdk.le (by rw [Nat.succ_mul]; omega)⟩
   case measure => simp [intOf]; omega
  ·have hkn : k = n := by omega
   subst hkn;rw [List.take_of_length_le (Nat.le_of_eq Hlen.out)] at hd;have HN := Lib.hid (denP_pos qs);have hI : (k : Int) <= (k : Int) := Int.le_refl _
   go_wp2_with fail
   obtain ⟨g7, hg7⟩ : ∃ g, wr.heap.size = g := ⟨_, rfl⟩;have hgr := ext.size;have hb4 := b4.lt;rw [hg7] at hgr hb4
   try rw [hg7]
   go_loopw [32] (fun i wq => ∃ (j : Nat), j <= k /\ i = .int .i64 (j : Int) /\ Ext w wq /\ Box wq w.heap.size 25 #[Value.bool false, Value.slice none 0 0] /\ Box wq g4 25 #[.bool sd, .slice Ad nd cd] /\ NI wq ((denP qs : Nat) : Int) (k * L + 2) sd Ad nd cd /\ IRow wq g7 ((numsP qs).take j ++ List.replicate (k - j) 0) (k * L + L + 2)) (fun i _ => k - (intOf i).toNat)
   case atStart =>
    have ha := (Ext.refl wr).alloc (.cells (zeroI k).toArray 25);exact ⟨0, Nat.zero_le _, rfl, ext.trans ha, b3.ext ha, b4.ext ha, hd.ext ha, by rw [List.take_zero, List.nil_append, Nat.sub_zero]; rw [<- hg7]; exact IRow.new wr k _⟩
   case round =>
    clear b3 b4 hd ext;obtain ⟨j, hj, rfl, ext, b3, b4, hd, hR⟩ := hrel
    by_cases hlt : j < k
    ·have hjq : j < qs.length := by rw [Hlen.out]; exact hlt
     have hI : (j : Int) < (k : Int) := by omega
     obtain ⟨p, off, rfl, hr⟩ := h.at_ (fun e => by rw [e] at hjq; exact absurd hjq (Nat.not_lt_zero _));obtain ⟨sx, Ax, nx, cx, tx, Bx, mx, dx, e0, e1, e2, e3, hx⟩ := (hr.ext ext).at_ j hjq;have e0' : wr.cell? ⟨p, off + j * 4, none⟩ = some (.bool sx) := by rw [Nat.mul_comm]; exact e0
     have e1' : wr.cell? ⟨p, off + j * 4 + 1, none⟩ = some (.slice Ax nx cx) := by rw [Nat.mul_comm]; exact e1
     have e2' : wr.cell? ⟨p, off + j * 4 + 2, none⟩ = some (.bool tx) := by rw [Nat.mul_comm]; exact e2
     have e3' : wr.cell? ⟨p, off + j * 4 + 3, none⟩ = some (.slice Bx mx dx) := by rw [Nat.mul_comm]; exact e3
     clear e0 e1 e2 e3;have hjn : j < (numsP qs).length := by rw [Hnl.out]; exact hlt
     have hkl : j < ((numsP qs).take j ++ List.replicate (k - j) 0).length := by rw [List.length_append, List.length_take, List.length_replicate, Hnl.out]; omega
     have HS := Lib.hid (set_fill hjn Hnl.out);have HV := Lib.hid (numsP_at qs j hjn hjq);have HD := Lib.hid (show ((qs[j].den : Nat) : Int) ≠ 0 /\ ((qs[j].den : Nat) : Int) ∣ ((denP qs : Nat) : Int) from ⟨by have := qs[j].den_pos; omega, Int.natCast_dvd_natCast.2 (denP_dvd (List.getElem_mem hjq))⟩);generalize qs[j] = q at hx HV HD
     have HM : Hid (L < 64 \/ k * L + 2 < 64 \/ (q.num * (((denP qs : Nat) : Int) / ((q.den : Nat) : Int))).natAbs < 4294967296 ^ 126) := Lib.hid (by
      rcases HC.out with e | ⟨_, e⟩
      ·exact .inl e
      ·exact .inr (.inr (by rw [<- HV.out]; exact e _ (List.getElem_mem hjn))))
     go_upto_region 11 with (fail)
     obtain ⟨W9, hW9, ext9, b9, hz9⟩ := box1 wr 27 #[.bool sx, .slice Ax nx cx, .bool tx, .slice Bx mx dx];rw [<- hW9];clear hW9 hz9 e0' e1' e2' e3';replace hx := hx.ext ext9;replace hd := hd.ext ext9;replace hR := hR.ext ext9;replace b3 := b3.ext ext9;replace b4 := b4.ext ext9;replace ext := ext.trans ext9;clear ext9;refine wpL.st 10 (fun hQ ES => ?_);refine wpL.tB [9,10] 0 37 ?v_6 hQ ?y_6 ES ?_
     case y_6 => intro w' hSw;go_simp;try rfl
     try simp only [zP]
     refine wpL.tB [9,10] 1 38 ?v_7 hQ ?y_7 ES ?_
     case y_7 => intro w' hSw;go_simp;try rfl
     try simp only [zP]
     refine wpL.tB [3,8,10] 2 39 ?v_8 hQ ?y_8 ES ?_
     case y_8 => intro w' hSw;go_simp;try rfl
     try simp only [zP]
     refine wpL.tB [8,10] 3 40 ?v_9 hQ ?y_9 ES ?_
     case y_9 => intro w' hSw;have k00 := (b4.ext hSw).c2;have k10 := (b9.ext hSw).c4;go_simp;try rfl
     try simp only [zP]
     refine wpL.tB [7,8,10] 4 41 ?v_a hQ ?y_a ES ?_
     case y_a => intro w' hSw;have k00 := (b4.ext hSw).c2;have k10 := (b9.ext hSw).c4;go_simp;try rfl
     try simp only [zP]
     refine wpL.tB [6,7,8,10] 5 42 ?v_b hQ ?y_b ES ?_
     case y_b => intro w' hSw;go_simp;try rfl
     try simp only [zP]
     refine wpL.tB [7,8,10] 6 43 ?v_c hQ ?y_c ES ?_
     case y_c => intro w' hSw;have k00 := (b4.ext hSw).c2;have k10 := (b9.ext hSw).c4;go_simp;try rfl
     try simp only [zP]
     refine wpL.cl (i := 7) rfl (fun K hK => ?_);go_simp
     (go_at_call 108; refine (p_exact (hd.ext ES) (hx.den.ext ES) (by omega) (by omega) HD.out.1 HD.out.2).mono ?_; rintro e wa ⟨s1, A1, n1, c1, rfl, h1, hx0⟩; have E7 := Ext.trans ES hx0)
     refine hK.out _ _ E7 ?_;clear hK K
     try simp only [zP]
     refine wpL.cl (i := 8) rfl (fun K hK => ?_);go_simp
     (go_at_call 64; refine (p_MulW (hx.num.ext E7) h1 (by omega) (by omega) HM).mono ?_; rintro e wb ⟨s2, A2, n2, c2, rfl, h2, hx1⟩; have E8 := Ext.trans E7 hx1)
     refine hK.out _ _ E8 ?_;clear hK K
     try simp only [zP]
     refine wpL.tB [10] 9 46 ?v_d hQ ?y_d E8 ?_
     case y_d => intro w' hSw;go_simp;try rfl
     try simp only [zP]
     have hRk := hR.ext E8;obtain ⟨sz, Az, nz, cz, z0, z1, _⟩ := hRk.get hkl;have f0 := hRk.frozen (j * 2);have f1 := hRk.frozen (j * 2 + 1);refine wpL.tl (i := 10) rfl (fun K hK => ?_);go_simp;refine hK.out _ _ ?_;clear hK K
     try simp only [zP]
     refine wpL.done (by kernel_rfl) ?_ _;clear hQ
     go_wp2_with fail
     rw [<- HV.out] at h2;have PP := hRk.put hkl (h2.le (by omega))
     go_roundw
     case rel => exact ⟨j + 1, by omega, by go_num, PP.2.2.1 _ (ext.trans E8) hgr, PP.2.2.2 _ _ _ (by omega) (b3.ext E8), PP.2.2.2 _ _ _ (by omega) (b4.ext E8), PP.2.1 _ _ _ _ _ _ (hd.ext E8), by rw [<- HS.out]; exact PP.1⟩
     case measure => simp [intOf]; omega
    ·have hjk : j = k := by omega
     subst hjk;rw [List.take_of_length_le (Nat.le_of_eq Hnl.out), Nat.sub_self, List.replicate_zero, List.append_nil] at hR;have hp := hR.pol Hnl.out (by unfold maxLen; omega);have hI : (j : Int) <= (j : Int) := Int.le_refl _;have htl := trimI_len (numsP qs)
     go_upto_region 13 with (fail)
     refine wpL.st 4 (fun hQ ES => ?_);refine wpL.tB [1,3,4] 0 48 ?v_e hQ ?y_e ES ?_
     case y_e => intro w' hSw;go_simp;try rfl
     try simp only [zP]
     refine wpL.tB [4] 2 50 ?v_f hQ ?y_f ES ?_
     case y_f => intro w' hSw;have j0 := (b4.ext hSw).c2;go_simp;try rfl
     try simp only [zP]
     refine wpL.cl (i := 1) rfl (fun K hK => ?_);go_simp
     (go_at_call 109; refine (p_cutI_same (hp.ext ES) (by omega) (by omega)).mono ?_; rintro e wa ⟨rfl, hx0⟩; have E1 := Ext.trans ES hx0)
     refine hK.out _ _ E1 ?_;clear hK K
     try simp only [zP]
     refine wpL.tB [4] 3 2 ?v_g hQ ?y_g E1 ?_
     case y_g => intro w' hSw;go_simp;try rfl
     try simp only [zP]
     have z0 := (b3.ext E1).cell 0 _ rfl;have z1 := (b3.ext E1).cell 1 _ rfl;have f0 := (b3.ext E1).frozen 0;have f1 := (b3.ext E1).frozen 1;refine wpL.tl (i := 4) rfl (fun K hK => ?_);go_simp;refine hK.out _ _ ?_;clear hK K
     try simp only [zP]
     refine wpL.done (by kernel_rfl) ?_ _;clear hQ
     go_wp2_with fail
     obtain ⟨q1, q2, q3, q4⟩ := fin_dual (s := sd) (A := Ad) (n := nd) (c := cd) (b3.ext E1);have r0 := q1.cell 0 (.bool sd) rfl;have r1 := q1.cell 1 (.slice Ad nd cd) rfl;obtain ⟨cs, c1, c2⟩ := hR.ext E1;have hR2 : IRow _ g7 (numsP qs) (j * L + L + 2) := ⟨cs, q4 _ _ _ (by omega) c1, c2.ni q2⟩;have hp2 := (hR2.pol Hnl.out (by unfold maxLen; omega)).take (k := (trimI (numsP qs)).length) (by rw [<- Hnl.out]; exact htl);rw [trimI_take] at hp2;unfold set2 at r0 r1 q2 q3 hp2;refine bodyPost_ret (v := .tuple #[.slice (some ⟨g7, 0, none⟩) (trimI (numsP qs)).length j, .agg #[.bool sd, .slice Ad nd cd]]) (by simp [results, Tryz.results61, go_sem, r0, r1]) rfl ⟨_, _, _, sd, Ad, nd, cd, rfl, hp2, q2 _ _ _ _ _ _ (hd.ext E1), q3 _ (ext.trans E1) (by omega)⟩
theorem p_split (h : Pol w A n c qs L) (hL : L <= 60) (hn : n <= 40) (hT : Tab w) : Calls Tryz.prog 61 #[.slice A n c] w (RetSplit (trimI (numsP qs)) (denP qs) (n * L + L + 2) (n * L + 2) w) :=
 p_splitV h (by omega) hn (Nat.le_trans (Nat.mul_le_mul hn hL) (by decide)) (.inl (by omega)) hT
end
section
variable {w w' : World} {z y : Int} {zs ys : List Int} {L M : Nat} {s t : Bool} {A B : Option Addr} {n c m d : Nat}
set_option maxRecDepth 100000 in
theorem p_join (h : IPol w A n c zs L) (hy : NI w y M t B m d) (h0 : y ≠ 0) (hL : L <= 3000) (hM : M <= 3000) (hn : n <= 1000) (hT : Tab w) : Calls Tryz.prog 62 #[.slice A n c, .agg #[.bool t, .slice B m d]] w (RetPol (zs.map (fun z => mkQ z y)) (max L M) w) := by
 have hmk := mk_rats n (by omega);have Hlen := Lib.hid h.len
 go_enter Tryz.func62, Tryz.ntmps62
 go_upto_region 1 with (fail)
 obtain ⟨W, hW, extW, b3, hz⟩ := box1 w 25 #[.bool t, .slice B m d];rw [<- hW];clear hW hz
 go_wp2_with fail
 go_loopw [13] (fun i wr => ∃ k : Nat, k <= n /\ i = .int .i64 (k : Int) /\ Ext W wr /\ Fill wr W.heap.size n ((zs.take k).map (fun z => mkQ z y)) (max L M)) (fun i _ => n - (intOf i).toNat)
 case atStart => exact ⟨0, Nat.zero_le _, rfl, (Ext.refl W).alloc _, Fill.new W n _⟩
 case round =>
  obtain ⟨k, hk, rfl, ext, hF⟩ := hrel
  by_cases hlt : k < n
  ·have hj : k < zs.length := by rw [Hlen.out]; exact hlt
   have hI : (k : Int) < (n : Int) := by omega
   obtain ⟨b, off, rfl, hr⟩ := h.at_ (fun e => by rw [e] at hj; exact absurd hj (Nat.not_lt_zero _));obtain ⟨sx, Ax, nx, cx, e0, e1, hx⟩ := (hr.ext (extW.trans ext)).at_ k hj;have e0' : wr.cell? ⟨b, off + k * 2, none⟩ = some (.bool sx) := by rw [Nat.mul_comm]; exact e0
   have e1' : wr.cell? ⟨b, off + k * 2 + 1, none⟩ = some (.slice Ax nx cx) := by rw [Nat.mul_comm]; exact e1
   have HT := Lib.hid (show (zs.take (k + 1)).map (fun z => mkQ z y) = (zs.take k).map (fun z => mkQ z y) ++ [(fun z => mkQ z y) zs[k]] by rw [List.take_succ_eq_append_getElem hj, List.map_append]; rfl);have hkl : ((zs.take k).map (fun z => mkQ z y)).length = k := by rw [List.length_map, List.length_take, Hlen.out]; omega
   go_upto_region 5 with (fail)
   obtain ⟨W2, hW2, ext2, b9, hz2⟩ := box1 wr 25 #[.bool sx, .slice Ax nx cx];rw [<- hW2];clear hW2 hz2 e0 e1 e0' e1';replace hx := hx.ext ext2;replace hF := hF.ext ext2;replace ext := ext.trans ext2;clear ext2;have x0 := b9.cell 0 (.bool sx) rfl;have x1 := b9.cell 1 (.slice Ax nx cx) rfl;have y0 := (b3.ext ext).cell 0 (.bool t) rfl;have y1 := (b3.ext ext).cell 1 (.slice B m d) rfl
   go_wp2_with fail
   refine (p_Make_nz hx (hy.ext (extW.trans ext)) (by omega) (by omega) h0 (hT.ext (extW.trans ext))).mono ?_;rintro e V ⟨s7, A7, n7, c7, t7, B7, m7, d7, rfl, h7, hxt⟩;clear x0 x1 y0 y1 b9;replace hF := hF.ext hxt;replace ext := ext.trans hxt;have hcs := hF.cells (by rw [hkl]; exact hlt);rw [hkl] at hcs;obtain ⟨p0, p1, p2, p3⟩ := hcs;have f0 := hF.frozen (k * 4);have f1 := hF.frozen (k * 4 + 1);have f2 := hF.frozen (k * 4 + 2);have f3 := hF.frozen (k * 4 + 3)
   go_wp2_with fail
   have P := hF.put hkl hlt h7
   go_roundw
   case rel => exact ⟨k + 1, by omega, by go_num, P.2.2.1 _ ext (Nat.le_refl _), by rw [HT.out]; exact P.1⟩
   case measure => simp [intOf]; omega
  ·have hkn : k = n := by omega
   subst hkn;have hml : ((zs.take k).map (fun z => mkQ z y)).length = k := by rw [List.length_map, List.length_take, Hlen.out]; omega
   have hp := hF.pol hml (by unfold maxLen; omega);rw [List.take_of_length_le (Nat.le_of_eq Hlen.out)] at hp;have hI : (k : Int) <= (k : Int) := Int.le_refl _
   go_wp2_with fail
   go_ret
   exact ⟨_, _, _, rfl, hp, extW.trans ext⟩
end
def prodI (xs ys : List Int) : List Int := if xs.length = 0 \/ ys.length = 0 then [] else mulI xs ys
theorem prodI_len (xs ys : List Int) : (prodI xs ys).length <= xs.length + ys.length := by
 unfold prodI
 split
 ·exact Nat.zero_le _
 ·simp only [mulI, List.length_map, List.length_range]; omega
theorem IPol.tight {w : World} {A : Option Addr} {n c L M : Nat} {zs : List Int} (h : IPol w A n c zs L) (hb : ∀ z ∈ zs, z.natAbs < 4294967296 ^ M) : IPol w A n c zs M := by
 refine ⟨h.len, h.cap, h.top, fun hq => ?_⟩;obtain ⟨b, off, h1, h2⟩ := h.at_ hq;refine ⟨b, off, h1, ⟨fun i hi => ?_⟩⟩;obtain ⟨s, A, n, c, k1, k2, k3⟩ := h2.at_ i hi;exact ⟨s, A, n, c, k1, k2, k3.tight' (hb _ (List.getElem_mem hi))⟩
theorem trimI_mem {l : List Int} {z : Int} (h : z ∈ trimI l) : z ∈ l := by
 rw [<- trimI_take] at h;exact List.mem_of_mem_take h
structure SizeP (qs : List Rat) (X : Nat) : Prop where
 den : denP qs < 4294967296 ^ X
 num : ∀ z ∈ numsP qs, z.natAbs < 4294967296 ^ X
section
variable {w w' : World} {z y : Int} {xs ys : List Int} {qs ps : List Rat} {L M : Nat} {s t : Bool} {A B : Option Addr} {n c m d : Nat}
theorem IPol.leL (h : IPol w A n c xs L) (hl : L <= M) : IPol w A n c xs M := by
 refine ⟨h.len, h.cap, h.top, fun hq => ?_⟩;obtain ⟨b, off, h1, h2⟩ := h.at_ hq;refine ⟨b, off, h1, ⟨fun i hi => ?_⟩⟩;obtain ⟨s, A, n, c, k1, k2, k3⟩ := h2.at_ i hi;exact ⟨s, A, n, c, k1, k2, k3.le hl⟩
end
def RetIRow (zs : List Int) (L : Nat) (w : World) (e : Ending) (w' : World) : Prop := ∃ g, w.heap.size <= g /\ e = .returned (.slice (some ⟨g, 0, none⟩) zs.length zs.length) /\ IRow w' g zs L /\ Ext w w'
def addI : List Int -> Int -> List Int
 | [], z => [z]
 | a :: l, z => (a + z) :: l
theorem addI_len (l : List Int) (z : Int) : (addI l z).length = max 1 l.length := by
 cases l with
 | nil => rfl
 | cons a l => simp [addI]
theorem addI_set {l : List Int} (h : 0 < l.length) (z : Int) : l.set 0 (l[0] + z) = addI l z := by
 cases l with
 | nil => exact absurd h (Nat.lt_irrefl _)
 | cons a l => rfl
theorem IRow.get0 {w : World} {g L : Nat} {zs : List Int} (h : IRow w g zs L) (hk : 0 < zs.length) : ∃ s A n c, w.cell? ⟨g, 0, none⟩ = some (.bool s) /\ w.cell? ⟨g, 1, none⟩ = some (.slice A n c) /\ NI w zs[0] L s A n c := by
 obtain ⟨s, A, n, c, h1, h2, h3⟩ := h.get hk;rw [Nat.zero_mul] at h1 h2;exact ⟨s, A, n, c, h1, h2, h3⟩
theorem IRow.put0 {w : World} {g L : Nat} {zs : List Int} {z : Int} {s : Bool} {A : Option Addr} {n c : Nat} (h : IRow w g zs L) (hk : 0 < zs.length) (hz : NI w z L s A n c) :
  IRow ((w.setCell ⟨g, 0, none⟩ (.bool s)).setCell ⟨g, 1, none⟩ (.slice A n c)) g (zs.set 0 z) L /\
  (∀ W, Ext W w -> W.heap.size <= g -> Ext W ((w.setCell ⟨g, 0, none⟩ (.bool s)).setCell ⟨g, 1, none⟩ (.slice A n c))) := by
 have := h.put hk hz;simp only [Nat.zero_mul, Nat.zero_add] at this;exact ⟨this.1, this.2.2.1⟩
def RetPlus (zs : List Int) (L : Nat) (w0 : World) (e : Ending) (w' : World) : Prop :=
 ∃ g, w0.heap.size <= g /\ e = .returned (.slice (some ⟨g, 0, none⟩) (trimI zs).length zs.length) /\ IRow w' g zs L /\ Ext w0 w'
theorem IRow.trim {w : World} {g L : Nat} {zs : List Int} (h : IRow w g zs L) (hm : zs.length <= maxLen) : IPol w (some ⟨g, 0, none⟩) (trimI zs).length zs.length (trimI zs) L := by
 have := (h.pol rfl hm).take (k := (trimI zs).length) (trimI_len zs);rw [trimI_take] at this;exact this
section
variable {w w' : World} {z y : Int} {zs xs ys : List Int} {L M : Nat} {s t : Bool} {A B : Option Addr} {n c m d : Nat}
set_option maxRecDepth 100000 in
theorem p_productR (h : IPol w A n c xs L) (h' : IPol w B m d ys M) (hn0 : 0 < n) (hm0 : 0 < m) (hL : L <= 20000) (hM : M <= 20000) (h64 : min L M < 64) (hn : n <= 500) (hm : m <= 500) : Calls Tryz.prog 63 #[.slice A n c, .slice B m d] w (RetIRow (mulI xs ys) (L + M + 1) w) := by
 obtain ⟨N, hN⟩ : ∃ N, n + m - 1 = N := ⟨_, rfl⟩;have hNi : (n : Int) + (m : Int) - 1 = (N : Int) := by omega
 have hmk := mk_ints N (by omega);have Hlx := Lib.hid h.len;have Hly := Lib.hid h'.len;have Hml := Lib.hid (fun i j => show (midI xs ys i j).length = N by rw [midI_len, h.len, h'.len]; exact hN);have HX := Lib.hid h.abs;have HY := Lib.hid h'.abs;have zb1 : ((n : Int) == 0) = false := beq_eq_false_iff_ne.2 (by omega);have zb2 : ((m : Int) == 0) = false := beq_eq_false_iff_ne.2 (by omega)
 go_enter Tryz.func63, Tryz.ntmps63
 go_wp2_with fail
 go_loopw [27] (fun v wr => ∃ i : Nat, i <= n /\ v = .int .i64 (i : Int) /\ Ext w wr /\ IRow wr w.heap.size (midI xs ys i 0) (L + M + 1)) (fun v _ => n - (intOf v).toNat)
 case atStart => exact ⟨0, Nat.zero_le _, rfl, (Ext.refl w).alloc _, by rw [midI_zero, Hlx.out, Hly.out, hN]; exact IRow.new w N _⟩
 case round =>
  obtain ⟨i, hi, rfl, ext, hR⟩ := hrel
  by_cases hlt : i < n
  ·have hj : i < xs.length := by rw [Hlx.out]; exact hlt
   have hI : (i : Int) < (n : Int) := by omega
   obtain ⟨b, off, rfl, hr⟩ := h.at_ (fun e => by rw [e] at hj; exact absurd hj (Nat.not_lt_zero _));obtain ⟨sx, Ax, nx, cx, e0, e1, hx⟩ := hr.at_ i hj;replace e0 := ext.cellv e0;replace e1 := ext.cellv e1;have e0' : wr.cell? ⟨b, off + i * 2, none⟩ = some (.bool sx) := by rw [Nat.mul_comm]; exact e0
   have e1' : wr.cell? ⟨b, off + i * 2 + 1, none⟩ = some (.slice Ax nx cx) := by rw [Nat.mul_comm]; exact e1
   clear e0 e1;have hg7 := hR.lt
   go_upto_region 7 with (fail)
   obtain ⟨W7, hW7, ext7, b7, hz7⟩ := box1 wr 25 #[.bool sx, .slice Ax nx cx];rw [<- hW7];clear hW7 hz7 e0' e1';replace hR := hR.ext ext7;replace ext := ext.trans ext7;clear ext7;generalize wr.heap.size = g7 at b7 hg7 ⊢
   go_wp2_with fail
   go_loopw [34] (fun v wq => ∃ j : Nat, j <= m /\ v = .int .i64 (j : Int) /\ Ext w wq /\ Box wq g7 25 #[.bool sx, .slice Ax nx cx] /\ IRow wq w.heap.size (midI xs ys i j) (L + M + 1)) (fun v _ => m - (intOf v).toNat)
   case atStart => exact ⟨0, Nat.zero_le _, rfl, ext, b7, hR⟩
   case round =>
    clear b7 hR ext;obtain ⟨j, hj2, rfl, ext, b7, hR⟩ := hrel
    by_cases hlt2 : j < m
    ·have hjy : j < ys.length := by rw [Hly.out]; exact hlt2
     have hI2 : (j : Int) < (m : Int) := by omega
     obtain ⟨b2, off2, rfl, hr2⟩ := h'.at_ (fun e => by rw [e] at hjy; exact absurd hjy (Nat.not_lt_zero _));obtain ⟨sy, Ay, ny, cy, e0, e1, hy⟩ := hr2.at_ j hjy;replace e0 := ext.cellv e0;replace e1 := ext.cellv e1;have e0' : wr.cell? ⟨b2, off2 + j * 2, none⟩ = some (.bool sy) := by rw [Nat.mul_comm]; exact e0
     have e1' : wr.cell? ⟨b2, off2 + j * 2 + 1, none⟩ = some (.slice Ay ny cy) := by rw [Nat.mul_comm]; exact e1
     clear e0 e1;obtain ⟨k, hk⟩ : ∃ k, k = i + j := ⟨_, rfl⟩;have hkl : k < (midI xs ys i j).length := by rw [Hml.out]; omega
     have hkl2 : k < (midI xs ys i (j + 1)).length := by rw [Hml.out]; omega
     have HS := Lib.hid (show (midI xs ys i j).set k ((midI xs ys i j)[k] + xs[i] * ys[j]) = midI xs ys i (j + 1) by subst hk; exact midI_step xs ys hj hjy hkl)
     have HV := Lib.hid (show (midI xs ys i j)[k] + xs[i] * ys[j] = (midI xs ys i (j + 1))[k] by
      have := congrArg (fun l => l.getD k 0) HS.out
      simpa [hkl, hkl2] using this)
     have hIk : (i : Int) + (j : Int) = (k : Int) := by omega
     have hI3 : (k : Int) < (N : Int) := by have := Hml.out i j; omega
     have hWk : IntKind.i64.wrap (k : Int) = (k : Int) := IntWalk.i64_in _ (by have := Hml.out i j; omega);have HK := Lib.hid hk;clear hk
     go_upto_region 10 with (fail)
     obtain ⟨W9, hW9, ext9, b9, hz9⟩ := box1 wr 25 #[.bool sy, .slice Ay ny cy];rw [<- hW9];clear hW9 hz9 e0' e1';replace hR := hR.ext ext9;replace b7 := b7.ext ext9;replace ext := ext.trans ext9;clear ext9;obtain ⟨sz, Az, nz, cz, z0, z1, hz⟩ := hR.get hkl;refine wpL.st 15 (fun hQ ES => ?_);refine wpL.tB [14,15] 0 39 ?v_0 hQ ?y_0 ES ?_
     case y_0 => intro w' hSw;have l0 := hSw.cellv z0;have l1 := hSw.cellv z1;go_simp;try rfl
     try simp only [zP]
     refine wpL.tB [3,14,15] 1 40 ?v_1 hQ ?y_1 ES ?_
     case y_1 => intro w' hSw;have l0 := hSw.cellv z0;have l1 := hSw.cellv z1;go_simp;try rfl
     try simp only [zP]
     refine wpL.tB [3,14,15] 2 41 ?v_2 hQ ?y_2 ES ?_
     case y_2 => intro w' hSw;have l0 := hSw.cellv z0;have l1 := hSw.cellv z1;go_simp;try rfl
     try simp only [zP]
     refine wpL.tB [14,15] 3 42 ?v_3 hQ ?y_3 ES ?_
     case y_3 => intro w' hSw;have l0 := hSw.cellv z0;have l1 := hSw.cellv z1;go_simp;try rfl
     try simp only [zP]
     refine wpL.tB [8,9,13,15] 4 43 ?v_4 hQ ?y_4 ES ?_
     case y_4 => intro w' hSw;have l0 := hSw.cellv z0;have l1 := hSw.cellv z1;go_simp;try rfl
     try simp only [zP]
     refine wpL.tB [7,8,9,13,15] 5 44 ?v_5 hQ ?y_5 ES ?_
     case y_5 => intro w' hSw;have l0 := hSw.cellv z0;have l1 := hSw.cellv z1;go_simp;try rfl
     try simp only [zP]
     refine wpL.tB [7,8,9,13,15] 6 45 ?v_6 hQ ?y_6 ES ?_
     case y_6 => intro w' hSw;have l0 := hSw.cellv z0;have l1 := hSw.cellv z1;go_simp;try rfl
     try simp only [zP]
     refine wpL.tB [8,9,13,15] 7 46 ?v_7 hQ ?y_7 ES ?_
     case y_7 => intro w' hSw;have l0 := hSw.cellv z0;have l1 := hSw.cellv z1;go_simp;try rfl
     try simp only [zP]
     refine wpL.tB [9,13,15] 8 47 ?v_8 hQ ?y_8 ES ?_
     case y_8 => intro w' hSw;have l0 := hSw.cellv z0;have l1 := hSw.cellv z1;go_simp;try rfl
     try simp only [zP]
     refine wpL.tB [13,15] 9 48 ?v_9 hQ ?y_9 ES ?_
     case y_9 => intro w' hSw;have j0 := (b7.ext hSw).c2;have k0 := (b9.ext hSw).c2;have l0 := hSw.cellv z0;have l1 := hSw.cellv z1;go_simp;try rfl
     try simp only [zP]
     refine wpL.tB [12,13,15] 10 49 ?v_a hQ ?y_a ES ?_
     case y_a => intro w' hSw;have j0 := (b7.ext hSw).c2;have k0 := (b9.ext hSw).c2;have l0 := hSw.cellv z0;have l1 := hSw.cellv z1;go_simp;try rfl
     try simp only [zP]
     refine wpL.tB [12,13,15] 11 50 ?v_b hQ ?y_b ES ?_
     case y_b => intro w' hSw;have j0 := (b7.ext hSw).c2;have k0 := (b9.ext hSw).c2;have l0 := hSw.cellv z0;have l1 := hSw.cellv z1;go_simp;try rfl
     try simp only [zP]
     refine wpL.cl (i := 12) rfl (fun K hK => ?_);go_simp
     (go_at_call 64; refine (p_Mul (hx.ext (ext.trans ES)) (hy.ext (ext.trans ES)) (by omega) (by omega) (by omega)).mono ?_; rintro e wa ⟨s1, A1, n1, c1, rfl, h1, hx0⟩; have E7 := Ext.trans ES hx0)
     refine hK.out _ _ E7 ?_;clear hK K
     try simp only [zP]
     refine wpL.cl (i := 13) rfl (fun K hK => ?_);go_simp
     (go_at_call 101; refine (p_Add (hz.ext E7) h1 (by omega) (by omega)).mono ?_; rintro e wb ⟨s2, A2, n2, c2, rfl, h2, hx1⟩; have E8 := Ext.trans E7 hx1)
     refine hK.out _ _ E8 ?_;clear hK K
     try simp only [zP]
     refine wpL.tB [15] 14 53 ?v_c hQ ?y_c E8 ?_
     case y_c => intro w' hSw;go_simp;try rfl
     try simp only [zP]
     have hRk := hR.ext E8;obtain ⟨sw, Aw, nw, cw, q0, q1, _⟩ := hRk.get hkl;have f0 := hRk.frozen (k * 2);have f1 := hRk.frozen (k * 2 + 1);refine wpL.tl (i := 15) rfl (fun K hK => ?_);go_simp;refine hK.out _ _ ?_;clear hK K
     try simp only [zP]
     refine wpL.done (by kernel_rfl) ?_ _;clear hQ
     go_wp2_with fail
     rw [HV.out] at h2;have h3 := mid_tight HX.out HY.out (by omega) hkl2 h2;have PP := hRk.put hkl h3
     go_roundw
     case rel => exact ⟨j + 1, by omega, by go_num, PP.2.2.1 _ (ext.trans E8) (Nat.le_refl _), PP.2.2.2 _ _ _ (by omega) (b7.ext E8), by have := PP.1; rw [<- HV.out, HS.out] at this; exact this⟩
     case measure => simp [intOf]; omega
    ·have hjm : j = m := by omega
     subst hjm;have hI2 : (j : Int) <= (j : Int) := Int.le_refl _;have hrw := midI_row xs ys i;rw [Hly.out] at hrw;rw [hrw] at hR
     go_wp2_with fail
     go_roundw
     case rel => exact ⟨i + 1, by omega, by go_num, ext, hR⟩
     case measure => simp [intOf]; omega
  ·have hin : i = n := by omega
   subst hin;have hme := midI_end xs ys;rw [Hlx.out] at hme;rw [hme] at hR;have hlm : (mulI xs ys).length = N := by rw [<- hme]; exact Hml.out _ _
   have hI : (i : Int) <= (i : Int) := Int.le_refl _
   go_wp2_with fail
   go_ret
   exact ⟨w.heap.size, Nat.le_refl _, by rw [hlm]; rfl, hR, ext⟩
set_option maxRecDepth 100000 in
theorem p_plusR {g : Nat} {w0 : World} (hR : IRow w g zs L) (hz : NI w z M t B m d) (hlen : zs.length = n) (hn0 : 0 < n) (hn : n <= 500) (hL : L <= 3000) (hM : M <= 3000) (h0 : Ext w0 w) (hg : w0.heap.size <= g) : Calls Tryz.prog 68 #[.slice (some ⟨g, 0, none⟩) n n, .agg #[.bool t, .slice B m d]] w (RetPlus (addI zs z) (max L M + 1) w0) := by
 have hk : 0 < zs.length := by omega
 have zb : ((n : Int) == 0) = false := beq_eq_false_iff_ne.2 (by omega)
 go_enter Tryz.func68, Tryz.ntmps68
 go_upto_region 1 with (fail)
 obtain ⟨W, hW, extW, b3, hzz⟩ := box1 w 25 #[.bool t, .slice B m d];rw [<- hW];clear hW hzz;replace hR := hR.ext extW;replace hz := hz.ext extW;have ext := h0.trans extW;clear h0 extW
 go_upto_region 3 with (fail)
 obtain ⟨s0, A0, n0, c0, z0, z1, hz0⟩ := hR.get0 hk;have hI : (0 : Int) < (n : Int) := by omega
 refine wpL.st 7 (fun hQ ES => ?_);refine wpL.tB [6,7] 0 9 ?v_0 hQ ?y_0 ES ?_
 case y_0 => intro w' hSw;have l0 := hSw.cellv z0;have l1 := hSw.cellv z1;go_simp;try rfl
 try simp only [zP]
 refine wpL.tB [2,3,5,7] 1 10 ?v_1 hQ ?y_1 ES ?_
 case y_1 => intro w' hSw;have l0 := hSw.cellv z0;have l1 := hSw.cellv z1;go_simp;try rfl
 try simp only [zP]
 refine wpL.tB [3,5,7] 2 11 ?v_2 hQ ?y_2 ES ?_
 case y_2 => intro w' hSw;have l0 := hSw.cellv z0;have l1 := hSw.cellv z1;go_simp;try rfl
 try simp only [zP]
 refine wpL.tB [5,7] 3 12 ?v_3 hQ ?y_3 ES ?_
 case y_3 => intro w' hSw;have j0 := (b3.ext hSw).c2;have l0 := hSw.cellv z0;have l1 := hSw.cellv z1;go_simp;try rfl
 try simp only [zP]
 refine wpL.tB [5,7] 4 13 ?v_4 hQ ?y_4 ES ?_
 case y_4 => intro w' hSw;have j0 := (b3.ext hSw).c2;have l0 := hSw.cellv z0;have l1 := hSw.cellv z1;go_simp;try rfl
 try simp only [zP]
 refine wpL.cl (i := 5) rfl (fun K hK => ?_);go_simp
 (go_at_call 101; refine (p_Add (hz0.ext ES) (hz.ext ES) (by omega) (by omega)).mono ?_; rintro e wa ⟨s1, A1, n1, c1, rfl, h1, hx0⟩; have E7 := Ext.trans ES hx0)
 refine hK.out _ _ E7 ?_;clear hK K
 try simp only [zP]
 refine wpL.tB [7] 6 15 ?v_5 hQ ?y_5 E7 ?_
 case y_5 => intro w' hSw;go_simp;try rfl
 try simp only [zP]
 have hRk := hR.ext E7;obtain ⟨sw, Aw, nw, cw, q0, q1, _⟩ := hRk.get0 hk;have f0 := hRk.frozen 0;have f1 := hRk.frozen 1;refine wpL.tl (i := 7) rfl (fun K hK => ?_);go_simp;refine hK.out _ _ ?_;clear hK K
 try simp only [zP]
 refine wpL.done (by kernel_rfl) ?_ _;clear hQ;have PP := (hRk.le (show L <= (max L M + 1) by omega)).put0 hk (h1.le (by omega));rw [addI_set hk] at PP;have hR2 := PP.1;have EP := PP.2 _ (ext.trans E7) hg;have hl2 : (addI zs z).length = n := by rw [addI_len, hlen]; omega
 refine at_exit (fun V => IRow V g (addI zs z) (max L M + 1) /\ Ext w0 V) ⟨hR2, EP⟩ ?_;clear q0 q1 f0 f1 PP hR2 EP;rintro V ⟨hR2, EP⟩;have hp := hR2.pol hl2 (by unfold maxLen; omega)
 go_wp2_with fail
 refine (p_cutI_same hp (by omega) (by omega)).mono ?_;rintro e wb ⟨rfl, hx1⟩
 go_wp2_with fail
 go_ret
 exact ⟨g, hg, by rw [hl2]; rfl, hR2.ext hx1, EP.trans hx1⟩
set_option maxRecDepth 100000 in
theorem p_plus0g {w0 : World} (hz : NI w z M t B m d) (hM : M <= 3000) (h0 : Ext w0 w) {zs : List Int} (HZ : Hid (zs = [0])) : Calls Tryz.prog 68 #[.slice none 0 0, .agg #[.bool t, .slice B m d]] w (RetPlus (addI zs z) (M + 1) w0) := by
 have hmk : ∀ W : World, (Instr.makeSlice 46 (.int .i64 1) (.int .i64 1)).run Tryz.prog W = .ok (.slice (some ⟨W.heap.size, 0, none⟩) 1 1) (W.alloc (.cells (zeroI 1).toArray 25)) := fun W => mk_ints 1 (by omega) W
 have hk : 0 < zs.length := by rw [HZ.out]; decide
 have hlen : zs.length = 1 := by rw [HZ.out]; rfl
 go_enter Tryz.func68, Tryz.ntmps68
 go_upto_region 1 with (fail)
 obtain ⟨W, hW, extW, b3, hzz⟩ := box1 w 25 #[.bool t, .slice B m d];rw [<- hW];clear hW hzz;replace hz := hz.ext extW;have ext := h0.trans extW
 go_upto_region 3 with (fail)
 obtain ⟨g, hgg⟩ : ∃ g, W.heap.size = g := ⟨_, rfl⟩;have hRn := IRow.new W 1 0;have ha := (Ext.refl W).alloc (.cells (zeroI 1).toArray 25);rw [hgg] at hRn
 try rw [hgg]
 have hg : w0.heap.size <= g := by rw [<- hgg]; exact ext.size
 refine at_world (fun V => Ext W V /\ IRow V g zs 0) ⟨ha, by rw [HZ.out]; exact hRn⟩ ?_;rintro V0 ⟨EV, hR⟩;replace b3 := b3.ext EV;replace hz := hz.ext EV;replace ext := ext.trans EV;clear EV ha hRn;have hL0 : (0 : Nat) <= M := Nat.zero_le _;obtain ⟨s0, A0, n0, c0, z0, z1, hz0⟩ := hR.get0 hk;have hI : (0 : Int) < (1 : Int) := by omega
 refine wpL.st 7 (fun hQ ES => ?_);refine wpL.tB [6,7] 0 9 ?v_0 hQ ?y_0 ES ?_
 case y_0 => intro w' hSw;have l0 := hSw.cellv z0;have l1 := hSw.cellv z1;go_simp;try rfl
 try simp only [zP]
 refine wpL.tB [2,3,5,7] 1 10 ?v_1 hQ ?y_1 ES ?_
 case y_1 => intro w' hSw;have l0 := hSw.cellv z0;have l1 := hSw.cellv z1;go_simp;try rfl
 try simp only [zP]
 refine wpL.tB [3,5,7] 2 11 ?v_2 hQ ?y_2 ES ?_
 case y_2 => intro w' hSw;have l0 := hSw.cellv z0;have l1 := hSw.cellv z1;go_simp;try rfl
 try simp only [zP]
 refine wpL.tB [5,7] 3 12 ?v_3 hQ ?y_3 ES ?_
 case y_3 => intro w' hSw;have j0 := (b3.ext hSw).c2;have l0 := hSw.cellv z0;have l1 := hSw.cellv z1;go_simp;try rfl
 try simp only [zP]
 refine wpL.tB [5,7] 4 13 ?v_4 hQ ?y_4 ES ?_
 case y_4 => intro w' hSw;have j0 := (b3.ext hSw).c2;have l0 := hSw.cellv z0;have l1 := hSw.cellv z1;go_simp;try rfl
 try simp only [zP]
 refine wpL.cl (i := 5) rfl (fun K hK => ?_);go_simp
 (go_at_call 101; refine (p_Add (hz0.ext ES) (hz.ext ES) (by omega) (by omega)).mono ?_; rintro e wa ⟨s1, A1, n1, c1, rfl, h1, hx0⟩; have E7 := Ext.trans ES hx0)
 refine hK.out _ _ E7 ?_;clear hK K
 try simp only [zP]
 refine wpL.tB [7] 6 15 ?v_5 hQ ?y_5 E7 ?_
 case y_5 => intro w' hSw;go_simp;try rfl
 try simp only [zP]
 have hRk := hR.ext E7;obtain ⟨sw, Aw, nw, cw, q0, q1, _⟩ := hRk.get0 hk;have f0 := hRk.frozen 0;have f1 := hRk.frozen 1;refine wpL.tl (i := 7) rfl (fun K hK => ?_);go_simp;refine hK.out _ _ ?_;clear hK K
 try simp only [zP]
 refine wpL.done (by kernel_rfl) ?_ _;clear hQ;have PP := (hRk.le (show 0 <= (M + 1) by omega)).put0 hk (h1.le (by omega));rw [addI_set hk] at PP;have hR2 := PP.1;have EP := PP.2 _ (ext.trans E7) hg;have hl2 : (addI zs z).length = 1 := by rw [addI_len, hlen]; omega
 refine at_exit (fun V => IRow V g (addI zs z) (M + 1) /\ Ext w0 V) ⟨hR2, EP⟩ ?_;clear q0 q1 f0 f1 PP hR2 EP;rintro V ⟨hR2, EP⟩;have hp := hR2.pol hl2 (by unfold maxLen; omega)
 go_wp2_with fail
 refine (p_cutI_same hp (by omega) (by omega)).mono ?_;rintro e wb ⟨rfl, hx1⟩
 go_wp2_with fail
 go_ret
 exact ⟨g, hg, by rw [hl2]; rfl, hR2.ext hx1, EP.trans hx1⟩
theorem p_plus0 (hz : NI w z M t B m d) (hM : M <= 3000) : Calls Tryz.prog 68 #[.slice none 0 0, .agg #[.bool t, .slice B m d]] w (RetPlus (addI [] z) (M + 1) w) := by
 have := p_plus0g hz hM (Ext.refl w) (zs := [0]) (Lib.hid rfl);simp only [addI, Int.zero_add] at this ⊢;exact this
end
end
section
open Go.RowKit
section bridge
variable {P : Program} {ops : Array Oper} {Q : Exit -> Act -> World -> Prop} {md : Region.Mode} {l n : Nat}
def noDefer (ops : Array Oper) : Bool := ops.toList.all fun o => match o.op with | .defer _ => false | _ => true
theorem noDefer_spec (h : noDefer ops = true) {i : Nat} {o : Oper} (ho : ops[i]? = some o) : ∀ c, o.op ≠ .defer c := by
 intro c hc
 have hm : o ∈ ops.toList := by
  rw [Array.mem_toList_iff];exact Array.mem_of_getElem? ho
 have := List.all_eq_true.1 h o hm;simp [hc] at this
theorem oper_round {o : Oper} {a : Act} {w : World} {K : Act -> World -> Prop} (hd : ∀ c, o.op ≠ .defer c) (h : o.wp P a w K Q) : o.wpIn (Fence.wide.inRound l) n P a w K Q := by
 refine ⟨fun _ _ => trivial, ?_⟩;unfold Oper.wp at h;rw [Oper.semAt_eq _ _ _ hd];generalize (execOp a.eval o).run P w = r at h ⊢
 cases r with
 | ok x w' =>
  cases x with
  | value v => exact h
  | skip => exact h
  | defer d => exact h
  | enter f args =>
   rw [Oper.upon_enter] at h;rw [Oper.uponIn_enter];exact ⟨fun e => (by cases e), CallsIn.inRound l (callsIn_wide.2 (Calls.mono h (fun e w he => by cases e <;> exact he)))⟩
  | row r args =>
   rw [Oper.upon_row] at h;rw [Oper.uponIn_row]
   exact ⟨fun e => (by cases e), fun c cs _ => by
    obtain ⟨v, w', r, s⟩ := h c cs;exact ⟨v, w', r, stepsIn_wide.2 s⟩⟩
  | _ => exact h.elim
 | halt x w' =>
  cases x <;> exact h
theorem wpAny_round (hd : noDefer ops = true) (hQ : ¬ LetsOut Q) : ∀ (f : Nat) (L : Array Bool) (a : Act) (w : World), wpAny P md ops Q f L a w -> wpAnyIn (Fence.wide.inRound l) n P md ops Q f L a w
 | 0, _, _, _, h => h
 | f + 1, L, a, w, h => ⟨h.1, fun i hi => by
   have h2 := h.2 i hi;unfold wpOp at h2;unfold wpOpIn
   cases ho : ops[i]? with
   | none => simp only [ho] at h2; exact wpAny_round hd hQ f _ a w h2
   | some o =>
    simp only [ho] at h2;simp only
    split
    ·rename_i hw
     simp only [hw, if_true] at h2;exact oper_round (noDefer_spec hd ho) (Oper.wp_mono (fun a w => wpAny_round hd hQ f _ a w) (h2.resolve_right (fun h => hQ h.2)))
    ·rename_i hw
     simp only [hw] at h2;exact ⟨fun _ _ => trivial, wpAny_round hd hQ f _ _ w h2⟩⟩
theorem wpL.startIn {id : Nat} {a : Act} {w : World} (z : Nat) (hm : P.follows .mixedOrders = true) (hd : noDefer ops = true) (ho : ¬ LetsOut Q) (hQ : QStill Q) (h : QStill Q -> Ext w w.drew -> wpL P .any ops Q w z ops.size (Array.replicate ops.size false) a w.drew) : (Code.region id ops true).wpIn (Fence.wide.inRound l) n P Q a w :=
 wpIn_region_any hm (wpAny_round hd ho _ _ _ _ (wpL.any _ _ _ _ (h hQ (Ext.refl w).drew)))
theorem wpH.startIn {id : Nat} {a : Act} {w : World} (hm : P.follows .mixedOrders = true) (hd : noDefer ops = true) (ho : ¬ LetsOut Q) (h : Ext w w.drew -> wpAnyH P .any ops Q (Ext w) ops.size (Array.replicate ops.size false) a w.drew) : (Code.region id ops true).wpIn (Fence.wide.inRound l) n P Q a w :=
 wpIn_region_any hm (wpAny_round hd ho _ _ _ _ (wpAny_of_held _ _ _ _ (h (Ext.refl w).drew)))
end bridge
def Kc (w w' : World) : Prop := ∃ row, w.grownBy w' row /\ ∀ r, row = some r -> ∃ o : Obj, w.heap[r]? = some o /\ o.isCells = false
section kept
variable {w w' a : World} {z : Int} {zs : List Int} {L b o g n c : Nat} {s : Bool} {A : Option Addr} {cs : List Value} {xs : List Nat}
theorem Kc.size (k : Kc w w') : w.heap.size <= w'.heap.size := by
 obtain ⟨row, hg, _⟩ := k;exact hg.size
theorem Kc.cellv (k : Kc w w') {p : Addr} {v : Value} (h : w.cell? p = some v) : w'.cell? p = some v := by
 obtain ⟨row, hg, hr⟩ := k;exact cell_kept h hg hr
theorem Box.kc {t : TypeId} {cs : Array Value} (h : Box w g t cs) (k : Kc w w') : Box w' g t cs := by
 obtain ⟨row, hg, hr⟩ := k;exact (hg.block g h.lt (fun e => by obtain ⟨o, ho, hc⟩ := hr g e.symm; rw [show w.heap[g]? = _ from h] at ho; cases ho; cases hc)).trans h
theorem Rd.kc (h : Rd w A xs) (k : Kc w w') : Rd w' A xs := by
 refine ⟨h.1, fun hn => ?_⟩;obtain ⟨b, off, hA, hb, hc⟩ := h.2 hn;exact ⟨b, off, hA, Nat.lt_of_lt_of_le hb k.size, fun i hi => k.cellv (hc i hi)⟩
theorem NI.kc (h : NI w z L s A n c) (k : Kc w w') : NI w' z L s A n c := by
 obtain ⟨xs, h1, h2, h3, h4, h5, h6⟩ := h.out;exact ⟨xs, h1, h2.kc k, h3, h4, h5, h6⟩
theorem IntsAt.kc (h : IntsAt w b o zs L) (k : Kc w w') : IntsAt w' b o zs L := ⟨fun i hi => by
 obtain ⟨s, A, n, c, h1, h2, h3⟩ := h.at_ i hi;exact ⟨s, A, n, c, k.cellv h1, k.cellv h2, h3.kc k⟩⟩
theorem IPol.kc (h : IPol w A n c zs L) (k : Kc w w') : IPol w' A n c zs L :=
 ⟨h.len, h.cap, h.top, fun hq => by obtain ⟨b, off, h1, h2⟩ := h.at_ hq; exact ⟨b, off, h1, h2.kc k⟩⟩
theorem IRow.kc (h : IRow w g zs L) (k : Kc w w') : IRow w' g zs L := by
 obtain ⟨cs, h1, h2⟩ := h;exact ⟨cs, h1.kc k, h2.ni (fun _ _ _ _ _ _ h => h.kc k)⟩
theorem Ext.own {B : Nat} {row : Option Nat} (h : Ext a w) (hg : w.grownBy w' row) (hr : ∀ r, row = some r -> B <= r /\ ∃ o : Obj, w.heap[r]? = some o /\ o.isCells = false) (hB : a.heap.size <= B) : Ext a w' :=
 Below.grown h hg h.size (fun k hk => by have := (hr k hk).1; omega)
theorem kc_of {B : Nat} {row : Option Nat} (hg : w.grownBy w' row) (hr : ∀ r, row = some r -> B <= r /\ ∃ o : Obj, w.heap[r]? = some o /\ o.isCells = false) : Kc w w' := ⟨row, hg, fun r e => (hr r e).2⟩
theorem Kc.putObj {l : Nat} {o : Obj} (o' : Obj) (hl : w.heap[l]? = some o) (ho : o.isCells = false) : Kc w (w.putObj l o') :=
 ⟨some l, grownBy_putObj' w l o', fun r e => by cases e; exact ⟨o, hl, ho⟩⟩
theorem Ext.keeps (h : Ext w w') : KeepsOthers w w' :=
 ⟨h.size, fun k o hk _ => by
  have hb : Below w.heap.size w w' := h;exact (hb.block k (Array.getElem?_eq_some_iff.1 hk).1).trans hk⟩
end kept
def calm (Q : Exit -> Act -> World -> Prop) : Exit -> Act -> World -> Prop
 | .panic _, _, _ => False
 | e, a, w => Q e a w
theorem calm_le {Q : Exit -> Act -> World -> Prop} : ∀ e a w, calm Q e a w -> Q e a w := by
 intro e a w h
 cases e <;> first | exact h | exact False.elim h
theorem calm_normal {Q : Exit -> Act -> World -> Prop} {a : Act} {w : World} (h : Q .normal a w) : calm Q .normal a w := h
def backPost (B : Nat) (W : World) (J : World -> Prop) : Exit -> Act -> World -> Prop
 | .normal, _, W' => KeepsFrom B W W' /\ J W'
 | _, _, _ => False
theorem wp_back {P : Program} {g : Operand} {ps : Array Tmp} {assign body : Code} {Q : Exit -> Act -> World -> Prop} {a : Act} {w : World} {N gf : Nat} {lb : Array Value}
  (hg : a.eval g = .func (.func gf) #[] lb) (eg : ∀ args w, (callFunc gf args).run P w = .ok (.enter gf args) w)
  {Rdy : World -> Prop} {El : Nat -> Array Value -> World -> Prop}
  (hseq : ∀ (l : Nat) (J : Nat -> World -> Prop) (W : World), (∀ k W, J k W -> Rdy W) ->
   (∀ k args W, J k W -> k < N -> El k args W -> YieldAt Fence.wide 0 P l args W fun e W' => e = .returned (.bool true) /\ J (k + 1) W') -> J 0 W ->
   CallsIn Fence.wide 0 P gf (#[.func (.yield l) #[] #[]] ++ lb) W fun e W' => (∃ v, e = .returned v) /\ J N W')
  (I : Nat -> World -> Prop) (Ax : Array Value -> Nat -> Array Value -> Act -> World -> Prop)
  (hI : OwnFrom w.heap.size I) (hAx : ∀ k args a', OwnFrom w.heap.size (fun (_ : Unit) W => Ax a.tmps k args a' W)) (hR : ∀ k W, I k W -> Rdy W) (hps : ∀ k args W, El k args W -> args.size = ps.size) (h0 : I 0 w)
  (hassign : ∀ (l k : Nat) (args : Array Value) (W : World), I k W -> k < N -> El k args W ->
   assign.wpIn (Fence.wide.inRound l) 0 P (Exit.then (fun a' W' => KeepsFrom w.heap.size W W' /\ I k W' /\ Ax a.tmps k args a' W') (fun _ _ _ => False)) { tmps := (ps.zip args).foldl (fun t (p, v) => t.setIfInBounds p v) a.tmps, defers := [] } W)
  (hbody : ∀ (l k : Nat) (args : Array Value) (a' : Act) (W : World), k < N -> I k W -> Ax a.tmps k args a' W -> body.wpIn (Fence.wide.inRound l) 0 P (backPost w.heap.size W (I (k + 1))) a' W)
  (hdone : ∀ (D : Nat) (W : World), w.heap.size <= D -> I N W -> W.heap[D]? = some (.deferred (some [])) -> Q .normal { a with defers := { target := .collected D, args := #[] } :: a.defers } W) :
  (Code.rangeFunc g ps assign body).wp P Q a w := by
 refine wpIn_wide.1 (wpIn_rangeFunc (n := 1) ?_);intro fn hfn;obtain ⟨rec, hrec⟩ : ∃ rec : LoopState -> Loop, rec = fun st => { state := st, pending := none, fn, tmps := a.tmps, params := ps, assign, body, defers := w.heap.size } := ⟨_, rfl⟩
 obtain ⟨W1, hW1⟩ : ∃ W1, (w.alloc (.deferred (some []))).alloc (.loop (rec .ready)) = W1 := ⟨_, rfl⟩
 have hL1 : W1.heap[w.heap.size + 1]? = some (.loop (rec .ready)) := by
  have := World.alloc_heap_new (w.alloc (.deferred (some []))) (.loop (rec .ready));rw [World.size_alloc] at this;rw [<- hW1]; exact this
 have hD1 : W1.heap[w.heap.size]? = some (.deferred (some [])) := by
  rw [<- hW1]; exact (Below.heap_alloc _ _ _ (by simp)).trans (World.alloc_heap_new w _)
 have hI1 : I 0 W1 := by rw [<- hW1]; exact hI.alloc _ (hI.alloc _ h0)
 refine ⟨w.heap.size + 1, [{ target := .collected w.heap.size, args := #[] }], W1, { target := .fn (.func gf) lb, args := #[.func (.yield (w.heap.size + 1)) #[] #[]] }, W1, gf, #[.func (.yield (w.heap.size + 1)) #[] #[]] ++ lb, W1, ?_, ?_, fun _ _ => trivial, ?_, fun e => (by cases e), ?_⟩
 ·rw [<- hW1, hrec]; exact run_enterLoop_outer _ _ _ _ _
 ·simp only [resolve, hg]
  simp [go_sem]
 ·simp [invoke, go_sem, eg]
 ·refine (hseq (w.heap.size + 1) (fun k W => I k W /\ W.heap[w.heap.size + 1]? = some (.loop (rec .ready)) /\ W.heap[w.heap.size]? = some (.deferred (some []))) W1 (fun k W h => hR k W h.1) ?_ ⟨hI1, hL1, hD1⟩).mono ?_
  ·rintro k args W ⟨hi, hl, hd⟩ hk hel
   have hy := run_yield (P := P) (args := args) hl (by rw [hrec]; exact hps k args W hel);rw [hrec] at hy;refine ⟨fn, _, assign, body, hy, roundIn_of_wpIn hfn (wpIn_mono (hassign _ k args W hi hk hel) ?_)⟩;rintro e a' Wa hq
   cases e with
   | normal =>
    obtain ⟨hkf, hia, hax⟩ := hq;have hla := hkf.same _ _ (by omega) hl rfl;have hda := hkf.same _ _ (Nat.le_refl _) hd rfl;refine ⟨_, run_beginRound hla (by rw [hrec]), ?_⟩;have hlt := (Array.getElem?_eq_some_iff.1 hla).1;have hl2 : (Wa.putObj (w.heap.size + 1) (.loop { rec .ready with state := .busy })).heap[w.heap.size + 1]? = some (.loop { rec .ready with state := .busy }) := World.putObj_heap_same hlt;have hd2 : (Wa.putObj (w.heap.size + 1) (.loop { rec .ready with state := .busy })).heap[w.heap.size]? = some (.deferred (some [])) := (World.putObj_heap_other (by omega)).trans hda;refine wpIn_mono (hbody _ k args a' _ hk (hI.putObj _ hia (by omega) hla rfl) ((hAx k args a').putObj (s := ()) _ hax (by omega) hla rfl)) ?_;rintro e a3 W3 hp
    cases e with
    | normal =>
     obtain ⟨hk3, hi3⟩ := hp;have hl3 := hk3.same _ _ (by omega) hl2 rfl;have hd3 := hk3.same _ _ (Nat.le_refl _) hd2 rfl;have he := run_endRound (P := P) none hl3;have hlt3 := (Array.getElem?_eq_some_iff.1 hl3).1;refine ⟨_, _, he, rfl, hI.putObj _ hi3 (by omega) hl3 rfl, ?_, (World.putObj_heap_other (by omega)).trans hd3⟩;rw [World.putObj_heap_same hlt3, hrec]
     rfl
    | _ => exact hp.elim
   | _ => exact hq.elim
  ·rintro e W2 ⟨⟨v, rfl⟩, hi, hl, hd⟩
   refine ⟨none, _, by have := run_endLoop (P := P) hl (by rw [hrec]; simp); rw [hrec] at this; exact this, ?_⟩;exact hdone _ _ (Nat.le_refl _) (hI.putObj _ hi (by omega) hl rfl) ((World.putObj_heap_other (by omega)).trans hd)
theorem Tryz.infoRat : (Tryz.prog.info? 27).map (fun i => (i.zero, i.size, i.bytes)) = some (some (.agg #[.bool false, .slice none 0 0, .bool false, .slice none 0 0]), 4, 64) := by kernel_rfl
section
variable {w w' : World} {A : Option Addr} {g n c o L : Nat} {qs : List Rat} {cs : List Value}
theorem RatsAt.of_row {T : TypeId} {cur : Array Value} (hg : w.heap[g]? = some (.cells cur T (0, 0))) (ht : cur.toList.take cs.length = cs) (h : CellsOf w L qs cs) : RatsAt w g 0 qs L := by
 have hcell : ∀ j u, cs[j]? = some u -> w.cell? ⟨g, j, none⟩ = some u := by
  intro j u hu;have hj : j < cs.length := (List.getElem?_eq_some_iff.1 hu).1;rw [<- ht, List.getElem?_take, if_pos hj] at hu;rw [cell_of_row w g j _ _ (0, 0) hg]
  simpa using hu
 refine ⟨fun i hi => ?_⟩;obtain ⟨s, A, n, c, t, B, m, d, k0, k1, k2, k3, k4⟩ := h.get i hi;rw [Nat.zero_add];exact ⟨s, A, n, c, t, B, m, d, hcell _ _ k0, hcell _ _ k1, hcell _ _ k2, hcell _ _ k3, k4⟩
theorem run_append_rats {w0 w : World} (ty : TypeId) (he : Ext w0 w) (hg : w0.heap.size <= g) (hb : Box w g 27 #[]) (hp : Pol w0 A n c qs L) (hn : n <= 10000) :
  ∃ A' c' w', (Builtin.append_ #[22, 22] ty #[.slice (some ⟨g, 0, none⟩) 0 0, .slice A n c]).run Tryz.prog w = .ok (.slice A' n c') w' /\ Pol w' A' n c' qs L /\ Ext w0 w' := by
 have hq := Tryz.infoRat
 cases hi : Tryz.prog.info? 27 with
 | none => rw [hi] at hq; cases hq
 | some i =>
 rw [hi] at hq;simp only [Option.map_some, Option.some.injEq, Prod.mk.injEq] at hq;obtain ⟨q1, q2, q3⟩ := hq;have hown : w.ownsRow w0.heap.size 27 4 (.slice (some ⟨g, 0, none⟩) 0 0) 0 [] := ⟨by simp, .inr ⟨g, 0, #[], rfl, hg, hb, Nat.le_refl _, by unfold maxLen; omega, by simp, by simp⟩⟩
 by_cases h0 : qs = []
 ·subst h0
  have hn0 : n = 0 := by rw [<- hp.len]; rfl
  subst hn0;refine ⟨some ⟨g, 0, none⟩, 0, w, ?_, ⟨rfl, Nat.le_refl _, by unfold maxLen; omega, fun h => absurd rfl h⟩, he⟩
  cases A with
  | none => simp [Builtin.append_, run_underlying Tryz.underlying22, sizeOf, typeInfo, hi, Builtin.lenOf, Builtin.firstCells, storeCells]
  | some ad => simp [Builtin.append_, run_underlying Tryz.underlying22, sizeOf, typeInfo, hi, Builtin.lenOf, Builtin.firstCells, loadCells, loadCellsFrom, storeCells]
 ·obtain ⟨b, off, rfl, hrat⟩ := hp.at_ h0
  obtain ⟨cs, k1, k2⟩ := hrat.list;have hl : cs.length = n * 4 := by rw [k1.len, hp.len]
  obtain ⟨v', w', hrun, hown', hgr, _, _⟩ := run_append_own_at (P := Tryz.prog) w w0.heap.size 22 ty 27 i _ 4 64 Tryz.underlying22 hi q1 q2 q3 rfl (by omega) _ 0 [] hown ⟨b, off, none⟩ n c cs
   hl (fun j u h => he.cellv (k2 j u h)) k1.one (by unfold maxLen; omega) (by omega) he.size
  simp only [Nat.zero_add, List.nil_append] at hown';have hx : Ext w0 w' := Below.grown he hgr he.size (fun k hk => by simp [Value.ownBlock] at hk; omega);have hpos : 0 < n := by rw [<- hp.len]; exact List.length_pos_iff.2 h0
  rcases hown'.2 with ⟨_, h⟩ | ⟨g', cap, cur, rfl, _, hg', hnc, hcm, _, htk⟩
  ·omega
  ·refine ⟨_, cap, w', hrun, ⟨hp.len, hnc, hcm, fun _ => ⟨g', 0, rfl, RatsAt.of_row hg' ?_ (k1.ext hx)⟩⟩, hx⟩
   rw [hl];exact htk
theorem wpList_append_rats {w0 w : World} {ops : Array Oper} {rest : List Oper} {o : Oper} {a : Act} {Q : Exit -> Act -> World -> Prop} (hgd : o.guard = none) (x y : Operand)
  (ho : o.op = .call { callee := .builtin .append, args := #[x, y], argTypes := #[22, 22] })
  (hx : a.eval x = .slice (some ⟨g, 0, none⟩) 0 0) (hy : a.eval y = .slice A n c)
  (he : Ext w0 w) (hg : w0.heap.size <= g) (hb : Box w g 27 #[]) (hp : Pol w0 A n c qs L) (hn : n <= 10000)
  (hK : ∀ A' c' w', Pol w' A' n c' qs L -> Ext w0 w' -> wpList Tryz.prog ops Q rest (a.put o.dst (.slice A' n c')) w') :
  wpList Tryz.prog ops Q (o :: rest) a w := by
 refine wpList_plain hgd fun K hKK => ?_
 obtain ⟨A', c', w', hr, h2, h3⟩ := run_append_rats o.type he hg hb hp hn;unfold Oper.wp execOp;simp only [ho, resolve, invoke, builtin, Sem.run_bind, Sem.run_pure, Result.andThen_ok, List.map_toArray, List.map_cons, List.map_nil, hx, hy, hr];exact hKK _ _ (hK A' c' w' h2 h3)
end
end
section
open Go.RowKit
attribute [local go_sem ↓] Go.wp_at_zero Go.wp_at_succ
def JRow (w : World) (g : Nat) (zs : List Int) (L : Nat) : Prop := ∃ cs tl : List Value, Box w g 25 (cs ++ tl).toArray /\ ICells w L zs cs /\ NWL tl
section
variable {w w' : World} {z : Int} {zs : List Int} {L M b o g n c k : Nat} {s : Bool} {A : Option Addr}
theorem JRow.ext (h : JRow w g zs L) (e : Ext w w') : JRow w' g zs L := by
 obtain ⟨cs, tl, h1, h2, h3⟩ := h;exact ⟨cs, tl, h1.ext e, h2.ext e, h3⟩
theorem JRow.kc (h : JRow w g zs L) (k : Kc w w') : JRow w' g zs L := by
 obtain ⟨cs, tl, h1, h2, h3⟩ := h;exact ⟨cs, tl, h1.kc k, h2.ni (fun _ _ _ _ _ _ h => h.kc k), h3⟩
theorem JRow.frozen (h : JRow w g zs L) (i : Nat) : w.frozen? ⟨g, i, none⟩ = false := by
 obtain ⟨cs, tl, h1, _⟩ := h;exact h1.frozen i
theorem JRow.lt (h : JRow w g zs L) : g < w.heap.size := by
 obtain ⟨cs, tl, h1, _⟩ := h;exact h1.lt
theorem JRow.le (h : JRow w g zs L) (hl : L <= M) : JRow w g zs M := by
 obtain ⟨cs, tl, h1, h2, h3⟩ := h;exact ⟨cs, tl, h1, h2.le hl, h3⟩
theorem JRow.ints (h : JRow w g zs L) : IntsAt w g 0 zs L := by
 obtain ⟨cs, tl, h1, h2, h3⟩ := h;refine ⟨fun i hi => ?_⟩;obtain ⟨s, A, n, c, k0, k1, k2⟩ := h2.get i hi;have hl := h2.len;rw [Nat.zero_add];refine ⟨s, A, n, c, h1.cell (2 * i) _ ?_, h1.cell (2 * i + 1) _ ?_, k2⟩
 ·simp only [List.getElem?_toArray]; rw [List.getElem?_append_left (by omega)]; exact k0
 ·simp only [List.getElem?_toArray]; rw [List.getElem?_append_left (by omega)]; exact k1
theorem JRow.get (h : JRow w g zs L) (hk : k < zs.length) : ∃ s A n c, w.cell? ⟨g, k * 2, none⟩ = some (.bool s) /\ w.cell? ⟨g, k * 2 + 1, none⟩ = some (.slice A n c) /\ NI w zs[k] L s A n c := by
 obtain ⟨s, A, n, c, h1, h2, h3⟩ := h.ints.at_ k hk;rw [Nat.zero_add, Nat.mul_comm] at h1 h2;exact ⟨s, A, n, c, h1, h2, h3⟩
theorem JRow.far (h : JRow w g zs L) (hb : ∀ T cs, Box w g T cs -> Box w' g T cs) (hn : ∀ z L s A n c, NI w z L s A n c -> NI w' z L s A n c) : JRow w' g zs L := by
 obtain ⟨cs, tl, h1, h2, h3⟩ := h;exact ⟨cs, tl, hb _ _ h1, h2.ni hn, h3⟩
theorem JRow.put (h : JRow w g zs L) (hk : k < zs.length) (hz : NI w z L s A n c) :
  JRow ((w.setCell ⟨g, k * 2, none⟩ (.bool s)).setCell ⟨g, k * 2 + 1, none⟩ (.slice A n c)) g (zs.set k z) L /\
  (∀ z L s' A' n' c', NI w z L s' A' n' c' -> NI ((w.setCell ⟨g, k * 2, none⟩ (.bool s)).setCell ⟨g, k * 2 + 1, none⟩ (.slice A n c)) z L s' A' n' c') /\
  (∀ W, Ext W w -> W.heap.size <= g -> Ext W ((w.setCell ⟨g, k * 2, none⟩ (.bool s)).setCell ⟨g, k * 2 + 1, none⟩ (.slice A n c))) /\
  (∀ g' T' cs', g' ≠ g -> Box w g' T' cs' -> Box ((w.setCell ⟨g, k * 2, none⟩ (.bool s)).setCell ⟨g, k * 2 + 1, none⟩ (.slice A n c)) g' T' cs') := by
 obtain ⟨cs, tl, h1, h2, h3⟩ := h;have hl := h2.len;have F := ((FinRow.refl h1 (h2.nwl.append h3)).step (k * 2) (v := .bool s) (by intro k h; cases h)).step (k * 2 + 1) (v := .slice A n c) (by intro k h; cases h);refine ⟨⟨(cs.set (k * 2) (.bool s)).set (k * 2 + 1) (.slice A n c), tl, ?_, (h2.set hz k hk).ni F.ni, h3⟩, F.ni, F.ext, F.far⟩;have := F.box;rw [List.set_append_left _ _ (by omega), List.set_append_left _ _ (by rw [List.length_set]; omega)] at this;exact this
theorem JRow.pol (h : JRow w g zs L) (hk : k <= zs.length) (hc : k <= c) (hm : c <= maxLen) : IPol w (some ⟨g, 0, none⟩) k c (zs.take k) L :=
 ⟨by rw [List.length_take]; omega, hc, hm, fun _ => ⟨g, 0, rfl, h.ints.take k⟩⟩
theorem IntsAt.list (w : World) (b L : Nat) : ∀ (zs : List Int) (o : Nat), IntsAt w b o zs L -> ∃ cs, ICells w L zs cs /\ ∀ j u, cs[j]? = some u -> w.cell? ⟨b, o + j, none⟩ = some u
 | [], o, _ => ⟨[], .nil, fun j u h => by simp at h⟩
 | z :: zs, o, h => by
  obtain ⟨s, A, n, c, h1, h2, h3⟩ := h.at_ 0 (by simp)
  obtain ⟨cs, k1, k2⟩ := IntsAt.list w b L zs (o + 2) ⟨fun i hi => by
   obtain ⟨s, A, n, c, h1, h2, h3⟩ := h.at_ (i + 1) (by simpa using hi);rw [show o + 2 * (i + 1) = o + 2 + 2 * i by omega] at h1 h2;exact ⟨s, A, n, c, h1, h2, h3⟩⟩
  refine ⟨.bool s :: .slice A n c :: cs, .cons h3 k1, fun j u hj => ?_⟩
  match j, hj with
  | 0, hj => simp at hj; subst hj; exact h1
  | 1, hj => simp at hj; subst hj; exact h2
  | j + 2, hj =>
   rw [show o + (j + 2) = o + 2 + j by omega];exact k2 j u hj
structure IsCopy (w0 w : World) (A : Option Addr) (n c : Nat) (zs : List Int) (L : Nat) : Prop where
 len : zs.length = n
 cap : n <= c
 top : c <= maxLen
 row : zs ≠ [] -> ∃ g, A = some ⟨g, 0, none⟩ /\ w0.heap.size <= g /\ JRow w g zs L
theorem run_append_ints {w0 w : World} (ty : TypeId) (he : Ext w0 w) (hg : w0.heap.size <= g) (hb : Box w g 25 #[]) (hp : IPol w0 A n c zs L) (hn : n <= 10000) :
  ∃ A' c' w', (Builtin.append_ #[46, 46] ty #[.slice (some ⟨g, 0, none⟩) 0 0, .slice A n c]).run Tryz.prog w = .ok (.slice A' n c') w' /\ IsCopy w0 w' A' n c' zs L /\ Ext w0 w' := by
 obtain ⟨i, hi, q1, q2, q3⟩ := info_parts Tryz.infoInt;have hown : w.ownsRow w0.heap.size 25 i.size (.slice (some ⟨g, 0, none⟩) 0 0) 0 [] := ⟨by simp, .inr ⟨g, 0, #[], rfl, hg, hb, Nat.le_refl _, by unfold maxLen; omega, by simp, by simp⟩⟩
 by_cases h0 : zs = []
 ·subst h0
  have hn0 : n = 0 := by rw [<- hp.len]; rfl
  subst hn0;refine ⟨some ⟨g, 0, none⟩, 0, w, ?_, ⟨rfl, Nat.le_refl _, by unfold maxLen; omega, fun h => absurd rfl h⟩, he⟩
  cases A with
  | none => simp [Builtin.append_, run_underlying Tryz.underlying46, sizeOf, typeInfo, hi, Builtin.lenOf, Builtin.firstCells, storeCells]
  | some ad => simp [Builtin.append_, run_underlying Tryz.underlying46, sizeOf, typeInfo, hi, Builtin.lenOf, Builtin.firstCells, loadCells, loadCellsFrom, storeCells]
 ·obtain ⟨b, off, rfl, hint⟩ := hp.at_ h0
  obtain ⟨cs, k1, k2⟩ := IntsAt.list _ _ _ _ _ hint;have hl : cs.length = n * 2 := by rw [k1.len, hp.len]
  have hpos : 0 < n := by rw [<- hp.len]; exact List.length_pos_iff.2 h0
  have hnwb : NWB w (.slice (some ⟨g, 0, none⟩) 0 0) := by
   intro g' hg';simp [Value.ownBlock] at hg';subst hg';exact ⟨#[], _, _, hb, by intro i k h; simp at h⟩
  obtain ⟨v', w', hr, hown', hgr, _, hnw⟩ := run_append_nw (P := Tryz.prog) (ty := ty) (c := c) Tryz.underlying46 hi q1 q3 (by rw [q2]; rfl) (by omega) (by
   intro u hu k e;simp [Value.cells] at hu
   rcases hu with rfl | rfl <;> cases e) hown hnwb (a := ⟨b, off, none⟩) (m := n) (news := cs) (by rw [q2, hl]) (fun j u h => by
    have := he.cellv (k2 j u h)
    by_cases hj : j = 0
    ·subst hj; simpa [Addr.add] using this
    ·simpa [Addr.add, hj] using this) k1.one k1.nwl hpos (by unfold maxLen; omega) (by omega) he.size
  rw [q2] at hown';simp only [Nat.zero_add, List.nil_append] at hown';have hx : Ext w0 w' := Below.grown he hgr he.size (fun k hk => by simp [Value.ownBlock] at hk; omega)
  rcases hown'.2 with ⟨_, h⟩ | ⟨g', cap, cur, rfl, hbg, hg', hnc, hcm, _, htk⟩
  ·omega
  ·refine ⟨_, cap, w', hr, ⟨hp.len, hnc, hcm, fun _ => ⟨g', rfl, hbg, cs, cur.toList.drop (n * 2), ?_, k1.ext hx, ?_⟩⟩, hx⟩
   ·have e : (cs ++ cur.toList.drop (n * 2)).toArray = cur := by
     rw [<- htk, List.take_append_drop]
    rw [e];exact hg'
   ·obtain ⟨cur2, e2, fz2, h4, h5⟩ := hnw g' (by simp [Value.ownBlock])
    rw [hg'] at h4
    injection h4 with h4
    injection h4 with h4
    subst h4;exact (NWL.of h5).drop _
theorem wpList_append_ints {w0 w : World} {ops : Array Oper} {rest : List Oper} {o : Oper} {a : Act} {Q : Exit -> Act -> World -> Prop} (hgd : o.guard = none) (x y : Operand)
  (ho : o.op = .call { callee := .builtin .append, args := #[x, y], argTypes := #[46, 46] })
  (hx : a.eval x = .slice (some ⟨g, 0, none⟩) 0 0) (hy : a.eval y = .slice A n c)
  (he : Ext w0 w) (hg : w0.heap.size <= g) (hb : Box w g 25 #[]) (hp : IPol w0 A n c zs L) (hn : n <= 10000)
  (hK : ∀ A' c' w', IsCopy w0 w' A' n c' zs L -> Ext w0 w' -> wpList Tryz.prog ops Q rest (a.put o.dst (.slice A' n c')) w') :
  wpList Tryz.prog ops Q (o :: rest) a w := by
 refine wpList_plain hgd fun K hKK => ?_
 obtain ⟨A', c', w', hr, h2, h3⟩ := run_append_ints o.type he hg hb hp hn;unfold Oper.wp execOp;simp only [ho, resolve, invoke, builtin, Sem.run_bind, Sem.run_pure, Result.andThen_ok, List.map_toArray, List.map_cons, List.map_nil, hx, hy, hr];exact hKK _ _ (hK A' c' w' h2 h3)
theorem eql_nilI_some (ad : Addr) (n c : Nat) (W : World) : (binOp .eql 46 (.slice (some ad) n c) (.slice none 0 0)).run Tryz.prog W = .ok (.bool false) W := by
 simp only [binOp];simp [run_equal_slice_nil W 46 _ (some ad) n c Tryz.underlying46]
theorem eql_nilI_none (n c : Nat) (W : World) : (binOp .eql 46 (.slice none n c) (.slice none 0 0)).run Tryz.prog W = .ok (.bool true) W := by
 simp only [binOp];simp [run_equal_slice_nil W 46 _ none n c Tryz.underlying46]
set_option maxRecDepth 100000 in
theorem p_cloneI (h : IPol w A n c zs L) (hn : n <= 10000) : Calls Tryz.prog 120 #[.slice A n c] w fun e w' => ∃ A' c', e = .returned (.slice A' n c') /\ IsCopy w w' A' n c' zs L /\ Ext w w' := by
 cases A with
 | none =>
  have h0 : zs = [] := by
   rcases Classical.em (zs = []) with e | e
   ·exact e
   ·obtain ⟨b, off, he, _⟩ := h.at_ e; cases he
  subst h0;have hn0 : n = 0 := by rw [<- h.len]; rfl
  subst hn0;have heq := eql_nilI_none 0 c
  go_enter Tryz.func120, Tryz.ntmps120
  go_wp2
  go_ret
  exact ⟨none, 0, rfl, ⟨rfl, Nat.le_refl _, by unfold maxLen; omega, fun h => absurd rfl h⟩, Ext.refl _⟩
 | some ad =>
  have heq := eql_nilI_some ad n c
  go_enter Tryz.func120, Tryz.ntmps120
  go_wp2_with (at_builtin; refine wpList_append_ints rfl _ _ rfl rfl rfl ((Ext.refl w).alloc _) (Nat.le_refl _) (Box.new w _ _) h hn ?_; intro A' c' w' h1 h2)
  go_ret
  exact ⟨A', c', rfl, h1, h2⟩
end
end
end Go.Proofs.YtpeddoaknfjbbaaGreatDoor
