/- Walks and laws, a part. -/
import Derived.Test.YtgagcochepnelaaGreatDoorP7
import Derived.Test.YtgagcochepnelaaGreatDoorP6
import Derived.Test.YtgagcochepnelaaGreatDoorP5
import Derived.Test.YtgagcochepnelaaGreatDoorP0
import Derived.Test.YtgagcochepnelaaGreatDoorP4
import Derived.RangeFuncLeaves
import Derived.RangeFuncBox
import Derived.RangeFuncCalls
import Derived.RangeFuncNested
import Derived.OrdersIn
import Derived.Maps.AppendAt
set_option linter.unusedSimpArgs false
set_option linter.unusedVariables false
set_option maxHeartbeats 64000000
namespace Go.Proofs.YtgagcochepnelaaGreatDoor
section
open Go.RowKit
attribute [local go_sem ↓] Go.wp_at_zero Go.wp_at_succ
section
variable {w w' : World} {q x : Rat} {L M : Nat} {s t : Bool} {A B : Option Addr} {n c m d : Nat} {sx tx : Bool} {Ax Bx : Option Addr} {nx cx mx dx : Nat} {qs ps : List Rat} {rs : List RawR} {ts us : List (List RawR)}
theorem Pol.dropT {b o k : Nat} (h : Pol w (some ⟨b, o, Option.none⟩) n c qs L) (hk : k <= n) : Pol w (some ⟨b, o + k * 4, Option.none⟩) (n - k) (c - k) (qs.drop k) L := by
 refine ⟨by rw [List.length_drop, h.len], by have := h.cap; omega, by have := h.top; omega, fun hq => ?_⟩;obtain ⟨b', o', h1, h2⟩ := h.at_ (fun e => hq (by rw [e]; simp))
 injection h1 with h1
 injection h1 with q1 q2
 subst q1 q2;refine ⟨b, o + k * 4, rfl, ⟨fun i hi => ?_⟩⟩;rw [List.length_drop] at hi;have := h2.at_ (k + i) (by omega);rw [List.getElem_drop];rw [show o + 4 * (k + i) = o + k * 4 + 4 * i by omega] at this;exact this
theorem Pol.nilT (w : World) (A : Option Addr) (c L : Nat) (hc : c <= maxLen) : Pol w A 0 c [] L := ⟨rfl, Nat.zero_le _, hc, fun h => absurd rfl h⟩
end
section
variable {w w' : World} {q x : Rat} {L M : Nat} {s t : Bool} {A B : Option Addr} {n c m d : Nat} {sx tx : Bool} {Ax Bx : Option Addr} {nx cx mx dx : Nat} {qs ps : List Rat} {rs : List RawR} {ts us : List (List RawR)}
variable {sy ty : Bool} {Ay By : Option Addr} {ny cy my dy : Nat}
theorem q_SameT (h : Pol w A n c qs L) (h' : Pol w B m d qs M) (hL : L <= 1000) (hM : M <= 1000) (hn : n <= 100000) : Calls Tryz.prog 19 #[.slice A n c, .slice B m d] w fun e w' => e = .returned (.bool true) /\ Ext w w' := by
 have Hlen := Lib.hid h.len;have hb : m = n := by rw [<- h.len, <- h'.len]
 subst hb
 go_enter Tryz.func19, Tryz.ntmps19
 go_wp2_with fail
 go_loopw [5] (fun i wr => ∃ k : Nat, k <= m /\ i = .int .i64 (k : Int) /\ Ext w wr) (fun i _ => m - (intOf i).toNat)
 case atStart => exact ⟨0, by omega, rfl, Ext.refl _⟩
 case round =>
  obtain ⟨k, hk, rfl, ext⟩ := hrel
  by_cases hlt : k < m
  ·have hj : k < qs.length := by rw [Hlen.out]; exact hlt
   have hI : (k : Int) < (m : Int) := by omega
   obtain ⟨b, off, rfl, hr⟩ := h.at_ (fun e => by rw [e] at hj; exact absurd hj (Nat.not_lt_zero _));obtain ⟨b', off', rfl, hr'⟩ := h'.at_ (fun e => by rw [e] at hj; exact absurd hj (Nat.not_lt_zero _));obtain ⟨sx, Ax, nx, cx, tx, Bx, mx, dx, e0, e1, e2, e3, hx⟩ := (hr.ext ext).at_ k hj;have e0' : wr.cell? ⟨b, off + k * 4, none⟩ = some (.bool sx) := by rw [Nat.mul_comm]; exact e0
   have e1' : wr.cell? ⟨b, off + k * 4 + 1, none⟩ = some (.slice Ax nx cx) := by rw [Nat.mul_comm]; exact e1
   have e2' : wr.cell? ⟨b, off + k * 4 + 2, none⟩ = some (.bool tx) := by rw [Nat.mul_comm]; exact e2
   have e3' : wr.cell? ⟨b, off + k * 4 + 3, none⟩ = some (.slice Bx mx dx) := by rw [Nat.mul_comm]; exact e3
   obtain ⟨sy, Ay, ny, cy, ty, By, my, dy, i0, i1, i2, i3, hy⟩ := (hr'.ext ext).at_ k hj;have i0' : wr.cell? ⟨b', off' + k * 4, none⟩ = some (.bool sy) := by rw [Nat.mul_comm]; exact i0
   have i1' : wr.cell? ⟨b', off' + k * 4 + 1, none⟩ = some (.slice Ay ny cy) := by rw [Nat.mul_comm]; exact i1
   have i2' : wr.cell? ⟨b', off' + k * 4 + 2, none⟩ = some (.bool ty) := by rw [Nat.mul_comm]; exact i2
   have i3' : wr.cell? ⟨b', off' + k * 4 + 3, none⟩ = some (.slice By my dy) := by rw [Nat.mul_comm]; exact i3
   generalize qs[k] = x1 at hx hy;clear e0 e1 e2 e3 i0 i1 i2 i3
   go_upto_region 6 with (fail)
   have ES0 := Ext.refl wr;refine wp_region_held_drew (S := Ext wr) (by kernel_rfl) ES0.drew (fun ES => ?_);clear ES0;refine Late.s0 ES (fun hAl hQ => ?_);refine Late.u 0 17 hQ ?_
   try simp only [zP]
   refine Late.u 1 18 hQ ?_
   try simp only [zP]
   refine Late.u 4 21 hQ ?_
   try simp only [zP]
   refine Late.u 5 22 hQ ?_
   try simp only [zP]
   refine Late.u 2 19 hQ ?_
   try simp only [zP]
   refine Late.u 6 23 hQ ?_
   try simp only [zP]
   refine Late.t 3 20 ?v_6 hQ ?y_6 ?_
   case y_6 => intro w' hSw;have q0_ := hSw.cellv e0';have q1_ := hSw.cellv e1';have q2_ := hSw.cellv e2';have q3_ := hSw.cellv e3';have q4_ := hSw.cellv i0';have q5_ := hSw.cellv i1';have q6_ := hSw.cellv i2';have q7_ := hSw.cellv i3';go_simp;try rfl
   try simp only [zP]
   refine Late.t 7 24 ?v_7 hQ ?y_7 ?_
   case y_7 => intro w' hSw;have q0_ := hSw.cellv e0';have q1_ := hSw.cellv e1';have q2_ := hSw.cellv e2';have q3_ := hSw.cellv e3';have q4_ := hSw.cellv i0';have q5_ := hSw.cellv i1';have q6_ := hSw.cellv i2';have q7_ := hSw.cellv i3';go_simp;try rfl
   try simp only [zP]
   refine Late.cl (i := 8) rfl hAl hQ (fun w8 e8 E8 K hK => ?_);go_simp
   (go_at_call 37; refine (q_Same (hx.ext E8) (hy.ext E8)).mono ?_; rintro e wk8 ⟨rfl, hx8⟩)
   refine hK.out _ _ hx8 ?_;clear hK K
   try simp only [zP]
   refine Late.u 9 26 hQ ?_
   try simp only [zP]
   refine Late.d0 (fun wz ez Ez => ?_);clear hAl hQ ES
   go_wp2_with fail
   go_roundw
   case rel => exact ⟨k + 1, by omega, by go_num, ext.trans Ez⟩
   case measure => simp [intOf]; omega
  ·have hI : (m : Int) <= (k : Int) := by omega
   go_wp2_with fail
   go_ret
   exact ⟨rfl, ext⟩
end
section
variable {w w' : World} {q x : Rat} {L M : Nat} {s t : Bool} {A B : Option Addr} {n c m d base : Nat} {v : Value} {sx tx : Bool} {Ax Bx : Option Addr} {nx cx mx dx : Nat} {qs ps : List Rat} {rs : List RawR} {ts us : List (List RawR)}
theorem Row4.polT {base : Nat} {v : Value} (h : Row4 w base v qs L) : ∃ A n c, v = .slice A n c /\ Pol w A n c qs L := by
 by_cases hq : qs = []
 ·obtain ⟨cs, h1, h2⟩ := h.own
  rcases h1.2 with ⟨rfl, h0⟩ | ⟨g, cap, cur, rfl, _, _, h3, h4, _⟩
  ·exact ⟨_, _, _, rfl, by rw [hq]; exact Pol.none w L⟩
  ·exact ⟨_, _, _, rfl, rfl, h3, h4, fun e => absurd hq e⟩
 ·obtain ⟨cs, h1, h2⟩ := h.own
  rcases h1.2 with ⟨rfl, h0⟩ | ⟨g, cap, cur, rfl, _, _, h3, h4, _⟩
  ·exact absurd (List.length_eq_zero_iff.1 h0) hq
  ·exact ⟨_, _, _, rfl, rfl, h3, h4, fun _ => ⟨g, 0, rfl, RatsOwn.rd ⟨cs, h1, h2⟩⟩⟩
def iv64 (ws : List Int) : List Value := ws.map fun x => .int .i64 x
theorem iv64_cell {g : Nat} {ws : List Int} (hb : Box w g 2 (iv64 ws).toArray) {k : Nat} (h : k < ws.length) : w.cell? ⟨g, k, Option.none⟩ = some (.int .i64 ws[k]) := hb.cell _ _ (by simp [iv64, h])
set_option maxRecDepth 100000 in
theorem p_listT {g n : Nat} {ws : List Int} (hb : Box w g 2 (iv64 ws).toArray) (hl : ws.length = n) (hn : n <= 100) (hx : ∀ x ∈ ws, -9223372036854775808 <= x /\ x < 9223372036854775808) : Calls Tryz.prog 45 #[.slice (some ⟨g, 0, Option.none⟩) n n] w (RetPol (ws.map fun x : Int => (x : Rat)) 2 w) := by
 have HX := Lib.hid hx;have HL := Lib.hid hl;clear hx hl
 go_enter Tryz.func45, Tryz.ntmps45
 go_wp2_with fail
 go_loopw [3, 8] (fun v i wr => ∃ k : Nat, k <= n /\ i = .int .i64 (k : Int) /\ Ext w wr /\ Row4 wr w.heap.size v ((ws.take k).map fun x : Int => (x : Rat)) 2) (fun _ i _ => n - (intOf i).toNat)
 case atStart => exact ⟨0, Nat.zero_le _, rfl, Ext.refl w, by rw [List.take_zero]; exact Row4.nil _ _ _⟩
 case round =>
  obtain ⟨k, hk, rfl, extr, hrow⟩ := hrel
  rename_i v _
  by_cases hlt : k < n
  ·have hkI : (k : Int) < (n : Int) := by omega
   have hkl : k < ws.length := by rw [HL.out]; exact hlt
   have e0 := iv64_cell (hb.ext extr) hkl;have HT := Lib.hid (show (ws.take (k + 1)).map (fun x : Int => (x : Rat)) = (ws.take k).map (fun x : Int => (x : Rat)) ++ [(ws[k] : Rat)] by rw [List.take_succ_eq_append_getElem hkl, List.map_append]; rfl);have HB := Lib.hid (HX.out _ (List.getElem_mem hkl));have hlen : ((ws.take k).map (fun x : Int => (x : Rat))).length <= 1000 := by rw [List.length_map, List.length_take]; omega
   generalize ws[k] = a at e0 HT HB
   go_wp2_with fail
   refine (q_FromIntR a HB.out.1 HB.out.2).mono ?_;rintro e W5 ⟨s7, A7, n7, c7, t7, B7, m7, d7, rfl, h7, ext5⟩;have ha5 := (ext5).alloc (.cells #[.bool s7, .slice A7 n7 c7, .bool t7, .slice B7 m7 d7] 30);replace extr := extr.trans ha5;replace hrow := hrow.ext ha5;replace h7 := h7.ext ((Ext.refl W5).alloc (.cells #[.bool s7, .slice A7 n7 c7, .bool t7, .slice B7 m7 d7] 30));clear ext5 ha5
   go_wp2_with (at_builtin; refine wpList_append_rat rfl _ _ rfl rfl rfl hrow h7 (Box.new W5 _ _) hlen extr.size ?_; intro v6 W6 hrow6 hgr hob)
   go_roundw
   case rel =>
    refine ⟨k + 1, by omega, by go_num, Below.grown extr hgr extr.size (fun k hk => (hrow.block k hk).1), ?_⟩;rw [HT.out];exact hrow6
   case measure => simp [intOf]; omega
  ·have hkn : k = n := by omega
   subst hkn;rw [List.take_of_length_le (Nat.le_of_eq HL.out)] at hrow;obtain ⟨A9, n9, c9, rfl, hp⟩ := hrow.polT;have hI : (k : Int) <= (k : Int) := Int.le_refl _
   go_wp2_with fail
   go_ret
   exact ⟨A9, n9, c9, rfl, hp, extr⟩
end
end
section
open Go.RowKit
def zeroI : Nat -> List Value
 | 0 => []
 | n + 1 => .bool false :: .slice none 0 0 :: zeroI n
theorem zeroI_len : ∀ n, (zeroI n).length = n * 2
 | 0 => rfl
 | n + 1 => by simp only [zeroI, List.length_cons, zeroI_len n]; omega
theorem zeroI_at : ∀ (n i : Nat) (h : i < (zeroI n).length), (zeroI n)[i] = (#[Value.bool false, .slice none 0 0] : Array Value)[i % 2]!
 | 0, i, h => by simp [zeroI] at h
 | n + 1, 0, _ => rfl
 | n + 1, 1, _ => rfl
 | n + 1, i + 2, h => by
  have h' : i < (zeroI n).length := by simp only [zeroI, List.length_cons] at h; omega
  have := zeroI_at n i h';rw [Nat.add_mod_right];exact this
theorem made_ints (n : Nat) : madeCells #[Value.bool false, .slice none 0 0] (n * 2) = (zeroI n).toArray := by
 refine Array.ext (by rw [size_madeCells]; simp [zeroI_len]) (fun i h1 h2 => ?_);have h3 : i < (zeroI n).length := by simpa using h2
 have e2 : (zeroI n).toArray[i] = (zeroI n)[i] := by simp
 rw [e2, zeroI_at n i h3];simp [madeCells]
theorem Tryz.infoInt : (Tryz.prog.info? 28).map (fun i => (i.zero, i.size, i.bytes)) = some (some (.agg #[.bool false, .slice none 0 0]), 2, 32) := by kernel_rfl
theorem mk_ints (n : Nat) (hn : n <= 100000) (W : World) :
  (Instr.makeSlice 70 (.int .i64 (n : Int)) (.int .i64 (n : Int))).run Tryz.prog W = .ok (.slice (some ⟨W.heap.size, 0, none⟩) n n) (W.alloc (.cells (zeroI n).toArray 28)) := by
 obtain ⟨i0, hi, hz0, hz1, hz2⟩ := info_parts Tryz.infoInt;have h := run_make_rowN (P := Tryz.prog) 70 28 i0 _ Tryz.underlying70 hi hz0 .i64 .i64 n n (Nat.le_refl _) (by rw [hz2]; omega) (by omega) W;rw [hz1] at h;rw [<- made_ints];exact h
inductive ICells (w : World) (L : Nat) : List Int -> List Value -> Prop
 | nil : ICells w L [] []
 | cons {z : Int} {zs : List Int} {s : Bool} {A : Option Addr} {n c : Nat} {cs : List Value} : NI w z L s A n c -> ICells w L zs cs -> ICells w L (z :: zs) (.bool s :: .slice A n c :: cs)
structure IntsAt (w : World) (b o : Nat) (zs : List Int) (L : Nat) : Prop where
 at_ : ∀ i (h : i < zs.length), ∃ s A n c, w.cell? ⟨b, o + 2 * i, none⟩ = some (.bool s) /\ w.cell? ⟨b, o + 2 * i + 1, none⟩ = some (.slice A n c) /\ NI w zs[i] L s A n c
structure IPol (w : World) (A : Option Addr) (n c : Nat) (zs : List Int) (L : Nat) : Prop where
 len : zs.length = n
 cap : n <= c
 top : c <= maxLen
 at_ : zs ≠ [] -> ∃ b off, A = some ⟨b, off, none⟩ /\ IntsAt w b off zs L
def RetIPol (zs : List Int) (L : Nat) (w : World) (e : Ending) (w' : World) : Prop := ∃ A n c, e = .returned (.slice A n c) /\ IPol w' A n c zs L /\ Ext w w'
def IRow (w : World) (g : Nat) (zs : List Int) (L : Nat) : Prop := ∃ cs : List Value, Box w g 28 cs.toArray /\ ICells w L zs cs
section
variable {w w' : World} {z : Int} {zs ys : List Int} {L M b o g n c k : Nat} {s : Bool} {A : Option Addr} {cs ds : List Value}
theorem ICells.ext (h : ICells w L zs cs) (e : Ext w w') : ICells w' L zs cs := by
 induction h with
 | nil => exact .nil
 | cons h _ ih => exact .cons (h.ext e) ih
theorem ICells.len (h : ICells w L zs cs) : cs.length = zs.length * 2 := by
 induction h with
 | nil => rfl
 | cons _ _ ih => simp only [List.length_cons, ih]; omega
theorem ICells.append (h : ICells w L zs cs) (k : ICells w L ys ds) : ICells w L (zs ++ ys) (cs ++ ds) := by
 induction h with
 | nil => exact k
 | cons h _ ih => exact .cons h ih
theorem ICells.le (h : ICells w L zs cs) (hl : L <= M) : ICells w M zs cs := by
 induction h with
 | nil => exact .nil
 | cons h _ ih => exact .cons (h.le hl) ih
theorem ICells.nwl (h : ICells w L zs cs) : NWL cs := by
 induction h with
 | nil => intro u hu; cases hu
 | cons _ _ ih =>
  intro u hu;simp only [List.mem_cons] at hu
  rcases hu with rfl | rfl | hu
  ·intro k e; cases e
  ·intro k e; cases e
  ·exact ih u hu
theorem ICells.one (h : ICells w L zs cs) : ∀ u ∈ cs, u.oneCell' = true := by
 induction h with
 | nil => intro u hu; cases hu
 | cons _ _ ih =>
  intro u hu;simp only [List.mem_cons] at hu
  rcases hu with rfl | rfl | hu
  ·rfl
  ·rfl
  ·exact ih u hu
theorem ICells.ni (hf : ∀ z L s' A' n' c', NI w z L s' A' n' c' -> NI w' z L s' A' n' c') (h : ICells w L zs cs) : ICells w' L zs cs := by
 induction h with
 | nil => exact .nil
 | cons h _ ih => exact .cons (hf _ _ _ _ _ _ h) ih
theorem ICells.get (h : ICells w L zs cs) : ∀ i (hi : i < zs.length), ∃ s A n c, cs[2 * i]? = some (.bool s) /\ cs[2 * i + 1]? = some (.slice A n c) /\ NI w zs[i] L s A n c := by
 induction h with
 | nil => intro i hi; simp at hi
 | @cons z zs s A n c cs h _ ih =>
  intro i hi
  cases i with
  | zero => exact ⟨s, A, n, c, rfl, rfl, h⟩
  | succ i =>
   obtain ⟨s1, A1, n1, c1, k0, k1, k2⟩ := ih i (by simpa using hi);refine ⟨s1, A1, n1, c1, ?_, ?_, k2⟩
   ·rw [show 2 * (i + 1) = 2 * i + 1 + 1 by omega]; exact k0
   ·rw [show 2 * (i + 1) + 1 = 2 * i + 1 + 1 + 1 by omega]; exact k1
theorem ICells.set (h : ICells w L zs cs) (hz : NI w z L s A n c) : ∀ k, k < zs.length -> ICells w L (zs.set k z) ((cs.set (k * 2) (.bool s)).set (k * 2 + 1) (.slice A n c)) := by
 induction h with
 | nil => intro k hk; simp at hk
 | @cons z0 zs s0 A0 n0 c0 cs h0 h1 ih =>
  intro k hk
  cases k with
  | zero => exact .cons hz h1
  | succ k =>
   have := ih k (by simpa using hk);rw [show (k + 1) * 2 = k * 2 + 1 + 1 by omega];simp only [List.set_cons_succ];exact .cons h0 this
theorem ICells.zero (w : World) (L : Nat) : ∀ n, ICells w L (List.replicate n 0) (zeroI n)
 | 0 => .nil
 | n + 1 => by rw [List.replicate_succ]; exact .cons (NI.nil w L) (ICells.zero w L n)
theorem IntsAt.ext (h : IntsAt w b o zs L) (e : Ext w w') : IntsAt w' b o zs L := ⟨fun i hi => by
 obtain ⟨s, A, n, c, h1, h2, h3⟩ := h.at_ i hi;exact ⟨s, A, n, c, e.cellv h1, e.cellv h2, h3.ext e⟩⟩
theorem IntsAt.take (h : IntsAt w b o zs L) (k : Nat) : IntsAt w b o (zs.take k) L := ⟨fun i hi => by
 have hi' : i < zs.length := by rw [List.length_take] at hi; omega
 have := h.at_ i hi';rw [List.getElem_take];exact this⟩
theorem IPol.ext (h : IPol w A n c zs L) (e : Ext w w') : IPol w' A n c zs L :=
 ⟨h.len, h.cap, h.top, fun hq => by obtain ⟨b, off, h1, h2⟩ := h.at_ hq; exact ⟨b, off, h1, h2.ext e⟩⟩
theorem IPol.take (h : IPol w A n c zs L) {k : Nat} (hk : k <= n) : IPol w A k c (zs.take k) L := by
 refine ⟨by rw [List.length_take, h.len]; omega, Nat.le_trans hk h.cap, h.top, fun hq => ?_⟩;obtain ⟨b, off, h1, h2⟩ := h.at_ (fun e => hq (by rw [e]; simp));exact ⟨b, off, h1, h2.take k⟩
theorem IPol.none (w : World) (L : Nat) : IPol w none 0 0 [] L := ⟨rfl, Nat.le_refl _, Nat.zero_le _, fun h => absurd rfl h⟩
theorem IRow.ext (h : IRow w g zs L) (e : Ext w w') : IRow w' g zs L := by
 obtain ⟨cs, h1, h2⟩ := h;exact ⟨cs, h1.ext e, h2.ext e⟩
theorem IRow.frozen (h : IRow w g zs L) (i : Nat) : w.frozen? ⟨g, i, none⟩ = false := by
 obtain ⟨cs, h1, _⟩ := h;exact h1.frozen i
theorem IRow.lt (h : IRow w g zs L) : g < w.heap.size := by
 obtain ⟨cs, h1, _⟩ := h;exact h1.lt
theorem IRow.le (h : IRow w g zs L) (hl : L <= M) : IRow w g zs M := by
 obtain ⟨cs, h1, h2⟩ := h;exact ⟨cs, h1, h2.le hl⟩
theorem IRow.ints (h : IRow w g zs L) : IntsAt w g 0 zs L := by
 obtain ⟨cs, h1, h2⟩ := h;refine ⟨fun i hi => ?_⟩;obtain ⟨s, A, n, c, k0, k1, k2⟩ := h2.get i hi;rw [Nat.zero_add];exact ⟨s, A, n, c, h1.cell (2 * i) _ (by simpa using k0), h1.cell (2 * i + 1) _ (by simpa using k1), k2⟩
theorem IRow.pol (h : IRow w g zs L) (hn : zs.length = n) (hm : n <= maxLen) : IPol w (some ⟨g, 0, none⟩) n n zs L := ⟨hn, Nat.le_refl _, hm, fun _ => ⟨g, 0, rfl, h.ints⟩⟩
theorem IRow.new (w : World) (n L : Nat) : IRow (w.alloc (.cells (zeroI n).toArray 28)) w.heap.size (List.replicate n 0) L := ⟨zeroI n, Box.new w _ _, ICells.zero _ L n⟩
theorem IRow.get (h : IRow w g zs L) (hk : k < zs.length) : ∃ s A n c, w.cell? ⟨g, k * 2, none⟩ = some (.bool s) /\ w.cell? ⟨g, k * 2 + 1, none⟩ = some (.slice A n c) /\ NI w zs[k] L s A n c := by
 obtain ⟨s, A, n, c, h1, h2, h3⟩ := h.ints.at_ k hk;rw [Nat.zero_add, Nat.mul_comm] at h1 h2;exact ⟨s, A, n, c, h1, h2, h3⟩
theorem IRow.put (h : IRow w g zs L) (hk : k < zs.length) (hz : NI w z L s A n c) :
  IRow ((w.setCell ⟨g, k * 2, none⟩ (.bool s)).setCell ⟨g, k * 2 + 1, none⟩ (.slice A n c)) g (zs.set k z) L /\
  (∀ z L s' A' n' c', NI w z L s' A' n' c' -> NI ((w.setCell ⟨g, k * 2, none⟩ (.bool s)).setCell ⟨g, k * 2 + 1, none⟩ (.slice A n c)) z L s' A' n' c') /\
  (∀ W, Ext W w -> W.heap.size <= g -> Ext W ((w.setCell ⟨g, k * 2, none⟩ (.bool s)).setCell ⟨g, k * 2 + 1, none⟩ (.slice A n c))) /\
  (∀ g' T' cs', g' ≠ g -> Box w g' T' cs' -> Box ((w.setCell ⟨g, k * 2, none⟩ (.bool s)).setCell ⟨g, k * 2 + 1, none⟩ (.slice A n c)) g' T' cs') := by
 obtain ⟨cs, h1, h2⟩ := h;have F := ((FinRow.refl h1 h2.nwl).step (k * 2) (v := .bool s) (by intro k h; cases h)).step (k * 2 + 1) (v := .slice A n c) (by intro k h; cases h);exact ⟨⟨_, F.box, (h2.set hz k hk).ni F.ni⟩, F.ni, F.ext, F.far⟩
end
end
section
open Go.RowKit
attribute [local go_sem ↓] Go.wp_at_zero Go.wp_at_succ
section
variable {w w' : World} {z y : Int} {L M : Nat} {s t : Bool} {A B : Option Addr} {n c m d : Nat} {zs ys : List Int}
theorem p_isOneT (h : NI w z L s A n c) : Calls Tryz.prog 102 #[.agg #[.bool s, .slice A n c]] w fun e w' => e = .returned (.bool (decide (z = 1))) /\ Ext w w' := by
 have h1 := h.one_iff
 cases s with
 | true =>
  have hd : decide (z = 1) = false := decide_eq_false fun hz => by have := (h1.1 hz).1; cases this
  rw [hd]
  go_enter Tryz.func102, Tryz.ntmps102
  go_wp2
  go_ret
  exact ⟨rfl, (Ext.refl w).alloc _⟩
 | false =>
  by_cases hn : n = 1
  ·subst hn
   obtain ⟨xs, hl, hx, _⟩ := h.out;obtain ⟨b, off, rfl, hb, hc⟩ := hx.at_ (i := 0) (by omega);simp only [Nat.add_zero] at hc
   have hv : (decide (z = 1)) = (((xs[0]'(by omega) : Nat) : Int) == 1) := by
    by_cases hz : z = 1
    ·obtain ⟨_, _, b', off', hA, hc'⟩ := h1.1 hz
     injection hA with hA
     injection hA with e1 e2
     subst e1; subst e2;rw [hc] at hc'
     injection hc' with hc'
     injection hc' with _ hc'
     rw [hc'];simp [hz]
    ·have : ¬ ((xs[0]'(by omega) : Nat) : Int) = 1 := fun h2 => hz (h1.2 ⟨rfl, rfl, b, off, rfl, by rw [hc, h2]⟩)
     rw [decide_eq_false hz];exact (beq_eq_false_iff_ne.2 this).symm
   rw [hv];generalize (xs[0]'(by omega) : Nat) = k at hc;have hc2 := ((Ext.refl w).alloc (.cells #[.bool false, .slice (some ⟨b, off, none⟩) 1 c] 28)).cellv hc;clear h1 h hv hx hl
   go_enter Tryz.func102, Tryz.ntmps102
   go_wp2
   go_ret
   exact ⟨rfl, (Ext.refl w).alloc _⟩
  ·have hd : decide (z = 1) = false := decide_eq_false fun hz => hn (h1.1 hz).2.1
   have hn2 : ((n : Int) == 1) = false := by rw [beq_eq_false_iff_ne]; omega
   rw [hd]
   go_enter Tryz.func102, Tryz.ntmps102
   go_wp2
   go_ret
   exact ⟨rfl, (Ext.refl w).alloc _⟩
theorem p_exactT (h : NI w z L s A n c) (k : NI w y M t B m d) (hL : L <= 70000) (hM : M <= 70000) (h0 : y ≠ 0) (hd : y ∣ z) : Calls Tryz.prog 105 #[.agg #[.bool s, .slice A n c], .agg #[.bool t, .slice B m d]] w (RetNI (z / y) L w) := by
 go_enter Tryz.func105, Tryz.ntmps105
 go_upto_region 1 with (fail)
 obtain ⟨W, hW, extW, bx, by_, bz, hz⟩ := box3 w 28 28 28 #[.bool s, .slice A n c] #[.bool t, .slice B m d] #[Value.bool false, Value.slice none 0 0];rw [<- hW];clear hW;have y0 := by_.cell 0 (.bool t) rfl;have y1 := by_.cell 1 (.slice B m d) rfl
 go_wp2_with fail
 refine (p_isOneT (k.ext extW)).mono ?_;rintro e wa ⟨rfl, hx0⟩;have x0 := (bx.ext hx0).cell 0 (.bool s) rfl;have x1 := (bx.ext hx0).cell 1 (.slice A n c) rfl;have y2 := (by_.ext hx0).cell 0 (.bool t) rfl;have y3 := (by_.ext hx0).cell 1 (.slice B m d) rfl;have z0 := (bz.ext hx0).cell 0 _ rfl;have z1 := (bz.ext hx0).cell 1 _ rfl;have f0 := (bz.ext hx0).frozen 0;have f1 := (bz.ext hx0).frozen 1;clear y0 y1
 by_cases h1 : y = 1
 ·have hd1 : decide (y = 1) = true := decide_eq_true h1
  rw [hd1]
  go_wp2_with fail
  obtain ⟨b1, b2, b3, b4⟩ := fin_dual (s := s) (A := A) (n := n) (c := c) (bz.ext hx0);have r0 := b1.cell 0 (.bool s) rfl;have r1 := b1.cell 1 (.slice A n c) rfl;unfold set2 at r0 r1;refine bodyPost_ret (v := .agg #[.bool s, .slice A n c]) (by simp [results, Tryz.results105, go_sem, r0, r1]) rfl ⟨s, A, n, c, rfl, ?_, b3 _ (extW.trans hx0) (by omega)⟩;rw [h1, Int.ediv_one];exact b2 _ _ _ _ _ _ (h.ext (extW.trans hx0))
 ·have hd1 : decide (y = 1) = false := decide_eq_false h1
  rw [hd1]
  go_wp2_with fail
  refine (p_DivMod (h.ext (extW.trans hx0)) (k.ext (extW.trans hx0)) (by omega) (by omega) h0).mono ?_;rintro e wb ⟨s1, A1, n1, c1, s2, A2, n2, c2, q, r, rfl, hq, hr, hdm, hx1⟩;obtain ⟨_, hqe, hql⟩ := (dm_q_le hdm h0).2.2 hd;rw [hqe] at hq hql;have hq' := hq.tight h (by simpa using hql);clear x0 x1 y2 y3 z0 z1 f0 f1
  go_upto_region 4 with (fail)
  refine at_world (fun V => Ext W V /\ Box V wb.heap.size 28 #[.bool s1, .slice A1 n1 c1] /\ NI V (z / y) L s1 A1 n1 c1) ?_ ?_
  ·obtain ⟨e1, e2, e3⟩ := two_new wb 28 #[.bool s1, .slice A1 n1 c1] #[.bool s2, .slice A2 n2 c2]
   exact ⟨(hx0.trans hx1).trans e1, e2, hq'.ext e1⟩
  generalize wb.heap.size = g5;rintro V ⟨EV, b5, hqV⟩;have x0 := b5.cell 0 _ rfl;have x1 := b5.cell 1 _ rfl;have z0 := (bz.ext EV).cell 0 _ rfl;have z1 := (bz.ext EV).cell 1 _ rfl;have f0 := (bz.ext EV).frozen 0;have f1 := (bz.ext EV).frozen 1
  go_wp2_with fail
  obtain ⟨b1, b2, b3, b4⟩ := fin_dual (s := s1) (A := A1) (n := n1) (c := c1) (bz.ext EV);have r0 := b1.cell 0 (.bool s1) rfl;have r1 := b1.cell 1 (.slice A1 n1 c1) rfl;unfold set2 at r0 r1;refine bodyPost_ret (v := .agg #[.bool s1, .slice A1 n1 c1]) (by simp [results, Tryz.results105, go_sem, r0, r1]) rfl ⟨s1, A1, n1, c1, rfl, ?_, b3 _ (extW.trans EV) (by omega)⟩;exact b2 _ _ _ _ _ _ hqV
def noneB (zs : List Int) : Bool := zs.all fun z => decide (z = 0)
theorem p_noneT (h : IPol w A n c zs L) (hL : L <= 50000) (hn : n <= 100000) : Calls Tryz.prog 106 #[.slice A n c] w fun e w' => e = .returned (.bool (noneB zs)) /\ Ext w w' := by
 have Hlen := Lib.hid h.len
 go_enter Tryz.func106, Tryz.ntmps106
 go_wp2_with fail
 go_loopw [7] (fun i wr => ∃ k : Nat, k <= n /\ i = .int .i64 (k : Int) /\ Ext w wr /\ noneB (zs.take k) = true) (fun i _ => n - (intOf i).toNat)
 case atStart => exact ⟨0, by omega, rfl, Ext.refl _, by simp [noneB]⟩
 case round =>
  obtain ⟨k, hk, rfl, ext, hall⟩ := hrel;have HA := Lib.hid hall;clear hall
  by_cases hlt : k < n
  ·have hj : k < zs.length := by rw [Hlen.out]; exact hlt
   have hI : (k : Int) < (n : Int) := by omega
   obtain ⟨p, off, rfl, hr⟩ := h.at_ (fun e => by rw [e] at hj; exact absurd hj (Nat.not_lt_zero _));obtain ⟨sx, Ax, nx, cx, e0, e1, hx⟩ := (hr.ext ext).at_ k hj;have e0' : wr.cell? ⟨p, off + k * 2, none⟩ = some (.bool sx) := by rw [Nat.mul_comm]; exact e0
   have e1' : wr.cell? ⟨p, off + k * 2 + 1, none⟩ = some (.slice Ax nx cx) := by rw [Nat.mul_comm]; exact e1
   have HT := Lib.hid (show noneB (zs.take (k + 1)) = (noneB (zs.take k) && decide (zs[k] = 0)) by unfold noneB; rw [List.take_succ_eq_append_getElem hj, List.all_append]; simp)
   have HM := Lib.hid (fun hf : zs[k] ≠ 0 => show noneB zs = false by
    unfold noneB;rw [List.all_eq_false];exact ⟨zs[k], List.getElem_mem hj, by simpa using hf⟩)
   generalize zs[k] = r at hx HT HM
   go_upto_region 4 with (fail)
   obtain ⟨W, hW, extW, bx, hz⟩ := box1 wr 28 #[.bool sx, .slice Ax nx cx];rw [<- hW];clear hW hz e0 e1 e0' e1';replace hx := hx.ext extW;replace ext := ext.trans extW;have x0 := bx.cell 0 (.bool sx) rfl;have x1 := bx.cell 1 (.slice Ax nx cx) rfl
   by_cases hq : r = 0
   ·have HS := Lib.hid (show r.sign = 0 by rw [hq]; rfl)
    have HQ := Lib.hid hq;clear hq
    go_wp2_with fail
    refine (p_Sign hx (by omega)).mono ?_;rintro e V ⟨rfl, hxt⟩;rw [HS.out]
    go_wp2_with fail
    go_roundw
    case rel => exact ⟨k + 1, by omega, by go_num, ext.trans hxt, by rw [HT.out, HA.out, decide_eq_true HQ.out]; rfl⟩
    case measure => simp [intOf]; omega
   ·obtain ⟨S, hS, dS⟩ : ∃ S, r.sign = S /\ (S == 0) = false := ⟨_, rfl, beq_eq_false_iff_ne.2 (fun e => hq (Int.sign_eq_zero_iff_zero.1 e))⟩
    have HS := Lib.hid hS;have HQ := Lib.hid hq;clear hS hq
    go_wp2_with fail
    refine (p_Sign hx (by omega)).mono ?_;rintro e V ⟨rfl, hxt⟩;rw [HS.out]
    go_wp2_with fail
    go_ret
    exact ⟨by rw [HM.out HQ.out]; rfl, ext.trans hxt⟩
  ·have hI : (n : Int) <= (k : Int) := by omega
   go_wp2_with fail
   go_ret
   refine ⟨?_, ext⟩;have ha := HA.out;rw [List.take_of_length_le (by rw [Hlen.out]; omega)] at ha;rw [ha]; rfl
theorem IPol.drop {b o k : Nat} (h : IPol w (some ⟨b, o, Option.none⟩) n c zs L) (hk : k <= n) : IPol w (some ⟨b, o + k * 2, Option.none⟩) (n - k) (c - k) (zs.drop k) L := by
 refine ⟨by rw [List.length_drop, h.len], by have := h.cap; omega, by have := h.top; omega, fun hq => ?_⟩;obtain ⟨b', o', h1, h2⟩ := h.at_ (fun e => hq (by rw [e]; simp))
 injection h1 with h1
 injection h1 with q1 q2
 subst q1 q2;refine ⟨b, o + k * 2, rfl, ⟨fun i hi => ?_⟩⟩;rw [List.length_drop] at hi;have := h2.at_ (k + i) (by omega);rw [List.getElem_drop];rw [show o + 2 * (k + i) = o + k * 2 + 2 * i by omega] at this;exact this
theorem p_halvesT {k : Nat} (h : IPol w A n c zs L) (hk : n = k + k) (h0 : 0 < k) (hn : n <= 100000) : Calls Tryz.prog 107 #[.slice A n c] w fun e w' => ∃ A1, e = .returned (.tuple #[.slice A k c, .slice A1 k (c - k)]) /\ IPol w' A k c (zs.take k) L /\ IPol w' A1 k (c - k) (zs.drop k) L /\ Ext w w' := by
 have hc := h.cap;have ht := h.top;obtain ⟨b, off, rfl, _⟩ := h.at_ (fun e => by have := h.len; rw [e] at this; simp at this; omega);have Hh := Lib.hid (show (n : Int) / 2 = (k : Int) by omega);have Hk := Lib.hid hk;have hkn : k <= n := by omega
 have k1 : (k : Int) <= (n : Int) := by omega
 have k2 : (k : Int) <= (c : Int) := by omega
 have k3 : (n : Int) <= (c : Int) := by omega
 have k4 : ¬ c = k := by omega
 have q1 : Int.tdiv (n : Int) 2 = (k : Int) := by rw [Int.tdiv_eq_ediv_of_nonneg (by omega)]; omega
 have q2 : (n : Int) / 2 = (k : Int) := by omega
 have q3 : IntKind.i64.wrap (k : Int) = (k : Int) := IntWalk.i64_in _ (by omega);clear hk
 go_enter Tryz.func107, Tryz.ntmps107
 go_upto_region 1 with (fail)
 go_quiet (fail)
 have hs : n - k = k := by have := Hk.out; omega
 have ex := (Ext.refl w).drewN nq
 go_wp2_with fail
 refine bodyPost_ret (v := .tuple #[.slice (some ⟨b, off, Option.none⟩) k c, .slice (some ⟨b, off + k * 2, Option.none⟩) (n - k) (c - k)]) (by simp [results, Tryz.results107, go_sem]) rfl ?_;rw [hs];have hd := h.drop hkn;rw [hs] at hd;exact ⟨_, rfl, (h.take hkn).ext ex, hd.ext ex, ex⟩
theorem set_repl {l : List Int} {k m : Nat} {z : Int} (hk : l.length = k) : (l ++ List.replicate (m + 1) 0).set k z = (l ++ [z]) ++ List.replicate m 0 := by
 subst hk;rw [List.set_append_right _ _ (Nat.le_refl _), Nat.sub_self, List.replicate_succ, List.set_cons_zero, List.append_assoc]
 rfl
theorem IntsAt.leT {b o : Nat} (h : IntsAt w b o zs L) (hl : L <= M) : IntsAt w b o zs M := ⟨fun i hi => by
 obtain ⟨s, A, n, c, h1, h2, h3⟩ := h.at_ i hi;exact ⟨s, A, n, c, h1, h2, h3.le hl⟩⟩
theorem IPol.leT (h : IPol w A n c zs L) (hl : L <= M) : IPol w A n c zs M := ⟨h.len, h.cap, h.top, fun hq => by
 obtain ⟨b, off, h1, h2⟩ := h.at_ hq;exact ⟨b, off, h1, h2.leT hl⟩⟩
theorem p_SubIT {w : World} {z y : Int} {L M : Nat} {s t : Bool} {A B : Option Addr} {n c m d : Nat} (h : NI w z L s A n c) (k : NI w y M t B m d) (hL : L <= 50000) (hM : M <= 50000) : Calls Tryz.prog 143 #[.agg #[.bool s, .slice A n c], .agg #[.bool t, .slice B m d]] w (RetNI (z - y) (max L M + 1) w) := by
 obtain ⟨xs, hn, hx, hc, hcm, hi, hl⟩ := h.out;obtain ⟨ys, hm, hy, hd, hdm, hj, hk⟩ := k.out;refine (int_Sub hn hm hx hy hc hcm hd hdm (by omega) (by omega)).mono fun e w' hr => ?_
 rw [hi.eq, hj.eq] at hr;exact hr.ni (by omega)
theorem p_multiple1T {g : Nat} (h : NI w z L s A n c) (k : NI w y M t B m d) (hb : Box w g 28 #[.bool t, .slice B m d]) (hLM : L + M <= 50000) : Calls Tryz.prog 118 #[.agg #[.bool s, .slice A n c], .pointer (some ⟨g, 0, Option.none⟩)] w (RetNI (z * y) (L + M) w) := by
 go_enter Tryz.func118, Tryz.ntmps118
 go_upto_region 1 with (fail)
 obtain ⟨W, hW, extW, bx, bz, hz⟩ := box2 w 28 28 #[.bool s, .slice A n c] #[Value.bool false, Value.slice Option.none 0 0];rw [<- hW];clear hW;have hb1 := hb.ext extW;have x0 := bx.cell 0 (.bool s) rfl;have x1 := bx.cell 1 (.slice A n c) rfl;have y0 := hb1.cell 0 (.bool t) rfl;have y1 := hb1.cell 1 (.slice B m d) rfl
 go_wp2_with fail
 refine (p_MulG (h.ext extW) (k.ext extW) (by omega) (by omega)).mono ?_;rintro e V ⟨s7, A7, n7, c7, rfl, h7, EV⟩;clear x0 x1 y0 y1;have z0 := (bz.ext EV).cell 0 _ rfl;have z1 := (bz.ext EV).cell 1 _ rfl;have f0 := (bz.ext EV).frozen 0;have f1 := (bz.ext EV).frozen 1
 go_wp2_with fail
 obtain ⟨b1, b2, b3, b4⟩ := fin_dual (s := s7) (A := A7) (n := n7) (c := c7) (bz.ext EV);have r0 := b1.cell 0 (.bool s7) rfl;have r1 := b1.cell 1 (.slice A7 n7 c7) rfl;unfold set2 at r0 r1;refine bodyPost_ret (v := .agg #[.bool s7, .slice A7 n7 c7]) (by simp [results, Tryz.results118, go_sem, r0, r1]) rfl ⟨s7, A7, n7, c7, rfl, ?_, b3 _ (extW.trans EV) (by omega)⟩;exact b2 _ _ _ _ _ _ h7
theorem p_divided1T {g : Nat} (h : NI w z L s A n c) (k : NI w y M t B m d) (hb : Box w g 28 #[.bool t, .slice B m d]) (hL : L <= 50000) (hM : M <= 50000) (h0 : y ≠ 0) (hd : y ∣ z) : Calls Tryz.prog 146 #[.agg #[.bool s, .slice A n c], .pointer (some ⟨g, 0, Option.none⟩)] w (RetNI (z / y) (L) w) := by
 go_enter Tryz.func146, Tryz.ntmps146
 go_upto_region 1 with (fail)
 obtain ⟨W, hW, extW, bx, bz, hz⟩ := box2 w 28 28 #[.bool s, .slice A n c] #[Value.bool false, Value.slice Option.none 0 0];rw [<- hW];clear hW;have hb1 := hb.ext extW;have x0 := bx.cell 0 (.bool s) rfl;have x1 := bx.cell 1 (.slice A n c) rfl;have y0 := hb1.cell 0 (.bool t) rfl;have y1 := hb1.cell 1 (.slice B m d) rfl
 go_wp2_with fail
 refine (p_exactT (h.ext extW) (k.ext extW) (by omega) (by omega) h0 hd).mono ?_;rintro e V ⟨s7, A7, n7, c7, rfl, h7, EV⟩;clear x0 x1 y0 y1;have z0 := (bz.ext EV).cell 0 _ rfl;have z1 := (bz.ext EV).cell 1 _ rfl;have f0 := (bz.ext EV).frozen 0;have f1 := (bz.ext EV).frozen 1
 go_wp2_with fail
 obtain ⟨b1, b2, b3, b4⟩ := fin_dual (s := s7) (A := A7) (n := n7) (c := c7) (bz.ext EV);have r0 := b1.cell 0 (.bool s7) rfl;have r1 := b1.cell 1 (.slice A7 n7 c7) rfl;unfold set2 at r0 r1;refine bodyPost_ret (v := .agg #[.bool s7, .slice A7 n7 c7]) (by simp [results, Tryz.results146, go_sem, r0, r1]) rfl ⟨s7, A7, n7, c7, rfl, ?_, b3 _ (extW.trans EV) (by omega)⟩;exact b2 _ _ _ _ _ _ h7
set_option maxRecDepth 100000 in
theorem p_eachI_multiple (h : IPol w A n c zs L) (_hL : L <= 50000) (hn : n <= 1000) {gy : Nat} {sy : Bool} {Ay : Option Addr} {ny cy : Nat} (hnum : NI w y M sy Ay ny cy) (hb : Box w gy 28 #[.bool sy, .slice Ay ny cy]) (hLM : L + M <= 50000) : Calls Tryz.prog 117 #[.slice A n c, (.func (.func 118) #[] #[.pointer (some ⟨gy, 0, Option.none⟩)])] w (fun e w' => e = .returned (.slice (some ⟨w.heap.size, 0, Option.none⟩) n n) /\ IRow w' w.heap.size (zs.map (fun x : Int => x * y)) (L + M) /\ Ext w w') := by
 have hmk := mk_ints n (by omega);have Hlen := Lib.hid h.len
 go_enter Tryz.func117, Tryz.ntmps117
 go_wp2_with fail
 go_loopw [12] (fun i wr => ∃ k : Nat, k <= n /\ i = .int .i64 (k : Int) /\ Ext w wr /\ IRow wr w.heap.size ((zs.take k).map (fun x : Int => x * y) ++ List.replicate (n - k) 0) (L + M)) (fun i _ => n - (intOf i).toNat)
 case atStart => exact ⟨0, Nat.zero_le _, rfl, (Ext.refl w).alloc _, by simpa using IRow.new w n _⟩
 case round =>
  obtain ⟨k, hk, rfl, ext, hF⟩ := hrel
  by_cases hlt : k < n
  ·have hj : k < zs.length := by rw [Hlen.out]; exact hlt
   obtain ⟨b, off, rfl, hr⟩ := h.at_ (fun e => by rw [e] at hj; exact absurd hj (Nat.not_lt_zero _));obtain ⟨sx, Ax, nx, cx, e0, e1, hx⟩ := (hr.ext ext).at_ k hj;have e0' : wr.cell? ⟨b, off + k * 2, none⟩ = some (.bool sx) := by rw [Nat.mul_comm]; exact e0
   have e1' : wr.cell? ⟨b, off + k * 2 + 1, none⟩ = some (.slice Ax nx cx) := by rw [Nat.mul_comm]; exact e1
   have hkl : ((zs.take k).map (fun x : Int => x * y)).length = k := by rw [List.length_map, List.length_take, Hlen.out]; omega
   have HT := Lib.hid (show ∀ z, z = (fun x : Int => x * y) zs[k] -> ((zs.take k).map (fun x : Int => x * y) ++ List.replicate (n - k) 0).set k z = (zs.take (k + 1)).map (fun x : Int => x * y) ++ List.replicate (n - (k + 1)) 0 by
    intro z hz;rw [hz, show n - k = (n - (k + 1)) + 1 by omega, set_repl hkl, List.take_succ_eq_append_getElem hj, List.map_append]; rfl)
   go_wp2_with fail
   refine (p_multiple1T hx (hnum.ext ext) (hb.ext ext) (by omega)).mono ?_;rintro e V ⟨s7, A7, n7, c7, rfl, h7, hxt⟩;replace hF := hF.ext hxt;replace ext := ext.trans hxt;have hlr : k < ((zs.take k).map (fun x : Int => x * y) ++ List.replicate (n - k) (0 : Int)).length := by rw [List.length_append, hkl, List.length_replicate]; omega
   obtain ⟨s8, A8, n8, c8, p0, p1, _⟩ := hF.get hlr;have f0 := hF.frozen (k * 2);have f1 := hF.frozen (k * 2 + 1)
   go_wp2_with fail
   have P := hF.put hlr h7;rw [HT.out _ rfl] at P
   go_roundw
   case rel => exact ⟨k + 1, by omega, by go_num, P.2.2.1 _ ext (Nat.le_refl _), P.1⟩
   case measure => simp [intOf]; omega
  ·have hkn : k = n := by omega
   subst hkn;rw [List.take_of_length_le (Nat.le_of_eq Hlen.out), Nat.sub_self, List.replicate_zero, List.append_nil] at hF
   go_wp2_with fail
   go_ret
   exact ⟨rfl, hF, ext⟩
set_option maxRecDepth 100000 in
theorem p_eachI_divided (h : IPol w A n c zs L) (_hL : L <= 50000) (hn : n <= 1000) {gy : Nat} {sy : Bool} {Ay : Option Addr} {ny cy : Nat} (hnum : NI w y M sy Ay ny cy) (hb : Box w gy 28 #[.bool sy, .slice Ay ny cy]) (hL8 : L <= 50000) (hM8 : M <= 50000) (h0 : y ≠ 0) (hd : ∀ z ∈ zs, y ∣ z) : Calls Tryz.prog 117 #[.slice A n c, (.func (.func 146) #[] #[.pointer (some ⟨gy, 0, Option.none⟩)])] w (fun e w' => e = .returned (.slice (some ⟨w.heap.size, 0, Option.none⟩) n n) /\ IRow w' w.heap.size (zs.map (fun x : Int => x / y)) (L) /\ Ext w w') := by
 have hmk := mk_ints n (by omega);have Hlen := Lib.hid h.len
 go_enter Tryz.func117, Tryz.ntmps117
 go_wp2_with fail
 go_loopw [12] (fun i wr => ∃ k : Nat, k <= n /\ i = .int .i64 (k : Int) /\ Ext w wr /\ IRow wr w.heap.size ((zs.take k).map (fun x : Int => x / y) ++ List.replicate (n - k) 0) (L)) (fun i _ => n - (intOf i).toNat)
 case atStart => exact ⟨0, Nat.zero_le _, rfl, (Ext.refl w).alloc _, by simpa using IRow.new w n _⟩
 case round =>
  obtain ⟨k, hk, rfl, ext, hF⟩ := hrel
  by_cases hlt : k < n
  ·have hj : k < zs.length := by rw [Hlen.out]; exact hlt
   obtain ⟨b, off, rfl, hr⟩ := h.at_ (fun e => by rw [e] at hj; exact absurd hj (Nat.not_lt_zero _));obtain ⟨sx, Ax, nx, cx, e0, e1, hx⟩ := (hr.ext ext).at_ k hj;have e0' : wr.cell? ⟨b, off + k * 2, none⟩ = some (.bool sx) := by rw [Nat.mul_comm]; exact e0
   have e1' : wr.cell? ⟨b, off + k * 2 + 1, none⟩ = some (.slice Ax nx cx) := by rw [Nat.mul_comm]; exact e1
   have hkl : ((zs.take k).map (fun x : Int => x / y)).length = k := by rw [List.length_map, List.length_take, Hlen.out]; omega
   have HT := Lib.hid (show ∀ z, z = (fun x : Int => x / y) zs[k] -> ((zs.take k).map (fun x : Int => x / y) ++ List.replicate (n - k) 0).set k z = (zs.take (k + 1)).map (fun x : Int => x / y) ++ List.replicate (n - (k + 1)) 0 by
    intro z hz;rw [hz, show n - k = (n - (k + 1)) + 1 by omega, set_repl hkl, List.take_succ_eq_append_getElem hj, List.map_append]; rfl)
   go_wp2_with fail
   refine (p_divided1T hx (hnum.ext ext) (hb.ext ext) hL8 hM8 h0 (hd _ (List.getElem_mem hj))).mono ?_;rintro e V ⟨s7, A7, n7, c7, rfl, h7, hxt⟩;replace hF := hF.ext hxt;replace ext := ext.trans hxt;have hlr : k < ((zs.take k).map (fun x : Int => x / y) ++ List.replicate (n - k) (0 : Int)).length := by rw [List.length_append, hkl, List.length_replicate]; omega
   obtain ⟨s8, A8, n8, c8, p0, p1, _⟩ := hF.get hlr;have f0 := hF.frozen (k * 2);have f1 := hF.frozen (k * 2 + 1)
   go_wp2_with fail
   have P := hF.put hlr h7;rw [HT.out _ rfl] at P
   go_roundw
   case rel => exact ⟨k + 1, by omega, by go_num, P.2.2.1 _ ext (Nat.le_refl _), P.1⟩
   case measure => simp [intOf]; omega
  ·have hkn : k = n := by omega
   subst hkn;rw [List.take_of_length_le (Nat.le_of_eq Hlen.out), Nat.sub_self, List.replicate_zero, List.append_nil] at hF
   go_wp2_with fail
   go_ret
   exact ⟨rfl, hF, ext⟩
set_option maxRecDepth 100000 in
theorem p_pairI_Add (h : IPol w A n c zs L) (h' : IPol w B n d ys M) (hL : L <= 40000) (hM : M <= 40000) (hn : n <= 1000) : Calls Tryz.prog 142 #[.slice A n c, .slice B n d, (.func (.func 99) #[] #[])] w (fun e w' => e = .returned (.slice (some ⟨w.heap.size, 0, Option.none⟩) n n) /\ IRow w' w.heap.size (List.zipWith (fun x y : Int => x + y) zs ys) (max L M + 1) /\ Ext w w') := by
 have hmk := mk_ints n (by omega);have Hlen := Lib.hid h.len;have Hlen' := Lib.hid h'.len
 go_enter Tryz.func142, Tryz.ntmps142
 go_wp2_with fail
 go_loopw [14] (fun i wr => ∃ k : Nat, k <= n /\ i = .int .i64 (k : Int) /\ Ext w wr /\ IRow wr w.heap.size ((List.zipWith (fun x y : Int => x + y) (zs.take k) (ys.take k)) ++ List.replicate (n - k) 0) (max L M + 1)) (fun i _ => n - (intOf i).toNat)
 case atStart => exact ⟨0, Nat.zero_le _, rfl, (Ext.refl w).alloc _, by simpa using IRow.new w n _⟩
 case round =>
  obtain ⟨k, hk, rfl, ext, hF⟩ := hrel
  by_cases hlt : k < n
  ·have hj : k < zs.length := by rw [Hlen.out]; exact hlt
   have hj' : k < ys.length := by rw [Hlen'.out]; exact hlt
   have hI : (k : Int) < (n : Int) := by omega
   obtain ⟨b, off, rfl, hr⟩ := h.at_ (fun e => by rw [e] at hj; exact absurd hj (Nat.not_lt_zero _));obtain ⟨b', off', rfl, hr'⟩ := h'.at_ (fun e => by rw [e] at hj'; exact absurd hj' (Nat.not_lt_zero _));obtain ⟨sx, Ax, nx, cx, e0, e1, hx⟩ := (hr.ext ext).at_ k hj;have e0' : wr.cell? ⟨b, off + k * 2, none⟩ = some (.bool sx) := by rw [Nat.mul_comm]; exact e0
   have e1' : wr.cell? ⟨b, off + k * 2 + 1, none⟩ = some (.slice Ax nx cx) := by rw [Nat.mul_comm]; exact e1
   obtain ⟨sy, Ay, ny, cy, i0, i1, hy⟩ := (hr'.ext ext).at_ k hj';have i0' : wr.cell? ⟨b', off' + k * 2, none⟩ = some (.bool sy) := by rw [Nat.mul_comm]; exact i0
   have i1' : wr.cell? ⟨b', off' + k * 2 + 1, none⟩ = some (.slice Ay ny cy) := by rw [Nat.mul_comm]; exact i1
   have hkl : ((List.zipWith (fun x y : Int => x + y) (zs.take k) (ys.take k))).length = k := by rw [List.length_zipWith, List.length_take, List.length_take, Hlen.out, Hlen'.out]; omega
   have HT := Lib.hid (show ∀ z, z = (fun x y : Int => x + y) zs[k] ys[k] -> ((List.zipWith (fun x y : Int => x + y) (zs.take k) (ys.take k)) ++ List.replicate (n - k) 0).set k z = List.zipWith (fun x y : Int => x + y) (zs.take (k + 1)) (ys.take (k + 1)) ++ List.replicate (n - (k + 1)) 0 by
    intro z hz;rw [hz, show n - k = (n - (k + 1)) + 1 by omega, set_repl hkl, List.take_succ_eq_append_getElem hj, List.take_succ_eq_append_getElem hj', List.zipWith_append (by rw [List.length_take, List.length_take]; omega)]; rfl)
   go_upto_region 5 with (fail)
   refine wpL.st 13 (fun hQ ES => ?_);refine wpL.u 0 17 hQ ES ?_
   try simp only [zP]
   refine wpL.u 1 18 hQ ES ?_
   try simp only [zP]
   refine wpL.u 2 19 hQ ES ?_
   try simp only [zP]
   refine wpL.u 3 20 hQ ES ?_
   try simp only [zP]
   refine wpL.u 4 21 hQ ES ?_
   try simp only [zP]
   refine wpL.u 7 24 hQ ES ?_
   try simp only [zP]
   refine wpL.u 8 25 hQ ES ?_
   try simp only [zP]
   refine wpL.u 5 22 hQ ES ?_
   try simp only [zP]
   refine wpL.u 9 26 hQ ES ?_
   try simp only [zP]
   refine wpL.t 6 23 ?v_9 hQ ?y_9 ES ?_
   case y_9 => intro w' hSw;have q0_ := hSw.cellv e0';have q1_ := hSw.cellv e1';have q2_ := hSw.cellv i0';have q3_ := hSw.cellv i1';go_simp;try rfl
   try simp only [zP]
   refine wpL.t 10 27 ?v_a hQ ?y_a ES ?_
   case y_a => intro w' hSw;have q0_ := hSw.cellv e0';have q1_ := hSw.cellv e1';have q2_ := hSw.cellv i0';have q3_ := hSw.cellv i1';go_simp;try rfl
   try simp only [zP]
   refine wpL.cl (i := 11) rfl (fun K hK => ?_);go_simp
   (go_at_call 99; refine (p_Add (hx.ext ES) (hy.ext ES) (by omega) (by omega)).mono ?_; rintro e V ⟨s7, A7, n7, c7, rfl, h7, hx0⟩; have E0_5 := Ext.trans ES hx0)
   refine hK.out _ _ E0_5 ?_;clear hK K
   try simp only [zP]
   refine wpL.u 12 29 hQ E0_5 ?_
   try simp only [zP]
   replace hF := hF.ext E0_5;replace ext := ext.trans E0_5;have hlr : k < ((List.zipWith (fun x y : Int => x + y) (zs.take k) (ys.take k)) ++ List.replicate (n - k) (0 : Int)).length := by rw [List.length_append, hkl, List.length_replicate]; omega
   obtain ⟨s8, A8, n8, c8, p0, p1, _⟩ := hF.get hlr;have f0 := hF.frozen (k * 2);have f1 := hF.frozen (k * 2 + 1);refine wpL.tl (i := 13) rfl (fun K hK => ?_);go_simp;refine hK.out _ _ ?_;clear hK K
   try simp only [zP]
   refine wpL.done (by kernel_rfl) ?_ _;clear hQ;have P := hF.put hlr h7;rw [HT.out _ rfl] at P
   go_wp2_with fail
   go_roundw
   case rel => exact ⟨k + 1, by omega, by go_num, P.2.2.1 _ ext (Nat.le_refl _), P.1⟩
   case measure => simp [intOf]; omega
  ·have hkn : k = n := by omega
   subst hkn;rw [List.take_of_length_le (Nat.le_of_eq Hlen.out), List.take_of_length_le (Nat.le_of_eq Hlen'.out), Nat.sub_self, List.replicate_zero, List.append_nil] at hF
   go_wp2_with fail
   go_ret
   exact ⟨rfl, hF, ext⟩
set_option maxRecDepth 100000 in
theorem p_pairI_Sub (h : IPol w A n c zs L) (h' : IPol w B n d ys M) (hL : L <= 40000) (hM : M <= 40000) (hn : n <= 1000) : Calls Tryz.prog 142 #[.slice A n c, .slice B n d, (.func (.func 143) #[] #[])] w (fun e w' => e = .returned (.slice (some ⟨w.heap.size, 0, Option.none⟩) n n) /\ IRow w' w.heap.size (List.zipWith (fun x y : Int => x - y) zs ys) (max L M + 1) /\ Ext w w') := by
 have hmk := mk_ints n (by omega);have Hlen := Lib.hid h.len;have Hlen' := Lib.hid h'.len
 go_enter Tryz.func142, Tryz.ntmps142
 go_wp2_with fail
 go_loopw [14] (fun i wr => ∃ k : Nat, k <= n /\ i = .int .i64 (k : Int) /\ Ext w wr /\ IRow wr w.heap.size ((List.zipWith (fun x y : Int => x - y) (zs.take k) (ys.take k)) ++ List.replicate (n - k) 0) (max L M + 1)) (fun i _ => n - (intOf i).toNat)
 case atStart => exact ⟨0, Nat.zero_le _, rfl, (Ext.refl w).alloc _, by simpa using IRow.new w n _⟩
 case round =>
  obtain ⟨k, hk, rfl, ext, hF⟩ := hrel
  by_cases hlt : k < n
  ·have hj : k < zs.length := by rw [Hlen.out]; exact hlt
   have hj' : k < ys.length := by rw [Hlen'.out]; exact hlt
   have hI : (k : Int) < (n : Int) := by omega
   obtain ⟨b, off, rfl, hr⟩ := h.at_ (fun e => by rw [e] at hj; exact absurd hj (Nat.not_lt_zero _));obtain ⟨b', off', rfl, hr'⟩ := h'.at_ (fun e => by rw [e] at hj'; exact absurd hj' (Nat.not_lt_zero _));obtain ⟨sx, Ax, nx, cx, e0, e1, hx⟩ := (hr.ext ext).at_ k hj;have e0' : wr.cell? ⟨b, off + k * 2, none⟩ = some (.bool sx) := by rw [Nat.mul_comm]; exact e0
   have e1' : wr.cell? ⟨b, off + k * 2 + 1, none⟩ = some (.slice Ax nx cx) := by rw [Nat.mul_comm]; exact e1
   obtain ⟨sy, Ay, ny, cy, i0, i1, hy⟩ := (hr'.ext ext).at_ k hj';have i0' : wr.cell? ⟨b', off' + k * 2, none⟩ = some (.bool sy) := by rw [Nat.mul_comm]; exact i0
   have i1' : wr.cell? ⟨b', off' + k * 2 + 1, none⟩ = some (.slice Ay ny cy) := by rw [Nat.mul_comm]; exact i1
   have hkl : ((List.zipWith (fun x y : Int => x - y) (zs.take k) (ys.take k))).length = k := by rw [List.length_zipWith, List.length_take, List.length_take, Hlen.out, Hlen'.out]; omega
   have HT := Lib.hid (show ∀ z, z = (fun x y : Int => x - y) zs[k] ys[k] -> ((List.zipWith (fun x y : Int => x - y) (zs.take k) (ys.take k)) ++ List.replicate (n - k) 0).set k z = List.zipWith (fun x y : Int => x - y) (zs.take (k + 1)) (ys.take (k + 1)) ++ List.replicate (n - (k + 1)) 0 by
    intro z hz;rw [hz, show n - k = (n - (k + 1)) + 1 by omega, set_repl hkl, List.take_succ_eq_append_getElem hj, List.take_succ_eq_append_getElem hj', List.zipWith_append (by rw [List.length_take, List.length_take]; omega)]; rfl)
   go_upto_region 5 with (fail)
   refine wpL.st 13 (fun hQ ES => ?_);refine wpL.u 0 17 hQ ES ?_
   try simp only [zP]
   refine wpL.u 1 18 hQ ES ?_
   try simp only [zP]
   refine wpL.u 2 19 hQ ES ?_
   try simp only [zP]
   refine wpL.u 3 20 hQ ES ?_
   try simp only [zP]
   refine wpL.u 4 21 hQ ES ?_
   try simp only [zP]
   refine wpL.u 7 24 hQ ES ?_
   try simp only [zP]
   refine wpL.u 8 25 hQ ES ?_
   try simp only [zP]
   refine wpL.u 5 22 hQ ES ?_
   try simp only [zP]
   refine wpL.u 9 26 hQ ES ?_
   try simp only [zP]
   refine wpL.t 6 23 ?v_9 hQ ?y_9 ES ?_
   case y_9 => intro w' hSw;have q0_ := hSw.cellv e0';have q1_ := hSw.cellv e1';have q2_ := hSw.cellv i0';have q3_ := hSw.cellv i1';go_simp;try rfl
   try simp only [zP]
   refine wpL.t 10 27 ?v_a hQ ?y_a ES ?_
   case y_a => intro w' hSw;have q0_ := hSw.cellv e0';have q1_ := hSw.cellv e1';have q2_ := hSw.cellv i0';have q3_ := hSw.cellv i1';go_simp;try rfl
   try simp only [zP]
   refine wpL.cl (i := 11) rfl (fun K hK => ?_);go_simp
   (go_at_call 143; refine (p_SubIT (hx.ext ES) (hy.ext ES) (by omega) (by omega)).mono ?_; rintro e V ⟨s7, A7, n7, c7, rfl, h7, hx0⟩; have E0_5 := Ext.trans ES hx0)
   refine hK.out _ _ E0_5 ?_;clear hK K
   try simp only [zP]
   refine wpL.u 12 29 hQ E0_5 ?_
   try simp only [zP]
   replace hF := hF.ext E0_5;replace ext := ext.trans E0_5;have hlr : k < ((List.zipWith (fun x y : Int => x - y) (zs.take k) (ys.take k)) ++ List.replicate (n - k) (0 : Int)).length := by rw [List.length_append, hkl, List.length_replicate]; omega
   obtain ⟨s8, A8, n8, c8, p0, p1, _⟩ := hF.get hlr;have f0 := hF.frozen (k * 2);have f1 := hF.frozen (k * 2 + 1);refine wpL.tl (i := 13) rfl (fun K hK => ?_);go_simp;refine hK.out _ _ ?_;clear hK K
   try simp only [zP]
   refine wpL.done (by kernel_rfl) ?_ _;clear hQ;have P := hF.put hlr h7;rw [HT.out _ rfl] at P
   go_wp2_with fail
   go_roundw
   case rel => exact ⟨k + 1, by omega, by go_num, P.2.2.1 _ ext (Nat.le_refl _), P.1⟩
   case measure => simp [intOf]; omega
  ·have hkn : k = n := by omega
   subst hkn;rw [List.take_of_length_le (Nat.le_of_eq Hlen.out), List.take_of_length_le (Nat.le_of_eq Hlen'.out), Nat.sub_self, List.replicate_zero, List.append_nil] at hF
   go_wp2_with fail
   go_ret
   exact ⟨rfl, hF, ext⟩
theorem p_plusT (h : IPol w A n c zs L) (h' : IPol w B n d ys M) (hL : L <= 40000) (hM : M <= 40000) (hn : n <= 1000) : Calls Tryz.prog 110 #[.slice A n c, .slice B n d] w (fun e w' => e = .returned (.slice (some ⟨w.heap.size, 0, Option.none⟩) n n) /\ IRow w' w.heap.size (addL zs ys) (max L M + 1) /\ Ext w w') := by
 go_enter Tryz.func110, Tryz.ntmps110
 go_wp2_with fail
 refine (p_pairI_Add h h' hL hM hn).mono ?_;rintro e V ⟨rfl, hF, hx⟩
 go_wp2_with fail
 go_ret
 exact ⟨rfl, hF, hx⟩
theorem p_minusT (h : IPol w A n c zs L) (h' : IPol w B n d ys M) (hL : L <= 40000) (hM : M <= 40000) (hn : n <= 1000) : Calls Tryz.prog 109 #[.slice A n c, .slice B n d] w (fun e w' => e = .returned (.slice (some ⟨w.heap.size, 0, Option.none⟩) n n) /\ IRow w' w.heap.size (List.zipWith (fun x y : Int => x - y) zs ys) (max L M + 1) /\ Ext w w') := by
 go_enter Tryz.func109, Tryz.ntmps109
 go_wp2_with fail
 refine (p_pairI_Sub h h' hL hM hn).mono ?_;rintro e V ⟨rfl, hF, hx⟩
 go_wp2_with fail
 go_ret
 exact ⟨rfl, hF, hx⟩
theorem p_multipleT {sy : Bool} {Ay : Option Addr} {ny cy : Nat} (h : IPol w A n c zs L) (hk : NI w y M sy Ay ny cy) (hL : L <= 40000) (hM : M <= 40000) (hLM : L + M <= 50000) (hn : n <= 1000) : Calls Tryz.prog 73 #[.slice A n c, .agg #[.bool sy, .slice Ay ny cy]] w (RetIPol (zs.map (· * y)) (L + M) w) := by
 have hmf : ∀ (fn : Fn) (first cap : Array Value) (w : World), (Instr.makeFunc fn first cap).run Tryz.prog w = .ok (.func fn first cap) w := fun _ _ _ _ => rfl
 go_enter Tryz.func73, Tryz.ntmps73
 go_upto_region 1 with (fail)
 obtain ⟨W, hW, ext, bx, hz⟩ := box1 w 28 #[.bool sy, .slice Ay ny cy];rw [<- hW];clear hW hz;have x0 := bx.cell 0 (.bool sy) rfl;have x1 := bx.cell 1 (.slice Ay ny cy) rfl
 by_cases hone : y = 1
 ·have H1 := Lib.hid hone
  go_wp2_with fail
  refine (p_isOneT (hk.ext ext)).mono ?_;rintro e V ⟨rfl, hxt⟩;rw [decide_eq_true H1.out]
  go_wp2_with fail
  go_ret
  refine ⟨A, n, c, rfl, ?_, ext.trans hxt⟩;rw [H1.out, show zs.map (· * (1 : Int)) = zs by simp];exact (h.ext (ext.trans hxt)).leT (by omega)
 ·have H1 := Lib.hid hone
  clear hone
  go_wp2_with fail
  refine (p_isOneT (hk.ext ext)).mono ?_;rintro e V ⟨rfl, hxt⟩;rw [decide_eq_false H1.out];have e2 := ext.trans hxt
  go_wp2_with fail
  refine (p_eachI_multiple (h.ext e2) (by omega) hn (hk.ext e2) (bx.ext hxt) hLM).mono ?_;rintro e V2 ⟨rfl, hF, hx⟩
  go_wp2_with fail
  go_ret
  exact ⟨_, n, n, rfl, hF.pol (by rw [List.length_map, h.len]) (by unfold maxLen; omega), e2.trans hx⟩
theorem p_dividedT {sy : Bool} {Ay : Option Addr} {ny cy : Nat} (h : IPol w A n c zs L) (hk : NI w y M sy Ay ny cy) (hL : L <= 50000) (hM : M <= 50000) (h0 : y ≠ 0) (hd : ∀ z ∈ zs, y ∣ z) (hn : n <= 1000) : Calls Tryz.prog 116 #[.slice A n c, .agg #[.bool sy, .slice Ay ny cy]] w (fun e w' => e = .returned (.slice (some ⟨(w.heap.size + 1), 0, Option.none⟩) n n) /\ IRow w' (w.heap.size + 1) (zs.map (· / y)) (L) /\ Ext w w') := by
 have hmf : ∀ (fn : Fn) (first cap : Array Value) (w : World), (Instr.makeFunc fn first cap).run Tryz.prog w = .ok (.func fn first cap) w := fun _ _ _ _ => rfl
 go_enter Tryz.func116, Tryz.ntmps116
 go_upto_region 1 with (fail)
 have hsz : (w.alloc (.cells #[.bool sy, .slice Ay ny cy] 28)).heap.size = w.heap.size + 1 := World.size_alloc _ _;obtain ⟨W, hW, ext, bx, hz⟩ := box1 w 28 #[.bool sy, .slice Ay ny cy];rw [<- hW] at hsz ⊢;clear hW hz
 go_wp2_with fail
 refine (p_eachI_divided (h.ext ext) (by omega) hn (hk.ext ext) bx hL hM h0 hd).mono ?_;rintro e V2 ⟨rfl, hF, hx⟩;rw [hsz] at hF ⊢
 go_wp2_with fail
 go_ret
 exact ⟨rfl, hF, ext.trans hx⟩
end
def denP (qs : List Rat) : Nat := qs.foldl (fun d q => Nat.lcm d q.den) 1
theorem denP_snoc (qs : List Rat) (q : Rat) : denP (qs ++ [q]) = Nat.lcm (denP qs) q.den := by unfold denP; rw [List.foldl_append]; rfl
theorem foldl_lcm (qs : List Rat) : ∀ d, 0 < d -> 0 < qs.foldl (fun d q => Nat.lcm d q.den) d /\ d ∣ qs.foldl (fun d q => Nat.lcm d q.den) d /\ ∀ q ∈ qs, q.den ∣ qs.foldl (fun d q => Nat.lcm d q.den) d := by
 induction qs with
 | nil => intro d hd; exact ⟨hd, Nat.dvd_refl _, fun q h => by cases h⟩
 | cons p qs ih =>
  intro d hd;obtain ⟨h1, h2, h3⟩ := ih (Nat.lcm d p.den) (Nat.lcm_pos hd p.den_pos);refine ⟨h1, Nat.dvd_trans (Nat.dvd_lcm_left _ _) h2, fun q hq => ?_⟩
  rcases List.mem_cons.1 hq with rfl | hq
  ·exact Nat.dvd_trans (Nat.dvd_lcm_right _ _) h2
  ·exact h3 q hq
theorem denP_pos (qs : List Rat) : 0 < denP qs := (foldl_lcm qs 1 Nat.one_pos).1
theorem denP_dvd {qs : List Rat} {q : Rat} (h : q ∈ qs) : q.den ∣ denP qs := (foldl_lcm qs 1 Nat.one_pos).2.2 q h
def numsP (qs : List Rat) : List Int := qs.map fun q => q.num * (((denP qs : Nat) : Int) / ((q.den : Nat) : Int))
theorem numsP_len (qs : List Rat) : (numsP qs).length = qs.length := List.length_map _
theorem numsP_at (qs : List Rat) (j : Nat) (h : j < (numsP qs).length) (h' : j < qs.length) : (numsP qs)[j] = qs[j].num * (((denP qs : Nat) : Int) / ((qs[j].den : Nat) : Int)) := by simp [numsP]
theorem lcm_step (d e : Nat) : (d : Int) * ((e : Int) / ((Nat.gcd d e : Nat) : Int)) = ((Nat.lcm d e : Nat) : Int) := by
 unfold Nat.lcm;rw [Nat.mul_div_assoc _ (Nat.gcd_dvd_right d e)]
 push_cast
 rfl
theorem set_fill {l : List Int} {k n : Nat} (hk : k < l.length) (hn : l.length = n) : (l.take k ++ List.replicate (n - k) 0).set k l[k] = l.take (k + 1) ++ List.replicate (n - (k + 1)) 0 := by
 have e : n - k = (n - (k + 1)) + 1 := by omega
 rw [e, List.replicate_succ, List.set_append_right _ _ (by rw [List.length_take]; omega), List.length_take, Nat.min_eq_left (by omega), Nat.sub_self, List.set_cons_zero, List.take_succ_eq_append_getElem hk, List.append_assoc]
 rfl
section
variable {w w' : World} {q x : Rat} {L M : Nat} {s t : Bool} {A B : Option Addr} {n c m d : Nat} {sx tx : Bool} {Ax Bx : Option Addr} {nx cx mx dx : Nat} {qs ps : List Rat}
theorem denP_take (qs : List Rat) (j : Nat) : denP (qs.take j) ∣ denP qs := by
 have e : denP qs = (qs.drop j).foldl (fun d q => Nat.lcm d q.den) (denP (qs.take j)) := by
  unfold denP;rw [<- List.foldl_append, List.take_append_drop]
 rw [e];exact (foldl_lcm _ _ (denP_pos _)).2.1
end
theorem IPol.tight {w : World} {A : Option Addr} {n c L M : Nat} {zs : List Int} (h : IPol w A n c zs L) (hb : ∀ z ∈ zs, z.natAbs < 4294967296 ^ M) : IPol w A n c zs M := by
 refine ⟨h.len, h.cap, h.top, fun hq => ?_⟩;obtain ⟨b, off, h1, h2⟩ := h.at_ hq;refine ⟨b, off, h1, ⟨fun i hi => ?_⟩⟩;obtain ⟨s, A, n, c, k1, k2, k3⟩ := h2.at_ i hi;exact ⟨s, A, n, c, k1, k2, k3.tight' (hb _ (List.getElem_mem hi))⟩
end
section
open Go.RowKit
section bridge
variable {P : Program} {ops : Array Oper} {Q : Exit -> Act -> World -> Prop} {md : Region.Mode} {l n : Nat}
end bridge
section kept
variable {w w' a : World} {z : Int} {zs : List Int} {L b o g n c : Nat} {s : Bool} {A : Option Addr} {cs : List Value} {xs : List Nat}
end kept
end
section
open Go.RowKit
attribute [local go_sem ↓] Go.wp_at_zero Go.wp_at_succ
section
variable {w w' : World} {z : Int} {zs : List Int} {L M b o g n c k : Nat} {s : Bool} {A : Option Addr}
theorem IntsAt.list (w : World) (b L : Nat) : ∀ (zs : List Int) (o : Nat), IntsAt w b o zs L -> ∃ cs, ICells w L zs cs /\ ∀ j u, cs[j]? = some u -> w.cell? ⟨b, o + j, none⟩ = some u
 | [], o, _ => ⟨[], .nil, fun j u h => by simp at h⟩
 | z :: zs, o, h => by
  obtain ⟨s, A, n, c, h1, h2, h3⟩ := h.at_ 0 (by simp)
  obtain ⟨cs, k1, k2⟩ := IntsAt.list w b L zs (o + 2) ⟨fun i hi => by
   obtain ⟨s, A, n, c, h1, h2, h3⟩ := h.at_ (i + 1) (by simpa using hi);rw [show o + 2 * (i + 1) = o + 2 + 2 * i by omega] at h1 h2;exact ⟨s, A, n, c, h1, h2, h3⟩⟩
  refine ⟨.bool s :: .slice A n c :: cs, .cons h3 k1, fun j u hj => ?_⟩
  match j, hj with
  | 0, hj => simp at hj; subst hj; exact h1
  | 1, hj => simp at hj; subst hj; exact h2
  | j + 2, hj =>
   rw [show o + (j + 2) = o + 2 + j by omega];exact k2 j u hj
end
end
section
open Go.RowKit
structure Row2 (w : World) (base : Nat) (v : Value) (zs : List Int) (L : Nat) : Prop where
 own : ∃ cs, w.ownsRow base 28 2 v zs.length cs /\ ICells w L zs cs
 nwb : NWB w v
section
variable {w w' : World} {base L M : Nat} {v : Value} {zs : List Int} {z : Int} {s : Bool} {A : Option Addr} {n c g : Nat} {cs : List Value}
theorem ICells.own (h : ICells w L zs cs) (hv : NWB w v) (k : w.grownBy w' v.ownBlock) : ICells w' L zs cs := h.ni fun _ _ _ _ _ _ h => h.own hv k
theorem Row2.ext (h : Row2 w base v zs L) (e : Ext w w') : Row2 w' base v zs L := by
 obtain ⟨cs, h1, h2⟩ := h.own;exact ⟨⟨cs, owns_ext h1 e, h2.ext e⟩, h.nwb.ext e⟩
theorem Row2.nil (w : World) (base L : Nat) : Row2 w base (.slice none 0 0) [] L := ⟨⟨[], owns_nil _ _ _ _, .nil⟩, fun g hg => by cases hg⟩
theorem Row2.block (h : Row2 w base v zs L) : ∀ k, v.ownBlock = some k -> base <= k /\ k < w.heap.size := by
 intro k hk;obtain ⟨cs, h1, _⟩ := h.own;refine ⟨owns_block h1 k hk, ?_⟩;obtain ⟨cur, e', fz, h2, _⟩ := h.nwb k hk
 rcases Nat.lt_or_ge k w.heap.size with j | j
 ·exact j
 ·rw [Array.getElem?_eq_none j] at h2; cases h2
end
def NSL (l : List Value) : Prop := ∀ u ∈ l, ∃ A n c, u = .slice A n c
def NSW (cs : Array Value) : Prop := NSL cs.toList
theorem NSL.arr {l : List Value} (h : NSL l) : NSW l.toArray := by unfold NSW; simpa using h
theorem NSL.of {cs : Array Value} (h : NSW cs) : NSL cs.toList := h
theorem NSL.arr' {cs : Array Value} (h : NSL cs.toList) : NSW cs := h
theorem NSL.append {l l' : List Value} (h : NSL l) (h' : NSL l') : NSL (l ++ l') := by
 intro u hu
 rcases List.mem_append.1 hu with hu | hu
 ·exact h u hu
 ·exact h' u hu
theorem NSL.take {l : List Value} (h : NSL l) (n : Nat) : NSL (l.take n) := fun u hu => h u (List.mem_of_mem_take hu)
theorem NSL.drop {l : List Value} (h : NSL l) (n : Nat) : NSL (l.drop n) := fun u hu => h u (List.mem_of_mem_drop hu)
theorem NSL.zero {z : Array Value} (h : NSL z.toList) (n : Nat) : NSL (Builtin.zeroCells z n).toList := by
 intro u hu;simp only [Builtin.zeroCells, Array.mem_toList_iff, Array.mem_map, Array.mem_range] at hu;obtain ⟨i, hi, rfl⟩ := hu
 have hz : 0 < z.size := by
  rcases Nat.eq_zero_or_pos z.size with h0 | h0
  ·rw [h0] at hi; omega
  ·exact h0
 have hm : i % z.size < z.size := Nat.mod_lt _ hz;rw [getElem!_pos z _ hm];exact h _ (by simp)
def NSB (w : World) (v : Value) : Prop := ∀ g, v.ownBlock = some g -> ∃ cur e fz, w.heap[g]? = some (.cells cur e fz) /\ NSW cur
section
variable {P : Program} {w : World}
theorem run_append_sl {base : Nat} {t ty e : TypeId} {i : TypeInfo} {z : Value} {bytes : Nat} (ht : P.underlying t = some (.slice e)) (hi : P.info? e = some i) (hz : i.zero = some z)
  (hby : i.bytes = bytes) (hzs : z.cells.size = i.size) (hsz : 0 < i.size) (hzw : NSL z.cells.toList)
  {v : Value} {n : Nat} {xs : List Value} (hown : w.ownsRow base e i.size v n xs) (hv : NSB w v)
  {a : Addr} {m c : Nat} {news : List Value} (hl : news.length = m * i.size) (hnews : ∀ j u, news[j]? = some u -> w.cell? (a.add j) = some u) (h1 : ∀ u ∈ news, u.oneCell' = true) (hnw : NSL news) (hm : 0 < m)
  (h63 : n + m <= maxLen) (hbytes : (n + m) * bytes <= 140737488355328) (hbase : base <= w.heap.size) :
  ∃ v' w', (Builtin.append_ #[t, t] ty #[v, .slice (some a) m c]).run P w = .ok v' w' /\ w'.ownsRow base e i.size v' (n + m) (xs ++ news) /\ w.grownBy w' v.ownBlock /\
   (v'.ownBlock = v.ownBlock \/ v'.ownBlock = some w.heap.size) /\ NSB w' v' := by
 obtain ⟨v', w', hr, h2, h3, _, h5⟩ := run_append_own_at (P := P) w base t ty e i z i.size bytes ht hi hz rfl hby hzs hsz v n xs hown a m c news hl hnews h1 h63 hbytes hbase;refine ⟨v', w', hr, h2, h3, h5, ?_⟩;subst hby;have hsmall : n + m <= 9223372036854775807 := by simp only [maxLen] at h63; omega
 rcases hown.2 with ⟨rfl, rfl⟩ | ⟨g, cap, cur, rfl, hbg, hg, hnc, hcm, hcs, htake⟩
 ·have hr2 := run_append_nil (P := P) w t ty e i z ht hi hz a m c news hl hnews hm (by omega) (by have hb := hbytes; simp only [Nat.zero_add] at hb; omega)
  rw [hr] at hr2
  injection hr2 with e1 e2
  subst e1 e2;intro g hg
  injection hg with hg
  subst hg;refine ⟨_, _, _, heap_alloc_new w.drew _, ?_⟩;refine NSL.arr' ?_;rw [Array.toList_append];exact hnw.append (hzw.zero _)
 ·obtain ⟨cur', e', fz, hg', hcw⟩ := hv g rfl
  rw [hg] at hg'
  injection hg' with hg'
  injection hg' with q1 q2 q3
  subst q1;have hc := NSL.of hcw
  by_cases hroom : n + m <= cap
  ·have hfit : n * i.size + news.length <= cur.size := by rw [hl, hcs, <- Nat.add_mul]; exact Nat.mul_le_mul_right _ hroom
   have hr2 := run_append_room (P := P) w t ty e i ht hi g n cap cur hg a m c news hl hnews h1 hroom hfit;rw [hr] at hr2
   injection hr2 with e1 e2
   subst e1 e2;intro g' hg'
   injection hg' with hg'
   subst hg';exact ⟨_, _, _, setRow_heap w g cur _ e _ hg, (((hc.take _).append hnw).append (hc.drop _)).arr⟩
  ·have holds : ∀ j u, xs[j]? = some u -> w.cell? ((⟨g, 0, none⟩ : Addr).add j) = some u := hown.cells (g := g) rfl
   have hr2 := run_append_grow (P := P) w t ty e i z ht hi hz ⟨g, 0, none⟩ n cap xs hown.1 holds a m c news hl hnews (by omega) (by omega) (growslice_fits (by omega) hbytes);rw [hr] at hr2
   injection hr2 with e1 e2
   subst e1 e2;intro g' hg'
   injection hg' with hg'
   subst hg';refine ⟨_, _, _, heap_alloc_new w.drew _, ?_⟩;have hx : NSL xs := by rw [<- htake]; exact hc.take _
   refine NSL.arr' ?_;rw [Array.toList_append, Array.toList_append];exact (hx.append hnw).append (hzw.zero _)
variable {w' : World} {A A' B B' : Option Addr} {xs : List Nat} {v : Value} {z : Int} {zs : List Int} {L M n c m d n' c' m' d' base : Nat} {s t s' t' : Bool} {cs : List Value} {Rs : List (List Int)}
theorem NSB.nwb (h : NSB w v) : NWB w v := by
 intro g hg;obtain ⟨cur, e, fz, h1, h2⟩ := h g hg;refine ⟨cur, e, fz, h1, fun i k hk => ?_⟩;obtain ⟨A, n, c, h3⟩ := h2 _ (Array.mem_toList_iff.2 (Array.mem_of_getElem? hk))
 cases h3
theorem NSB.ext (h : NSB w v) (e : Ext w w') : NSB w' v := by
 intro g hg;obtain ⟨cur, e', fz, h1, h2⟩ := h g hg;refine ⟨cur, e', fz, ?_, h2⟩
 have hlt : g < w.heap.size := by
  rcases Nat.lt_or_ge g w.heap.size with k | k
  ·exact k
  ·rw [Array.getElem?_eq_none k] at h1; cases h1
 rw [<- h1];exact Below.block e g hlt
theorem IPol.own (h : IPol w A n c zs L) (hv : NSB w v) (k : w.grownBy w' v.ownBlock) : IPol w' A n c zs L := by
 refine ⟨h.len, h.cap, h.top, fun hq => ?_⟩;obtain ⟨b, off, h1, h2⟩ := h.at_ hq;refine ⟨b, off, h1, ⟨fun i hi => ?_⟩⟩;obtain ⟨s, A', n', c', e0, e1, hx⟩ := h2.at_ i hi
 have hne : v.ownBlock ≠ some b := by
  intro hb;obtain ⟨cur, e, fz, hg, hn⟩ := hv b hb;rw [cell_of_row w b _ _ _ _ hg] at e0;obtain ⟨A, n, c, h3⟩ := hn _ (Array.mem_toList_iff.2 (Array.mem_of_getElem? e0))
  cases h3
 have hc : ∀ o u, w.cell? ⟨b, o, Option.none⟩ = some u -> w'.cell? ⟨b, o, Option.none⟩ = some u := fun o u hu => by
  have hlt := cell_lt hu;rw [World.cell?_of_block (k.block b hlt (fun e => hne e.symm)), hu]
 exact ⟨s, A', n', c', hc _ _ e0, hc _ _ e1, hx.own hv.nwb k⟩
inductive SCells (w : World) (L : Nat) : List (List Int) -> List Value -> Prop
 | nil : SCells w L [] []
 | cons {zs : List Int} {Rs : List (List Int)} {A : Option Addr} {n c : Nat} {cs : List Value} : IPol w A n c zs L -> SCells w L Rs cs -> SCells w L (zs :: Rs) (.slice A n c :: cs)
theorem SCells.ext (h : SCells w L Rs cs) (e : Ext w w') : SCells w' L Rs cs := by
 induction h with
 | nil => exact .nil
 | cons h _ ih => exact .cons (h.ext e) ih
theorem SCells.own (h : SCells w L Rs cs) (hv : NSB w v) (k : w.grownBy w' v.ownBlock) : SCells w' L Rs cs := by
 induction h with
 | nil => exact .nil
 | cons h _ ih => exact .cons (h.own hv k) ih
theorem SCells.append {Rs' : List (List Int)} {ds : List Value} (h : SCells w L Rs cs) (k : SCells w L Rs' ds) : SCells w L (Rs ++ Rs') (cs ++ ds) := by
 induction h with
 | nil => exact k
 | cons h _ ih => exact .cons h ih
theorem SCells.get (h : SCells w L Rs cs) : ∀ i (hi : i < Rs.length), ∃ A n c, cs[i]? = some (.slice A n c) /\ IPol w A n c Rs[i] L := by
 induction h with
 | nil => intro i hi; cases hi
 | cons h _ ih =>
  intro i hi
  cases i with
  | zero => exact ⟨_, _, _, rfl, h⟩
  | succ i =>
   obtain ⟨A, n, c, h1, h2⟩ := ih i (by simpa using hi);exact ⟨A, n, c, by simpa using h1, by simpa using h2⟩
theorem Tryz.infoSl : (Tryz.prog.info? 70).map (fun i => (i.zero, i.size, i.bytes)) = some (some (.slice Option.none 0 0), 1, 24) := by kernel_rfl
end
section
variable {w w' : World} {base L : Nat} {v : Value} {zs ys : List Int} {A : Option Addr} {n c : Nat}
theorem addr_addI (b o j : Nat) : (⟨b, o, Option.none⟩ : Addr).add j = ⟨b, o + j, Option.none⟩ := addr_add b o j
theorem IRow.row2 {g : Nat} (h : IRow w g zs L) (hg : base <= g) (hn : zs.length = n) (hm : n <= 1000000) : Row2 w base (.slice (some ⟨g, 0, Option.none⟩) n n) zs L := by
 obtain ⟨cs, h1, h2⟩ := h;have hl := h2.len;refine ⟨⟨cs, ⟨hl, Or.inr ⟨g, n, cs.toArray, by rw [hn], hg, h1, by omega, by unfold maxLen; omega, by simp [hl, hn], by simp [<- hl]⟩⟩, h2⟩, ?_⟩
 ·intro g' hg'
  injection hg' with hg'
  subst hg';exact ⟨_, _, _, h1, h2.nwl.arr⟩
theorem Row2.pol (h : Row2 w base v zs L) : ∃ A n c, v = .slice A n c /\ IPol w A n c zs L := by
 obtain ⟨cs, h1, h2⟩ := h.own
 rcases h1.2 with ⟨rfl, h0⟩ | ⟨g, cap, cur, rfl, hbg, hg, hnc, hcm, hcs, htk⟩
 ·have hz : zs = [] := List.length_eq_zero_iff.1 h0
  subst hz;exact ⟨_, _, _, rfl, IPol.none _ _⟩
 ·refine ⟨_, _, _, rfl, rfl, hnc, hcm, fun _ => ⟨g, 0, rfl, ⟨fun i hi => ?_⟩⟩⟩
  obtain ⟨s, A, n, c, e0, e1, e2⟩ := h2.get i hi
  have hc : ∀ j u, cs[j]? = some u -> w.cell? ⟨g, j, Option.none⟩ = some u := fun j u hj => by
   rw [cell_of_row w g _ _ _ _ hg];rw [<- htk] at hj;have := List.mem_of_getElem? hj;rw [List.getElem?_take] at hj
   split at hj
   ·simpa using hj
   ·cases hj
  exact ⟨s, A, n, c, by rw [Nat.zero_add]; exact hc _ _ e0, by rw [Nat.zero_add]; exact hc _ _ e1, e2⟩
theorem Row2.leT (h : Row2 w base v zs L) {M : Nat} (hl : L <= M) : Row2 w base v zs M := by
 obtain ⟨cs, h1, h2⟩ := h.own;exact ⟨⟨cs, h1, h2.le hl⟩, h.nwb⟩
theorem run_append_rowI {ty : TypeId} (h : Row2 w base v zs L) (hp : IPol w A n c ys L) (h0 : 0 < n) (hl : zs.length <= 1000) (hn : n <= 1000) (hbase : base <= w.heap.size) :
  ∃ v' w', (Builtin.append_ #[70, 70] ty #[v, .slice A n c]).run Tryz.prog w = .ok v' w' /\ Row2 w' base v' (zs ++ ys) L /\ w.grownBy w' v.ownBlock /\ (v'.ownBlock = v.ownBlock \/ v'.ownBlock = some w.heap.size) := by
 obtain ⟨i0, hi, hz0, hz1, hz2⟩ := info_partsB Tryz.infoInt;obtain ⟨cs, h1, h2⟩ := h.own;have hne : ys ≠ [] := fun e => by have := hp.len; rw [e] at this; simp at this; omega
 obtain ⟨b, off, rfl, hrat⟩ := hp.at_ hne;obtain ⟨ds, k1, k2'⟩ := IntsAt.list w b L ys off hrat;have k2 : ∀ j u, ds[j]? = some u -> w.cell? ((⟨b, off, Option.none⟩ : Addr).add j) = some u := fun j u hj => by rw [addr_addI]; exact k2' j u hj
 have hdl : ds.length = n * 2 := by rw [k1.len, hp.len]
 rw [<- hz1] at h1
 obtain ⟨v', w', hr, j1, j2, j3, j4⟩ := run_append_nw (P := Tryz.prog) (ty := ty) (c := c) Tryz.underlying70 hi hz0 hz2 (by rw [hz1]; rfl) (by omega) (by
  intro u hu k e;simp [Value.cells] at hu
  rcases hu with rfl | rfl <;> cases e) h1 h.nwb (m := n) (by rw [hz1]; exact hdl) (fun j u hj => k2 j u hj) k1.one k1.nwl h0 (by unfold maxLen; omega) (by omega) hbase
 rw [hz1] at j1;refine ⟨v', w', hr, ⟨⟨cs ++ ds, ?_, (h2.own h.nwb j2).append (k1.own h.nwb j2)⟩, j4⟩, j2, j3⟩;rw [List.length_append, hp.len];exact j1
theorem run_append_rowI0 {ty : TypeId} (h : Row2 w base v zs L) :
  (Builtin.append_ #[70, 70] ty #[v, .slice A 0 c]).run Tryz.prog w = .ok v w := by
 have hq := Tryz.infoInt
 cases hi : Tryz.prog.info? 28 with
 | none => rw [hi] at hq; cases hq
 | some i =>
 rw [hi] at hq;simp only [Option.map_some, Option.some.injEq, Prod.mk.injEq] at hq;obtain ⟨cs, h1, h2⟩ := h.own
 rcases h1.2 with ⟨rfl, h0⟩ | ⟨g, cap, cur, rfl, hbg, hg, hnc, hcm, hcs, htake⟩
 ·cases A with
  | none => simp [Builtin.append_, run_underlying Tryz.underlying70, sizeOf, typeInfo, hi, Builtin.lenOf, Builtin.firstCells]
  | some ad => simp [Builtin.append_, run_underlying Tryz.underlying70, sizeOf, typeInfo, hi, Builtin.lenOf, Builtin.firstCells, loadCells, loadCellsFrom]
 ·cases A with
  | none => simp [Builtin.append_, run_underlying Tryz.underlying70, sizeOf, typeInfo, hi, Builtin.lenOf, Builtin.firstCells, storeCells, hnc]
  | some ad => simp [Builtin.append_, run_underlying Tryz.underlying70, sizeOf, typeInfo, hi, Builtin.lenOf, Builtin.firstCells, loadCells, loadCellsFrom, storeCells, hnc]
theorem run_append_rowF {ty : TypeId} {g n m c : Nat} (h : IRow w g zs L) (hn : zs.length = n) (hp : IPol w A m c ys L) (h0 : 0 < m) (hn1 : n <= 1000) (hm1 : m <= 1000) :
  ∃ v' w', (Builtin.append_ #[70, 70] ty #[.slice (some ⟨g, 0, Option.none⟩) n n, .slice A m c]).run Tryz.prog w = .ok v' w' /\ Row2 w' w.heap.size v' (zs ++ ys) L /\ Ext w w' := by
 have hrow : Row2 w g (.slice (some ⟨g, 0, Option.none⟩) n n) zs L := h.row2 (Nat.le_refl _) hn (by omega);obtain ⟨v', w', hr, h2, h3, h4⟩ := run_append_rowI (ty := ty) hrow hp h0 (by omega) hm1 (Nat.le_of_lt h.lt);obtain ⟨i0, hi, hz0, hz1, hz2⟩ := info_partsB Tryz.infoInt;obtain ⟨cs, b1, b2⟩ := h;have hne : ys ≠ [] := fun e => by have := hp.len; rw [e] at this; simp at this; omega
 obtain ⟨b, off, rfl, hrat⟩ := hp.at_ hne;obtain ⟨ds, k1, k2'⟩ := IntsAt.list w b L ys off hrat;have k2 : ∀ j u, ds[j]? = some u -> w.cell? ((⟨b, off, Option.none⟩ : Addr).add j) = some u := fun j u hj => by rw [addr_addI]; exact k2' j u hj
 have hdl : ds.length = m * 2 := by rw [k1.len, hp.len]
 have hcl : cs.length = n * 2 := by rw [b2.len, hn]
 have hr2 := run_append_grow (P := Tryz.prog) w 70 ty 28 i0 _ Tryz.underlying70 hi hz0 ⟨g, 0, Option.none⟩ n n cs (by rw [hz1]; exact hcl) (fun j u hj => by rw [addr_addI, Nat.zero_add]; exact b1.cell j u (by simpa using hj)) ⟨b, off, Option.none⟩ m c ds (by rw [hz1]; exact hdl) (fun j u hj => k2 j u hj) (by omega) (by omega) (by rw [hz2]; exact growslice_fits (by omega) (by omega));rw [hr] at hr2
 injection hr2 with e1 e2
 subst e1 e2;obtain ⟨cs2, q1, q2⟩ := h2.own;refine ⟨_, _, hr, ⟨⟨cs2, ⟨q1.1, ?_⟩, q2⟩, h2.nwb⟩, ((Ext.refl w).drew).alloc _⟩
 rcases q1.2 with q3 | ⟨g', cap', cur', q4, q5, q6⟩
 ·exact Or.inl q3
 ·refine Or.inr ⟨g', cap', cur', q4, ?_, q6⟩
  injection q4 with q4
  injection q4 with q4
  injection q4 with q4
  rw [<- q4];exact Nat.le_refl _
theorem step_append_rowF {ops : Array Oper} {o : Oper} {a : Act} {K : Act -> World -> Prop} {Q : Exit -> Act -> World -> Prop} {E : Prop} {g n m c : Nat} (hgd : o.guard = Option.none) (x y : Operand)
  (ho : o.op = .call { callee := .builtin .append, args := #[x, y], argTypes := #[70, 70] })
  (hx : a.eval x = .slice (some ⟨g, 0, Option.none⟩) n n) (hy : a.eval y = .slice A m c)
  (h : IRow w g zs L) (hn : zs.length = n) (hp : IPol w A m c ys L) (h0 : 0 < m) (hn1 : n <= 1000) (hm1 : m <= 1000)
  (hK : ∀ v' w', Row2 w' w.heap.size v' (zs ++ ys) L -> Ext w w' -> K (a.put o.dst v') w') :
  if Region.wanted o (yielded ops a.tmps) = true then Oper.wp Tryz.prog o a w K Q else E := by
 have hw : Region.wanted o (yielded ops a.tmps) = true := by simp [Region.wanted, hgd]
 rw [if_pos hw];obtain ⟨v', w', hr, h2, h3⟩ := run_append_rowF (ty := o.type) h hn hp h0 hn1 hm1;unfold Oper.wp execOp;simp only [ho, resolve, invoke, builtin, Sem.run_bind, Sem.run_pure, Result.andThen_ok, List.map_toArray, List.map_cons, List.map_nil, hx, hy, hr];exact hK v' w' h2 h3
end
end
end Go.Proofs.YtgagcochepnelaaGreatDoor
