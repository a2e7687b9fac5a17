/- Walks and laws, a part. -/
import Derived.Test.YtgagcochepnelaaGreatDoorP0
import Derived.Test.YtgagcochepnelaaGreatDoorP1
import Derived.Lib.SliceRun
import Derived.ArgAppend
import Derived.Laws.BitsAllLaws
set_option linter.unusedSimpArgs false
set_option linter.unusedVariables false
set_option maxHeartbeats 64000000
namespace Go.Proofs.YtgagcochepnelaaGreatDoor
section
open Go.RowKit
attribute [local go_sem ↓] Go.wp_at_zero Go.wp_at_succ
def Steps4 (A0 B0 : Nat) (x1 y1 x2 y2 : Int) : Prop :=
 y1 = 0 \/ (y1 ≠ 0 /\ ∃ e p a u0 u1 v0 v1, SRes A0 B0 e p a u0 u1 v0 v1 /\ 1 <= v0 /\ x1 = (if e then (u0 : Int) else -(u0 : Int)) /\ y1 = (if e then -(v0 : Int) else (v0 : Int)) /\ x2 = (if e then -(u1 : Int) else (u1 : Int)) /\ y2 = (if e then (v1 : Int) else -(v1 : Int)))
section
variable {w : World}
theorem put4 {w : World} {g : Nat} {t : TypeId} {a b c d : Value} (hb : Box w g t #[a, b, c, d]) (p q r s : Value) : Box ((((w.setCell ⟨g, 0, none⟩ p).setCell ⟨g, 1, none⟩ q).setCell ⟨g, 2, none⟩ r).setCell ⟨g, 3, none⟩ s) g t #[p, q, r, s] /\
  ∀ W0, Ext W0 w -> W0.heap.size <= g -> Ext W0 ((((w.setCell ⟨g, 0, none⟩ p).setCell ⟨g, 1, none⟩ q).setCell ⟨g, 2, none⟩ r).setCell ⟨g, 3, none⟩ s) := by
 refine ⟨?_, fun _ e hg => (((e.setCell hg _).setCell hg _).setCell hg _).setCell hg _⟩;have h1 := (((hb.set 0 p).set 1 q).set 2 r).set 3 s;exact h1
theorem steps_t {A0 B0 a u0 u1 v0 v1 : Nat} (h : v0 = 0 \/ ∃ p, SRes A0 B0 true p a u0 u1 v0 v1) : Steps4 A0 B0 (u0 : Int) (-(v0 : Int)) (-(u1 : Int)) (v1 : Int) := by
 by_cases h0 : v0 = 0
 ·left; omega
 ·rcases h with h | ⟨p, h⟩
  ·exact absurd h h0
  ·exact .inr ⟨by omega, true, p, a, u0, u1, v0, v1, h, by omega, rfl, rfl, rfl, rfl⟩
theorem steps_f {A0 B0 a u0 u1 v0 v1 : Nat} (h : v0 = 0 \/ ∃ p, SRes A0 B0 false p a u0 u1 v0 v1) : Steps4 A0 B0 (-(u0 : Int)) (v0 : Int) (u1 : Int) (-(v1 : Int)) := by
 by_cases h0 : v0 = 0
 ·left; omega
 ·rcases h with h | ⟨p, h⟩
  ·exact absurd h h0
  ·exact .inr ⟨by omega, false, p, a, u0, u1, v0, v1, h, by omega, rfl, rfl, rfl, rfl⟩
set_option maxRecDepth 100000 in
theorem int_simulate {A0 B0 : Nat} (hle : B0 <= A0) (hA : A0 < 4611686018427387904) :
  Calls Tryz.prog 166 #[.int .u64 (A0 : Int), .int .u64 (B0 : Int)] w fun e w' => ∃ x1 y1 x2 y2 : Int, e = .returned (.agg #[.int .i64 x1, .int .i64 y1, .int .i64 x2, .int .i64 y2]) /\ Steps4 A0 B0 x1 y1 x2 y2 /\ Ext w w' := by
 go_enter Tryz.func166, Tryz.ntmps166
 go_upto_region 1 with (fail)
 obtain ⟨W, hW, extW, bz, hz⟩ := box1 w 148 #[.int .i64 0, .int .i64 0, .int .i64 0, .int .i64 0];rw [<- hW];clear hW
 go_wp2
 go_loopw [0, 1, 5, 6, 7, 8, 9, 10, 11] (fun sa sb s0 s1 s2 t0 t1 t2 se wr => ∃ (e : Bool) (a b u0 u1 u2 v0 v1 v2 : Nat), sa = .int .u64 (a : Int) /\ sb = .int .u64 (b : Int) /\ s0 = .int .u64 (u0 : Int) /\ s1 = .int .u64 (u1 : Int) /\ s2 = .int .u64 (u2 : Int) /\ t0 = .int .u64 (v0 : Int) /\ t1 = .int .u64 (v1 : Int) /\ t2 = .int .u64 (v2 : Int) /\ se = .bool e /\ SInv A0 B0 e a b u1 u2 v1 v2 /\ (v0 = 0 \/ ∃ p, SRes A0 B0 e p a u0 u1 v0 v1) /\ a <= A0 /\ u0 <= A0 + 1 /\ v0 <= A0 + 1 /\ u1 <= A0 + 1 /\ v1 <= A0 + 1 /\ u2 <= A0 + 1 /\ v2 <= A0 + 1 /\ Ext W wr) (fun _ sb _ _ _ _ _ _ _ _ => (intOf sb).toNat)
 case atStart => exact ⟨false, A0, B0, 0, 1, 0, 0, 0, 1, rfl, rfl, rfl, rfl, rfl, rfl, rfl, rfl, rfl, SInv.start hle, .inl rfl, Nat.le_refl _, by omega, by omega, by omega, by omega, by omega, by omega, Ext.refl _⟩
 case round =>
  obtain ⟨e, a, b, u0, u1, u2, v0, v1, v2, rfl, rfl, rfl, rfl, rfl, rfl, rfl, rfl, rfl, hinv, hres, ha, b0, c0, b1, c1, b2, c2, hext⟩ := hrel;have hba := hinv.le;have HI := Lib.hid hinv;have HR := Lib.hid hres;clear hinv hres
  by_cases k1 : v2 <= b
  ·by_cases k2 : b + v1 + v2 <= a
   ·obtain ⟨hs1, hs2, hs3⟩ := HI.out.step k1 k2
    have hb0 : 0 < b := by have := HI.out.pos; omega
    have hl2 := hs1.l2;have hqu : a / b * u2 <= a / b * v2 := Nat.mul_le_mul_left _ HI.out.l2;have hr := Nat.mod_lt a hb0;have hqa := Nat.div_le_self a b;have hdq : (a : Int) / (b : Int) = ((a / b : Nat) : Int) := by omega
    have hdr : (a : Int) % (b : Int) = ((a % b : Nat) : Int) := by omega
    generalize a / b = q at *;generalize a % b = r at *
    have g1 : (q : Int) * (u2 : Int) ≤ 4611686018427387904 := by have : ((q * u2 : Nat) : Int) ≤ 4611686018427387904 := by omega
                                                                 rwa [Int.natCast_mul] at this
    have g2 : (q : Int) * (v2 : Int) ≤ 4611686018427387904 := by have : ((q * v2 : Nat) : Int) ≤ 4611686018427387904 := by omega
                                                                 rwa [Int.natCast_mul] at this
    have g3 : 0 <= (q : Int) * (u2 : Int) := Int.mul_nonneg (Int.natCast_nonneg _) (Int.natCast_nonneg _);have g4 : 0 <= (q : Int) * (v2 : Int) := Int.mul_nonneg (Int.natCast_nonneg _) (Int.natCast_nonneg _);have t1 : decide ((v2 : Int) <= (b : Int)) = true := decide_eq_true (by omega);have t2 : decide ((v1 : Int) + (v2 : Int) <= (a : Int) - (b : Int)) = true := decide_eq_true (by omega);have HQ := Lib.hid hdq;have HM := Lib.hid hdr;have H1 := Lib.hid hs1;have H2 := Lib.hid hs2;clear hdq hdr hs1 hs2 hqu
    go_upto_region 6 with (fail)
    rw [HQ.out]
    go_quiet (fail)
    rw [HM.out]
    go_wp2_with fail
    go_roundw
    case rel => exact ⟨!e, b, r, u1, u2, u1 + q * u2, v1, v2, v1 + q * v2, rfl, rfl, rfl, rfl, congrArg (Value.int .u64) (by rw [Int.natCast_add, Int.natCast_mul]), rfl, rfl, congrArg (Value.int .u64) (by rw [Int.natCast_add, Int.natCast_mul]), rfl, H1.out, .inr ⟨a, H2.out⟩, by omega, by omega, by omega, by omega, by omega, by omega, by omega, hext.drewN _⟩
    case measure => simp [intOf]; omega
   ·have t1 : decide ((v2 : Int) <= (b : Int)) = true := decide_eq_true (by omega)
    have t2 : decide ((v1 : Int) + (v2 : Int) <= (a : Int) - (b : Int)) = false := decide_eq_false (by omega)
    go_upto_region 10 with (fail)
    have bzr := bz.ext hext;have hsz := hext.size
    cases e with
    | true =>
     go_upto_region 13 with (fail)
     refine at_world (fun X => Ext W X /\ Box X wr.heap.size 148 #[.int .i64 (u0 : Int), .int .i64 (-(v0 : Int)), .int .i64 (-(u1 : Int)), .int .i64 (v1 : Int)] /\ Box X w.heap.size 148 #[.int .i64 0, .int .i64 0, .int .i64 0, .int .i64 0]) ⟨hext.alloc _, Box.new wr _ _, bzr.ext ((Ext.refl wr).alloc _)⟩ ?_;generalize wr.heap.size = g13;rintro X ⟨EX, bs, bzx⟩;have y0 := bs.cell 0 _ rfl;have y1 := bs.cell 1 _ rfl;have y2 := bs.cell 2 _ rfl;have y3 := bs.cell 3 _ rfl;have z0 := bzx.cell 0 _ rfl;have z1 := bzx.cell 1 _ rfl;have z2 := bzx.cell 2 _ rfl;have z3 := bzx.cell 3 _ rfl;have f0 := bzx.frozen 0;have f1 := bzx.frozen 1;have f2 := bzx.frozen 2;have f3 := bzx.frozen 3
     go_wp2_with fail
     have hp := put4 bzx (.int .i64 (u0 : Int)) (.int .i64 (-(v0 : Int))) (.int .i64 (-(u1 : Int))) (.int .i64 (v1 : Int));have r0 := hp.1.cell 0 _ rfl;have r1 := hp.1.cell 1 _ rfl;have r2 := hp.1.cell 2 _ rfl;have r3 := hp.1.cell 3 _ rfl;exact bodyPost_ret (v := .agg #[.int .i64 (u0 : Int), .int .i64 (-(v0 : Int)), .int .i64 (-(u1 : Int)), .int .i64 (v1 : Int)]) (by simp [results, Tryz.results166, go_sem, r0, r1, r2, r3]) rfl ⟨_, _, _, _, rfl, steps_t HR.out, hp.2 _ (extW.trans EX) (Nat.le_refl _)⟩
    | false =>
     go_upto_region 13 with (fail)
     refine at_world (fun X => Ext W X /\ Box X wr.heap.size 148 #[.int .i64 (-(u0 : Int)), .int .i64 (v0 : Int), .int .i64 (u1 : Int), .int .i64 (-(v1 : Int))] /\ Box X w.heap.size 148 #[.int .i64 0, .int .i64 0, .int .i64 0, .int .i64 0]) ⟨hext.alloc _, Box.new wr _ _, bzr.ext ((Ext.refl wr).alloc _)⟩ ?_;generalize wr.heap.size = g13;rintro X ⟨EX, bs, bzx⟩;have y0 := bs.cell 0 _ rfl;have y1 := bs.cell 1 _ rfl;have y2 := bs.cell 2 _ rfl;have y3 := bs.cell 3 _ rfl;have z0 := bzx.cell 0 _ rfl;have z1 := bzx.cell 1 _ rfl;have z2 := bzx.cell 2 _ rfl;have z3 := bzx.cell 3 _ rfl;have f0 := bzx.frozen 0;have f1 := bzx.frozen 1;have f2 := bzx.frozen 2;have f3 := bzx.frozen 3
     go_wp2_with fail
     have hp := put4 bzx (.int .i64 (-(u0 : Int))) (.int .i64 (v0 : Int)) (.int .i64 (u1 : Int)) (.int .i64 (-(v1 : Int)));have r0 := hp.1.cell 0 _ rfl;have r1 := hp.1.cell 1 _ rfl;have r2 := hp.1.cell 2 _ rfl;have r3 := hp.1.cell 3 _ rfl;exact bodyPost_ret (v := .agg #[.int .i64 (-(u0 : Int)), .int .i64 (v0 : Int), .int .i64 (u1 : Int), .int .i64 (-(v1 : Int))]) (by simp [results, Tryz.results166, go_sem, r0, r1, r2, r3]) rfl ⟨_, _, _, _, rfl, steps_f HR.out, hp.2 _ (extW.trans EX) (Nat.le_refl _)⟩
  ·have t1 : decide ((v2 : Int) <= (b : Int)) = false := decide_eq_false (by omega)
   go_upto_region 10 with (fail)
   have bzr := bz.ext hext;have hsz := hext.size
   cases e with
   | true =>
    go_upto_region 13 with (fail)
    refine at_world (fun X => Ext W X /\ Box X wr.heap.size 148 #[.int .i64 (u0 : Int), .int .i64 (-(v0 : Int)), .int .i64 (-(u1 : Int)), .int .i64 (v1 : Int)] /\ Box X w.heap.size 148 #[.int .i64 0, .int .i64 0, .int .i64 0, .int .i64 0]) ⟨hext.alloc _, Box.new wr _ _, bzr.ext ((Ext.refl wr).alloc _)⟩ ?_;generalize wr.heap.size = g13;rintro X ⟨EX, bs, bzx⟩;have y0 := bs.cell 0 _ rfl;have y1 := bs.cell 1 _ rfl;have y2 := bs.cell 2 _ rfl;have y3 := bs.cell 3 _ rfl;have z0 := bzx.cell 0 _ rfl;have z1 := bzx.cell 1 _ rfl;have z2 := bzx.cell 2 _ rfl;have z3 := bzx.cell 3 _ rfl;have f0 := bzx.frozen 0;have f1 := bzx.frozen 1;have f2 := bzx.frozen 2;have f3 := bzx.frozen 3
    go_wp2_with fail
    have hp := put4 bzx (.int .i64 (u0 : Int)) (.int .i64 (-(v0 : Int))) (.int .i64 (-(u1 : Int))) (.int .i64 (v1 : Int));have r0 := hp.1.cell 0 _ rfl;have r1 := hp.1.cell 1 _ rfl;have r2 := hp.1.cell 2 _ rfl;have r3 := hp.1.cell 3 _ rfl;exact bodyPost_ret (v := .agg #[.int .i64 (u0 : Int), .int .i64 (-(v0 : Int)), .int .i64 (-(u1 : Int)), .int .i64 (v1 : Int)]) (by simp [results, Tryz.results166, go_sem, r0, r1, r2, r3]) rfl ⟨_, _, _, _, rfl, steps_t HR.out, hp.2 _ (extW.trans EX) (Nat.le_refl _)⟩
   | false =>
    go_upto_region 13 with (fail)
    refine at_world (fun X => Ext W X /\ Box X wr.heap.size 148 #[.int .i64 (-(u0 : Int)), .int .i64 (v0 : Int), .int .i64 (u1 : Int), .int .i64 (-(v1 : Int))] /\ Box X w.heap.size 148 #[.int .i64 0, .int .i64 0, .int .i64 0, .int .i64 0]) ⟨hext.alloc _, Box.new wr _ _, bzr.ext ((Ext.refl wr).alloc _)⟩ ?_;generalize wr.heap.size = g13;rintro X ⟨EX, bs, bzx⟩;have y0 := bs.cell 0 _ rfl;have y1 := bs.cell 1 _ rfl;have y2 := bs.cell 2 _ rfl;have y3 := bs.cell 3 _ rfl;have z0 := bzx.cell 0 _ rfl;have z1 := bzx.cell 1 _ rfl;have z2 := bzx.cell 2 _ rfl;have z3 := bzx.cell 3 _ rfl;have f0 := bzx.frozen 0;have f1 := bzx.frozen 1;have f2 := bzx.frozen 2;have f3 := bzx.frozen 3
    go_wp2_with fail
    have hp := put4 bzx (.int .i64 (-(u0 : Int))) (.int .i64 (v0 : Int)) (.int .i64 (u1 : Int)) (.int .i64 (-(v1 : Int)));have r0 := hp.1.cell 0 _ rfl;have r1 := hp.1.cell 1 _ rfl;have r2 := hp.1.cell 2 _ rfl;have r3 := hp.1.cell 3 _ rfl;exact bodyPost_ret (v := .agg #[.int .i64 (-(u0 : Int)), .int .i64 (v0 : Int), .int .i64 (u1 : Int), .int .i64 (-(v1 : Int))]) (by simp [results, Tryz.results166, go_sem, r0, r1, r2, r3]) rfl ⟨_, _, _, _, rfl, steps_f HR.out, hp.2 _ (extW.trans EX) (Nat.le_refl _)⟩
end
end
section
open Go.RowKit
theorem Steps4.use {x y k : Nat} {x1 y1 x2 y2 : Int} (h : Steps4 (x / 2 ^ k) (y / 2 ^ k) x1 y1 x2 y2) (h0 : y1 ≠ 0) (hA : x / 2 ^ k < 4611686018427387904) :
  ∃ R S : Nat, x1 * (x : Int) + y1 * (y : Int) = (R : Int) /\ x2 * (x : Int) + y2 * (y : Int) = (S : Int) /\ S < R /\ R + S <= x /\ Nat.gcd R S = Nat.gcd x y /\
   ((x1 <= 0 /\ 0 <= y1) \/ (0 <= x1 /\ y1 <= 0)) /\ ((x2 <= 0 /\ 0 <= y2) \/ (0 <= x2 /\ y2 <= 0)) /\
   (-2147483647 <= x1 /\ x1 <= 2147483647 /\ -2147483647 <= y1 /\ y1 <= 2147483647) /\ (-2147483647 <= x2 /\ x2 <= 2147483647 /\ -2147483647 <= y2 /\ y2 <= 2147483647) := by
 rcases h with h | ⟨_, e, p, a, u0, u1, v0, v1, hs, hv0, rfl, rfl, rfl, rfl⟩
 ·exact absurd h h0
 have hp : 0 < 2 ^ k := Nat.pow_pos (by omega);obtain ⟨R, S, hr, hlt⟩ := hs.real (Nat.mod_lt x hp) (Nat.mod_lt y hp);rw [Nat.div_add_mod, Nat.div_add_mod] at hr;have hg := hs.gcd hr;obtain ⟨bx, _⟩ := hs.back hr;obtain ⟨f1, f2, f3, f4⟩ := hs.factors hA;have pos := hs.pos;have g1 : 1 * R <= v1 * R := Nat.mul_le_mul_right _ pos;have g2 : 1 * S <= v0 * S := Nat.mul_le_mul_right _ hv0;refine ⟨R, S, ?_, ?_, hlt, by omega, hg, ?_, ?_, ?_, ?_⟩
 all_goals cases e
 ·simp at hr ⊢
  have := congrArg (Nat.cast (R := Int)) hr.1;rw [Int.natCast_add, Int.natCast_mul, Int.natCast_mul] at this;rw [Int.neg_mul];omega
 ·simp at hr ⊢
  have := congrArg (Nat.cast (R := Int)) hr.1;rw [Int.natCast_add, Int.natCast_mul, Int.natCast_mul] at this;rw [Int.neg_mul];omega
 ·simp at hr ⊢
  have := congrArg (Nat.cast (R := Int)) hr.2;rw [Int.natCast_add, Int.natCast_mul, Int.natCast_mul] at this;rw [Int.neg_mul];omega
 ·simp at hr ⊢
  have := congrArg (Nat.cast (R := Int)) hr.2;rw [Int.natCast_add, Int.natCast_mul, Int.natCast_mul] at this;rw [Int.neg_mul];omega
 all_goals simp
 all_goals omega
section
variable {w w' : World} {g : Nat} {ns ms : List Nat}
theorem set_mid (ns : List Nat) (o x : Nat) (ms : List Nat) (h : o + (ms.length + 1) <= ns.length) : (ns.set o x).take (o + 1) ++ ms ++ (ns.set o x).drop (o + 1 + ms.length) = ns.take o ++ x :: ms ++ ns.drop (o + (ms.length + 1)) := by
 have h1 : (ns.set o x).take (o + 1) = ns.take o ++ [x] := by
  rw [List.take_succ_eq_append_getElem (by rw [List.length_set]; omega), List.getElem_set_self, List.take_set, List.set_eq_of_length_le (by rw [List.length_take]; omega)]
 have h2 : (ns.set o x).drop (o + 1 + ms.length) = ns.drop (o + (ms.length + 1)) := by
  rw [List.drop_set_of_lt (by omega), show o + 1 + ms.length = o + (ms.length + 1) by omega]
 rw [h1, h2];simp
theorem BlkN.setCells : ∀ (ms : List Nat) (o : Nat) (w : World) (ns : List Nat), BlkN w g ns -> o + ms.length <= ns.length -> BlkN (w.setCells g o (ms.map Wd)) g (ns.take o ++ ms ++ ns.drop (o + ms.length))
 | [], o, w, ns, h, hl => by simpa [World.setCells] using h
 | x :: ms, o, w, ns, h, hl => by
  have h1 := h.set o (v := (x : Int)) (n := x) rfl;have h2 := BlkN.setCells ms (o + 1) _ _ h1 (by rw [List.length_set]; simp at hl; omega);rw [set_mid ns o x ms (by simpa using hl)] at h2;exact h2
theorem Mod.setCells {a : World} : ∀ (vs : List Value) (o : Nat) (w : World), Mod a w g -> Mod a (w.setCells g o vs) g
 | [], _, _, h => h
 | v :: vs, o, _, h => Mod.setCells vs (o + 1) _ (h.setCell o v)
theorem BlkN.there (h : BlkN w g ns) {off n : Nat} (hl : off + n <= ns.length) : ∀ j, j < n -> (w.cell? ⟨g, off + j, none⟩).isSome = true := fun j hj => by
 rw [h.cell (show off + j < ns.length by omega)]; rfl
end
theorem run_append_fill {w : World} (t ty : TypeId) (ht : Tryz.prog.underlying t = some (.slice 89))
  {g m c cz : Nat} {ns xs : List Nat} {A : Option Addr} (hb : BlkN w g ns) (hm : xs.length = m) (hr : Rd w A xs) (hl : m <= ns.length) (hcz : m <= cz) :
  ∃ w', (Builtin.append_ #[t, t] ty #[.slice (some ⟨g, 0, none⟩) 0 cz, .slice A m c]).run Tryz.prog w = .ok (.slice (some ⟨g, 0, none⟩) m cz) w' /\ BlkN w' g (xs ++ ns.drop m) /\ Mod w w' g := by
 subst hm;obtain ⟨i0, hi, hz0, hz1, hz2⟩ := info_parts Tryz.infoW;refine ⟨w.setCells g 0 (xs.map Wd), ?_, ?_, Mod.setCells _ _ _ (Mod.refl w g)⟩
 ·by_cases h0 : xs = []
  ·subst h0
   cases A with
   | none => simp [Builtin.append_, run_underlying ht, sizeOf, typeInfo, hi, Builtin.lenOf, Builtin.firstCells, storeCells, World.setCells]
   | some ad => simp [Builtin.append_, run_underlying ht, sizeOf, typeInfo, hi, Builtin.lenOf, Builtin.firstCells, loadCells, loadCellsFrom, storeCells, World.setCells]
  ·obtain ⟨b, off, rfl, _, _⟩ := hr.2 h0
   have := run_append_room_cells (P := Tryz.prog) w t ty 89 i0 ht hi g 0 0 cz ⟨b, off, none⟩ xs.length c (xs.map Wd) (by rw [hz1]; simp) (cells_of_rd hr) (oneCell_words xs) (by omega)
    (by simpa using hb.there (off := 0) (n := xs.length) (by omega)) (fun j _ => hb.frozen _)
   simpa using this
 ·have := BlkN.setCells xs 0 w ns hb (by omega)
  simpa using this
theorem wpList_append_fill {w : World} {ops : Array Oper} {rest : List Oper} {o : Oper} {a : Act} {Q : Exit -> Act -> World -> Prop} (hgd : o.guard = none) (s x : Operand) (t : TypeId)
  (ho : o.op = .call { callee := .builtin .append, args := #[s, x], argTypes := #[t, t] }) (ht : Tryz.prog.underlying t = some (.slice 89))
  {g m c cz : Nat} {ns xs : List Nat} {A : Option Addr} (hs : a.eval s = .slice (some ⟨g, 0, none⟩) 0 cz) (hb : BlkN w g ns) (hx : a.eval x = .slice A m c) (hm : xs.length = m) (hr : Rd w A xs) (hl : m <= ns.length) (hcz : m <= cz)
  (h : ∀ w', BlkN w' g (xs ++ ns.drop m) -> Mod w w' g -> wpList Tryz.prog ops Q rest (a.put o.dst (.slice (some ⟨g, 0, none⟩) m cz)) w') : wpList Tryz.prog ops Q (o :: rest) a w := by
 refine wpList_plain hgd fun K hK => ?_
 obtain ⟨w', hrun, h1, h2⟩ := run_append_fill (c := c) (cz := cz) t o.type ht hb hm hr hl hcz;unfold Oper.wp execOp;simp only [ho, resolve, invoke, builtin, Sem.run_bind, Sem.run_pure, Result.andThen_ok, List.map_toArray, List.map_cons, List.map_nil, hs, hx, hrun];exact hK _ _ (h w' h1 h2)
theorem step_append_fill {w : World} {ops : Array Oper} {o : Oper} {a : Act} {K : Act -> World -> Prop} {Q : Exit -> Act -> World -> Prop} {E : Prop} (hgd : o.guard = none) (s x : Operand) (t : TypeId)
  (ho : o.op = .call { callee := .builtin .append, args := #[s, x], argTypes := #[t, t] }) (ht : Tryz.prog.underlying t = some (.slice 89))
  {g m c cz : Nat} {ns xs : List Nat} {A : Option Addr} (hs : a.eval s = .slice (some ⟨g, 0, none⟩) 0 cz) (hb : BlkN w g ns) (hx : a.eval x = .slice A m c) (hm : xs.length = m) (hr : Rd w A xs) (hl : m <= ns.length) (hcz : m <= cz)
  (h : ∀ w', BlkN w' g (xs ++ ns.drop m) -> Mod w w' g -> K (a.put o.dst (.slice (some ⟨g, 0, none⟩) m cz)) w') : if Region.wanted o (yielded ops a.tmps) = true then Oper.wp Tryz.prog o a w K Q else E := by
 have hw : Region.wanted o (yielded ops a.tmps) = true := by simp [Region.wanted, hgd]
 rw [if_pos hw];obtain ⟨w', hrun, h1, h2⟩ := run_append_fill (c := c) (cz := cz) t o.type ht hb hm hr hl hcz;unfold Oper.wp execOp;simp only [ho, resolve, invoke, builtin, Sem.run_bind, Sem.run_pure, Result.andThen_ok, List.map_toArray, List.map_cons, List.map_nil, hs, hx, hrun];exact h w' h1 h2
theorem run_clear_words {w : World} (t ty : TypeId) (ht : Tryz.prog.underlying t = some (.slice 89)) {g n q : Nat} {ns : List Nat} (hb : BlkN w g ns) (hq : q + n = ns.length) :
  ∃ w', BlkN w' g (ns.take q ++ List.replicate n 0) /\ Mod w w' g /\ ∀ off c, off = q \/ n = 0 -> (Builtin.clear_ #[t] ty #[.slice (some ⟨g, off, none⟩) n c]).run Tryz.prog w = .ok (.tuple #[]) w' := by
 obtain ⟨i0, hi, hz0, hz1, hz2⟩ := info_parts Tryz.infoW;have hv : ∀ w, (zeroValue 89).run Tryz.prog w = .ok (.int .u32 0) w := fun w => by simp [zeroValue, typeInfo, hi, hz0]
 refine ⟨w.setCells g q ((List.replicate n 0).map Wd), ?_, Mod.setCells _ _ _ (Mod.refl w g), fun off c hoff => ?_⟩
 ·have := BlkN.setCells (List.replicate n 0) q w ns hb (by simp; omega)
  simpa [hq] using this
 ·by_cases h0 : n = 0
  ·subst h0
   simp [Builtin.clear_, run_underlying ht, World.setCells]
  ·have hoq : off = q := by omega
   subst hoq;have := Lib.run_clear_slice (P := Tryz.prog) w t 89 ty (.int .u32 0) ht hv rfl rfl g off n c (by omega) (hb.there (by omega)) (fun j _ => hb.frozen _);rw [this, List.map_replicate]
   rfl
section
variable {w : World}
theorem int_none {x1 y1 x2 y2 : Int} : Calls Tryz.prog 168 #[.agg #[.int .i64 x1, .int .i64 y1, .int .i64 x2, .int .i64 y2]] w fun e w' => e = .returned (.bool (y1 == 0)) /\ Ext w w' := by
 go_enter Tryz.func168, Tryz.ntmps168
 go_upto_region 1 with (fail)
 obtain ⟨W, hW, extW, bz, hz⟩ := box1 w 148 #[.int .i64 x1, .int .i64 y1, .int .i64 x2, .int .i64 y2];rw [<- hW];clear hW;have c1 := bz.cell 1;simp at c1
 go_wp2
 exact bodyPost_ret (v := .bool (y1 == 0)) (by simp [results, Tryz.results168, go_sem]) rfl ⟨rfl, extW⟩
end
end
section
theorem pow32 (b : Nat) (h : b <= 32) : 2 ^ b * 2 ^ (32 - b) = 4294967296 := by
 rw [<- Nat.pow_add, show b + (32 - b) = 32 by omega]
theorem or_parts {x y j : Nat} (h : x < 2 ^ j) : x ||| (2 ^ j * y) = x + 2 ^ j * y := by
 rw [Nat.or_comm, <- Nat.two_pow_add_eq_or_of_lt h, Nat.add_comm]
def shrL (b : Nat) : List Nat -> List Nat
 | [] => []
 | x :: xs => ((x + 4294967296 * xs.headD 0) / 2 ^ b % 4294967296) :: shrL b xs
theorem shrL_len (b : Nat) (xs : List Nat) : (shrL b xs).length = xs.length := by
 induction xs with
 | nil => rfl
 | cons x xs ih => simp [shrL, ih]
theorem shrL_at (b : Nat) (xs : List Nat) (i : Nat) (h : i < xs.length) : (shrL b xs)[i]'(by rw [shrL_len]; exact h) = (xs[i] + 4294967296 * xs.getD (i + 1) 0) / 2 ^ b % 4294967296 := by
 induction xs generalizing i with
 | nil => simp at h
 | cons x xs ih =>
  cases i with
  | zero => cases xs <;> simp [shrL]
  | succ i =>
   simp only [shrL, List.getElem_cons_succ];rw [ih i (by simpa using h)];simp
theorem head_mod {xs : List Nat} (h : W32 xs) : xs.headD 0 = val xs % 4294967296 := by
 cases xs with
 | nil => rfl
 | cons x xs =>
  have := h x (by simp);simp only [List.headD_cons, val];omega
theorem div_words (x V b : Nat) (hb : b <= 32) : (x + 4294967296 * (V % 4294967296)) / 2 ^ b % 4294967296 = (x + 4294967296 * V) / 2 ^ b % 4294967296 := by
 have e : x + 4294967296 * V = x + 4294967296 * (V % 4294967296) + 2 ^ b * (2 ^ (32 - b) * (V / 4294967296) * 4294967296) := by
  have h1 : 2 ^ b * (2 ^ (32 - b) * (V / 4294967296) * 4294967296) = 2 ^ b * 2 ^ (32 - b) * (V / 4294967296) * 4294967296 := by simp only [Nat.mul_assoc]
  rw [h1, pow32 b hb];have := Nat.div_add_mod V 4294967296;omega
 rw [e, Nat.add_mul_div_left _ _ (Nat.two_pow_pos b), Nat.add_mul_mod_self_right]
theorem val_shrL {b : Nat} (hb : b <= 32) {xs : List Nat} (h : W32 xs) : val (shrL b xs) = val xs / 2 ^ b := by
 induction xs with
 | nil => simp [shrL, val]
 | cons x xs ih =>
  have hx := h x (by simp);have ht : W32 xs := fun z hz => h z (by simp [hz])
  simp only [shrL, val];rw [ih ht, head_mod ht, div_words x (val xs) b hb]
  have e2 : (x + 4294967296 * val xs) / 2 ^ b / 4294967296 = val xs / 2 ^ b := by
   rw [Nat.div_div_eq_div_mul, Nat.mul_comm (2 ^ b) 4294967296, <- Nat.div_div_eq_div_mul, show (x + 4294967296 * val xs) / 4294967296 = val xs by omega]
  rw [<- e2];generalize (x + 4294967296 * val xs) / 2 ^ b = T;omega
theorem val_drop {xs : List Nat} (h : W32 xs) (q : Nat) : val (xs.drop q) = val xs / 4294967296 ^ q := by
 by_cases hq : q <= xs.length
 ·have e := val_split xs q hq
  have hl := val_lt (h.take q);rw [List.length_take, Nat.min_eq_left hq] at hl;rw [e, Nat.add_mul_div_left _ _ (Nat.pow_pos (by omega)), Nat.div_eq_of_lt hl, Nat.zero_add]
 ·rw [List.drop_eq_nil_of_le (by omega), Nat.div_eq_of_lt]
  ·rfl
  ·exact Nat.lt_of_lt_of_le (val_lt h) (Nat.pow_le_pow_right (by omega) (by omega))
theorem pow_split (k : Nat) : 2 ^ k = 4294967296 ^ (k / 32) * 2 ^ (k % 32) := by
 have : (4294967296 : Nat) = 2 ^ 32 := by decide
 rw [this, <- Nat.pow_mul, <- Nat.pow_add]
 congr 1
 omega
theorem shr_spec {xs : List Nat} (h : W32 xs) (k : Nat) : val (shrL (k % 32) (xs.drop (k / 32))) = val xs / 2 ^ k := by
 rw [val_shrL (by omega) (h.drop _), val_drop h, Nat.div_div_eq_div_mul, <- pow_split]
theorem shr_word {x y b : Nat} (hx : x < 4294967296) (hb : b <= 32) : x / 2 ^ b ||| (y * 2 ^ (32 - b) % 4294967296) = (x + 4294967296 * y) / 2 ^ b % 4294967296 := by
 have hp := pow32 b hb
 have h1 : x / 2 ^ b < 2 ^ (32 - b) := by
  rw [Nat.div_lt_iff_lt_mul (Nat.two_pow_pos b), Nat.mul_comm, hp];exact hx
 have e1 : y * 2 ^ (32 - b) % 4294967296 = 2 ^ (32 - b) * (y % 2 ^ b) := by
  rw [<- hp, Nat.mul_comm y, Nat.mul_comm (2 ^ b), Nat.mul_mod_mul_left]
 have e2 : (x + 4294967296 * y) / 2 ^ b = x / 2 ^ b + 2 ^ (32 - b) * y := by
  rw [<- hp, Nat.mul_assoc, Nat.add_mul_div_left _ _ (Nat.two_pow_pos b)]
 rw [e1, or_parts h1, e2]
 have e3 : 2 ^ (32 - b) * y = 2 ^ (32 - b) * (y % 2 ^ b) + 4294967296 * (y / 2 ^ b) := by
  rw [<- hp, Nat.mul_comm (2 ^ b), Nat.mul_assoc, <- Nat.mul_add, Nat.add_comm, Nat.div_add_mod]
 have h2 : y % 2 ^ b < 2 ^ b := Nat.mod_lt _ (Nat.two_pow_pos b);have h3 : 2 ^ (32 - b) * (y % 2 ^ b + 1) <= 2 ^ (32 - b) * 2 ^ b := Nat.mul_le_mul_left _ h2;rw [Nat.mul_comm (2 ^ (32 - b)) (2 ^ b), hp, Nat.mul_add, Nat.mul_one] at h3;rw [e3];generalize 2 ^ (32 - b) * (y % 2 ^ b) = P at h3 ⊢;generalize y / 2 ^ b = R;generalize 2 ^ (32 - b) = Q at h1 h3;generalize x / 2 ^ b = X at h1 ⊢;omega
theorem shr_word0 {x b : Nat} (hx : x < 4294967296) : x / 2 ^ b = (x + 4294967296 * 0) / 2 ^ b % 4294967296 := by
 rw [Nat.mul_zero, Nat.add_zero, Nat.mod_eq_of_lt (Nat.lt_of_le_of_lt (Nat.div_le_self _ _) hx)]
theorem take_shr {b : Nat} {xs zs : List Nat} {i v : Nat} (hi : i < xs.length) (hz : i < zs.length) (h : zs.take i = (shrL b xs).take i) (hv : v = (xs[i] + 4294967296 * xs.getD (i + 1) 0) / 2 ^ b % 4294967296) : (zs.set i v).take (i + 1) = (shrL b xs).take (i + 1) := by
 have hl : i < (shrL b xs).length := by rw [shrL_len]; exact hi
 rw [take_succ' (xs := zs.set i v) (k := i) (by simpa using hz), take_succ' (xs := shrL b xs) (k := i) hl, take_set_self, h, shrL_at b xs i hi];simp [hv]
/-! to the left -/
structure ShlInv (xs : List Nat) (b i : Nat) (zs : List Nat) : Prop where
 w32 : W32 zs
 len : zs.length = xs.length + 1
 low : zs.getD i 0 < 2 ^ b
 eq : val (zs.take (i + 1)) = val (xs.take i) * 2 ^ b
theorem ShlInv.start (xs : List Nat) (b : Nat) : ShlInv xs b 0 (List.replicate (xs.length + 1) 0) :=
 ⟨W32.replicate _, by simp, by simp [List.getD]; exact Nat.two_pow_pos b, by simp [List.take_replicate, val]⟩
theorem shl_low {x z b : Nat} (hb : b <= 32) (hz : z < 2 ^ b) : z ||| (x * 2 ^ b % 4294967296) = z + x * 2 ^ b % 4294967296 := by
 have hp := pow32 b hb;have e1 : x * 2 ^ b % 4294967296 = 2 ^ b * (x % 2 ^ (32 - b)) := by rw [<- hp, Nat.mul_comm x, Nat.mul_mod_mul_left]
 rw [e1, or_parts hz]
theorem shl_sum {x z b : Nat} (hb : b <= 32) (hz : z < 2 ^ b) : z + x * 2 ^ b % 4294967296 < 4294967296 := by
 have hp := pow32 b hb;have e1 : x * 2 ^ b % 4294967296 = 2 ^ b * (x % 2 ^ (32 - b)) := by rw [<- hp, Nat.mul_comm x, Nat.mul_mod_mul_left]
 have h2 : x % 2 ^ (32 - b) < 2 ^ (32 - b) := Nat.mod_lt _ (Nat.two_pow_pos _);have h3 : 2 ^ b * (x % 2 ^ (32 - b) + 1) <= 2 ^ b * 2 ^ (32 - b) := Nat.mul_le_mul_left _ h2;rw [hp, Nat.mul_add] at h3;omega
theorem shl_high {x b : Nat} (hx : x < 4294967296) : x * 2 ^ b / 4294967296 < 2 ^ b := by
 rw [Nat.div_lt_iff_lt_mul (by omega), Nat.mul_comm (2 ^ b)];exact Nat.mul_lt_mul_of_pos_right hx (Nat.two_pow_pos b)
theorem ShlInv.step {xs zs : List Nat} {b i : Nat} (h : ShlInv xs b i zs) (hb : b < 32) (hx : W32 xs) (hi : i < xs.length) :
  ShlInv xs b (i + 1) ((zs.set i (zs.getD i 0 + xs[i] * 2 ^ b % 4294967296)).set (i + 1) (xs[i] * 2 ^ b / 4294967296)) := by
 have hl := h.len;have h1 := shl_sum (x := xs[i]) (by omega : b <= 32) h.low;have h2 := shl_high (b := b) (hx.get hi)
 have hpb : 2 ^ b <= 4294967296 := by
  have : 2 ^ b <= 2 ^ 32 := Nat.pow_le_pow_right (by omega) (by omega);omega
 have hiz : i < zs.length := by omega
 refine ⟨(h.w32.set _ h1).set _ (by omega), by simp [hl], ?_, ?_⟩
 ·rw [List.getD_eq_getElem?_getD, List.getElem?_set_self (by simp; omega)]
  exact h2
 ·rw [val_take_set _ (by simp; omega), val_take_set _ hiz]
  have e := h.eq;rw [val_take_succ zs i hiz] at e;rw [val_take_succ xs i hi, Nat.add_mul, <- e, getD_at hiz, Nat.mul_add];have := pow_carry i (xs[i] * 2 ^ b);rw [Nat.mul_assoc (4294967296 ^ i) xs[i]];omega
theorem shl_val {xs zs : List Nat} {k : Nat} (h : val zs = val xs * 2 ^ (k % 32)) : val (List.replicate (k / 32) 0 ++ zs) = val xs * 2 ^ k := by
 rw [val_append, val_replicate, Nat.zero_add, List.length_replicate, h, pow_split k, Nat.mul_comm, Nat.mul_assoc, Nat.mul_comm (2 ^ (k % 32))]
end
section
open Go.RowKit
theorem shl_cast {x b : Nat} (hx : x < 4294967296) (hb : b < 32) : IntKind.u64.wrap ((x : Int) * 2 ^ b) = ((x * 2 ^ b : Nat) : Int) := by
 have h2 : x * 2 ^ b < 4294967296 * 4294967296 := by
  have hpb : 2 ^ b <= 4294967296 := by
   have : 2 ^ b <= 2 ^ 32 := Nat.pow_le_pow_right (by omega) (by omega);omega
  exact Nat.mul_lt_mul_of_lt_of_le hx hpb (by omega)
 rw [IntKind.wrap_u64, show (x : Int) * 2 ^ b = ((x * 2 ^ b : Nat) : Int) by simp];omega
theorem shl_lo {x z b : Nat} (hx : x < 4294967296) (hb : b < 32) (hz : z < 2 ^ b) (hz2 : z < 4294967296) : bits .or .u32 (z : Int) (IntKind.u64.wrap ((x : Int) * 2 ^ b) % 4294967296) = ((z + x * 2 ^ b % 4294967296 : Nat) : Int) := by
 rw [shl_cast hx hb, show ((x * 2 ^ b : Nat) : Int) % 4294967296 = ((x * 2 ^ b % 4294967296 : Nat) : Int) by omega, u32_or_nat _ _ hz2 (Nat.mod_lt _ (by omega)), shl_low (by omega) hz]
theorem shl_hi {x b : Nat} (hx : x < 4294967296) (hb : b < 32) : IntKind.u64.wrap ((x : Int) * 2 ^ b) / 4294967296 % 4294967296 = ((x * 2 ^ b / 4294967296 : Nat) : Int) := by
 have h := shl_high (b := b) hx
 have hpb : 2 ^ b <= 4294967296 := by
  have : 2 ^ b <= 2 ^ 32 := Nat.pow_le_pow_right (by omega) (by omega);omega
 rw [shl_cast hx hb];generalize x * 2 ^ b = T at *;omega
section
variable {A B : Option Addr} {c d n m : Nat} {xs ys : List Nat} {w : World} {s t : Bool}
theorem int_shiftInto {g off n cz b : Nat} {pre zs0 post : List Nat} (hblk0 : BlkN w g (pre ++ zs0 ++ post)) (hoff : pre.length = off) (hz : zs0 = List.replicate (xs.length + 1) 0) (hx : Rd w A xs) (hm : xs.length = m) (hap : Apart A xs g)
  (hn : m + 1 = n) (hb : b < 32) (h1 : n <= 100000) (_hcz : n <= cz) (_hczm : cz <= maxLen) :
  Calls Tryz.prog 177 #[.slice (some ⟨g, off, none⟩) n cz, .slice A m c, .int .i64 (b : Int)] w (Turned w g pre n post fun zs => val zs = val xs * 2 ^ b) := by
 have Hoff := Lib.hid hoff;have Hm := Lib.hid hm;clear hoff hm;have hi := ShlInv.start xs b;rw [<- hz] at hi;clear hz
 go_enter Tryz.func177, Tryz.ntmps177
 go_wp2
 go_loopw [11] (fun i wr => ∃ (k : Nat) (zs : List Nat), k <= m /\ i = .int .i64 (k : Int) /\ ShlInv xs b k zs /\ BlkN wr g (pre ++ zs ++ post) /\ Mod w wr g) (fun i _ => m - (intOf i).toNat)
 case atStart => exact ⟨0, zs0, by omega, rfl, hi, hblk0, Mod.refl _ _⟩
 case round =>
  obtain ⟨k, zs, hk, rfl, hinv, hblk, hmod⟩ := hrel;have hzl : zs.length = n := by rw [hinv.len, Hm.out]; exact hn
  have hxl : xs.length = m := Hm.out
  by_cases hlt : k < m
  ·obtain ⟨b1, off', rfl, hb1, hc1⟩ := (hx.mod hmod hap).at_ (i := k) (by omega)
   have hxk := hx.1.get (k := k) (by omega);obtain ⟨b2, off2, he, hb2, hc2⟩ := (hblk.mid hinv.w32 Hoff.out).at_ (i := k) (by omega)
   injection he with he
   injection he with he1 he2
   subst he1; subst he2;have hzk := hinv.w32.get (k := k) (by omega);have hlow : zs[k] < 2 ^ b := by have := hinv.low; rwa [getD_at (by omega)] at this
   obtain ⟨b3, off3, he, hb3, hc3⟩ := (hblk.mid hinv.w32 Hoff.out).at_ (i := k + 1) (by omega)
   injection he with he
   injection he with he1 he2
   subst he1; subst he2;have hfz := hblk.frozen (off + k);have hfz2 := hblk.frozen (off + (k + 1))
   go_wp2
   go_roundw
   case rel =>
    have hst := hinv.step hb hx.1 (by omega);rw [getD_at (by omega)] at hst;exact ⟨k + 1, _, by omega, by go_num, hst, (hblk.setMid Hoff.out (by omega) (shl_lo hxk hb hlow hzk)).setMid Hoff.out (by simp; omega) (shl_hi hxk hb), (hmod.setCell _ _).setCell _ _⟩
   case measure => simp [intOf]; omega
  ·have hk' : k = m := by omega
   subst hk'
   go_wp2
   go_end0
   refine ⟨zs, rfl, hzl, hinv.w32, hblk, ?_, hmod⟩;have := hinv.eq
   rwa [List.take_of_length_le (by omega), List.take_of_length_le (by omega)] at this
theorem int_shiftLeft {k : Nat} (hn : xs.length = n) (hx : Rd w A xs) (hk : k <= 100000) (h1 : n <= 90000) :
  Calls Tryz.prog 176 #[.slice A n c, .int .i64 (k : Int)] w (RetN (fun zs => val zs = val xs * 2 ^ k /\ Nrm zs /\ zs.length <= k / 32 + n + 1) w) := by
 have hmk : ∀ W : World, (Instr.makeSlice 105 (.int .i64 ((k : Int) / 32 + (n : Int) + 1)) (.int .i64 ((k : Int) / 32 + (n : Int) + 1))).run Tryz.prog W = .ok (.slice (some ⟨W.heap.size, 0, none⟩) (k / 32 + n + 1) (k / 32 + n + 1)) (W.alloc (.cells (madeCells #[.int .u32 0] (k / 32 + n + 1)) 89)) := fun W => by
  have h := mk_words 105 Tryz.underlying105 (k / 32 + n + 1) (by omega) W
  rwa [show ((k / 32 + n + 1 : Nat) : Int) = (k : Int) / 32 + (n : Int) + 1 by omega] at h
 have Hn := Lib.hid hn;clear hn
 go_enter Tryz.func176, Tryz.ntmps176
 go_wp2_with fail
 rw [show ((k : Int) % 32) = ((k % 32 : Nat) : Int) by omega];have hb0 := BlkN.new w (k / 32 + n + 1)
 have hsp : List.replicate (k / 32 + n + 1) 0 = List.replicate (k / 32) 0 ++ List.replicate (xs.length + 1) 0 ++ ([] : List Nat) := by
  rw [List.append_nil, List.replicate_append_replicate, Hn.out, Nat.add_assoc]
 rw [hsp] at hb0;refine (int_shiftInto (pre := List.replicate (k / 32) 0) (zs0 := List.replicate (xs.length + 1) 0) (post := []) hb0 (by simp) rfl (hx.ext ((Ext.refl w).alloc _)) Hn.out (hx.apart (Nat.le_refl _)) (by omega) (by omega) (by omega) (Nat.le_refl _) (by unfold maxLen; omega)).mono ?_;rintro e w2 ⟨zs, rfl, hzl, hzw, hzb, hzv, hmod⟩;have hext := hmod.ext ((Ext.refl w).alloc _) (Nat.le_refl _);rw [List.append_nil] at hzb;have hfull : W32 (List.replicate (k / 32) 0 ++ zs) := (W32.replicate _).append hzw;have hlen : (List.replicate (k / 32) 0 ++ zs).length = k / 32 + n + 1 := by rw [List.length_append, List.length_replicate, hzl]; omega
 have hval := shl_val (k := k) hzv;generalize List.replicate (k / 32) 0 ++ zs = Z at hzb hfull hlen hval;have Hlen := Lib.hid hlen;have Hval := Lib.hid hval;clear hlen hval hzl hzv hmod hsp hb0
 go_wp2_with fail
 refine (int_trimN (xs := Z) Hlen.out (hzb.rd0 hfull) (Nat.le_refl _) (by unfold maxLen; omega)).mono ?_;rintro e w3 ⟨rfl, rfl⟩
 go_wp2_with fail
 go_ret
 have hl := trimL_len Z;rw [Hlen.out] at hl;refine ⟨_, _, trimL Z, rfl, ?_, by omega, by unfold maxLen; omega, ⟨by rw [val_trimL]; exact Hval.out, Nrm.trimL _, hl⟩, hext⟩;rw [trimL_take];exact (Own.of_blk hzb hfull (Nat.le_refl _)).take _
theorem int_binaryDigits (hn : xs.length = n) (hx : Rd w A xs) (h1 : n <= 100000) :
  Calls Tryz.prog 165 #[.slice A n c] w fun e w' => e = .returned (.int .i64 ((if h : 0 < xs.length then 32 * (xs.length - 1) + Lib.bitLen (xs[xs.length - 1]'(by omega)) else 0 : Nat) : Int)) /\ w = w' := by
 subst hn
 by_cases h : 0 < xs.length
 ·obtain ⟨b1, off', rfl, hb1, hc1⟩ := hx.at_ (i := xs.length - 1) (by omega)
  have hxk := hx.1.get (k := xs.length - 1) (by omega);have hpos : ¬ xs.length = 0 := by omega
  have hle : Lib.bitLen xs[xs.length - 1] <= 32 := Lib.bitLen_le _ 32 (by omega) (by omega)
  go_enter Tryz.func165, Tryz.ntmps165
  go_wp2_with (go_at_call 160; refine (len32 _ _ (by omega) (by omega)).mono ?_; rintro e w2 ⟨rfl, rfl⟩)
  go_ret
  refine ⟨ret_int ?_, rfl⟩;omega
 ·have h0 : xs.length = 0 := by omega
  go_enter Tryz.func165, Tryz.ntmps165
  go_wp2_with fail
  go_ret
  refine ⟨ret_int ?_, rfl⟩
  rfl
end
theorem or_cast {x y b c : Nat} (hx : x < 4294967296) : bits .or .u32 ((x : Int) / 2 ^ b) ((y : Int) * 2 ^ c % 4294967296) = ((x / 2 ^ b ||| (y * 2 ^ c % 4294967296) : Nat) : Int) := by
 rw [show (x : Int) / 2 ^ b = ((x / 2 ^ b : Nat) : Int) by simp, show (y : Int) * 2 ^ c % 4294967296 = ((y * 2 ^ c % 4294967296 : Nat) : Int) by simp];exact u32_or_nat _ _ (Nat.lt_of_le_of_lt (Nat.div_le_self _ _) hx) (Nat.mod_lt _ (by omega))
section
variable {A B : Option Addr} {c d n m : Nat} {xs ys : List Nat} {w : World} {s t : Bool}
theorem int_shiftRight {k : Nat} (hn : xs.length = n) (hx : Rd w A xs) (hc : n <= c) (hcm : c <= maxLen) (hk : k <= 100000) (h1 : n <= 90000) :
  Calls Tryz.prog 180 #[.slice A n c, .int .i64 (k : Int)] w (RetN (fun zs => val zs = val xs / 2 ^ k /\ Nrm zs /\ zs.length <= n) w) := by
 by_cases hlt : n <= k / 32
 ·have Hn := Lib.hid hn
  clear hn;have hge : ((n : Int)) <= (k : Int) / 32 := by omega
  go_enter Tryz.func180, Tryz.ntmps180
  go_wp2_with fail
  go_ret
  refine ⟨none, 0, [], rfl, ⟨W32.nil, .inl rfl⟩, by simp, by unfold maxLen; omega, ⟨?_, rfl, by simp⟩, Ext.refl _⟩;have := shr_spec hx.1 k;rw [List.drop_eq_nil_of_le (by have := Hn.out; omega)] at this;exact this
 ·have hnl := hn
  obtain ⟨b1, off1, rfl, hb1, hc1⟩ := hx.at_ (i := 0) (by omega);have hd := hx.drop (k / 32);have hlen : (xs.drop (k / 32)).length = n - k / 32 := by rw [List.length_drop, hn]
  have hspec := shr_spec hx.1 k;generalize hys : xs.drop (k / 32) = ys at hd hlen hspec;have Hn := Lib.hid hn;have Hys := Lib.hid hys;have Hspec := Lib.hid hspec;have Hlen := Lib.hid hlen;clear hn hys hspec hc1 hnl hlen;unfold maxLen at hcm;generalize hL : n - k / 32 = L at *;have hL0 : 0 < L := by omega
  have hmk : ∀ W : World, (Instr.makeSlice 105 (.int .i64 (L : Int)) (.int .i64 (L : Int))).run Tryz.prog W = .ok (.slice (some ⟨W.heap.size, 0, none⟩) L L) (W.alloc (.cells (madeCells #[.int .u32 0] L) 89)) := fun W => mk_words 105 Tryz.underlying105 L (by omega) W
  have hge : ¬ ((n : Int)) <= (k : Int) / 32 := by omega
  have hkc : k / 32 <= c := by omega
  have hkn : k / 32 <= n := by omega
  go_enter Tryz.func180, Tryz.ntmps180
  go_wp2_with fail
  have hb0 := BlkN.new w L
  go_loopw [21] (fun i wr => ∃ (j : Nat) (zs : List Nat), j <= L /\ i = .int .i64 (j : Int) /\ zs.length = L /\ W32 zs /\ zs.take j = (shrL (k % 32) ys).take j /\ BlkN wr w.heap.size zs /\ Ext w wr) (fun i _ => L - (intOf i).toNat)
  case atStart => exact ⟨0, List.replicate L 0, by omega, rfl, by simp, W32.replicate _, rfl, hb0, (Ext.refl w).alloc _⟩
  case round =>
   obtain ⟨j, zs, hj, rfl, hzl, hzw, htk, hblk, hext⟩ := hrel;have Htk := Lib.hid htk;clear htk
   by_cases hjl : j < L
   ·obtain ⟨b2, off2, he, hb2, hc2⟩ := (hd.ext hext).at_ (i := j) (by rw [Hlen.out]; exact hjl)
    injection he with he
    injection he with he1 he2
    subst he1; subst he2;have hyl : j < ys.length := by rw [Hlen.out]; exact hjl
    have hyj := hd.1.get hyl;have hcz := hblk.cell (i := j) (by omega);have hzj := hzw.get (k := j) (by omega);have hfz := hblk.frozen j
    by_cases hnx : j + 1 < L
    ·have Hv1 := Lib.hid (show ((ys[j] : Nat) : Int) / 2 ^ (k % 32) = ((ys[j] / 2 ^ (k % 32) : Nat) : Int) by simp)
     have hyn := hd.1.get (k := j + 1) (by rw [Hlen.out]; exact hnx);have hlp : (j : Int) + 1 < (L : Int) := by omega
     go_upto_region 10 with (fail)
     refine at_world (fun W => BlkN W w.heap.size (zs.set j (ys[j] / 2 ^ (k % 32))) /\ Ext w W) ⟨hblk.set j Hv1.out, hext.setCell (Nat.le_refl _) _⟩ ?_;rintro W ⟨hblkW, hextW⟩;obtain ⟨b3, off3, he, hb3, hc3⟩ := (hd.ext hextW).at_ (i := j + 1) (by rw [Hlen.out]; exact hnx)
     injection he with he
     injection he with he1 he2
     subst he1; subst he2;have hcW := hblkW.cell (i := j) (by simp; omega);rw [List.getElem_set_self] at hcW;have hfW := hblkW.frozen j;have hbW := hblkW.lt
     go_region
     go_wp2
     go_roundw
     case rel =>
      have hj1 : j + 1 < ys.length := by rw [Hlen.out]; exact hnx
      have hval := (or_cast (x := ys[j]) (y := ys[j + 1]) (b := k % 32) (c := 32 - k % 32) hyj).trans (congrArg Int.ofNat (shr_word (x := ys[j]) (y := ys[j + 1]) (b := k % 32) hyj (by omega)));have hlt2 : (ys[j] + 4294967296 * ys[j + 1]) / 2 ^ (k % 32) % 4294967296 < 4294967296 := Nat.mod_lt _ (by omega);have hset := hblkW.set j hval;rw [List.set_set] at hset;refine ⟨j + 1, _, by omega, by go_num, by simp [hzl], hzw.set _ hlt2, take_shr (b := k % 32) hyl (by omega) Htk.out ?_, hset.drewN 1, (hextW.setCell (Nat.le_refl _) _).drew⟩;rw [getD_at (by rw [Hlen.out]; exact hnx)]
     case measure => simp [intOf]; omega
    ·have hnx' : ¬ ((j : Int) + 1 < (L : Int)) := by omega
     have Hv1 := Lib.hid (show ((ys[j] : Nat) : Int) / 2 ^ (k % 32) = ((ys[j] / 2 ^ (k % 32) : Nat) : Int) by simp);have hlt2 : ys[j] / 2 ^ (k % 32) < 4294967296 := Nat.lt_of_le_of_lt (Nat.div_le_self _ _) hyj
     go_wp2
     go_roundw
     case rel =>
      refine ⟨j + 1, zs.set j (ys[j] / 2 ^ (k % 32)), by omega, by go_num, by simp [hzl], hzw.set _ hlt2, take_shr (b := k % 32) hyl (by omega) Htk.out ?_, hblk.set j Hv1.out, hext.setCell (Nat.le_refl _) _⟩;rw [getD_out (by rw [Hlen.out]; omega)];exact shr_word0 hyj
     case measure => simp [intOf]; omega
   ·have hjl' : j = L := by omega
    subst hjl'
    go_wp2_with (go_at_call 114; refine (int_trimN (xs := zs) hzl (hblk.rd0 hzw) (Nat.le_refl _) (by unfold maxLen; omega)).mono ?_; rintro e w3 ⟨rfl, rfl⟩)
    go_ret
    have hl := trimL_len zs
    have hfull : zs = shrL (k % 32) ys := by
     have := Htk.out
     rwa [List.take_of_length_le (by omega), List.take_of_length_le (by rw [shrL_len, Hlen.out]; omega)] at this
    refine ⟨_, _, trimL zs, rfl, ?_, by omega, by unfold maxLen; omega, ⟨by rw [val_trimL, hfull]; exact Hspec.out, Nrm.trimL _, by omega⟩, hext⟩;rw [trimL_take];exact (Own.of_blk hblk hzw (Nat.le_refl _)).take _
end
end
section
open Go.RowKit
attribute [local go_sem ↓] Go.wp_at_zero Go.wp_at_succ
theorem kar_step {z zt : List Nat} {k n cy m : Nat} (hz : z.length = n) (hk : k <= n) (h : val zt + 4294967296 ^ (n - k) * cy = val (z.drop k) + m) (hf : val z + 4294967296 ^ k * m < 4294967296 ^ n) :
  val (z.take k ++ zt) = val z + 4294967296 ^ k * m := by
 have e1 := val_split z k (by omega);have e2 : val (z.take k ++ zt) = val (z.take k) + 4294967296 ^ k * val zt := by rw [val_append, List.length_take, Nat.min_eq_left (by omega)]
 have e3 : (4294967296 : Nat) ^ n = 4294967296 ^ k * 4294967296 ^ (n - k) := by rw [<- Nat.pow_add]; congr 1; omega
 rw [e3] at hf;rw [e2, e1];rw [e1] at hf;generalize 4294967296 ^ k = p at *;generalize 4294967296 ^ (n - k) = q at *;have h4 : p * val zt + p * q * cy = p * val (z.drop k) + p * m := by rw [Nat.mul_assoc, <- Nat.mul_add, h, Nat.mul_add]
 cases cy with
 | zero => rw [Nat.mul_zero, Nat.add_zero] at h4; omega
 | succ cy =>
  rw [Nat.mul_add, Nat.mul_one] at h4;omega
theorem kar_mid {a0 a1 b0 b1 m1 m : Nat} (h1 : m1 + a0 * b0 = (a0 + a1) * (b0 + b1)) (h2 : m + a1 * b1 = m1) : m = a0 * b1 + a1 * b0 := by
 have : (a0 + a1) * (b0 + b1) = a0 * b0 + a0 * b1 + (a1 * b0 + a1 * b1) := by rw [Nat.add_mul, Nat.mul_add, Nat.mul_add]
 omega
theorem kar_all {a0 a1 b0 b1 p : Nat} : (a0 + p * a1) * (b0 + p * b1) = a0 * b0 + p * (a0 * b1 + a1 * b0) + p * p * (a1 * b1) := by grind
theorem kar_low {a0 a1 b0 b1 : Nat} : a0 * b0 <= (a0 + a1) * (b0 + b1) := Nat.mul_le_mul (Nat.le_add_right _ _) (Nat.le_add_right _ _)
theorem kar_high {a0 a1 b0 b1 m1 : Nat} (h1 : m1 + a0 * b0 = (a0 + a1) * (b0 + b1)) : a1 * b1 <= m1 := by
 have : (a0 + a1) * (b0 + b1) = a0 * b0 + a0 * b1 + (a1 * b0 + a1 * b1) := by rw [Nat.add_mul, Nat.mul_add, Nat.mul_add]
 omega
theorem kar_lt1 {a b c m p q : Nat} (_hp : 0 < p) (h : a + (b + p * m + c) < p * q) : m < q := by
 refine Nat.lt_of_not_le fun hle => ?_
 have := Nat.mul_le_mul_left p hle;omega
theorem kar_lt2 {a b m p q : Nat} (_hp : 0 < p) (h : a + (b + p * m) < p * q) : m < q := by
 refine Nat.lt_of_not_le fun hle => ?_
 have := Nat.mul_le_mul_left p hle;omega
theorem Nrm.len_le {xs : List Nat} {k : Nat} (h : Nrm xs) (hv : val xs < 4294967296 ^ k) : xs.length <= k := by
 rcases Nat.lt_or_ge k xs.length with hlt | hge
 ·have h1 := h.ge (by intro h0; rw [h0] at hlt; simp at hlt)
  have h2 : (4294967296 : Nat) ^ k <= 4294967296 ^ (xs.length - 1) := Nat.pow_le_pow_right (by omega) (by omega);omega
 ·exact hge
theorem Rd.some {w : World} {A : Option Addr} {xs : List Nat} (h : Rd w A xs) (hn : 0 < xs.length) : ∃ b off, A = .some ⟨b, off, none⟩ := by
 obtain ⟨b, off, hA, _, _⟩ := h.2 (by intro h0; rw [h0] at hn; simp at hn);exact ⟨b, off, hA⟩
end
section
open Go.RowKit
theorem win_val {ys : List Nat} {r : Nat} (hw : W32 ys) (hr : r < 32) (hl : 2 < ys.length) (hv : val ys / 2 ^ r < 18446744073709551616) :
  val (ys.take 2) / 2 ^ r + 2 ^ (64 - r) * ys[2] = val ys / 2 ^ r /\ val (ys.take 2) / 2 ^ r < 2 ^ (64 - r) /\ ys[2] < 2 ^ r := by
 have e1 := val_split ys 2 (by omega);have e2 := val_split (ys.drop 2) 1 (by rw [List.length_drop]; omega)
 have e3 : (ys.drop 2).take 1 = [ys[2]] := by
  rw [List.drop_eq_getElem_cons (by omega)]; rfl
 rw [e3, val_one] at e2;have hl2 := val_lt (hw.take 2);rw [List.length_take, Nat.min_eq_left (by omega)] at hl2
 have h64 : (4294967296 : Nat) ^ 2 = 2 ^ r * 2 ^ (64 - r) := by
  rw [<- Nat.pow_add, show r + (64 - r) = 64 by omega]
 have hp : 0 < 2 ^ r := Nat.pow_pos (by omega);rw [h64] at e1 hl2;generalize val (List.drop 1 (List.drop 2 ys)) = t at *;generalize val (List.drop 2 ys) = h at *;generalize val (List.take 2 ys) = l at *
 have e4 : val ys / 2 ^ r = l / 2 ^ r + 2 ^ (64 - r) * h := by
  rw [e1, Nat.mul_assoc, Nat.add_mul_div_left _ _ hp]
 have hll : l / 2 ^ r < 2 ^ (64 - r) := Nat.div_lt_of_lt_mul hl2
 have hh : h < 2 ^ r := by
  refine Nat.lt_of_not_le fun hle => ?_
  have h1 : 2 ^ (64 - r) * 2 ^ r <= 2 ^ (64 - r) * h := Nat.mul_le_mul_left _ hle;have h2 : 2 ^ (64 - r) * 2 ^ r = 18446744073709551616 := by rw [<- Nat.pow_add, show 64 - r + r = 64 by omega]
  rw [e4] at hv;rw [h2] at h1;generalize 2 ^ (64 - r) * h = H at *;generalize l / 2 ^ r = H2 at *;omega
 have hr2 : 2 ^ r <= 2 ^ 31 := Nat.pow_le_pow_right (by omega) (by omega)
 have ht : t = 0 := by
  refine Nat.eq_zero_of_not_pos fun h0 => ?_
  have : (4294967296 : Nat) ^ 1 * 1 <= 4294967296 ^ 1 * t := Nat.mul_le_mul_left _ h0;have h31 : (2 : Nat) ^ 31 = 2147483648 := by decide
  omega
 subst ht;rw [Nat.mul_zero, Nat.add_zero] at e2;subst e2;exact ⟨e4.symm, hll, hh⟩
theorem or64_cast {V y r : Nat} (hx : V / 2 ^ r < 2 ^ (64 - r)) (hy : 2 ^ (64 - r) * y < 18446744073709551616) (hV : V < 18446744073709551616) : bits .or .u64 ((V : Int) / 2 ^ r) (IntKind.u64.wrap ((y : Int) * 2 ^ (64 - r))) = ((V / 2 ^ r + 2 ^ (64 - r) * y : Nat) : Int) := by
 have e0 : (V : Int) / 2 ^ r = ((V / 2 ^ r : Nat) : Int) := by simp
 have e1 : (y : Int) * 2 ^ (64 - r) = ((2 ^ (64 - r) * y : Nat) : Int) := by
  rw [Nat.mul_comm, Int.natCast_mul, Int.natCast_pow]
  rfl
 rw [e0, e1, IntWalk.u64_in _ (by omega), u64_or_nat _ _ (Nat.lt_of_le_of_lt (Nat.div_le_self _ _) hV) hy, or_parts hx]
section
variable {A : Option Addr} {c n : Nat} {xs : List Nat} {w : World}
set_option maxRecDepth 100000 in
theorem int_window {k : Nat} (hn : xs.length = n) (hx : Rd w A xs) (hc : n <= c) (hcm : c <= maxLen) (hk : k <= 960000) (h1 : n <= 90000) (hv : val xs / 2 ^ k < 18446744073709551616) :
  Calls Tryz.prog 167 #[.slice A n c, .int .i64 (k : Int)] w fun e w' => e = .returned (.int .u64 ((val xs / 2 ^ k : Nat) : Int)) /\ w = w' := by
 by_cases hge : n <= k / 32
 ·have hz : val xs / 2 ^ k = 0 := by
   have h1 := val_lt hx.1;rw [hn] at h1;rw [pow_split k, <- Nat.div_div_eq_div_mul, Nat.div_eq_of_lt (Nat.lt_of_lt_of_le h1 (Nat.pow_le_pow_right (by omega) hge)), Nat.zero_div]
  rw [hz];have m4 : min ((k : Int) / 32) (n : Int) = (n : Int) := by omega
  have m5 : (n : Int) <= (k : Int) / 32 := by omega
  have hsv : ((0 : Nat) : Int) / 2 ^ (k % 32) = 0 := by simp
  unfold maxLen at hcm;clear hz hv
  have hA : (∃ b off, A = some ⟨b, off, none⟩) \/ n = 0 := by
   by_cases h0 : n = 0
   ·exact .inr h0
   ·exact .inl (hx.some (by omega))
  rcases hA with ⟨b, off, rfl⟩ | h0
  ·clear hx hn
   by_cases hcn : c = n
   ·subst hcn
    go_enter Tryz.func167, Tryz.ntmps167
    go_wp2_with fail
    all_goals
     refine (int_toUint (xs := []) (by simp <;> omega) (Rd.nil _ _) (by omega)).mono ?_;rintro e w1 ⟨rfl, rfl⟩;rw [show val [] = 0 by rfl]
     go_wp2_with fail
     go_ret
     exact ⟨rfl, rfl⟩
   ·have hcn' : ¬ c = n := hcn
    go_enter Tryz.func167, Tryz.ntmps167
    go_wp2_with fail
    all_goals
     refine (int_toUint (xs := []) (by simp <;> omega) (Rd.nil _ _) (by omega)).mono ?_;rintro e w1 ⟨rfl, rfl⟩;rw [show val [] = 0 by rfl]
     go_wp2_with fail
     go_ret
     exact ⟨rfl, rfl⟩
  ·subst h0
   clear hx hn
   cases A with
   | none =>
    go_enter Tryz.func167, Tryz.ntmps167
    go_wp2_with fail
    all_goals
     refine (int_toUint (xs := []) (by simp <;> omega) (Rd.nil _ _) (by omega)).mono ?_;rintro e w1 ⟨rfl, rfl⟩;rw [show val [] = 0 by rfl]
     go_wp2_with fail
     go_ret
     exact ⟨rfl, rfl⟩
   | some ad =>
    go_enter Tryz.func167, Tryz.ntmps167
    go_wp2_with fail
    all_goals
     refine (int_toUint (xs := []) (by simp <;> omega) (Rd.nil _ _) (by omega)).mono ?_;rintro e w1 ⟨rfl, rfl⟩;rw [show val [] = 0 by rfl]
     go_wp2_with fail
     go_ret
     exact ⟨rfl, rfl⟩
 ·obtain ⟨b, off, rfl⟩ := hx.some (by omega)
  have hd := hx.drop (k / 32);have hlen : (xs.drop (k / 32)).length = n - k / 32 := by rw [List.length_drop, hn]
  have hspec : val xs / 2 ^ k = val (xs.drop (k / 32)) / 2 ^ (k % 32) := by rw [val_drop hx.1, pow_split k, Nat.div_div_eq_div_mul]
  have hr : k % 32 < 32 := Nat.mod_lt _ (by omega);rw [hspec] at hv ⊢;have m1 : (k : Int) / 32 <= (n : Int) := by omega
  have m2 : k / 32 <= n := by omega
  have m3 : ¬ c = k / 32 := by omega
  have m4 : min ((k : Int) / 32) (n : Int) = (k : Int) / 32 := by omega
  unfold maxLen at hcm;generalize hys : xs.drop (k / 32) = ys at *;have Hlen := Lib.hid hlen;have Hv := Lib.hid hv;have hl0 : 1 <= n - k / 32 := by omega
  clear hx hn hspec hv hlen
  by_cases h2 : n - k / 32 <= 2
  ·have m5 : min (2 : Int) ((n - k / 32 : Nat) : Int) = ((n - k / 32 : Nat) : Int) := by omega
   have hval : val (ys.take 2) = val ys := by rw [List.take_of_length_le (by have := Hlen.out; omega)]
   have t1 : decide ((2 : Int) < ((n - k / 32 : Nat) : Int)) = false := decide_eq_false (by omega);have Hval := Lib.hid hval;clear hval;have hl2 := val_lt hd.1
   have hl3 : (val ys : Int) <= 18446744073709551615 := by
    have h1 : (4294967296 : Nat) ^ ys.length <= 4294967296 ^ 2 := Nat.pow_le_pow_right (by omega) (by have := Hlen.out; omega);rw [show (4294967296 : Nat) ^ 2 = 18446744073709551616 by decide] at h1;omega
   have ht2 := hd;have hsv : (val ys : Int) / 2 ^ (k % 32) = ((val ys / 2 ^ (k % 32) : Nat) : Int) := by simp
   have HS := Lib.hid hsv;clear hsv hl2;generalize hVV : val ys = V at *;have HVV := Lib.hid hVV;clear hVV m5
   go_enter Tryz.func167, Tryz.ntmps167
   go_wp2_with fail
   all_goals
    refine (int_toUint (xs := ys) (by have := Hlen.out; omega) ht2 (by omega)).mono ?_;rintro e w1 ⟨rfl, rfl⟩;rw [HVV.out]
    go_wp2_with fail
    rw [HS.out]
    go_ret
    exact ⟨rfl, rfl⟩
  ·have hy3 : 2 < ys.length := by have := Hlen.out; omega
   have hw := win_val hd.1 hr hy3 Hv.out;obtain ⟨h3, h4, h5⟩ := hw;obtain ⟨b', off', he, hb', hc2⟩ := hd.at_ (i := 2) (by have := Hlen.out; omega)
   injection he with he
   injection he with he1 he2
   subst he1;subst he2;have hw2 := hd.1.get (k := 2) (by have := Hlen.out; omega);have hl2 := val_lt (hd.1.take 2);rw [List.length_take, Nat.min_eq_left (by have := Hlen.out; omega)] at hl2;have hr64 : 2 ^ (64 - k % 32) * ys[2] < 18446744073709551616 := by have h := Hv.out; rw [<- h3] at h; exact Nat.lt_of_le_of_lt (Nat.le_add_left _ _) h
   have hor := or64_cast (V := val (ys.take 2)) (y := ys[2]) (r := k % 32) h4 hr64 (by rw [show (4294967296 : Nat) ^ 2 = 18446744073709551616 by decide] at hl2; exact hl2);rw [h3] at hor;generalize ys[2] = y2 at *;have ht2 := hd.take 2;have Hor := Lib.hid hor;have H3 := Lib.hid h3;have hl2' : (val (ys.take 2) : Int) <= 18446744073709551615 := by rw [show (4294967296 : Nat) ^ 2 = 18446744073709551616 by decide] at hl2; omega
   have hlt2 : (ys.take 2).length <= 2 := by rw [List.length_take]; omega
   have hlt3 : 2 <= (ys.take 2).length := by rw [List.length_take]; have := Hlen.out; omega
   clear hor h3 h4 h5 hl2 hr64;generalize hVV : val (ys.take 2) = V at *;have HVV := Lib.hid hVV;clear hVV;have m6 : (2 : Int) < ((n - k / 32 : Nat) : Int) := by omega
   have t1 : decide ((2 : Int) < ((n - k / 32 : Nat) : Int)) = true := decide_eq_true m6;have hsh : ((64 : Int) - (k : Int) % 32).toNat = 64 - k % 32 := by omega
   have hsh2 : (0 : Int) <= 64 - (k : Int) % 32 := by omega
   go_enter Tryz.func167, Tryz.ntmps167
   go_wp2_with fail
   refine (int_toUint (xs := ys.take 2) (by omega) ht2 (by omega)).mono ?_;rintro e w1 ⟨rfl, rfl⟩;rw [HVV.out]
   go_wp2_with fail
   rw [Hor.out]
   go_ret
   exact ⟨rfl, rfl⟩
end
end
section
open Go.RowKit
attribute [local go_sem ↓] Go.wp_at_zero Go.wp_at_succ
structure CInv (xs ys : List Nat) (x y : Int) (k : Nat) (zs : List Nat) (cy : Int) : Prop where
 w32 : W32 zs
 lo : -2147483648 <= cy
 hi : cy <= 2147483648
 eq : (val (zs.take k) : Int) + (4294967296 : Int) ^ k * cy = x * (val (xs.take k) : Int) + y * (val (ys.take k) : Int)
theorem comb_bound {x y : Int} {a b : Nat} (ha : a < 4294967296) (hb : b < 4294967296) (hs : (x <= 0 /\ 0 <= y) \/ (0 <= x /\ y <= 0)) (hx1 : -2147483647 <= x) (hx2 : x <= 2147483647) (hy1 : -2147483647 <= y) (hy2 : y <= 2147483647) :
  -9223372030412324865 <= x * (a : Int) /\ x * (a : Int) <= 9223372030412324865 /\ -9223372030412324865 <= y * (b : Int) /\ y * (b : Int) <= 9223372030412324865 /\ -9223372030412324865 <= x * (a : Int) + y * (b : Int) /\ x * (a : Int) + y * (b : Int) <= 9223372030412324865 := by
 have key : ∀ (v : Int) (c : Nat), c < 4294967296 -> 0 <= v -> v <= 2147483647 -> 0 <= v * (c : Int) /\ v * (c : Int) <= 9223372030412324865 := by
  intro v c hc h0 h1;have h2 := Int.mul_le_mul h1 (show (c : Int) <= 4294967295 by omega) (by omega) (by omega);exact ⟨Int.mul_nonneg h0 (by omega), by omega⟩
 rcases hs with ⟨h1, h2⟩ | ⟨h1, h2⟩
 ·have k1 := key (-x) a ha (by omega) (by omega)
  have k2 := key y b hb h2 hy2;rw [Int.neg_mul] at k1;omega
 ·have k1 := key x a ha h1 hx2
  have k2 := key (-y) b hb (by omega) (by omega);rw [Int.neg_mul] at k2;omega
theorem pow_cast (k : Nat) : ((4294967296 ^ k : Nat) : Int) = (4294967296 : Int) ^ k := by rw [Int.natCast_pow]; rfl
theorem CInv.step {xs ys zs : List Nat} {x y : Int} {k : Nat} {cy : Int} (h : CInv xs ys x y k zs cy) (hx : k < xs.length) (hy : k < ys.length) (hz : k < zs.length) {s : Int} (hs : s = cy + (x * (xs[k] : Int) + y * (ys[k] : Int)))
  (hb1 : -9223372036854775808 <= s) (hb2 : s <= 9223372036854775807) : CInv xs ys x y (k + 1) (zs.set k (s % 4294967296).toNat) (s / 4294967296) := by
 have hm := Int.emod_nonneg s (show (4294967296 : Int) ≠ 0 by decide);have hm2 := Int.emod_lt_of_pos s (show (0 : Int) < 4294967296 by decide);have hdm := Int.mul_ediv_add_emod s 4294967296;refine ⟨h.w32.set k (by omega), by omega, by omega, ?_⟩;have e := h.eq;rw [val_take_set _ hz, val_take_succ xs k hx, val_take_succ ys k hy];have ec : (((s % 4294967296).toNat : Nat) : Int) = s % 4294967296 := Int.toNat_of_nonneg hm;rw [Int.natCast_add, Int.natCast_mul, Int.natCast_add, Int.natCast_mul, Int.natCast_add, Int.natCast_mul, pow_cast, ec, Int.pow_succ];generalize (4294967296 : Int) ^ k = p at *;generalize s % 4294967296 = m at *;generalize s / 4294967296 = q at *;have h1 : p * s = p * (4294967296 * q + m) := by rw [hdm]
 grind
theorem CInv.done {xs ys zs : List Nat} {x y : Int} {n : Nat} {cy : Int} (h : CInv xs ys x y n zs cy) (hx : xs.length = n) (hy : ys.length = n) (hz : zs.length = n) {R : Nat} (hR : x * (val xs : Int) + y * (val ys : Int) = (R : Int)) (hl : R < 4294967296 ^ n) : val zs = R := by
 have e := h.eq;rw [List.take_of_length_le (by omega), List.take_of_length_le (by omega), List.take_of_length_le (by omega), hR] at e;have h1 := val_lt h.w32;rw [hz] at h1;have h2 : ((4294967296 ^ n : Nat) : Int) = (4294967296 : Int) ^ n := pow_cast n;rw [<- h2] at e;generalize 4294967296 ^ n = p at *;have hp : (0 : Int) < (p : Int) := by omega
 have hc : cy = 0 := by
  rcases Int.lt_trichotomy cy 0 with h | h | h
  ·have := Int.mul_le_mul_of_nonneg_left (show cy <= -1 by omega) (show (0 : Int) <= (p : Int) by omega)
   omega
  ·exact h
  ·have := Int.mul_le_mul_of_nonneg_left (show 1 <= cy by omega) (show (0 : Int) <= (p : Int) by omega)
   omega
 subst hc;omega
section
variable {A B : Option Addr} {c d n : Nat} {xs ys : List Nat} {w : World}
set_option maxRecDepth 100000 in
theorem int_combine {g cz : Nat} {zs0 : List Nat} {x y : Int} {R : Nat} (hblk0 : BlkN w g zs0) (hn : zs0.length = n) (hw : W32 zs0) (hx : Rd w A xs) (hm : xs.length = n) (hap : Apart A xs g) (hy : Rd w B ys) (hp : ys.length = n) (hbp : Apart B ys g)
  (hs : (x <= 0 /\ 0 <= y) \/ (0 <= x /\ y <= 0)) (hx1 : -2147483647 <= x) (hx2 : x <= 2147483647) (hy1 : -2147483647 <= y) (hy2 : y <= 2147483647) (hR : x * (val xs : Int) + y * (val ys : Int) = (R : Int)) (hl : R < 4294967296 ^ n) (h1 : n <= 100000) (hc : n <= c) (hcm : c <= maxLen) (hd : n <= d) (_hdm : d <= maxLen) (hcz : n <= cz) (hczm : cz <= maxLen) :
  Calls Tryz.prog 169 #[.slice (some ⟨g, 0, none⟩) n cz, .slice A n c, .slice B n d, .int .i64 x, .int .i64 y] w fun e w' => ∃ zs, e = .returned (.slice (some ⟨g, 0, none⟩) (trimL zs).length cz) /\ zs.length = n /\ W32 zs /\ BlkN w' g zs /\ val zs = R /\ Mod w w' g := by
 have Hczm := Lib.hid hczm;unfold maxLen at hczm hcm;have Hn := Lib.hid hn;have Hm := Lib.hid hm;have Hp := Lib.hid hp;have HR := Lib.hid hR;have HL := Lib.hid hl;clear hn hm hp hR hl
 go_enter Tryz.func169, Tryz.ntmps169
 go_wp2
 go_loopw [11, 15] (fun cr i wr => ∃ (k : Nat) (zs : List Nat) (cy : Int), k <= n /\ i = .int .i64 (k : Int) /\ cr = .int .i64 cy /\ CInv xs ys x y k zs cy /\ zs.length = n /\ BlkN wr g zs /\ Mod w wr g) (fun _ i _ => n - (intOf i).toNat)
 case atStart => exact ⟨0, zs0, 0, Nat.zero_le _, rfl, rfl, ⟨hw, by omega, by omega, by simp [val]⟩, Hn.out, hblk0, Mod.refl _ _⟩
 case round =>
  obtain ⟨k, zs, cy, hk, rfl, rfl, hinv, hzl, hblk, hmod⟩ := hrel;have c1 := hinv.lo;have c2 := hinv.hi;have HI := Lib.hid hinv;have Hzl := Lib.hid hzl;clear hinv hzl
  by_cases hlt : k < n
  ·have lx : k < xs.length := by have := Hm.out; omega
   have ly : k < ys.length := by have := Hp.out; omega
   have lz : k < zs.length := by have := Hzl.out; omega
   obtain ⟨ba, oa, rfl, _, ca⟩ := (hx.mod hmod hap).at_ lx;obtain ⟨bb, ob, rfl, _, cb⟩ := (hy.mod hmod hbp).at_ ly;have wa := hx.1.get lx;have wb := hy.1.get ly;have cz0 := hblk.cell lz;have fz := hblk.frozen k;obtain ⟨p1, p2, q1, q2, s1, s2⟩ := comb_bound wa wb hs hx1 hx2 hy1 hy2;have hst := HI.out.step lx ly lz (s := cy + (x * (xs[k] : Int) + y * (ys[k] : Int))) rfl (by omega) (by omega);have wz := HI.out.w32.get lz;generalize xs[k] = a at *;generalize ys[k] = b at *;generalize zs[k] = z at *;have E1 : IntKind.i64.wrap (x * (a : Int)) = x * (a : Int) := IntWalk.i64_in _ (by omega);have E2 : IntKind.i64.wrap (y * (b : Int)) = y * (b : Int) := IntWalk.i64_in _ (by omega);have E3 : IntKind.i64.wrap (x * (a : Int) + y * (b : Int)) = x * (a : Int) + y * (b : Int) := IntWalk.i64_in _ (by omega);have E4 : IntKind.i64.wrap (cy + (x * (a : Int) + y * (b : Int))) = cy + (x * (a : Int) + y * (b : Int)) := IntWalk.i64_in _ (by omega);have HS := Lib.hid hst;clear hst;have i1 : (k : Int) < (n : Int) := by omega
   go_upto_region 5 with (fail)
   go_quiet (fail)
   clear E1 E2 E3 E4;generalize cy + (x * (a : Int) + y * (b : Int)) = S at *;have hsv : S % 4294967296 = ((S % 4294967296).toNat : Int) := (Int.toNat_of_nonneg (Int.emod_nonneg S (by decide))).symm;have HSV := Lib.hid hsv;clear hsv
   go_wp2_with fail
   go_roundw
   case rel => exact ⟨k + 1, zs.set k (S % 4294967296).toNat, S / 4294967296, by omega, by go_num, rfl, HS.out, by rw [List.length_set]; exact Hzl.out, (hblk.drewN nq).set k HSV.out, (hmod.drewN nq).setCell _ _⟩
   case measure => simp [intOf]; omega
  ·obtain rfl : k = n := by omega
   have hv := HI.out.done Hm.out Hp.out Hzl.out HR.out HL.out;have HV := Lib.hid hv;have wz := HI.out.w32;clear hv
   go_wp2_with fail
   refine (int_trimN (xs := zs) Hzl.out (hblk.rd0 wz) hcz Hczm.out).mono ?_;rintro e w3 ⟨rfl, rfl⟩
   go_wp2_with fail
   go_ret
   exact ⟨zs, rfl, Hzl.out, wz, hblk, HV.out, hmod⟩
end
end
section
/-! a multiple is subtracted in place -/
structure SmInv (zs0 ys : List Nat) (q k : Nat) (zs : List Nat) (cy : Nat) : Prop where
 len : zs.length = zs0.length
 w32 : W32 zs
 hcy : cy < 4294967296
 rest : zs.drop k = zs0.drop k
 eq : val (zs.take k) + val (ys.take k) * q = val (zs0.take k) + 4294967296 ^ k * cy
theorem SmInv.start {zs0 ys : List Nat} {q : Nat} (h : W32 zs0) : SmInv zs0 ys q 0 zs0 0 := ⟨rfl, h, by omega, rfl, by simp [val]⟩
theorem SmInv.at_ {zs0 ys zs : List Nat} {q k cy : Nat} (h : SmInv zs0 ys q k zs cy) (hk : k < zs.length) : zs[k] = zs0.getD k 0 := by
 have := congrArg (fun l : List Nat => l.getD 0 0) h.rest;simp only [List.getD, List.getElem?_drop, Nat.add_zero] at this;rw [List.getElem?_eq_getElem hk] at this
 simpa [List.getD] using this
theorem sm_step_eq {p cy y q z d b a c e s lo hi : Nat} (h : a + c * q = e + p * cy) (hs : s = cy + y * q) (hp : p * lo + p * 4294967296 * hi = p * s) (he : d + lo = z + 4294967296 * b) :
  a + p * d + (c + p * y) * q = e + p * z + p * 4294967296 * (hi + b) := by
 subst hs;have e1 := congrArg (fun n => p * n) he;simp only [Nat.mul_add, <- Nat.mul_assoc] at e1 hp;rw [Nat.add_mul, Nat.mul_add (p * 4294967296)];omega
theorem SmInv.step {zs0 ys zs : List Nat} {q k cy d b : Nat} (h : SmInv zs0 ys q k zs cy) (hy : W32 ys) (hq : q < 4294967296) (hk : k < zs.length) (hky : k < ys.length) {s : Nat} (hs : s = cy + ys[k] * q) (hd : d < 4294967296) (_hb : b <= 1)
  (he : d + s % 4294967296 = zs[k] + 4294967296 * b) : SmInv zs0 ys q (k + 1) (zs.set k d) (s / 4294967296 + b) := by
 have h2 := mul_word (hy.get hky) hq;have h3 := h.hcy;refine ⟨by simpa using h.len, h.w32.set _ hd, ?_, ?_, ?_⟩
 ·generalize ys[k] * q = t at *
  omega
 ·rw [drop_set_succ, <- List.drop_drop, h.rest, List.drop_drop]
 ·rw [val_take_set _ hk, val_take_getD zs0, val_take_getD ys, <- h.at_ hk, getD_at hky, Nat.pow_succ]
  have hp := pow_carry k s;rw [Nat.pow_succ] at hp;exact sm_step_eq h.eq hs hp he
theorem SmInv.done {zs0 ys zs : List Nat} {q cy d b : Nat} (h : SmInv zs0 ys q ys.length zs cy) (hl : zs0.length = ys.length + 1) (he : d + cy = zs0.getD ys.length 0 + 4294967296 * b) :
  val (zs.set ys.length d) + val ys * q = val zs0 + 4294967296 ^ (ys.length + 1) * b := by
 have hk : ys.length < zs.length := by have := h.len; omega
 have e := h.eq;rw [List.take_of_length_le (l := ys) (Nat.le_refl _)] at e;have e1 := val_take_set (zs := zs) (k := ys.length) d hk;rw [List.take_of_length_le (by simp; have := h.len; omega)] at e1;have e2 := val_take_getD zs0 ys.length;rw [List.take_of_length_le (by omega)] at e2;have e3 := congrArg (fun n => 4294967296 ^ ys.length * n) he;simp only [Nat.mul_add] at e3;rw [e1, e2, Nat.pow_succ, Nat.mul_assoc];omega
/-! the estimate of a word: v1 and v2 are the two first words of the divisor, top the two first words of the part, u2 the third; E is the unit of the words that follow. -/
structure Est (E v1 v2 u2 top D P : Nat) : Prop where
 d1 : E * (v2 + 4294967296 * v1) <= D
 d2 : D < E * (v2 + 4294967296 * v1) + E
 p1 : E * (u2 + 4294967296 * top) <= P
 p2 : P < E * (u2 + 4294967296 * top) + E
 hv2 : v2 < 4294967296
 hu2 : u2 < 4294967296
 hv : 2147483648 <= v1
 hv1 : v1 < 4294967296
 lt : P < 4294967296 * D
section
variable {E v1 v2 u2 top D P q r : Nat}
theorem Est.first (h : Est E v1 v2 u2 top D P) : P < (top / v1 + 1) * D := by
 have hq : top + 1 <= (top / v1 + 1) * v1 := by
  have := Nat.div_add_mod top v1;have h2 := Nat.mod_lt top (show 0 < v1 by have := h.hv; omega);rw [Nat.add_mul, Nat.mul_comm (top / v1)];omega
 have h1 : E * (u2 + 4294967296 * top) + E <= E * (4294967296 * ((top / v1 + 1) * v1)) := by
  have : u2 + 4294967296 * top + 1 <= 4294967296 * ((top / v1 + 1) * v1) := by have := h.hu2; omega
  have := Nat.mul_le_mul_left E this
  rwa [Nat.mul_add, Nat.mul_one] at this
 have h2 : E * (4294967296 * ((top / v1 + 1) * v1)) <= (top / v1 + 1) * D := by
  have e : E * (4294967296 * ((top / v1 + 1) * v1)) = (top / v1 + 1) * (E * (4294967296 * v1)) := by
   rw [<- Nat.mul_assoc 4294967296, Nat.mul_comm 4294967296, Nat.mul_assoc, Nat.mul_left_comm]
  rw [e];refine Nat.mul_le_mul_left _ (Nat.le_trans ?_ h.d1);exact Nat.mul_le_mul_left _ (by omega)
 have := h.p2;omega
theorem Est.big (h : Est E v1 v2 u2 top D P) (hq : 4294967296 <= q) : P < (q - 1 + 1) * D := by
 rw [show q - 1 + 1 = q by omega];have := Nat.mul_le_mul_right D hq;have := h.lt;omega
theorem Est.over (h : Est E v1 v2 u2 top D P) (hr : q * v1 + r = top) (hg : r * 4294967296 + u2 < q * v2) : P < (q - 1 + 1) * D := by
 have hq0 : 0 < q := by
  rcases Nat.eq_zero_or_pos q with rfl | h
  ·rw [Nat.zero_mul] at hg; omega
  ·exact h
 rw [show q - 1 + 1 = q by omega]
 have h1 : E * (u2 + 4294967296 * top) + E <= E * (q * v2 + 4294967296 * (q * v1)) := by
  have : u2 + 4294967296 * top + 1 <= q * v2 + 4294967296 * (q * v1) := by rw [<- hr]; omega
  have := Nat.mul_le_mul_left E this
  rwa [Nat.mul_add, Nat.mul_one] at this
 have h2 : E * (q * v2 + 4294967296 * (q * v1)) <= q * D := by
  have e : E * (q * v2 + 4294967296 * (q * v1)) = q * (E * (v2 + 4294967296 * v1)) := by
   rw [Nat.mul_left_comm 4294967296, <- Nat.mul_add, Nat.mul_left_comm]
  rw [e];exact Nat.mul_le_mul_left _ h.d1
 have := h.p2;omega
theorem Est.last (h : Est E v1 v2 u2 top D P) (hr : q * v1 + r = top) (hq : q < 4294967296) (hg : q * v2 <= r * 4294967296 + u2) : q * D <= P + D := by
 have h1 : q * D <= q * (E * (v2 + 4294967296 * v1)) + q * E := by
  rw [<- Nat.mul_add];exact Nat.mul_le_mul_left _ (Nat.le_of_lt h.d2)
 have h2 : q * (E * (v2 + 4294967296 * v1)) <= E * (u2 + 4294967296 * top) := by
  have e : q * (E * (v2 + 4294967296 * v1)) = E * (q * v2 + 4294967296 * (q * v1)) := by
   rw [Nat.mul_left_comm 4294967296, <- Nat.mul_add, Nat.mul_left_comm]
  rw [e];exact Nat.mul_le_mul_left _ (by rw [<- hr]; omega)
 have h3 : q * E <= D := by
  have : q * E <= E * (v2 + 4294967296 * v1) := by
   rw [Nat.mul_comm];exact Nat.mul_le_mul_left _ (by have := h.hv; omega)
  have := h.d1;omega
 have := h.p1;omega
theorem Est.out (h : Est E v1 v2 u2 top D P) (hr : q * v1 + r = top) (hg : 4294967296 <= r) : q < 4294967296 /\ q * v2 <= r * 4294967296 + u2 := by
 have hE : 0 < E := by
  rcases Nat.eq_zero_or_pos E with h0 | h0
  ·have := h.d2; rw [h0] at this; have := h.d1; rw [h0] at this; omega
  ·exact h0
 have h1 : E * (u2 + 4294967296 * top) < E * (4294967296 * (v2 + 4294967296 * v1 + 1)) := by
  refine Nat.lt_of_le_of_lt h.p1 (Nat.lt_of_lt_of_le h.lt ?_);rw [Nat.mul_left_comm];refine Nat.mul_le_mul_left _ ?_;rw [Nat.mul_add, Nat.mul_one];exact Nat.le_of_lt h.d2
 have h2 := Nat.lt_of_mul_lt_mul_left h1;have hv2 := h.hv2;have hv := h.hv
 have hq : q < 4294967296 := by
  rcases Nat.lt_or_ge q 4294967296 with hl | hl
  ·exact hl
  ·have := Nat.mul_le_mul_right v1 hl
   omega
 refine ⟨hq, ?_⟩;have h3 : q * v2 <= 4294967296 * 4294967296 := Nat.mul_le_mul (by omega) (by omega);omega
end
theorem Est.of {ps ds : List Nat} {n : Nat} (hp : W32 ps) (hd : W32 ds) (hpl : ps.length = n + 2 + 1) (hdl : ds.length = n + 2) (hv : 2147483648 <= ds[n + 1]) (hlt : val ps < 4294967296 * val ds) :
  Est (4294967296 ^ n) ds[n + 1] ds[n] ps[n] (ps[n + 1] + 4294967296 * ps[n + 2]) (val ds) (val ps) := by
 have d1 := val_take_succ ds n (by omega);have d2 := val_take_succ ds (n + 1) (by omega);rw [List.take_of_length_le (by omega)] at d2;have p1 := val_take_succ ps n (by omega);have p2 := val_take_succ ps (n + 1) (by omega);have p3 := val_take_succ ps (n + 2) (by omega);rw [List.take_of_length_le (by omega)] at p3;have ld := val_lt (hd.take n);have lp := val_lt (hp.take n);rw [List.length_take, Nat.min_eq_left (by omega)] at ld lp;have hv2 := hd.get (k := n) (by omega);have hv1 := hd.get (k := n + 1) (by omega);have hu2 := hp.get (k := n) (by omega)
 have e1 : val ds = val (ds.take n) + 4294967296 ^ n * (ds[n] + 4294967296 * ds[n + 1]) := by
  rw [d2, d1, Nat.mul_add, Nat.pow_succ, Nat.mul_assoc]; omega
 have e2 : val ps = val (ps.take n) + 4294967296 ^ n * (ps[n] + 4294967296 * (ps[n + 1] + 4294967296 * ps[n + 2])) := by
  rw [p3, p2, p1];simp only [Nat.pow_succ];generalize 4294967296 ^ n = p
  grind
 exact ⟨by omega, by omega, by omega, by omega, hv2, hu2, hv, hv1, hlt⟩
theorem Est.ofn {ps ds : List Nat} {n : Nat} (hp : W32 ps) (hd : W32 ds) (h2 : 2 <= n) (hpl : ps.length = n + 1) (hdl : ds.length = n) (hv : 2147483648 <= ds[n - 1]) (hlt : val ps < 4294967296 * val ds) :
  Est (4294967296 ^ (n - 2)) ds[n - 1] ds[n - 2] ps[n - 2] (ps[n] * 4294967296 + ps[n - 1]) (val ds) (val ps) := by
 obtain ⟨k, rfl⟩ : ∃ k, n = k + 2 := ⟨n - 2, by omega⟩;have h := Est.of hp hd hpl hdl hv hlt;have e : ps[k + 2] * 4294967296 + ps[k + 1] = ps[k + 1] + 4294967296 * ps[k + 2] := by omega
 rw [<- e] at h;exact h
/-! the rounds of the division -/
structure LInv (D N L K i : Nat) (R Q : List Nat) : Prop where
 rl : R.length = L
 rw : W32 R
 ql : Q.length = K
 qw : W32 Q
 lt : val (R.drop i) < D
 eq : val R + 4294967296 ^ i * val (Q.drop i) * D = N
theorem val_drop_succ (xs : List Nat) (i : Nat) (h : i < xs.length) : val (xs.drop i) = xs[i] + 4294967296 * val (xs.drop (i + 1)) := by
 rw [List.drop_eq_getElem_cons h]; rfl
theorem LInv.part {D N L K i n : Nat} {R Q : List Nat} (h : LInv D N L K (i + 1) R Q) (hi : i < K) (hL : n + K = L) (hD : D < 4294967296 ^ n) :
  val (R.drop (i + n + 1)) = 0 /\ val ((R.drop i).take (n + 1)) = val (R.drop i) /\ val ((R.drop i).take (n + 1)) < 4294967296 * D := by
 have hr := h.rl;have e1 := val_drop_succ R i (by omega);have hx := h.rw.get (k := i) (by omega);have hlt := h.lt;have h1 : val (R.drop i) < 4294967296 * D := by omega
 have e2 := val_split (R.drop i) (n + 1) (by rw [List.length_drop]; omega);rw [List.drop_drop, <- Nat.add_assoc, Nat.pow_succ] at e2
 have h0 : val (R.drop (i + n + 1)) = 0 := by
  rcases Nat.eq_zero_or_pos (val (R.drop (i + n + 1))) with h0 | h0
  ·exact h0
  ·have : 4294967296 ^ (n + 1) * 1 <= 4294967296 ^ (n + 1) * val (R.drop (i + n + 1)) := Nat.mul_le_mul_left _ h0
   rw [Nat.pow_succ] at this;omega
 rw [h0, Nat.mul_zero] at e2;exact ⟨h0, by omega, by omega⟩
theorem LInv.step {D N L K i n w : Nat} {R Q ps : List Nat} (h : LInv D N L K (i + 1) R Q) (hi : i < K) (hL : n + K = L) (hD : D < 4294967296 ^ n) (hps : ps.length = n + 1) (hpw : W32 ps) (hw : w < 4294967296)
  (hlt : val ps < D) (he : val ps + w * D = val ((R.drop i).take (n + 1))) : LInv D N L K i (R.take i ++ ps ++ R.drop (i + n + 1)) (Q.set i w) := by
 obtain ⟨h0, h1, _⟩ := h.part hi hL hD;have hr := h.rl;have hq := h.ql;have htl : (R.take i).length = i := by rw [List.length_take]; omega
 have hd : val ((R.take i ++ ps ++ R.drop (i + n + 1)).drop i) = val ps := by
  rw [List.append_assoc, List.drop_append_of_le_length (by omega), List.drop_of_length_le (by omega), List.nil_append, val_append, h0, Nat.mul_zero, Nat.add_zero]
 refine ⟨?_, ((h.rw.take _).append hpw).append (h.rw.drop _), by simpa using hq, h.qw.set _ hw, by rw [hd]; exact hlt, ?_⟩
 ·simp only [List.length_append, htl, hps, List.length_drop, hr]; omega
 ·have e := h.eq
  have eR := val_split R i (by omega)
  have e2 : val (R.take i ++ ps ++ R.drop (i + n + 1)) = val (R.take i) + 4294967296 ^ i * val ps := by
   rw [val_append, h0, Nat.mul_zero, Nat.add_zero, val_append, htl]
  have e3 : val ((Q.set i w).drop i) = w + 4294967296 * val (Q.drop (i + 1)) := by
   rw [val_drop_succ _ i (by simp; omega), drop_set_succ];simp
  rw [e2, e3, <- e, eR, <- h1, <- he, Nat.pow_succ];generalize 4294967296 ^ i = p;generalize val (Q.drop (i + 1)) = t;rw [Nat.mul_add p w, Nat.add_mul, Nat.mul_add p (val ps), <- Nat.mul_assoc p w D, <- Nat.mul_assoc p 4294967296 t];omega
theorem LInv.start {a b s la lb : Nat} {R : List Nat} {Q : List Nat} (hR : R.length = la + 1) (hRw : W32 R) (hQ : Q = List.replicate (la - lb + 1) 0) (hv : val R = a * 2 ^ s) (hab : lb <= la) (h1 : 0 < lb) (ha : a < 4294967296 ^ la) (hb : 4294967296 ^ (lb - 1) <= b) :
  LInv (b * 2 ^ s) (a * 2 ^ s) (la + 1) (la - lb + 1) (la - lb + 1) R Q := by
 subst hQ;refine ⟨hR, hRw, by simp, W32.replicate _, ?_, ?_⟩
 ·rw [val_drop hRw, hv]
  refine Nat.div_lt_of_lt_mul ?_;rw [<- Nat.mul_assoc];refine Nat.mul_lt_mul_of_pos_right ?_ (Nat.two_pow_pos s);refine Nat.lt_of_lt_of_le ha ?_;have e : 4294967296 ^ la = 4294967296 ^ (la - lb + 1) * 4294967296 ^ (lb - 1) := by rw [<- Nat.pow_add]; congr 1; omega
  rw [e];exact Nat.mul_le_mul_left _ hb
 ·rw [List.drop_of_length_le (by simp), hv]
  simp [val]
theorem LInv.done {a b s L K : Nat} {R Q : List Nat} (h : LInv (b * 2 ^ s) (a * 2 ^ s) L K 0 R Q) : val Q = a / b /\ val R / 2 ^ s = a % b := by
 have hp := Nat.two_pow_pos s;have e := h.eq;have hl := h.lt;rw [List.drop_zero] at e hl;rw [Nat.pow_zero, Nat.one_mul] at e;have hb : 0 < b * 2 ^ s := by omega
 have e1 : val Q = a * 2 ^ s / (b * 2 ^ s) := by
  rw [<- e, Nat.add_mul_div_right _ _ hb, Nat.div_eq_of_lt hl, Nat.zero_add]
 have e2 : val R = a * 2 ^ s % (b * 2 ^ s) := by
  rw [<- e, Nat.add_mul_mod_self_right, Nat.mod_eq_of_lt hl]
 refine ⟨by rw [e1, Nat.mul_div_mul_right _ _ hp], ?_⟩;rw [e2, Nat.mul_mod_mul_right, Nat.mul_div_cancel _ hp]
theorem sub_fit {P D w p1 : Nat} (h1 : P < (w + 1) * D) (h2 : p1 + D * w = P) : p1 < D /\ p1 + w * D = P := by
 rw [Nat.add_mul, Nat.one_mul] at h1;rw [Nat.mul_comm D] at h2;omega
theorem sub_back {P D w p1 p2 M c : Nat} (h1 : P < w * D) (h2 : w * D <= P + D) (h3 : p1 + D * w = P + M) (h4 : p2 + M * c = p1 + D) (hc : c <= 1) (h5 : p2 < M) : 0 < w /\ p2 < D /\ p2 + (w - 1) * D = P := by
 have hw : 0 < w := by
  rcases Nat.eq_zero_or_pos w with rfl | h
  ·rw [Nat.zero_mul] at h1; omega
  ·exact h
 obtain ⟨v, rfl⟩ : ∃ v, w = v + 1 := ⟨w - 1, by omega⟩;rw [Nat.mul_comm D] at h3;rw [Nat.add_mul, Nat.one_mul] at h1 h2 h3;rw [Nat.add_sub_cancel];generalize v * D = T at *;obtain rfl | rfl : c = 0 \/ c = 1 := by omega
 ·rw [Nat.mul_zero] at h4; omega
 ·rw [Nat.mul_one] at h4; omega
/-! division by a word -/
structure DwInv (xs zs : List Nat) (v i r : Nat) : Prop where
 len : zs.length = xs.length
 w32 : W32 zs
 lt : r < v
 eq : val (xs.drop i) = val (zs.drop i) * v + r
theorem DwInv.start {xs zs : List Nat} {v : Nat} (hl : zs.length = xs.length) (hw : W32 zs) (hv : 0 < v) : DwInv xs zs v xs.length 0 := by
 refine ⟨hl, hw, hv, ?_⟩;rw [List.drop_of_length_le (Nat.le_refl _), List.drop_of_length_le (by omega)];simp [val]
theorem dw_lt {v r x : Nat} (hr : r < v) (hx : x < 4294967296) : (r * 4294967296 + x) / v < 4294967296 := by
 rw [Nat.div_lt_iff_lt_mul (by omega)];have : (r + 1) * 4294967296 <= v * 4294967296 := Nat.mul_le_mul_right _ hr;rw [Nat.mul_comm 4294967296];omega
theorem DwInv.step {xs zs : List Nat} {v i r : Nat} (h : DwInv xs zs v (i + 1) r) (hx : W32 xs) (hi : i < xs.length) :
  DwInv xs (zs.set i ((r * 4294967296 + xs[i]) / v)) v i ((r * 4294967296 + xs[i]) % v) := by
 have hl := h.len;have hlt := h.lt;have hq := dw_lt hlt (hx.get hi);refine ⟨by simpa using hl, h.w32.set _ hq, Nat.mod_lt _ (by omega), ?_⟩;rw [val_drop_succ xs i hi, val_drop_succ _ i (by simp; omega), drop_set_succ, h.eq];simp only [List.getElem_set_self];have e := Nat.div_add_mod (r * 4294967296 + xs[i]) v;rw [Nat.mul_comm v] at e;rw [Nat.add_mul, Nat.mul_assoc];omega
theorem DwInv.done {xs zs : List Nat} {v r : Nat} (h : DwInv xs zs v 0 r) : val zs = val xs / v /\ r = val xs % v := by
 have e := h.eq;have hl := h.lt;rw [List.drop_zero, List.drop_zero] at e;rw [e, Nat.mul_comm, Nat.mul_add_div (by omega), Nat.div_eq_of_lt hl, Nat.mul_add_mod, Nat.mod_eq_of_lt hl];exact ⟨rfl, rfl⟩
end
section
open Go.RowKit
theorem high_or {a b : Nat} (ha : a < 4294967296) (hb : b < 4294967296) : bits .or .u64 ((b : Int) * 4294967296) (a : Int) = ((b * 4294967296 + a : Nat) : Int) := by
 have e : (b : Int) * 4294967296 = ((b * 4294967296 : Nat) : Int) := by rw [Int.natCast_mul]; rfl
 rw [e];rw [u64_or_nat (b * 4294967296) a (by omega) (by omega)];have := Nat.two_pow_add_eq_or_of_lt (i := 32) (show a < 2 ^ 32 by omega) b;rw [Nat.mul_comm b];exact congrArg Int.ofNat this.symm
theorem wrap_u64_nat {a : Nat} (h : a < 18446744073709551616) : IntKind.u64.wrap (a : Int) = (a : Int) := by rw [IntKind.wrap_u64]; omega
theorem est_dec {q r v T : Nat} (h : q * v + r = T) (hq : 1 <= q) : (q - 1) * v + (r + v) = T := by
 obtain ⟨p, rfl⟩ : ∃ p, q = p + 1 := ⟨q - 1, by omega⟩;rw [Nat.succ_mul] at h;rw [Nat.add_sub_cancel];omega
theorem est_ret {q : Nat} {X : Int} (h : q < 4294967296) (hX : X = (q : Int)) : Ending.returned (.int .u32 (X % 4294967296)) = .returned (.int .u32 (q : Int)) := by
 subst hX;rw [show ((q : Nat) : Int) % 4294967296 = (q : Int) by omega]
theorem est_ret2 {q : Nat} {X : Int} (hX : X = (q : Int)) : Ending.returned (.int .u32 X) = .returned (.int .u32 (q : Int)) := by rw [hX]
section
variable {A B : Option Addr} {c d n m : Nat} {xs ys : List Nat} {w : World} {s t : Bool}
theorem int_divideByWord {g cz v : Nat} {zs0 : List Nat} (hblk0 : BlkN w g zs0) (hn : zs0.length = n) (hw : W32 zs0) (hv0 : 0 < v) (hv : v < 4294967296) (h1 : n <= 1000000) :
  Calls Tryz.prog 170 #[.slice (some ⟨g, 0, none⟩) n cz, .int .u32 (v : Int)] w fun e w' => ∃ zs, e = .returned (.int .u32 ((val zs0 % v : Nat) : Int)) /\ zs.length = n /\ W32 zs /\ BlkN w' g zs /\ val zs = val zs0 / v /\ Mod w w' g := by
 subst hn;have hz0 : ((v : Int) == 0) = false := by rw [beq_eq_false_iff_ne]; omega
 have hp1 : (1 : Int) <= (v : Int) := by omega
 go_enter Tryz.func170, Tryz.ntmps170
 go_wp2
 go_loopw [5, 6] (fun r i wr => ∃ (k p : Nat) (zs : List Nat), k <= zs0.length /\ i = .int .i64 ((k : Int) - 1) /\ r = .int .u64 (p : Int) /\ DwInv zs0 zs v k p /\ zs.take k = zs0.take k /\ BlkN wr g zs /\ Mod w wr g) (fun _ i _ => (intOf i + 1).toNat)
 case atStart => exact ⟨zs0.length, 0, zs0, by omega, rfl, rfl, DwInv.start rfl hw hv0, rfl, hblk0, Mod.refl _ _⟩
 case round =>
  obtain ⟨k, p, zs, hk, rfl, rfl, hinv, htk, hblk, hmod⟩ := hrel;have hpv := hinv.lt;have hzl := hinv.len
  rcases k with _ | j
  ·have Hd := Lib.hid hinv.done
   rw [show (((0 : Nat) : Int) - 1) = -1 from rfl];have hp32 : p < 4294967296 := by omega
   go_wp2
   go_ret
   exact ⟨zs, by rw [Hd.out.2]; rfl, hzl, hinv.w32, hblk, Hd.out.1, hmod⟩
  ·rw [show (((j + 1 : Nat) : Int) - 1) = (j : Int) by omega]
   have hc := hblk.cell (i := j) (by omega)
   have hzj : zs[j]'(by omega) = zs0[j]'(by omega) := by
    have := congrArg (fun l : List Nat => l[j]?) htk
    simpa [List.getElem?_take, List.getElem?_eq_getElem, show j < zs.length by omega, show j < zs0.length by omega] using this
   rw [hzj] at hc;have hst := hinv.step hw (by omega)
   have htk2 : (zs.set j ((p * 4294967296 + zs0[j]'(by omega)) / v)).take j = zs0.take j := by
    rw [take_set_self];have := congrArg (fun l : List Nat => l.take j) htk
    simpa [List.take_take] using this
   have hx := hw.get (k := j) (by omega);have hq := dw_lt hpv hx;have hor := high_or (b := p) hx (by omega);have hnl : p * 4294967296 + zs0[j]'(by omega) < 18446744073709551616 := by omega
   generalize zs0[j]'(by omega) = X at *;generalize p * 4294967296 + X = NV at *;have hr := Nat.mod_lt NV hv0;have hq' : (NV : Int).tdiv (v : Int) = ((NV / v : Nat) : Int) := rfl;have hr' : (NV : Int).tmod (v : Int) = ((NV % v : Nat) : Int) := rfl;generalize NV / v = U at *;generalize NV % v = V at *;have hwu := wrap_u64_nat (a := U) (by omega);have hwv := wrap_u64_nat (a := V) (by omega);have hfz := hblk.frozen j;have Hst := Lib.hid hst;have Htk := Lib.hid htk2;clear hst htk2 htk hzj hinv
   go_wp2
   go_roundw
   case rel => exact ⟨j, V, _, by omega, rfl, rfl, Hst.out, Htk.out, hblk.set j rfl, hmod.setCell _ _⟩
   case measure => simp [intOf]
theorem int_estimate {ps ds : List Nat} (hpl : ps.length = n + 1) (hdl : ds.length = n) (h2 : 2 <= n) (hp : Rd w A ps) (hd : Rd w B ds) (hv : 2147483648 <= ds[n - 1]'(by omega)) (hlt : val ps < 4294967296 * val ds) (h1 : n <= 100000) :
  Calls Tryz.prog 178 #[.slice A (n + 1) c, .slice B n d] w fun e w' => ∃ q : Nat, e = .returned (.int .u32 (q : Int)) /\ q < 4294967296 /\ val ps < (q + 1) * val ds /\ q * val ds <= val ps + val ds /\ Ext w w' := by
 have hE := Est.ofn hp.1 hd.1 h2 hpl hdl hv hlt;obtain ⟨b1, o1, rfl, hb1, c0⟩ := hp.at_ (i := n) (by omega);obtain ⟨b1', o1', he, _, c1⟩ := hp.at_ (i := n - 1) (by omega)
 injection he with he
 injection he with he1 he2
 subst he1; subst he2;obtain ⟨b1', o1', he, _, c2⟩ := hp.at_ (i := n - 2) (by omega)
 injection he with he
 injection he with he1 he2
 subst he1; subst he2;obtain ⟨b2, o2, rfl, hb2, d1⟩ := hd.at_ (i := n - 1) (by omega);obtain ⟨b2', o2', he, _, d2⟩ := hd.at_ (i := n - 2) (by omega)
 injection he with he
 injection he with he1 he2
 subst he1; subst he2;have hu0 := hp.1.get (k := n) (by omega);have hu1 := hp.1.get (k := n - 1) (by omega);have hu2 := hp.1.get (k := n - 2) (by omega);have hv1 := hd.1.get (k := n - 1) (by omega);have hv2 := hd.1.get (k := n - 2) (by omega);have hor := high_or hu1 hu0;have hnl : ps[n]'(by omega) * 4294967296 + ps[n - 1]'(by omega) < 18446744073709551616 := by omega
 generalize ps[n]'(by omega) = U0 at *;generalize ps[n - 1]'(by omega) = U1 at *;generalize ps[n - 2]'(by omega) = U2 at *;generalize ds[n - 1]'(by omega) = V1 at *;generalize ds[n - 2]'(by omega) = V2 at *;generalize U0 * 4294967296 + U1 = T at *;have hz0 : ((V1 : Int) == 0) = false := by rw [beq_eq_false_iff_ne]; omega
 have hp1 : (1 : Int) <= (V1 : Int) := by omega
 have hfirst := hE.first;have hdm : T / V1 * V1 + T % V1 = T := by rw [Nat.mul_comm]; exact Nat.div_add_mod T V1
 have hr := Nat.mod_lt T (show 0 < V1 by omega);have hq' : (T : Int).tdiv (V1 : Int) = ((T / V1 : Nat) : Int) := rfl;have hr' : (T : Int).tmod (V1 : Int) = ((T % V1 : Nat) : Int) := rfl;generalize T / V1 = Q at *;generalize T % V1 = R at *;generalize val ps = P at *;generalize val ds = D at *
 have hQ : Q < 18446744073709551616 := by
  have : Q * 1 <= Q * V1 := Nat.mul_le_mul_left _ (by omega);omega
 have hwu := wrap_u64_nat hQ;have hwv := wrap_u64_nat (a := R) (by omega);have Hpl := Lib.hid hpl;have Hdl := Lib.hid hdl;have Hfirst := Lib.hid hfirst;have Hdm := Lib.hid hdm;have HE := Lib.hid hE;clear hpl hdl hfirst hdm hE hlt
 go_enter Tryz.func178, Tryz.ntmps178
 go_wp2
 go_quiet (fail)
 go_wp2
 go_quiet (fail)
 go_wp2
 go_quiet (fail)
 go_wp2
 go_loopw [9, 10] (fun x y wr => ∃ (q r : Nat), x = .int .u64 (q : Int) /\ y = .int .u64 (r : Int) /\ P < (q + 1) * D /\ q * V1 + r = T /\ r < 4294967296 /\ Ext w wr) (fun _ y _ => 4294967296 - (intOf y).toNat)
 case atStart => exact ⟨Q, R, rfl, rfl, Hfirst.out, Hdm.out, by omega, by first | exact (Ext.refl w).drewN _ | exact ((Ext.refl w).drewN _).drewN _ | exact (((Ext.refl w).drewN _).drewN _).drewN _⟩
 case round =>
  obtain ⟨q, r, rfl, rfl, hP, hT, hr32, hext⟩ := hrel;have cu := hext.cellv c2
  have hql : q <= T := by
   have : q * 1 <= q * V1 := Nat.mul_le_mul_left _ (by omega);omega
  by_cases hbig : 4294967296 <= q
  ·have d1 : decide ((4294967296 : Int) <= (q : Int)) = true := decide_eq_true (by omega)
   have HP' := Lib.hid (HE.out.big hbig);have hq0 : 1 <= (q : Int) := by omega
   have HT' := Lib.hid (est_dec hT (by omega));clear hP hT
   by_cases hout : 4294967296 <= r + V1
   ·have d2 : decide ((4294967296 : Int) <= (r : Int) + (V1 : Int)) = true := decide_eq_true (by omega)
    have Hout := Lib.hid (HE.out.out HT'.out hout)
    go_wp2
    go_ret
    exact ⟨q - 1, by first | exact est_ret Hout.out.1 (by omega) | exact est_ret2 (by omega), Hout.out.1, HP'.out, HE.out.last HT'.out Hout.out.1 Hout.out.2, hext⟩
   ·have d2 : decide ((4294967296 : Int) <= (r : Int) + (V1 : Int)) = false := decide_eq_false (by omega)
    go_wp2
    go_roundw
    case rel => exact ⟨q - 1, r + V1, congrArg (Value.int .u64) (by omega), congrArg (Value.int .u64) (by omega), HP'.out, HT'.out, by omega, hext⟩
    case measure => simp [intOf]; omega
  ·have d1 : decide ((4294967296 : Int) <= (q : Int)) = false := decide_eq_false (by omega)
   have hor2 := high_or (b := r) hu2 hr32;have hM : (q : Int) * (V2 : Int) = ((q * V2 : Nat) : Int) := (Int.natCast_mul q V2).symm;have hMl := mul_word (x := q) (w := V2) (by omega) hv2;have hover : r * 4294967296 + U2 < q * V2 -> P < (q - 1 + 1) * D := fun h => HE.out.over hT h
   have hlast : q * V2 <= r * 4294967296 + U2 -> q * D <= P + D := fun h => HE.out.last hT (by omega) h
   have hq00 : q = 0 -> q * V2 = 0 := fun h => by rw [h, Nat.zero_mul]
   have hN2l : r * 4294967296 + U2 < 18446744073709551616 := by omega
   generalize q * V2 = M at *;generalize r * 4294967296 + U2 = N2 at *;have Hlast := Lib.hid hlast;have hwm := wrap_u64_nat (a := M) (by omega)
   by_cases hgt : N2 < M
   ·have HP' := Lib.hid (hover hgt)
    have d3 : decide ((N2 : Int) < (M : Int)) = true := decide_eq_true (by omega);clear hover hlast;have hq0 : 1 <= (q : Int) := by omega
    have HT' := Lib.hid (est_dec hT (by omega));clear hP hT
    by_cases hout : 4294967296 <= r + V1
    ·have d2 : decide ((4294967296 : Int) <= (r : Int) + (V1 : Int)) = true := decide_eq_true (by omega)
     have Hout := Lib.hid (HE.out.out HT'.out hout)
     go_wp2
     go_ret
     exact ⟨q - 1, by first | exact est_ret Hout.out.1 (by omega) | exact est_ret2 (by omega), Hout.out.1, HP'.out, HE.out.last HT'.out Hout.out.1 Hout.out.2, hext⟩
    ·have d2 : decide ((4294967296 : Int) <= (r : Int) + (V1 : Int)) = false := decide_eq_false (by omega)
     go_wp2
     go_roundw
     case rel => exact ⟨q - 1, r + V1, congrArg (Value.int .u64) (by omega), congrArg (Value.int .u64) (by omega), HP'.out, HT'.out, by omega, hext⟩
     case measure => simp [intOf]; omega
   ·have d3 : decide ((N2 : Int) < (M : Int)) = false := decide_eq_false (by omega)
    have HP := Lib.hid hP;clear hover hlast hP hT
    go_wp2
    go_ret
    exact ⟨q, by first | exact est_ret (by omega) rfl | exact est_ret2 rfl, by omega, HP.out, Hlast.out (by omega), hext⟩
end
end
end Go.Proofs.YtgagcochepnelaaGreatDoor
