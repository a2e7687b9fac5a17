/- Walks and laws, a part. -/
import Derived.Test.YtijdljfnmdoffaaGreatDoorQ7
import Derived.Test.YtijdljfnmdoffaaGreatDoorQ5
import Derived.Test.YtijdljfnmdoffaaGreatDoorQ6
import Derived.Test.YtijdljfnmdoffaaGreatDoorQ11
import Derived.Test.YtijdljfnmdoffaaGreatDoorQ10
set_option linter.unusedSimpArgs false
set_option linter.unusedVariables false
set_option maxHeartbeats 64000000
namespace Go.Proofs.YtijdljfnmdoffaaGreatDoor
open Go.RowKit
attribute [local go_sem ↓] Go.wp_at_zero Go.wp_at_succ
section
variable {w w' : World} {q x : Rat} {L M : Nat} {s t : Bool} {A B : Option Addr} {n c m d : Nat} {sx tx : Bool} {Ax Bx : Option Addr} {nx cx mx dx : Nat} {qs ps : List Rat} {rs : List RawR} {ts us : List (List RawR)}
set_option maxRecDepth 100000 in
theorem p_Mul1T {g : Nat} {x : Rat} (h : NR w x L sx Ax nx cx tx Bx mx dx) (ha : Pol w A n c (q :: qs) M) (hb : Box w g 23 #[.slice A n c]) (hL : L <= 1000) (hM : M <= 1000) (h64 : min L M < 64) (hT : Tab w) : Calls Tryz.prog 62 #[.agg #[.bool sx, .slice Ax nx cx, .bool tx, .slice Bx mx dx], .pointer (some ⟨g, 0, Option.none⟩)] w (RetNR (q * x) (M + L) w) := by
 have hlen := ha.len;rw [List.length_cons] at hlen;have hn0 : 0 < n := by omega
 obtain ⟨b, off, rfl, hr⟩ := ha.at_ (fun e => by cases e)
 go_enter Tryz.func62, Tryz.ntmps62
 go_upto_region 1 with (fail)
 obtain ⟨W, hW, extW, bx, bz, hz⟩ := box2 w 30 30 #[.bool sx, .slice Ax nx cx, .bool tx, .slice Bx mx dx] #[Value.bool false, Value.slice none 0 0, Value.bool false, Value.slice none 0 0];rw [<- hW];clear hW;have hb1 := hb.ext extW;obtain ⟨sy, Ay, ny, cy, ty, By, my, dy, p0, p1, p2, p3, hq⟩ := (hr.ext extW).at_ 0 (by rw [List.length_cons]; omega);rw [List.getElem_cons_zero] at hq;rw [Nat.mul_zero, Nat.add_zero] at p0 p1 p2 p3;refine wpL.st 5 (fun hQ ES => ?_);refine wpL.t 0 4 ?v_0 hQ ?y_0 ES ?_
 case y_0 => intro w' hSw;have q0_ := hSw.cellv p0;have q1_ := hSw.cellv p1;have q2_ := hSw.cellv p2;have q3_ := hSw.cellv p3;have k00 := (bx.ext hSw).c4;have k10 := (hb1.ext hSw).cell 0 _ rfl;go_simp;try rfl
 try simp only [zP]
 refine wpL.t 3 7 ?v_1 hQ ?y_1 ES ?_
 case y_1 => intro w' hSw;have q0_ := hSw.cellv p0;have q1_ := hSw.cellv p1;have q2_ := hSw.cellv p2;have q3_ := hSw.cellv p3;have k00 := (bx.ext hSw).c4;have k10 := (hb1.ext hSw).cell 0 _ rfl;go_simp;try rfl
 try simp only [zP]
 refine wpL.t 1 5 ?v_2 hQ ?y_2 ES ?_
 case y_2 => intro w' hSw;have q0_ := hSw.cellv p0;have q1_ := hSw.cellv p1;have q2_ := hSw.cellv p2;have q3_ := hSw.cellv p3;go_simp;try rfl
 try simp only [zP]
 refine wpL.t 2 6 ?v_3 hQ ?y_3 ES ?_
 case y_3 => intro w' hSw;have q0_ := hSw.cellv p0;have q1_ := hSw.cellv p1;have q2_ := hSw.cellv p2;have q3_ := hSw.cellv p3;have k00 := (bx.ext hSw).c4;have k10 := (hb1.ext hSw).cell 0 _ rfl;go_simp;try rfl
 try simp only [zP]
 refine wpL.cl (i := 4) rfl (fun K hK => ?_);go_simp
 (go_at_call 63; refine (p_MulR (hq.ext ES) (h.ext (extW.trans ES)) (by omega) (by omega) (by omega) (hT.ext (extW.trans ES))).mono ?_; rintro e V ⟨s7, A7, n7, c7, t7, B7, m7, d7, rfl, h7, hx0⟩; have E0_1 := Ext.trans ES hx0)
 refine hK.out _ _ E0_1 ?_;clear hK K
 try simp only [zP]
 have z0 := (bz.ext E0_1).cell 0 _ rfl;have z1 := (bz.ext E0_1).cell 1 _ rfl;have z2 := (bz.ext E0_1).cell 2 _ rfl;have z3 := (bz.ext E0_1).cell 3 _ rfl;have f0 := (bz.ext E0_1).frozen 0;have f1 := (bz.ext E0_1).frozen 1;have f2 := (bz.ext E0_1).frozen 2;have f3 := (bz.ext E0_1).frozen 3;refine wpL.tl (i := 5) rfl (fun K hK => ?_);go_simp;refine hK.out _ _ ?_;clear hK K
 try simp only [zP]
 refine wpL.done (by kernel_rfl) ?_ _;clear hQ
 go_wp2_with fail
 obtain ⟨b1, b2, b3, b4⟩ := fin_quad (s := s7) (A := A7) (n := n7) (c := c7) (t := t7) (B := B7) (m := m7) (d := d7) (bz.ext E0_1);have r0 := b1.cell 0 (.bool s7) rfl;have r1 := b1.cell 1 (.slice A7 n7 c7) rfl;have r2 := b1.cell 2 (.bool t7) rfl;have r3 := b1.cell 3 (.slice B7 m7 d7) rfl;unfold set4 at r0 r1 r2 r3;refine bodyPost_ret (v := .agg #[.bool s7, .slice A7 n7 c7, .bool t7, .slice B7 m7 d7]) (by simp [results, Tryz.results62, go_sem, r0, r1, r2, r3]) rfl ⟨s7, A7, n7, c7, t7, B7, m7, d7, rfl, ⟨?_, ?_⟩, b3 _ (extW.trans E0_1) (by omega)⟩
 ·exact b2 _ _ _ _ _ _ h7.num
 ·exact b2 _ _ _ _ _ _ h7.den
set_option maxRecDepth 100000 in
theorem p_Mul2T {g : Nat} {x : Rat} (h : NR w x L sx Ax nx cx tx Bx mx dx) (ha : Pol w A n c (q :: qs) M) (hb : Box w g 23 #[.slice A n c]) (hL : L <= 1000) (hM : M <= 1000) (h64 : min L M < 64) (hT : Tab w) : Calls Tryz.prog 64 #[.agg #[.bool sx, .slice Ax nx cx, .bool tx, .slice Bx mx dx], .pointer (some ⟨g, 0, Option.none⟩)] w (RetNR (x * q) (L + M) w) := by
 have hlen := ha.len;rw [List.length_cons] at hlen;have hn0 : 0 < n := by omega
 obtain ⟨b, off, rfl, hr⟩ := ha.at_ (fun e => by cases e)
 go_enter Tryz.func64, Tryz.ntmps64
 go_upto_region 1 with (fail)
 obtain ⟨W, hW, extW, bx, bz, hz⟩ := box2 w 30 30 #[.bool sx, .slice Ax nx cx, .bool tx, .slice Bx mx dx] #[Value.bool false, Value.slice none 0 0, Value.bool false, Value.slice none 0 0];rw [<- hW];clear hW;have hb1 := hb.ext extW;obtain ⟨sy, Ay, ny, cy, ty, By, my, dy, p0, p1, p2, p3, hq⟩ := (hr.ext extW).at_ 0 (by rw [List.length_cons]; omega);rw [List.getElem_cons_zero] at hq;rw [Nat.mul_zero, Nat.add_zero] at p0 p1 p2 p3;refine wpL.st 5 (fun hQ ES => ?_);refine wpL.t 0 4 ?v_0 hQ ?y_0 ES ?_
 case y_0 => intro w' hSw;have q0_ := hSw.cellv p0;have q1_ := hSw.cellv p1;have q2_ := hSw.cellv p2;have q3_ := hSw.cellv p3;have k00 := (bx.ext hSw).c4;have k10 := (hb1.ext hSw).cell 0 _ rfl;go_simp;try rfl
 try simp only [zP]
 refine wpL.t 1 5 ?v_1 hQ ?y_1 ES ?_
 case y_1 => intro w' hSw;have q0_ := hSw.cellv p0;have q1_ := hSw.cellv p1;have q2_ := hSw.cellv p2;have q3_ := hSw.cellv p3;have k00 := (bx.ext hSw).c4;have k10 := (hb1.ext hSw).cell 0 _ rfl;go_simp;try rfl
 try simp only [zP]
 refine wpL.t 2 6 ?v_2 hQ ?y_2 ES ?_
 case y_2 => intro w' hSw;have q0_ := hSw.cellv p0;have q1_ := hSw.cellv p1;have q2_ := hSw.cellv p2;have q3_ := hSw.cellv p3;go_simp;try rfl
 try simp only [zP]
 refine wpL.t 3 7 ?v_3 hQ ?y_3 ES ?_
 case y_3 => intro w' hSw;have q0_ := hSw.cellv p0;have q1_ := hSw.cellv p1;have q2_ := hSw.cellv p2;have q3_ := hSw.cellv p3;have k00 := (bx.ext hSw).c4;have k10 := (hb1.ext hSw).cell 0 _ rfl;go_simp;try rfl
 try simp only [zP]
 refine wpL.cl (i := 4) rfl (fun K hK => ?_);go_simp
 (go_at_call 63; refine (p_MulR (h.ext (extW.trans ES)) (hq.ext ES) (by omega) (by omega) (by omega) (hT.ext (extW.trans ES))).mono ?_; rintro e V ⟨s7, A7, n7, c7, t7, B7, m7, d7, rfl, h7, hx0⟩; have E0_1 := Ext.trans ES hx0)
 refine hK.out _ _ E0_1 ?_;clear hK K
 try simp only [zP]
 have z0 := (bz.ext E0_1).cell 0 _ rfl;have z1 := (bz.ext E0_1).cell 1 _ rfl;have z2 := (bz.ext E0_1).cell 2 _ rfl;have z3 := (bz.ext E0_1).cell 3 _ rfl;have f0 := (bz.ext E0_1).frozen 0;have f1 := (bz.ext E0_1).frozen 1;have f2 := (bz.ext E0_1).frozen 2;have f3 := (bz.ext E0_1).frozen 3;refine wpL.tl (i := 5) rfl (fun K hK => ?_);go_simp;refine hK.out _ _ ?_;clear hK K
 try simp only [zP]
 refine wpL.done (by kernel_rfl) ?_ _;clear hQ
 go_wp2_with fail
 obtain ⟨b1, b2, b3, b4⟩ := fin_quad (s := s7) (A := A7) (n := n7) (c := c7) (t := t7) (B := B7) (m := m7) (d := d7) (bz.ext E0_1);have r0 := b1.cell 0 (.bool s7) rfl;have r1 := b1.cell 1 (.slice A7 n7 c7) rfl;have r2 := b1.cell 2 (.bool t7) rfl;have r3 := b1.cell 3 (.slice B7 m7 d7) rfl;unfold set4 at r0 r1 r2 r3;refine bodyPost_ret (v := .agg #[.bool s7, .slice A7 n7 c7, .bool t7, .slice B7 m7 d7]) (by simp [results, Tryz.results64, go_sem, r0, r1, r2, r3]) rfl ⟨s7, A7, n7, c7, t7, B7, m7, d7, rfl, ⟨?_, ?_⟩, b3 _ (extW.trans E0_1) (by omega)⟩
 ·exact b2 _ _ _ _ _ _ h7.num
 ·exact b2 _ _ _ _ _ _ h7.den
set_option maxRecDepth 100000 in
theorem p_each6_Mul1 (h : Pol w A n c qs L) (hL : L <= 900) (hn : n <= 1000) {gy : Nat} {D : Option Addr} {l e0 : Nat} (ha : Pol w D l e0 (q :: ps) M) (hb : Box w gy 23 #[.slice D l e0]) (hM : M <= 900) (h64 : min L M < 64) (hT : Tab w) : Calls Tryz.prog 61 #[.slice A n c, (.func (.func 62) #[] #[.pointer (some ⟨gy, 0, Option.none⟩)])] w (fun e w' => e = .returned (.slice (some ⟨w.heap.size, 0, none⟩) n n) /\ RRow w' w.heap.size (qs.map (fun x : Rat => q * x)) ((M + L)) /\ Ext w w') := by
 have hmk := mk_rats n (by omega);have Hlen := Lib.hid h.len
 go_enter Tryz.func61, Tryz.ntmps61
 go_wp2_with fail
 go_loopw [12] (fun i wr => ∃ k : Nat, k <= n /\ i = .int .i64 (k : Int) /\ Ext w wr /\ Fill wr w.heap.size n ((qs.take k).map (fun x : Rat => q * x)) ((M + L))) (fun i _ => n - (intOf i).toNat)
 case atStart => exact ⟨0, Nat.zero_le _, rfl, (Ext.refl w).alloc _, Fill.new w n _⟩
 case round =>
  obtain ⟨k, hk, rfl, ext, hF⟩ := hrel
  by_cases hlt : k < n
  ·have hj : k < qs.length := by rw [Hlen.out]; exact hlt
   obtain ⟨b, off, rfl, hr⟩ := h.at_ (fun e => by rw [e] at hj; exact absurd hj (Nat.not_lt_zero _));obtain ⟨sx, Ax, nx, cx, tx, Bx, mx, dx, e0, e1, e2, e3, hx⟩ := (hr.ext ext).at_ k hj;have e0' : wr.cell? ⟨b, off + k * 4, none⟩ = some (.bool sx) := by rw [Nat.mul_comm]; exact e0
   have e1' : wr.cell? ⟨b, off + k * 4 + 1, none⟩ = some (.slice Ax nx cx) := by rw [Nat.mul_comm]; exact e1
   have e2' : wr.cell? ⟨b, off + k * 4 + 2, none⟩ = some (.bool tx) := by rw [Nat.mul_comm]; exact e2
   have e3' : wr.cell? ⟨b, off + k * 4 + 3, none⟩ = some (.slice Bx mx dx) := by rw [Nat.mul_comm]; exact e3
   have HT := Lib.hid (show (qs.take (k + 1)).map (fun x : Rat => q * x) = (qs.take k).map (fun x : Rat => q * x) ++ [(fun x : Rat => q * x) qs[k]] by rw [List.take_succ_eq_append_getElem hj, List.map_append]; rfl);have hkl : ((qs.take k).map (fun x : Rat => q * x)).length = k := by rw [List.length_map, List.length_take, Hlen.out]; omega
   go_wp2_with fail
   refine (p_Mul1T hx (ha.ext ext) (hb.ext ext) (by omega) (by omega) (by omega) (hT.ext ext)).mono ?_;rintro e V ⟨s7, A7, n7, c7, t7, B7, m7, d7, rfl, h7, hxt⟩;replace hF := hF.ext hxt;replace ext := ext.trans hxt;have hcs := hF.cells (by rw [hkl]; exact hlt);rw [hkl] at hcs;obtain ⟨p0, p1, p2, p3⟩ := hcs;have f0 := hF.frozen (k * 4);have f1 := hF.frozen (k * 4 + 1);have f2 := hF.frozen (k * 4 + 2);have f3 := hF.frozen (k * 4 + 3)
   go_wp2_with fail
   have P := hF.put hkl hlt h7
   go_roundw
   case rel => exact ⟨k + 1, by omega, by go_num, P.2.2.1 _ ext (Nat.le_refl _), by rw [HT.out]; exact P.1⟩
   case measure => simp [intOf]; omega
  ·have hkn : k = n := by omega
   subst hkn;have hml : ((qs.take k).map (fun x : Rat => q * x)).length = k := by rw [List.length_map, List.length_take, Hlen.out]; omega
   have hp := hF.rrow hml;rw [List.take_of_length_le (Nat.le_of_eq Hlen.out)] at hp
   go_wp2_with fail
   go_ret
   exact ⟨rfl, hp, ext⟩
set_option maxRecDepth 100000 in
theorem p_each6_Mul2 (h : Pol w A n c qs L) (hL : L <= 900) (hn : n <= 1000) {gy : Nat} {D : Option Addr} {l e0 : Nat} (ha : Pol w D l e0 (q :: ps) M) (hb : Box w gy 23 #[.slice D l e0]) (hM : M <= 900) (h64 : min L M < 64) (hT : Tab w) : Calls Tryz.prog 61 #[.slice A n c, (.func (.func 64) #[] #[.pointer (some ⟨gy, 0, Option.none⟩)])] w (fun e w' => e = .returned (.slice (some ⟨w.heap.size, 0, none⟩) n n) /\ RRow w' w.heap.size (qs.map (fun x : Rat => x * q)) ((L + M)) /\ Ext w w') := by
 have hmk := mk_rats n (by omega);have Hlen := Lib.hid h.len
 go_enter Tryz.func61, Tryz.ntmps61
 go_wp2_with fail
 go_loopw [12] (fun i wr => ∃ k : Nat, k <= n /\ i = .int .i64 (k : Int) /\ Ext w wr /\ Fill wr w.heap.size n ((qs.take k).map (fun x : Rat => x * q)) ((L + M))) (fun i _ => n - (intOf i).toNat)
 case atStart => exact ⟨0, Nat.zero_le _, rfl, (Ext.refl w).alloc _, Fill.new w n _⟩
 case round =>
  obtain ⟨k, hk, rfl, ext, hF⟩ := hrel
  by_cases hlt : k < n
  ·have hj : k < qs.length := by rw [Hlen.out]; exact hlt
   obtain ⟨b, off, rfl, hr⟩ := h.at_ (fun e => by rw [e] at hj; exact absurd hj (Nat.not_lt_zero _));obtain ⟨sx, Ax, nx, cx, tx, Bx, mx, dx, e0, e1, e2, e3, hx⟩ := (hr.ext ext).at_ k hj;have e0' : wr.cell? ⟨b, off + k * 4, none⟩ = some (.bool sx) := by rw [Nat.mul_comm]; exact e0
   have e1' : wr.cell? ⟨b, off + k * 4 + 1, none⟩ = some (.slice Ax nx cx) := by rw [Nat.mul_comm]; exact e1
   have e2' : wr.cell? ⟨b, off + k * 4 + 2, none⟩ = some (.bool tx) := by rw [Nat.mul_comm]; exact e2
   have e3' : wr.cell? ⟨b, off + k * 4 + 3, none⟩ = some (.slice Bx mx dx) := by rw [Nat.mul_comm]; exact e3
   have HT := Lib.hid (show (qs.take (k + 1)).map (fun x : Rat => x * q) = (qs.take k).map (fun x : Rat => x * q) ++ [(fun x : Rat => x * q) qs[k]] by rw [List.take_succ_eq_append_getElem hj, List.map_append]; rfl);have hkl : ((qs.take k).map (fun x : Rat => x * q)).length = k := by rw [List.length_map, List.length_take, Hlen.out]; omega
   go_wp2_with fail
   refine (p_Mul2T hx (ha.ext ext) (hb.ext ext) (by omega) (by omega) (by omega) (hT.ext ext)).mono ?_;rintro e V ⟨s7, A7, n7, c7, t7, B7, m7, d7, rfl, h7, hxt⟩;replace hF := hF.ext hxt;replace ext := ext.trans hxt;have hcs := hF.cells (by rw [hkl]; exact hlt);rw [hkl] at hcs;obtain ⟨p0, p1, p2, p3⟩ := hcs;have f0 := hF.frozen (k * 4);have f1 := hF.frozen (k * 4 + 1);have f2 := hF.frozen (k * 4 + 2);have f3 := hF.frozen (k * 4 + 3)
   go_wp2_with fail
   have P := hF.put hkl hlt h7
   go_roundw
   case rel => exact ⟨k + 1, by omega, by go_num, P.2.2.1 _ ext (Nat.le_refl _), by rw [HT.out]; exact P.1⟩
   case measure => simp [intOf]; omega
  ·have hkn : k = n := by omega
   subst hkn;have hml : ((qs.take k).map (fun x : Rat => x * q)).length = k := by rw [List.length_map, List.length_take, Hlen.out]; omega
   have hp := hF.rrow hml;rw [List.take_of_length_le (Nat.le_of_eq Hlen.out)] at hp
   go_wp2_with fail
   go_ret
   exact ⟨rfl, hp, ext⟩
end
section
variable {w : World} {A : Option Addr} {n c L : Nat} {qs : List Rat}
theorem and_oneT : ∀ r : Fin 1001, (bits BinOp.and IntKind.i64 ((r.val : Nat) : Int) 1 == 1) = decide (r.val % 2 = 1) := by decide +kernel
def belB (p i : Nat) : Bool := decide (p / 2 ^ i % 2 = 1)
theorem p_belongsT (w : World) (p i : Nat) (hp : p <= 1000) (hi : i <= 16) : Calls Tryz.prog 75 #[.int .i64 (p : Int), .int .i64 (i : Int)] w fun e w' => e = .returned (.bool (belB p i)) /\ Ext w w' := by
 have hle : p / 2 ^ i <= p := Nat.div_le_self _ _;have h1 : (p : Int) / 2 ^ i = ((p / 2 ^ i : Nat) : Int) := by push_cast; rfl
 unfold belB;generalize p / 2 ^ i = r at hle h1;have hr1 : r <= 1000 := by omega
 go_enter Tryz.func75, Tryz.ntmps75
 go_upto_region 1 with (fail)
 go_wp2_with fail
 have hb := and_oneT ⟨r, by omega⟩;simp only at hb
 go_ret
 rw [hb];exact ⟨rfl, Ext.refl _⟩
def chaB (qs : List Rat) (i : Nat) : Bool := (List.range qs.length).any fun p => belB p i && !decide (qs.getD p 0 = 0)
theorem p_changesT {i0 : Nat} (h : Pol w A n c qs L) (hi : i0 <= 16) (hL : L <= 1000) (hn : n <= 1000) : Calls Tryz.prog 74 #[.slice A n c, .int .i64 (i0 : Int)] w fun e w' => e = .returned (.bool (chaB qs i0)) /\ Ext w w' := by
 have Hlen := Lib.hid h.len
 go_enter Tryz.func74, Tryz.ntmps74
 go_wp2_with fail
 go_loopw [9] (fun i wr => ∃ k : Nat, k <= n /\ i = .int .i64 (k : Int) /\ Ext w wr /\ ∀ j, j < k -> (belB j i0 && !decide (qs.getD j 0 = 0)) = false) (fun i _ => n - (intOf i).toNat)
 case atStart => exact ⟨0, by omega, rfl, Ext.refl _, fun j hj => by omega⟩
 case round =>
  obtain ⟨k, hk, rfl, ext, hall⟩ := hrel;have HA := Lib.hid hall;clear hall
  by_cases hlt : k < n
  ·have hj : k < qs.length := by rw [Hlen.out]; exact hlt
   have hI : (k : Int) < (n : Int) := by omega
   obtain ⟨p, off, rfl, hr⟩ := h.at_ (fun e => by rw [e] at hj; exact absurd hj (Nat.not_lt_zero _));obtain ⟨sx, Ax, nx, cx, tx, Bx, mx, dx, e0, e1, e2, e3, hx⟩ := (hr.ext ext).at_ k hj;have e0' : wr.cell? ⟨p, off + k * 4, none⟩ = some (.bool sx) := by rw [Nat.mul_comm]; exact e0
   have e1' : wr.cell? ⟨p, off + k * 4 + 1, none⟩ = some (.slice Ax nx cx) := by rw [Nat.mul_comm]; exact e1
   have e2' : wr.cell? ⟨p, off + k * 4 + 2, none⟩ = some (.bool tx) := by rw [Nat.mul_comm]; exact e2
   have e3' : wr.cell? ⟨p, off + k * 4 + 3, none⟩ = some (.slice Bx mx dx) := by rw [Nat.mul_comm]; exact e3
   have HG := Lib.hid (show qs.getD k 0 = qs[k] by rw [List.getD_eq_getElem?_getD, List.getElem?_eq_getElem hj]; rfl)
   have HM := Lib.hid (fun hf : (belB k i0 && !decide (qs.getD k 0 = 0)) = true => show chaB qs i0 = true by
    unfold chaB;rw [List.any_eq_true];exact ⟨k, List.mem_range.2 hj, hf⟩)
   have HN := Lib.hid (fun hf : (belB k i0 && !decide (qs.getD k 0 = 0)) = false => show ∀ j, j < k + 1 -> (belB j i0 && !decide (qs.getD j 0 = 0)) = false from fun j hj => by
    rcases Nat.lt_or_ge j k with q | q
    ·exact HA.out j q
    ·have e : j = k := by omega
     rw [e];exact hf)
   generalize qs[k] = r at hx HG;rw [HG.out] at HM HN
   go_upto_region 4 with (fail)
   obtain ⟨W, hW, extW, bx, hz⟩ := box1 wr 30 #[.bool sx, .slice Ax nx cx, .bool tx, .slice Bx mx dx];rw [<- hW];clear hW hz e0 e1 e2 e3 e0' e1' e2' e3';replace hx := hx.ext extW;replace ext := ext.trans extW
   cases hb : belB k i0 with
   | false =>
    have HB := Lib.hid hb;clear hb
    go_wp2_with fail
    refine (p_belongsT _ k i0 (by omega) hi).mono ?_;rintro e V0 ⟨rfl, hx0⟩;rw [HB.out]
    go_wp2_with fail
    go_roundw
    case rel => exact ⟨k + 1, by omega, by go_num, ext.trans hx0, HN.out (by rw [HB.out]; rfl)⟩
    case measure => simp [intOf]; omega
   | true =>
    have HB := Lib.hid hb;clear hb
    go_wp2_with fail
    refine (p_belongsT _ k i0 (by omega) hi).mono ?_;rintro e V0 ⟨rfl, hx0⟩;rw [HB.out];replace bx := bx.ext hx0;replace hx := hx.ext hx0;replace ext := ext.trans hx0;have x0 := bx.cell 0 (.bool sx) rfl;have x1 := bx.cell 1 (.slice Ax nx cx) rfl;have x2 := bx.cell 2 (.bool tx) rfl;have x3 := bx.cell 3 (.slice Bx mx dx) rfl
    by_cases hq : r = 0
    ·have HS := Lib.hid (num_zeroT hq)
     have HQ := Lib.hid hq;clear hq
     go_wp2_with fail
     refine (p_SignR hx (by omega)).mono ?_;rintro e V ⟨rfl, hxt⟩;rw [HS.out]
     go_wp2_with fail
     go_roundw
     case rel => exact ⟨k + 1, by omega, by go_num, ext.trans hxt, HN.out (by rw [decide_eq_true HQ.out]; simp)⟩
     case measure => simp [intOf]; omega
    ·obtain ⟨S, hS, dS⟩ : ∃ S, r.num.sign = S /\ (S == 0) = false := ⟨_, rfl, beq_eq_false_iff_ne.2 (num_nzT hq)⟩
     have HS := Lib.hid hS;have HQ := Lib.hid hq;clear hS hq
     go_wp2_with fail
     refine (p_SignR hx (by omega)).mono ?_;rintro e V ⟨rfl, hxt⟩;rw [HS.out]
     go_wp2_with fail
     go_ret
     exact ⟨by rw [HM.out (by rw [HB.out, decide_eq_false HQ.out]; rfl)]; rfl, ext.trans hxt⟩
  ·have hkn : k = n := by omega
   have hI : (n : Int) <= (k : Int) := by omega
   go_wp2_with fail
   go_ret
   refine ⟨?_, ext⟩
   have hc : chaB qs i0 = false := by
    unfold chaB;rw [List.any_eq_false];intro j hj;rw [HA.out j (by rw [hkn, <- Hlen.out]; exact List.mem_range.1 hj)];simp
   rw [hc]; rfl
end
section
variable {w w' : World} {q x : Rat} {L M : Nat} {s t : Bool} {A B : Option Addr} {n c m d : Nat} {sx tx : Bool} {Ax Bx : Option Addr} {nx cx mx dx : Nat} {qs ps : List Rat} {rs : List RawR} {ts us : List (List RawR)}
def flipL (i : Nat) (qs : List Rat) : List Rat := qs.mapIdx fun p q => if belB p i = true then -q else q
theorem flipL_snoc (i : Nat) (qs : List Rat) (q : Rat) : flipL i (qs ++ [q]) = flipL i qs ++ [if belB qs.length i = true then -q else q] := by
 unfold flipL;rw [List.mapIdx_concat]
end
section
variable {w w' : World} {q x : Rat} {L M : Nat} {s t : Bool} {A B : Option Addr} {n c m d : Nat} {sx tx : Bool} {Ax Bx : Option Addr} {nx cx mx dx : Nat} {qs ps : List Rat} {rs : List RawR} {ts us : List (List RawR)}
theorem flipL_length (i : Nat) (qs : List Rat) : (flipL i qs).length = qs.length := by unfold flipL; rw [List.length_mapIdx]
def RetConj (b : Bool) (qs : List Rat) (L : Nat) (w : World) (e : Ending) (w' : World) : Prop :=
 match b with
 | true => ∃ A n c, e = .returned (.tuple #[.slice A n c, .bool true]) /\ Pol w' A n c qs L /\ Ext w w'
 | false => e = .returned (.tuple #[.slice Option.none 0 0, .bool false]) /\ Ext w w'
end
section
variable {w w' : World} {q x : Rat} {L M : Nat} {s t : Bool} {A B : Option Addr} {n c m d : Nat} {sx tx : Bool} {Ax Bx : Option Addr} {nx cx mx dx : Nat} {qs ps : List Rat} {rs : List RawR} {ts us : List (List RawR)}
theorem PolT.dropT {b o k L : Nat} {ts : List (List Rat)} (h : PolT w (some ⟨b, o, Option.none⟩) n c ts L) (hk : k <= n) : PolT w (some ⟨b, o + k, Option.none⟩) (n - k) (c - k) (ts.drop k) L := by
 refine ⟨by rw [List.length_drop, h.len], by have := h.cap; omega, by have := h.top; omega, fun hq => ?_⟩;obtain ⟨b', o', h1, h2⟩ := h.at_ (fun e => hq (by rw [e]; simp))
 injection h1 with h1
 injection h1 with q1 q2
 subst q1 q2;refine ⟨b, o + k, rfl, fun i hi => ?_⟩;rw [List.length_drop] at hi;obtain ⟨A', n', c', h3, h4⟩ := h2 (k + i) (by omega);rw [List.getElem_drop];exact ⟨A', n', c', by rw [Nat.add_assoc]; exact h3, h4⟩
theorem PolT.nilT {L : Nat} (w : World) (A : Option Addr) (c : Nat) (hc : c <= maxLen) : PolT w A 0 c [] L := ⟨rfl, Nat.zero_le _, hc, fun h => absurd rfl h⟩
def conjC (ts : List (List Rat)) (i : Nat) : Bool := ts.all fun r => !chaB r i
theorem flip_set {i k : Nat} {qs : List Rat} (hk : k < qs.length) : (flipL i (qs.take k) ++ qs.drop k).set k (-qs[k]) = flipL i (qs.take k) ++ [-qs[k]] ++ qs.drop (k + 1) := by
 have hl : (flipL i (qs.take k)).length = k := by rw [flipL_length, List.length_take]; omega
 rw [List.drop_eq_getElem_cons hk, List.set_append_right _ _ (by omega), hl, Nat.sub_self, List.set_cons_zero, List.append_assoc]
 rfl
set_option maxRecDepth 100000 in
theorem p_ConjT {T : Option Addr} {nt ct i0 : Nat} {ts : List (List Rat)} (hp : PolT w T nt ct ts M) (ht : TowL ts) (hq0 : Pol w A n c qs L) (hm : n = 2 ^ nt) (hL : L <= 900) (hM : M <= 900) (hnt : nt <= 9) (hi0 : i0 < nt) (hT : Tab w) : Calls Tryz.prog 27 #[.slice T nt ct, .slice A n c, .int .i64 (i0 : Int)] w (RetConj (conjC (ts.drop (i0 + 1)) i0) (flipL i0 qs) L w) := by
 have HL := Lib.hid hp.len;have HQL := Lib.hid hq0.len
 have HTL := Lib.hid (fun r hr => show r.length <= 512 from by
  obtain ⟨j, hj, e⟩ := List.getElem_of_mem hr;rw [<- e, ht j hj];exact Nat.le_trans (Nat.pow_le_pow_right (by omega) (show j <= 9 by have := hp.len; omega)) (by decide) : ∀ r ∈ ts, r.length <= 512)
 have hct := hp.cap;have HM := Lib.hid hm;have hn5 : n <= 512 := by rw [hm]; exact Nat.le_trans (Nat.pow_le_pow_right (by omega) hnt) (by decide)
 clear hm;obtain ⟨b, off, rfl, hr⟩ := hp.at_ (fun e => by have := HL.out; rw [e] at this; simp at this; omega);have g1 : decide ((i0 : Int) < 0) = false := decide_eq_false (by omega);have g2 : decide ((nt : Int) <= (i0 : Int)) = false := decide_eq_false (by omega);have g3 : decide (nt <= i0) = false := decide_eq_false (by omega);have k1 : (i0 : Int) + 1 <= (nt : Int) := by omega
 have k2 : (i0 : Int) + 1 <= (ct : Int) := by omega
 have k3 : (nt : Int) <= (ct : Int) := by omega
 have hnb := Box.new w 23 #[.slice A n c];have e1 := (Ext.refl w).alloc (.cells #[.slice A n c] 23)
 go_enter Tryz.func27, Tryz.ntmps27
 go_wp2_with fail
 refine (p_formed1 (L := 900) ((hp.le hM).ext e1) ht hnb ((hq0.le hL).ext e1) HM.out (by omega) (by omega) (hT.ext e1)).mono ?_;rintro e V ⟨rfl, hxt⟩;have EW := e1.trans hxt;clear hnb e1 hxt
 go_wp2_with fail
 case' inl =>
  have hPT : PolT V (some ⟨b, off, Option.none⟩) (nt - (i0 + 1)) 0 (ts.drop (i0 + 1)) M := by
   rw [show nt - (i0 + 1) = 0 by omega, List.drop_of_length_le (by rw [HL.out]; omega)];exact PolT.nilT _ _ _ (Nat.zero_le _)
 case' inr =>
  have hPT := (hp.ext EW).dropT (k := i0 + 1) (by omega)
 all_goals
  have HDL := Lib.hid hPT.len
  go_loopw [33] (fun i wr => ∃ k : Nat, k <= nt - (i0 + 1) /\ i = .int .i64 (k : Int) /\ Ext V wr /\ conjC ((ts.drop (i0 + 1)).take k) i0 = true) (fun i _ => (nt - (i0 + 1)) - (intOf i).toNat)
  case atStart => exact ⟨0, Nat.zero_le _, rfl, Ext.refl _, by rw [List.take_zero]; rfl⟩
  case round =>
   obtain ⟨k, hk, rfl, ext, hall⟩ := hrel;have HA := Lib.hid hall;clear hall
   by_cases hlt : k < nt - (i0 + 1)
   ·have hj : k < (ts.drop (i0 + 1)).length := by rw [HDL.out]; exact hlt
    have hI : (k : Int) < ((nt - (i0 + 1) : Nat) : Int) := by omega
    obtain ⟨b', off', hb', hr'⟩ := hPT.at_ (fun e => by rw [e] at hj; exact absurd hj (Nat.not_lt_zero _))
    cases hb'
    obtain ⟨Aq, nq, cq, e0, hq⟩ := hr' k hj;replace e0 := ext.cellv e0;replace hq := hq.ext ext;have HNQ := Lib.hid (show nq <= 512 by rw [<- hq.len]; exact HTL.out _ (List.mem_of_mem_drop (List.getElem_mem hj)))
    have HT := Lib.hid (show conjC ((ts.drop (i0 + 1)).take (k + 1)) i0 = (conjC ((ts.drop (i0 + 1)).take k) i0 && !chaB (ts.drop (i0 + 1))[k] i0) by
     unfold conjC;rw [List.take_succ_eq_append_getElem hj, List.all_append];simp)
    have HF := Lib.hid (fun hf : chaB (ts.drop (i0 + 1))[k] i0 = true => show conjC (ts.drop (i0 + 1)) i0 = false by
     unfold conjC;rw [List.all_eq_false];exact ⟨(ts.drop (i0 + 1))[k], List.getElem_mem hj, by rw [hf]; decide⟩)
    generalize (ts.drop (i0 + 1))[k] = r at hq HT HF
    cases hcb : chaB r i0 with
    | false =>
     have HC := Lib.hid hcb;clear hcb
     go_wp2_with fail
     refine (p_changesT hq (by omega) (by omega) (by have := HNQ.out; omega)).mono ?_;rintro e V1 ⟨rfl, hx1⟩;rw [HC.out]
     go_wp2_with fail
     go_roundw
     case rel => exact ⟨k + 1, by omega, by go_num, ext.trans hx1, by rw [HT.out, HA.out, HC.out]; rfl⟩
     case measure => simp [intOf]; omega
    | true =>
     have HC := Lib.hid hcb;clear hcb
     go_wp2_with fail
     refine (p_changesT hq (by omega) (by omega) (by have := HNQ.out; omega)).mono ?_;rintro e V1 ⟨rfl, hx1⟩;rw [HC.out]
     go_wp2_with fail
     rw [HF.out HC.out];exact bodyPost_ret (v := .tuple #[.slice Option.none 0 0, .bool false]) (by simp [results, Tryz.results27, go_sem]) rfl ⟨rfl, (EW.trans ext).trans hx1⟩
   ·have hkn : k = nt - (i0 + 1) := by omega
    have hI : ((nt - (i0 + 1) : Nat) : Int) <= (k : Int) := by omega
    have hc := HA.out;rw [hkn, List.take_of_length_le (Nat.le_of_eq HDL.out)] at hc;have HC := Lib.hid hc;clear hc hkn
    go_wp2_with fail
    refine (p_each6_clone (hq0.ext (EW.trans ext)) hL (by omega)).mono ?_;rintro e V1 ⟨rfl, hR, hx1⟩;rw [show qs.map (fun x : Rat => x) = qs by simp] at hR;have hgr : w.heap.size <= wr.heap.size := (EW.trans ext).size;have E1 := (EW.trans ext).trans hx1;generalize wr.heap.size = g10 at hR hgr ⊢
    go_wp2_with fail
    go_loopw [45] (fun i wq => ∃ j : Nat, j <= n /\ i = .int .i64 (j : Int) /\ Ext w wq /\ RRow wq g10 (flipL i0 (qs.take j) ++ qs.drop j) L) (fun i _ => n - (intOf i).toNat)
    case atStart => exact ⟨0, Nat.zero_le _, rfl, E1, by rw [List.take_zero, List.drop_zero]; exact hR⟩
    case round =>
     clear hR E1;obtain ⟨j, hj, rfl, E2, hR⟩ := hrel
     by_cases hlt2 : j < n
     ·have hjq : j < qs.length := by rw [HQL.out]; exact hlt2
      have hI2 : (j : Int) < (n : Int) := by omega
      obtain ⟨b2, off2, rfl, hr2⟩ := hq0.at_ (fun e => by rw [e] at hjq; exact absurd hjq (Nat.not_lt_zero _));obtain ⟨sx, Ax, nx, cx, tx, Bx, mx, dx, e0, e1, e2, e3, hx⟩ := (hr2.ext E2).at_ j hjq;have e0' : wr.cell? ⟨b2, off2 + j * 4, none⟩ = some (.bool sx) := by rw [Nat.mul_comm]; exact e0
      have e1' : wr.cell? ⟨b2, off2 + j * 4 + 1, none⟩ = some (.slice Ax nx cx) := by rw [Nat.mul_comm]; exact e1
      have e2' : wr.cell? ⟨b2, off2 + j * 4 + 2, none⟩ = some (.bool tx) := by rw [Nat.mul_comm]; exact e2
      have e3' : wr.cell? ⟨b2, off2 + j * 4 + 3, none⟩ = some (.slice Bx mx dx) := by rw [Nat.mul_comm]; exact e3
      have hkl : j < (flipL i0 (qs.take j) ++ qs.drop j).length := by rw [List.length_append, flipL_length, List.length_take, List.length_drop]; omega
      have hF0 := flipL_snoc i0 (qs.take j) qs[j];rw [<- List.take_succ_eq_append_getElem hjq, List.length_take, Nat.min_eq_left (Nat.le_of_lt hjq)] at hF0;have HFS := Lib.hid hF0;have HDS := Lib.hid (List.drop_eq_getElem_cons hjq);have HSS := Lib.hid (flip_set (i := i0) hjq);clear hF0;generalize qs[j] = q at hx HFS HDS HSS
      go_upto_region 13 with (fail)
      obtain ⟨W9, hW9, ext9, bx, hz9⟩ := box1 wr 30 #[.bool sx, .slice Ax nx cx, .bool tx, .slice Bx mx dx];rw [<- hW9];clear hW9 hz9 e0 e1 e2 e3 e0' e1' e2' e3';replace hx := hx.ext ext9;replace hR := hR.ext ext9;replace E2 := E2.trans ext9
      cases hcb : belB j i0 with
      | false =>
       have HC2 := Lib.hid hcb;clear hcb
       go_wp2_with fail
       refine (p_belongsT _ j i0 (by omega) (by omega)).mono ?_;rintro e V2 ⟨rfl, hx2⟩;rw [HC2.out]
       go_wp2_with fail
       go_roundw
       case rel =>
        refine ⟨j + 1, by omega, by go_num, E2.trans hx2, ?_⟩;have h9 := hR.ext hx2;rw [HDS.out] at h9;rw [HFS.out, HC2.out, List.append_assoc];exact h9
       case measure => simp [intOf]; omega
      | true =>
       have HC2 := Lib.hid hcb;clear hcb
       go_wp2_with fail
       refine (p_belongsT _ j i0 (by omega) (by omega)).mono ?_;rintro e V2 ⟨rfl, hx2⟩;rw [HC2.out];replace bx := bx.ext hx2;replace hx := hx.ext hx2;replace hR := hR.ext hx2;replace E2 := E2.trans hx2;have x0 := bx.cell 0 (.bool sx) rfl;have x1 := bx.cell 1 (.slice Ax nx cx) rfl;have x2 := bx.cell 2 (.bool tx) rfl;have x3 := bx.cell 3 (.slice Bx mx dx) rfl
       go_wp2_with fail
       refine (p_NegR hx (by omega)).mono ?_;rintro e V3 ⟨s7, A7, n7, c7, t7, B7, m7, d7, rfl, h7, hx3⟩;replace hR := hR.ext hx3;replace E2 := E2.trans hx3;clear x0 x1 x2 x3;obtain ⟨s8, A8, n8, c8, t8, B8, m8, d8, p0, p1, p2, p3, _⟩ := hR.get hkl;have f0 := hR.frozen (j * 4);have f1 := hR.frozen (j * 4 + 1);have f2 := hR.frozen (j * 4 + 2);have f3 := hR.frozen (j * 4 + 3)
       go_wp2_with fail
       have PP := hR.put hkl h7;rw [HSS.out] at PP
       go_roundw
       case rel =>
        refine ⟨j + 1, by omega, by go_num, PP.2.2 _ E2 hgr, ?_⟩;rw [HFS.out, HC2.out];exact PP.1
       case measure => simp [intOf]; omega
     ·have hjn : j = n := by omega
      subst hjn;rw [List.take_of_length_le (Nat.le_of_eq HQL.out), List.drop_of_length_le (Nat.le_of_eq HQL.out), List.append_nil] at hR;have hI2 : (j : Int) <= (j : Int) := Int.le_refl _;have hpj := hR.pol (by rw [flipL_length, HQL.out]) (by unfold maxLen; omega)
      go_wp2_with fail
      rw [HC.out];exact bodyPost_ret (v := .tuple #[.slice (some ⟨g10, 0, Option.none⟩) j j, .bool true]) (by simp [results, Tryz.results27, go_sem]) rfl ⟨_, _, _, rfl, hpj, E2⟩
end
section
variable {w : World} {A B D : Option Addr} {n c m d l e0 L M u1 v1 u2 v2 : Nat} {ts : List (List Rat)} {qs ps : List Rat}
set_option maxRecDepth 100000 in
theorem p_MulT (hp : PolT w A n c ts 4) (ht : TowL ts) (hs : ∀ r ∈ ts, ∀ q ∈ r, SmQ q) (hn4 : n <= 4) (ha : Pol w B m d qs L) (hm : m = 2 ^ n) (hb : Pol w D l e0 ps M) (hl : l = 2 ^ n) (hL : L <= 900) (hM : M <= 900) (h64 : min L M < 64) (hqs : BdQ u1 v1 qs) (hps : BdQ u2 v2 ps) (hed : u1 + v1 + (u2 + v2) <= 480) (hT : Tab w) : Calls Tryz.prog 23 #[.slice A n c, .slice B m d, .slice D l e0] w (RetPol (mulL (radQ ts) n qs ps) (4 * (u1 + v1 + (u2 + v2)) + 970 + (L + M)) w) := by
 have hmf : ∀ (fn : Fn) (first cap : Array Value) (w : World), (Instr.makeFunc fn first cap).run Tryz.prog w = .ok (.func fn first cap) w := fun _ _ _ _ => rfl
 have hTL := hp.len;have hm16 : m <= 16 := by rw [hm]; exact (m_few n (by omega)).2.2.2.2.2.2
 have hlm : m = l := by rw [hl, hm]
 subst hlm;have HM := Lib.hid hm;have HL := Lib.hid hl;have hql := ha.len;have hpl := hb.len;have HQL := Lib.hid (show qs.length = 2 ^ ts.length by rw [hql, hm, hTL]);have HPL := Lib.hid (show ps.length = 2 ^ ts.length by rw [hpl, hl, hTL]);have HTL := Lib.hid hTL;have HQN := Lib.hid (show qs.length = 2 ^ n by rw [hql, hm]);have HPN := Lib.hid (show ps.length = 2 ^ n by rw [hpl, hl]);have hm0 : 0 < m := by rw [hm]; exact Nat.pow_pos (by omega)
 have hcapn := hp.cap;have hcapa := ha.cap;have hcapb := hb.cap;clear hm hl hTL hql hpl
 go_enter Tryz.func23, Tryz.ntmps23
 go_upto_region 1 with (fail)
 obtain ⟨W, hW, EW, b1, b2, hz⟩ := box2 w 23 23 #[.slice B m d] #[.slice D m e0];rw [<- hW];clear hW hz;have x0 := b1.cell 0 (.slice B m d) rfl;have x1 := b2.cell 0 (.slice D m e0) rfl;have hnb := Box.new W 23 #[.slice B m d, .slice D m e0];have q1 := (Ext.refl W).alloc (.cells #[.slice B m d, .slice D m e0] 23)
 go_wp2_with fail
 refine (p_formed2 (L := 1000) ((hp.le (by omega)).ext (EW.trans q1)) ht hnb ((ha.le (by omega)).ext (EW.trans q1)) ((hb.le (by omega)).ext (EW.trans q1)) HM.out HL.out (by omega) (by omega) (hT.ext (EW.trans q1))).mono ?_;rintro e V ⟨rfl, hxt⟩;replace EW := EW.trans (q1.trans hxt);replace b1 := b1.ext (q1.trans hxt);replace b2 := b2.ext (q1.trans hxt);clear x0 x1 hnb q1 hxt
 go_upto_region 3 with (fail)
 have ES0 := Ext.refl V;refine wp_region_held_drew (S := Ext V) (by kernel_rfl) ES0.drew (fun ES => ?_);clear ES0;refine Late.s0 ES (fun hAl hQ => ?_);refine Late.t 0 20 ?v_0 hQ ?y_0 ?_
 case y_0 => intro w' hSw;have k00 := (b1.ext hSw).cell 0 _ rfl;have k10 := (b2.ext hSw).cell 0 _ rfl;go_simp;try rfl
 try simp only [zP]
 refine Late.t 2 22 ?v_1 hQ ?y_1 ?_
 case y_1 => intro w' hSw;have k00 := (b1.ext hSw).cell 0 _ rfl;have k10 := (b2.ext hSw).cell 0 _ rfl;go_simp;try rfl
 try simp only [zP]
 refine Late.cl (i := 1) rfl hAl hQ (fun w1 e1 E1 K hK => ?_);go_simp
 (go_at_call 60; refine (p_heightT (ha.ext (EW.trans E1)) HM.out (by omega) (by omega)).mono ?_; rintro e wk1 ⟨h, hh, rfl, zh, mh, hx1⟩)
 refine hK.out _ _ hx1 ?_;clear hK K
 try simp only [zP]
 refine Late.cl (i := 3) rfl hAl hQ (fun w3 e3 E3 K hK => ?_);go_simp
 (go_at_call 60; refine (p_heightT (hb.ext (EW.trans E3)) HL.out (by omega) (by omega)).mono ?_; rintro e wk3 ⟨k, hk, rfl, zk, mk, hx3⟩)
 refine hK.out _ _ hx3 ?_;clear hK K
 try simp only [zP]
 refine Late.t 4 7 ?v_2 hQ ?y_2 ?_
 case y_2 => intro w' hSw;go_simp;try rfl
 try simp only [zP]
 refine Late.t 5 8 ?v_3 hQ ?y_3 ?_
 case y_3 => intro w' hSw;go_simp;try rfl
 try simp only [zP]
 refine Late.d0 (fun wz ez Ez => ?_);clear hAl hQ ES;replace EW := EW.trans Ez;replace b1 := b1.ext Ez;replace b2 := b2.ext Ez;clear Ez ez;have x0 := b1.cell 0 (.slice B m d) rfl;have x1 := b2.cell 0 (.slice D m e0) rfl
 by_cases hh0 : h = 0
 ·subst hh0
  have hqne : qs ≠ [] := fun e => by have := ha.len; rw [e] at this; simp at this; omega
  obtain ⟨q, qs', rfl⟩ := List.exists_cons_of_ne_nil hqne;rw [Nat.pow_zero, List.drop_one, List.tail_cons] at zh;have HV := Lib.hid (mul_const (h := n) (radQ_len ht) HQN.out HPN.out zh)
  go_wp2_with fail
  refine (p_each6_Mul1 (hb.ext EW) (by omega) (by omega) (ha.ext EW) b1 (by omega) (by omega) (hT.ext EW)).mono ?_;rintro e V2 ⟨rfl, hR, hx2⟩
  go_wp2_with fail
  go_ret
  rw [HV.out];exact ⟨_, m, m, rfl, (hR.pol (by rw [List.length_map, hb.len]) (by unfold maxLen; omega)).le (by omega), EW.trans hx2⟩
 ·have g1 : ((h : Int) == 0) = false := beq_eq_false_iff_ne.2 (by omega)
  by_cases hk0 : k = 0
  ·subst hk0
   have hpne : ps ≠ [] := fun e => by have := hb.len; rw [e] at this; simp at this; omega
   obtain ⟨p, ps', rfl⟩ := List.exists_cons_of_ne_nil hpne;rw [Nat.pow_zero, List.drop_one, List.tail_cons] at zk;have HV := Lib.hid (mul_const' (h := n) (radQ_len ht) HQN.out HPN.out zk)
   go_wp2_with fail
   refine (p_each6_Mul2 (ha.ext EW) (by omega) (by omega) (hb.ext EW) b2 (by omega) (by omega) (hT.ext EW)).mono ?_;rintro e V2 ⟨rfl, hR, hx2⟩
   go_wp2_with fail
   go_ret
   rw [HV.out];exact ⟨_, m, m, rfl, (hR.pol (by rw [List.length_map, ha.len]) (by unfold maxLen; omega)).le (by omega), EW.trans hx2⟩
  ·have g2 : ((k : Int) == 0) = false := beq_eq_false_iff_ne.2 (by omega)
   obtain ⟨N, hN⟩ : ∃ N, N = max h k := ⟨_, rfl⟩;have hmx : max (h : Int) (k : Int) = (N : Int) := by omega
   have hNn : N <= n := by omega
   have hN1 : 1 <= N := by omega
   have hNh : h <= N := by omega
   have hNk : k <= N := by omega
   have hNc : (N : Int) <= (c : Int) := by omega
   have hNc2 : N <= c := by omega
   clear hN;have HVAL := Lib.hid (mul_all ht HTL.out hNn HQN.out HPN.out (zeroB_drop zh (Nat.pow_le_pow_right (show 0 < 2 by omega) hNh)) (zeroB_drop zk (Nat.pow_le_pow_right (show 0 < 2 by omega) hNk)));have hbds := mul_bds ht hs (N := N) (by rw [HTL.out]; exact hNn) (hqs.take (2 ^ N)) (hps.take (2 ^ N));have hG := ringR_take ht N (by rw [HTL.out]; exact hNn);have hfw := m_few N (by omega);have hd1 := denP_pos (partL (qs.take (2 ^ N)) (ringR (ts.take N)).2);have hd2 := denP_pos (partL (ps.take (2 ^ N)) (ringR (ts.take N)).2);have HPm := Lib.hid (show 2 ^ N <= m by rw [HM.out]; exact Nat.pow_le_pow_right (by omega) hNn);obtain ⟨P, hP⟩ : ∃ P, P = 2 ^ N := ⟨_, rfl⟩;rw [<- hP] at hbds hfw hd1 hd2;have hv := HVAL.out;rw [<- hP, <- HM.out] at hv;have HV2 := Lib.hid hv;clear hv;have hPm : P <= m := by rw [hP]; exact HPm.out
   have hP0 : 0 < P := by rw [hP]; exact Nat.pow_pos (by omega)
   have HP := Lib.hid hP;have hPd : (P : Int) <= (d : Int) := by omega
   have hPe : (P : Int) <= (e0 : Int) := by omega
   have hPd2 : P <= d := by omega
   have hPe2 : P <= e0 := by omega
   obtain ⟨hbA, hbB, hdA, hdB, hbP⟩ := hbds;have HBA := Lib.hid hbA;have HBB := Lib.hid hbB;have HDA := Lib.hid hdA;have HDB := Lib.hid hdB;have HPV := Lib.hid hbP;have HD0 := Lib.hid (Int.mul_ne_zero (show ((denP (partL (qs.take P) (ringR (ts.take N)).2) : Nat) : Int) ≠ 0 by omega) (show ((denP (partL (ps.take P) (ringR (ts.take N)).2) : Nat) : Int) ≠ 0 by omega));have HG3 := Lib.hid hG.2.2.1;have HG5 := Lib.hid hG.2.2.2.2;have HFW := Lib.hid hfw;clear hbA hbB hdA hdB hbP hd1 hd2 hG hfw hP HVAL
   go_wp2_with fail
   refine (p_ringOf (n := N) ((hp.ext EW).take hNn) (take_TowL ht N) (fun r hr => hs r (List.mem_of_mem_take hr)) (by omega) (hT.ext EW)).mono ?_;rintro e V1 ⟨Ar, cr, Af, cf, rfl, hir, hfp, hx1⟩;rw [<- HP.out] at hfp
   go_upto_region 9 with (fail)
   rw [show (2 : Nat) ^ N = P from HP.out.symm];obtain ⟨V2, hV2, ex2, b5, hz2⟩ := box1 V1 72 #[.slice Ar N cr, .slice Af P cf];rw [<- hV2];clear hV2 hz2 x0 x1;replace hir := hir.ext ex2;replace hfp := hfp.ext ex2;replace ex2 := hx1.trans ex2;replace EW := EW.trans ex2;replace b1 := b1.ext ex2;replace b2 := b2.ext ex2;clear ex2 hx1;have ES0 := Ext.refl V2;refine wp_region_held_drew (S := Ext V2) (by kernel_rfl) ES0.drew (fun ES => ?_);clear ES0;refine Late.start1 (x := ⟨10, 11, 28, #[Value.bool false, Value.slice none 0 0]⟩) (n := 12) ⟨_, rfl, rfl, rfl, fun a w => by go_simp⟩ (fun _ _ _ _ _ => ⟨fun h => h, fun h => h⟩) ES rfl (fun hAl hQ => ?_);refine Late.t 0 43 ?v_4 hQ ?y_4 ?_
   case y_4 => intro w' hSw;have k00 := (b5.ext hSw).c2;have k10 := (b1.ext hSw).cell 0 _ rfl;go_simp;try rfl
   try simp only [zP]
   refine Late.t 1 44 ?v_5 hQ ?y_5 ?_
   case y_5 => intro w' hSw;have k00 := (b5.ext hSw).c2;have k10 := (b1.ext hSw).cell 0 _ rfl;go_simp;try rfl
   try simp only [zP]
   refine Late.t 2 45 ?v_6 hQ ?y_6 ?_
   case y_6 => intro w' hSw;go_simp;try rfl
   try simp only [zP]
   refine Late.t 3 46 ?v_7 hQ ?y_7 ?_
   case y_7 => intro w' hSw;have k00 := (b5.ext hSw).c2;have k10 := (b1.ext hSw).cell 0 _ rfl;go_simp;try rfl
   try simp only [zP]
   refine Late.t 4 47 ?v_8 hQ ?y_8 ?_
   case y_8 => intro w' hSw;go_simp;try rfl
   try simp only [zP]
   refine Late.t 5 48 ?v_9 hQ ?y_9 ?_
   case y_9 => intro w' hSw;go_simp;try rfl
   try simp only [zP]
   refine Late.callN (i := 6) rfl (by kernel_rfl) hAl (by kernel_rfl) (by kernel_rfl) (by kernel_rfl) hQ (fun w6 e6 E6 K hK => ?_);go_simp
   (go_at_call 66; refine (p_splitT ((ha.take hPm).ext (EW.trans E6)) (hfp.ext E6) rfl HG3.out rfl (by have := HFW.out; omega) (by have := HFW.out; omega) hP0 (by omega) (Nat.lt_of_lt_of_le HDA.out (Nat.pow_le_pow_right (by omega) (Nat.le_succ _))) (by have := HFW.out; omega) (by omega) (hT.ext (EW.trans E6))).mono ?_; rintro e wk6 ⟨g6, s7, B7, m7, d7, rfl, hg6, hz, hy, hx6⟩)
   refine hK.out _ _ hx6 ?_;clear hK K
   try simp only [zP]
   refine LateN.take (i := 7) (d := some 42) (v := ?v_a) rfl rfl (by kernel_rfl) (by kernel_rfl) (by kernel_rfl) (by kernel_rfl) hQ (Or.inl ⟨by rfl, ?y_a⟩) ?r_a
   case y_a => intro w' hSw;have k00 := (b5.ext hSw).c2;have k10 := (b1.ext hSw).cell 0 _ rfl;go_simp;try rfl
   try simp only [zP]
   refine LateN.take (i := 8) (d := some 50) (v := ?v_b) rfl rfl (by kernel_rfl) (by kernel_rfl) (by kernel_rfl) (by kernel_rfl) hQ (Or.inl ⟨by rfl, ?y_b⟩) ?r_b
   case y_b => intro w' hSw;have k00 := (b5.ext hSw).c2;have k10 := (b1.ext hSw).cell 0 _ rfl;go_simp;try rfl
   try simp only [zP]
   refine LateN.take (i := 9) (d := some 51) (v := ?v_c) rfl rfl (by kernel_rfl) (by kernel_rfl) (by kernel_rfl) (by kernel_rfl) hQ (Or.inl ⟨by rfl, ?y_c⟩) ?r_c
   case y_c => intro w' hSw;have k00 := (b5.ext hSw).c2;have k10 := (b1.ext hSw).cell 0 _ rfl;go_simp;try rfl
   try simp only [zP]
   refine LateN.finish1 (fun g hg => Or.inr hg) (hAl _ (by simp)) (by kernel_rfl) (fun wz g5 ez Ez lg5 hN5 xb1 => ?_);clear hAl hQ ES;have p10 := xb1.cell 0 (Value.bool false) rfl;have p11 := xb1.cell 1 (Value.slice none 0 0) rfl;have f10 := xb1.frozen 0;have f11 := xb1.frozen 1;have e4 := fin_dual (s := s7) (A := B7) (n := m7) (c := d7) xb1
   try simp only [zP]
   refine wpAnyH_ready (rs := [11]) (by kernel_rfl) (by simp) (AllReadyH.cons rfl (fun K hK => ?_) AllReadyH.nil);go_simp;refine hK.out _ _ Ez (fun _ => ?_);clear hK K
   try simp only [zP]
   refine wpAnyH_ready (rs := [12]) (by kernel_rfl) (by simp) (AllReadyH.cons rfl (fun K hK => ?_) AllReadyH.nil);go_simp;refine hK.out _ _ (e4.2.2.1 _ Ez lg5) (fun _ => ?_);clear hK K
   try simp only [zP]
   have hlt6 := hz.lt hP0;have hne6 : g6 ≠ g5 := by omega
   refine any_world (fun U => Ext V2 U /\ Box U g5 28 #[.bool s7, .slice B7 m7 d7] /\ IPol U (some ⟨g6, 0, Option.none⟩) P P (numsP (partL (qs.take P) (ringR (ts.take N)).2)) (4 * (v1 + eF N) + 1 + 1 + (L + fS N) + 2) /\ NI U (((denP (partL (qs.take P) (ringR (ts.take N)).2) : Nat) : Int)) (4 * (v1 + eF N) + 1 + 1) s7 B7 m7 d7) ⟨e4.2.2.1 _ Ez lg5, e4.1, (hz.ext ez).set2 xb1 hne6, e4.2.1 _ _ _ _ _ _ (hy.ext ez)⟩ ?_;clear e4 p10 p11 f10 f11 xb1 hz hy hlt6 hne6 hg6 hN5 Ez ez lg5;rintro U9 ⟨EU9, b8, hzA, hyA⟩;refine wpAnyH_done (by kernel_rfl) ?_ _;replace hzA := hzA.tight HBA.out;replace hyA := hyA.tight' (M := 4 * (v1 + eF N) + 1) (by rw [Int.natAbs_natCast]; exact HDA.out);replace hir := hir.ext EU9;replace hfp := hfp.ext EU9;replace b1 := b1.ext EU9;replace b2 := b2.ext EU9;replace b5 := b5.ext EU9;replace EW := EW.trans EU9;clear EU9
   go_wp2_with fail
   have ES0 := Ext.refl U9;refine wp_region_held_drew (S := Ext U9) (by kernel_rfl) ES0.drew (fun ES => ?_);clear ES0;refine Late.start1 (x := ⟨10, 13, 28, #[Value.bool false, Value.slice none 0 0]⟩) (n := 12) ⟨_, rfl, rfl, rfl, fun a w => by go_simp⟩ (fun _ _ _ _ _ => ⟨fun h => h, fun h => h⟩) ES rfl (fun hAl hQ => ?_);refine Late.t 0 53 ?v_d hQ ?y_d ?_
   case y_d => intro w' hSw;have k00 := (b5.ext hSw).c2;have k10 := (b2.ext hSw).cell 0 _ rfl;go_simp;try rfl
   try simp only [zP]
   refine Late.t 1 54 ?v_e hQ ?y_e ?_
   case y_e => intro w' hSw;have k00 := (b5.ext hSw).c2;have k10 := (b2.ext hSw).cell 0 _ rfl;go_simp;try rfl
   try simp only [zP]
   refine Late.t 2 55 ?v_f hQ ?y_f ?_
   case y_f => intro w' hSw;go_simp;try rfl
   try simp only [zP]
   refine Late.t 3 56 ?v_g hQ ?y_g ?_
   case y_g => intro w' hSw;have k00 := (b5.ext hSw).c2;have k10 := (b2.ext hSw).cell 0 _ rfl;go_simp;try rfl
   try simp only [zP]
   refine Late.t 4 57 ?v_h hQ ?y_h ?_
   case y_h => intro w' hSw;go_simp;try rfl
   try simp only [zP]
   refine Late.t 5 58 ?v_i hQ ?y_i ?_
   case y_i => intro w' hSw;go_simp;try rfl
   try simp only [zP]
   refine Late.callN (i := 6) rfl (by kernel_rfl) hAl (by kernel_rfl) (by kernel_rfl) (by kernel_rfl) hQ (fun w6 e6 E6 K hK => ?_);go_simp
   (go_at_call 66; refine (p_splitT ((hb.take hPm).ext (EW.trans E6)) (hfp.ext E6) rfl HG3.out rfl (by have := HFW.out; omega) (by have := HFW.out; omega) hP0 (by omega) (Nat.lt_of_lt_of_le HDB.out (Nat.pow_le_pow_right (by omega) (Nat.le_succ _))) (by have := HFW.out; omega) (by omega) (hT.ext (EW.trans E6))).mono ?_; rintro e wk6 ⟨j6, s8, B8, m8, d8, rfl, hj6, hz, hy, hx6⟩)
   refine hK.out _ _ hx6 ?_;clear hK K
   try simp only [zP]
   refine LateN.take (i := 7) (d := some 52) (v := ?v_j) rfl rfl (by kernel_rfl) (by kernel_rfl) (by kernel_rfl) (by kernel_rfl) hQ (Or.inl ⟨by rfl, ?y_j⟩) ?r_j
   case y_j => intro w' hSw;have k00 := (b5.ext hSw).c2;have k10 := (b2.ext hSw).cell 0 _ rfl;go_simp;try rfl
   try simp only [zP]
   refine LateN.take (i := 8) (d := some 60) (v := ?v_k) rfl rfl (by kernel_rfl) (by kernel_rfl) (by kernel_rfl) (by kernel_rfl) hQ (Or.inl ⟨by rfl, ?y_k⟩) ?r_k
   case y_k => intro w' hSw;have k00 := (b5.ext hSw).c2;have k10 := (b2.ext hSw).cell 0 _ rfl;go_simp;try rfl
   try simp only [zP]
   refine LateN.take (i := 9) (d := some 61) (v := ?v_l) rfl rfl (by kernel_rfl) (by kernel_rfl) (by kernel_rfl) (by kernel_rfl) hQ (Or.inl ⟨by rfl, ?y_l⟩) ?r_l
   case y_l => intro w' hSw;have k00 := (b5.ext hSw).c2;have k10 := (b2.ext hSw).cell 0 _ rfl;go_simp;try rfl
   try simp only [zP]
   refine LateN.finish1 (fun g hg => Or.inr hg) (hAl _ (by simp)) (by kernel_rfl) (fun wz j5 ez Ez lg5 hN5 xb1 => ?_);clear hAl hQ ES;have p10 := xb1.cell 0 (Value.bool false) rfl;have p11 := xb1.cell 1 (Value.slice none 0 0) rfl;have f10 := xb1.frozen 0;have f11 := xb1.frozen 1;have e4 := fin_dual (s := s8) (A := B8) (n := m8) (c := d8) xb1
   try simp only [zP]
   refine wpAnyH_ready (rs := [11]) (by kernel_rfl) (by simp) (AllReadyH.cons rfl (fun K hK => ?_) AllReadyH.nil);go_simp;refine hK.out _ _ Ez (fun _ => ?_);clear hK K
   try simp only [zP]
   refine wpAnyH_ready (rs := [12]) (by kernel_rfl) (by simp) (AllReadyH.cons rfl (fun K hK => ?_) AllReadyH.nil);go_simp;refine hK.out _ _ (e4.2.2.1 _ Ez lg5) (fun _ => ?_);clear hK K
   try simp only [zP]
   have hlt6 := hz.lt hP0;have hne6 : j6 ≠ j5 := by omega
   refine any_world (fun U => Ext U9 U /\ Box U j5 28 #[.bool s8, .slice B8 m8 d8] /\ IPol U (some ⟨j6, 0, Option.none⟩) P P (numsP (partL (ps.take P) (ringR (ts.take N)).2)) (4 * (v2 + eF N) + 1 + 1 + (M + fS N) + 2) /\ NI U (((denP (partL (ps.take P) (ringR (ts.take N)).2) : Nat) : Int)) (4 * (v2 + eF N) + 1 + 1) s8 B8 m8 d8) ⟨e4.2.2.1 _ Ez lg5, e4.1, (hz.ext ez).set2 xb1 hne6, e4.2.1 _ _ _ _ _ _ (hy.ext ez)⟩ ?_;clear e4 p10 p11 f10 f11 xb1 hz hy hlt6 hne6 hj6 hN5 Ez ez lg5;rintro U10 ⟨EU10, b9, hzB, hyB⟩;refine wpAnyH_done (by kernel_rfl) ?_ _;replace hzB := hzB.tight HBB.out;replace hyB := hyB.tight' (M := 4 * (v2 + eF N) + 1) (by rw [Int.natAbs_natCast]; exact HDB.out);replace hir := hir.ext EU10;replace hfp := hfp.ext EU10;replace b1 := b1.ext EU10;replace b2 := b2.ext EU10;replace b5 := b5.ext EU10;replace b8 := b8.ext EU10;replace hzA := hzA.ext EU10;replace hyA := hyA.ext EU10;replace EW := EW.trans EU10;clear EU10
   go_wp2_with fail
   have ES0 := Ext.refl U10;refine wp_region_held_drew (S := Ext U10) (by kernel_rfl) ES0.drew (fun ES => ?_);clear ES0;refine Late.s0 ES (fun hAl hQ => ?_);refine Late.t 0 62 ?v_m hQ ?y_m ?_
   case y_m => intro w' hSw;have k00 := (b5.ext hSw).c2;have k10 := (b8.ext hSw).c2;have k20 := (b9.ext hSw).c2;have k30 := (b1.ext hSw).cell 0 _ rfl;go_simp;try rfl
   try simp only [zP]
   refine Late.t 1 63 ?v_n hQ ?y_n ?_
   case y_n => intro w' hSw;have k00 := (b5.ext hSw).c2;have k10 := (b8.ext hSw).c2;have k20 := (b9.ext hSw).c2;have k30 := (b1.ext hSw).cell 0 _ rfl;go_simp;try rfl
   try simp only [zP]
   refine Late.t 2 64 ?v_o hQ ?y_o ?_
   case y_o => intro w' hSw;go_simp;try rfl
   try simp only [zP]
   refine Late.t 3 65 ?v_p hQ ?y_p ?_
   case y_p => intro w' hSw;go_simp;try rfl
   try simp only [zP]
   refine Late.t 5 67 ?v_q hQ ?y_q ?_
   case y_q => intro w' hSw;have k00 := (b5.ext hSw).c2;have k10 := (b8.ext hSw).c2;have k20 := (b9.ext hSw).c2;have k30 := (b1.ext hSw).cell 0 _ rfl;go_simp;try rfl
   try simp only [zP]
   refine Late.t 6 68 ?v_r hQ ?y_r ?_
   case y_r => intro w' hSw;have k00 := (b5.ext hSw).c2;have k10 := (b8.ext hSw).c2;have k20 := (b9.ext hSw).c2;have k30 := (b1.ext hSw).cell 0 _ rfl;go_simp;try rfl
   try simp only [zP]
   refine Late.t 9 71 ?v_s hQ ?y_s ?_
   case y_s => intro w' hSw;have k00 := (b5.ext hSw).c2;have k10 := (b8.ext hSw).c2;have k20 := (b9.ext hSw).c2;have k30 := (b1.ext hSw).cell 0 _ rfl;go_simp;try rfl
   try simp only [zP]
   refine Late.t 10 72 ?v_t hQ ?y_t ?_
   case y_t => intro w' hSw;go_simp;try rfl
   try simp only [zP]
   refine Late.cl (i := 4) rfl hAl hQ (fun w4 e4 E4 K hK => ?_);go_simp
   (go_at_call 69; refine (p_timesT HG5.out (by omega) N (hir.ext E4) (hzA.ext E4) (hzB.ext E4) HP.out (Nat.le_refl _) (by have := HFW.out; omega)).mono ?_; rintro e wk4 ⟨A8, c8, rfl, hpr, _, hx4⟩)
   refine hK.out _ _ hx4 ?_;clear hK K
   try simp only [zP]
   refine Late.cl (i := 7) rfl hAl hQ (fun w7 e7 E7 K hK => ?_);go_simp
   (replace hpr := hpr.ext e7; go_at_call 70; refine (p_MulG (hyA.ext E7) (hyB.ext E7) (by have := HFW.out; omega) (by have := HFW.out; omega)).mono ?_; rintro e wk7 ⟨s9, A9, n9, c9, rfl, hdd, hx7⟩; replace hpr := hpr.ext hx7)
   refine hK.out _ _ hx7 ?_;clear hK K
   try simp only [zP]
   refine Late.cl (i := 8) rfl hAl hQ (fun w8 e8 E8 K hK => ?_);go_simp
   (replace hpr := hpr.ext e8; replace hdd := hdd.ext e8; go_at_call 68; refine (p_joinT (hpr.tight HPV.out) (hfp.ext E8) (Nat.le_refl _) (by omega) hdd HD0.out (by have := HFW.out; omega) (by have := HFW.out; omega) (by omega) (hT.ext (EW.trans E8))).mono ?_; rintro e wk8 ⟨g8, rfl, hg8, hjr, hjl, hx8⟩; replace hpr := hpr.ext hx8; replace hdd := hdd.ext hx8)
   refine hK.out _ _ hx8 ?_;clear hK K
   try simp only [zP]
   refine Late.cl (i := 11) rfl hAl hQ (fun w11 e11 E11 K hK => ?_);go_simp
   (replace hpr := hpr.ext e11; replace hdd := hdd.ext e11; replace hjr := hjr.ext e11; go_at_call 67; refine (p_liftT hjr hjl hP0 hPm (by omega) (by have := HFW.out; omega)).mono ?_; rintro e wk11 ⟨A10, c10, rfl, hli, hx11⟩; replace hpr := hpr.ext hx11; replace hdd := hdd.ext hx11; replace hjr := hjr.ext hx11)
   refine hK.out _ _ hx11 ?_;clear hK K
   try simp only [zP]
   refine Late.t 12 6 ?v_u hQ ?y_u ?_
   case y_u => intro w' hSw;go_simp;try rfl
   try simp only [zP]
   refine Late.d0 (fun wz ez Ez => ?_);clear hAl hQ ES
   go_wp2_with fail
   go_ret
   rw [<- HV2.out];exact ⟨_, _, _, rfl, (hli.ext ez).le (by have := HFW.out; omega), EW.trans Ez⟩
end
def okInv (n u v : Nat) : Prop := ∀ h, h <= n -> okI h (u + (v + eF h)) /\ 4 * iE h (u + (v + eF h)) + 4 * (v + eF h) + 160 <= 3000 /\ 4 * iP h (u + (v + eF h)) <= 2900
def invT (ts : List (List Rat)) (n h : Nat) (qs : List Rat) : Option (List Rat) :=
 if (invL (radI (ringR (ts.take h)).1) h (numsP (partL (qs.take (2 ^ h)) (ringR (ts.take h)).2))).2 = 0 then Option.none
 else some (List.zipWith (fun z f : Int => mkQ (z * f) (invL (radI (ringR (ts.take h)).1) h (numsP (partL (qs.take (2 ^ h)) (ringR (ts.take h)).2))).2) ((invL (radI (ringR (ts.take h)).1) h (numsP (partL (qs.take (2 ^ h)) (ringR (ts.take h)).2))).1.map (· * ((denP (partL (qs.take (2 ^ h)) (ringR (ts.take h)).2) : Nat) : Int))) (ringR (ts.take h)).2 ++ List.replicate (2 ^ n - 2 ^ h) 0)
theorem invT_eq (ts : List (List Rat)) (n h : Nat) (qs : List Rat) : invT ts n h qs =
 if (invL (radI (ringR (ts.take h)).1) h (numsP (partL (qs.take (2 ^ h)) (ringR (ts.take h)).2))).2 = 0 then Option.none
 else some (List.zipWith (fun z f : Int => mkQ (z * f) (invL (radI (ringR (ts.take h)).1) h (numsP (partL (qs.take (2 ^ h)) (ringR (ts.take h)).2))).2) ((invL (radI (ringR (ts.take h)).1) h (numsP (partL (qs.take (2 ^ h)) (ringR (ts.take h)).2))).1.map (· * ((denP (partL (qs.take (2 ^ h)) (ringR (ts.take h)).2) : Nat) : Int))) (ringR (ts.take h)).2 ++ List.replicate (2 ^ n - 2 ^ h) 0) := rfl
def RetInvT (o : Option (List Rat)) (m L : Nat) (w : World) (e : Ending) (w' : World) : Prop :=
 match o with
 | Option.none => e = .returned (.tuple #[.slice Option.none 0 0, .int .i64 6]) /\ Ext w w'
 | some os => ∃ A c, e = .returned (.tuple #[.slice A m c, .int .i64 0]) /\ Pol w' A m c os L /\ Ext w w'
section
variable {w : World} {A B : Option Addr} {n c m d L u v : Nat} {ts : List (List Rat)} {qs : List Rat}
set_option maxRecDepth 100000 in
theorem p_InvT (hp : PolT w A n c ts 4) (ht : TowL ts) (hs : ∀ r ∈ ts, ∀ q ∈ r, SmQ q) (hn4 : n <= 4) (ha : Pol w B m d qs L) (hm : m = 2 ^ n) (hL : L <= 40) (hqs : BdQ u v qs) (hok : okInv n u v) (hT : Tab w) :
  Calls Tryz.prog 26 #[.slice A n c, .slice B m d] w (fun e w' => ∃ h, h <= n /\ zeroB (qs.drop (2 ^ h)) = true /\ (∀ j, j < h -> zeroB (qs.drop (2 ^ j)) = false) /\ RetInvT (invT ts n h qs) m 3000 w e w') := by
 have hTL := hp.len;have hm16 : m <= 16 := by rw [hm]; exact (m_few n (by omega)).2.2.2.2.2.2
 have HM := Lib.hid hm;have HTL := Lib.hid hTL;have hm0 : 0 < m := by rw [hm]; exact Nat.pow_pos (by omega)
 have hcapn := hp.cap;have hcapa := ha.cap;clear hm hTL;have hnb := Box.new w 23 #[.slice B m d];have q1 := (Ext.refl w).alloc (.cells #[.slice B m d] 23)
 go_enter Tryz.func26, Tryz.ntmps26
 go_wp2_with fail
 refine (p_formed1 (L := 40) ((hp.le (by omega)).ext q1) ht hnb ((ha.le hL).ext q1) HM.out (by omega) (by omega) (hT.ext q1)).mono ?_;rintro e V ⟨rfl, hxt⟩;have EW := q1.trans hxt;clear hnb q1 hxt
 go_wp2_with fail
 refine (p_heightT (ha.ext EW) HM.out (by omega) (by omega)).mono ?_;rintro e V1 ⟨h, hh, rfl, zh, mh, hx1⟩;replace EW := EW.trans hx1;clear hx1;have hhc : (h : Int) <= (c : Int) := by omega
 have hhc2 : h <= c := by omega
 have hbd := split_bd (take_TowL ht h) (fun r hr => hs r (List.mem_of_mem_take hr)) (hqs.take (2 ^ h));have e3 : (ts.take h).length = h := by rw [List.length_take]; have := HTL.out; omega
 rw [e3] at hbd;have hG := ringR_take ht h (by rw [HTL.out]; exact hh);have hfw := m_few h (by omega);have hd1 := denP_pos (partL (qs.take (2 ^ h)) (ringR (ts.take h)).2);have HPm := Lib.hid (show 2 ^ h <= m by rw [HM.out]; exact Nat.pow_le_pow_right (by omega) hh);have HZ := Lib.hid (And.intro hh (And.intro zh mh));have HOK := Lib.hid (hok h hh)
 have hLN : (numsP (partL (qs.take (2 ^ h)) (ringR (ts.take h)).2)).length = 2 ^ h := by
  rw [numsP_len];unfold partL;rw [List.length_zipWith, hG.2.1, List.length_take, ha.len];have := HPm.out;omega
 have HIT := Lib.hid (invT_eq ts n h qs);obtain ⟨r, hr⟩ : ∃ r, r = invL (radI (ringR (ts.take h)).1) h (numsP (partL (qs.take (2 ^ h)) (ringR (ts.take h)).2)) := ⟨_, rfl⟩;have hrl := invL_len (radI (ringR (ts.take h)).1) h (numsP (partL (qs.take (2 ^ h)) (ringR (ts.take h)).2));have hit := HIT.out;clear HIT;rw [<- hr] at hit hrl;obtain ⟨P, hP⟩ : ∃ P, P = 2 ^ h := ⟨_, rfl⟩;rw [<- hP] at hbd hfw hd1 hr hLN hit hrl;rw [<- HM.out] at hit;have hPm : P <= m := by rw [hP]; exact HPm.out
 have hP0 : 0 < P := by rw [hP]; exact Nat.pow_pos (by omega)
 have hW3 : IntKind.i64.wrap ((2 : Int) ^ h) = (P : Int) := by
  have e1 : ((2 : Int) ^ h) = ((2 ^ h : Nat) : Int) := by push_cast; rfl
  rw [e1, <- hP];exact IntWalk.i64_in _ (by omega)
 have HP := Lib.hid hP;have hPd : (P : Int) <= (d : Int) := by omega
 have hPd2 : P <= d := by omega
 have HBA := Lib.hid (W4_abs hbd.1);have HDA := Lib.hid (W4_words hbd.2);have HAA := Lib.hid hbd.1;have HG3 := Lib.hid hG.2.2.1;have HG5 := Lib.hid hG.2.2.2.2;have HFW := Lib.hid hfw;have HIT := Lib.hid hit;have HIL0 := Lib.hid hrl;have HR := Lib.hid hr;clear hbd hd1 hG hfw hP zh mh hLN hit hrl hr e3
 go_wp2_with fail
 refine (p_ringOf (n := h) ((hp.ext EW).take hh) (take_TowL ht h) (fun r hr => hs r (List.mem_of_mem_take hr)) (by omega) (hT.ext EW)).mono ?_;rintro e V2 ⟨Ar, cr, Af, cf, rfl, hir, hfp, hx1⟩;rw [<- HP.out] at hfp
 go_upto_region 5 with (fail)
 rw [show (2 : Nat) ^ h = P from HP.out.symm];obtain ⟨V3, hV3, ex3, b7, hz3⟩ := box1 V2 72 #[.slice Ar h cr, .slice Af P cf];rw [<- hV3];clear hV3 hz3;replace hir := hir.ext ex3;replace hfp := hfp.ext ex3;replace EW := EW.trans (hx1.trans ex3);clear ex3 hx1;have ES0 := Ext.refl V3;refine wp_region_held_drew (S := Ext V3) (by kernel_rfl) ES0.drew (fun ES => ?_);clear ES0;refine Late.start1 (x := ⟨9, 9, 28, #[Value.bool false, Value.slice none 0 0]⟩) (n := 11) ⟨_, rfl, rfl, rfl, fun a w => by go_simp⟩ (fun _ _ _ _ _ => ⟨fun h => h, fun h => h⟩) ES rfl (fun hAl hQ => ?_);refine Late.t 0 24 ?v_0 hQ ?y_0 ?_
 case y_0 => intro w' hSw;have k00 := (b7.ext hSw).c2;go_simp;try rfl
 try simp only [zP]
 refine Late.t 1 25 ?v_1 hQ ?y_1 ?_
 case y_1 => intro w' hSw;go_simp;try rfl
 try simp only [zP]
 refine Late.t 2 26 ?v_2 hQ ?y_2 ?_
 case y_2 => intro w' hSw;go_simp;try rfl
 try simp only [zP]
 refine Late.t 3 27 ?v_3 hQ ?y_3 ?_
 case y_3 => intro w' hSw;go_simp;try rfl
 try simp only [zP]
 refine Late.t 4 28 ?v_4 hQ ?y_4 ?_
 case y_4 => intro w' hSw;go_simp;try rfl
 try simp only [zP]
 refine Late.callN (i := 5) rfl (by kernel_rfl) hAl (by kernel_rfl) (by kernel_rfl) (by kernel_rfl) hQ (fun w5 e5 E5 K hK => ?_);go_simp
 (go_at_call 66; refine (p_splitT (((ha.le hL).take hPm).ext (EW.trans E5)) (hfp.ext E5) rfl HG3.out rfl (by have := HFW.out; omega) (by omega) hP0 (by omega) (Nat.lt_of_lt_of_le HDA.out (Nat.pow_le_pow_right (by omega) (Nat.le_succ _))) (by have := HOK.out; omega) (by omega) (hT.ext (EW.trans E5))).mono ?_; rintro e wk5 ⟨g6, s7, B7, m7, d7, rfl, hg6, hz, hy, hx5⟩)
 refine hK.out _ _ hx5 ?_;clear hK K
 try simp only [zP]
 refine LateN.take (i := 6) (d := some 23) (v := ?v_5) rfl rfl (by kernel_rfl) (by kernel_rfl) (by kernel_rfl) (by kernel_rfl) hQ (Or.inl ⟨by rfl, ?y_5⟩) ?r_5
 case y_5 => intro w' hSw;have k00 := (b7.ext hSw).c2;go_simp;try rfl
 try simp only [zP]
 refine LateN.take (i := 7) (d := some 30) (v := ?v_6) rfl rfl (by kernel_rfl) (by kernel_rfl) (by kernel_rfl) (by kernel_rfl) hQ (Or.inl ⟨by rfl, ?y_6⟩) ?r_6
 case y_6 => intro w' hSw;have k00 := (b7.ext hSw).c2;go_simp;try rfl
 try simp only [zP]
 refine LateN.take (i := 8) (d := some 31) (v := ?v_7) rfl rfl (by kernel_rfl) (by kernel_rfl) (by kernel_rfl) (by kernel_rfl) hQ (Or.inl ⟨by rfl, ?y_7⟩) ?r_7
 case y_7 => intro w' hSw;have k00 := (b7.ext hSw).c2;go_simp;try rfl
 try simp only [zP]
 refine LateN.finish1 (fun g hg => Or.inr hg) (hAl _ (by simp)) (by kernel_rfl) (fun wz g5 ez Ez lg5 hN5 xb1 => ?_);clear hAl hQ ES;have p10 := xb1.cell 0 (Value.bool false) rfl;have p11 := xb1.cell 1 (Value.slice none 0 0) rfl;have f10 := xb1.frozen 0;have f11 := xb1.frozen 1;have e4 := fin_dual (s := s7) (A := B7) (n := m7) (c := d7) xb1
 try simp only [zP]
 refine wpAnyH_ready (rs := [10]) (by kernel_rfl) (by simp) (AllReadyH.cons rfl (fun K hK => ?_) AllReadyH.nil);go_simp;refine hK.out _ _ Ez (fun _ => ?_);clear hK K
 try simp only [zP]
 refine wpAnyH_ready (rs := [11]) (by kernel_rfl) (by simp) (AllReadyH.cons rfl (fun K hK => ?_) AllReadyH.nil);go_simp;refine hK.out _ _ (e4.2.2.1 _ Ez lg5) (fun _ => ?_);clear hK K
 try simp only [zP]
 have hlt6 := hz.lt hP0;have hne6 : g6 ≠ g5 := by omega
 refine any_world (fun U => Ext V3 U /\ Box U g5 28 #[.bool s7, .slice B7 m7 d7] /\ IPol U (some ⟨g6, 0, Option.none⟩) P P (numsP (partL (qs.take P) (ringR (ts.take h)).2)) (4 * (v + eF h) + 1 + 1 + (40 + fS h) + 2) /\ NI U (((denP (partL (qs.take P) (ringR (ts.take h)).2) : Nat) : Int)) (4 * (v + eF h) + 1 + 1) s7 B7 m7 d7) ⟨e4.2.2.1 _ Ez lg5, e4.1, (hz.ext ez).set2 xb1 hne6, e4.2.1 _ _ _ _ _ _ (hy.ext ez)⟩ ?_;clear e4 p10 p11 f10 f11 xb1 hz hy hlt6 hne6 hg6 hN5 Ez ez lg5;rintro U9 ⟨EU9, b8, hzA, hyA⟩;refine wpAnyH_done (by kernel_rfl) ?_ _;replace hzA := hzA.tight HBA.out;replace hyA := hyA.tight' (M := 4 * (v + eF h) + 1) (by rw [Int.natAbs_natCast]; exact HDA.out);replace hir := hir.ext EU9;replace hfp := hfp.ext EU9;replace b7 := b7.ext EU9;replace EW := EW.trans EU9;clear EU9;have x0 := b7.cell 0 (.slice Ar h cr) rfl;have x1 := b7.cell 1 (.slice Af P cf) rfl
 go_wp2_with fail
 refine (p_inverseT (take_TowL ht h) (fun r hr => hs r (List.mem_of_mem_take hr)) HG5.out (by omega) h (e := u + (v + eF h)) hir hzA HP.out (Nat.le_refl _) rfl HOK.out.1 HAA.out (hT.ext EW)).mono ?_;rintro ee V4 ⟨A7, n7, c7, s9, B9, m9, d9, rfl, hrw, hpp, hx4⟩;rw [<- HR.out] at hrw hpp;clear x0 x1
 go_upto_region 7 with (fail)
 obtain ⟨V5, hV5, ex5, b9, hz5⟩ := box1 V4 28 #[.bool s9, .slice B9 m9 d9];rw [<- hV5];generalize V4.heap.size = gp at b9 ⊢;clear hV5 hz5;obtain ⟨_, _, _, hv7, hiv⟩ := hrw.pol
 injection hv7 with w1 w2 w3
 subst w1 w2 w3;clear hrw;replace hiv := hiv.ext ex5;replace hpp := hpp.ext ex5;replace hx4 := hx4.trans ex5;replace hir := hir.ext hx4;replace hfp := hfp.ext hx4;replace b7 := b7.ext hx4;replace b8 := b8.ext hx4;replace hyA := hyA.ext hx4;replace EW := EW.trans hx4;clear hx4 ex5;have y0 := b9.cell 0 (.bool s9) rfl;have y1 := b9.cell 1 (.slice B9 m9 d9) rfl
 by_cases hp0 : r.2 = 0
 ·have HS := Lib.hid (show r.2.sign = 0 by rw [hp0]; rfl)
  have hit := HIT.out;rw [if_pos hp0] at hit;have HI0 := Lib.hid hit;clear hp0 hit
  go_wp2_with fail
  refine (p_Sign hpp (by have := HOK.out; omega)).mono ?_;rintro ee Vb ⟨rfl, hxb⟩;rw [HS.out]
  go_wp2_with fail
  refine bodyPost_ret (v := .tuple #[.slice Option.none 0 0, .int .i64 6]) (by simp [results, Tryz.results26, go_sem]) rfl ⟨h, HZ.out.1, HZ.out.2.1, HZ.out.2.2, ?_⟩;rw [HI0.out];exact ⟨rfl, EW.trans hxb⟩
 ·obtain ⟨S2, hS2, dS2⟩ : ∃ S, r.2.sign = S /\ (S == 0) = false := ⟨_, rfl, beq_eq_false_iff_ne.2 (fun e => hp0 (Int.sign_eq_zero_iff_zero.1 e))⟩
  have HS2 := Lib.hid hS2;have Hp0 := Lib.hid hp0;have hit := HIT.out;rw [if_neg hp0] at hit;have HI0 := Lib.hid hit;have HIL := Lib.hid HIL0.out.1;have HIL2 := Lib.hid (And.intro (HIL0.out.2 hp0) (And.intro hP0 hPm));obtain rfl : n7 = P := by rw [<- hiv.len]; exact HIL0.out.2 hp0
  clear hS2 hp0 hit
  go_wp2_with fail
  refine (p_Sign hpp (by have := HOK.out; omega)).mono ?_;rintro ee Vb ⟨rfl, hxb⟩;rw [HS2.out];clear y0 y1;replace hir := hir.ext hxb;replace hfp := hfp.ext hxb;replace b7 := b7.ext hxb;replace b8 := b8.ext hxb;replace b9 := b9.ext hxb;replace hyA := hyA.ext hxb;replace hiv := hiv.ext hxb;replace hpp := hpp.ext hxb;replace EW := EW.trans hxb;clear hxb;have hn16 : n7 <= 16 := HFW.out.2.2.2.2.2.2
  go_wp2_with fail
  have ES0 := Ext.refl Vb;refine wp_region_held_drew (S := Ext Vb) (by kernel_rfl) ES0.drew (fun ES => ?_);clear ES0;refine Late.s0 ES (fun hAl hQ => ?_);refine Late.t 0 41 ?v_8 hQ ?y_8 ?_
  case y_8 => intro w' hSw;have k00 := (b7.ext hSw).c2;have k10 := (b8.ext hSw).c2;have k20 := (b9.ext hSw).c2;go_simp;try rfl
  try simp only [zP]
  refine Late.t 1 42 ?v_9 hQ ?y_9 ?_
  case y_9 => intro w' hSw;go_simp;try rfl
  try simp only [zP]
  refine Late.t 2 43 ?v_a hQ ?y_a ?_
  case y_a => intro w' hSw;have k00 := (b7.ext hSw).c2;have k10 := (b8.ext hSw).c2;have k20 := (b9.ext hSw).c2;go_simp;try rfl
  try simp only [zP]
  refine Late.t 4 45 ?v_b hQ ?y_b ?_
  case y_b => intro w' hSw;have k00 := (b7.ext hSw).c2;have k10 := (b8.ext hSw).c2;have k20 := (b9.ext hSw).c2;go_simp;try rfl
  try simp only [zP]
  refine Late.t 6 47 ?v_c hQ ?y_c ?_
  case y_c => intro w' hSw;go_simp;try rfl
  try simp only [zP]
  refine Late.t 7 48 ?v_d hQ ?y_d ?_
  case y_d => intro w' hSw;go_simp;try rfl
  try simp only [zP]
  refine Late.cl (i := 3) rfl hAl hQ (fun w3 e3 E3 K hK => ?_);go_simp
  (go_at_call 73; refine (p_multipleT (hiv.ext E3) (hyA.ext E3) (by have := HOK.out; omega) (by have := HOK.out; omega) (by have := HOK.out; omega) (by omega)).mono ?_; rintro e wk3 ⟨A8, n8, c8, rfl, hmu, hx3⟩)
  refine hK.out _ _ hx3 ?_;clear hK K
  try simp only [zP]
  refine Late.cl (i := 5) rfl hAl hQ (fun w5 e5 E5 K hK => ?_);go_simp
  (replace hmu := hmu.ext e5; go_at_call 68; refine (p_joinT hmu (hfp.ext E5) (by rw [<- hmu.len, List.length_map]; exact HIL.out) (by omega) (hpp.ext E5) Hp0.out (by have := HOK.out; have := HFW.out; omega) (by have := HOK.out; omega) (by rw [<- hmu.len, List.length_map]; have := HIL.out; omega) (hT.ext (EW.trans E5))).mono ?_; rintro e wk5 ⟨g8, rfl, hg8, hjr, hjl, hx5⟩; replace hmu := hmu.ext hx5)
  refine hK.out _ _ hx5 ?_;clear hK K
  try simp only [zP]
  refine Late.cl (i := 8) rfl hAl hQ (fun w8 e8 E8 K hK => ?_);go_simp
  (replace hmu := hmu.ext e8; replace hjr := hjr.ext e8; go_at_call 67; refine (p_liftT hjr hjl (by rw [<- hmu.len, List.length_map]; have := HIL2.out; omega) (by rw [<- hmu.len, List.length_map]; have := HIL2.out; omega) (by omega) (by have := HFW.out; omega)).mono ?_; rintro e wk8 ⟨A10, c10, rfl, hli, hx8⟩; replace hmu := hmu.ext hx8; replace hjr := hjr.ext hx8)
  refine hK.out _ _ hx8 ?_;clear hK K
  try simp only [zP]
  refine Late.t 9 4 ?v_e hQ ?y_e ?_
  case y_e => intro w' hSw;go_simp;try rfl
  try simp only [zP]
  refine Late.t 10 5 ?v_f hQ ?y_f ?_
  case y_f => intro w' hSw;go_simp;try rfl
  try simp only [zP]
  refine Late.d0 (fun wz ez Ez => ?_);clear hAl hQ ES
  go_wp2_with fail
  refine bodyPost_ret (v := .tuple #[.slice A10 m c10, .int .i64 0]) (by simp [results, Tryz.results26, go_sem]) rfl ⟨h, HZ.out.1, HZ.out.2.1, HZ.out.2.2, ?_⟩;rw [HI0.out];have hn8 : n8 = n7 := by rw [<- hmu.len, List.length_map]; exact HIL2.out.1
  rw [hn8] at hli;exact ⟨_, _, rfl, (hli.ext ez).le (by have := HOK.out; have := HFW.out; omega), EW.trans Ez⟩
end
end Go.Proofs.YtijdljfnmdoffaaGreatDoor
