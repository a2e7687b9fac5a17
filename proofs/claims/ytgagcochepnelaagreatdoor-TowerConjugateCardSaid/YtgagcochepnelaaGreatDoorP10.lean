/- Walks and laws, a part. -/
import Derived.Test.YtgagcochepnelaaGreatDoorP9
import Derived.Test.YtgagcochepnelaaGreatDoorP6
import Derived.Test.YtgagcochepnelaaGreatDoorP7
import Derived.Test.YtgagcochepnelaaGreatDoorP8
set_option linter.unusedSimpArgs false
set_option linter.unusedVariables false
set_option maxHeartbeats 64000000
namespace Go.Proofs.YtgagcochepnelaaGreatDoor
section
open Go.RowKit
attribute [local go_sem ↓] Go.wp_at_zero Go.wp_at_succ
theorem zipWith_takeR {α β γ : Type} (f : α -> β -> γ) : ∀ (a : List α) (b : List β), List.zipWith f a (b.take a.length) = List.zipWith f a b
 | [], _ => rfl
 | _ :: _, [] => rfl
 | x :: a, y :: b => by
  show f x y :: List.zipWith f a (b.take a.length) = f x y :: List.zipWith f a b
  rw [zipWith_takeR f a b]
def RetRow (qs : List Rat) (n L : Nat) (w : World) (e : Ending) (w' : World) : Prop := ∃ g, e = .returned (.slice (some ⟨g, 0, Option.none⟩) n n) /\ w.heap.size <= g /\ RRow w' g qs L /\ qs.length = n /\ Ext w w'
theorem Fill.far {w w' : World} {g n L : Nat} {qs : List Rat} (h : Fill w g n qs L) (hb : ∀ T cs, Box w g T cs -> Box w' g T cs) (hn : ∀ z L s A n c, NI w z L s A n c -> NI w' z L s A n c) : Fill w' g n qs L := by
 obtain ⟨⟨ds, h1, h2⟩, h3⟩ := h;exact ⟨⟨ds, hb _ _ h1, h2.ni hn⟩, h3⟩
section
variable {w w' : World} {z y : Int} {L M : Nat} {s t : Bool} {A B : Option Addr} {n c m d : Nat} {zs ys : List Int}
set_option maxRecDepth 100000 in
theorem p_joinT {Ar Af : Option Addr} {nr cr nf cf F : Nat} {fs : List Int} (h : IPol w A n c zs L) (hf : IPol w Af nf cf fs F) (hnf : n <= nf) (hnf1 : nf <= 1000) (hy : NI w y M t B m d) (h0 : y ≠ 0) (hL : L + F <= 30000) (hM : M <= 30000) (hn : n <= 1000) (hT : Tab w) : Calls Tryz.prog 68 #[.agg #[.slice Ar nr cr, .slice Af nf cf], .slice A n c, .agg #[.bool t, .slice B m d]] w (RetRow (List.zipWith (fun z f : Int => mkQ (z * f) y) zs fs) n (max (L + F) M) w) := by
 have hmk := mk_rats n (by omega);have Hlen := Lib.hid h.len;have Hlen' := Lib.hid hf.len;have Hnf := Lib.hid hnf;clear hnf
 go_enter Tryz.func68, Tryz.ntmps68
 go_upto_region 1 with (fail)
 obtain ⟨W, hW, extW, b3, b5, hzW⟩ := box2 w 72 28 #[.slice Ar nr cr, .slice Af nf cf] #[.bool t, .slice B m d];rw [<- hW];clear hW
 go_wp2_with fail
 go_loopw [15] (fun i wr => ∃ k : Nat, k <= n /\ i = .int .i64 (k : Int) /\ Ext W wr /\ Fill wr W.heap.size n (List.zipWith (fun z f : Int => mkQ (z * f) y) (zs.take k) (fs.take k)) (max (L + F) M)) (fun i _ => n - (intOf i).toNat)
 case atStart => exact ⟨0, Nat.zero_le _, rfl, (Ext.refl W).alloc _, Fill.new W n _⟩
 case round =>
  obtain ⟨k, hk, rfl, ext, hF⟩ := hrel;have hs0 := ext.size;have hs1 := hF.lt
  by_cases hlt : k < n
  ·have hj : k < zs.length := by rw [Hlen.out]; exact hlt
   have hj' : k < fs.length := by rw [Hlen'.out]; have := Hnf.out; omega
   have hI : (k : Int) < (n : Int) := by omega
   have hI2 : (k : Int) < (nf : Int) := by have := Hnf.out; omega
   obtain ⟨b, off, rfl, hr⟩ := h.at_ (fun e => by rw [e] at hj; exact absurd hj (Nat.not_lt_zero _));obtain ⟨b', off', rfl, hr'⟩ := hf.at_ (fun e => by rw [e] at hj'; exact absurd hj' (Nat.not_lt_zero _));obtain ⟨sx, Ax, nx, cx, e0, e1, hx⟩ := (hr.ext (extW.trans ext)).at_ k hj;have e0' : wr.cell? ⟨b, off + k * 2, none⟩ = some (.bool sx) := by rw [Nat.mul_comm]; exact e0
   have e1' : wr.cell? ⟨b, off + k * 2 + 1, none⟩ = some (.slice Ax nx cx) := by rw [Nat.mul_comm]; exact e1
   obtain ⟨sf, Ag, ng, cg, i0, i1, hfk⟩ := (hr'.ext (extW.trans ext)).at_ k hj';have i0' : wr.cell? ⟨b', off' + k * 2, none⟩ = some (.bool sf) := by rw [Nat.mul_comm]; exact i0
   have i1' : wr.cell? ⟨b', off' + k * 2 + 1, none⟩ = some (.slice Ag ng cg) := by rw [Nat.mul_comm]; exact i1
   have HT := Lib.hid (show List.zipWith (fun z f : Int => mkQ (z * f) y) (zs.take (k + 1)) (fs.take (k + 1)) = (List.zipWith (fun z f : Int => mkQ (z * f) y) (zs.take k) (fs.take k)) ++ [mkQ (zs[k] * fs[k]) y] by
    rw [List.take_succ_eq_append_getElem hj, List.take_succ_eq_append_getElem hj', List.zipWith_append (by rw [List.length_take, List.length_take]; omega)]; rfl)
   have hkl : (List.zipWith (fun z f : Int => mkQ (z * f) y) (zs.take k) (fs.take k)).length = k := by rw [List.length_zipWith, List.length_take, List.length_take, Hlen.out, Hlen'.out]; have := Hnf.out; omega
   generalize zs[k] = zv at hx HT;generalize fs[k] = fv at hfk HT
   go_upto_region 5 with (fail)
   obtain ⟨V1, hV, ext2, b9, hz2⟩ := box1 wr 28 #[.bool sx, .slice Ax nx cx];rw [<- hV];clear hV hz2 e0 e1 e0' e1' i0 i1;replace hx := hx.ext ext2;replace hfk := hfk.ext ext2;replace i0' := ext2.cellv i0';replace i1' := ext2.cellv i1';replace hF := hF.ext ext2;replace ext := ext.trans ext2;clear ext2;have w0 := (b3.ext ext).cell 0 (.slice Ar nr cr) rfl;have w1 := (b3.ext ext).cell 1 (.slice (some ⟨b', off', Option.none⟩) nf cf) rfl
   by_cases hone : fv = 1
   ·have H1 := Lib.hid hone
    go_wp2_with fail
    refine (p_isOneT hfk).mono ?_;rintro e V2 ⟨rfl, hx1⟩;rw [decide_eq_true H1.out];clear w0 w1;replace hx := hx.ext hx1;replace hF := hF.ext hx1;replace ext := ext.trans hx1;replace b9 := b9.ext hx1;replace b5 := b5.ext ext;have x0 := b9.cell 0 (.bool sx) rfl;have x1 := b9.cell 1 (.slice Ax nx cx) rfl;have y0 := b5.cell 0 (.bool t) rfl;have y1 := b5.cell 1 (.slice B m d) rfl
    go_wp2_with fail
    refine (p_Make_nz hx (hy.ext (extW.trans ext)) (by omega) (by omega) h0 (hT.ext (extW.trans ext))).mono ?_;rintro e V ⟨s7, A7, n7, c7, t7, B7, m7, d7, rfl, h7, hxt⟩;clear x0 x1 y0 y1 b9;replace hF := hF.ext hxt;replace ext := ext.trans hxt;have hcs := hF.cells (by rw [hkl]; exact hlt);rw [hkl] at hcs;obtain ⟨p0, p1, p2, p3⟩ := hcs;have f0 := hF.frozen (k * 4);have f1 := hF.frozen (k * 4 + 1);have f2 := hF.frozen (k * 4 + 2);have f3 := hF.frozen (k * 4 + 3)
    go_wp2_with fail
    have P := hF.put hkl hlt (h7.leT (M := (max (L + F) M)) (by omega))
    go_roundw
    case rel => exact ⟨k + 1, by omega, by go_num, P.2.2.1 _ ext (Nat.le_refl _), by rw [HT.out, H1.out, Int.mul_one]; exact P.1⟩
    case measure => simp [intOf]; omega
   ·have H1 := Lib.hid hone
    clear hone
    go_wp2_with fail
    refine (p_isOneT hfk).mono ?_;rintro e V2 ⟨rfl, hx1⟩;rw [decide_eq_false H1.out];clear w0 w1;replace hx := hx.ext hx1;replace hfk := hfk.ext hx1;replace i0' := hx1.cellv i0';replace i1' := hx1.cellv i1';replace hF := hF.ext hx1;replace ext := ext.trans hx1;replace b9 := b9.ext hx1;replace b3 := b3.ext ext;replace b5 := b5.ext ext
    rename World => V1'
    go_upto_region 6 with (fail)
    refine wpL.st 7 (fun hQ ES => ?_);refine wpL.t 0 27 ?v_0 hQ ?y_0 ES ?_
    case y_0 => intro w' hSw;have q0_ := hSw.cellv i0';have q1_ := hSw.cellv i1';have k00 := (b9.ext hSw).c2;have k10 := (b3.ext hSw).c2;go_simp;try rfl
    try simp only [zP]
    refine wpL.u 1 28 hQ ES ?_
    try simp only [zP]
    refine wpL.u 3 30 hQ ES ?_
    try simp only [zP]
    refine wpL.t 2 29 ?v_3 hQ ?y_3 ES ?_
    case y_3 => intro w' hSw;have q0_ := hSw.cellv i0';have q1_ := hSw.cellv i1';have k00 := (b9.ext hSw).c2;have k10 := (b3.ext hSw).c2;go_simp;try rfl
    try simp only [zP]
    refine wpL.u 4 31 hQ ES ?_
    try simp only [zP]
    refine wpL.t 5 32 ?v_5 hQ ?y_5 ES ?_
    case y_5 => intro w' hSw;have q0_ := hSw.cellv i0';have q1_ := hSw.cellv i1';have k00 := (b9.ext hSw).c2;have k10 := (b3.ext hSw).c2;go_simp;try rfl
    try simp only [zP]
    refine wpL.cl (i := 6) rfl (fun K hK => ?_);go_simp
    (go_at_call 70; refine (p_MulG (hx.ext ES) (hfk.ext ES) (by omega) (by omega)).mono ?_; rintro e wa ⟨s5, A5, n5, c5, rfl, h5, hx0⟩; have E0_6 := Ext.trans ES hx0)
    refine hK.out _ _ E0_6 ?_;clear hK K
    try simp only [zP]
    have z0 := (b9.ext E0_6).cell 0 _ rfl;have z1 := (b9.ext E0_6).cell 1 _ rfl;have f0 := (b9.ext E0_6).frozen 0;have f1 := (b9.ext E0_6).frozen 1;refine wpL.tl (i := 7) rfl (fun K hK => ?_);go_simp;refine hK.out _ _ ?_;clear hK K
    try simp only [zP]
    refine wpL.done (by kernel_rfl) ?_ _;clear hQ;refine at_exit (fun U => Ext W U /\ Box U wr.heap.size 28 #[.bool s5, .slice A5 n5 c5] /\ Box U (w.heap.size + 1) 28 #[.bool t, .slice B m d] /\ NI U (zv * fv) (L + F) s5 A5 n5 c5 /\ Fill U W.heap.size n (List.zipWith (fun z f : Int => mkQ (z * f) y) (zs.take k) (fs.take k)) (max (L + F) M)) ?_ ?_
    ·obtain ⟨q1, q2, q3, q4⟩ := fin_dual (s := s5) (A := A5) (n := n5) (c := c5) (b9.ext E0_6)
     unfold set2 at q1 q2 q3 q4;exact ⟨q3 _ (ext.trans E0_6) (by omega), q1, q4 _ _ _ (by omega) (b5.ext E0_6), q2 _ _ _ _ _ _ h5, (hF.ext E0_6).far (fun T cs hb => q4 _ _ _ (by omega) hb) q2⟩
    clear ext b9 b5 hx hF hfk i0' i1' b3;rintro U ⟨ext, b9, b5, hx, hF⟩;have x0 := b9.cell 0 (.bool s5) rfl;have x1 := b9.cell 1 (.slice A5 n5 c5) rfl;have y0 := b5.cell 0 (.bool t) rfl;have y1 := b5.cell 1 (.slice B m d) rfl
    go_wp2_with fail
    refine (p_Make_nz hx (hy.ext (extW.trans ext)) (by omega) (by omega) h0 (hT.ext (extW.trans ext))).mono ?_;rintro e V ⟨s7, A7, n7, c7, t7, B7, m7, d7, rfl, h7, hxt⟩;clear x0 x1 y0 y1 b9;replace hF := hF.ext hxt;replace ext := ext.trans hxt;have hcs := hF.cells (by rw [hkl]; exact hlt);rw [hkl] at hcs;obtain ⟨p0, p1, p2, p3⟩ := hcs;have f0 := hF.frozen (k * 4);have f1 := hF.frozen (k * 4 + 1);have f2 := hF.frozen (k * 4 + 2);have f3 := hF.frozen (k * 4 + 3)
    go_wp2_with fail
    have P := hF.put hkl hlt h7
    go_roundw
    case rel => exact ⟨k + 1, by omega, by go_num, P.2.2.1 _ ext (Nat.le_refl _), by rw [HT.out]; exact P.1⟩
    case measure => simp [intOf]; omega
  ·have hkn : k = n := by omega
   subst hkn;have hml : (List.zipWith (fun z f : Int => mkQ (z * f) y) (zs.take k) (fs.take k)).length = k := by rw [List.length_zipWith, List.length_take, List.length_take, Hlen.out, Hlen'.out]; have := Hnf.out; omega
   have hp := hF.rrow hml;rw [List.take_of_length_le (Nat.le_of_eq Hlen.out)] at hp hml;rw [<- Hlen.out, zipWith_takeR] at hp hml;rw [Hlen.out] at hml;have hI : (k : Int) <= (k : Int) := Int.le_refl _
   go_wp2_with fail
   go_ret
   exact ⟨_, rfl, extW.size, hp, hml, extW.trans ext⟩
end
def partQ (q : Rat) (f : Int) : Rat := mkQ q.num (((q.den : Nat) : Int) * f)
def RetSplitN (zs : List Int) (d n : Nat) (L M : Nat) (w : World) (e : Ending) (w' : World) : Prop :=
 ∃ g s B m k, e = .returned (.tuple #[.slice (some ⟨g, 0, Option.none⟩) n n, .agg #[.bool s, .slice B m k]]) /\ w.heap.size <= g /\ IPol w' (some ⟨g, 0, Option.none⟩) n n zs L /\ NI w' (d : Int) M s B m k /\ Ext w w'
def partL (qs : List Rat) (fs : List Int) : List Rat := List.zipWith partQ qs fs
theorem partQ_one (q : Rat) : partQ q 1 = q := by
 unfold partQ mkQ;rw [Int.mul_one, if_neg (by omega), Int.natAbs_natCast];exact Rat.mkRat_self q
theorem Fill.last {w : World} {g n L k : Nat} {ps : List Rat} {q : Rat} (h : Fill w g n (ps ++ [q]) L) (hk : ps.length = k) : ∃ s A a c t B b d, w.cell? ⟨g, k * 4, none⟩ = some (.bool s) /\ w.cell? ⟨g, k * 4 + 1, none⟩ = some (.slice A a c) /\ w.cell? ⟨g, k * 4 + 2, none⟩ = some (.bool t) /\ w.cell? ⟨g, k * 4 + 3, none⟩ = some (.slice B b d) /\ NR w q L s A a c t B b d := by
 obtain ⟨⟨ds, h1, h2⟩, _⟩ := h;obtain ⟨d1, d2, rfl, h3, h4⟩ := CellsOf.split _ h2;have hl := h3.len;rw [hk] at hl
 cases h4 with
 | cons hq hr =>
  cases hr
  refine ⟨_, _, _, _, _, _, _, _, h1.cell _ _ ?_, h1.cell _ _ ?_, h1.cell _ _ ?_, h1.cell _ _ ?_, hq⟩
  all_goals
   rw [<- hl];simp
theorem Fill.rep {w : World} {g n L k : Nat} {ps : List Rat} {q0 q : Rat} {s t : Bool} {A B : Option Addr} {a c b d : Nat} (h : Fill w g n (ps ++ [q0]) L) (hk : ps.length = k) (hq : NR w q L s A a c t B b d) :
  Fill ((((w.setCell ⟨g, k * 4, none⟩ (.bool s)).setCell ⟨g, k * 4 + 1, none⟩ (.slice A a c)).setCell ⟨g, k * 4 + 2, none⟩ (.bool t)).setCell ⟨g, k * 4 + 3, none⟩ (.slice B b d)) g n (ps ++ [q]) L /\
  (∀ z L s' A' n' c', NI w z L s' A' n' c' -> NI ((((w.setCell ⟨g, k * 4, none⟩ (.bool s)).setCell ⟨g, k * 4 + 1, none⟩ (.slice A a c)).setCell ⟨g, k * 4 + 2, none⟩ (.bool t)).setCell ⟨g, k * 4 + 3, none⟩ (.slice B b d)) z L s' A' n' c') /\
  (∀ W, Ext W w -> W.heap.size <= g -> Ext W ((((w.setCell ⟨g, k * 4, none⟩ (.bool s)).setCell ⟨g, k * 4 + 1, none⟩ (.slice A a c)).setCell ⟨g, k * 4 + 2, none⟩ (.bool t)).setCell ⟨g, k * 4 + 3, none⟩ (.slice B b d))) /\
  (∀ g' T' cs', g' ≠ g -> Box w g' T' cs' -> Box ((((w.setCell ⟨g, k * 4, none⟩ (.bool s)).setCell ⟨g, k * 4 + 1, none⟩ (.slice A a c)).setCell ⟨g, k * 4 + 2, none⟩ (.bool t)).setCell ⟨g, k * 4 + 3, none⟩ (.slice B b d)) g' T' cs') := by
 obtain ⟨⟨ds, h1, h2⟩, hle⟩ := h;have hnw := h2.nwl;obtain ⟨d1, d2, rfl, h3, h4⟩ := CellsOf.split _ h2;have hl := h3.len;rw [hk] at hl;rw [show n - (ps ++ [q0]).length = n - (ps ++ [q]).length by rw [List.length_append, List.length_append]; rfl] at h1
 cases h4 with
 | @cons _ _ s0 A0 a0 c0 t0 B0 b0 d0 cs0 hq0 hr =>
  cases hr
  generalize hm : n - (ps ++ [q]).length = m at h1;have F := ((((FinRow.refl h1 (hnw.append (zeroC_nwl m))).step (k * 4) (v := .bool s) (by intro k h; cases h)).step (k * 4 + 1) (v := .slice A a c) (by intro k h; cases h)).step (k * 4 + 2) (v := .bool t) (by intro k h; cases h)).step (k * 4 + 3) (v := .slice B b d) (by intro k h; cases h)
  have e : (((((d1 ++ [Value.bool s0, Value.slice A0 a0 c0, Value.bool t0, Value.slice B0 b0 d0]) ++ zeroC m).set (k * 4) (Value.bool s)).set (k * 4 + 1) (Value.slice A a c)).set (k * 4 + 2) (Value.bool t)).set (k * 4 + 3) (Value.slice B b d) = (d1 ++ [Value.bool s, Value.slice A a c, Value.bool t, Value.slice B b d]) ++ zeroC m := by
   rw [show (d1 ++ [Value.bool s0, Value.slice A0 a0 c0, Value.bool t0, Value.slice B0 b0 d0]) ++ zeroC m = d1 ++ Value.bool s0 :: Value.slice A0 a0 c0 :: Value.bool t0 :: Value.slice B0 b0 d0 :: zeroC m by simp];rw [set_at _ hl];rw [show d1 ++ Value.bool s :: Value.slice A0 a0 c0 :: Value.bool t0 :: Value.slice B0 b0 d0 :: zeroC m = (d1 ++ [Value.bool s]) ++ Value.slice A0 a0 c0 :: Value.bool t0 :: Value.slice B0 b0 d0 :: zeroC m by simp];rw [set_at (k * 4 + 1) (by simp [hl])];rw [show (d1 ++ [Value.bool s]) ++ Value.slice A a c :: Value.bool t0 :: Value.slice B0 b0 d0 :: zeroC m = (d1 ++ [Value.bool s, Value.slice A a c]) ++ Value.bool t0 :: Value.slice B0 b0 d0 :: zeroC m by simp];rw [set_at (k * 4 + 2) (by simp [hl])];rw [show (d1 ++ [Value.bool s, Value.slice A a c]) ++ Value.bool t :: Value.slice B0 b0 d0 :: zeroC m = (d1 ++ [Value.bool s, Value.slice A a c, Value.bool t]) ++ Value.slice B0 b0 d0 :: zeroC m by simp];rw [set_at (k * 4 + 3) (by simp [hl])];simp
  rw [e] at F;refine ⟨⟨⟨_, ?_, (h3.ni F.ni).append (.cons ⟨F.ni _ _ _ _ _ _ hq.num, F.ni _ _ _ _ _ _ hq.den⟩ .nil)⟩, by rw [List.length_append] at hle ⊢; exact hle⟩, F.ni, F.ext, F.far⟩;rw [hm];exact F.box
section
variable {w w' : World} {q x : Rat} {L M : Nat} {s t : Bool} {A B : Option Addr} {n c m d : Nat} {sx tx : Bool} {Ax Bx : Option Addr} {nx cx mx dx : Nat} {qs ps : List Rat} {rs : List RawR} {ts us : List (List RawR)}
set_option maxRecDepth 100000 in
theorem p_splitT {Ar Af : Option Addr} {nr cr nf cf F P : Nat} {fs : List Int} (h : Pol w A n c qs L) (hf : IPol w Af nf cf fs F) (hnf : n = nf) (hfp : ∀ f ∈ fs, 0 < f) (hP : P = L + F) (hP1 : P <= 14000) (hP2 : 2 <= P) (h0 : 0 < n) (hn : n <= 16) {G : Nat} (hG : denP (partL qs fs) < 4294967296 ^ G) (hG1 : G <= 29000) (hG2 : 2 <= G) (hT : Tab w) : Calls Tryz.prog 66 #[.agg #[.slice Ar nr cr, .slice Af nf cf], .slice A n c] w (RetSplitN (numsP (partL qs fs)) (denP (partL qs fs)) n (G + P + 2) G w) := by
 have hmk := mk_rats n (by omega);have hmk2 := mk_ints n (by omega);have Hlen := Lib.hid h.len;have Hlen' := Lib.hid (hf.len.trans hnf.symm);have hpl : (partL qs fs).length = n := by unfold partL; rw [List.length_zipWith, Hlen.out, Hlen'.out, Nat.min_self]
 have Hpl := Lib.hid hpl;have Hnf := Lib.hid hnf;have hnf1 : nf <= 16 := by omega
 have hLP : L + F <= P := by omega
 obtain ⟨b', off', rfl, hr'⟩ := hf.at_ (fun e => by have := hf.len; rw [e] at this; simp at this; omega);have HGT := Lib.hid (fun j : Nat => show denP ((partL qs fs).take j) < 4294967296 ^ G from Nat.lt_of_le_of_lt (Nat.le_of_dvd (denP_pos _) (denP_take _ j)) hG);clear hpl hnf hP hG
 go_enter Tryz.func66, Tryz.ntmps66
 go_upto_region 1 with (fail)
 obtain ⟨W, hW, extW, b2, b5, hzW⟩ := box2 w 72 28 #[.slice Ar nr cr, .slice (some ⟨b', off', Option.none⟩) nf cf] #[Value.bool false, Value.slice Option.none 0 0];rw [<- hW];have hgp : W.heap.size = w.heap.size + 2 := by rw [hW]; simp
 clear hW;have ha0 := (Ext.refl W).alloc (.cells (zeroC n).toArray 30);have hF0 := Fill.new W n P
 go_wp2_with fail
 refine (p_FromInt 1 (by omega) (by omega)).mono ?_;rintro e W1 ⟨s1, A1, n1, c1, rfl, h1, hx1⟩
 go_upto_region 3 with (fail)
 have ha := (Ext.refl W1).alloc (.cells #[.bool s1, .slice A1 n1 c1] 28);refine at_world (fun V => Ext w V /\ Box V w.heap.size 72 #[.slice Ar nr cr, .slice (some ⟨b', off', Option.none⟩) nf cf] /\ Box V (w.heap.size + 1) 28 #[Value.bool false, Value.slice Option.none 0 0] /\ Box V W1.heap.size 28 #[.bool s1, .slice A1 n1 c1] /\ NI V 1 2 s1 A1 n1 c1 /\ Fill V W.heap.size n [] P) ⟨((extW.trans ha0).trans hx1).trans ha, ((b2.ext ha0).ext hx1).ext ha, ((b5.ext ha0).ext hx1).ext ha, Box.new W1 _ _, h1.ext ha, (hF0.ext hx1).ext ha⟩ ?_
 have hg7 : w.heap.size + 2 < W1.heap.size := by
  have h8 := hx1.size;have h9 := World.size_alloc W (.cells (zeroC n).toArray 30);omega
 clear ha b2 b5 hzW hx1 extW h1 ha0 hF0;rw [hgp];clear hgp;generalize W1.heap.size = g7 at hg7 ⊢;rintro V ⟨ext0, b2, b5, b7, h1, hF⟩
 go_wp2_with fail
 go_loopw [20] (fun i wr => ∃ (k : Nat) (sd : Bool) (Ad : Option Addr) (nd cd : Nat), k <= n /\ i = .int .i64 (k : Int) /\ Ext w wr /\ Box wr w.heap.size 72 #[.slice Ar nr cr, .slice (some ⟨b', off', Option.none⟩) nf cf] /\ Box wr (w.heap.size + 1) 28 #[Value.bool false, Value.slice Option.none 0 0] /\ Box wr g7 28 #[.bool sd, .slice Ad nd cd] /\ NI wr ((denP ((partL qs fs).take k) : Nat) : Int) G sd Ad nd cd /\ Fill wr (w.heap.size + 2) n ((partL qs fs).take k) P) (fun i _ => n - (intOf i).toNat)
 case atStart => exact ⟨0, s1, A1, n1, c1, Nat.zero_le _, rfl, ext0, b2, b5, b7, by rw [List.take_zero]; exact h1.le hG2, by rw [List.take_zero]; exact hF⟩
 case round =>
  clear b2 b5 b7 h1 ext0 hF;obtain ⟨k, sd, Ad, nd, cd, hk, rfl, EW, b2, b5, b7, hd, hF⟩ := hrel;have hs7 := b7.lt;have hsp := hF.lt
  by_cases hlt : k < n
  ·have hj : k < qs.length := by rw [Hlen.out]; exact hlt
   have hj' : k < fs.length := by rw [Hlen'.out]; exact hlt
   have hjp : k < (partL qs fs).length := by rw [Hpl.out]; exact hlt
   have hI : (k : Int) < (n : Int) := by omega
   have hI2 : (k : Int) < (nf : Int) := by have := Hnf.out; omega
   obtain ⟨b, off, rfl, hr⟩ := h.at_ (fun e => by rw [e] at hj; exact absurd hj (Nat.not_lt_zero _));obtain ⟨sx, Ax, nx, cx, tx, Bx, mx, dx, e0, e1, e2, e3, hx⟩ := hr.at_ k hj;replace e0 := EW.cellv e0;replace e1 := EW.cellv e1;replace e2 := EW.cellv e2;replace e3 := EW.cellv e3;have e0' : wr.cell? ⟨b, off + k * 4, none⟩ = some (.bool sx) := by rw [Nat.mul_comm]; exact e0
   have e1' : wr.cell? ⟨b, off + k * 4 + 1, none⟩ = some (.slice Ax nx cx) := by rw [Nat.mul_comm]; exact e1
   have e2' : wr.cell? ⟨b, off + k * 4 + 2, none⟩ = some (.bool tx) := by rw [Nat.mul_comm]; exact e2
   have e3' : wr.cell? ⟨b, off + k * 4 + 3, none⟩ = some (.slice Bx mx dx) := by rw [Nat.mul_comm]; exact e3
   clear e0 e1 e2 e3;obtain ⟨sf, Ag, ng, cg, i0, i1, hfk⟩ := hr'.at_ k hj';rw [Nat.mul_comm] at i0 i1
   have HT := Lib.hid (show (partL qs fs).take (k + 1) = (partL qs fs).take k ++ [partQ qs[k] fs[k]] by
    rw [List.take_succ_eq_append_getElem hjp]
    have h9 : (partL qs fs)[k]? = some (partQ qs[k] fs[k]) := by
     unfold partL;rw [List.getElem?_zipWith, List.getElem?_eq_getElem hj, List.getElem?_eq_getElem hj']
    rw [List.getElem?_eq_getElem hjp] at h9;rw [Option.some.inj h9])
   have hkl : ((partL qs fs).take k).length = k := by rw [List.length_take, Hpl.out]; omega
   have hfv := hfp fs[k] (List.getElem_mem hj');generalize qs[k] = q at hx HT;generalize fs[k] = fv at hfk HT hfv;obtain ⟨pk, hpk⟩ : ∃ pk, pk = partQ q fv := ⟨_, rfl⟩;rw [<- hpk] at HT;have HPK := Lib.hid hpk;clear hpk;have HG := Lib.hid (show ((Nat.gcd (denP ((partL qs fs).take k)) pk.den : Nat) : Int) ≠ 0 /\ ((Nat.gcd (denP ((partL qs fs).take k)) pk.den : Nat) : Int) ∣ ((pk.den : Nat) : Int) from ⟨by have := Nat.gcd_pos_of_pos_right (denP ((partL qs fs).take k)) pk.den_pos; omega, Int.natCast_dvd_natCast.2 (Nat.gcd_dvd_right _ _)⟩);have HYN := Lib.hid (show ((q.den : Nat) : Int) * fv ≠ 0 from Int.mul_ne_zero (by have := q.den_pos; omega) (by omega))
   go_upto_region 6 with (fail)
   obtain ⟨V1, hV, ext1, b9, hz9⟩ := box1 wr 30 #[.bool sx, .slice Ax nx cx, .bool tx, .slice Bx mx dx];rw [<- hV];clear hV hz9 e0' e1' e2' e3';have hg9 : wr.heap.size = wr.heap.size := rfl;replace EW := EW.trans ext1;replace b2 := b2.ext ext1;replace b5 := b5.ext ext1;replace b7 := b7.ext ext1;replace hd := hd.ext ext1;replace hF := hF.ext ext1;clear ext1 hg9;generalize wr.heap.size = g9 at *;have x0 := b9.cell 0 (.bool sx) rfl;have x1 := b9.cell 1 (.slice Ax nx cx) rfl;have x2 := b9.cell 2 (.bool tx) rfl;have x3 := b9.cell 3 (.slice Bx mx dx) rfl;have hcs := hF.cells (by rw [hkl]; exact hlt);rw [hkl] at hcs;obtain ⟨p0, p1, p2, p3⟩ := hcs;have f0 := hF.frozen (k * 4);have f1 := hF.frozen (k * 4 + 1);have f2 := hF.frozen (k * 4 + 2);have f3 := hF.frozen (k * 4 + 3)
   go_upto_region 7 with (fail)
   have PU := hF.put hkl hlt ((hx.ext EW).le (show L <= P by omega));refine at_world (fun U => Ext w U /\ Box U w.heap.size 72 #[.slice Ar nr cr, .slice (some ⟨b', off', Option.none⟩) nf cf] /\ Box U (w.heap.size + 1) 28 #[Value.bool false, Value.slice Option.none 0 0] /\ Box U g7 28 #[.bool sd, .slice Ad nd cd] /\ NI U ((denP ((partL qs fs).take k) : Nat) : Int) G sd Ad nd cd /\ Box U g9 30 #[.bool sx, .slice Ax nx cx, .bool tx, .slice Bx mx dx] /\ Fill U (w.heap.size + 2) n ((partL qs fs).take k ++ [q]) P) ⟨PU.2.2.1 _ EW (by omega), PU.2.2.2 _ _ _ (by omega) b2, PU.2.2.2 _ _ _ (by omega) b5, PU.2.2.2 _ _ _ (by omega) b7, PU.2.1 _ _ _ _ _ _ hd, PU.2.2.2 _ _ _ (by omega) b9, PU.1⟩ ?_;clear PU p0 p1 p2 p3 f0 f1 f2 f3 x0 x1 x2 x3 EW b2 b5 b7 hd b9 hF;rintro U0 ⟨EW, b2, b5, b7, hd, b9, hF⟩;have i0' := EW.cellv i0;have i1' := EW.cellv i1;have w0 := b2.cell 0 (.slice Ar nr cr) rfl;have w1 := b2.cell 1 (.slice (some ⟨b', off', Option.none⟩) nf cf) rfl
   by_cases hone : fv = 1
   ·have H1 := Lib.hid hone
    go_wp2_with fail
    refine (p_isOneT (hfk.ext EW)).mono ?_;rintro e U2 ⟨rfl, hx1⟩;rw [decide_eq_true H1.out];clear w0 w1 i0' i1' b9;replace EW := EW.trans hx1;replace b2 := b2.ext hx1;replace b5 := b5.ext hx1;replace b7 := b7.ext hx1;replace hd := hd.ext hx1;replace hF := hF.ext hx1;rw [show q = pk by rw [HPK.out, H1.out, partQ_one]] at hF;clear hx1 hone;obtain ⟨s8, A8, n8, c8, t8, B8, m8, d8, _, _, p2, p3, he⟩ := hF.last hkl;have x2 := b7.cell 0 (.bool sd) rfl
    go_upto_region 9 with (fail)
    have ES0 := Ext.refl U2;refine wp_region_held_drew (S := Ext U2) (by kernel_rfl) ES0.drew (fun ES => ?_);clear ES0;refine Late.s0 ES (fun hAl hQ => ?_);refine Late.u 0 53 hQ ?_
    try simp only [zP]
    refine Late.u 1 54 hQ ?_
    try simp only [zP]
    refine Late.t 5 58 ?v_2 hQ ?y_2 ?_
    case y_2 => intro w' hSw;have q0_ := hSw.cellv p2;have q1_ := hSw.cellv p3;have k00 := (b7.ext hSw).c2;go_simp;try rfl
    try simp only [zP]
    refine Late.u 2 55 hQ ?_
    try simp only [zP]
    refine Late.u 3 56 hQ ?_
    try simp only [zP]
    refine Late.t 4 57 ?v_5 hQ ?y_5 ?_
    case y_5 => intro w' hSw;have q0_ := hSw.cellv p2;have q1_ := hSw.cellv p3;have k00 := (b7.ext hSw).c2;go_simp;try rfl
    try simp only [zP]
    refine Late.cl (i := 6) rfl hAl hQ (fun w6 e6 E6 K hK => ?_);go_simp
    (go_at_call 104; refine (p_Cmp ((he.den.ext E6)) (hd.ext E6) (by omega) (by omega)).mono ?_; rintro e wk6 ⟨rfl, hx6⟩)
    refine hK.out _ _ hx6 ?_;clear hK K
    try simp only [zP]
    refine Late.u 7 60 hQ ?_
    try simp only [zP]
    refine Late.d0 (fun wz ez Ez => ?_);clear hAl hQ ES;replace EW := EW.trans Ez;replace b2 := b2.ext Ez;replace b5 := b5.ext Ez;replace b7 := b7.ext Ez;replace hd := hd.ext Ez;replace hF := hF.ext Ez;replace he := he.ext Ez;replace p2 := Ez.cellv p2;replace p3 := Ez.cellv p3;clear Ez ez x2
    by_cases heq : (((pk.den : Nat) : Int) - ((denP ((partL qs fs).take k) : Nat) : Int)).sign = 0
    ·have HEQ := Lib.hid heq
     rw [heq]
     go_wp2_with fail
     go_roundw
     case rel =>
      have hdd : denP ((partL qs fs).take (k + 1)) = denP ((partL qs fs).take k) := by
       rw [HT.out, denP_snoc];have h9 := Int.sign_eq_zero_iff_zero.1 HEQ.out;rw [show pk.den = denP ((partL qs fs).take k) by omega, Nat.lcm_self]
      exact ⟨k + 1, sd, Ad, nd, cd, by omega, by go_num, EW, b2, b5, b7, by rw [hdd]; exact hd, by rw [HT.out]; exact hF⟩
     case measure => simp [intOf]; omega
    ·obtain ⟨S, hS, dS⟩ : ∃ S, (((pk.den : Nat) : Int) - ((denP ((partL qs fs).take k) : Nat) : Int)).sign = S /\ (S == 0) = false := ⟨_, rfl, beq_eq_false_iff_ne.2 heq⟩
     have HS := Lib.hid hS;rw [hS];clear hS heq
     go_upto_region 10 with (fail)
     refine wpL.st 15 (fun hQ ES => ?_);refine wpL.t 0 61 ?v_7 hQ ?y_7 ES ?_
     case y_7 => intro w' hSw;have q0_ := hSw.cellv p2;have q1_ := hSw.cellv p3;have k00 := (b7.ext hSw).c2;go_simp;try rfl
     try simp only [zP]
     refine wpL.u 1 62 hQ ES ?_
     try simp only [zP]
     refine wpL.u 2 63 hQ ES ?_
     try simp only [zP]
     refine wpL.t 6 67 ?v_a hQ ?y_a ES ?_
     case y_a => intro w' hSw;have q0_ := hSw.cellv p2;have q1_ := hSw.cellv p3;have k00 := (b7.ext hSw).c2;go_simp;try rfl
     try simp only [zP]
     refine wpL.u 7 68 hQ ES ?_
     try simp only [zP]
     refine wpL.u 8 69 hQ ES ?_
     try simp only [zP]
     refine wpL.u 3 64 hQ ES ?_
     try simp only [zP]
     refine wpL.u 9 70 hQ ES ?_
     try simp only [zP]
     refine wpL.u 4 65 hQ ES ?_
     try simp only [zP]
     refine wpL.u 10 71 hQ ES ?_
     try simp only [zP]
     refine wpL.t 5 66 ?v_h hQ ?y_h ES ?_
     case y_h => intro w' hSw;have q0_ := hSw.cellv p2;have q1_ := hSw.cellv p3;have k00 := (b7.ext hSw).c2;go_simp;try rfl
     try simp only [zP]
     refine wpL.t 11 72 ?v_i hQ ?y_i ES ?_
     case y_i => intro w' hSw;have q0_ := hSw.cellv p2;have q1_ := hSw.cellv p3;have k00 := (b7.ext hSw).c2;go_simp;try rfl
     try simp only [zP]
     refine wpL.cl (i := 12) rfl (fun K hK => ?_);go_simp
     (go_at_call 88; refine (p_GCD (hd.ext ES) (he.den.ext ES) (by omega) (by omega) (hT.ext (EW.trans ES))).mono ?_; rintro e wa ⟨s1, A1, n1, c1, rfl, h1, hx0⟩; rw [Int.natAbs_natCast, Int.natAbs_natCast] at h1; have E0_10 := Ext.trans ES hx0)
     refine hK.out _ _ E0_10 ?_;clear hK K
     try simp only [zP]
     refine wpL.cl (i := 13) rfl (fun K hK => ?_);go_simp
     (go_at_call 105; refine (p_exactT (he.den.ext E0_10) h1 (by omega) (by omega) HG.out.1 HG.out.2).mono ?_; rintro e wb ⟨s2, A2, n2, c2, rfl, h2, hx1⟩; have E1_10 := Ext.trans E0_10 hx1)
     refine hK.out _ _ E1_10 ?_;clear hK K
     try simp only [zP]
     refine wpL.cl (i := 14) rfl (fun K hK => ?_);go_simp
     (go_at_call 70; refine (p_MulG (hd.ext E1_10) h2 (by omega) (by omega)).mono ?_; rintro e wc ⟨s3, A3, n3, c3, rfl, h3, hx2⟩; have E2_10 := Ext.trans E1_10 hx2)
     refine hK.out _ _ E2_10 ?_;clear hK K
     try simp only [zP]
     have z0 := (b7.ext E2_10).cell 0 _ rfl;have z1 := (b7.ext E2_10).cell 1 _ rfl;have f0 := (b7.ext E2_10).frozen 0;have f1 := (b7.ext E2_10).frozen 1;refine wpL.tl (i := 15) rfl (fun K hK => ?_);go_simp;refine hK.out _ _ ?_;clear hK K
     try simp only [zP]
     refine wpL.done (by kernel_rfl) ?_ _;clear hQ
     go_wp2_with fail
     obtain ⟨q1, q2, q3, q4⟩ := fin_dual (s := s3) (A := A3) (n := n3) (c := c3) (b7.ext E2_10);unfold set2 at q1 q2 q3 q4;have hdk := q2 _ _ _ _ _ _ h3;rw [lcm_step, <- denP_snoc, <- HT.out] at hdk;have F1 := q3 _ (EW.trans E2_10) (by omega);have F2 := q4 _ _ _ (by omega) (b2.ext E2_10);have F3 := q4 _ _ _ (by omega) (b5.ext E2_10);have F4 := (hF.ext E2_10).far (fun T cs hb => q4 _ _ _ (by omega) hb) q2
     go_roundw
     case rel => exact ⟨k + 1, s3, A3, n3, c3, by omega, by go_num, F1, F2, F3, q1, hdk.tight' (by rw [Int.natAbs_natCast]; exact HGT.out (k + 1)), by rw [HT.out]; exact F4⟩
     case measure => simp [intOf]; omega
   ·have H1 := Lib.hid hone
    clear hone
    go_wp2_with fail
    refine (p_isOneT (hfk.ext EW)).mono ?_;rintro e U1 ⟨rfl, hx1⟩;rw [decide_eq_false H1.out];clear w0 w1;replace EW := EW.trans hx1;replace b2 := b2.ext hx1;replace b5 := b5.ext hx1;replace b7 := b7.ext hx1;replace b9 := b9.ext hx1;replace hd := hd.ext hx1;replace hF := hF.ext hx1;replace i0' := hx1.cellv i0';replace i1' := hx1.cellv i1';clear hx1
    go_upto_region 8 with (fail)
    refine wpL.st 17 (fun hQ ES => ?_);refine wpL.u 0 37 hQ ES ?_
    try simp only [zP]
    refine wpL.u 1 38 hQ ES ?_
    try simp only [zP]
    refine wpL.u 2 39 hQ ES ?_
    try simp only [zP]
    refine wpL.u 4 41 hQ ES ?_
    try simp only [zP]
    refine wpL.u 6 43 hQ ES ?_
    try simp only [zP]
    refine wpL.u 8 45 hQ ES ?_
    try simp only [zP]
    refine wpL.t 3 40 ?v_p hQ ?y_p ES ?_
    case y_p => intro w' hSw;have q0_ := hSw.cellv i0';have q1_ := hSw.cellv i1';have k00 := (b9.ext hSw).c4;have k10 := (b2.ext hSw).c2;go_simp;try rfl
    try simp only [zP]
    refine wpL.t 5 42 ?v_q hQ ?y_q ES ?_
    case y_q => intro w' hSw;have q0_ := hSw.cellv i0';have q1_ := hSw.cellv i1';have k00 := (b9.ext hSw).c4;have k10 := (b2.ext hSw).c2;go_simp;try rfl
    try simp only [zP]
    refine wpL.t 7 44 ?v_r hQ ?y_r ES ?_
    case y_r => intro w' hSw;have q0_ := hSw.cellv i0';have q1_ := hSw.cellv i1';have k00 := (b9.ext hSw).c4;have k10 := (b2.ext hSw).c2;go_simp;try rfl
    try simp only [zP]
    refine wpL.u 9 46 hQ ES ?_
    try simp only [zP]
    refine wpL.t 10 47 ?v_t hQ ?y_t ES ?_
    case y_t => intro w' hSw;have q0_ := hSw.cellv i0';have q1_ := hSw.cellv i1';have k00 := (b9.ext hSw).c4;have k10 := (b2.ext hSw).c2;go_simp;try rfl
    try simp only [zP]
    refine wpL.cl (i := 11) rfl (fun K hK => ?_);go_simp
    (go_at_call 70; refine (p_MulG ((hx.den.ext EW).ext ES) ((hfk.ext EW).ext ES) (by omega) (by omega)).mono ?_; rintro e wa ⟨s5, A5, n5, c5, rfl, h5, hx0⟩; have E0_8 := Ext.trans ES hx0)
    refine hK.out _ _ E0_8 ?_;clear hK K
    try simp only [zP]
    refine wpL.cl (i := 12) rfl (fun K hK => ?_);go_simp
    (go_at_call 103; refine (p_Make_nz ((hx.num.ext EW).ext E0_8) h5 (by omega) (by omega) HYN.out (hT.ext (EW.trans E0_8))).mono ?_; rintro e wb ⟨s7, A7, n7, c7, t7, B7, m7, d7, rfl, h7, hx1⟩; have E1_8 := Ext.trans E0_8 hx1)
    refine hK.out _ _ E1_8 ?_;clear hK K
    try simp only [zP]
    refine wpL.u 13 36 hQ E1_8 ?_
    try simp only [zP]
    refine wpL.u 14 50 hQ E1_8 ?_
    try simp only [zP]
    refine wpL.takeT (i := 15) (d := some 51) (v := ?v_w) rfl rfl (by kernel_rfl) (by kernel_rfl) (by kernel_rfl) (by kernel_rfl) hQ (Or.inl ⟨by rfl, ?y_w⟩) (Or.inr E1_8) ?r_w
    case y_w => intro w' hSw;go_simp;try rfl
    try simp only [zP]
    refine wpL.u 16 52 hQ E1_8 ?_
    try simp only [zP]
    have hF8 := hF.ext E1_8;obtain ⟨s8, A8, n8, c8, t8, B8, m8, d8, p0, p1, p2, p3, _⟩ := hF8.last hkl;have f0 := hF8.frozen (k * 4);have f1 := hF8.frozen (k * 4 + 1);have f2 := hF8.frozen (k * 4 + 2);have f3 := hF8.frozen (k * 4 + 3);refine wpL.tl (i := 17) rfl (fun K hK => ?_);go_simp;refine hK.out _ _ ?_;clear hK K
    try simp only [zP]
    refine wpL.done (by kernel_rfl) ?_ _;clear hQ;refine at_exit (fun U => Ext w U /\ Box U w.heap.size 72 #[.slice Ar nr cr, .slice (some ⟨b', off', Option.none⟩) nf cf] /\ Box U (w.heap.size + 1) 28 #[Value.bool false, Value.slice Option.none 0 0] /\ Box U g7 28 #[.bool sd, .slice Ad nd cd] /\ NI U ((denP ((partL qs fs).take k) : Nat) : Int) G sd Ad nd cd /\ Fill U (w.heap.size + 2) n ((partL qs fs).take k ++ [pk]) P) ?_ ?_
    ·have PU := hF8.rep hkl (h7.leT (M := P) (by omega))
     rw [show mkQ q.num (((q.den : Nat) : Int) * fv) = pk from HPK.out.symm] at PU;exact ⟨PU.2.2.1 _ (EW.trans E1_8) (by omega), PU.2.2.2 _ _ _ (by omega) (b2.ext E1_8), PU.2.2.2 _ _ _ (by omega) (b5.ext E1_8), PU.2.2.2 _ _ _ (by omega) (b7.ext E1_8), PU.2.1 _ _ _ _ _ _ (hd.ext E1_8), PU.1⟩
    clear p0 p1 p2 p3 f0 f1 f2 f3 EW b2 b5 b7 hd b9 hF hF8 i0' i1' h5 h7;rintro U2 ⟨EW, b2, b5, b7, hd, hF⟩;obtain ⟨s8, A8, n8, c8, t8, B8, m8, d8, _, _, p2, p3, he⟩ := hF.last hkl;have x2 := b7.cell 0 (.bool sd) rfl
    go_upto_region 9 with (fail)
    have ES0 := Ext.refl U2;refine wp_region_held_drew (S := Ext U2) (by kernel_rfl) ES0.drew (fun ES => ?_);clear ES0;refine Late.s0 ES (fun hAl hQ => ?_);refine Late.u 0 53 hQ ?_
    try simp only [zP]
    refine Late.u 1 54 hQ ?_
    try simp only [zP]
    refine Late.t 5 58 ?v_10 hQ ?y_10 ?_
    case y_10 => intro w' hSw;have q0_ := hSw.cellv p2;have q1_ := hSw.cellv p3;have k00 := (b7.ext hSw).c2;go_simp;try rfl
    try simp only [zP]
    refine Late.u 2 55 hQ ?_
    try simp only [zP]
    refine Late.u 3 56 hQ ?_
    try simp only [zP]
    refine Late.t 4 57 ?v_13 hQ ?y_13 ?_
    case y_13 => intro w' hSw;have q0_ := hSw.cellv p2;have q1_ := hSw.cellv p3;have k00 := (b7.ext hSw).c2;go_simp;try rfl
    try simp only [zP]
    refine Late.cl (i := 6) rfl hAl hQ (fun w6 e6 E6 K hK => ?_);go_simp
    (go_at_call 104; refine (p_Cmp ((he.den.ext E6)) (hd.ext E6) (by omega) (by omega)).mono ?_; rintro e wk6 ⟨rfl, hx6⟩)
    refine hK.out _ _ hx6 ?_;clear hK K
    try simp only [zP]
    refine Late.u 7 60 hQ ?_
    try simp only [zP]
    refine Late.d0 (fun wz ez Ez => ?_);clear hAl hQ ES;replace EW := EW.trans Ez;replace b2 := b2.ext Ez;replace b5 := b5.ext Ez;replace b7 := b7.ext Ez;replace hd := hd.ext Ez;replace hF := hF.ext Ez;replace he := he.ext Ez;replace p2 := Ez.cellv p2;replace p3 := Ez.cellv p3;clear Ez ez x2
    by_cases heq : (((pk.den : Nat) : Int) - ((denP ((partL qs fs).take k) : Nat) : Int)).sign = 0
    ·have HEQ := Lib.hid heq
     rw [heq]
     go_wp2_with fail
     go_roundw
     case rel =>
      have hdd : denP ((partL qs fs).take (k + 1)) = denP ((partL qs fs).take k) := by
       rw [HT.out, denP_snoc];have h9 := Int.sign_eq_zero_iff_zero.1 HEQ.out;rw [show pk.den = denP ((partL qs fs).take k) by omega, Nat.lcm_self]
      exact ⟨k + 1, sd, Ad, nd, cd, by omega, by go_num, EW, b2, b5, b7, by rw [hdd]; exact hd, by rw [HT.out]; exact hF⟩
     case measure => simp [intOf]; omega
    ·obtain ⟨S, hS, dS⟩ : ∃ S, (((pk.den : Nat) : Int) - ((denP ((partL qs fs).take k) : Nat) : Int)).sign = S /\ (S == 0) = false := ⟨_, rfl, beq_eq_false_iff_ne.2 heq⟩
     have HS := Lib.hid hS;rw [hS];clear hS heq
     go_upto_region 10 with (fail)
     refine wpL.st 15 (fun hQ ES => ?_);refine wpL.t 0 61 ?v_15 hQ ?y_15 ES ?_
     case y_15 => intro w' hSw;have q0_ := hSw.cellv p2;have q1_ := hSw.cellv p3;have k00 := (b7.ext hSw).c2;go_simp;try rfl
     try simp only [zP]
     refine wpL.u 1 62 hQ ES ?_
     try simp only [zP]
     refine wpL.u 2 63 hQ ES ?_
     try simp only [zP]
     refine wpL.t 6 67 ?v_18 hQ ?y_18 ES ?_
     case y_18 => intro w' hSw;have q0_ := hSw.cellv p2;have q1_ := hSw.cellv p3;have k00 := (b7.ext hSw).c2;go_simp;try rfl
     try simp only [zP]
     refine wpL.u 7 68 hQ ES ?_
     try simp only [zP]
     refine wpL.u 8 69 hQ ES ?_
     try simp only [zP]
     refine wpL.u 3 64 hQ ES ?_
     try simp only [zP]
     refine wpL.u 9 70 hQ ES ?_
     try simp only [zP]
     refine wpL.u 4 65 hQ ES ?_
     try simp only [zP]
     refine wpL.u 10 71 hQ ES ?_
     try simp only [zP]
     refine wpL.t 5 66 ?v_1f hQ ?y_1f ES ?_
     case y_1f => intro w' hSw;have q0_ := hSw.cellv p2;have q1_ := hSw.cellv p3;have k00 := (b7.ext hSw).c2;go_simp;try rfl
     try simp only [zP]
     refine wpL.t 11 72 ?v_1g hQ ?y_1g ES ?_
     case y_1g => intro w' hSw;have q0_ := hSw.cellv p2;have q1_ := hSw.cellv p3;have k00 := (b7.ext hSw).c2;go_simp;try rfl
     try simp only [zP]
     refine wpL.cl (i := 12) rfl (fun K hK => ?_);go_simp
     (go_at_call 88; refine (p_GCD (hd.ext ES) (he.den.ext ES) (by omega) (by omega) (hT.ext (EW.trans ES))).mono ?_; rintro e wa ⟨s1, A1, n1, c1, rfl, h1, hx0⟩; rw [Int.natAbs_natCast, Int.natAbs_natCast] at h1; have E0_10 := Ext.trans ES hx0)
     refine hK.out _ _ E0_10 ?_;clear hK K
     try simp only [zP]
     refine wpL.cl (i := 13) rfl (fun K hK => ?_);go_simp
     (go_at_call 105; refine (p_exactT (he.den.ext E0_10) h1 (by omega) (by omega) HG.out.1 HG.out.2).mono ?_; rintro e wb ⟨s2, A2, n2, c2, rfl, h2, hx1⟩; have E1_10 := Ext.trans E0_10 hx1)
     refine hK.out _ _ E1_10 ?_;clear hK K
     try simp only [zP]
     refine wpL.cl (i := 14) rfl (fun K hK => ?_);go_simp
     (go_at_call 70; refine (p_MulG (hd.ext E1_10) h2 (by omega) (by omega)).mono ?_; rintro e wc ⟨s3, A3, n3, c3, rfl, h3, hx2⟩; have E2_10 := Ext.trans E1_10 hx2)
     refine hK.out _ _ E2_10 ?_;clear hK K
     try simp only [zP]
     have z0 := (b7.ext E2_10).cell 0 _ rfl;have z1 := (b7.ext E2_10).cell 1 _ rfl;have f0 := (b7.ext E2_10).frozen 0;have f1 := (b7.ext E2_10).frozen 1;refine wpL.tl (i := 15) rfl (fun K hK => ?_);go_simp;refine hK.out _ _ ?_;clear hK K
     try simp only [zP]
     refine wpL.done (by kernel_rfl) ?_ _;clear hQ
     go_wp2_with fail
     obtain ⟨q1, q2, q3, q4⟩ := fin_dual (s := s3) (A := A3) (n := n3) (c := c3) (b7.ext E2_10);unfold set2 at q1 q2 q3 q4;have hdk := q2 _ _ _ _ _ _ h3;rw [lcm_step, <- denP_snoc, <- HT.out] at hdk;have F1 := q3 _ (EW.trans E2_10) (by omega);have F2 := q4 _ _ _ (by omega) (b2.ext E2_10);have F3 := q4 _ _ _ (by omega) (b5.ext E2_10);have F4 := (hF.ext E2_10).far (fun T cs hb => q4 _ _ _ (by omega) hb) q2
     go_roundw
     case rel => exact ⟨k + 1, s3, A3, n3, c3, by omega, by go_num, F1, F2, F3, q1, hdk.tight' (by rw [Int.natAbs_natCast]; exact HGT.out (k + 1)), by rw [HT.out]; exact F4⟩
     case measure => simp [intOf]; omega
  ·have hkn : k = n := by omega
   subst hkn;rw [List.take_of_length_le (Nat.le_of_eq Hpl.out)] at hd hF;have hI : (k : Int) <= (k : Int) := Int.le_refl _;have Hnl := Lib.hid ((numsP_len (partL qs fs)).trans Hpl.out)
   go_wp2_with fail
   obtain ⟨g11, hg11⟩ : ∃ g, wr.heap.size = g := ⟨_, rfl⟩;have hgr := EW.size;rw [hg11] at hgr hs7 hsp
   try rw [hg11]
   go_loopw [82] (fun i wq => ∃ (j : Nat), j <= k /\ i = .int .i64 (j : Int) /\ Ext w wq /\ Box wq w.heap.size 72 #[.slice Ar nr cr, .slice (some ⟨b', off', Option.none⟩) nf cf] /\ Box wq (w.heap.size + 1) 28 #[Value.bool false, Value.slice Option.none 0 0] /\ Box wq g7 28 #[.bool sd, .slice Ad nd cd] /\ NI wq ((denP (partL qs fs) : Nat) : Int) G sd Ad nd cd /\ Fill wq (w.heap.size + 2) k (partL qs fs) P /\ IRow wq g11 ((numsP (partL qs fs)).take j ++ List.replicate (k - j) 0) (G + P + 2)) (fun i _ => k - (intOf i).toNat)
   case atStart =>
    have ha := (Ext.refl wr).alloc (.cells (zeroI k).toArray 28);exact ⟨0, Nat.zero_le _, rfl, EW.trans ha, b2.ext ha, b5.ext ha, b7.ext ha, hd.ext ha, hF.ext ha, by rw [List.take_zero, List.nil_append, Nat.sub_zero]; rw [<- hg11]; exact IRow.new wr k _⟩
   case round =>
    clear EW b2 b5 b7 hd hF;obtain ⟨j, hj, rfl, EW, b2, b5, b7, hd, hF, hR⟩ := hrel;have hs11 := hR.lt
    by_cases hlt : j < k
    ·have hjq : j < (partL qs fs).length := by rw [Hpl.out]; exact hlt
     have hI : (j : Int) < (k : Int) := by omega
     obtain ⟨sx, Ax, nx, cx, tx, Bx, mx, dx, e0, e1, e2, e3, hx⟩ := (hF.rrow Hpl.out).get hjq;have hjn : j < (numsP (partL qs fs)).length := by rw [Hnl.out]; exact hlt
     have hkl : j < ((numsP (partL qs fs)).take j ++ List.replicate (k - j) 0).length := by rw [List.length_append, List.length_take, List.length_replicate, Hnl.out]; omega
     have HS := Lib.hid (set_fill hjn Hnl.out);have HV := Lib.hid (numsP_at (partL qs fs) j hjn hjq);have HD := Lib.hid (show (((partL qs fs)[j].den : Nat) : Int) ≠ 0 /\ (((partL qs fs)[j].den : Nat) : Int) ∣ ((denP (partL qs fs) : Nat) : Int) from ⟨by have := (partL qs fs)[j].den_pos; omega, Int.natCast_dvd_natCast.2 (denP_dvd (List.getElem_mem hjq))⟩);generalize (partL qs fs)[j] = q at hx HV HD;obtain ⟨fac, hfac⟩ : ∃ fac, fac = ((denP (partL qs fs) : Nat) : Int) / ((q.den : Nat) : Int) := ⟨_, rfl⟩;rw [<- hfac] at HV;have HFC := Lib.hid hfac;clear hfac
     go_upto_region 16 with (fail)
     obtain ⟨V1, hV, ext1, b9, hz9⟩ := box1 wr 30 #[.bool sx, .slice Ax nx cx, .bool tx, .slice Bx mx dx];rw [<- hV];clear hV hz9 e0 e1 e2 e3;replace hx := hx.ext ext1;replace b2 := b2.ext ext1;replace b5 := b5.ext ext1;replace b7 := b7.ext ext1;replace hd := hd.ext ext1;replace hF := hF.ext ext1;replace hR := hR.ext ext1;replace EW := EW.trans ext1;clear ext1;generalize wr.heap.size = g12 at *;have x0 := b9.cell 0 (.bool sx) rfl;have x1 := b9.cell 1 (.slice Ax nx cx) rfl;have x2 := b9.cell 2 (.bool tx) rfl;have x3 := b9.cell 3 (.slice Bx mx dx) rfl;obtain ⟨sz, Az, nz, cz, z0, z1, _⟩ := hR.get hkl;have f0 := hR.frozen (j * 2);have f1 := hR.frozen (j * 2 + 1)
     go_upto_region 17 with (fail)
     have PP := hR.put hkl (hx.num.le (show P <= G + P + 2 by omega));have hx9 := PP.2.1 _ _ _ _ _ _ hx.num;have hy9 := PP.2.1 _ _ _ _ _ _ hx.den;refine at_world (fun U => Ext w U /\ Box U w.heap.size 72 #[.slice Ar nr cr, .slice (some ⟨b', off', Option.none⟩) nf cf] /\ Box U (w.heap.size + 1) 28 #[Value.bool false, Value.slice Option.none 0 0] /\ Box U g7 28 #[.bool sd, .slice Ad nd cd] /\ NI U ((denP (partL qs fs) : Nat) : Int) G sd Ad nd cd /\ Fill U (w.heap.size + 2) k (partL qs fs) P /\ IRow U g11 (((numsP (partL qs fs)).take j ++ List.replicate (k - j) 0).set j q.num) (G + P + 2) /\ Box U g12 30 #[.bool sx, .slice Ax nx cx, .bool tx, .slice Bx mx dx] /\ NI U q.num P sx Ax nx cx /\ NI U ((q.den : Nat) : Int) P tx Bx mx dx) ⟨PP.2.2.1 _ EW hgr, PP.2.2.2 _ _ _ (by omega) b2, PP.2.2.2 _ _ _ (by omega) b5, PP.2.2.2 _ _ _ (by omega) b7, PP.2.1 _ _ _ _ _ _ hd, hF.far (fun T cs hb => PP.2.2.2 _ _ _ (by omega) hb) PP.2.1, PP.1, PP.2.2.2 _ _ _ (by omega) b9, hx9, hy9⟩ ?_;clear PP hx9 hy9 hx z0 z1 f0 f1 x0 x1 x2 x3 EW b2 b5 b7 hd hF hR b9;rintro U0 ⟨EW, b2, b5, b7, hd, hF, hR, b9, hx, hy⟩;have x0 := b9.cell 0 (.bool sx) rfl;have x1 := b9.cell 1 (.slice Ax nx cx) rfl;have x2 := b9.cell 2 (.bool tx) rfl;have x3 := b9.cell 3 (.slice Bx mx dx) rfl;have y0 := b7.cell 0 (.bool sd) rfl;have y1 := b7.cell 1 (.slice Ad nd cd) rfl
     go_wp2_with fail
     refine (p_exactT hd hy (by omega) (by omega) HD.out.1 HD.out.2).mono ?_;rintro e U1 ⟨s5, A5, n5, c5, rfl, h5, hx1⟩;rw [<- HFC.out] at h5
     go_upto_region 18 with (fail)
     obtain ⟨U2, hU, ext2, b13, hz13⟩ := box1 U1 28 #[.bool s5, .slice A5 n5 c5];rw [<- hU];clear hU hz13 y0 y1 x0 x1 x2 x3;replace h5 := h5.ext ext2;replace ext2 := hx1.trans ext2;replace hx := hx.ext ext2;replace b2 := b2.ext ext2;replace b5 := b5.ext ext2;replace b7 := b7.ext ext2;replace hd := hd.ext ext2;replace hF := hF.ext ext2;replace hR := hR.ext ext2;replace b9 := b9.ext ext2;replace EW := EW.trans ext2;clear ext2 hx1 hy;have x0 := b9.cell 0 (.bool sx) rfl;have x1 := b9.cell 1 (.slice Ax nx cx) rfl;have v0 := b13.cell 0 (.bool s5) rfl;have v1 := b13.cell 1 (.slice A5 n5 c5) rfl
     by_cases hone : fac = 1
     ·have H1 := Lib.hid hone
      go_wp2_with fail
      refine (p_isOneT h5).mono ?_;rintro e U3 ⟨rfl, hx1⟩;rw [decide_eq_true H1.out]
      go_wp2_with fail
      go_roundw
      case rel =>
       have h9 := hR.ext hx1;rw [show q.num = (numsP (partL qs fs))[j] by rw [HV.out, H1.out, Int.mul_one], HS.out] at h9;exact ⟨j + 1, by omega, by go_num, EW.trans hx1, b2.ext hx1, b5.ext hx1, b7.ext hx1, hd.ext hx1, hF.ext hx1, h9⟩
      case measure => simp [intOf]; omega
     ·have H1 := Lib.hid hone
      clear hone
      go_wp2_with fail
      refine (p_isOneT h5).mono ?_;rintro e U3 ⟨rfl, hx1⟩;rw [decide_eq_false H1.out];replace x0 := hx1.cellv x0;replace x1 := hx1.cellv x1;replace v0 := hx1.cellv v0;replace v1 := hx1.cellv v1;clear b9 b13
      go_wp2_with fail
      refine (p_MulG (hx.ext hx1) (h5.ext hx1) (by omega) (by omega)).mono ?_;rintro e U4 ⟨s6, A6, n6, c6, rfl, h6, hx2⟩;have ex := hx1.trans hx2;replace b2 := b2.ext ex;replace b5 := b5.ext ex;replace b7 := b7.ext ex;replace hd := hd.ext ex;replace hF := hF.ext ex;replace hR := hR.ext ex;replace EW := EW.trans ex;clear x0 x1 v0 v1 ex hx1 hx2;rw [<- HV.out] at h6;have hkl2 : j < (((numsP (partL qs fs)).take j ++ List.replicate (k - j) 0).set j q.num).length := by rw [List.length_set]; exact hkl
      obtain ⟨sz, Az, nz, cz, z0, z1, _⟩ := hR.get hkl2;have f0 := hR.frozen (j * 2);have f1 := hR.frozen (j * 2 + 1)
      go_wp2_with fail
      have PP := hR.put hkl2 (h6.le (show P + G <= G + P + 2 by omega));rw [List.set_set, HS.out] at PP
      go_roundw
      case rel => exact ⟨j + 1, by omega, by go_num, PP.2.2.1 _ EW hgr, PP.2.2.2 _ _ _ (by omega) b2, PP.2.2.2 _ _ _ (by omega) b5, PP.2.2.2 _ _ _ (by omega) b7, PP.2.1 _ _ _ _ _ _ hd, hF.far (fun T cs hb => PP.2.2.2 _ _ _ (by omega) hb) PP.2.1, PP.1⟩
      case measure => simp [intOf]; omega
    ·have hjk : j = k := by omega
     subst hjk;rw [List.take_of_length_le (Nat.le_of_eq Hnl.out), Nat.sub_self, List.replicate_zero, List.append_nil] at hR;have hI : (j : Int) <= (j : Int) := Int.le_refl _
     go_upto_region 21 with (fail)
     refine wpL.st 3 (fun hQ ES => ?_);refine wpL.u 0 107 hQ ES ?_
     try simp only [zP]
     refine wpL.t 1 108 ?v_1i hQ ?y_1i ES ?_
     case y_1i => intro w' hSw;have k00 := (b7.ext hSw).c2;go_simp;try rfl
     try simp only [zP]
     refine wpL.u 2 4 hQ ES ?_
     try simp only [zP]
     have z0 := b5.cell 0 _ rfl;have z1 := b5.cell 1 _ rfl;have f0 := b5.frozen 0;have f1 := b5.frozen 1;refine wpL.tl (i := 3) rfl (fun K hK => ?_);go_simp;refine hK.out _ _ ?_;clear hK K
     try simp only [zP]
     refine wpL.done (by kernel_rfl) ?_ _;clear hQ
     go_wp2_with fail
     obtain ⟨q1, q2, q3, q4⟩ := fin_dual (s := sd) (A := Ad) (n := nd) (c := cd) b5;have q1d := q1.ext (Ext.refl _).drew;have r0 := q1d.cell 0 (.bool sd) rfl;have r1 := q1d.cell 1 (.slice Ad nd cd) rfl;obtain ⟨cs, c1, c2⟩ := hR;have hR2 : IRow _ g11 (numsP (partL qs fs)) (G + P + 2) := ⟨cs, q4 _ _ _ (by omega) c1, c2.ni q2⟩;have hp2 := (hR2.ext (Ext.refl _).drew).pol Hnl.out (by unfold maxLen; omega);have hd2 := (q2 _ _ _ _ _ _ hd).ext (Ext.refl _).drew;have ex2 := (q3 _ EW (by omega)).trans (Ext.refl _).drew;unfold set2 at r0 r1 hd2 ex2 hp2;refine bodyPost_ret (v := .tuple #[.slice (some ⟨g11, 0, none⟩) j j, .agg #[.bool sd, .slice Ad nd cd]]) (by simp [results, Tryz.results66, go_sem, r0, r1]) rfl ⟨_, sd, Ad, nd, cd, rfl, hgr, hp2, hd2, ex2⟩
end
end
section
open Go.RowKit
def ringR (ts : List (List Rat)) : List (List Int) × List Int :=
 ts.foldl (fun g r => (g.1 ++ [(numsP (partL r g.2)).map (· * ((denP (partL r g.2) : Nat) : Int))], g.2 ++ g.2.map (· * ((denP (partL r g.2) : Nat) : Int)))) ([], [1])
theorem ringR_snoc (ts : List (List Rat)) (r : List Rat) : ringR (ts ++ [r]) = ((ringR ts).1 ++ [(numsP (partL r (ringR ts).2)).map (· * ((denP (partL r (ringR ts).2) : Nat) : Int))], (ringR ts).2 ++ (ringR ts).2.map (· * ((denP (partL r (ringR ts).2) : Nat) : Int))) := by
 unfold ringR;rw [List.foldl_append]
 rfl
theorem ringR_take {ts : List (List Rat)} (ht : TowL ts) : ∀ k, k <= ts.length -> (ringR (ts.take k)).1.length = k /\ (ringR (ts.take k)).2.length = 2 ^ k /\ (∀ f ∈ (ringR (ts.take k)).2, 0 < f) /\ (∀ R ∈ (ringR (ts.take k)).1, R ≠ []) /\ TowI (ringR (ts.take k)).1 := by
 intro k
 induction k with
 | zero =>
  intro _;rw [List.take_zero];refine ⟨rfl, rfl, ?_, ?_, ?_⟩
  ·intro f hf
   rw [List.mem_singleton.1 hf]
   decide
  ·intro R hR
   cases hR
  ·intro i hi
   cases hi
 | succ k ih =>
  intro hk;obtain ⟨h1, h2, h3, h4, h5⟩ := ih (by omega);have hj : k < ts.length := by omega
  have hl := ht k hj;rw [List.take_succ_eq_append_getElem hj, ringR_snoc];generalize ts[k] = r at hl;generalize ringR (ts.take k) = G at h1 h2 h3 h4 h5
  have hn : ((numsP (partL r G.2)).map (· * ((denP (partL r G.2) : Nat) : Int))).length = 2 ^ k := by
   rw [List.length_map, numsP_len];unfold partL;rw [List.length_zipWith, hl, h2, Nat.min_self]
  refine ⟨by simp [h1], by rw [List.length_append, List.length_map, h2, Nat.pow_succ]; omega, ?_, ?_, ?_⟩
  ·intro f hf
   rcases List.mem_append.1 hf with hf | hf
   ·exact h3 f hf
   ·obtain ⟨g, hg, rfl⟩ := List.mem_map.1 hf
    exact Int.mul_pos (h3 g hg) (by have := denP_pos (partL r G.2); omega)
  ·intro R hR
   rcases List.mem_append.1 hR with hR | hR
   ·exact h4 R hR
   ·rw [List.mem_singleton.1 hR]
    intro e;rw [e] at hn;have := Nat.pow_pos (n := k) (show 0 < 2 by omega);simp at hn;omega
  ·intro i hi
   rcases Nat.lt_or_ge i k with hik | hik
   ·rw [List.getElem_append_left (by omega)]
    exact h5 i (by omega)
   ·simp only [List.length_append, List.length_singleton] at hi
    have e : i = k := by omega
    subst e;rw [List.getElem_append_right (by omega)];simp only [h1, Nat.sub_self, List.getElem_cons_zero];exact hn
theorem grownC (w : World) (a : Addr) (u : Value) : w.grownBy (w.setCell a u) (some a.block) :=
 ⟨rfl, rfl, rfl, by simp, fun k _ hk => heap_setCell_other w a k u (fun e => hk (by rw [e]))⟩
def Off (v : Value) (A : Option Addr) : Prop := ∀ a, A = some a -> v.ownBlock ≠ some a.block
structure RowO (w : World) (base : Nat) (v : Value) (Rs : List (List Int)) (L : Nat) (f : Value) : Prop where
 own : ∃ cs, w.ownsRow base 70 1 v Rs.length cs /\ SCells w L Rs cs /\ ∀ A n c, Value.slice A n c ∈ cs -> Off f A
 nsb : NSB w v
section
variable {w w' : World} {base L M : Nat} {v v0 f f' : Value} {Rs : List (List Int)} {zs ys : List Int} {A B : Option Addr} {n c m d : Nat} {cs : List Value}
theorem owns_lt {b sz n : Nat} {e : TypeId} {xs : List Value} (h : w.ownsRow b e sz v n xs) : ∀ g, v.ownBlock = some g -> g < w.heap.size := by
 intro g hg
 rcases h.2 with ⟨rfl, _⟩ | ⟨g1, cap, cur, rfl, _, h1, _⟩
 ·cases hg
 ·injection hg with hg
  subst hg
  rcases Nat.lt_or_ge g1 w.heap.size with j | j
  ·exact j
  ·rw [Array.getElem?_eq_none j] at h1
   cases h1
theorem owns_ne {b b' sz sz' n n' : Nat} {e e' : TypeId} {xs xs' : List Value} (h : w.ownsRow b e sz v n xs) (h' : w.ownsRow b' e' sz' v0 n' xs') (he : e ≠ e') : ∀ g, v.ownBlock = some g -> v0.ownBlock ≠ some g := by
 intro g hg hg'
 rcases h.2 with ⟨rfl, _⟩ | ⟨g1, cap, cur, rfl, _, h1, _⟩
 ·cases hg
 rcases h'.2 with ⟨rfl, _⟩ | ⟨g2, cap2, cur2, rfl, _, h2, _⟩
 ·cases hg'
 injection hg with hg
 injection hg' with hg'
 have e2 : g1 = g2 := hg.trans hg'.symm;subst e2;rw [h1] at h2
 injection h2 with h2
 injection h2 with _ h3
 exact he h3
theorem owns_box {b sz n g : Nat} {e T : TypeId} {xs : List Value} {bs : Array Value} (h : w.ownsRow b e sz v n xs) (hb : Box w g T bs) (he : e ≠ T) : v.ownBlock ≠ some g := by
 intro hg
 rcases h.2 with ⟨rfl, _⟩ | ⟨g1, cap, cur, rfl, _, h1, _⟩
 ·cases hg
 injection hg with hg
 have e2 : g1 = g := hg;subst e2;unfold Box at hb;rw [h1] at hb
 injection hb with h2
 injection h2 with _ h3
 exact he h3
theorem owns_far {b sz n : Nat} {e : TypeId} {xs : List Value} {row : Option Nat} (h : w.ownsRow b e sz v n xs) (k : w.grownBy w' row) (hne : ∀ g, v.ownBlock = some g -> row ≠ some g) : w'.ownsRow b e sz v n xs := by
 have hlt := owns_lt h;refine ⟨h.1, h.2.imp id ?_⟩;rintro ⟨g, cap, cur, hv, hb, hh, h1⟩;have hg : v.ownBlock = some g := by rw [hv]; rfl
 exact ⟨g, cap, cur, hv, hb, (k.block g (hlt g hg) (fun e => hne g hg e.symm)).trans hh, h1⟩
theorem RowO.lt (h : RowO w base v Rs L f) : ∀ g, v.ownBlock = some g -> base <= g /\ g < w.heap.size := by
 intro g hg;obtain ⟨cs, h1, _⟩ := h.own;exact ⟨owns_block h1 g hg, owns_lt h1 g hg⟩
theorem RowO.ext (h : RowO w base v Rs L f) (e : Ext w w') : RowO w' base v Rs L f := by
 obtain ⟨cs, h1, h2, h3⟩ := h.own;exact ⟨⟨cs, owns_ext h1 e, h2.ext e, h3⟩, h.nsb.ext e⟩
theorem RowO.nil (w : World) (base L : Nat) (f : Value) : RowO w base (.slice Option.none 0 0) [] L f := ⟨⟨[], owns_nil _ _ _ _, .nil, fun _ _ _ h => by cases h⟩, fun g hg => by cases hg⟩
theorem RowO.ownN (h : RowO w base v Rs L f) (hv : NSB w v0) (k : w.grownBy w' v0.ownBlock) (hne : ∀ g, v.ownBlock = some g -> v0.ownBlock ≠ some g) : RowO w' base v Rs L f := by
 obtain ⟨cs, h1, h2, h3⟩ := h.own;refine ⟨⟨cs, owns_far h1 k hne, h2.own hv k, h3⟩, ?_⟩;intro g hg;obtain ⟨cur, e, fz, q1, q2⟩ := h.nsb g hg;exact ⟨cur, e, fz, (k.block g (owns_lt h1 g hg) (fun e => hne g hg e.symm)).trans q1, q2⟩
theorem Row2.ownN (h : Row2 w base v zs L) (hv : NSB w v0) (k : w.grownBy w' v0.ownBlock) (hne : ∀ g, v.ownBlock = some g -> v0.ownBlock ≠ some g) : Row2 w' base v zs L := by
 obtain ⟨cs, h1, h2⟩ := h.own;refine ⟨⟨cs, owns_far h1 k hne, h2.own hv.nwb k⟩, ?_⟩;intro g hg;obtain ⟨cur, e, fz, q1, q2⟩ := h.nwb g hg;exact ⟨cur, e, fz, (k.block g (owns_lt h1 g hg) (fun e => hne g hg e.symm)).trans q1, q2⟩
theorem IPol.ownR (h : IPol w A n c zs L) (hv : NWB w v) (k : w.grownBy w' v.ownBlock) (ho : Off v A) : IPol w' A n c zs L := by
 refine ⟨h.len, h.cap, h.top, fun hq => ?_⟩;obtain ⟨b, off, h1, h2⟩ := h.at_ hq;refine ⟨b, off, h1, ⟨fun i hi => ?_⟩⟩;obtain ⟨s, A', n', c', e0, e1, hx⟩ := h2.at_ i hi;have hne : v.ownBlock ≠ some b := ho _ h1
 have hc : ∀ o u, w.cell? ⟨b, o, Option.none⟩ = some u -> w'.cell? ⟨b, o, Option.none⟩ = some u := fun o u hu => by
  have hlt := cell_lt hu;rw [World.cell?_of_block (k.block b hlt (fun e => hne e.symm)), hu]
 exact ⟨s, A', n', c', hc _ _ e0, hc _ _ e1, hx.own hv k⟩
theorem SCells.ownR (h : SCells w L Rs cs) (hv : NWB w v) (k : w.grownBy w' v.ownBlock) (ho : ∀ A n c, Value.slice A n c ∈ cs -> Off v A) : SCells w' L Rs cs := by
 induction h with
 | nil => exact .nil
 | cons h _ ih => exact .cons (h.ownR hv k (ho _ _ _ List.mem_cons_self)) (ih (fun A n c hm => ho A n c (List.mem_cons_of_mem _ hm)))
theorem SCells.lt (h : SCells w L Rs cs) (hR : ∀ R ∈ Rs, R ≠ []) : ∀ A n c, Value.slice A n c ∈ cs -> ∀ a, A = some a -> a.block < w.heap.size := by
 induction h with
 | nil => intro A n c hm; cases hm
 | @cons zs Rs A0 n0 c0 cs0 h _ ih =>
  intro A n c hm a ha
  rcases List.mem_cons.1 hm with e | hm
  ·injection e with e1
   subst e1;have hz := hR zs List.mem_cons_self;obtain ⟨b, off, h1, h2⟩ := h.at_ hz;rw [h1] at ha
   injection ha with ha
   subst ha;obtain ⟨s, A', n', c', e0, _⟩ := h2.at_ 0 (List.length_pos_iff.2 hz);exact cell_lt e0
  ·exact ih (fun R hr => hR R (List.mem_cons_of_mem _ hr)) A n c hm a ha
theorem RowO.grow (h : RowO w base v Rs L f) (hv : NWB w f) (k : w.grownBy w' f.ownBlock) (hne : ∀ g, v.ownBlock = some g -> f.ownBlock ≠ some g) (hR : ∀ R ∈ Rs, R ≠ []) (k2 : f'.ownBlock = f.ownBlock \/ f'.ownBlock = some w.heap.size) : RowO w' base v Rs L f' := by
 obtain ⟨cs, h1, h2, h3⟩ := h.own;have hlt := h2.lt hR;refine ⟨⟨cs, owns_far h1 k hne, h2.ownR hv k h3, ?_⟩, ?_⟩
 ·intro A n c hm a ha
  rcases k2 with e | e
  ·rw [e]; exact h3 A n c hm a ha
  ·rw [e]
   have := hlt A n c hm a ha;intro e2
   injection e2 with e2
   omega
 ·intro g hg
  obtain ⟨cur, e, fz, q1, q2⟩ := h.nsb g hg;exact ⟨cur, e, fz, (k.block g (owns_lt h1 g hg) (fun e => hne g hg e.symm)).trans q1, q2⟩
theorem RowO.isl (h : RowO w base v Rs L f) : ∃ A n c, v = .slice A n c /\ ISl w A n c Rs L := by
 obtain ⟨cs, h1, h2, _⟩ := h.own
 rcases h1.2 with ⟨rfl, h0⟩ | ⟨g, cap, cur, rfl, hbg, hg, hnc, hcm, hcs, htk⟩
 ·have hz : Rs = [] := List.length_eq_zero_iff.1 h0
  subst hz;exact ⟨_, _, _, rfl, rfl, Nat.le_refl _, Nat.zero_le _, fun h => absurd rfl h⟩
 ·refine ⟨_, _, _, rfl, rfl, hnc, hcm, fun _ => ⟨g, 0, rfl, fun i hi => ?_⟩⟩
  obtain ⟨A, n, c, e0, e1⟩ := h2.get i hi;refine ⟨A, n, c, ?_, e1⟩;rw [Nat.zero_add, cell_of_row w g _ _ _ _ hg];rw [<- htk] at e0;rw [List.getElem?_take] at e0
  split at e0
  ·simpa using e0
  ·cases e0
theorem run_append_sliceO {ty : TypeId} {g : Nat} (h : RowO w base v Rs L f) (hq : IPol w A n c zs L) (ho : Off f A) (hb : Box w g 70 #[.slice A n c]) (hl : Rs.length <= 1000) (hbase : base <= w.heap.size) :
  ∃ v' w', (Builtin.append_ #[69, 69] ty #[v, .slice (some ⟨g, 0, Option.none⟩) 1 1]).run Tryz.prog w = .ok v' w' /\ RowO w' base v' (Rs ++ [zs]) L f /\ w.grownBy w' v.ownBlock /\ (v'.ownBlock = v.ownBlock \/ v'.ownBlock = some w.heap.size) := by
 obtain ⟨i0, hi, hz0, hz1, hz2⟩ := info_partsB Tryz.infoSl;obtain ⟨cs, h1, h2, h3⟩ := h.own;have hone : SCells w L [zs] [.slice A n c] := .cons hq .nil
 have hnews : ∀ j u, ([.slice A n c] : List Value)[j]? = some u -> w.cell? ((⟨g, 0, Option.none⟩ : Addr).add j) = some u := by
  intro j u hj
  match j, hj with
  | 0, hj => exact hb.cell 0 u hj
  | j + 1, hj => simp at hj
 rw [<- hz1] at h1
 obtain ⟨v', w', hr, k1, k2, k3, k4⟩ := run_append_sl (P := Tryz.prog) (ty := ty) (c := 1) Tryz.underlying69 hi hz0 hz2 (by rw [hz1]; rfl) (by omega) (by
  intro u hu;simp [Value.cells] at hu;subst hu;exact ⟨_, _, _, rfl⟩) h1 h.nsb (m := 1) (by rw [hz1]; rfl) hnews (by intro u hu; rw [List.mem_singleton.1 hu]; rfl) (by intro u hu; rw [List.mem_singleton.1 hu]; exact ⟨_, _, _, rfl⟩) (by omega) (by unfold maxLen; omega) (by omega) hbase
 rw [hz1] at k1;refine ⟨v', w', hr, ⟨⟨cs ++ [.slice A n c], ?_, (h2.own h.nsb k2).append (hone.own h.nsb k2), ?_⟩, k4⟩, k2, k3⟩
 ·rw [List.length_append]
  exact k1
 ·intro A' n' c' hm
  rcases List.mem_append.1 hm with hm | hm
  ·exact h3 A' n' c' hm
  ·have e := List.mem_singleton.1 hm
   injection e with e1
   subst e1;exact ho
theorem step_append_rowO {ops : Array Oper} {o : Oper} {a : Act} {K : Act -> World -> Prop} {Q : Exit -> Act -> World -> Prop} {E : Prop} {g : Nat} (hgd : o.guard = Option.none) (x y : Operand)
  (hop : o.op = .call { callee := .builtin .append, args := #[x, y], argTypes := #[69, 69] })
  (hx : a.eval x = v) (hy : a.eval y = .slice (some ⟨g, 0, Option.none⟩) 1 1)
  (h : RowO w base v Rs L f) (hq : IPol w A n c zs L) (ho : Off f A) (hb : Box w g 70 #[.slice A n c]) (hl : Rs.length <= 1000) (hbase : base <= w.heap.size)
  (hK : ∀ v' w', RowO w' base v' (Rs ++ [zs]) L f -> w.grownBy w' v.ownBlock -> K (a.put o.dst v') w') :
  if Region.wanted o (yielded ops a.tmps) = true then Oper.wp Tryz.prog o a w K Q else E := by
 have hw : Region.wanted o (yielded ops a.tmps) = true := by simp [Region.wanted, hgd]
 rw [if_pos hw];obtain ⟨v', w', hr, h2, h3, _⟩ := run_append_sliceO (ty := o.type) h hq ho hb hl hbase;unfold Oper.wp execOp;simp only [hop, resolve, invoke, builtin, Sem.run_bind, Sem.run_pure, Result.andThen_ok, List.map_toArray, List.map_cons, List.map_nil, hx, hy, hr];exact hK v' w' h2 h3
theorem step_append_row2 {ops : Array Oper} {o : Oper} {a : Act} {K : Act -> World -> Prop} {Q : Exit -> Act -> World -> Prop} {E : Prop} (hgd : o.guard = Option.none) (x y : Operand)
  (hop : o.op = .call { callee := .builtin .append, args := #[x, y], argTypes := #[70, 70] })
  (hx : a.eval x = v) (hy : a.eval y = .slice A n c)
  (h : Row2 w base v zs L) (hp : IPol w A n c ys L) (h0 : 0 < n) (hl : zs.length <= 1000) (hn : n <= 1000) (hbase : base <= w.heap.size)
  (hK : ∀ v' w', Row2 w' base v' (zs ++ ys) L -> w.grownBy w' v.ownBlock -> (v'.ownBlock = v.ownBlock \/ v'.ownBlock = some w.heap.size) -> K (a.put o.dst v') w') :
  if Region.wanted o (yielded ops a.tmps) = true then Oper.wp Tryz.prog o a w K Q else E := by
 have hw : Region.wanted o (yielded ops a.tmps) = true := by simp [Region.wanted, hgd]
 rw [if_pos hw];obtain ⟨v', w', hr, h2, h3, h4⟩ := run_append_rowI (ty := o.type) h hp h0 hl hn hbase;unfold Oper.wp execOp;simp only [hop, resolve, invoke, builtin, Sem.run_bind, Sem.run_pure, Result.andThen_ok, List.map_toArray, List.map_cons, List.map_nil, hx, hy, hr];exact hK v' w' h2 h3 h4
theorem NSB.box {g : Nat} {T : TypeId} {bs : Array Value} (hb : Box w g T bs) (hn : NSW bs) : NSB w (.slice (some ⟨g, 0, Option.none⟩) 2 2) := by
 intro g' hg
 injection hg with hg
 have e : g = g' := hg;subst e;exact ⟨_, _, _, hb, hn⟩
theorem p_multipleN {y : Int} {sy : Bool} {Ay : Option Addr} {ny cy : Nat} (h : IPol w A n c zs L) (hk : NI w y M sy Ay ny cy) (hL : L <= 40000) (hM : M <= 40000) (hLM : L + M <= 50000) (hn : n <= 1000) : Calls Tryz.prog 73 #[.slice A n c, .agg #[.bool sy, .slice Ay ny cy]] w (fun e w' => ∃ A' c', e = .returned (.slice A' n c') /\ IPol w' A' n c' (zs.map (· * y)) (L + M) /\ (A' = A \/ ∃ g, A' = some ⟨g, 0, Option.none⟩ /\ w.heap.size <= g) /\ Ext w w') := by
 have hmf : ∀ (fn : Fn) (first cap : Array Value) (w : World), (Instr.makeFunc fn first cap).run Tryz.prog w = .ok (.func fn first cap) w := fun _ _ _ _ => rfl
 go_enter Tryz.func73, Tryz.ntmps73
 go_upto_region 1 with (fail)
 obtain ⟨W, hW, ext, bx, hz⟩ := box1 w 28 #[.bool sy, .slice Ay ny cy];rw [<- hW];clear hW hz;have x0 := bx.cell 0 (.bool sy) rfl;have x1 := bx.cell 1 (.slice Ay ny cy) rfl
 by_cases hone : y = 1
 ·have H1 := Lib.hid hone
  go_wp2_with fail
  refine (p_isOneT (hk.ext ext)).mono ?_;rintro e V ⟨rfl, hxt⟩;rw [decide_eq_true H1.out]
  go_wp2_with fail
  go_ret
  refine ⟨A, c, rfl, ?_, Or.inl rfl, ext.trans hxt⟩;rw [H1.out, show zs.map (· * (1 : Int)) = zs by simp];exact (h.ext (ext.trans hxt)).leT (by omega)
 ·have H1 := Lib.hid hone
  clear hone
  go_wp2_with fail
  refine (p_isOneT (hk.ext ext)).mono ?_;rintro e V ⟨rfl, hxt⟩;rw [decide_eq_false H1.out];have e2 := ext.trans hxt
  go_wp2_with fail
  refine (p_eachI_multiple (h.ext e2) (by omega) hn (hk.ext e2) (bx.ext hxt) hLM).mono ?_;rintro e V2 ⟨rfl, hF, hx⟩
  go_wp2_with fail
  go_ret
  exact ⟨_, n, rfl, hF.pol (by rw [List.length_map, h.len]) (by unfold maxLen; omega), Or.inr ⟨_, rfl, e2.size⟩, e2.trans hx⟩
end
structure RingS (w wr : World) (g3 : Nat) (vr vf : Value) (Rs : List (List Int)) (fs : List Int) (LR F : Nat) : Prop where
 ext : Ext w wr
 b2 : Box wr w.heap.size 72 #[.slice Option.none 0 0, .slice Option.none 0 0]
 b3 : Box wr g3 72 #[vr, vf]
 hO : RowO wr (w.heap.size + 1) vr Rs LR vf
 hF : Row2 wr (w.heap.size + 1) vf fs F
 lo : w.heap.size < g3
section
variable {w wr w' : World} {g3 LR F F' : Nat} {vr vf v' : Value} {Rs Rs' : List (List Int)} {fs fs' : List Int}
theorem RingS.next (h : RingS w wr g3 vr vf Rs fs LR F) (e : Ext wr w') : RingS w w' g3 vr vf Rs fs LR F :=
 ⟨h.ext.trans e, h.b2.ext e, h.b3.ext e, h.hO.ext e, h.hF.ext e, h.lo⟩
theorem sl_ne_ring : 70 ≠ 72 := by decide
theorem int_ne_ring : 28 ≠ 72 := by decide
theorem sl_ne_int : 70 ≠ 28 := by decide
theorem RowO.shape (h : RowO wr g3 vr Rs LR vf) : ∃ A n c, vr = .slice A n c := by
 obtain ⟨A, n, c, e, _⟩ := h.isl;exact ⟨A, n, c, e⟩
theorem Row2.shape (h : Row2 wr g3 vf fs F) : ∃ A n c, vf = .slice A n c := by
 obtain ⟨A, n, c, e, _⟩ := h.pol;exact ⟨A, n, c, e⟩
theorem nsw2 {a b : Value} (ha : ∃ A n c, a = .slice A n c) (hb : ∃ A n c, b = .slice A n c) : NSW #[a, b] := by
 intro u hu;simp at hu
 rcases hu with rfl | rfl
 ·exact ha
 ·exact hb
theorem RowO.boxne' {base : Nat} (h : RowO wr base vr Rs LR vf) {g : Nat} {bs : Array Value} {T : TypeId} (hb : Box wr g T bs) (hT : 70 ≠ T) : vr.ownBlock ≠ some g := by
 obtain ⟨cs, h1, _⟩ := h.own;exact owns_box h1 hb hT
theorem Row2.boxne {base : Nat} (h : Row2 wr base vf fs F) {g : Nat} {bs : Array Value} {T : TypeId} (hb : Box wr g T bs) (hT : 28 ≠ T) : vf.ownBlock ≠ some g := by
 obtain ⟨cs, h1, _⟩ := h.own;exact owns_box h1 hb hT
theorem RowO.row_ne {base base' : Nat} (h : RowO wr base vr Rs LR v') (k : Row2 wr base' vf fs F) : ∀ g, vr.ownBlock = some g -> vf.ownBlock ≠ some g := by
 obtain ⟨cs, h1, _⟩ := h.own;obtain ⟨ds, k1, _⟩ := k.own;exact owns_ne h1 k1 sl_ne_int
theorem RowO.row_ne' {base base' : Nat} (h : RowO wr base vr Rs LR v') (k : Row2 wr base' vf fs F) : ∀ g, vf.ownBlock = some g -> vr.ownBlock ≠ some g := fun g hg e => h.row_ne k g e hg
theorem RingS.off (h : RingS w wr g3 vr vf Rs fs LR F) {g : Nat} (hg : wr.heap.size <= g) : Off vf (some ⟨g, 0, Option.none⟩) := by
 intro a ha e
 injection ha with ha
 subst ha;obtain ⟨cs, h1, _⟩ := h.hF.own;have := owns_lt h1 g e;omega
theorem RingS.midR (h : RingS w wr g3 vr vf Rs fs LR F) (k : wr.grownBy w' vr.ownBlock) : Box w' g3 72 #[vr, vf] :=
 h.b3.own k (h.hO.boxne' h.b3 sl_ne_ring)
theorem RingS.midF (h : RingS w wr g3 vr vf Rs fs LR F) (k : wr.grownBy w' vf.ownBlock) : Box w' g3 72 #[vr, vf] :=
 h.b3.own k (h.hF.boxne h.b3 int_ne_ring)
theorem RingS.addR (h : RingS w wr g3 vr vf Rs fs LR F) (k : wr.grownBy w' vr.ownBlock) (hO' : RowO w' (w.heap.size + 1) v' Rs' LR vf) :
  RingS w (w'.setCell ⟨g3, 0, Option.none⟩ v') g3 v' vf Rs' fs LR F /\ (∀ z L s A n c, NI wr z L s A n c -> NI (w'.setCell ⟨g3, 0, Option.none⟩ v') z L s A n c) /\ (∀ g bs, Box wr g 28 bs -> Box (w'.setCell ⟨g3, 0, Option.none⟩ v') g 28 bs) := by
 have hm := h.midR k;have hlt := h.hO.lt;have e1 : Ext w w' := Below.grown h.ext k h.ext.size (fun g hg => by have := (hlt g hg).1; omega);have hF1 := h.hF.ownN h.hO.nsb k (h.hO.row_ne' h.hF);have hv : NSB w' (.slice (some ⟨g3, 0, Option.none⟩) 2 2) := NSB.box hm (nsw2 h.hO.shape h.hF.shape);have kc : w'.grownBy (w'.setCell ⟨g3, 0, Option.none⟩ v') (Value.slice (some ⟨g3, 0, Option.none⟩) 2 2).ownBlock := grownC w' ⟨g3, 0, Option.none⟩ v';have lo := h.lo;refine ⟨⟨e1.setCell (Nat.le_of_lt lo) _, ?_, ?_, ?_, ?_, lo⟩, ?_, ?_⟩
 ·exact (h.b2.own k (h.hO.boxne' h.b2 sl_ne_ring)).far (show w.heap.size ≠ g3 by omega) _
 ·have := hm.set 0 v'
  simpa using this
 ·exact hO'.ownN hv kc (fun g hg e => hO'.boxne' hm sl_ne_ring (hg.trans e.symm))
 ·exact hF1.ownN hv kc (fun g hg e => hF1.boxne hm int_ne_ring (hg.trans e.symm))
 ·intro z L s A n c hz
  exact (hz.own h.hO.nsb.nwb k).own hv.nwb kc
 ·intro g bs hb
  have hb1 := hb.own k (h.hO.boxne' hb sl_ne_int);refine hb1.own kc (fun e => ?_)
  injection e with e
  have e2 : g3 = g := e;subst e2;unfold Box at hm hb1;rw [hm] at hb1
  injection hb1 with h2
  injection h2 with _ h3
  exact int_ne_ring h3.symm
theorem RingS.addF (h : RingS w wr g3 vr vf Rs fs LR F) (k : wr.grownBy w' vf.ownBlock) (hF' : Row2 w' (w.heap.size + 1) v' fs' F') (k2 : v'.ownBlock = vf.ownBlock \/ v'.ownBlock = some wr.heap.size) (hR : ∀ R ∈ Rs, R ≠ []) :
  RingS w (w'.setCell ⟨g3, 1, Option.none⟩ v') g3 vr v' Rs fs' LR F' := by
 have hm := h.midF k;obtain ⟨cs, f1, _⟩ := h.hF.own;have e1 : Ext w w' := Below.grown h.ext k h.ext.size (fun g hg => by have := owns_block f1 g hg; omega);have hO1 := h.hO.grow h.hF.nwb k (h.hO.row_ne h.hF) hR k2;have hv : NSB w' (.slice (some ⟨g3, 0, Option.none⟩) 2 2) := NSB.box hm (nsw2 h.hO.shape h.hF.shape);have kc : w'.grownBy (w'.setCell ⟨g3, 1, Option.none⟩ v') (Value.slice (some ⟨g3, 0, Option.none⟩) 2 2).ownBlock := grownC w' ⟨g3, 1, Option.none⟩ v';have lo := h.lo;refine ⟨e1.setCell (Nat.le_of_lt lo) _, ?_, ?_, ?_, ?_, lo⟩
 ·exact (h.b2.own k (h.hF.boxne h.b2 int_ne_ring)).far (show w.heap.size ≠ g3 by omega) _
 ·have := hm.set 1 v'
  simpa using this
 ·exact hO1.ownN hv kc (fun g hg e => hO1.boxne' hm sl_ne_ring (hg.trans e.symm))
 ·exact hF'.ownN hv kc (fun g hg e => hF'.boxne hm int_ne_ring (hg.trans e.symm))
end
end
end Go.Proofs.YtgagcochepnelaaGreatDoor
