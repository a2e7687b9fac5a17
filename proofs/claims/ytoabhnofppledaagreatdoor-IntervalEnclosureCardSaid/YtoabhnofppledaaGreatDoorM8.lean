/- Walks and laws, a part. -/
import Derived.Test.YtoabhnofppledaaGreatDoorM0
import Derived.Test.YtoabhnofppledaaGreatDoorM3
import Derived.Test.YtoabhnofppledaaGreatDoorM1
import Derived.Test.YtoabhnofppledaaGreatDoorM5
import Derived.Test.YtoabhnofppledaaGreatDoorM7
import Derived.Test.YtoabhnofppledaaGreatDoorM4
import Derived.Lib.ItoaNum
import Derived.Lib.Strings
import Derived.Lib.TrimByte
import Derived.Test.YtoabhnofppledaaGreatDoorProg
import Derived.Lib.ItoaMem
import Derived.Laws.BytesArg
import Derived.Maps.AppendAt
namespace Go.Proofs.YtoabhnofppledaaGreatDoor
open Go.RowKit
def Dig (c : UInt8) : Prop := 48 ≤ c.toNat ∧ c.toNat ≤ 57
def Digs (l : List UInt8) : Prop := ∀ c ∈ l, Dig c
theorem Digs.right {l m : List UInt8} (h : Digs (l ++ m)) : Digs m := fun c hc => h c (List.mem_append.2 (.inr hc))
end Go.Proofs.YtoabhnofppledaaGreatDoor
namespace Go.Proofs.YtoabhnofppledaaGreatDoor
open Go.RowKit
def Bd (b : UInt8) : Value := .int .u8 (b.toNat : Int)
/-- block g holds just these bytes. -/
def BlkB (w : World) (g : Nat) (bs : List UInt8) : Prop := w.heap[g]? = some (.cells (bs.map Bd).toArray 5 (0, 0))
section
variable {w w' : World} {g g' : Nat} {bs : List UInt8}
theorem BlkB.lt (h : BlkB w g bs) : g < w.heap.size := by
  rcases Nat.lt_or_ge g w.heap.size with hlt | hge
  · exact hlt
  · unfold BlkB at h; rw [Array.getElem?_eq_none hge] at h; cases h
theorem BlkB.cell (h : BlkB w g bs) {i : Nat} (hi : i < bs.length) : w.cell? ⟨g, i, none⟩ = some (.int .u8 (bs[i].toNat : Int)) := by
  rw [cell_of_row w g i _ _ (0, 0) h]
  simp [hi, Bd]
theorem BlkB.frozen (h : BlkB w g bs) (i : Nat) : w.frozen? ⟨g, i, none⟩ = false := by
  unfold BlkB at h
  simp [World.frozen?, h]
theorem BlkB.ext (h : BlkB w g bs) (e : Ext w w') : BlkB w' g bs := by
  have hb : Below w.heap.size w w' := e
  exact (hb.block g h.lt).trans h
theorem BlkB.mod (h : BlkB w g bs) (e : Mod w w' g') (hn : g ≠ g') : BlkB w' g bs := (e.block g h.lt (fun e => hn (by injection e))).trans h
theorem BlkB.set (h : BlkB w g bs) (i : Nat) {v : Int} {b : UInt8} (hv : v = (b.toNat : Int)) : BlkB (w.setCell ⟨g, i, none⟩ (.int .u8 v)) g (bs.set i b) := by
  subst hv
  unfold BlkB at h ⊢
  simp [World.setCell, Array.getElem?_modify, h, Bd]
theorem BlkB.new (w : World) (n : Nat) : BlkB (w.alloc (.cells (madeCells #[.int .u8 0] n) 5)) w.heap.size (List.replicate n 0) := by
  unfold BlkB
  rw [heap_alloc_new w _]
  congr 2
  apply Array.toList_inj.1
  rw [toList_madeCells_one]
  simp [Bd]
end
theorem owns_ext {w w' : World} {base : Nat} {e : TypeId} {size : Nat} {v : Value} {n : Nat} {xs : List Value} (h : w.ownsRow base e size v n xs) (k : Ext w w') : w'.ownsRow base e size v n xs := by
  refine ⟨h.1, h.2.imp id ?_⟩
  rintro ⟨g, cap, cur, hv, hb, hh, h1⟩
  have hb' : Below w.heap.size w w' := k
  have hlt : g < w.heap.size := by
    rcases Nat.lt_or_ge g w.heap.size with hlt | hge
    · exact hlt
    · rw [Array.getElem?_eq_none hge] at hh; cases hh
  exact ⟨g, cap, cur, hv, hb, (hb'.block g hlt).trans hh, h1⟩
theorem owns_nil (w : World) (base : Nat) (e : TypeId) (size : Nat) : w.ownsRow base e size (.slice none 0 0) 0 [] := ⟨by simp, .inl ⟨rfl, rfl⟩⟩
theorem owns_block {w : World} {base : Nat} {e : TypeId} {size : Nat} {v : Value} {n : Nat} {xs : List Value} (h : w.ownsRow base e size v n xs) : ∀ k, v.ownBlock = some k → base ≤ k := by
  intro k hk
  rcases h.2 with ⟨rfl, _⟩ | ⟨g, cap, cur, rfl, hb, _⟩
  · cases hk
  · injection hk with hk
    subst hk
    exact hb
theorem info_partsB {P : Program} {e : TypeId} {z : Value} {a b : Nat} (h : (P.info? e).map (fun i => (i.zero, i.size, i.bytes)) = some (some z, a, b)) : ∃ i, P.info? e = some i ∧ i.zero = some z ∧ i.size = a ∧ i.bytes = b := by
  cases hi : P.info? e with
  | none => rw [hi] at h; cases h
  | some i =>
    rw [hi] at h
    simp only [Option.map_some, Option.some.injEq, Prod.mk.injEq] at h
    exact ⟨i, rfl, h.1, h.2.1, h.2.2⟩
section
variable {A : Option Addr} {c n : Nat} {xs : List Nat} {w : World}
end
end Go.Proofs.YtoabhnofppledaaGreatDoor
namespace Go.Proofs.YtoabhnofppledaaGreatDoor
open Go.RowKit Go.Sort Go.Lib
abbrev TabP (w : World) : Prop := Lib.TabIs Tryz.prog w "internal/strconv.uint64pow10" .u64 Lib.pow10Tab
section
variable {w : World}
end
end Go.Proofs.YtoabhnofppledaaGreatDoor
namespace Go.Proofs.YtoabhnofppledaaGreatDoor
open Go.RowKit
attribute [local go_sem ↓] Go.wp_at_zero Go.wp_at_succ
theorem TabP.ext {w w' : World} (h : TabP w) (e : Ext w w') : TabP w' := by
  unfold TabP Lib.TabIs World.var? at *
  cases hg : Tryz.prog.globalNamed "internal/strconv.uint64pow10" with
  | none => simp [hg] at h
  | some g =>
    simp only [hg, Option.bind_some] at h ⊢
    have hlt : g < w.heap.size := by
      rcases Nat.lt_or_ge g w.heap.size with h' | h'
      · exact h'
      · rw [Array.getElem?_eq_none h'] at h; simp at h
    have hb : Below w.heap.size w w' := e
    rw [hb.block g hlt]
    exact h
section
variable {A : Option Addr} {c n : Nat} {xs : List Nat} {w : World} {s : Bool}
end
end Go.Proofs.YtoabhnofppledaaGreatDoor
namespace Go.Proofs.YtoabhnofppledaaGreatDoor
open Go.RowKit
attribute [local go_sem ↓] Go.wp_at_zero Go.wp_at_succ
section
variable {w w' : World} {q p r : Rat} {L : Nat} {s t s' t' u u' : Bool} {A B A' B' C D : Option Addr} {n c m d n' c' m' d' l e0 l' e' : Nat} {xs ys xs' ys' zs zs' : List Nat}
variable {z y : Int} {M : Nat}
theorem p_Div_nz (h : NR w q L s A n c t B m d) (k : NR w p M s' A' n' c' t' B' m' d') (hL : L ≤ 1000) (hM : M ≤ 1000) (h64 : min L M < 64) (hT : Tab w) (hp : p ≠ 0) : Calls Tryz.prog 105 #[.agg #[.bool s, .slice A n c, .bool t, .slice B m d], .agg #[.bool s', .slice A' n' c', .bool t', .slice B' m' d']] w (RetNRE (q / p) (L + M) w) := by
  rcases Int.lt_trichotomy p.num 0 with h1 | h1 | h1
  · exact p_Div_neg h k hL hM h64 hT h1
  · exact absurd (Rat.num_eq_zero.1 h1) hp
  · exact p_Div_pos h k hL hM h64 hT h1
end
end Go.Proofs.YtoabhnofppledaaGreatDoor
namespace Go.Proofs.YtoabhnofppledaaGreatDoor
open Go.RowKit
attribute [local go_sem ↓] Go.wp_at_zero Go.wp_at_succ
/-- the comparison is the sign of the difference. -/
theorem ratCmp_sub (q p : Rat) : (q - p).num.sign = ratCmp q p := by
  unfold ratCmp
  rw [Rat.sub_def']
  obtain ⟨h1, _⟩ := mkRat_parts (q.num * p.den - p.num * q.den) (D := q.den * p.den) (Nat.mul_ne_zero q.den_nz p.den_nz)
  rw [h1]
  generalize hN : q.num * (p.den : Int) - p.num * (q.den : Int) = N
  have hg0 : 0 < Nat.gcd N.natAbs (q.den * p.den) := Nat.gcd_pos_of_pos_right _ (Nat.mul_pos q.den_pos p.den_pos)
  obtain ⟨c, hc⟩ : (Nat.gcd N.natAbs (q.den * p.den) : Int) ∣ N := Int.ofNat_dvd_left.2 (Nat.gcd_dvd_left _ _)
  generalize Nat.gcd N.natAbs (q.den * p.den) = g at *
  rw [hc, Int.mul_ediv_cancel_left _ (by omega), Int.sign_mul, Int.sign_eq_one_of_pos (show (0 : Int) < (g : Int) by omega), Int.one_mul]
end Go.Proofs.YtoabhnofppledaaGreatDoor
namespace Go.Proofs.YtoabhnofppledaaGreatDoor
theorem sign_lt0 {z : Int} : z.sign < 0 ↔ z < 0 := by
  rcases Int.lt_trichotomy z 0 with h | h | h
  · rw [Int.sign_eq_neg_one_of_neg h]; omega
  · rw [h]; decide
  · rw [Int.sign_eq_one_of_pos h]; omega
theorem sign_gt0 {z : Int} : 0 < z.sign ↔ 0 < z := by
  rcases Int.lt_trichotomy z 0 with h | h | h
  · rw [Int.sign_eq_neg_one_of_neg h]; omega
  · rw [h]; decide
  · rw [Int.sign_eq_one_of_pos h]; omega
theorem rnum_neg {q : Rat} : q.num < 0 ↔ q < 0 := by
  rw [← Int.not_le, Rat.num_nonneg, Rat.not_le]
theorem rnum_pos {q : Rat} : 0 < q.num ↔ 0 < q := by
  have h1 : 0 ≤ q.num ↔ 0 ≤ q := Rat.num_nonneg
  have h2 : q.num = 0 ↔ q = 0 := Rat.num_eq_zero
  constructor
  · intro h
    have h3 : 0 ≤ q := h1.1 (by omega)
    have h4 : ¬ q = 0 := fun e => by have := h2.2 e; omega
    grind
  · intro h
    have h3 : 0 ≤ q.num := h1.2 (by grind)
    have h4 : ¬ q.num = 0 := fun e => by have := h2.1 e; grind
    omega
theorem sub_neg_iff {q p : Rat} : q - p < 0 ↔ q < p := by
  constructor <;> intro h <;> grind
theorem sub_pos_iff {q p : Rat} : 0 < q - p ↔ p < q := by
  constructor <;> intro h <;> grind
theorem ratCmp_lt {q p : Rat} : ratCmp q p < 0 ↔ q < p := by
  rw [← ratCmp_sub, sign_lt0, rnum_neg, sub_neg_iff]
theorem ratCmp_gt {q p : Rat} : 0 < ratCmp q p ↔ p < q := by
  rw [← ratCmp_sub, sign_gt0, rnum_pos, sub_pos_iff]
theorem ratCmp_le {q p : Rat} : ratCmp q p ≤ 0 ↔ q ≤ p := by
  rw [← Int.not_lt, ratCmp_gt, Rat.not_lt]
theorem ratCmp_eq {q p : Rat} : ratCmp q p = 0 ↔ q = p := by
  constructor
  · intro h
    have h1 : q ≤ p := ratCmp_le.1 (by omega)
    have h2 : ¬ q < p := fun h2 => by have := ratCmp_lt.2 h2; omega
    exact Rat.le_antisymm h1 (Rat.not_lt.1 h2)
  · rintro rfl
    have h1 : ¬ q < q := fun h => by grind
    have h2 := mt ratCmp_lt.1 h1
    have h3 := mt ratCmp_gt.1 h1
    omega
/-- the least interval that contains some numbers. -/
def IsHull (lo hi : Rat) (qs : List Rat) : Prop := lo ∈ qs ∧ hi ∈ qs ∧ ∀ q ∈ qs, lo ≤ q ∧ q ≤ hi
theorem IsHull.unique {lo hi lo' hi' : Rat} {qs qs' : List Rat} (h : IsHull lo hi qs) (k : IsHull lo' hi' qs') (hm : ∀ x, x ∈ qs ↔ x ∈ qs') : lo = lo' ∧ hi = hi' := by
  obtain ⟨a1, a2, a3⟩ := h
  obtain ⟨b1, b2, b3⟩ := k
  have h1 := (a3 lo' ((hm _).2 b1)).1
  have h2 := (b3 lo ((hm _).1 a1)).1
  have h3 := (a3 hi' ((hm _).2 b2)).2
  have h4 := (b3 hi ((hm _).1 a2)).2
  exact ⟨Rat.le_antisymm h1 h2, Rat.le_antisymm h4 h3⟩
theorem IsHull.one (q : Rat) : IsHull q q [q] := ⟨List.mem_singleton.2 rfl, List.mem_singleton.2 rfl, fun x hx => by rw [List.mem_singleton.1 hx]; exact ⟨Rat.le_refl, Rat.le_refl⟩⟩
theorem IsHull.snoc {lo hi x : Rat} {qs : List Rat} (h : IsHull lo hi qs) : IsHull (if x < lo then x else lo) (if hi < x then x else hi) (qs ++ [x]) := by
  obtain ⟨h1, h2, h3⟩ := h
  have hm : x ∈ qs ++ [x] := List.mem_append.2 (.inr (List.mem_singleton.2 rfl))
  have hl : ∀ {y}, y ∈ qs → y ∈ qs ++ [x] := fun h => List.mem_append.2 (.inl h)
  refine ⟨by split; exact hm; exact hl h1, by split; exact hm; exact hl h2, fun q hq => ?_⟩
  have hlh : lo ≤ hi := (h3 lo h1).2
  rcases List.mem_append.1 hq with hq | hq
  · obtain ⟨g1, g2⟩ := h3 q hq
    constructor
    · split <;> grind
    · split <;> grind
  · rw [List.mem_singleton.1 hq]
    constructor
    · split <;> grind
    · split <;> grind
end Go.Proofs.YtoabhnofppledaaGreatDoor
namespace Go.Proofs.YtoabhnofppledaaGreatDoor
open Go.RowKit
/-- the interval from lo to hi, of at most L words each. -/
structure IV (w : World) (lo hi : Rat) (L : Nat) (s : Bool) (A : Option Addr) (n c : Nat) (t : Bool) (B : Option Addr) (m d : Nat) (s' : Bool) (A' : Option Addr) (n' c' : Nat) (t' : Bool) (B' : Option Addr) (m' d' : Nat) : Prop where
  low : NR w lo L s A n c t B m d
  high : NR w hi L s' A' n' c' t' B' m' d'
def RetIV (lo hi : Rat) (L : Nat) (w : World) (e : Ending) (w' : World) : Prop :=
  ∃ s A n c t B m d s' A' n' c' t' B' m' d', e = .returned (.agg #[.bool s, .slice A n c, .bool t, .slice B m d, .bool s', .slice A' n' c', .bool t', .slice B' m' d']) ∧ IV w' lo hi L s A n c t B m d s' A' n' c' t' B' m' d' ∧ Ext w w'
/-- a rational number lies at a place. -/
def RatAt (w : World) (b o : Nat) (q : Rat) (L : Nat) : Prop :=
  ∃ s A n c t B m d, w.cell? ⟨b, o, none⟩ = some (.bool s) ∧ w.cell? ⟨b, o + 1, none⟩ = some (.slice A n c) ∧ w.cell? ⟨b, o + 2, none⟩ = some (.bool t) ∧ w.cell? ⟨b, o + 3, none⟩ = some (.slice B m d) ∧ NR w q L s A n c t B m d
/-- a row of rational numbers lies at a place. -/
structure RatsAt (w : World) (b o : Nat) (qs : List Rat) (L : Nat) : Prop where
  at_ : ∀ i (h : i < qs.length), RatAt w b (o + 4 * i) qs[i] L
/-- flat cells that hold some rational numbers. -/
inductive CellsOf (w : World) (L : Nat) : List Rat → List Value → Prop
  | nil : CellsOf w L [] []
  | cons {q : Rat} {qs : List Rat} {s : Bool} {A : Option Addr} {n c : Nat} {t : Bool} {B : Option Addr} {m d : Nat} {cs : List Value} : NR w q L s A n c t B m d → CellsOf w L qs cs → CellsOf w L (q :: qs) (.bool s :: .slice A n c :: .bool t :: .slice B m d :: cs)
section
variable {w w' : World} {q lo hi : Rat} {L M : Nat} {s t s' t' : Bool} {A B A' B' : Option Addr} {n c m d n' c' m' d' b o : Nat} {qs ps : List Rat} {cs ds : List Value}
theorem IV.ext (h : IV w lo hi L s A n c t B m d s' A' n' c' t' B' m' d') (e : Ext w w') : IV w' lo hi L s A n c t B m d s' A' n' c' t' B' m' d' := ⟨h.low.ext e, h.high.ext e⟩
theorem IV.le (h : IV w lo hi L s A n c t B m d s' A' n' c' t' B' m' d') (hl : L ≤ M) : IV w lo hi M s A n c t B m d s' A' n' c' t' B' m' d' := ⟨h.low.le hl, h.high.le hl⟩
theorem RatAt.ext (h : RatAt w b o q L) (e : Ext w w') : RatAt w' b o q L := by
  obtain ⟨s, A, n, c, t, B, m, d, h0, h1, h2, h3, h4⟩ := h
  exact ⟨s, A, n, c, t, B, m, d, e.cellv h0, e.cellv h1, e.cellv h2, e.cellv h3, h4.ext e⟩
theorem RatsAt.ext (h : RatsAt w b o qs L) (e : Ext w w') : RatsAt w' b o qs L := ⟨fun i hi => (h.at_ i hi).ext e⟩
theorem CellsOf.ext (h : CellsOf w L qs cs) (e : Ext w w') : CellsOf w' L qs cs := by
  induction h with
  | nil => exact .nil
  | cons h _ ih => exact .cons (h.ext e) ih
theorem CellsOf.len (h : CellsOf w L qs cs) : cs.length = qs.length * 4 := by
  induction h with
  | nil => rfl
  | cons _ _ ih => simp only [List.length_cons, ih]; omega
theorem CellsOf.append (h : CellsOf w L qs cs) (k : CellsOf w L ps ds) : CellsOf w L (qs ++ ps) (cs ++ ds) := by
  induction h with
  | nil => exact k
  | cons h _ ih => exact .cons h ih
theorem CellsOf.le (h : CellsOf w L qs cs) (hl : L ≤ M) : CellsOf w M qs cs := by
  induction h with
  | nil => exact .nil
  | cons h _ ih => exact .cons (h.le hl) ih
theorem CellsOf.get (h : CellsOf w L qs cs) : ∀ i (hi : i < qs.length), ∃ s A n c t B m d, cs[4 * i]? = some (.bool s) ∧ cs[4 * i + 1]? = some (.slice A n c) ∧ cs[4 * i + 2]? = some (.bool t) ∧ cs[4 * i + 3]? = some (.slice B m d) ∧ NR w qs[i] L s A n c t B m d := by
  induction h with
  | nil => intro i hi; simp at hi
  | @cons q qs s A n c t B m d cs h _ ih =>
    intro i hi
    cases i with
    | zero => exact ⟨s, A, n, c, t, B, m, d, rfl, rfl, rfl, rfl, h⟩
    | succ i =>
      obtain ⟨s1, A1, n1, c1, t1, B1, m1, d1, k0, k1, k2, k3, k4⟩ := ih i (by simpa using hi)
      refine ⟨s1, A1, n1, c1, t1, B1, m1, d1, ?_, ?_, ?_, ?_, k4⟩
      · rw [show 4 * (i + 1) = 4 * i + 1 + 1 + 1 + 1 by omega]; exact k0
      · rw [show 4 * (i + 1) + 1 = 4 * i + 1 + 1 + 1 + 1 + 1 by omega]; exact k1
      · rw [show 4 * (i + 1) + 2 = 4 * i + 2 + 1 + 1 + 1 + 1 by omega]; exact k2
      · rw [show 4 * (i + 1) + 3 = 4 * i + 3 + 1 + 1 + 1 + 1 by omega]; exact k3
theorem CellsOf.one (h : CellsOf w L qs cs) : ∀ u ∈ cs, u.oneCell' = true := by
  induction h with
  | nil => intro u hu; cases hu
  | cons _ _ ih =>
    intro u hu
    simp only [List.mem_cons] at hu
    rcases hu with rfl | rfl | rfl | rfl | hu
    · rfl
    · rfl
    · rfl
    · rfl
    · exact ih u hu
/-- rational numbers in a box. -/
theorem RatsAt.of_box {g : Nat} {T : TypeId} (hb : Box w g T cs.toArray) (h : CellsOf w L qs cs) : RatsAt w g 0 qs L := by
  refine ⟨fun i hi => ?_⟩
  obtain ⟨s, A, n, c, t, B, m, d, k0, k1, k2, k3, k4⟩ := h.get i hi
  rw [Nat.zero_add]
  exact ⟨s, A, n, c, t, B, m, d, hb.cell (4 * i) _ (by simpa using k0), hb.cell (4 * i + 1) _ (by simpa using k1), hb.cell (4 * i + 2) _ (by simpa using k2), hb.cell (4 * i + 3) _ (by simpa using k3), k4⟩
/-- a slice of its own that holds some rational numbers. -/
def RatsOwn (w : World) (base : Nat) (v : Value) (qs : List Rat) (L : Nat) : Prop := ∃ cs, w.ownsRow base 26 4 v qs.length cs ∧ CellsOf w L qs cs
theorem RatsOwn.rd {base g cap k : Nat} (h : RatsOwn w base (.slice (some ⟨g, 0, none⟩) k cap) qs L) : RatsAt w g 0 qs L := by
  obtain ⟨cs, ⟨hl, h1⟩, h2⟩ := h
  rcases h1 with ⟨h1, _⟩ | ⟨g', cap', cur, h1, _, hg, hn, _, hsz, htk⟩
  · cases h1
  · injection h1 with h1
    injection h1 with h1
    injection h1 with h1
    subst h1
    have hcell : ∀ j u, cs[j]? = some u → w.cell? ⟨g, j, none⟩ = some u := by
      intro j u hu
      have hj : j < cs.length := by
        rcases Nat.lt_or_ge j cs.length with h | h
        · exact h
        · rw [List.getElem?_eq_none h] at hu; cases hu
      rw [← htk, List.getElem?_take, if_pos (by rw [← hl]; exact hj)] at hu
      rw [cell_of_row w g j _ _ (0, 0) hg]
      simpa using hu
    refine ⟨fun i hi => ?_⟩
    obtain ⟨s, A, n, c, t, B, m, d, k0, k1, k2, k3, k4⟩ := h2.get i hi
    rw [Nat.zero_add]
    exact ⟨s, A, n, c, t, B, m, d, hcell _ _ k0, hcell _ _ k1, hcell _ _ k2, hcell _ _ k3, k4⟩
end
end Go.Proofs.YtoabhnofppledaaGreatDoor
namespace Go.Proofs.YtoabhnofppledaaGreatDoor
open Go.RowKit
attribute [local go_sem ↓] Go.wp_at_zero Go.wp_at_succ
theorem NoWord.oct {a b a' b' : Bool} {A B A' B' : Option Addr} {n c m d n' c' m' d' : Nat} : NoWord #[.bool a, .slice A n c, .bool b, .slice B m d, .bool a', .slice A' n' c', .bool b', .slice B' m' d'] := by
  intro i k h
  match i with
  | 0 => simp at h
  | 1 => simp at h
  | 2 => simp at h
  | 3 => simp at h
  | 4 => simp at h
  | 5 => simp at h
  | 6 => simp at h
  | 7 => simp at h
  | i + 8 => simp at h
def set8 (w : World) (g : Nat) (v0 v1 v2 v3 v4 v5 v6 v7 : Value) : World := (((((((w.setCell ⟨g, 0, none⟩ v0).setCell ⟨g, 1, none⟩ v1).setCell ⟨g, 2, none⟩ v2).setCell ⟨g, 3, none⟩ v3).setCell ⟨g, 4, none⟩ v4).setCell ⟨g, 5, none⟩ v5).setCell ⟨g, 6, none⟩ v6).setCell ⟨g, 7, none⟩ v7
/-- no cell of a box of eight is a word. -/
def Oct (cs : Array Value) : Prop := cs.size = 8 ∧ NoWord cs
theorem Oct.set {cs : Array Value} (h : Oct cs) (i : Nat) {v : Value} (hv : ∀ k, v ≠ .int .u32 k) : Oct (cs.setIfInBounds i v) := by
  refine ⟨by simp [h.1], fun j k hj => ?_⟩
  rw [Array.getElem?_setIfInBounds] at hj
  split at hj
  · split at hj
    · injection hj with hj; exact hv k hj
    · cases hj
  · exact h.2 j k hj
structure FinOK (w2 w3 : World) (g : Nat) (T : TypeId) (cs : Array Value) : Prop where
  box : Box w3 g T cs
  oct : Oct cs
  ni : ∀ z L s' A' n' c', NI w2 z L s' A' n' c' → NI w3 z L s' A' n' c'
  ext : ∀ W, Ext W w2 → W.heap.size ≤ g → Ext W w3
  far : ∀ g' T' cs', g' ≠ g → Box w2 g' T' cs' → Box w3 g' T' cs'
theorem FinOK.refl {w2 : World} {g : Nat} {T : TypeId} {u0 u1 u2 u3 u4 u5 u6 u7 : Value} (hb : Box w2 g T #[u0, u1, u2, u3, u4, u5, u6, u7]) (hn : NoWord #[u0, u1, u2, u3, u4, u5, u6, u7]) : FinOK w2 w2 g T #[u0, u1, u2, u3, u4, u5, u6, u7] :=
  ⟨hb, ⟨rfl, hn⟩, fun _ _ _ _ _ _ h => h, fun _ h _ => h, fun _ _ _ _ h => h⟩
theorem FinOK.step {w2 w3 : World} {g : Nat} {T : TypeId} {cs : Array Value} (h : FinOK w2 w3 g T cs) (i : Nat) {v : Value} (hv : ∀ k, v ≠ .int .u32 k) : FinOK w2 (w3.setCell ⟨g, i, none⟩ v) g T (cs.setIfInBounds i v) :=
  ⟨h.box.set i v, h.oct.set i hv, fun _ _ _ _ _ _ k => (h.ni _ _ _ _ _ _ k).set h.box h.oct.2 i v, fun _ e hg => (h.ext _ e hg).setCell hg _, fun _ _ _ hg k => (h.far _ _ _ hg k).far hg _⟩
theorem fin_oct {w2 : World} {g : Nat} {T : TypeId} {v0 v1 v2 v3 v4 v5 v6 v7 u0 u1 u2 u3 u4 u5 u6 u7 : Value} (hb : Box w2 g T #[u0, u1, u2, u3, u4, u5, u6, u7]) (hn : NoWord #[u0, u1, u2, u3, u4, u5, u6, u7] := by exact NoWord.oct)
    (h0 : ∀ k, v0 ≠ .int .u32 k := by (intro k h; cases h)) (h1 : ∀ k, v1 ≠ .int .u32 k := by (intro k h; cases h)) (h2 : ∀ k, v2 ≠ .int .u32 k := by (intro k h; cases h)) (h3 : ∀ k, v3 ≠ .int .u32 k := by (intro k h; cases h)) (h4 : ∀ k, v4 ≠ .int .u32 k := by (intro k h; cases h)) (h5 : ∀ k, v5 ≠ .int .u32 k := by (intro k h; cases h)) (h6 : ∀ k, v6 ≠ .int .u32 k := by (intro k h; cases h)) (h7 : ∀ k, v7 ≠ .int .u32 k := by (intro k h; cases h)) :
    Box (set8 w2 g v0 v1 v2 v3 v4 v5 v6 v7) g T #[v0, v1, v2, v3, v4, v5, v6, v7] ∧
    (∀ z L s' A' n' c', NI w2 z L s' A' n' c' → NI (set8 w2 g v0 v1 v2 v3 v4 v5 v6 v7) z L s' A' n' c') ∧
    (∀ W, Ext W w2 → W.heap.size ≤ g → Ext W (set8 w2 g v0 v1 v2 v3 v4 v5 v6 v7)) ∧
    (∀ g' T' cs', g' ≠ g → Box w2 g' T' cs' → Box (set8 w2 g v0 v1 v2 v3 v4 v5 v6 v7) g' T' cs') := by
  have F := ((((((((FinOK.refl (T := T) hb hn).step 0 h0).step 1 h1).step 2 h2).step 3 h3).step 4 h4).step 5 h5).step 6 h6).step 7 h7
  simp only [List.setIfInBounds_toArray, List.set_cons_succ, List.set_cons_zero] at F
  exact ⟨F.box, F.ni, F.ext, F.far⟩
section
variable {w w' : World} {q p lo hi : Rat} {L M : Nat} {s t s' t' : Bool} {A B A' B' : Option Addr} {n c m d n' c' m' d' : Nat} {qs : List Rat}
set_option maxHeartbeats 1000000 in
theorem p_clone (h : NR w q L s A n c t B m d) (hL : L ≤ 100000) : Calls Tryz.prog 122 #[.agg #[.bool s, .slice A n c, .bool t, .slice B m d]] w (RetNR q L w) := by
  go_enter Tryz.func122, Tryz.ntmps122
  go_upto_region 1 with (fail)
  obtain ⟨W, hW, extW, bx, bz, hz⟩ := box2 w 26 26 #[.bool s, .slice A n c, .bool t, .slice B m d] #[Value.bool false, Value.slice none 0 0, Value.bool false, Value.slice none 0 0]
  rw [← hW]
  clear hW
  refine wpL.start 7 (by kernel_rfl) (fun _ _ _ _ _ => ⟨fun h => h, fun h => h⟩) (fun hQ ES => ?_)
  refine wpL.take (i := 0) (d := some 3) (v := ?v0_29) rfl rfl (by kernel_rfl) (by kernel_rfl) (by kernel_rfl) (by kernel_rfl) hQ (Or.inl ⟨by rfl, ?y0_29⟩) ES ?r0_29
  case y0_29 =>
    intro w' hSw
    have k00 := (bx.ext hSw).c4
    go_simp
    try with_reducible rfl
  try simp only [Act.put]
  try simp only [List.setIfInBounds_toArray]
  try simp only [List.set_cons_succ]
  try simp only [List.set_cons_zero]
  refine wpL.take (i := 3) (d := some 6) (v := ?v3_30) rfl rfl (by kernel_rfl) (by kernel_rfl) (by kernel_rfl) (by kernel_rfl) hQ (Or.inl ⟨by rfl, ?y3_30⟩) ES ?r3_30
  case y3_30 =>
    intro w' hSw
    have k00 := (bx.ext hSw).c4
    go_simp
    try with_reducible rfl
  try simp only [Act.put]
  try simp only [List.setIfInBounds_toArray]
  try simp only [List.set_cons_succ]
  try simp only [List.set_cons_zero]
  refine wpL.take (i := 1) (d := some 4) (v := ?v1_31) rfl rfl (by kernel_rfl) (by kernel_rfl) (by kernel_rfl) (by kernel_rfl) hQ (Or.inl ⟨by rfl, ?y1_31⟩) ES ?r1_31
  case y1_31 =>
    intro w' hSw
    have k00 := (bx.ext hSw).c4
    go_simp
    try with_reducible rfl
  try simp only [Act.put]
  try simp only [List.setIfInBounds_toArray]
  try simp only [List.set_cons_succ]
  try simp only [List.set_cons_zero]
  refine wpL.take (i := 4) (d := some 7) (v := ?v4_32) rfl rfl (by kernel_rfl) (by kernel_rfl) (by kernel_rfl) (by kernel_rfl) hQ (Or.inl ⟨by rfl, ?y4_32⟩) ES ?r4_32
  case y4_32 =>
    intro w' hSw
    have k00 := (bx.ext hSw).c4
    go_simp
    try with_reducible rfl
  try simp only [Act.put]
  try simp only [List.setIfInBounds_toArray]
  try simp only [List.set_cons_succ]
  try simp only [List.set_cons_zero]
  refine wpL.call (i := 2) rfl (by kernel_rfl) (fun K hK => ?_)
  go_simp
  (go_at_call 135; refine (p_Norm (h.num.ext (extW.trans ES)) hL).mono ?_; rintro e wa ⟨s1, A1, n1, c1, rfl, h1, hx0⟩; have E0_1 := Ext.trans ES hx0)
  refine hK.out _ _ E0_1 ?_
  clear hK K
  try simp only [Act.put]
  try simp only [List.setIfInBounds_toArray]
  try simp only [List.set_cons_succ]
  try simp only [List.set_cons_zero]
  refine wpL.call (i := 5) rfl (by kernel_rfl) (fun K hK => ?_)
  go_simp
  (go_at_call 135; refine (p_Norm (h.den.ext (extW.trans E0_1)) hL).mono ?_; rintro e wb ⟨s2, A2, n2, c2, rfl, h2, hx1⟩; have E1_1 := Ext.trans E0_1 hx1)
  refine hK.out _ _ E1_1 ?_
  clear hK K
  try simp only [Act.put]
  try simp only [List.setIfInBounds_toArray]
  try simp only [List.set_cons_succ]
  try simp only [List.set_cons_zero]
  refine wpL.take (i := 6) (d := some 9) (v := ?v6_33) rfl rfl (by kernel_rfl) (by kernel_rfl) (by kernel_rfl) (by kernel_rfl) hQ (Or.inl ⟨by rfl, ?y6_33⟩) E1_1 ?r6_33
  case y6_33 =>
    intro w' hSw
    have k00 := (bx.ext hSw).c4
    go_simp
    try with_reducible rfl
  try simp only [Act.put]
  try simp only [List.setIfInBounds_toArray]
  try simp only [List.set_cons_succ]
  try simp only [List.set_cons_zero]
  have z0 := (bz.ext E1_1).cell 0 _ rfl
  have z1 := (bz.ext E1_1).cell 1 _ rfl
  have z2 := (bz.ext E1_1).cell 2 _ rfl
  have z3 := (bz.ext E1_1).cell 3 _ rfl
  have f0 := (bz.ext E1_1).frozen 0
  have f1 := (bz.ext E1_1).frozen 1
  have f2 := (bz.ext E1_1).frozen 2
  have f3 := (bz.ext E1_1).frozen 3
  refine wpL.tail (i := 7) rfl (by kernel_rfl) (by kernel_rfl) (fun K hK => ?_)
  go_simp
  refine hK.out _ _ ?_
  clear hK K
  try simp only [Act.put]
  try simp only [List.setIfInBounds_toArray]
  try simp only [List.set_cons_succ]
  try simp only [List.set_cons_zero]
  refine wpL.done (by kernel_rfl) ?_ _
  clear hQ
  go_wp2_with fail
  obtain ⟨b1, b2, b3, b4⟩ := fin_quad (s := s1) (A := A1) (n := n1) (c := c1) (t := s2) (B := A2) (m := n2) (d := c2) (bz.ext E1_1)
  have r0 := b1.cell 0 (.bool s1) rfl
  have r1 := b1.cell 1 (.slice A1 n1 c1) rfl
  have r2 := b1.cell 2 (.bool s2) rfl
  have r3 := b1.cell 3 (.slice A2 n2 c2) rfl
  unfold set4 at r0 r1 r2 r3
  refine bodyPost_ret (v := .agg #[.bool s1, .slice A1 n1 c1, .bool s2, .slice A2 n2 c2]) (by simp [results, Tryz.results122, go_sem, r0, r1, r2, r3]) rfl ⟨s1, A1, n1, c1, s2, A2, n2, c2, rfl, ⟨?_, ?_⟩, b3 _ (extW.trans E1_1) (by omega)⟩
  · exact b2 _ _ _ _ _ _ (h1.ext hx1)
  · exact b2 _ _ _ _ _ _ h2
end
end Go.Proofs.YtoabhnofppledaaGreatDoor
namespace Go.Proofs.YtoabhnofppledaaGreatDoor
open Go.RowKit
attribute [local go_sem ↓] Go.wp_at_zero Go.wp_at_succ
section
variable {w w' : World} {q p lo hi lo' hi' : Rat} {z y x S : Int} {L M : Nat} {s t s' t' u v sx tx : Bool} {A B A' B' C D Ax Bx : Option Addr} {n c m d n' c' m' d' i j k l nx cx mx dx : Nat}
theorem p_isPrec_yes {k : Int} (h0 : 0 ≤ k) (h1 : k ≤ 4096) : Calls Tryz.prog 65 #[.int .i64 k] w fun e w' => e = .returned (.bool true) ∧ Ext w w' := by
  have d0 : decide (0 ≤ k) = true := decide_eq_true h0
  have d1 : decide (k ≤ 4096) = true := decide_eq_true h1
  go_enter Tryz.func65, Tryz.ntmps65
  go_wp2_with fail
  go_ret
  exact ⟨rfl, Ext.refl _⟩
theorem pow_small {b k : Nat} (hb : b = 2 ∨ b = 4) (hk : k ≤ 200) : ((b : Int) ^ k).natAbs < 4294967296 ^ 13 := by
  have h1 : b ^ k ≤ 4 ^ 200 := Nat.le_trans (Nat.pow_le_pow_left (show b ≤ 4 by omega) k) (Nat.pow_le_pow_right (by omega) hk)
  have h2 : ((b : Int) ^ k).natAbs = b ^ k := by rw [← Int.natCast_pow]; exact Int.natAbs_natCast _
  rw [h2]
  exact Nat.lt_of_le_of_lt h1 (by decide)
set_option maxHeartbeats 1000000 in
theorem p_power {b k : Nat} (hb : b = 2 ∨ b = 4) (hk : k ≤ 200) : Calls Tryz.prog 67 #[.int .i64 (b : Int), .int .i64 (k : Int)] w (RetNI ((b : Int) ^ k) 13 w) := by
  have HS := Lib.hid (pow_small hb hk)
  go_enter Tryz.func67, Tryz.ntmps67
  go_upto_region 1 with (fail)
  obtain ⟨W, hW, extW, bz, hz⟩ := box1 w 24 #[Value.bool false, Value.slice none 0 0]
  rw [← hW]
  clear hW
  go_wp2_with fail
  refine (p_FromInt (b : Int) (by omega) (by omega)).mono ?_
  rintro e wa ⟨s1, A1, n1, c1, rfl, h1, hx1⟩
  replace h1 := h1.tight' (M := 1) (by omega)
  go_wp2_with fail
  obtain ⟨xs, hn, hx, hc, hcm, hi, hl⟩ := h1.out
  refine (int_Pow multiply_220 hn hx hc hcm (show k ≤ 4096 by omega) (by have : k * n1 ≤ k * 1 := Nat.mul_le_mul_left k hl; omega) (by omega)).mono ?_
  rintro e wb ⟨s2, A2, c2, ys, rfl, g1, g2, g3, g4, g5, hx2⟩
  rw [hi.eq] at g4
  obtain ⟨n2, hn2⟩ : ∃ n, ys.length = n := ⟨_, rfl⟩
  have h2 : NI wb ((b : Int) ^ k) 13 s2 A2 n2 c2 := (NI.mk (L := max 1 (k * xs.length)) ⟨ys, hn2, g1, by omega, g3, g4, by omega⟩).tight' HS.out
  rw [hn2]
  have hx3 := hx1.trans hx2
  clear hn hx hc hcm hi hl g1 g2 g3 g4 g5 hn2 h1 hx1 hx2
  go_upto_region 2 with (fail)
  refine at_world (fun V => Ext W V ∧ Box V wb.heap.size 24 #[.bool s2, .slice A2 n2 c2] ∧ NI V ((b : Int) ^ k) 13 s2 A2 n2 c2) ⟨hx3.alloc _, Box.new wb _ _, h2.ext ((Ext.refl wb).alloc _)⟩ ?_
  generalize wb.heap.size = g8
  clear hx3 h2
  rintro V ⟨EV, b8, h2⟩
  have x0 := b8.cell 0 _ rfl
  have x1 := b8.cell 1 _ rfl
  have z0 := (bz.ext EV).cell 0 _ rfl
  have z1 := (bz.ext EV).cell 1 _ rfl
  have f0 := (bz.ext EV).frozen 0
  have f1 := (bz.ext EV).frozen 1
  go_wp2_with fail
  obtain ⟨b1, b2, b3, b4⟩ := fin_dual (s := s2) (A := A2) (n := n2) (c := c2) (bz.ext EV)
  have r0 := b1.cell 0 (.bool s2) rfl
  have r1 := b1.cell 1 (.slice A2 n2 c2) rfl
  unfold set2 at r0 r1
  refine bodyPost_ret (v := .agg #[.bool s2, .slice A2 n2 c2]) (by simp [results, Tryz.results67, go_sem, r0, r1]) rfl ⟨s2, A2, n2, c2, rfl, ?_, b3 _ (extW.trans EV) (by omega)⟩
  exact b2 _ _ _ _ _ _ h2
set_option maxHeartbeats 4000000 in
theorem p_down (h : NR w q L sx Ax nx cx tx Bx mx dx) (k : NI w S M u C i j) (hL : L ≤ 60) (hM : M ≤ 60) : Calls Tryz.prog 70 #[.agg #[.bool sx, .slice Ax nx cx, .bool tx, .slice Bx mx dx], .agg #[.bool u, .slice C i j]] w fun e w' => ∃ z, IsFl q S z ∧ RetNI z (L + M + 1) w e w' := by
  have HD := Lib.hid (show (q.den : Int) ≠ 0 by have := q.den_nz; omega)
  go_enter Tryz.func70, Tryz.ntmps70
  go_upto_region 1 with (fail)
  obtain ⟨W, hW, ext, bx, by_, bz, hz⟩ := box3 w 26 24 24 #[.bool sx, .slice Ax nx cx, .bool tx, .slice Bx mx dx] #[.bool u, .slice C i j] #[Value.bool false, Value.slice none 0 0]
  rw [← hW]
  clear hW hz
  have ES0 := Ext.refl W
  refine wp_region_held_drew (S := Ext W) (by kernel_rfl) ES0.drew (fun ES => ?_)
  clear ES0
  refine Late.start2 (x := ⟨11, 5, 24, #[Value.bool false, Value.slice none 0 0]⟩) (y := ⟨12, 6, 24, #[Value.bool false, Value.slice none 0 0]⟩) (n := 14) ⟨_, rfl, rfl, rfl, fun a w => by go_simp⟩ ⟨_, rfl, rfl, rfl, fun a w => by go_simp⟩ (fun _ _ _ _ _ => ⟨fun h => h, fun h => h⟩) ES rfl (fun hAl hQ => ?_)
  refine Late.take (i := 0) (d := some 9) (v := ?v0_50) rfl rfl (by kernel_rfl) (by kernel_rfl) (by kernel_rfl) (by kernel_rfl) hQ (Or.inl ⟨by rfl, ?y0_50⟩) ?r0_50
  case y0_50 =>
    intro w' hSw
    have k00 := (bx.ext hSw).c4
    have k10 := (by_.ext hSw).c2
    go_simp
    try with_reducible rfl
  try simp only [Act.put]
  try simp only [List.setIfInBounds_toArray]
  try simp only [List.set_cons_succ]
  try simp only [List.set_cons_zero]
  refine Late.take (i := 1) (d := some 10) (v := ?v1_51) rfl rfl (by kernel_rfl) (by kernel_rfl) (by kernel_rfl) (by kernel_rfl) hQ (Or.inl ⟨by rfl, ?y1_51⟩) ?r1_51
  case y1_51 =>
    intro w' hSw
    have k00 := (bx.ext hSw).c4
    have k10 := (by_.ext hSw).c2
    go_simp
    try with_reducible rfl
  try simp only [Act.put]
  try simp only [List.setIfInBounds_toArray]
  try simp only [List.set_cons_succ]
  try simp only [List.set_cons_zero]
  refine Late.take (i := 2) (d := some 11) (v := ?v2_52) rfl rfl (by kernel_rfl) (by kernel_rfl) (by kernel_rfl) (by kernel_rfl) hQ (Or.inl ⟨by rfl, ?y2_52⟩) ?r2_52
  case y2_52 =>
    intro w' hSw
    have k00 := (bx.ext hSw).c4
    have k10 := (by_.ext hSw).c2
    go_simp
    try with_reducible rfl
  try simp only [Act.put]
  try simp only [List.setIfInBounds_toArray]
  try simp only [List.set_cons_succ]
  try simp only [List.set_cons_zero]
  refine Late.take (i := 4) (d := some 13) (v := ?v4_53) rfl rfl (by kernel_rfl) (by kernel_rfl) (by kernel_rfl) (by kernel_rfl) hQ (Or.inl ⟨by rfl, ?y4_53⟩) ?r4_53
  case y4_53 =>
    intro w' hSw
    have k00 := (bx.ext hSw).c4
    have k10 := (by_.ext hSw).c2
    go_simp
    try with_reducible rfl
  try simp only [Act.put]
  try simp only [List.setIfInBounds_toArray]
  try simp only [List.set_cons_succ]
  try simp only [List.set_cons_zero]
  refine Late.take (i := 5) (d := some 14) (v := ?v5_54) rfl rfl (by kernel_rfl) (by kernel_rfl) (by kernel_rfl) (by kernel_rfl) hQ (Or.inl ⟨by rfl, ?y5_54⟩) ?r5_54
  case y5_54 =>
    intro w' hSw
    have k00 := (bx.ext hSw).c4
    have k10 := (by_.ext hSw).c2
    go_simp
    try with_reducible rfl
  try simp only [Act.put]
  try simp only [List.setIfInBounds_toArray]
  try simp only [List.set_cons_succ]
  try simp only [List.set_cons_zero]
  refine Late.call (i := 3) rfl (by kernel_rfl) hAl (by kernel_rfl) (by kernel_rfl) (by kernel_rfl) hQ (fun w3 e3 E3 K hK => ?_)
  go_simp
  (go_at_call 94; refine (p_Mul (h.num.ext (ext.trans E3)) (k.ext (ext.trans E3)) (by omega) (by omega) (by omega)).mono ?_; rintro e wk1 ⟨s1, A1, n1, c1, rfl, h1, hx3⟩)
  refine hK.out _ _ hx3 ?_
  clear hK K
  try simp only [Act.put]
  try simp only [List.setIfInBounds_toArray]
  try simp only [List.set_cons_succ]
  try simp only [List.set_cons_zero]
  refine Late.call (i := 6) rfl (by kernel_rfl) hAl (by kernel_rfl) (by kernel_rfl) (by kernel_rfl) hQ (fun w6 e6 E6 K hK => ?_)
  go_simp
  (go_at_call 110; refine (p_DivMod (h1.ext e6) (h.den.ext (ext.trans E6)) (by omega) (by omega) HD.out).mono ?_; rintro e wk2 ⟨s2, A2, n2, c2, s3, A3, n3, c3, z, r, rfl, h2, h3, hdm, hx6⟩; have HF := Lib.hid (IsFl.of_dm hdm); clear hdm)
  refine hK.out _ _ hx6 ?_
  clear hK K
  try simp only [Act.put]
  try simp only [List.setIfInBounds_toArray]
  try simp only [List.set_cons_succ]
  try simp only [List.set_cons_zero]
  refine Late.take (i := 7) (d := some 8) (v := ?v7_55) rfl rfl (by kernel_rfl) (by kernel_rfl) (by kernel_rfl) (by kernel_rfl) hQ (Or.inl ⟨by rfl, ?y7_55⟩) ?r7_55
  case y7_55 =>
    intro w' hSw
    go_simp
    try with_reducible rfl
  try simp only [Act.put]
  try simp only [List.setIfInBounds_toArray]
  try simp only [List.set_cons_succ]
  try simp only [List.set_cons_zero]
  refine Late.take (i := 8) (d := some 16) (v := ?v8_56) rfl rfl (by kernel_rfl) (by kernel_rfl) (by kernel_rfl) (by kernel_rfl) hQ (Or.inl ⟨by rfl, ?y8_56⟩) ?r8_56
  case y8_56 =>
    intro w' hSw
    go_simp
    try with_reducible rfl
  try simp only [Act.put]
  try simp only [List.setIfInBounds_toArray]
  try simp only [List.set_cons_succ]
  try simp only [List.set_cons_zero]
  refine Late.take (i := 9) (d := some 17) (v := ?v9_57) rfl rfl (by kernel_rfl) (by kernel_rfl) (by kernel_rfl) (by kernel_rfl) hQ (Or.inl ⟨by rfl, ?y9_57⟩) ?r9_57
  case y9_57 =>
    intro w' hSw
    go_simp
    try with_reducible rfl
  try simp only [Act.put]
  try simp only [List.setIfInBounds_toArray]
  try simp only [List.set_cons_succ]
  try simp only [List.set_cons_zero]
  refine Late.take (i := 10) (d := some 18) (v := ?v10_58) rfl rfl (by kernel_rfl) (by kernel_rfl) (by kernel_rfl) (by kernel_rfl) hQ (Or.inl ⟨by rfl, ?y10_58⟩) ?r10_58
  case y10_58 =>
    intro w' hSw
    go_simp
    try with_reducible rfl
  try simp only [Act.put]
  try simp only [List.setIfInBounds_toArray]
  try simp only [List.set_cons_succ]
  try simp only [List.set_cons_zero]
  refine Late.finish2 (hAl _ (by simp)) (hAl _ (by simp)) (by decide) (by decide) (by kernel_rfl) (by kernel_rfl) (by kernel_rfl) (fun wz g5 g6 ez Ez lg5 lg6 hne xb1 xb2 => ?_)
  clear hAl hQ ES
  have p10 := xb1.cell 0 (Value.bool false) rfl
  have p11 := xb1.cell 1 (Value.slice none 0 0) rfl
  have f10 := xb1.frozen 0
  have f11 := xb1.frozen 1
  have e4 := fin_dual (s := s2) (A := A2) (n := n2) (c := c2) xb1
  try simp only [Act.put]
  try simp only [List.setIfInBounds_toArray]
  try simp only [List.set_cons_succ]
  try simp only [List.set_cons_zero]
  refine wpAnyH_ready (rs := [13]) (by kernel_rfl) (by simp) (AllReadyH.cons rfl (fun K hK => ?_) AllReadyH.nil)
  go_simp
  refine hK.out _ _ (e4.2.2.1 _ Ez lg5) (fun _ => ?_)
  clear hK K
  try simp only [Act.put]
  try simp only [List.setIfInBounds_toArray]
  try simp only [List.set_cons_succ]
  try simp only [List.set_cons_zero]
  have e5 := e4.2.2.2 _ _ _ (Ne.symm hne) xb2
  refine any_world (fun U => Ext W U ∧ Box U g5 24 #[.bool s2, .slice A2 n2 c2] ∧ Box U g6 24 #[Value.bool false, Value.slice none 0 0] ∧ NI U z (L + M + 1) s2 A2 n2 c2) ⟨e4.2.2.1 _ Ez lg5, e4.1, e5, e4.2.1 _ _ _ _ _ _ (h2.ext ez)⟩ ?_
  clear e4 e5 p10 p11 f10 f11 xb1 xb2 h2
  rintro U ⟨EU, b9, xb2, h2⟩
  have p10 := xb2.cell 0 (Value.bool false) rfl
  have p11 := xb2.cell 1 (Value.slice none 0 0) rfl
  have f10 := xb2.frozen 0
  have f11 := xb2.frozen 1
  have e4 := fin_dual (s := s3) (A := A3) (n := n3) (c := c3) xb2
  refine wpAnyH_ready (rs := [14]) (by kernel_rfl) (by simp) (AllReadyH.cons rfl (fun K hK => ?_) AllReadyH.nil)
  go_simp
  refine hK.out _ _ (e4.2.2.1 _ EU lg6) (fun _ => ?_)
  clear hK K
  try simp only [Act.put]
  try simp only [List.setIfInBounds_toArray]
  try simp only [List.set_cons_succ]
  try simp only [List.set_cons_zero]
  refine wpAnyH_ready (rs := [15]) (by kernel_rfl) (by simp) (AllReadyH.cons rfl (fun K hK => ?_) AllReadyH.nil)
  go_simp
  refine hK.out _ _ (e4.2.2.1 _ EU lg6) (fun _ => ?_)
  clear hK K
  try simp only [Act.put]
  try simp only [List.setIfInBounds_toArray]
  try simp only [List.set_cons_succ]
  try simp only [List.set_cons_zero]
  refine any_world (fun U2 => Ext W U2 ∧ Box U2 g5 24 #[.bool s2, .slice A2 n2 c2] ∧ NI U2 z (L + M + 1) s2 A2 n2 c2) ⟨e4.2.2.1 _ EU lg6, e4.2.2.2 _ _ _ hne b9, e4.2.1 _ _ _ _ _ _ h2⟩ ?_
  clear e4 p10 p11 f10 f11 xb2 b9 h2 lg5 lg6
  rintro U2 ⟨EU2, b9, h2⟩
  refine wpAnyH_done (by kernel_rfl) ?_ _
  clear EU Ez ez
  have x0 := b9.cell 0 _ rfl
  have x1 := b9.cell 1 _ rfl
  have z0 := (bz.ext EU2).cell 0 _ rfl
  have z1 := (bz.ext EU2).cell 1 _ rfl
  have f0 := (bz.ext EU2).frozen 0
  have f1 := (bz.ext EU2).frozen 1
  go_wp2_with fail
  obtain ⟨b1, b2, b3, b4⟩ := fin_dual (s := s2) (A := A2) (n := n2) (c := c2) (bz.ext EU2)
  have r0 := b1.cell 0 (.bool s2) rfl
  have r1 := b1.cell 1 (.slice A2 n2 c2) rfl
  unfold set2 at r0 r1
  refine bodyPost_ret (v := .agg #[.bool s2, .slice A2 n2 c2]) (by simp [results, Tryz.results70, go_sem, r0, r1]) rfl ⟨z, HF.out, s2, A2, n2, c2, rfl, ?_, b3 _ (ext.trans EU2) (by omega)⟩
  exact b2 _ _ _ _ _ _ h2
set_option maxHeartbeats 4000000 in
theorem p_up (h : NR w q L sx Ax nx cx tx Bx mx dx) (k : NI w S M u C i j) (hL : L ≤ 60) (hM : M ≤ 60) : Calls Tryz.prog 72 #[.agg #[.bool sx, .slice Ax nx cx, .bool tx, .slice Bx mx dx], .agg #[.bool u, .slice C i j]] w fun e w' => ∃ z, IsCl q S z ∧ RetNI z (L + M + 1) w e w' := by
  go_enter Tryz.func72, Tryz.ntmps72
  go_upto_region 1 with (fail)
  obtain ⟨W, hW, ext, bx, by_, bz, hz⟩ := box3 w 26 24 24 #[.bool sx, .slice Ax nx cx, .bool tx, .slice Bx mx dx] #[.bool u, .slice C i j] #[Value.bool false, Value.slice none 0 0]
  rw [← hW]
  clear hW hz
  refine wpL.start 5 (by kernel_rfl) (fun _ _ _ _ _ => ⟨fun h => h, fun h => h⟩) (fun hQ ES => ?_)
  refine wpL.take (i := 0) (d := some 5) (v := ?v0_59) rfl rfl (by kernel_rfl) (by kernel_rfl) (by kernel_rfl) (by kernel_rfl) hQ (Or.inl ⟨by rfl, ?y0_59⟩) ES ?r0_59
  case y0_59 =>
    intro w' hSw
    have k00 := (bx.ext hSw).c4
    have k10 := (by_.ext hSw).c2
    go_simp
    try with_reducible rfl
  try simp only [Act.put]
  try simp only [List.setIfInBounds_toArray]
  try simp only [List.set_cons_succ]
  try simp only [List.set_cons_zero]
  refine wpL.take (i := 2) (d := some 7) (v := ?v2_60) rfl rfl (by kernel_rfl) (by kernel_rfl) (by kernel_rfl) (by kernel_rfl) hQ (Or.inl ⟨by rfl, ?y2_60⟩) ES ?r2_60
  case y2_60 =>
    intro w' hSw
    have k00 := (bx.ext hSw).c4
    have k10 := (by_.ext hSw).c2
    go_simp
    try with_reducible rfl
  try simp only [Act.put]
  try simp only [List.setIfInBounds_toArray]
  try simp only [List.set_cons_succ]
  try simp only [List.set_cons_zero]
  refine wpL.call (i := 1) rfl (by kernel_rfl) (fun K hK => ?_)
  go_simp
  (go_at_call 103; refine (p_NegR (h.ext (ext.trans ES)) (by omega)).mono ?_; rintro e wa ⟨s1, A1, n1, c1, t1, B1, m1, d1, rfl, h1, hx0⟩; have E0_1 := Ext.trans ES hx0)
  refine hK.out _ _ E0_1 ?_
  clear hK K
  try simp only [Act.put]
  try simp only [List.setIfInBounds_toArray]
  try simp only [List.set_cons_succ]
  try simp only [List.set_cons_zero]
  refine wpL.call (i := 3) rfl (by kernel_rfl) (fun K hK => ?_)
  go_simp
  (go_at_call 70; refine (p_down h1 (k.ext (ext.trans E0_1)) hL hM).mono ?_; rintro e wb ⟨z, hf, s2, A2, n2, c2, rfl, h2, hx1⟩; have HF := Lib.hid (IsCl.of_neg hf); clear hf; have E1_1 := Ext.trans E0_1 hx1)
  refine hK.out _ _ E1_1 ?_
  clear hK K
  try simp only [Act.put]
  try simp only [List.setIfInBounds_toArray]
  try simp only [List.set_cons_succ]
  try simp only [List.set_cons_zero]
  refine wpL.call (i := 4) rfl (by kernel_rfl) (fun K hK => ?_)
  go_simp
  (go_at_call 111; refine (p_Neg h2 (by omega)).mono ?_; rintro e wc ⟨s3, A3, n3, c3, rfl, h3, hx2⟩; have E2_1 := Ext.trans E1_1 hx2)
  refine hK.out _ _ E2_1 ?_
  clear hK K
  try simp only [Act.put]
  try simp only [List.setIfInBounds_toArray]
  try simp only [List.set_cons_succ]
  try simp only [List.set_cons_zero]
  have z0 := (bz.ext E2_1).cell 0 _ rfl
  have z1 := (bz.ext E2_1).cell 1 _ rfl
  have f0 := (bz.ext E2_1).frozen 0
  have f1 := (bz.ext E2_1).frozen 1
  refine wpL.tail (i := 5) rfl (by kernel_rfl) (by kernel_rfl) (fun K hK => ?_)
  go_simp
  refine hK.out _ _ ?_
  clear hK K
  try simp only [Act.put]
  try simp only [List.setIfInBounds_toArray]
  try simp only [List.set_cons_succ]
  try simp only [List.set_cons_zero]
  refine wpL.done (by kernel_rfl) ?_ _
  clear hQ
  go_wp2_with fail
  obtain ⟨b1, b2, b3, b4⟩ := fin_dual (s := s3) (A := A3) (n := n3) (c := c3) (bz.ext E2_1)
  have r0 := b1.cell 0 (.bool s3) rfl
  have r1 := b1.cell 1 (.slice A3 n3 c3) rfl
  unfold set2 at r0 r1
  refine bodyPost_ret (v := .agg #[.bool s3, .slice A3 n3 c3]) (by simp [results, Tryz.results72, go_sem, r0, r1]) rfl ⟨-z, HF.out, s3, A3, n3, c3, rfl, ?_, b3 _ (ext.trans E2_1) (by omega)⟩
  exact b2 _ _ _ _ _ _ h3
set_option maxHeartbeats 2000000 in
theorem p_rootDown (h : NI w z L s A n c) (hL : L ≤ 50) (hz : 0 ≤ z) : Calls Tryz.prog 69 #[.agg #[.bool s, .slice A n c]] w fun e w' => ∃ r : Int, 0 ≤ r ∧ r * r ≤ z ∧ z < (r + 1) * (r + 1) ∧ RetNI r (L + 1) w e w' := by
  go_enter Tryz.func69, Tryz.ntmps69
  go_upto_region 1 with (fail)
  obtain ⟨W, hW, extW, bx, bz, hzz⟩ := box2 w 24 24 #[.bool s, .slice A n c] #[Value.bool false, Value.slice none 0 0]
  rw [← hW]
  clear hW
  replace h := h.ext extW
  have x0 := bx.cell 0 (.bool s) rfl
  have x1 := bx.cell 1 (.slice A n c) rfl
  go_wp2_with fail
  obtain ⟨xs, hn, hx, hc, hcm, hi, hl⟩ := h.out
  refine (int_Sqrt_pos hn hx hc hcm (by omega) (by rw [hi.eq]; exact hz)).mono ?_
  rintro e wa ⟨r, hr1, hr2, s1, A1, c1, rs, rfl, g1, g2, g3, g4, g5, hxa⟩
  have hv : ((val xs : Nat) : Int) = z := by rw [hi.abs]; omega
  replace hr1 : (r : Int) * r ≤ z := by rw [← hv]; exact_mod_cast hr1
  replace hr2 : z < ((r : Int) + 1) * (r + 1) := by rw [← hv]; exact_mod_cast hr2
  obtain ⟨n1, hn1⟩ : ∃ n1, rs.length = n1 := ⟨_, rfl⟩
  have hs1 : NI wa (r : Int) (L + 1) s1 A1 n1 c1 := ⟨rs, hn1, g1, by omega, g3, g4, by omega⟩
  have HR1 := Lib.hid hr1
  have HR2 := Lib.hid hr2
  rw [hn1]
  clear hn hx hc hcm hi hl g1 g2 g3 g4 g5 hr1 hr2 hv x0 x1 hn1
  go_upto_region 2 with (fail)
  refine at_world (fun V => Ext W V ∧ Box V wa.heap.size 24 #[.bool s1, .slice A1 n1 c1] ∧ NI V (r : Int) (L + 1) s1 A1 n1 c1) ⟨hxa.alloc _, Box.new wa _ _, hs1.ext ((Ext.refl wa).alloc _)⟩ ?_
  generalize wa.heap.size = g8
  clear hxa hs1
  rintro V ⟨EV, b8, h2⟩
  have x0 := b8.cell 0 _ rfl
  have x1 := b8.cell 1 _ rfl
  have z0 := (bz.ext EV).cell 0 _ rfl
  have z1 := (bz.ext EV).cell 1 _ rfl
  have f0 := (bz.ext EV).frozen 0
  have f1 := (bz.ext EV).frozen 1
  go_wp2_with fail
  obtain ⟨b1, b2, b3, b4⟩ := fin_dual (s := s1) (A := A1) (n := n1) (c := c1) (bz.ext EV)
  have r0 := b1.cell 0 (.bool s1) rfl
  have r1 := b1.cell 1 (.slice A1 n1 c1) rfl
  unfold set2 at r0 r1
  refine bodyPost_ret (v := .agg #[.bool s1, .slice A1 n1 c1]) (by simp [results, Tryz.results69, go_sem, r0, r1]) rfl ⟨(r : Int), by omega, HR1.out, HR2.out, s1, A1, n1, c1, rfl, ?_, b3 _ (extW.trans EV) (by omega)⟩
  exact b2 _ _ _ _ _ _ h2
set_option maxHeartbeats 4000000 in
theorem p_rootUp (h : NI w z L s A n c) (hL : L ≤ 50) (hz : 0 ≤ z) : Calls Tryz.prog 71 #[.agg #[.bool s, .slice A n c]] w fun e w' => ∃ r : Int, 0 ≤ r ∧ z ≤ r * r ∧ (r = 0 ∨ (r - 1) * (r - 1) < z) ∧ RetNI r (L + 3) w e w' := by
  go_enter Tryz.func71, Tryz.ntmps71
  go_upto_region 1 with (fail)
  obtain ⟨W, hW, extW, bx, bz, hzz⟩ := box2 w 24 24 #[.bool s, .slice A n c] #[Value.bool false, Value.slice none 0 0]
  rw [← hW]
  clear hW
  replace h := h.ext extW
  have x0 := bx.cell 0 (.bool s) rfl
  have x1 := bx.cell 1 (.slice A n c) rfl
  go_wp2_with fail
  refine (p_rootDown h hL hz).mono ?_
  rintro e wa ⟨r, hr0, hr1, hr2, s1, A1, n1, c1, rfl, h2, hxa⟩
  have HR0 := Lib.hid hr0
  have HR1 := Lib.hid hr1
  have HR2 := Lib.hid hr2
  clear x0 x1 hr1 hr2
  go_upto_region 2 with (fail)
  refine at_world (fun V => Ext W V ∧ Box V wa.heap.size 24 #[.bool s1, .slice A1 n1 c1] ∧ NI V r (L + 1) s1 A1 n1 c1) ⟨hxa.alloc _, Box.new wa _ _, h2.ext ((Ext.refl wa).alloc _)⟩ ?_
  generalize wa.heap.size = g8
  clear hxa h2
  rintro V ⟨EV, b8, h2⟩
  replace bx := bx.ext EV
  replace bz := bz.ext EV
  replace h := h.ext EV
  replace extW := extW.trans EV
  clear EV
  by_cases hlt : r * r < z
  · have HS := Lib.hid (Int.sign_eq_neg_one_of_neg (show r * r - z < 0 by omega))
    have HP := Lib.hid (show z ≤ (r + 1) * (r + 1) ∧ (r + 1 - 1) * (r + 1 - 1) < z from ⟨Int.le_of_lt HR2.out, by rw [Int.add_sub_cancel]; exact hlt⟩)
    clear hlt
    have ES0 := Ext.refl V
    refine wp_region_held_drew (S := Ext V) (by kernel_rfl) ES0.drew (fun ES => ?_)
    clear ES0
    refine Late.start0 (fun _ _ _ _ _ => ⟨fun h => h, fun h => h⟩) ES (fun hAl hQ => ?_)
    refine Late.take (i := 0) (d := some 6) (v := ?v0_62) rfl rfl (by kernel_rfl) (by kernel_rfl) (by kernel_rfl) (by kernel_rfl) hQ (Or.inl ⟨by rfl, ?y0_62⟩) ?r0_62
    case y0_62 =>
      intro w' hSw
      have k00 := (b8.ext hSw).c2
      have k10 := (bx.ext hSw).c2
      go_simp
      try with_reducible rfl
    try simp only [Act.put]
    try simp only [List.setIfInBounds_toArray]
    try simp only [List.set_cons_succ]
    try simp only [List.set_cons_zero]
    refine Late.take (i := 1) (d := some 7) (v := ?v1_63) rfl rfl (by kernel_rfl) (by kernel_rfl) (by kernel_rfl) (by kernel_rfl) hQ (Or.inl ⟨by rfl, ?y1_63⟩) ?r1_63
    case y1_63 =>
      intro w' hSw
      have k00 := (b8.ext hSw).c2
      have k10 := (bx.ext hSw).c2
      go_simp
      try with_reducible rfl
    try simp only [Act.put]
    try simp only [List.setIfInBounds_toArray]
    try simp only [List.set_cons_succ]
    try simp only [List.set_cons_zero]
    refine Late.take (i := 3) (d := some 9) (v := ?v3_64) rfl rfl (by kernel_rfl) (by kernel_rfl) (by kernel_rfl) (by kernel_rfl) hQ (Or.inl ⟨by rfl, ?y3_64⟩) ?r3_64
    case y3_64 =>
      intro w' hSw
      have k00 := (b8.ext hSw).c2
      have k10 := (bx.ext hSw).c2
      go_simp
      try with_reducible rfl
    try simp only [Act.put]
    try simp only [List.setIfInBounds_toArray]
    try simp only [List.set_cons_succ]
    try simp only [List.set_cons_zero]
    refine Late.call (i := 2) rfl (by kernel_rfl) hAl (by kernel_rfl) (by kernel_rfl) (by kernel_rfl) hQ (fun w2 e2 E2 K hK => ?_)
    go_simp
    (go_at_call 94; refine (p_Mul (h2.ext E2) (h2.ext E2) (by omega) (by omega) (by omega)).mono ?_; rintro e wk2 ⟨s6, A6, n6, c6, rfl, hm, hx2⟩)
    refine hK.out _ _ hx2 ?_
    clear hK K
    try simp only [Act.put]
    try simp only [List.setIfInBounds_toArray]
    try simp only [List.set_cons_succ]
    try simp only [List.set_cons_zero]
    refine Late.call (i := 4) rfl (by kernel_rfl) hAl (by kernel_rfl) (by kernel_rfl) (by kernel_rfl) hQ (fun w4 e4 E4 K hK => ?_)
    go_simp
    (replace hm := hm.ext e4; go_at_call 93; refine (p_Cmp hm (h.ext E4) (by omega) (by omega)).mono ?_; rintro e wk4 ⟨rfl, hx4⟩; replace hm := hm.ext hx4; rw [HS.out])
    refine hK.out _ _ hx4 ?_
    clear hK K
    try simp only [Act.put]
    try simp only [List.setIfInBounds_toArray]
    try simp only [List.set_cons_succ]
    try simp only [List.set_cons_zero]
    refine Late.take (i := 5) (d := some 11) (v := ?v5_65) rfl rfl (by kernel_rfl) (by kernel_rfl) (by kernel_rfl) (by kernel_rfl) hQ (Or.inl ⟨by rfl, ?y5_65⟩) ?r5_65
    case y5_65 =>
      intro w' hSw
      have k00 := (b8.ext hSw).c2
      have k10 := (bx.ext hSw).c2
      go_simp
      try with_reducible rfl
    try simp only [Act.put]
    try simp only [List.setIfInBounds_toArray]
    try simp only [List.set_cons_succ]
    try simp only [List.set_cons_zero]
    refine Late.done0 (by kernel_rfl) (fun wz ez Ez => ?_)
    clear hAl hQ ES
    replace bz := bz.ext Ez
    replace b8 := b8.ext Ez
    replace h2 := h2.ext Ez
    replace extW := extW.trans Ez
    clear Ez ez
    go_upto_region 3 with (fail)
    refine wpL.start 3 (by kernel_rfl) (fun _ _ _ _ _ => ⟨fun h => h, fun h => h⟩) (fun hQ ES => ?_)
    refine wpL.take (i := 0) (d := some 12) (v := ?v0_61) rfl rfl (by kernel_rfl) (by kernel_rfl) (by kernel_rfl) (by kernel_rfl) hQ (Or.inl ⟨by rfl, ?y0_61⟩) ES ?r0_61
    case y0_61 =>
      intro w' hSw
      have k00 := (b8.ext hSw).c2
      go_simp
      try with_reducible rfl
    try simp only [Act.put]
    try simp only [List.setIfInBounds_toArray]
    try simp only [List.set_cons_succ]
    try simp only [List.set_cons_zero]
    refine wpL.call (i := 1) rfl (by kernel_rfl) (fun K hK => ?_)
    go_simp
    (go_at_call 104; refine (p_FromInt 1 (by omega) (by omega)).mono ?_; rintro e wa ⟨s3, A3, n3, c3, rfl, h3, hx0⟩; have E0_3 := Ext.trans ES hx0)
    refine hK.out _ _ E0_3 ?_
    clear hK K
    try simp only [Act.put]
    try simp only [List.setIfInBounds_toArray]
    try simp only [List.set_cons_succ]
    try simp only [List.set_cons_zero]
    refine wpL.call (i := 2) rfl (by kernel_rfl) (fun K hK => ?_)
    go_simp
    (go_at_call 101; refine (p_Add (h2.ext E0_3) h3 (by omega) (by omega)).mono ?_; rintro e wb ⟨s4, A4, n4, c4, rfl, h4, hx1⟩; have E1_3 := Ext.trans E0_3 hx1)
    refine hK.out _ _ E1_3 ?_
    clear hK K
    try simp only [Act.put]
    try simp only [List.setIfInBounds_toArray]
    try simp only [List.set_cons_succ]
    try simp only [List.set_cons_zero]
    have z0 := (bz.ext E1_3).cell 0 _ rfl
    have z1 := (bz.ext E1_3).cell 1 _ rfl
    have f0 := (bz.ext E1_3).frozen 0
    have f1 := (bz.ext E1_3).frozen 1
    refine wpL.tail (i := 3) rfl (by kernel_rfl) (by kernel_rfl) (fun K hK => ?_)
    go_simp
    refine hK.out _ _ ?_
    clear hK K
    try simp only [Act.put]
    try simp only [List.setIfInBounds_toArray]
    try simp only [List.set_cons_succ]
    try simp only [List.set_cons_zero]
    refine wpL.done (by kernel_rfl) ?_ _
    clear hQ
    go_wp2_with fail
    obtain ⟨b1, b2, b3, b4⟩ := fin_dual (s := s4) (A := A4) (n := n4) (c := c4) (bz.ext E1_3)
    have r0 := b1.cell 0 (.bool s4) rfl
    have r1 := b1.cell 1 (.slice A4 n4 c4) rfl
    unfold set2 at r0 r1
    refine bodyPost_ret (v := .agg #[.bool s4, .slice A4 n4 c4]) (by simp [results, Tryz.results71, go_sem, r0, r1]) rfl ⟨r + 1, by have := HR0.out; omega, HP.out.1, .inr HP.out.2, s4, A4, n4, c4, rfl, ?_, b3 _ (extW.trans E1_3) (by omega)⟩
    exact (b2 _ _ _ _ _ _ h4).le (by omega)
  · have hge : z = r * r := by have := HR1.out; omega
    have HS := Lib.hid (show (r * r - z).sign = 0 by rw [hge, Int.sub_self]; rfl)
    have HP := Lib.hid (show z ≤ r * r ∧ (r = 0 ∨ (r - 1) * (r - 1) < z) from ⟨by omega, by
      by_cases h3 : r = 0
      · exact .inl h3
      · right
        have : (r - 1) * (r - 1) = r * r - 2 * r + 1 := by rw [Int.sub_mul, Int.mul_sub, Int.mul_one, Int.one_mul]; omega
        omega⟩)
    clear hlt hge
    have ES0 := Ext.refl V
    refine wp_region_held_drew (S := Ext V) (by kernel_rfl) ES0.drew (fun ES => ?_)
    clear ES0
    refine Late.start0 (fun _ _ _ _ _ => ⟨fun h => h, fun h => h⟩) ES (fun hAl hQ => ?_)
    refine Late.take (i := 0) (d := some 6) (v := ?v0_66) rfl rfl (by kernel_rfl) (by kernel_rfl) (by kernel_rfl) (by kernel_rfl) hQ (Or.inl ⟨by rfl, ?y0_66⟩) ?r0_66
    case y0_66 =>
      intro w' hSw
      have k00 := (b8.ext hSw).c2
      have k10 := (bx.ext hSw).c2
      go_simp
      try with_reducible rfl
    try simp only [Act.put]
    try simp only [List.setIfInBounds_toArray]
    try simp only [List.set_cons_succ]
    try simp only [List.set_cons_zero]
    refine Late.take (i := 1) (d := some 7) (v := ?v1_67) rfl rfl (by kernel_rfl) (by kernel_rfl) (by kernel_rfl) (by kernel_rfl) hQ (Or.inl ⟨by rfl, ?y1_67⟩) ?r1_67
    case y1_67 =>
      intro w' hSw
      have k00 := (b8.ext hSw).c2
      have k10 := (bx.ext hSw).c2
      go_simp
      try with_reducible rfl
    try simp only [Act.put]
    try simp only [List.setIfInBounds_toArray]
    try simp only [List.set_cons_succ]
    try simp only [List.set_cons_zero]
    refine Late.take (i := 3) (d := some 9) (v := ?v3_68) rfl rfl (by kernel_rfl) (by kernel_rfl) (by kernel_rfl) (by kernel_rfl) hQ (Or.inl ⟨by rfl, ?y3_68⟩) ?r3_68
    case y3_68 =>
      intro w' hSw
      have k00 := (b8.ext hSw).c2
      have k10 := (bx.ext hSw).c2
      go_simp
      try with_reducible rfl
    try simp only [Act.put]
    try simp only [List.setIfInBounds_toArray]
    try simp only [List.set_cons_succ]
    try simp only [List.set_cons_zero]
    refine Late.call (i := 2) rfl (by kernel_rfl) hAl (by kernel_rfl) (by kernel_rfl) (by kernel_rfl) hQ (fun w2 e2 E2 K hK => ?_)
    go_simp
    (go_at_call 94; refine (p_Mul (h2.ext E2) (h2.ext E2) (by omega) (by omega) (by omega)).mono ?_; rintro e wk2 ⟨s6, A6, n6, c6, rfl, hm, hx2⟩)
    refine hK.out _ _ hx2 ?_
    clear hK K
    try simp only [Act.put]
    try simp only [List.setIfInBounds_toArray]
    try simp only [List.set_cons_succ]
    try simp only [List.set_cons_zero]
    refine Late.call (i := 4) rfl (by kernel_rfl) hAl (by kernel_rfl) (by kernel_rfl) (by kernel_rfl) hQ (fun w4 e4 E4 K hK => ?_)
    go_simp
    (replace hm := hm.ext e4; go_at_call 93; refine (p_Cmp hm (h.ext E4) (by omega) (by omega)).mono ?_; rintro e wk4 ⟨rfl, hx4⟩; replace hm := hm.ext hx4; rw [HS.out])
    refine hK.out _ _ hx4 ?_
    clear hK K
    try simp only [Act.put]
    try simp only [List.setIfInBounds_toArray]
    try simp only [List.set_cons_succ]
    try simp only [List.set_cons_zero]
    refine Late.take (i := 5) (d := some 11) (v := ?v5_69) rfl rfl (by kernel_rfl) (by kernel_rfl) (by kernel_rfl) (by kernel_rfl) hQ (Or.inl ⟨by rfl, ?y5_69⟩) ?r5_69
    case y5_69 =>
      intro w' hSw
      have k00 := (b8.ext hSw).c2
      have k10 := (bx.ext hSw).c2
      go_simp
      try with_reducible rfl
    try simp only [Act.put]
    try simp only [List.setIfInBounds_toArray]
    try simp only [List.set_cons_succ]
    try simp only [List.set_cons_zero]
    refine Late.done0 (by kernel_rfl) (fun wz ez Ez => ?_)
    clear hAl hQ ES
    replace bz := bz.ext Ez
    replace b8 := b8.ext Ez
    replace h2 := h2.ext Ez
    replace extW := extW.trans Ez
    clear Ez ez
    have x0 := b8.cell 0 _ rfl
    have x1 := b8.cell 1 _ rfl
    have hE := Ext.refl wz
    have z0 := (bz.ext hE).cell 0 _ rfl
    have z1 := (bz.ext hE).cell 1 _ rfl
    have f0 := (bz.ext hE).frozen 0
    have f1 := (bz.ext hE).frozen 1
    go_wp2_with fail
    obtain ⟨b1, b2, b3, b4⟩ := fin_dual (s := s1) (A := A1) (n := n1) (c := c1) (bz.ext hE)
    have r0 := b1.cell 0 (.bool s1) rfl
    have r1 := b1.cell 1 (.slice A1 n1 c1) rfl
    unfold set2 at r0 r1
    refine bodyPost_ret (v := .agg #[.bool s1, .slice A1 n1 c1]) (by simp [results, Tryz.results71, go_sem, r0, r1]) rfl ⟨r, HR0.out, HP.out.1, HP.out.2, s1, A1, n1, c1, rfl, ?_, b3 _ (extW.trans hE) (by omega)⟩
    exact (b2 _ _ _ _ _ _ h2).le (by omega)
set_option maxHeartbeats 4000000 in
theorem p_between (h : NI w z L s A n c) (k : NI w y L t B m d) (k' : NI w x M u C i j) (hL : L ≤ 100) (hM : M ≤ L) (hx0 : 0 < x) (hT : Tab w) : Calls Tryz.prog 68 #[.agg #[.bool s, .slice A n c], .agg #[.bool t, .slice B m d], .agg #[.bool u, .slice C i j]] w (RetIV (mkQ z x) (mkQ y x) L w) := by
  have hne : x ≠ 0 := by omega
  go_enter Tryz.func68, Tryz.ntmps68
  go_upto_region 1 with (fail)
  obtain ⟨W, hW, ext, b3, b4, b5, bz, hzz⟩ := box4 w 24 24 24 28 #[.bool s, .slice A n c] #[.bool t, .slice B m d] #[.bool u, .slice C i j] #[Value.bool false, Value.slice none 0 0, Value.bool false, Value.slice none 0 0, Value.bool false, Value.slice none 0 0, Value.bool false, Value.slice none 0 0]
  rw [← hW]
  clear hW hzz
  have p0 := b3.cell 0 (.bool s) rfl
  have p1 := b3.cell 1 (.slice A n c) rfl
  have q0 := b5.cell 0 (.bool u) rfl
  have q1 := b5.cell 1 (.slice C i j) rfl
  go_wp2_with fail
  refine (p_Make_nz (h.ext ext) (k'.ext ext) (by omega) (by omega) hne (hT.ext ext)).mono ?_
  rintro e wa ⟨s1, A1, n1, c1, t1, B1, m1, d1, rfl, g1, hxa⟩
  clear p0 p1 q0 q1
  go_upto_region 2 with (fail)
  refine at_world (fun V => Ext W V ∧ Box V wa.heap.size 26 #[.bool s1, .slice A1 n1 c1, .bool t1, .slice B1 m1 d1] ∧ NR V (mkQ z x) (max L M) s1 A1 n1 c1 t1 B1 m1 d1) ⟨hxa.alloc _, Box.new wa _ _, g1.ext ((Ext.refl wa).alloc _)⟩ ?_
  generalize wa.heap.size = g7
  clear hxa g1
  rintro V ⟨EV, b7, g1⟩
  replace b4 := b4.ext EV
  replace b5 := b5.ext EV
  replace bz := bz.ext EV
  replace ext := ext.trans EV
  clear EV
  have p0 := b4.cell 0 (.bool t) rfl
  have p1 := b4.cell 1 (.slice B m d) rfl
  have q0 := b5.cell 0 (.bool u) rfl
  have q1 := b5.cell 1 (.slice C i j) rfl
  go_wp2_with fail
  refine (p_Make_nz (k.ext ext) (k'.ext ext) (by omega) (by omega) hne (hT.ext ext)).mono ?_
  rintro e wb ⟨s2, A2, n2, c2, t2, B2, m2, d2, rfl, g2, hxb⟩
  clear p0 p1 q0 q1
  go_upto_region 3 with (fail)
  refine at_world (fun V2 => Ext V V2 ∧ Box V2 wb.heap.size 26 #[.bool s2, .slice A2 n2 c2, .bool t2, .slice B2 m2 d2] ∧ NR V2 (mkQ y x) (max L M) s2 A2 n2 c2 t2 B2 m2 d2) ⟨hxb.alloc _, Box.new wb _ _, g2.ext ((Ext.refl wb).alloc _)⟩ ?_
  generalize wb.heap.size = g8
  clear hxb g2
  rintro V2 ⟨EV, b8, g2⟩
  replace b7 := b7.ext EV
  replace g1 := g1.ext EV
  have x0 := b7.cell 0 (.bool s1) rfl
  have x1 := b7.cell 1 (.slice A1 n1 c1) rfl
  have x2 := b7.cell 2 (.bool t1) rfl
  have x3 := b7.cell 3 (.slice B1 m1 d1) rfl
  have y0 := b8.cell 0 (.bool s2) rfl
  have y1 := b8.cell 1 (.slice A2 n2 c2) rfl
  have y2 := b8.cell 2 (.bool t2) rfl
  have y3 := b8.cell 3 (.slice B2 m2 d2) rfl
  have z0 := (bz.ext EV).cell 0 _ rfl
  have f0 := (bz.ext EV).frozen 0
  have z1 := (bz.ext EV).cell 1 _ rfl
  have f1 := (bz.ext EV).frozen 1
  have z2 := (bz.ext EV).cell 2 _ rfl
  have f2 := (bz.ext EV).frozen 2
  have z3 := (bz.ext EV).cell 3 _ rfl
  have f3 := (bz.ext EV).frozen 3
  have z4 := (bz.ext EV).cell 4 _ rfl
  have f4 := (bz.ext EV).frozen 4
  have z5 := (bz.ext EV).cell 5 _ rfl
  have f5 := (bz.ext EV).frozen 5
  have z6 := (bz.ext EV).cell 6 _ rfl
  have f6 := (bz.ext EV).frozen 6
  have z7 := (bz.ext EV).cell 7 _ rfl
  have f7 := (bz.ext EV).frozen 7
  go_wp2_with fail
  obtain ⟨b1, b2, b3, b4⟩ := fin_oct (v0 := (.bool s1)) (v1 := (.slice A1 n1 c1)) (v2 := (.bool t1)) (v3 := (.slice B1 m1 d1)) (v4 := (.bool s2)) (v5 := (.slice A2 n2 c2)) (v6 := (.bool t2)) (v7 := (.slice B2 m2 d2)) (bz.ext EV)
  have r0 := b1.cell 0 (.bool s1) rfl
  have r1 := b1.cell 1 (.slice A1 n1 c1) rfl
  have r2 := b1.cell 2 (.bool t1) rfl
  have r3 := b1.cell 3 (.slice B1 m1 d1) rfl
  have r4 := b1.cell 4 (.bool s2) rfl
  have r5 := b1.cell 5 (.slice A2 n2 c2) rfl
  have r6 := b1.cell 6 (.bool t2) rfl
  have r7 := b1.cell 7 (.slice B2 m2 d2) rfl
  unfold set8 at r0 r1 r2 r3 r4 r5 r6 r7
  refine bodyPost_ret (v := .agg #[.bool s1, .slice A1 n1 c1, .bool t1, .slice B1 m1 d1, .bool s2, .slice A2 n2 c2, .bool t2, .slice B2 m2 d2]) (by simp [results, Tryz.results68, go_sem, r0, r1, r2, r3, r4, r5, r6, r7]) rfl ⟨s1, A1, n1, c1, t1, B1, m1, d1, s2, A2, n2, c2, t2, B2, m2, d2, rfl, ⟨⟨?_, ?_⟩, ⟨?_, ?_⟩⟩, b3 _ (ext.trans EV) (by omega)⟩
  · exact (b2 _ _ _ _ _ _ g1.num).le (by omega)
  · exact (b2 _ _ _ _ _ _ g1.den).le (by omega)
  · exact (b2 _ _ _ _ _ _ g2.num).le (by omega)
  · exact (b2 _ _ _ _ _ _ g2.den).le (by omega)
end
end Go.Proofs.YtoabhnofppledaaGreatDoor
namespace Go.Proofs.YtoabhnofppledaaGreatDoor
open Go.RowKit
attribute [local go_sem ↓] Go.wp_at_zero Go.wp_at_succ
theorem IsFl.nonneg {q : Rat} {S z : Int} (h : IsFl q S z) (hq : 0 ≤ q.num) (hS : 0 ≤ S) : 0 ≤ z := by
  have h1 := Int.mul_nonneg hq hS
  have h2 := mul_lt_out (a := 0) (b := z + 1) (denI q) (by rw [Int.zero_mul]; exact Int.lt_of_le_of_lt h1 h.lt)
  omega
theorem IsCl.nonneg {q : Rat} {S z : Int} (h : IsCl q S z) (hq : 0 ≤ q.num) (hS : 0 ≤ S) : 0 ≤ z := by
  have h1 := Int.mul_nonneg hq hS
  exact mul_le_out (a := 0) (denI q) (by rw [Int.zero_mul]; exact Int.le_trans h1 h.le)
theorem num_le {lo hi : Rat} (h : lo ≤ hi) (h0 : 0 ≤ lo.num) : 0 ≤ hi.num := Rat.num_nonneg.2 (Rat.le_trans (Rat.num_nonneg.1 h0) h)
theorem pow_pos2 (k : Nat) : (0 : Int) < 2 ^ k := Int.pow_pos (by decide)
theorem pow_pos4 (k : Nat) : (0 : Int) < 4 ^ k := Int.pow_pos (by decide)
/-- the square roots of an interval, and no error. -/
def RetRt (lo hi : Rat) (k : Nat) (L : Nat) (w : World) (e : Ending) (w' : World) : Prop :=
  ∃ r1 r2 : Int, IsRl lo (4 ^ k) r1 ∧ IsRh hi (4 ^ k) r2 ∧ ∃ s A n c t B m d s' A' n' c' t' B' m' d', e = .returned (.tuple #[.agg #[.bool s, .slice A n c, .bool t, .slice B m d, .bool s', .slice A' n' c', .bool t', .slice B' m' d'], .int .i64 0]) ∧ IV w' (mkQ r1 (2 ^ k)) (mkQ r2 (2 ^ k)) L s A n c t B m d s' A' n' c' t' B' m' d' ∧ Ext w w'
theorem p_power2 {w : World} {k : Nat} (hk : k ≤ 200) : Calls Tryz.prog 67 #[.int .i64 2, .int .i64 (k : Int)] w (RetNI (2 ^ k) 13 w) := p_power (b := 2) (.inl rfl) hk
theorem p_power4 {w : World} {k : Nat} (hk : k ≤ 200) : Calls Tryz.prog 67 #[.int .i64 4, .int .i64 (k : Int)] w (RetNI (4 ^ k) 13 w) := p_power (b := 4) (.inr rfl) hk
section
variable {w w' : World} {q p lo hi lo' hi' : Rat} {z y x S : Int} {L M : Nat} {s t s' t' u v sx tx : Bool} {A B A' B' C D Ax Bx : Option Addr} {n c m d n' c' m' d' i j k l nx cx mx dx : Nat}
set_option maxHeartbeats 8000000 in
set_option maxRecDepth 100000 in
theorem p_SqrtV {k : Nat} (h : IV w lo hi L s A n c t B m d s' A' n' c' t' B' m' d') (hle : lo ≤ hi) (hL : L ≤ 20) (hk : k ≤ 200) (hn : 0 ≤ lo.num) (hT : Tab w) : Calls Tryz.prog 29 #[.agg #[.bool s, .slice A n c, .bool t, .slice B m d, .bool s', .slice A' n' c', .bool t', .slice B' m' d'], .int .i64 (k : Int)] w (RetRt lo hi k (L + 17) w) := by
  have HP := Lib.hid (show 0 ≤ lo.num ∧ 0 ≤ hi.num ∧ (0 : Int) ≤ 4 ^ k from ⟨hn, num_le hle hn, Int.le_of_lt (pow_pos4 k)⟩)
  have HU := Lib.hid (pow_pos2 k)
  have Hk := Lib.hid hk
  obtain ⟨S, hS, dS⟩ : ∃ S, lo.num.sign = S ∧ decide (S < 0) = false := ⟨_, rfl, decide_eq_false (by
    intro h1
    rcases Int.lt_or_eq_of_le hn with h2 | h2
    · rw [Int.sign_eq_one_of_pos h2] at h1; omega
    · rw [← h2] at h1; simp at h1)⟩
  have HS := Lib.hid hS
  clear hS hn hle
  go_enter Tryz.func29, Tryz.ntmps29
  go_upto_region 1 with (fail)
  obtain ⟨W, hW, ext, bx, bz, hz⟩ := box2 w 28 28 #[.bool s, .slice A n c, .bool t, .slice B m d, .bool s', .slice A' n' c', .bool t', .slice B' m' d'] #[Value.bool false, Value.slice none 0 0, Value.bool false, Value.slice none 0 0, Value.bool false, Value.slice none 0 0, Value.bool false, Value.slice none 0 0]
  rw [← hW]
  clear hW hz
  go_wp2_with fail
  refine (p_isPrec_yes (k := (k : Int)) (by omega) (by omega)).mono ?_
  rintro e wa ⟨rfl, hxa⟩
  replace bx := bx.ext hxa
  replace bz := bz.ext hxa
  replace ext := ext.trans hxa
  clear hxa
  have k0 := bx.cell 0 (.bool s) rfl
  have k1 := bx.cell 1 (.slice A n c) rfl
  have k2 := bx.cell 2 (.bool t) rfl
  have k3 := bx.cell 3 (.slice B m d) rfl
  have k4 := bx.cell 4 (.bool s') rfl
  have k5 := bx.cell 5 (.slice A' n' c') rfl
  have k6 := bx.cell 6 (.bool t') rfl
  have k7 := bx.cell 7 (.slice B' m' d') rfl
  go_wp2_with fail
  refine (p_SignR (h.low.ext ext) (by omega)).mono ?_
  rintro e wb ⟨rfl, hxb⟩
  rw [HS.out]
  replace bx := bx.ext hxb
  replace bz := bz.ext hxb
  replace ext := ext.trans hxb
  clear hxb k0 k1 k2 k3 k4 k5 k6 k7
  go_wp2_with fail
  refine (p_power4 Hk.out).mono ?_
  rintro e wb2 ⟨s3, A3, n3, c3, rfl, h6, hxb⟩
  go_upto_region 6 with (fail)
  refine at_world (fun V => Ext wb V ∧ Box V wb2.heap.size 24 #[.bool s3, .slice A3 n3 c3] ∧ NI V (4 ^ k) 13 s3 A3 n3 c3) ⟨hxb.alloc _, Box.new wb2 _ _, h6.ext ((Ext.refl wb2).alloc _)⟩ ?_
  generalize wb2.heap.size = g6
  clear hxb h6
  rintro V ⟨EV, b6, h6⟩
  replace bx := bx.ext EV
  replace bz := bz.ext EV
  replace ext := ext.trans EV
  replace h := h.ext ext
  clear EV dS
  refine wpL.start 13 (by kernel_rfl) (fun _ _ _ _ _ => ⟨fun h => h, fun h => h⟩) (fun hQ ES => ?_)
  refine wpL.take (i := 0) (d := some 20) (v := ?v0_70) rfl rfl (by kernel_rfl) (by kernel_rfl) (by kernel_rfl) (by kernel_rfl) hQ (Or.inl ⟨by rfl, ?y0_70⟩) ES ?r0_70
  case y0_70 =>
    intro w' hSw
    have k00 := (bx.ext hSw).c8
    have k10 := (b6.ext hSw).c2
    go_simp
    try with_reducible rfl
  try simp only [Act.put]
  try simp only [List.setIfInBounds_toArray]
  try simp only [List.set_cons_succ]
  try simp only [List.set_cons_zero]
  refine wpL.take (i := 2) (d := some 22) (v := ?v2_71) rfl rfl (by kernel_rfl) (by kernel_rfl) (by kernel_rfl) (by kernel_rfl) hQ (Or.inl ⟨by rfl, ?y2_71⟩) ES ?r2_71
  case y2_71 =>
    intro w' hSw
    have k00 := (bx.ext hSw).c8
    have k10 := (b6.ext hSw).c2
    go_simp
    try with_reducible rfl
  try simp only [Act.put]
  try simp only [List.setIfInBounds_toArray]
  try simp only [List.set_cons_succ]
  try simp only [List.set_cons_zero]
  refine wpL.take (i := 5) (d := some 25) (v := ?v5_72) rfl rfl (by kernel_rfl) (by kernel_rfl) (by kernel_rfl) (by kernel_rfl) hQ (Or.inl ⟨by rfl, ?y5_72⟩) ES ?r5_72
  case y5_72 =>
    intro w' hSw
    have k00 := (bx.ext hSw).c8
    have k10 := (b6.ext hSw).c2
    go_simp
    try with_reducible rfl
  try simp only [Act.put]
  try simp only [List.setIfInBounds_toArray]
  try simp only [List.set_cons_succ]
  try simp only [List.set_cons_zero]
  refine wpL.take (i := 7) (d := some 27) (v := ?v7_73) rfl rfl (by kernel_rfl) (by kernel_rfl) (by kernel_rfl) (by kernel_rfl) hQ (Or.inl ⟨by rfl, ?y7_73⟩) ES ?r7_73
  case y7_73 =>
    intro w' hSw
    have k00 := (bx.ext hSw).c8
    have k10 := (b6.ext hSw).c2
    go_simp
    try with_reducible rfl
  try simp only [Act.put]
  try simp only [List.setIfInBounds_toArray]
  try simp only [List.set_cons_succ]
  try simp only [List.set_cons_zero]
  refine wpL.take (i := 10) (d := some 30) (v := ?v10_74) rfl rfl (by kernel_rfl) (by kernel_rfl) (by kernel_rfl) (by kernel_rfl) hQ (Or.inl ⟨by rfl, ?y10_74⟩) ES ?r10_74
  case y10_74 =>
    intro w' hSw
    have k00 := (bx.ext hSw).c8
    have k10 := (b6.ext hSw).c2
    go_simp
    try with_reducible rfl
  try simp only [Act.put]
  try simp only [List.setIfInBounds_toArray]
  try simp only [List.set_cons_succ]
  try simp only [List.set_cons_zero]
  refine wpL.take (i := 1) (d := some 21) (v := ?v1_75) rfl rfl (by kernel_rfl) (by kernel_rfl) (by kernel_rfl) (by kernel_rfl) hQ (Or.inl ⟨by rfl, ?y1_75⟩) ES ?r1_75
  case y1_75 =>
    intro w' hSw
    have k00 := (bx.ext hSw).c8
    have k10 := (b6.ext hSw).c2
    go_simp
    try with_reducible rfl
  try simp only [Act.put]
  try simp only [List.setIfInBounds_toArray]
  try simp only [List.set_cons_succ]
  try simp only [List.set_cons_zero]
  refine wpL.take (i := 6) (d := some 26) (v := ?v6_76) rfl rfl (by kernel_rfl) (by kernel_rfl) (by kernel_rfl) (by kernel_rfl) hQ (Or.inl ⟨by rfl, ?y6_76⟩) ES ?r6_76
  case y6_76 =>
    intro w' hSw
    have k00 := (bx.ext hSw).c8
    have k10 := (b6.ext hSw).c2
    go_simp
    try with_reducible rfl
  try simp only [Act.put]
  try simp only [List.setIfInBounds_toArray]
  try simp only [List.set_cons_succ]
  try simp only [List.set_cons_zero]
  refine wpL.call (i := 3) rfl (by kernel_rfl) (fun K hK => ?_)
  go_simp
  (go_at_call 70; refine (p_down (h.low.ext ES) (h6.ext ES) (by omega) (by omega)).mono ?_; rintro e wc ⟨zA, hf1, sa, Aa, na, ca, rfl, g1, hx0⟩; have HF1 := Lib.hid hf1; have HZ1 := Lib.hid (hf1.nonneg HP.out.1 HP.out.2.2); clear hf1; have E0_6 := Ext.trans ES hx0)
  refine hK.out _ _ E0_6 ?_
  clear hK K
  try simp only [Act.put]
  try simp only [List.setIfInBounds_toArray]
  try simp only [List.set_cons_succ]
  try simp only [List.set_cons_zero]
  refine wpL.call (i := 4) rfl (by kernel_rfl) (fun K hK => ?_)
  go_simp
  (go_at_call 69; refine (p_rootDown g1 (by omega) HZ1.out).mono ?_; rintro e wd ⟨rA, hr0, hr1, hr2, sb, Ab, nb, cb, rfl, g2, hx1⟩; have HR1 := Lib.hid (IsRl.of HF1.out hr0 hr1 hr2); clear hr0 hr1 hr2 g1 HF1 HZ1; have E1_6 := Ext.trans E0_6 hx1)
  refine hK.out _ _ E1_6 ?_
  clear hK K
  try simp only [Act.put]
  try simp only [List.setIfInBounds_toArray]
  try simp only [List.set_cons_succ]
  try simp only [List.set_cons_zero]
  refine wpL.call (i := 8) rfl (by kernel_rfl) (fun K hK => ?_)
  go_simp
  (go_at_call 72; refine (p_up (h.high.ext E1_6) (h6.ext E1_6) (by omega) (by omega)).mono ?_; rintro e we ⟨zB, hf2, sc, Ac, nc, cc, rfl, g3, hx2⟩; have HF2 := Lib.hid hf2; have HZ2 := Lib.hid (hf2.nonneg HP.out.2.1 HP.out.2.2); clear hf2; have E2_6 := Ext.trans E1_6 hx2)
  refine hK.out _ _ E2_6 ?_
  clear hK K
  try simp only [Act.put]
  try simp only [List.setIfInBounds_toArray]
  try simp only [List.set_cons_succ]
  try simp only [List.set_cons_zero]
  refine wpL.call (i := 9) rfl (by kernel_rfl) (fun K hK => ?_)
  go_simp
  (go_at_call 71; refine (p_rootUp g3 (by omega) HZ2.out).mono ?_; rintro e wf ⟨rB, hr0, hr1, hr2, sd, Ad, nd, cd, rfl, g4, hx3⟩; have HR2 := Lib.hid (IsRh.of HF2.out hr0 hr1 hr2); clear hr0 hr1 hr2 g3 HF2 HZ2; have E3_6 := Ext.trans E2_6 hx3)
  refine hK.out _ _ E3_6 ?_
  clear hK K
  try simp only [Act.put]
  try simp only [List.setIfInBounds_toArray]
  try simp only [List.set_cons_succ]
  try simp only [List.set_cons_zero]
  refine wpL.call (i := 11) rfl (by kernel_rfl) (fun K hK => ?_)
  go_simp
  (go_at_call 67; refine (p_power2 Hk.out).mono ?_; rintro e wg ⟨se, Ae, ne, ce, rfl, g5, hx4⟩; have E4_6 := Ext.trans E3_6 hx4)
  refine hK.out _ _ E4_6 ?_
  clear hK K
  try simp only [Act.put]
  try simp only [List.setIfInBounds_toArray]
  try simp only [List.set_cons_succ]
  try simp only [List.set_cons_zero]
  refine wpL.call (i := 12) rfl (by kernel_rfl) (fun K hK => ?_)
  go_simp
  (go_at_call 68; refine (p_between ((g2.ext (hx2.trans (hx3.trans hx4))).le (by omega)) (g4.ext hx4) g5 (by omega) (by omega) HU.out (hT.ext (ext.trans E4_6))).mono ?_; rintro e wh ⟨s1, A1, n1, c1, t1, B1, m1, d1, s2, A2, n2, c2, t2, B2, m2, d2, rfl, g7, hx5⟩; have E5_6 := Ext.trans E4_6 hx5)
  refine hK.out _ _ E5_6 ?_
  clear hK K
  try simp only [Act.put]
  try simp only [List.setIfInBounds_toArray]
  try simp only [List.set_cons_succ]
  try simp only [List.set_cons_zero]
  have z0 := (bz.ext E5_6).cell 0 _ rfl
  have f0 := (bz.ext E5_6).frozen 0
  have z1 := (bz.ext E5_6).cell 1 _ rfl
  have f1 := (bz.ext E5_6).frozen 1
  have z2 := (bz.ext E5_6).cell 2 _ rfl
  have f2 := (bz.ext E5_6).frozen 2
  have z3 := (bz.ext E5_6).cell 3 _ rfl
  have f3 := (bz.ext E5_6).frozen 3
  have z4 := (bz.ext E5_6).cell 4 _ rfl
  have f4 := (bz.ext E5_6).frozen 4
  have z5 := (bz.ext E5_6).cell 5 _ rfl
  have f5 := (bz.ext E5_6).frozen 5
  have z6 := (bz.ext E5_6).cell 6 _ rfl
  have f6 := (bz.ext E5_6).frozen 6
  have z7 := (bz.ext E5_6).cell 7 _ rfl
  have f7 := (bz.ext E5_6).frozen 7
  refine wpL.tail (i := 13) rfl (by kernel_rfl) (by kernel_rfl) (fun K hK => ?_)
  go_simp
  refine hK.out _ _ ?_
  clear hK K
  try simp only [Act.put]
  try simp only [List.setIfInBounds_toArray]
  try simp only [List.set_cons_succ]
  try simp only [List.set_cons_zero]
  refine wpL.tail (i := 14) rfl (by kernel_rfl) (by kernel_rfl) (fun K hK => ?_)
  go_simp
  refine hK.out _ _ ?_
  clear hK K
  try simp only [Act.put]
  try simp only [List.setIfInBounds_toArray]
  try simp only [List.set_cons_succ]
  try simp only [List.set_cons_zero]
  refine wpL.done (by kernel_rfl) ?_ _
  clear hQ
  go_wp2_with fail
  obtain ⟨b1, b2, b3, b4⟩ := fin_oct (v0 := (.bool s1)) (v1 := (.slice A1 n1 c1)) (v2 := (.bool t1)) (v3 := (.slice B1 m1 d1)) (v4 := (.bool s2)) (v5 := (.slice A2 n2 c2)) (v6 := (.bool t2)) (v7 := (.slice B2 m2 d2)) (bz.ext E5_6)
  have r0 := b1.cell 0 (.bool s1) rfl
  have r1 := b1.cell 1 (.slice A1 n1 c1) rfl
  have r2 := b1.cell 2 (.bool t1) rfl
  have r3 := b1.cell 3 (.slice B1 m1 d1) rfl
  have r4 := b1.cell 4 (.bool s2) rfl
  have r5 := b1.cell 5 (.slice A2 n2 c2) rfl
  have r6 := b1.cell 6 (.bool t2) rfl
  have r7 := b1.cell 7 (.slice B2 m2 d2) rfl
  unfold set8 at r0 r1 r2 r3 r4 r5 r6 r7
  refine bodyPost_ret (v := .tuple #[.agg #[.bool s1, .slice A1 n1 c1, .bool t1, .slice B1 m1 d1, .bool s2, .slice A2 n2 c2, .bool t2, .slice B2 m2 d2], .int .i64 0]) (by simp [results, Tryz.results29, go_sem, r0, r1, r2, r3, r4, r5, r6, r7]) rfl ⟨rA, rB, HR1.out, HR2.out, s1, A1, n1, c1, t1, B1, m1, d1, s2, A2, n2, c2, t2, B2, m2, d2, rfl, ⟨⟨?_, ?_⟩, ⟨?_, ?_⟩⟩, b3 _ (ext.trans E5_6) (by omega)⟩
  · exact b2 _ _ _ _ _ _ g7.low.num
  · exact b2 _ _ _ _ _ _ g7.low.den
  · exact b2 _ _ _ _ _ _ g7.high.num
  · exact b2 _ _ _ _ _ _ g7.high.den
end
end Go.Proofs.YtoabhnofppledaaGreatDoor
namespace Go.Proofs.YtoabhnofppledaaGreatDoor
open Go.RowKit
attribute [local go_sem ↓] Go.wp_at_zero Go.wp_at_succ
theorem hull_yy {lo hi x : Rat} {qs : List Rat} (h : IsHull lo hi qs) (h1 : x < lo) (h2 : hi < x) : IsHull x x (qs ++ [x]) := by
  have := h.snoc (x := x); rwa [if_pos h1, if_pos h2] at this
theorem hull_yn {lo hi x : Rat} {qs : List Rat} (h : IsHull lo hi qs) (h1 : x < lo) (h2 : ¬ hi < x) : IsHull x hi (qs ++ [x]) := by
  have := h.snoc (x := x); rwa [if_pos h1, if_neg h2] at this
theorem hull_ny {lo hi x : Rat} {qs : List Rat} (h : IsHull lo hi qs) (h1 : ¬ x < lo) (h2 : hi < x) : IsHull lo x (qs ++ [x]) := by
  have := h.snoc (x := x); rwa [if_neg h1, if_pos h2] at this
theorem hull_nn {lo hi x : Rat} {qs : List Rat} (h : IsHull lo hi qs) (h1 : ¬ x < lo) (h2 : ¬ hi < x) : IsHull lo hi (qs ++ [x]) := by
  have := h.snoc (x := x); rwa [if_neg h1, if_neg h2] at this
/-- the least interval that contains some numbers. -/
def RetHull (qs : List Rat) (L : Nat) (w : World) (e : Ending) (w' : World) : Prop := ∃ lo hi, IsHull lo hi qs ∧ RetIV lo hi L w e w'
section
variable {w w' : World} {q p lo hi : Rat} {L M : Nat} {s t s' t' : Bool} {A B A' B' : Option Addr} {n c m d n' c' m' d' : Nat} {qs : List Rat}
set_option maxHeartbeats 16000000 in
set_option maxRecDepth 100000 in
theorem p_enclose {b : Nat} (hqs : RatsAt w b 0 qs L) (hn : qs.length = n) (hp : 0 < n) (hL : L ≤ 60) (hn9 : n ≤ 1000) : Calls Tryz.prog 82 #[.slice (some ⟨b, 0, none⟩) n c] w (RetHull qs L w) := by
  have Hn := Lib.hid hn
  clear hn
  go_enter Tryz.func82, Tryz.ntmps82
  go_upto_region 1 with (fail)
  obtain ⟨W0, hW, extW, bz, hz⟩ := box1 w 28 #[Value.bool false, Value.slice none 0 0, Value.bool false, Value.slice none 0 0, Value.bool false, Value.slice none 0 0, Value.bool false, Value.slice none 0 0]
  rw [← hW]
  clear hW
  go_upto_region 2 with (fail)
  obtain ⟨W, hW, extW2, b3, b4, hz2⟩ := box2 W0 26 26 #[Value.bool false, Value.slice none 0 0, Value.bool false, Value.slice none 0 0] #[Value.bool false, Value.slice none 0 0, Value.bool false, Value.slice none 0 0]
  rw [← hW]
  clear hW
  have hg3 : w.heap.size < W0.heap.size := by omega
  obtain ⟨g3, hg3e⟩ : ∃ g, W0.heap.size = g := ⟨_, rfl⟩
  obtain ⟨g4, hg4e⟩ : ∃ g, g3 + 1 = g := ⟨_, rfl⟩
  rw [hg3e] at b3 b4 hz2 hg3 ⊢
  rw [hg4e] at b4 ⊢
  have hg4 : g3 < g4 := by omega
  replace bz := bz.ext extW2
  replace extW := extW.trans extW2
  have hgW : g4 < W.heap.size := b4.lt
  clear extW2 hz hz2 hg3e hg4e
  go_wp2_with fail
  go_loopw [9] (fun i wr => ∃ (k : Nat) (s3 : Bool) (A3 : Option Addr) (n3 c3 : Nat) (t3 : Bool) (B3 : Option Addr) (m3 d3 : Nat) (s4 : Bool) (A4 : Option Addr) (n4 c4 : Nat) (t4 : Bool) (B4 : Option Addr) (m4 d4 : Nat), k ≤ n ∧ i = .int .i64 (k : Int) ∧ Ext w wr ∧ Box wr w.heap.size 28 #[Value.bool false, Value.slice none 0 0, Value.bool false, Value.slice none 0 0, Value.bool false, Value.slice none 0 0, Value.bool false, Value.slice none 0 0] ∧ Box wr g3 26 #[.bool s3, .slice A3 n3 c3, .bool t3, .slice B3 m3 d3] ∧ Box wr g4 26 #[.bool s4, .slice A4 n4 c4, .bool t4, .slice B4 m4 d4] ∧ ((k = 0) ∨ ∃ lo hi, IsHull lo hi (qs.take k) ∧ NR wr lo L s3 A3 n3 c3 t3 B3 m3 d3 ∧ NR wr hi L s4 A4 n4 c4 t4 B4 m4 d4)) (fun i _ => n - (intOf i).toNat)
  case atStart => exact ⟨0, false, none, 0, 0, false, none, 0, 0, false, none, 0, 0, false, none, 0, 0, Nat.zero_le _, rfl, extW, bz, b3, b4, .inl rfl⟩
  case round =>
    clear extW bz b3 b4
    obtain ⟨k, s3, A3, n3, c3, t3, B3, m3, d3, s4, A4, n4, c4, t4, B4, m4, d4, hk, rfl, ext6, bz, b3, b4, hst⟩ := hrel
    by_cases hlt : k < n
    · have hkq : k < qs.length := by rw [Hn.out]; exact hlt
      obtain ⟨sx, Ax, nx, cx, tx, Bx, mx, dx, e0, e1, e2, e3, hx⟩ := (hqs.ext ext6).at_ k hkq
      have HT := Lib.hid (show qs.take (k + 1) = qs.take k ++ [qs[k]] from List.take_succ_eq_append_getElem hkq)
      generalize qs[k] = x at hx HT
      rw [Nat.zero_add] at e0 e1 e2 e3
      have e0' : wr.cell? ⟨b, k * 4, none⟩ = some (.bool sx) := by rw [Nat.mul_comm]; exact e0
      have e1' : wr.cell? ⟨b, k * 4 + 1, none⟩ = some (.slice Ax nx cx) := by rw [Nat.mul_comm]; exact e1
      have e2' : wr.cell? ⟨b, k * 4 + 2, none⟩ = some (.bool tx) := by rw [Nat.mul_comm]; exact e2
      have e3' : wr.cell? ⟨b, k * 4 + 3, none⟩ = some (.slice Bx mx dx) := by rw [Nat.mul_comm]; exact e3
      have HSt := Lib.hid hst
      clear hst
      go_upto_region 5 with (fail)
      obtain ⟨W6, hW6, ext67, b6, hz6⟩ := box1 wr 26 #[.bool sx, .slice Ax nx cx, .bool tx, .slice Bx mx dx]
      rw [← hW6]
      clear hW6
      have hg6 : g4 < wr.heap.size := b4.lt
      obtain ⟨g6, hg6e⟩ : ∃ g, wr.heap.size = g := ⟨_, rfl⟩
      rw [hg6e] at b6 hg6 hz6 ⊢
      clear hg6e hz6
      replace bz := bz.ext ext67
      replace b3 := b3.ext ext67
      replace b4 := b4.ext ext67
      replace hx := hx.ext ext67
      replace ext6 := ext6.trans ext67
      clear e0 e1 e2 e3 e0' e1' e2' e3'
      rcases Nat.eq_zero_or_pos k with hk0 | hk1
      · subst hk0
        clear HSt ext67
        have x0 := b6.cell 0 (.bool sx) rfl
        have x1 := b6.cell 1 (.slice Ax nx cx) rfl
        have x2 := b6.cell 2 (.bool tx) rfl
        have x3 := b6.cell 3 (.slice Bx mx dx) rfl
        have y0 := b3.cell 0 _ rfl
        have y1 := b3.cell 1 _ rfl
        have y2 := b3.cell 2 _ rfl
        have y3 := b3.cell 3 _ rfl
        have f0 := b3.frozen 0
        have f1 := b3.frozen 1
        have f2 := b3.frozen 2
        have f3 := b3.frozen 3
        go_upto_region 7 with (fail)
        refine at_world (fun Y3 => Ext w Y3 ∧ Box Y3 w.heap.size 28 #[Value.bool false, Value.slice none 0 0, Value.bool false, Value.slice none 0 0, Value.bool false, Value.slice none 0 0, Value.bool false, Value.slice none 0 0] ∧ Box Y3 g3 26 #[.bool sx, .slice Ax nx cx, .bool tx, .slice Bx mx dx] ∧ Box Y3 g4 26 #[.bool s4, .slice A4 n4 c4, .bool t4, .slice B4 m4 d4] ∧ Box Y3 g6 26 #[.bool sx, .slice Ax nx cx, .bool tx, .slice Bx mx dx] ∧ NR Y3 x L sx Ax nx cx tx Bx mx dx) ?_ ?_
        · have q1 := fin_quad (s := sx) (A := Ax) (n := nx) (c := cx) (t := tx) (B := Bx) (m := mx) (d := dx) b3
          exact ⟨q1.2.2.1 _ ext6 (by omega), q1.2.2.2 _ _ _ (by omega) bz, q1.1, q1.2.2.2 _ _ _ (by omega) b4, q1.2.2.2 _ _ _ (by omega) b6, ⟨q1.2.1 _ _ _ _ _ _ hx.num, q1.2.1 _ _ _ _ _ _ hx.den⟩⟩
        clear ext6 bz b3 b4 b6 hx y0 y1 y2 y3 f0 f1 f2 f3 x0 x1 x2 x3
        rintro Y3 ⟨ext6, bz, b3, b4, b6, hx⟩
        have hlo := hx
        have x0 := b6.cell 0 (.bool sx) rfl
        have x1 := b6.cell 1 (.slice Ax nx cx) rfl
        have x2 := b6.cell 2 (.bool tx) rfl
        have x3 := b6.cell 3 (.slice Bx mx dx) rfl
        have y0 := b4.cell 0 _ rfl
        have y1 := b4.cell 1 _ rfl
        have y2 := b4.cell 2 _ rfl
        have y3 := b4.cell 3 _ rfl
        have f0 := b4.frozen 0
        have f1 := b4.frozen 1
        have f2 := b4.frozen 2
        have f3 := b4.frozen 3
        go_upto_region 9 with (fail)
        refine at_world (fun Y4 => Ext w Y4 ∧ Box Y4 w.heap.size 28 #[Value.bool false, Value.slice none 0 0, Value.bool false, Value.slice none 0 0, Value.bool false, Value.slice none 0 0, Value.bool false, Value.slice none 0 0] ∧ Box Y4 g4 26 #[.bool sx, .slice Ax nx cx, .bool tx, .slice Bx mx dx] ∧ Box Y4 g3 26 #[.bool sx, .slice Ax nx cx, .bool tx, .slice Bx mx dx] ∧ Box Y4 g6 26 #[.bool sx, .slice Ax nx cx, .bool tx, .slice Bx mx dx] ∧ NR Y4 x L sx Ax nx cx tx Bx mx dx ∧ NR Y4 x L sx Ax nx cx tx Bx mx dx) ?_ ?_
        · have q1 := fin_quad (s := sx) (A := Ax) (n := nx) (c := cx) (t := tx) (B := Bx) (m := mx) (d := dx) b4
          exact ⟨q1.2.2.1 _ ext6 (by omega), q1.2.2.2 _ _ _ (by omega) bz, q1.1, q1.2.2.2 _ _ _ (by omega) b3, q1.2.2.2 _ _ _ (by omega) b6, ⟨q1.2.1 _ _ _ _ _ _ hx.num, q1.2.1 _ _ _ _ _ _ hx.den⟩, ⟨q1.2.1 _ _ _ _ _ _ hlo.num, q1.2.1 _ _ _ _ _ _ hlo.den⟩⟩
        clear ext6 bz b3 b4 b6 hx hlo y0 y1 y2 y3 f0 f1 f2 f3 x0 x1 x2 x3
        rintro Y4 ⟨ext6, bz, b4, b3, b6, hx, hlo⟩
        have hhi := hx
        go_wp2_with fail
        go_roundw
        case rel => exact ⟨0 + 1, sx, Ax, nx, cx, tx, Bx, mx, dx, sx, Ax, nx, cx, tx, Bx, mx, dx, by omega, by go_num, ext6, bz, b3, b4, .inr ⟨x, x, by rw [HT.out]; exact IsHull.one x, hlo, hhi⟩⟩
        case measure => simp [intOf]; omega
      · rcases HSt.out with h0 | ⟨lo, hi, hu, hlo, hhi⟩
        · omega
        clear HSt
        have HU := Lib.hid hu
        clear hu
        replace hlo := hlo.ext ext67
        replace hhi := hhi.ext ext67
        clear ext67
        have dk1 : decide ((k : Int) = 0) = false := decide_eq_false (by omega)
        have dk2 : decide (k = 0) = false := decide_eq_false (by omega)
        have dk3 : ((k : Int) == 0) = false := by simpa using (by omega : ¬ (k : Int) = 0)
        have x0 := b6.cell 0 (.bool sx) rfl
        have x1 := b6.cell 1 (.slice Ax nx cx) rfl
        have x2 := b6.cell 2 (.bool tx) rfl
        have x3 := b6.cell 3 (.slice Bx mx dx) rfl
        have y0 := b3.cell 0 (.bool s3) rfl
        have y1 := b3.cell 1 (.slice A3 n3 c3) rfl
        have y2 := b3.cell 2 (.bool t3) rfl
        have y3 := b3.cell 3 (.slice B3 m3 d3) rfl
        go_wp2_with fail
        refine (p_CmpR hx hlo (by omega) (by omega) (by omega)).mono ?_
        rintro e V6 ⟨rfl, hxc⟩
        clear x0 x1 x2 x3 y0 y1 y2 y3
        replace bz := bz.ext hxc
        replace b3 := b3.ext hxc
        replace b4 := b4.ext hxc
        replace b6 := b6.ext hxc
        replace hx := hx.ext hxc
        replace hlo := hlo.ext hxc
        replace hhi := hhi.ext hxc
        replace ext6 := ext6.trans hxc
        clear hxc
        by_cases h3 : x < lo
        · have d3 : decide (ratCmp x lo < 0) = true := decide_eq_true (ratCmp_lt.2 h3)
          have H3 := Lib.hid h3
          clear h3
          have x0 := b6.cell 0 (.bool sx) rfl
          have x1 := b6.cell 1 (.slice Ax nx cx) rfl
          have x2 := b6.cell 2 (.bool tx) rfl
          have x3 := b6.cell 3 (.slice Bx mx dx) rfl
          have y0 := b3.cell 0 _ rfl
          have y1 := b3.cell 1 _ rfl
          have y2 := b3.cell 2 _ rfl
          have y3 := b3.cell 3 _ rfl
          have f0 := b3.frozen 0
          have f1 := b3.frozen 1
          have f2 := b3.frozen 2
          have f3 := b3.frozen 3
          go_upto_region 7 with (fail)
          refine at_world (fun Y3 => Ext w Y3 ∧ Box Y3 w.heap.size 28 #[Value.bool false, Value.slice none 0 0, Value.bool false, Value.slice none 0 0, Value.bool false, Value.slice none 0 0, Value.bool false, Value.slice none 0 0] ∧ Box Y3 g3 26 #[.bool sx, .slice Ax nx cx, .bool tx, .slice Bx mx dx] ∧ Box Y3 g4 26 #[.bool s4, .slice A4 n4 c4, .bool t4, .slice B4 m4 d4] ∧ Box Y3 g6 26 #[.bool sx, .slice Ax nx cx, .bool tx, .slice Bx mx dx] ∧ NR Y3 x L sx Ax nx cx tx Bx mx dx ∧ NR Y3 hi L s4 A4 n4 c4 t4 B4 m4 d4) ?_ ?_
          · have q1 := fin_quad (s := sx) (A := Ax) (n := nx) (c := cx) (t := tx) (B := Bx) (m := mx) (d := dx) b3
            exact ⟨q1.2.2.1 _ ext6 (by omega), q1.2.2.2 _ _ _ (by omega) bz, q1.1, q1.2.2.2 _ _ _ (by omega) b4, q1.2.2.2 _ _ _ (by omega) b6, ⟨q1.2.1 _ _ _ _ _ _ hx.num, q1.2.1 _ _ _ _ _ _ hx.den⟩, ⟨q1.2.1 _ _ _ _ _ _ hhi.num, q1.2.1 _ _ _ _ _ _ hhi.den⟩⟩
          clear ext6 bz b3 b4 b6 hx hhi y0 y1 y2 y3 f0 f1 f2 f3 x0 x1 x2 x3
          rintro Y3 ⟨ext6, bz, b3, b4, b6, hx, hhi⟩
          have hlo := hx
          clear d3
          have x0 := b6.cell 0 (.bool sx) rfl
          have x1 := b6.cell 1 (.slice Ax nx cx) rfl
          have x2 := b6.cell 2 (.bool tx) rfl
          have x3 := b6.cell 3 (.slice Bx mx dx) rfl
          have y0 := b4.cell 0 (.bool s4) rfl
          have y1 := b4.cell 1 (.slice A4 n4 c4) rfl
          have y2 := b4.cell 2 (.bool t4) rfl
          have y3 := b4.cell 3 (.slice B4 m4 d4) rfl
          go_wp2_with fail
          refine (p_CmpR hx hhi (by omega) (by omega) (by omega)).mono ?_
          rintro e V7b ⟨rfl, hxc⟩
          clear x0 x1 x2 x3 y0 y1 y2 y3
          replace bz := bz.ext hxc
          replace b3 := b3.ext hxc
          replace b4 := b4.ext hxc
          replace b6 := b6.ext hxc
          replace hx := hx.ext hxc
          replace hlo := hlo.ext hxc
          replace hhi := hhi.ext hxc
          replace ext6 := ext6.trans hxc
          clear hxc
          by_cases h4 : hi < x
          · have d4 : decide (0 < ratCmp x hi) = true := decide_eq_true (ratCmp_gt.2 h4)
            have H4 := Lib.hid h4
            clear h4
            have x0 := b6.cell 0 (.bool sx) rfl
            have x1 := b6.cell 1 (.slice Ax nx cx) rfl
            have x2 := b6.cell 2 (.bool tx) rfl
            have x3 := b6.cell 3 (.slice Bx mx dx) rfl
            have y0 := b4.cell 0 _ rfl
            have y1 := b4.cell 1 _ rfl
            have y2 := b4.cell 2 _ rfl
            have y3 := b4.cell 3 _ rfl
            have f0 := b4.frozen 0
            have f1 := b4.frozen 1
            have f2 := b4.frozen 2
            have f3 := b4.frozen 3
            go_upto_region 9 with (fail)
            refine at_world (fun Y4b => Ext w Y4b ∧ Box Y4b w.heap.size 28 #[Value.bool false, Value.slice none 0 0, Value.bool false, Value.slice none 0 0, Value.bool false, Value.slice none 0 0, Value.bool false, Value.slice none 0 0] ∧ Box Y4b g4 26 #[.bool sx, .slice Ax nx cx, .bool tx, .slice Bx mx dx] ∧ Box Y4b g3 26 #[.bool sx, .slice Ax nx cx, .bool tx, .slice Bx mx dx] ∧ Box Y4b g6 26 #[.bool sx, .slice Ax nx cx, .bool tx, .slice Bx mx dx] ∧ NR Y4b x L sx Ax nx cx tx Bx mx dx ∧ NR Y4b x L sx Ax nx cx tx Bx mx dx) ?_ ?_
            · have q1 := fin_quad (s := sx) (A := Ax) (n := nx) (c := cx) (t := tx) (B := Bx) (m := mx) (d := dx) b4
              exact ⟨q1.2.2.1 _ ext6 (by omega), q1.2.2.2 _ _ _ (by omega) bz, q1.1, q1.2.2.2 _ _ _ (by omega) b3, q1.2.2.2 _ _ _ (by omega) b6, ⟨q1.2.1 _ _ _ _ _ _ hx.num, q1.2.1 _ _ _ _ _ _ hx.den⟩, ⟨q1.2.1 _ _ _ _ _ _ hlo.num, q1.2.1 _ _ _ _ _ _ hlo.den⟩⟩
            clear ext6 bz b3 b4 b6 hx hlo y0 y1 y2 y3 f0 f1 f2 f3 x0 x1 x2 x3
            rintro Y4b ⟨ext6, bz, b4, b3, b6, hx, hlo⟩
            have hhi := hx
            clear d4
            go_wp2_with fail
            go_roundw
            case rel => exact ⟨k + 1, sx, Ax, nx, cx, tx, Bx, mx, dx, sx, Ax, nx, cx, tx, Bx, mx, dx, by omega, by go_num, ext6, bz, b3, b4, .inr ⟨x, x, by rw [HT.out]; exact hull_yy HU.out H3.out H4.out, hlo, hhi⟩⟩
            case measure => simp [intOf]; omega
          · have d4 : decide (0 < ratCmp x hi) = false := decide_eq_false (fun h => h4 (ratCmp_gt.1 h))
            have H4 := Lib.hid h4
            clear h4
            go_upto_region 9 with (fail)
            clear d4
            go_wp2_with fail
            go_roundw
            case rel => exact ⟨k + 1, sx, Ax, nx, cx, tx, Bx, mx, dx, s4, A4, n4, c4, t4, B4, m4, d4, by omega, by go_num, ext6, bz, b3, b4, .inr ⟨x, hi, by rw [HT.out]; exact hull_yn HU.out H3.out H4.out, hlo, hhi⟩⟩
            case measure => simp [intOf]; omega
        · have d3 : decide (ratCmp x lo < 0) = false := decide_eq_false (fun h => h3 (ratCmp_lt.1 h))
          have H3 := Lib.hid h3
          clear h3
          go_upto_region 7 with (fail)
          clear d3
          have x0 := b6.cell 0 (.bool sx) rfl
          have x1 := b6.cell 1 (.slice Ax nx cx) rfl
          have x2 := b6.cell 2 (.bool tx) rfl
          have x3 := b6.cell 3 (.slice Bx mx dx) rfl
          have y0 := b4.cell 0 (.bool s4) rfl
          have y1 := b4.cell 1 (.slice A4 n4 c4) rfl
          have y2 := b4.cell 2 (.bool t4) rfl
          have y3 := b4.cell 3 (.slice B4 m4 d4) rfl
          go_wp2_with fail
          refine (p_CmpR hx hhi (by omega) (by omega) (by omega)).mono ?_
          rintro e V7n ⟨rfl, hxc⟩
          clear x0 x1 x2 x3 y0 y1 y2 y3
          replace bz := bz.ext hxc
          replace b3 := b3.ext hxc
          replace b4 := b4.ext hxc
          replace b6 := b6.ext hxc
          replace hx := hx.ext hxc
          replace hlo := hlo.ext hxc
          replace hhi := hhi.ext hxc
          replace ext6 := ext6.trans hxc
          clear hxc
          by_cases h4 : hi < x
          · have d4 : decide (0 < ratCmp x hi) = true := decide_eq_true (ratCmp_gt.2 h4)
            have H4 := Lib.hid h4
            clear h4
            have x0 := b6.cell 0 (.bool sx) rfl
            have x1 := b6.cell 1 (.slice Ax nx cx) rfl
            have x2 := b6.cell 2 (.bool tx) rfl
            have x3 := b6.cell 3 (.slice Bx mx dx) rfl
            have y0 := b4.cell 0 _ rfl
            have y1 := b4.cell 1 _ rfl
            have y2 := b4.cell 2 _ rfl
            have y3 := b4.cell 3 _ rfl
            have f0 := b4.frozen 0
            have f1 := b4.frozen 1
            have f2 := b4.frozen 2
            have f3 := b4.frozen 3
            go_upto_region 9 with (fail)
            refine at_world (fun Y4n => Ext w Y4n ∧ Box Y4n w.heap.size 28 #[Value.bool false, Value.slice none 0 0, Value.bool false, Value.slice none 0 0, Value.bool false, Value.slice none 0 0, Value.bool false, Value.slice none 0 0] ∧ Box Y4n g4 26 #[.bool sx, .slice Ax nx cx, .bool tx, .slice Bx mx dx] ∧ Box Y4n g3 26 #[.bool s3, .slice A3 n3 c3, .bool t3, .slice B3 m3 d3] ∧ Box Y4n g6 26 #[.bool sx, .slice Ax nx cx, .bool tx, .slice Bx mx dx] ∧ NR Y4n x L sx Ax nx cx tx Bx mx dx ∧ NR Y4n lo L s3 A3 n3 c3 t3 B3 m3 d3) ?_ ?_
            · have q1 := fin_quad (s := sx) (A := Ax) (n := nx) (c := cx) (t := tx) (B := Bx) (m := mx) (d := dx) b4
              exact ⟨q1.2.2.1 _ ext6 (by omega), q1.2.2.2 _ _ _ (by omega) bz, q1.1, q1.2.2.2 _ _ _ (by omega) b3, q1.2.2.2 _ _ _ (by omega) b6, ⟨q1.2.1 _ _ _ _ _ _ hx.num, q1.2.1 _ _ _ _ _ _ hx.den⟩, ⟨q1.2.1 _ _ _ _ _ _ hlo.num, q1.2.1 _ _ _ _ _ _ hlo.den⟩⟩
            clear ext6 bz b3 b4 b6 hx hlo y0 y1 y2 y3 f0 f1 f2 f3 x0 x1 x2 x3
            rintro Y4n ⟨ext6, bz, b4, b3, b6, hx, hlo⟩
            have hhi := hx
            clear d4
            go_wp2_with fail
            go_roundw
            case rel => exact ⟨k + 1, s3, A3, n3, c3, t3, B3, m3, d3, sx, Ax, nx, cx, tx, Bx, mx, dx, by omega, by go_num, ext6, bz, b3, b4, .inr ⟨lo, x, by rw [HT.out]; exact hull_ny HU.out H3.out H4.out, hlo, hhi⟩⟩
            case measure => simp [intOf]; omega
          · have d4 : decide (0 < ratCmp x hi) = false := decide_eq_false (fun h => h4 (ratCmp_gt.1 h))
            have H4 := Lib.hid h4
            clear h4
            go_upto_region 9 with (fail)
            clear d4
            go_wp2_with fail
            go_roundw
            case rel => exact ⟨k + 1, s3, A3, n3, c3, t3, B3, m3, d3, s4, A4, n4, c4, t4, B4, m4, d4, by omega, by go_num, ext6, bz, b3, b4, .inr ⟨lo, hi, by rw [HT.out]; exact hull_nn HU.out H3.out H4.out, hlo, hhi⟩⟩
            case measure => simp [intOf]; omega
    · have hkn : k = n := by omega
      rcases hst with h0 | ⟨lo, hi, hu, hlo, hhi⟩
      · omega
      rw [hkn, List.take_of_length_le (Nat.le_of_eq Hn.out)] at hu
      have HU := Lib.hid hu
      clear hu
      go_upto_region 10 with (fail)
      refine wpL.start 5 (by kernel_rfl) (fun _ _ _ _ _ => ⟨fun h => h, fun h => h⟩) (fun hQ ES => ?_)
      refine wpL.take (i := 0) (d := some 33) (v := ?v0_34) rfl rfl (by kernel_rfl) (by kernel_rfl) (by kernel_rfl) (by kernel_rfl) hQ (Or.inl ⟨by rfl, ?y0_34⟩) ES ?r0_34
      case y0_34 =>
        intro w' hSw
        have k00 := (b3.ext hSw).c4
        have k10 := (b4.ext hSw).c4
        go_simp
        try with_reducible rfl
      try simp only [Act.put]
      try simp only [List.setIfInBounds_toArray]
      try simp only [List.set_cons_succ]
      try simp only [List.set_cons_zero]
      refine wpL.take (i := 2) (d := some 35) (v := ?v2_35) rfl rfl (by kernel_rfl) (by kernel_rfl) (by kernel_rfl) (by kernel_rfl) hQ (Or.inl ⟨by rfl, ?y2_35⟩) ES ?r2_35
      case y2_35 =>
        intro w' hSw
        have k00 := (b3.ext hSw).c4
        have k10 := (b4.ext hSw).c4
        go_simp
        try with_reducible rfl
      try simp only [Act.put]
      try simp only [List.setIfInBounds_toArray]
      try simp only [List.set_cons_succ]
      try simp only [List.set_cons_zero]
      refine wpL.call (i := 1) rfl (by kernel_rfl) (fun K hK => ?_)
      go_simp
      (go_at_call 122; refine (p_clone (hlo.ext ES) (by omega)).mono ?_; rintro e wa ⟨s5, A5, n5, c5, t5, B5, m5, d5, rfl, h5, hx0⟩; have E0_10 := Ext.trans ES hx0)
      refine hK.out _ _ E0_10 ?_
      clear hK K
      try simp only [Act.put]
      try simp only [List.setIfInBounds_toArray]
      try simp only [List.set_cons_succ]
      try simp only [List.set_cons_zero]
      refine wpL.call (i := 3) rfl (by kernel_rfl) (fun K hK => ?_)
      go_simp
      (go_at_call 122; refine (p_clone (hhi.ext E0_10) (by omega)).mono ?_; rintro e wb ⟨s6, A6, n6, c6, t6, B6, m6, d6, rfl, h6, hx1⟩; replace h5 := h5.ext hx1; have E1_10 := Ext.trans E0_10 hx1)
      refine hK.out _ _ E1_10 ?_
      clear hK K
      try simp only [Act.put]
      try simp only [List.setIfInBounds_toArray]
      try simp only [List.set_cons_succ]
      try simp only [List.set_cons_zero]
      refine wpL.take (i := 4) (d := some 37) (v := ?v4_36) rfl rfl (by kernel_rfl) (by kernel_rfl) (by kernel_rfl) (by kernel_rfl) hQ (Or.inl ⟨by rfl, ?y4_36⟩) E1_10 ?r4_36
      case y4_36 =>
        intro w' hSw
        have k00 := (b3.ext hSw).c4
        have k10 := (b4.ext hSw).c4
        go_simp
        try with_reducible rfl
      try simp only [Act.put]
      try simp only [List.setIfInBounds_toArray]
      try simp only [List.set_cons_succ]
      try simp only [List.set_cons_zero]
      have z0 := (bz.ext E1_10).cell 0 _ rfl
      have f0 := (bz.ext E1_10).frozen 0
      have z1 := (bz.ext E1_10).cell 1 _ rfl
      have f1 := (bz.ext E1_10).frozen 1
      have z2 := (bz.ext E1_10).cell 2 _ rfl
      have f2 := (bz.ext E1_10).frozen 2
      have z3 := (bz.ext E1_10).cell 3 _ rfl
      have f3 := (bz.ext E1_10).frozen 3
      have z4 := (bz.ext E1_10).cell 4 _ rfl
      have f4 := (bz.ext E1_10).frozen 4
      have z5 := (bz.ext E1_10).cell 5 _ rfl
      have f5 := (bz.ext E1_10).frozen 5
      have z6 := (bz.ext E1_10).cell 6 _ rfl
      have f6 := (bz.ext E1_10).frozen 6
      have z7 := (bz.ext E1_10).cell 7 _ rfl
      have f7 := (bz.ext E1_10).frozen 7
      refine wpL.tail (i := 5) rfl (by kernel_rfl) (by kernel_rfl) (fun K hK => ?_)
      go_simp
      refine hK.out _ _ ?_
      clear hK K
      try simp only [Act.put]
      try simp only [List.setIfInBounds_toArray]
      try simp only [List.set_cons_succ]
      try simp only [List.set_cons_zero]
      refine wpL.done (by kernel_rfl) ?_ _
      clear hQ
      go_wp2_with fail
      obtain ⟨b1, b2, b3, b4⟩ := fin_oct (v0 := (.bool s5)) (v1 := (.slice A5 n5 c5)) (v2 := (.bool t5)) (v3 := (.slice B5 m5 d5)) (v4 := (.bool s6)) (v5 := (.slice A6 n6 c6)) (v6 := (.bool t6)) (v7 := (.slice B6 m6 d6)) (bz.ext E1_10)
      have r0 := b1.cell 0 (.bool s5) rfl
      have r1 := b1.cell 1 (.slice A5 n5 c5) rfl
      have r2 := b1.cell 2 (.bool t5) rfl
      have r3 := b1.cell 3 (.slice B5 m5 d5) rfl
      have r4 := b1.cell 4 (.bool s6) rfl
      have r5 := b1.cell 5 (.slice A6 n6 c6) rfl
      have r6 := b1.cell 6 (.bool t6) rfl
      have r7 := b1.cell 7 (.slice B6 m6 d6) rfl
      unfold set8 at r0 r1 r2 r3 r4 r5 r6 r7
      refine bodyPost_ret (v := .agg #[.bool s5, .slice A5 n5 c5, .bool t5, .slice B5 m5 d5, .bool s6, .slice A6 n6 c6, .bool t6, .slice B6 m6 d6]) (by simp [results, Tryz.results82, go_sem, r0, r1, r2, r3, r4, r5, r6, r7]) rfl ⟨lo, hi, HU.out, s5, A5, n5, c5, t5, B5, m5, d5, s6, A6, n6, c6, t6, B6, m6, d6, rfl, ⟨⟨?_, ?_⟩, ⟨?_, ?_⟩⟩, b3 _ (ext6.trans E1_10) (by omega)⟩
      · exact b2 _ _ _ _ _ _ h5.num
      · exact b2 _ _ _ _ _ _ h5.den
      · exact b2 _ _ _ _ _ _ h6.num
      · exact b2 _ _ _ _ _ _ h6.den
end
end Go.Proofs.YtoabhnofppledaaGreatDoor
namespace Go.Proofs.YtoabhnofppledaaGreatDoor
open Go.RowKit
attribute [local go_sem ↓] Go.wp_at_zero Go.wp_at_succ
/-- the ends of an interval, once each. -/
def endsOf (lo hi : Rat) : List Rat := if lo = hi then [lo] else [lo, hi]
/-- a slice of rational numbers. -/
def RetRats (qs : List Rat) (L : Nat) (w : World) (e : Ending) (w' : World) : Prop := ∃ g k cap cs, e = .returned (.slice (some ⟨g, 0, none⟩) k cap) ∧ qs.length = k ∧ Box w' g 26 cs.toArray ∧ CellsOf w' L qs cs ∧ w.heap.size ≤ g ∧ Ext w w'
section
variable {w w' : World} {q p lo hi : Rat} {L M : Nat} {s t s' t' : Bool} {A B A' B' : Option Addr} {n c m d n' c' m' d' : Nat} {qs : List Rat}
set_option maxHeartbeats 4000000 in
theorem p_ends (h : IV w lo hi L s A n c t B m d s' A' n' c' t' B' m' d') (hL : L ≤ 60) : Calls Tryz.prog 97 #[.agg #[.bool s, .slice A n c, .bool t, .slice B m d, .bool s', .slice A' n' c', .bool t', .slice B' m' d']] w (RetRats (endsOf lo hi) L w) := by
  go_enter Tryz.func97, Tryz.ntmps97
  go_upto_region 1 with (fail)
  obtain ⟨W, hW, extW, bx, hz⟩ := box1 w 28 #[.bool s, .slice A n c, .bool t, .slice B m d, .bool s', .slice A' n' c', .bool t', .slice B' m' d']
  rw [← hW]
  clear hW
  have hl := h.low.ext extW
  have hh := h.high.ext extW
  have k0 := bx.cell 0 (.bool s) rfl
  have k1 := bx.cell 1 (.slice A n c) rfl
  have k2 := bx.cell 2 (.bool t) rfl
  have k3 := bx.cell 3 (.slice B m d) rfl
  have k4 := bx.cell 4 (.bool s') rfl
  have k5 := bx.cell 5 (.slice A' n' c') rfl
  have k6 := bx.cell 6 (.bool t') rfl
  have k7 := bx.cell 7 (.slice B' m' d') rfl
  go_wp2_with fail
  refine (p_CmpR hl hh (by omega) (by omega) (by omega)).mono ?_
  rintro e V ⟨rfl, hxc⟩
  replace bx := bx.ext hxc
  replace hl := hl.ext hxc
  replace hh := hh.ext hxc
  have ext := extW.trans hxc
  clear k0 k1 k2 k3 k4 k5 k6 k7 extW hxc hz
  have k0 := bx.cell 0 (.bool s) rfl
  have k1 := bx.cell 1 (.slice A n c) rfl
  have k2 := bx.cell 2 (.bool t) rfl
  have k3 := bx.cell 3 (.slice B m d) rfl
  have k4 := bx.cell 4 (.bool s') rfl
  have k5 := bx.cell 5 (.slice A' n' c') rfl
  have k6 := bx.cell 6 (.bool t') rfl
  have k7 := bx.cell 7 (.slice B' m' d') rfl
  by_cases he : lo = hi
  · have d3 : (ratCmp lo hi == 0) = true := beq_iff_eq.2 (ratCmp_eq.2 he)
    have He := Lib.hid he
    clear he
    go_wp2_with fail
    obtain ⟨W2, hW2, ext2, b2, hz2⟩ := box1 V 26 #[.bool s, .slice A n c, .bool t, .slice B m d]
    rw [← hW2]
    clear hW2
    refine bodyPost_ret (v := .slice (some ⟨V.heap.size, 0, none⟩) 1 1) (by simp [results, Tryz.results97, go_sem]) rfl ⟨_, _, _, _, rfl, ?_, b2, ?_, ext.size, ext.trans ext2⟩
    · rw [endsOf, if_pos He.out]; rfl
    · rw [endsOf, if_pos He.out]; exact (.cons (hl.ext ext2) .nil)
  · have d3 : (ratCmp lo hi == 0) = false := by rw [beq_eq_false_iff_ne]; exact fun h => he (ratCmp_eq.1 h)
    have He := Lib.hid he
    clear he
    go_wp2_with fail
    obtain ⟨W2, hW2, ext2, b2, hz2⟩ := box1 V 26 #[.bool s, .slice A n c, .bool t, .slice B m d, .bool s', .slice A' n' c', .bool t', .slice B' m' d']
    rw [← hW2]
    clear hW2
    refine bodyPost_ret (v := .slice (some ⟨V.heap.size, 0, none⟩) 2 2) (by simp [results, Tryz.results97, go_sem]) rfl ⟨_, _, _, _, rfl, ?_, b2, ?_, ext.size, ext.trans ext2⟩
    · rw [endsOf, if_neg He.out]; rfl
    · rw [endsOf, if_neg He.out]; exact (.cons (hl.ext ext2) (.cons (hh.ext ext2) .nil))
end
end Go.Proofs.YtoabhnofppledaaGreatDoor
namespace Go.Proofs.YtoabhnofppledaaGreatDoor
open Go.RowKit
attribute [local go_sem ↓] Go.wp_at_zero Go.wp_at_succ
/-- a number belongs to an interval. -/
def inB (lo hi x : Rat) : Bool := decide (lo ≤ x) && decide (x ≤ hi)
theorem leB {q p : Rat} : decide (ratCmp q p ≤ 0) = decide (q ≤ p) := decide_eq_decide.2 ratCmp_le
section
variable {w w' : World} {q p lo hi lo' hi' x : Rat} {L M : Nat} {s t s' t' sx tx u v u' v' : Bool} {A B A' B' Ax Bx C D C' D' : Option Addr} {n c m d n' c' m' d' nx cx mx dx i j k l i' j' k' l' : Nat} {qs : List Rat}
set_option maxHeartbeats 4000000 in
theorem p_Contains (h : IV w lo hi L s A n c t B m d s' A' n' c' t' B' m' d') (hx : NR w x M sx Ax nx cx tx Bx mx dx) (hL : L ≤ 60) (hM : M ≤ 60) : Calls Tryz.prog 38 #[.agg #[.bool s, .slice A n c, .bool t, .slice B m d, .bool s', .slice A' n' c', .bool t', .slice B' m' d'], .agg #[.bool sx, .slice Ax nx cx, .bool tx, .slice Bx mx dx]] w fun e w' => e = .returned (.bool (inB lo hi x)) ∧ Ext w w' := by
  go_enter Tryz.func38, Tryz.ntmps38
  go_upto_region 1 with (fail)
  obtain ⟨W, hW, ext, bx, by_, hz⟩ := box2 w 28 26 #[.bool s, .slice A n c, .bool t, .slice B m d, .bool s', .slice A' n' c', .bool t', .slice B' m' d'] #[.bool sx, .slice Ax nx cx, .bool tx, .slice Bx mx dx]
  rw [← hW]
  clear hW hz
  have hl := h.low.ext ext
  have hh := h.high.ext ext
  replace hx := hx.ext ext
  have k0 := bx.cell 0 (.bool s) rfl
  have k1 := bx.cell 1 (.slice A n c) rfl
  have k2 := bx.cell 2 (.bool t) rfl
  have k3 := bx.cell 3 (.slice B m d) rfl
  have k4 := bx.cell 4 (.bool s') rfl
  have k5 := bx.cell 5 (.slice A' n' c') rfl
  have k6 := bx.cell 6 (.bool t') rfl
  have k7 := bx.cell 7 (.slice B' m' d') rfl
  have x0 := by_.cell 0 (.bool sx) rfl
  have x1 := by_.cell 1 (.slice Ax nx cx) rfl
  have x2 := by_.cell 2 (.bool tx) rfl
  have x3 := by_.cell 3 (.slice Bx mx dx) rfl
  go_wp2_with fail
  refine (p_CmpR hl hx (by omega) (by omega) (by omega)).mono ?_
  rintro e V ⟨rfl, hxc⟩
  replace bx := bx.ext hxc
  replace by_ := by_.ext hxc
  replace hl := hl.ext hxc
  replace hh := hh.ext hxc
  replace hx := hx.ext hxc
  replace ext := ext.trans hxc
  clear hxc
  clear k0 k1 k2 k3 k4 k5 k6 k7 x0 x1 x2 x3
  have k0 := bx.cell 0 (.bool s) rfl
  have k1 := bx.cell 1 (.slice A n c) rfl
  have k2 := bx.cell 2 (.bool t) rfl
  have k3 := bx.cell 3 (.slice B m d) rfl
  have k4 := bx.cell 4 (.bool s') rfl
  have k5 := bx.cell 5 (.slice A' n' c') rfl
  have k6 := bx.cell 6 (.bool t') rfl
  have k7 := bx.cell 7 (.slice B' m' d') rfl
  have x0 := by_.cell 0 (.bool sx) rfl
  have x1 := by_.cell 1 (.slice Ax nx cx) rfl
  have x2 := by_.cell 2 (.bool tx) rfl
  have x3 := by_.cell 3 (.slice Bx mx dx) rfl
  by_cases h1 : lo ≤ x
  · have d1 : decide (ratCmp lo x ≤ 0) = true := by rw [leB]; exact decide_eq_true h1
    have H1 := Lib.hid h1
    clear h1
    go_wp2_with fail
    refine (p_CmpR hx hh (by omega) (by omega) (by omega)).mono ?_
    rintro e V2 ⟨rfl, hxc⟩
    replace ext := ext.trans hxc
    clear hxc
    go_wp2_with fail
    go_ret
    refine ⟨?_, ext⟩
    rw [inB, decide_eq_true H1.out, Bool.true_and, leB]; rfl
  · have d1 : decide (ratCmp lo x ≤ 0) = false := by rw [leB]; exact decide_eq_false h1
    have H1 := Lib.hid h1
    clear h1
    go_wp2_with fail
    go_ret
    refine ⟨?_, ext⟩
    rw [inB, decide_eq_false H1.out, Bool.false_and]; rfl
set_option maxHeartbeats 4000000 in
theorem p_Point (h : NR w x L sx Ax nx cx tx Bx mx dx) (hL : L ≤ 60) : Calls Tryz.prog 39 #[.agg #[.bool sx, .slice Ax nx cx, .bool tx, .slice Bx mx dx]] w (RetIV x x L w) := by
  go_enter Tryz.func39, Tryz.ntmps39
  go_upto_region 1 with (fail)
  obtain ⟨W, hW, ext, bx, bz, hz⟩ := box2 w 26 28 #[.bool sx, .slice Ax nx cx, .bool tx, .slice Bx mx dx] #[Value.bool false, Value.slice none 0 0, Value.bool false, Value.slice none 0 0, Value.bool false, Value.slice none 0 0, Value.bool false, Value.slice none 0 0]
  rw [← hW]
  clear hW hz
  have hx := h.ext ext
  have x0 := bx.cell 0 (.bool sx) rfl
  have x1 := bx.cell 1 (.slice Ax nx cx) rfl
  have x2 := bx.cell 2 (.bool tx) rfl
  have x3 := bx.cell 3 (.slice Bx mx dx) rfl
  go_wp2_with fail
  obtain ⟨W2, hW2, ext2, b2, hz2⟩ := box1 W 26 #[.bool sx, .slice Ax nx cx, .bool tx, .slice Bx mx dx]
  rw [← hW2]
  clear hW2 hz2
  refine (p_enclose (n := 1) (RatsAt.of_box b2 (.cons (hx.ext ext2) .nil)) rfl (by omega) hL (by omega)).mono ?_
  rintro e V ⟨lo, hi, hu, s1, A1, n1, c1, t1, B1, m1, d1, s2, A2, n2, c2, t2, B2, m2, d2, rfl, h1, hx0⟩
  obtain rfl : x = lo := (List.mem_singleton.1 hu.1).symm
  obtain rfl : x = hi := (List.mem_singleton.1 hu.2.1).symm
  clear hu x0 x1 x2 x3
  have hx1 := ext2.trans hx0
  have z0 := (bz.ext hx1).cell 0 _ rfl
  have f0 := (bz.ext hx1).frozen 0
  have z1 := (bz.ext hx1).cell 1 _ rfl
  have f1 := (bz.ext hx1).frozen 1
  have z2 := (bz.ext hx1).cell 2 _ rfl
  have f2 := (bz.ext hx1).frozen 2
  have z3 := (bz.ext hx1).cell 3 _ rfl
  have f3 := (bz.ext hx1).frozen 3
  have z4 := (bz.ext hx1).cell 4 _ rfl
  have f4 := (bz.ext hx1).frozen 4
  have z5 := (bz.ext hx1).cell 5 _ rfl
  have f5 := (bz.ext hx1).frozen 5
  have z6 := (bz.ext hx1).cell 6 _ rfl
  have f6 := (bz.ext hx1).frozen 6
  have z7 := (bz.ext hx1).cell 7 _ rfl
  have f7 := (bz.ext hx1).frozen 7
  go_wp2_with fail
  obtain ⟨b1, b2, b3, b4⟩ := fin_oct (v0 := (.bool s1)) (v1 := (.slice A1 n1 c1)) (v2 := (.bool t1)) (v3 := (.slice B1 m1 d1)) (v4 := (.bool s2)) (v5 := (.slice A2 n2 c2)) (v6 := (.bool t2)) (v7 := (.slice B2 m2 d2)) (bz.ext hx1)
  have r0 := b1.cell 0 (.bool s1) rfl
  have r1 := b1.cell 1 (.slice A1 n1 c1) rfl
  have r2 := b1.cell 2 (.bool t1) rfl
  have r3 := b1.cell 3 (.slice B1 m1 d1) rfl
  have r4 := b1.cell 4 (.bool s2) rfl
  have r5 := b1.cell 5 (.slice A2 n2 c2) rfl
  have r6 := b1.cell 6 (.bool t2) rfl
  have r7 := b1.cell 7 (.slice B2 m2 d2) rfl
  unfold set8 at r0 r1 r2 r3 r4 r5 r6 r7
  refine bodyPost_ret (v := .agg #[.bool s1, .slice A1 n1 c1, .bool t1, .slice B1 m1 d1, .bool s2, .slice A2 n2 c2, .bool t2, .slice B2 m2 d2]) (by simp [results, Tryz.results39, go_sem, r0, r1, r2, r3, r4, r5, r6, r7]) rfl ⟨s1, A1, n1, c1, t1, B1, m1, d1, s2, A2, n2, c2, t2, B2, m2, d2, rfl, ⟨⟨?_, ?_⟩, ⟨?_, ?_⟩⟩, b3 _ (ext.trans hx1) (by omega)⟩
  · exact b2 _ _ _ _ _ _ h1.low.num
  · exact b2 _ _ _ _ _ _ h1.low.den
  · exact b2 _ _ _ _ _ _ h1.high.num
  · exact b2 _ _ _ _ _ _ h1.high.den
end
end Go.Proofs.YtoabhnofppledaaGreatDoor
