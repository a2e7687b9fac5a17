/- Walks and laws, part 9. -/
import Derived.Test.YtmjmcinnbmjpdaaDoorMg4
import Derived.Test.YtmjmcinnbmjpdaaDoorMg5
import Derived.Test.YtmjmcinnbmjpdaaDoorMg6
import Derived.Test.YtmjmcinnbmjpdaaDoorMg8
import Derived.Lib.SliceRun
import Derived.ArgAppend
import Derived.Laws.BitsAllLaws
namespace Go.Proofs.YtmjmcinnbmjpdaaDoor
open Go.RowKit
/-- both new numbers, from the factors of the first digits. -/
theorem Steps4.use {x y k : Nat} {x1 y1 x2 y2 : Int} (h : Steps4 (x / 2 ^ k) (y / 2 ^ k) x1 y1 x2 y2) (h0 : y1 ≠ 0) (hA : x / 2 ^ k < 4611686018427387904) :
    ∃ R S : Nat, x1 * (x : Int) + y1 * (y : Int) = (R : Int) ∧ x2 * (x : Int) + y2 * (y : Int) = (S : Int) ∧ S < R ∧ R + S ≤ x ∧ Nat.gcd R S = Nat.gcd x y ∧
      ((x1 ≤ 0 ∧ 0 ≤ y1) ∨ (0 ≤ x1 ∧ y1 ≤ 0)) ∧ ((x2 ≤ 0 ∧ 0 ≤ y2) ∨ (0 ≤ x2 ∧ y2 ≤ 0)) ∧
      (-2147483647 ≤ x1 ∧ x1 ≤ 2147483647 ∧ -2147483647 ≤ y1 ∧ y1 ≤ 2147483647) ∧ (-2147483647 ≤ x2 ∧ x2 ≤ 2147483647 ∧ -2147483647 ≤ y2 ∧ y2 ≤ 2147483647) := by
  rcases h with h | ⟨_, e, p, a, u0, u1, v0, v1, hs, hv0, rfl, rfl, rfl, rfl⟩
  · exact absurd h h0
  have hp : 0 < 2 ^ k := Nat.pow_pos (by omega)
  obtain ⟨R, S, hr, hlt⟩ := hs.real (Nat.mod_lt x hp) (Nat.mod_lt y hp)
  rw [Nat.div_add_mod, Nat.div_add_mod] at hr
  have hg := hs.gcd hr
  obtain ⟨bx, _⟩ := hs.back hr
  obtain ⟨f1, f2, f3, f4⟩ := hs.factors hA
  have pos := hs.pos
  have g1 : 1 * R ≤ v1 * R := Nat.mul_le_mul_right _ pos
  have g2 : 1 * S ≤ v0 * S := Nat.mul_le_mul_right _ hv0
  refine ⟨R, S, ?_, ?_, hlt, by omega, hg, ?_, ?_, ?_, ?_⟩
  all_goals cases e
  · simp at hr ⊢
    have := congrArg (Nat.cast (R := Int)) hr.1
    rw [Int.natCast_add, Int.natCast_mul, Int.natCast_mul] at this
    rw [Int.neg_mul]
    omega
  · simp at hr ⊢
    have := congrArg (Nat.cast (R := Int)) hr.1
    rw [Int.natCast_add, Int.natCast_mul, Int.natCast_mul] at this
    rw [Int.neg_mul]
    omega
  · simp at hr ⊢
    have := congrArg (Nat.cast (R := Int)) hr.2
    rw [Int.natCast_add, Int.natCast_mul, Int.natCast_mul] at this
    rw [Int.neg_mul]
    omega
  · simp at hr ⊢
    have := congrArg (Nat.cast (R := Int)) hr.2
    rw [Int.natCast_add, Int.natCast_mul, Int.natCast_mul] at this
    rw [Int.neg_mul]
    omega
  all_goals simp
  all_goals omega
end Go.Proofs.YtmjmcinnbmjpdaaDoor
namespace Go.Proofs.YtmjmcinnbmjpdaaDoor
open Go.RowKit
section
variable {w w' : World} {g : Nat} {ns ms : List Nat}
theorem set_mid (ns : List Nat) (o x : Nat) (ms : List Nat) (h : o + (ms.length + 1) ≤ ns.length) : (ns.set o x).take (o + 1) ++ ms ++ (ns.set o x).drop (o + 1 + ms.length) = ns.take o ++ x :: ms ++ ns.drop (o + (ms.length + 1)) := by
  have h1 : (ns.set o x).take (o + 1) = ns.take o ++ [x] := by
    rw [List.take_succ_eq_append_getElem (by rw [List.length_set]; omega), List.getElem_set_self, List.take_set, List.set_eq_of_length_le (by rw [List.length_take]; omega)]
  have h2 : (ns.set o x).drop (o + 1 + ms.length) = ns.drop (o + (ms.length + 1)) := by
    rw [List.drop_set_of_lt (by omega), show o + 1 + ms.length = o + (ms.length + 1) by omega]
  rw [h1, h2]
  simp
theorem BlkN.setCells : ∀ (ms : List Nat) (o : Nat) (w : World) (ns : List Nat), BlkN w g ns → o + ms.length ≤ ns.length → BlkN (w.setCells g o (ms.map Wd)) g (ns.take o ++ ms ++ ns.drop (o + ms.length))
  | [], o, w, ns, h, hl => by simpa [World.setCells] using h
  | x :: ms, o, w, ns, h, hl => by
    have h1 := h.set o (v := (x : Int)) (n := x) rfl
    have h2 := BlkN.setCells ms (o + 1) _ _ h1 (by rw [List.length_set]; simp at hl; omega)
    rw [set_mid ns o x ms (by simpa using hl)] at h2
    exact h2
theorem Mod.setCells {a : World} : ∀ (vs : List Value) (o : Nat) (w : World), Mod a w g → Mod a (w.setCells g o vs) g
  | [], _, _, h => h
  | v :: vs, o, _, h => Mod.setCells vs (o + 1) _ (h.setCell o v)
theorem BlkN.there (h : BlkN w g ns) {off n : Nat} (hl : off + n ≤ ns.length) : ∀ j, j < n → (w.cell? ⟨g, off + j, none⟩).isSome = true := fun j hj => by
  rw [h.cell (show off + j < ns.length by omega)]; rfl
end
/-- append of words to the head of a block with room. -/
theorem run_append_fill {w : World} (t ty : TypeId) (ht : Tryd.prog.underlying t = some (.slice 43))
    {g m c cz : Nat} {ns xs : List Nat} {A : Option Addr} (hb : BlkN w g ns) (hm : xs.length = m) (hr : Rd w A xs) (hl : m ≤ ns.length) (hcz : m ≤ cz) :
    ∃ w', (Builtin.append_ #[t, t] ty #[.slice (some ⟨g, 0, none⟩) 0 cz, .slice A m c]).run Tryd.prog w = .ok (.slice (some ⟨g, 0, none⟩) m cz) w' ∧ BlkN w' g (xs ++ ns.drop m) ∧ Mod w w' g := by
  subst hm
  obtain ⟨i0, hi, hz0, hz1, hz2⟩ := info_parts Tryd.infoW
  refine ⟨w.setCells g 0 (xs.map Wd), ?_, ?_, Mod.setCells _ _ _ (Mod.refl w g)⟩
  · by_cases h0 : xs = []
    · subst h0
      cases A with
      | none => simp [Builtin.append_, run_underlying ht, sizeOf, typeInfo, hi, Builtin.lenOf, Builtin.firstCells, storeCells, World.setCells]
      | some ad => simp [Builtin.append_, run_underlying ht, sizeOf, typeInfo, hi, Builtin.lenOf, Builtin.firstCells, loadCells, loadCellsFrom, storeCells, World.setCells]
    · obtain ⟨b, off, rfl, _, _⟩ := hr.2 h0
      have := run_append_room_cells (P := Tryd.prog) w t ty 43 i0 ht hi g 0 0 cz ⟨b, off, none⟩ xs.length c (xs.map Wd) (by rw [hz1]; simp) (cells_of_rd hr) (oneCell_words xs) (by omega)
        (by simpa using hb.there (off := 0) (n := xs.length) (by omega)) (fun j _ => hb.frozen _)
      simpa using this
  · have := BlkN.setCells xs 0 w ns hb (by omega)
    simpa using this
/-- the same, as a step of a walk. -/
theorem wpList_append_fill {w : World} {ops : Array Oper} {rest : List Oper} {o : Oper} {a : Act} {Q : Exit → Act → World → Prop} (hgd : o.guard = none) (s x : Operand) (t : TypeId)
    (ho : o.op = .call { callee := .builtin .append, args := #[s, x], argTypes := #[t, t] }) (ht : Tryd.prog.underlying t = some (.slice 43))
    {g m c cz : Nat} {ns xs : List Nat} {A : Option Addr} (hs : a.eval s = .slice (some ⟨g, 0, none⟩) 0 cz) (hb : BlkN w g ns) (hx : a.eval x = .slice A m c) (hm : xs.length = m) (hr : Rd w A xs) (hl : m ≤ ns.length) (hcz : m ≤ cz)
    (h : ∀ w', BlkN w' g (xs ++ ns.drop m) → Mod w w' g → wpList Tryd.prog ops Q rest (a.put o.dst (.slice (some ⟨g, 0, none⟩) m cz)) w') : wpList Tryd.prog ops Q (o :: rest) a w := by
  refine wpList_plain hgd fun K hK => ?_
  obtain ⟨w', hrun, h1, h2⟩ := run_append_fill (c := c) (cz := cz) t o.type ht hb hm hr hl hcz
  unfold Oper.wp execOp
  simp only [ho, resolve, invoke, builtin, Sem.run_bind, Sem.run_pure, Result.andThen_ok, List.map_toArray, List.map_cons, List.map_nil, hs, hx, hrun]
  exact hK _ _ (h w' h1 h2)
theorem step_append_fill {w : World} {ops : Array Oper} {o : Oper} {a : Act} {K : Act → World → Prop} {Q : Exit → Act → World → Prop} {E : Prop} (hgd : o.guard = none) (s x : Operand) (t : TypeId)
    (ho : o.op = .call { callee := .builtin .append, args := #[s, x], argTypes := #[t, t] }) (ht : Tryd.prog.underlying t = some (.slice 43))
    {g m c cz : Nat} {ns xs : List Nat} {A : Option Addr} (hs : a.eval s = .slice (some ⟨g, 0, none⟩) 0 cz) (hb : BlkN w g ns) (hx : a.eval x = .slice A m c) (hm : xs.length = m) (hr : Rd w A xs) (hl : m ≤ ns.length) (hcz : m ≤ cz)
    (h : ∀ w', BlkN w' g (xs ++ ns.drop m) → Mod w w' g → K (a.put o.dst (.slice (some ⟨g, 0, none⟩) m cz)) w') : if Region.wanted o (yielded ops a.tmps) = true then Oper.wp Tryd.prog o a w K Q else E := by
  have hw : Region.wanted o (yielded ops a.tmps) = true := by simp [Region.wanted, hgd]
  rw [if_pos hw]
  obtain ⟨w', hrun, h1, h2⟩ := run_append_fill (c := c) (cz := cz) t o.type ht hb hm hr hl hcz
  unfold Oper.wp execOp
  simp only [ho, resolve, invoke, builtin, Sem.run_bind, Sem.run_pure, Result.andThen_ok, List.map_toArray, List.map_cons, List.map_nil, hs, hx, hrun]
  exact h w' h1 h2
/-- clear of the words of a block from word q on. -/
theorem run_clear_words {w : World} (t ty : TypeId) (ht : Tryd.prog.underlying t = some (.slice 43)) {g n q : Nat} {ns : List Nat} (hb : BlkN w g ns) (hq : q + n = ns.length) :
    ∃ w', BlkN w' g (ns.take q ++ List.replicate n 0) ∧ Mod w w' g ∧ ∀ off c, off = q ∨ n = 0 → (Builtin.clear_ #[t] ty #[.slice (some ⟨g, off, none⟩) n c]).run Tryd.prog w = .ok (.tuple #[]) w' := by
  obtain ⟨i0, hi, hz0, hz1, hz2⟩ := info_parts Tryd.infoW
  have hv : ∀ w, (zeroValue 43).run Tryd.prog w = .ok (.int .u32 0) w := fun w => by simp [zeroValue, typeInfo, hi, hz0]
  refine ⟨w.setCells g q ((List.replicate n 0).map Wd), ?_, Mod.setCells _ _ _ (Mod.refl w g), fun off c hoff => ?_⟩
  · have := BlkN.setCells (List.replicate n 0) q w ns hb (by simp; omega)
    simpa [hq] using this
  · by_cases h0 : n = 0
    · subst h0
      simp [Builtin.clear_, run_underlying ht, World.setCells]
    · have hoq : off = q := by omega
      subst hoq
      have := Lib.run_clear_slice (P := Tryd.prog) w t 43 ty (.int .u32 0) ht hv rfl rfl g off n c (by omega) (hb.there (by omega)) (fun j _ => hb.frozen _)
      rw [this, List.map_replicate]
      rfl
section
variable {w : World}
theorem int_none {x1 y1 x2 y2 : Int} : Calls Tryd.prog 74 #[.agg #[.int .i64 x1, .int .i64 y1, .int .i64 x2, .int .i64 y2]] w fun e w' => e = .returned (.bool (y1 == 0)) ∧ Ext w w' := by
  go_enter Tryd.func74, Tryd.ntmps74
  go_upto_region 1 with (fail)
  obtain ⟨W, hW, extW, bz, hz⟩ := box1 w 91 #[.int .i64 x1, .int .i64 y1, .int .i64 x2, .int .i64 y2]
  rw [← hW]
  clear hW
  have c1 := bz.cell 1
  simp at c1
  go_wp2
  exact bodyPost_ret (v := .bool (y1 == 0)) (by simp [results, Tryd.results74, go_sem]) rfl ⟨rfl, extW⟩
end
end Go.Proofs.YtmjmcinnbmjpdaaDoor
namespace Go.Proofs.YtmjmcinnbmjpdaaDoor

theorem pow32 (b : Nat) (h : b ≤ 32) : 2 ^ b * 2 ^ (32 - b) = 4294967296 := by
  rw [← Nat.pow_add, show b + (32 - b) = 32 by omega]
/-- an or of disjoint parts is a sum. -/
theorem or_parts {x y j : Nat} (h : x < 2 ^ j) : x ||| (2 ^ j * y) = x + 2 ^ j * y := by
  rw [Nat.or_comm, ← Nat.two_pow_add_eq_or_of_lt h, Nat.add_comm]

def shrL (b : Nat) : List Nat → List Nat
  | [] => []
  | x :: xs => ((x + 4294967296 * xs.headD 0) / 2 ^ b % 4294967296) :: shrL b xs
theorem shrL_len (b : Nat) (xs : List Nat) : (shrL b xs).length = xs.length := by
  induction xs with
  | nil => rfl
  | cons x xs ih => simp [shrL, ih]
theorem shrL_w32 (b : Nat) (xs : List Nat) : W32 (shrL b xs) := by
  induction xs with
  | nil => exact W32.nil
  | cons x xs ih => exact W32.cons (Nat.mod_lt _ (by omega)) ih
theorem shrL_at (b : Nat) (xs : List Nat) (i : Nat) (h : i < xs.length) : (shrL b xs)[i]'(by rw [shrL_len]; exact h) = (xs[i] + 4294967296 * xs.getD (i + 1) 0) / 2 ^ b % 4294967296 := by
  induction xs generalizing i with
  | nil => simp at h
  | cons x xs ih =>
    cases i with
    | zero => cases xs <;> simp [shrL]
    | succ i =>
      simp only [shrL, List.getElem_cons_succ]
      rw [ih i (by simpa using h)]
      simp
theorem head_mod {xs : List Nat} (h : W32 xs) : xs.headD 0 = val xs % 4294967296 := by
  cases xs with
  | nil => rfl
  | cons x xs =>
    have := h x (by simp)
    simp only [List.headD_cons, val]
    omega
theorem div_words (x V b : Nat) (hb : b ≤ 32) : (x + 4294967296 * (V % 4294967296)) / 2 ^ b % 4294967296 = (x + 4294967296 * V) / 2 ^ b % 4294967296 := by
  have e : x + 4294967296 * V = x + 4294967296 * (V % 4294967296) + 2 ^ b * (2 ^ (32 - b) * (V / 4294967296) * 4294967296) := by
    have h1 : 2 ^ b * (2 ^ (32 - b) * (V / 4294967296) * 4294967296) = 2 ^ b * 2 ^ (32 - b) * (V / 4294967296) * 4294967296 := by simp only [Nat.mul_assoc]
    rw [h1, pow32 b hb]
    have := Nat.div_add_mod V 4294967296
    omega
  rw [e, Nat.add_mul_div_left _ _ (Nat.two_pow_pos b), Nat.add_mul_mod_self_right]
theorem val_shrL {b : Nat} (hb : b ≤ 32) {xs : List Nat} (h : W32 xs) : val (shrL b xs) = val xs / 2 ^ b := by
  induction xs with
  | nil => simp [shrL, val]
  | cons x xs ih =>
    have hx := h x (by simp)
    have ht : W32 xs := fun z hz => h z (by simp [hz])
    simp only [shrL, val]
    rw [ih ht, head_mod ht, div_words x (val xs) b hb]
    have e2 : (x + 4294967296 * val xs) / 2 ^ b / 4294967296 = val xs / 2 ^ b := by
      rw [Nat.div_div_eq_div_mul, Nat.mul_comm (2 ^ b) 4294967296, ← Nat.div_div_eq_div_mul, show (x + 4294967296 * val xs) / 4294967296 = val xs by omega]
    rw [← e2]
    generalize (x + 4294967296 * val xs) / 2 ^ b = T
    omega
theorem val_drop {xs : List Nat} (h : W32 xs) (q : Nat) : val (xs.drop q) = val xs / 4294967296 ^ q := by
  by_cases hq : q ≤ xs.length
  · have e := val_split xs q hq
    have hl := val_lt (h.take q)
    rw [List.length_take, Nat.min_eq_left hq] at hl
    rw [e, Nat.add_mul_div_left _ _ (Nat.pow_pos (by omega)), Nat.div_eq_of_lt hl, Nat.zero_add]
  · rw [List.drop_eq_nil_of_le (by omega), Nat.div_eq_of_lt]
    · rfl
    · exact Nat.lt_of_lt_of_le (val_lt h) (Nat.pow_le_pow_right (by omega) (by omega))
theorem pow_split (k : Nat) : 2 ^ k = 4294967296 ^ (k / 32) * 2 ^ (k % 32) := by
  have : (4294967296 : Nat) = 2 ^ 32 := by decide
  rw [this, ← Nat.pow_mul, ← Nat.pow_add]
  congr 1
  omega
theorem shr_spec {xs : List Nat} (h : W32 xs) (k : Nat) : val (shrL (k % 32) (xs.drop (k / 32))) = val xs / 2 ^ k := by
  rw [val_shrL (by omega) (h.drop _), val_drop h, Nat.div_div_eq_div_mul, ← pow_split]
theorem shr_word {x y b : Nat} (hx : x < 4294967296) (hb : b ≤ 32) : x / 2 ^ b ||| (y * 2 ^ (32 - b) % 4294967296) = (x + 4294967296 * y) / 2 ^ b % 4294967296 := by
  have hp := pow32 b hb
  have h1 : x / 2 ^ b < 2 ^ (32 - b) := by
    rw [Nat.div_lt_iff_lt_mul (Nat.two_pow_pos b), Nat.mul_comm, hp]
    exact hx
  have e1 : y * 2 ^ (32 - b) % 4294967296 = 2 ^ (32 - b) * (y % 2 ^ b) := by
    rw [← hp, Nat.mul_comm y, Nat.mul_comm (2 ^ b), Nat.mul_mod_mul_left]
  have e2 : (x + 4294967296 * y) / 2 ^ b = x / 2 ^ b + 2 ^ (32 - b) * y := by
    rw [← hp, Nat.mul_assoc, Nat.add_mul_div_left _ _ (Nat.two_pow_pos b)]
  rw [e1, or_parts h1, e2]
  have e3 : 2 ^ (32 - b) * y = 2 ^ (32 - b) * (y % 2 ^ b) + 4294967296 * (y / 2 ^ b) := by
    rw [← hp, Nat.mul_comm (2 ^ b), Nat.mul_assoc, ← Nat.mul_add, Nat.add_comm, Nat.div_add_mod]
  have h2 : y % 2 ^ b < 2 ^ b := Nat.mod_lt _ (Nat.two_pow_pos b)
  have h3 : 2 ^ (32 - b) * (y % 2 ^ b + 1) ≤ 2 ^ (32 - b) * 2 ^ b := Nat.mul_le_mul_left _ h2
  rw [Nat.mul_comm (2 ^ (32 - b)) (2 ^ b), hp, Nat.mul_add, Nat.mul_one] at h3
  rw [e3]
  generalize 2 ^ (32 - b) * (y % 2 ^ b) = P at h3 ⊢
  generalize y / 2 ^ b = R
  generalize 2 ^ (32 - b) = Q at h1 h3
  generalize x / 2 ^ b = X at h1 ⊢
  omega
theorem shr_word0 {x b : Nat} (hx : x < 4294967296) : x / 2 ^ b = (x + 4294967296 * 0) / 2 ^ b % 4294967296 := by
  rw [Nat.mul_zero, Nat.add_zero, Nat.mod_eq_of_lt (Nat.lt_of_le_of_lt (Nat.div_le_self _ _) hx)]
theorem take_shr {b : Nat} {xs zs : List Nat} {i v : Nat} (hi : i < xs.length) (hz : i < zs.length) (h : zs.take i = (shrL b xs).take i) (hv : v = (xs[i] + 4294967296 * xs.getD (i + 1) 0) / 2 ^ b % 4294967296) : (zs.set i v).take (i + 1) = (shrL b xs).take (i + 1) := by
  have hl : i < (shrL b xs).length := by rw [shrL_len]; exact hi
  rw [take_succ' (xs := zs.set i v) (k := i) (by simpa using hz), take_succ' (xs := shrL b xs) (k := i) hl, take_set_self, h, shrL_at b xs i hi]
  simp [hv]
/-! to the left -/
structure ShlInv (xs : List Nat) (b i : Nat) (zs : List Nat) : Prop where
  w32 : W32 zs
  len : zs.length = xs.length + 1
  low : zs.getD i 0 < 2 ^ b
  eq : val (zs.take (i + 1)) = val (xs.take i) * 2 ^ b
theorem ShlInv.start (xs : List Nat) (b : Nat) : ShlInv xs b 0 (List.replicate (xs.length + 1) 0) :=
  ⟨W32.replicate _, by simp, by simp [List.getD]; exact Nat.two_pow_pos b, by simp [List.take_replicate, val]⟩
theorem shl_low {x z b : Nat} (hb : b ≤ 32) (hz : z < 2 ^ b) : z ||| (x * 2 ^ b % 4294967296) = z + x * 2 ^ b % 4294967296 := by
  have hp := pow32 b hb
  have e1 : x * 2 ^ b % 4294967296 = 2 ^ b * (x % 2 ^ (32 - b)) := by rw [← hp, Nat.mul_comm x, Nat.mul_mod_mul_left]
  rw [e1, or_parts hz]
theorem shl_sum {x z b : Nat} (hb : b ≤ 32) (hz : z < 2 ^ b) : z + x * 2 ^ b % 4294967296 < 4294967296 := by
  have hp := pow32 b hb
  have e1 : x * 2 ^ b % 4294967296 = 2 ^ b * (x % 2 ^ (32 - b)) := by rw [← hp, Nat.mul_comm x, Nat.mul_mod_mul_left]
  have h2 : x % 2 ^ (32 - b) < 2 ^ (32 - b) := Nat.mod_lt _ (Nat.two_pow_pos _)
  have h3 : 2 ^ b * (x % 2 ^ (32 - b) + 1) ≤ 2 ^ b * 2 ^ (32 - b) := Nat.mul_le_mul_left _ h2
  rw [hp, Nat.mul_add] at h3
  omega
theorem shl_high {x b : Nat} (hx : x < 4294967296) : x * 2 ^ b / 4294967296 < 2 ^ b := by
  rw [Nat.div_lt_iff_lt_mul (by omega), Nat.mul_comm (2 ^ b)]
  exact Nat.mul_lt_mul_of_pos_right hx (Nat.two_pow_pos b)
theorem ShlInv.step {xs zs : List Nat} {b i : Nat} (h : ShlInv xs b i zs) (hb : b < 32) (hx : W32 xs) (hi : i < xs.length) :
    ShlInv xs b (i + 1) ((zs.set i (zs.getD i 0 + xs[i] * 2 ^ b % 4294967296)).set (i + 1) (xs[i] * 2 ^ b / 4294967296)) := by
  have hl := h.len
  have h1 := shl_sum (x := xs[i]) (by omega : b ≤ 32) h.low
  have h2 := shl_high (b := b) (hx.get hi)
  have hpb : 2 ^ b ≤ 4294967296 := by
    have : 2 ^ b ≤ 2 ^ 32 := Nat.pow_le_pow_right (by omega) (by omega)
    omega
  have hiz : i < zs.length := by omega
  refine ⟨(h.w32.set _ h1).set _ (by omega), by simp [hl], ?_, ?_⟩
  · rw [List.getD_eq_getElem?_getD, List.getElem?_set_self (by simp; omega)]
    exact h2
  · rw [val_take_set _ (by simp; omega), val_take_set _ hiz]
    have e := h.eq
    rw [val_take_succ zs i hiz] at e
    rw [val_take_succ xs i hi, Nat.add_mul, ← e, getD_at hiz, Nat.mul_add]
    have := pow_carry i (xs[i] * 2 ^ b)
    rw [Nat.mul_assoc (4294967296 ^ i) xs[i]]
    omega
theorem shl_val {xs zs : List Nat} {k : Nat} (h : val zs = val xs * 2 ^ (k % 32)) : val (List.replicate (k / 32) 0 ++ zs) = val xs * 2 ^ k := by
  rw [val_append, val_replicate, Nat.zero_add, List.length_replicate, h, pow_split k, Nat.mul_comm, Nat.mul_assoc, Nat.mul_comm (2 ^ (k % 32))]
end Go.Proofs.YtmjmcinnbmjpdaaDoor
namespace Go.Proofs.YtmjmcinnbmjpdaaDoor
open Go.RowKit
theorem shl_cast {x b : Nat} (hx : x < 4294967296) (hb : b < 32) : IntKind.u64.wrap ((x : Int) * 2 ^ b) = ((x * 2 ^ b : Nat) : Int) := by
  have h2 : x * 2 ^ b < 4294967296 * 4294967296 := by
    have hpb : 2 ^ b ≤ 4294967296 := by
      have : 2 ^ b ≤ 2 ^ 32 := Nat.pow_le_pow_right (by omega) (by omega)
      omega
    exact Nat.mul_lt_mul_of_lt_of_le hx hpb (by omega)
  rw [IntKind.wrap_u64, show (x : Int) * 2 ^ b = ((x * 2 ^ b : Nat) : Int) by simp]
  omega
theorem shl_lo {x z b : Nat} (hx : x < 4294967296) (hb : b < 32) (hz : z < 2 ^ b) (hz2 : z < 4294967296) : bits .or .u32 (z : Int) (IntKind.u64.wrap ((x : Int) * 2 ^ b) % 4294967296) = ((z + x * 2 ^ b % 4294967296 : Nat) : Int) := by
  rw [shl_cast hx hb, show ((x * 2 ^ b : Nat) : Int) % 4294967296 = ((x * 2 ^ b % 4294967296 : Nat) : Int) by omega, u32_or_nat _ _ hz2 (Nat.mod_lt _ (by omega)), shl_low (by omega) hz]
theorem shl_hi {x b : Nat} (hx : x < 4294967296) (hb : b < 32) : IntKind.u64.wrap ((x : Int) * 2 ^ b) / 4294967296 % 4294967296 = ((x * 2 ^ b / 4294967296 : Nat) : Int) := by
  have h := shl_high (b := b) hx
  have hpb : 2 ^ b ≤ 4294967296 := by
    have : 2 ^ b ≤ 2 ^ 32 := Nat.pow_le_pow_right (by omega) (by omega)
    omega
  rw [shl_cast hx hb]
  generalize x * 2 ^ b = T at *
  omega
section
variable {A B : Option Addr} {c d n m : Nat} {xs ys : List Nat} {w : World} {s t : Bool}
set_option maxHeartbeats 1000000 in
theorem int_shiftInto {g off n cz b : Nat} {pre zs0 post : List Nat} (hblk0 : BlkN w g (pre ++ zs0 ++ post)) (hoff : pre.length = off) (hz : zs0 = List.replicate (xs.length + 1) 0) (hx : Rd w A xs) (hm : xs.length = m) (hap : Apart A xs g)
    (hn : m + 1 = n) (hb : b < 32) (h1 : n ≤ 100000) (_hcz : n ≤ cz) (_hczm : cz ≤ maxLen) :
    Calls Tryd.prog 78 #[.slice (some ⟨g, off, none⟩) n cz, .slice A m c, .int .i64 (b : Int)] w (Turned w g pre n post fun zs => val zs = val xs * 2 ^ b) := by
  have Hoff := Lib.hid hoff
  have Hm := Lib.hid hm
  clear hoff hm
  have hi := ShlInv.start xs b
  rw [← hz] at hi
  clear hz
  go_enter Tryd.func78, Tryd.ntmps78
  go_wp2
  go_loopw [11] (fun i wr => ∃ (k : Nat) (zs : List Nat), k ≤ m ∧ i = .int .i64 (k : Int) ∧ ShlInv xs b k zs ∧ BlkN wr g (pre ++ zs ++ post) ∧ Mod w wr g) (fun i _ => m - (intOf i).toNat)
  case atStart => exact ⟨0, zs0, by omega, rfl, hi, hblk0, Mod.refl _ _⟩
  case round =>
    obtain ⟨k, zs, hk, rfl, hinv, hblk, hmod⟩ := hrel
    have hzl : zs.length = n := by rw [hinv.len, Hm.out]; exact hn
    have hxl : xs.length = m := Hm.out
    by_cases hlt : k < m
    · obtain ⟨b1, off', rfl, hb1, hc1⟩ := (hx.mod hmod hap).at_ (i := k) (by omega)
      have hxk := hx.1.get (k := k) (by omega)
      obtain ⟨b2, off2, he, hb2, hc2⟩ := (hblk.mid hinv.w32 Hoff.out).at_ (i := k) (by omega)
      injection he with he
      injection he with he1 he2
      subst he1; subst he2
      have hzk := hinv.w32.get (k := k) (by omega)
      have hlow : zs[k] < 2 ^ b := by have := hinv.low; rwa [getD_at (by omega)] at this
      obtain ⟨b3, off3, he, hb3, hc3⟩ := (hblk.mid hinv.w32 Hoff.out).at_ (i := k + 1) (by omega)
      injection he with he
      injection he with he1 he2
      subst he1; subst he2
      have hfz := hblk.frozen (off + k)
      have hfz2 := hblk.frozen (off + (k + 1))
      go_wp2
      go_roundw
      case rel =>
        have hst := hinv.step hb hx.1 (by omega)
        rw [getD_at (by omega)] at hst
        exact ⟨k + 1, _, by omega, by go_num, hst, (hblk.setMid Hoff.out (by omega) (shl_lo hxk hb hlow hzk)).setMid Hoff.out (by simp; omega) (shl_hi hxk hb), (hmod.setCell _ _).setCell _ _⟩
      case measure => simp [intOf]; omega
    · have hk' : k = m := by omega
      subst hk'
      go_wp2
      go_end0
      refine ⟨zs, rfl, hzl, hinv.w32, hblk, ?_, hmod⟩
      have := hinv.eq
      rwa [List.take_of_length_le (by omega), List.take_of_length_le (by omega)] at this
end
end Go.Proofs.YtmjmcinnbmjpdaaDoor
