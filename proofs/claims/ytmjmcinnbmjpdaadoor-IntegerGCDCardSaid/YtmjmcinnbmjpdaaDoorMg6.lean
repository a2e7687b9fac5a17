/- Walks and laws, part 6. -/
import Derived.Test.YtmjmcinnbmjpdaaDoorMg1
import Derived.Test.YtmjmcinnbmjpdaaDoorMg4
import Derived.Test.YtmjmcinnbmjpdaaDoorMg5
import Derived.Deep.DeepCutAuto
namespace Go.Proofs.YtmjmcinnbmjpdaaDoor
open Go.RowKit
attribute [local go_sem ↓] Go.wp_at_zero Go.wp_at_succ
theorem at_world {P : Program} {c : Code} {Q : Exit → Act → World → Prop} {a : Act} {w : World} (C : World → Prop) (h : C w) (k : ∀ W, C W → Code.wp P c Q a W) : Code.wp P c Q a w := k w h
theorem at_then {K : Act → World → Prop} {Q : Exit → Act → World → Prop} {e : Exit} {a : Act} {w : World} (C : World → Prop) (h : C w) (k : ∀ W, C W → Exit.then K Q e a W) : Exit.then K Q e a w := k w h
theorem IsInt.nn {z : Int} {ys : List Nat} (h : IsInt z false ys) : 0 ≤ z := by have := h.eq; unfold ival at this; simp at this; omega
theorem IsInt.np {z : Int} {ys : List Nat} (h : IsInt z true ys) : z < 0 := by
  have := h.neg
  have := of_decide_eq_true this.symm
  exact this
theorem IsInt.sgn0 {z : Int} {b : Bool} (h : IsInt z b []) : z.sign = 0 := by
  have := h.zero.1 rfl
  rw [this]; rfl
theorem IsInt.sgn1 {z : Int} {x : Nat} {xs : List Nat} (h : IsInt z false (x :: xs)) : z.sign = 1 := by
  have h0 : z ≠ 0 := fun h0 => by have := h.zero.2 h0; cases this
  have := h.nn
  exact Int.sign_eq_one_of_pos (by omega)
theorem IsInt.sgn2 {z : Int} {x : Nat} {xs : List Nat} (h : IsInt z true (x :: xs)) : z.sign = -1 := Int.sign_eq_neg_one_of_neg h.np
/-- behind 'a, b = Norm(a), Norm(b)': both boxes hold normal forms. -/
def TwoN (w _W : World) (x y : Int) (lx ly : Nat) (R : World → Prop) (wx : World) : Prop :=
  ∃ b3 A3 c3 rs b4 A4 c4 qs, Ext w wx ∧ Box wx w.heap.size 24 #[.bool b3, .slice A3 (List.length rs) c3] ∧ Box wx (w.heap.size + 1) 24 #[.bool b4, .slice A4 (List.length qs) c4] ∧ R wx ∧ Rd wx A3 rs ∧ Rd wx A4 qs ∧
    rs.length ≤ c3 ∧ c3 ≤ maxLen ∧ qs.length ≤ c4 ∧ c4 ≤ maxLen ∧ IsInt x b3 rs ∧ IsInt y b4 qs ∧ rs.length ≤ lx ∧ qs.length ≤ ly
theorem TwoN.mk' {w W w4 : World} {x y : Int} {lx ly : Nat} {R : World → Prop} {s t b3 b4 : Bool} {A A3 B A4 : Option Addr} {n c m d c3 c4 : Nat} {rs qs : List Nat} (extW : Ext w W) (e4 : Ext W w4)
    (bx : Box W w.heap.size 24 #[.bool s, .slice A n c]) (by_ : Box W (w.heap.size + 1) 24 #[.bool t, .slice B m d]) (hr3 : Rd w4 A3 rs) (hr4 : Rd w4 A4 qs)
    (h1 : rs.length ≤ c3) (h2 : c3 ≤ maxLen) (h3 : qs.length ≤ c4) (h4 : c4 ≤ maxLen) (hi3 : IsInt x b3 rs) (hi4 : IsInt y b4 qs) (h5 : rs.length ≤ lx) (h6 : qs.length ≤ ly)
    (hR : ∀ u v p q, R ((((w4.setCell ⟨w.heap.size, 0, none⟩ u).setCell ⟨w.heap.size, 1, none⟩ v).setCell ⟨w.heap.size + 1, 0, none⟩ p).setCell ⟨w.heap.size + 1, 1, none⟩ q)) :
    TwoN w W x y lx ly R ((((w4.setCell ⟨w.heap.size, 0, none⟩ (.bool b3)).setCell ⟨w.heap.size, 1, none⟩ (.slice A3 rs.length c3)).setCell ⟨w.heap.size + 1, 0, none⟩ (.bool b4)).setCell ⟨w.heap.size + 1, 1, none⟩ (.slice A4 qs.length c4)) := by
  have k1 := bx.ext e4
  have k2 := by_.ext e4
  obtain ⟨r1, r2, _, _⟩ := fin_pair (b := b3) (n := rs.length) (c := c3) (extW.trans e4) (Nat.le_refl _) k1 hr3
  have q1 := (hr4.setBox k1 NoWord.two 0 (.bool b3)).setBox (k1.setA (.bool b3)) NoWord.two 1 (.slice A3 rs.length c3)
  have j1 := (k1.setA (.bool b3)).setB (.slice A3 rs.length c3)
  have j2 := ((k2.far (p := ⟨w.heap.size, 0, none⟩) (by simp) (.bool b3)).far (p := ⟨w.heap.size, 1, none⟩) (by simp) (.slice A3 rs.length c3))
  have j20 := j2.setA (.bool b4)
  have j3 := j20.setB (.slice A4 qs.length c4)
  have j4 := ((j1.far (p := ⟨w.heap.size + 1, 0, none⟩) (by simp) (.bool b4)).far (p := ⟨w.heap.size + 1, 1, none⟩) (by simp) (.slice A4 qs.length c4))
  have hE := (r2.setCell (p := ⟨w.heap.size + 1, 0, none⟩) (Nat.le_succ _) (.bool b4)).setCell (p := ⟨w.heap.size + 1, 1, none⟩) (Nat.le_succ _) (.slice A4 qs.length c4)
  have r3 := (r1.setBox j2 NoWord.two 0 (.bool b4)).setBox j20 NoWord.two 1 (.slice A4 qs.length c4)
  have q3 := (q1.setBox j2 NoWord.two 0 (.bool b4)).setBox j20 NoWord.two 1 (.slice A4 qs.length c4)
  have hRR := hR (.bool b3) (.slice A3 rs.length c3) (.bool b4) (.slice A4 qs.length c4)
  exact ⟨b3, A3, c3, rs, b4, A4, c4, qs, hE, j4, j3, hRR, r3, q3, h1, h2, h3, h4, hi3, hi4, h5, h6⟩
theorem far_ne {g h i : Nat} (hne : g ≠ h) : g ≠ (⟨h, i, none⟩ : Addr).block := hne
theorem cmpI_of_lt {a b : Nat} (h : a < b) : cmpI a b = -1 := by simp [cmpI, h]
theorem cmpI_of_eq {a b : Nat} (h : a = b) : cmpI a b = 0 := by rw [h]; exact cmpI_self b
theorem cmpI_of_gt {a b : Nat} (h : b < a) : cmpI a b = 1 := by simp [cmpI, h, Nat.lt_asymm h]
theorem len_le {xs ys : List Nat} (hy : W32 ys) (nx : Nrm xs) (h : val xs ≤ val ys) : xs.length ≤ ys.length := by
  rcases Nat.lt_or_ge ys.length xs.length with hl | hl
  · have := val_lt_of_len hy nx hl; omega
  · exact hl
theorem isint_val {z : Int} {b : Bool} {ys : List Nat} (h : IsInt z b ys) : (val ys : Int) = if b then -z else z := by
  have := h.eq
  unfold ival at this
  cases b <;> simp at this ⊢ <;> omega
section
variable {A B : Option Addr} {c d n m : Nat} {xs ys : List Nat} {w : World} {s t : Bool}
set_option maxHeartbeats 1000000 in
theorem ref_Sign (hn : xs.length = n) (hx : Rd w A xs) (hc : n ≤ c) (hcm : c ≤ maxLen) (h1 : n ≤ 100000) :
    Calls Tryd.prog 12 #[.agg #[.bool s, .slice A n c]] w fun e w' => e = .returned (.int .i64 (ival s xs).sign) ∧ Ext w w' := by
  go_enter Tryd.func12, Tryd.ntmps12
  go_upto_region 1 with (fail)
  obtain ⟨W, hW, extW, bx, hz⟩ := box1 w 24 #[.bool s, .slice A n c]
  rw [← hW]
  clear hW
  have x0 := bx.cell 0 (.bool s) rfl
  have x1 := bx.cell 1 (.slice A n c) rfl
  have hf0 := bx.frozen 0
  have hf1 := bx.frozen 1
  go_wp2_with fail
  refine (ref_Norm hn (hx.ext extW) hc hcm h1).mono ?_
  rintro e w3 ⟨b3, A3, c3, rs, rfl, hr3, hc3, hm3, hi3, hl3, hext3⟩
  have bx3 := bx.ext hext3
  have z0 := bx3.cell 0 (.bool s) rfl
  have z1 := bx3.cell 1 (.slice A n c) rfl
  have f0 := bx3.frozen 0
  have f1 := bx3.frozen 1
  have hfin := fin_pair (b := b3) (n := rs.length) (c := c3) (extW.trans hext3) (Nat.le_refl _) bx3 hr3
  have Hfin := Lib.hid hfin
  clear hfin bx bx3 x0 x1 hf0 hf1 hn
  cases rs with
  | nil =>
    go_wp2_with fail
    go_ret
    exact ⟨ret_int hi3.sgn0.symm, Hfin.out.2.1⟩
  | cons r rs' =>
    cases b3 with
    | false =>
      go_wp2_with fail
      go_ret
      exact ⟨ret_int hi3.sgn1.symm, Hfin.out.2.1⟩
    | true =>
      go_wp2_with fail
      go_ret
      exact ⟨ret_int hi3.sgn2.symm, Hfin.out.2.1⟩

end
end Go.Proofs.YtmjmcinnbmjpdaaDoor
namespace Go.Proofs.YtmjmcinnbmjpdaaDoor
open Go.RowKit
attribute [local go_sem ↓] Go.wp_at_zero Go.wp_at_succ
section
variable {A B : Option Addr} {c d n m : Nat} {xs ys : List Nat} {w : World} {s t : Bool}
end
end Go.Proofs.YtmjmcinnbmjpdaaDoor
namespace Go.Proofs.YtmjmcinnbmjpdaaDoor

theorem mul_word {x w : Nat} (hx : x < 4294967296) (hw : w < 4294967296) : x * w ≤ 18446744065119617025 := by
  have : x * w ≤ 4294967295 * 4294967295 := Nat.mul_le_mul (by omega) (by omega)
  omega
theorem mul_word_int {x w : Nat} (hx : x < 4294967296) (hw : w < 4294967296) : (x : Int) * (w : Int) ≤ 18446744065119617025 ∧ 0 ≤ (x : Int) * (w : Int) := by
  have h := mul_word hx hw
  have e : ((x * w : Nat) : Int) = (x : Int) * (w : Int) := Int.natCast_mul x w
  omega
theorem u64_div (a : Nat) {x : Int} (h : x = a) : Value.int .u64 (x / 4294967296) = .int .u64 ((a / 4294967296 : Nat) : Int) := by
  subst h; rw [Int.natCast_ediv]; rfl
theorem u32_mod (a : Nat) {x : Int} (h : x = a) : x % 4294967296 = ((a % 4294967296 : Nat) : Int) := by
  subst h; omega
theorem cast_mac (a x q z : Nat) : (a : Int) + ((x : Int) * (q : Int) + (z : Int)) = ((a + (x * q + z) : Nat) : Int) := by
  rw [Int.natCast_add, Int.natCast_add, Int.natCast_mul]
theorem cast_mac' (a x q z : Nat) : (a : Int) + (z : Int) + (x : Int) * (q : Int) = ((a + (x * q + z) : Nat) : Int) := by
  rw [Int.natCast_add, Int.natCast_add, Int.natCast_mul]; omega
structure MulInv (zs0 xs : List Nat) (w k : Nat) (zs : List Nat) (cy : Nat) : Prop where
  len : zs.length = zs0.length
  w32 : W32 zs
  hcy : cy < 4294967296
  rest : zs.drop k = zs0.drop k
  eq : val (zs.take k) + 4294967296 ^ k * cy = val (zs0.take k) + val (xs.take k) * w
theorem MulInv.start {zs0 xs : List Nat} {w : Nat} (h : W32 zs0) : MulInv zs0 xs w 0 zs0 0 := ⟨rfl, h, by omega, rfl, by simp [val]⟩
theorem MulInv.at_ {zs0 xs zs : List Nat} {w k cy : Nat} (h : MulInv zs0 xs w k zs cy) (hk : k < zs.length) : zs[k] = zs0.getD k 0 := by
  have := congrArg (fun l : List Nat => l.getD 0 0) h.rest
  simp only [List.getD, List.getElem?_drop, Nat.add_zero] at this
  rw [List.getElem?_eq_getElem hk] at this
  simpa [List.getD] using this
theorem mul_step_eq {p cy x w z a b c s : Nat} (h : a + p * cy = b + c * w) (hs : s = cy + (x * w + z)) : a + p * s = b + p * z + (c + p * x) * w := by
  subst hs
  rw [Nat.mul_add, Nat.mul_add, Nat.add_mul, Nat.mul_assoc p x w]
  omega
theorem MulInv.step {zs0 xs zs : List Nat} {w k cy : Nat} (h : MulInv zs0 xs w k zs cy) (hx : W32 xs) (hw : w < 4294967296) (hk : k < zs.length) (hkx : k < xs.length) {s : Nat} (hs : s = cy + (xs[k] * w + zs[k])) :
    MulInv zs0 xs w (k + 1) (zs.set k (s % 4294967296)) (s / 4294967296) := by
  have h1 := h.w32.get hk
  have h2 := mul_word (hx.get hkx) hw
  have h3 := h.hcy
  refine ⟨by simpa using h.len, h.w32.set _ (Nat.mod_lt _ (by omega)), ?_, ?_, ?_⟩
  · generalize xs[k] * w = q at *
    omega
  · rw [drop_set_succ, ← List.drop_drop, h.rest, List.drop_drop]
  · rw [val_take_set _ hk, val_take_getD zs0, val_take_getD xs, Nat.add_assoc, pow_carry, ← h.at_ hk, getD_at hkx]
    exact mul_step_eq h.eq hs
theorem MulInv.done {zs0 xs zs : List Nat} {w cy : Nat} (h : MulInv zs0 xs w xs.length zs cy) (hl : xs.length ≤ zs.length) :
    val zs + 4294967296 ^ xs.length * cy = val zs0 + val xs * w := by
  have e := h.eq
  rw [List.take_of_length_le (l := xs) (Nat.le_refl _)] at e
  have e1 := val_split zs xs.length hl
  have e2 := val_split zs0 xs.length (by have := h.len; omega)
  rw [h.rest] at e1
  omega
/-- what is added behind the words that have been met. -/
theorem mul_tail {zs zs0 zt xs : List Nat} {w cy c2 n : Nat} (hn : zs.length = n) (h : val zs + 4294967296 ^ xs.length * cy = val zs0 + val xs * w) (hl : xs.length ≤ n)
    (ht : val zt + 4294967296 ^ (n - xs.length) * c2 = val (zs.drop xs.length) + cy) (hf : val zs0 + val xs * w < 4294967296 ^ n) : val (zs.take xs.length ++ zt) = val zs0 + val xs * w := by
  rw [val_append, List.length_take, Nat.min_eq_left (by omega)]
  have e1 := val_split zs xs.length (by omega)
  have hp : 4294967296 ^ n = 4294967296 ^ xs.length * 4294967296 ^ (n - xs.length) := by rw [← Nat.pow_add]; congr 1; omega
  rw [hp] at hf
  generalize 4294967296 ^ xs.length = p at *
  generalize 4294967296 ^ (n - xs.length) = q at *
  generalize val zs0 + val xs * w = S at *
  have e : p * (val zt + q * c2) = p * (val (zs.drop xs.length) + cy) := by rw [ht]
  rw [Nat.mul_add, Nat.mul_add, ← Nat.mul_assoc] at e
  cases c2 with
  | zero => rw [Nat.mul_zero] at e; omega
  | succ c =>
    rw [Nat.mul_succ] at e
    generalize p * q * c = r at *
    omega
theorem no_carry {zs zs0 xs : List Nat} {w cy n : Nat} (_hn : zs.length = n) (h : val zs + 4294967296 ^ xs.length * cy = val zs0 + val xs * w) (hl : n ≤ xs.length) (hf : val zs0 + val xs * w < 4294967296 ^ n) : cy = 0 := by
  have : 4294967296 ^ n ≤ 4294967296 ^ xs.length := Nat.pow_le_pow_right (by omega) hl
  generalize 4294967296 ^ xs.length = p at *
  cases cy with
  | zero => rfl
  | succ c =>
    rw [Nat.mul_succ] at h
    generalize p * c = r at *
    omega
/-- the sum of one multiple, behind k words. -/
theorem prod_fits {zs zs0 xs ys : List Nat} {k n : Nat} (hk : k < ys.length) (hkn : k ≤ n) (hn : zs.length = n) (h : val zs = val zs0 + val xs * val (ys.take k)) (hf : val zs0 + val xs * val ys < 4294967296 ^ n) :
    val (zs.drop k) + val xs * ys[k] < 4294967296 ^ (n - k) := by
  have e1 := val_split zs k (by omega)
  have e2 := val_split ys (k + 1) (by omega)
  rw [val_take_succ ys k hk] at e2
  have hp : 4294967296 ^ n = 4294967296 ^ k * 4294967296 ^ (n - k) := by rw [← Nat.pow_add]; congr 1; omega
  rw [hp, e2, Nat.mul_add, Nat.mul_add] at hf
  refine Nat.lt_of_mul_lt_mul_left (a := 4294967296 ^ k) ?_
  rw [Nat.mul_add, ← Nat.mul_assoc, Nat.mul_comm (4294967296 ^ k) (val xs), Nat.mul_assoc]
  omega
theorem prod_step {zs zs0 zt xs ys : List Nat} {k n : Nat} (hk : k < ys.length) (hkn : k ≤ n) (hn : zs.length = n) (h : val zs = val zs0 + val xs * val (ys.take k)) (ht : val zt = val (zs.drop k) + val xs * ys[k]) :
    val (zs.take k ++ zt) = val zs0 + val xs * val (ys.take (k + 1)) := by
  rw [val_append, List.length_take, Nat.min_eq_left (by omega), ht, val_take_succ ys k hk, Nat.mul_add, Nat.mul_add]
  have e1 := val_split zs k (by omega)
  rw [← Nat.mul_assoc, Nat.mul_comm (4294967296 ^ k) (val xs), Nat.mul_assoc]
  omega
theorem prod_lt {xs ys : List Nat} (hx : W32 xs) (hy : W32 ys) : val xs * val ys < 4294967296 ^ (xs.length + ys.length) := by
  rw [Nat.pow_add]
  exact Nat.mul_lt_mul'' (val_lt hx) (val_lt hy)

/-! the school's product, row by row -/
theorem mid_split (zs : List Nat) (i m : Nat) : zs.take i ++ (zs.drop i).take m ++ zs.drop (i + m) = zs := by
  rw [List.append_assoc, ← List.drop_drop, List.take_append_drop, List.take_append_drop]
theorem times_step {zs mid xs ys : List Nat} {i m cy : Nat} (hi : i < xs.length) (hz : i + m < zs.length) (hy : ys.length = m) (hl : mid.length = m) (h : val (zs.take (i + m)) = val (xs.take i) * val ys)
    (he : val mid + 4294967296 ^ m * cy = val ((zs.drop i).take m) + val ys * xs[i]) :
    val (((zs.take i ++ mid ++ zs.drop (i + m)).set (i + m) cy).take (i + 1 + m)) = val (xs.take (i + 1)) * val ys := by
  have hli : (zs.take i).length = i := by rw [List.length_take]; omega
  have hlen : (zs.take i ++ mid).length = i + m := by rw [List.length_append, hli, hl]
  rw [show i + 1 + m = i + m + 1 by omega, val_take_set _ (by rw [List.length_append, hlen, List.length_drop]; omega), List.take_left' hlen, val_append, hli, val_take_succ xs i hi, Nat.add_mul, ← h]
  have e : zs.take (i + m) = zs.take i ++ (zs.drop i).take m := by rw [List.take_add]
  rw [e, val_append, hli, Nat.pow_add, Nat.mul_assoc, Nat.add_assoc, ← Nat.mul_add, he, Nat.mul_add, Nat.mul_comm (val ys) xs[i]]
  rw [Nat.mul_assoc, Nat.add_assoc]
theorem times_start {zs ys : List Nat} {m : Nat} (h : ∀ x ∈ zs, x = 0) : val (zs.take (0 + m)) = val (List.take 0 ([] : List Nat)) * val ys := by
  have : ∀ l : List Nat, (∀ x ∈ l, x = 0) → val l = 0 := by
    intro l hl
    induction l with
    | nil => rfl
    | cons x l ih => simp only [val]; rw [hl x (by simp), ih (fun y hy => hl y (by simp [hy]))]
  rw [this _ (fun x hx => h x (List.mem_of_mem_take hx))]
  simp [val]
theorem cast_mac2 (a x q z : Nat) : (a : Int) + (z : Int) + (x : Int) * (q : Int) = ((a + (q * x + z) : Nat) : Int) := by
  rw [Int.natCast_add, Int.natCast_add, Int.natCast_mul, Int.mul_comm]; omega
end Go.Proofs.YtmjmcinnbmjpdaaDoor
namespace Go.Proofs.YtmjmcinnbmjpdaaDoor
open Go.RowKit
theorem Mod.alloc {a w : World} {g : Nat} (h : Mod a w g) (o : Obj) : Mod a (w.alloc o) g := h.trans (((Ext.refl w).alloc o).mod g)
theorem Mod.ext' {a b c : World} {g : Nat} (h : Mod a b g) (k : Ext b c) : Mod a c g := h.trans (k.mod g)
theorem split_mid (pre zs post : List Nat) (m : Nat) : pre ++ zs ++ post = (pre ++ zs.take m) ++ zs.drop m ++ post := by
  rw [List.append_assoc pre (zs.take m), List.take_append_drop]
section
variable {A B : Option Addr} {c d m : Nat} {xs ys : List Nat} {w : World}
set_option maxHeartbeats 1000000 in
theorem int_addMultiple {g off n cz : Nat} {pre zs0 post : List Nat} {q : Nat} (hblk0 : BlkN w g (pre ++ zs0 ++ post)) (hoff : pre.length = off) (hn : zs0.length = n) (hw : W32 zs0) (hx : Rd w A xs) (hm : xs.length = m) (hap : Apart A xs g)
    (hl : m ≤ n) (hq : q < 4294967296) (hf : val zs0 + val xs * q < 4294967296 ^ n) (h1 : n ≤ 1000000) (hcz : n ≤ cz) (hczm : cz ≤ maxLen) :
    Calls Tryd.prog 97 #[.slice (some ⟨g, off, none⟩) n cz, .slice A m c, .int .u32 (q : Int)] w (Turned w g pre n post fun zs => val zs = val zs0 + val xs * q) := by
  unfold maxLen at hczm
  have Hoff := Lib.hid hoff
  have Hn := Lib.hid hn
  have Hm := Lib.hid hm
  have Hf := Lib.hid hf
  clear hoff hn hm hf
  go_enter Tryd.func97, Tryd.ntmps97
  go_wp2
  go_loopw [6, 16] (fun cr i wr => ∃ (k : Nat) (zs : List Nat) (cy : Nat), k ≤ m ∧ i = .int .i64 (k : Int) ∧ cr = .int .u64 (cy : Int) ∧ MulInv zs0 xs q k zs cy ∧ BlkN wr g (pre ++ zs ++ post) ∧ Mod w wr g) (fun _ i _ => m - (intOf i).toNat)
  case atStart => exact ⟨0, zs0, 0, by omega, rfl, rfl, MulInv.start hw, hblk0, Mod.refl _ _⟩
  case round =>
    obtain ⟨k, zs, cy, hk, rfl, rfl, hinv, hblk, hmod⟩ := hrel
    have hcy := hinv.hcy
    have hzl : n ≤ zs.length := by rw [hinv.len, Hn.out]; omega
    have hzl2 : zs.length ≤ n := by rw [hinv.len, Hn.out]; omega
    have hxl : m ≤ xs.length := by rw [Hm.out]; omega
    have hxl2 : xs.length ≤ m := by rw [Hm.out]; omega
    by_cases hlt : k < m
    · obtain ⟨b, off', rfl, hb, hc1⟩ := (hx.mod hmod hap).at_ (i := k) (by omega)
      have hxk := hx.1.get (k := k) (by omega)
      obtain ⟨b2, off2, he, hb2, hc2⟩ := (hblk.mid hinv.w32 Hoff.out).at_ (i := k) (by omega)
      injection he with he
      injection he with he1 he2
      subst he1; subst he2
      have hzk := hinv.w32.get (k := k) (by omega)
      have hfz := hblk.frozen (off + k)
      have hmi := (mul_word_int hxk hq).1
      have hmj := (mul_word_int hxk hq).2
      go_wp2
      go_roundw
      case rel => exact ⟨k + 1, _, (cy + (xs[k] * q + zs[k])) / 4294967296, by omega, by go_num, u64_div _ (cast_mac _ _ _ _), hinv.step hx.1 hq (by omega) (by omega) (s := cy + (xs[k] * q + zs[k])) rfl, hblk.setMid Hoff.out (by omega) (u32_mod _ (cast_mac _ _ _ _)), hmod.setCell _ _⟩
      case measure => simp [intOf]; omega
    · have hk' : k = xs.length := by omega
      have hmx : xs.length ≤ zs.length := by omega
      subst hk'
      have Hd := Lib.hid (hinv.done hmx)
      by_cases hc0 : cy = 0
      · subst hc0
        go_wp2
        go_end0
        exact ⟨zs, rfl, by omega, hinv.w32, hblk, by have h := Hd.out; rw [Nat.mul_zero, Nat.add_zero] at h; exact h, hmod⟩
      · have hmn : m < n := by
          rcases Nat.lt_or_ge m n with h | h
          · exact h
          · exact absurd (no_carry (n := n) (by omega) Hd.out (by omega) Hf.out) hc0
        have hc1 : (((cy : Nat) : Int) == 0) = false := by rw [beq_eq_false_iff_ne]; omega
        have hc2 : (((cy : Nat) : Int) != 0) = true := by rw [bne_iff_ne]; omega
        have hcm : m < cz := by omega
        have hcm' : ¬ cz = m := by omega
        have hb1 := hblk.ext ((Ext.refl wr).alloc (.cells #[.int .u32 (cy : Int)] 43))
        have hsp := split_mid pre zs post m
        rw [hsp] at hb1
        have hnew := BlkN.lit wr [cy] #[.int .u32 (cy : Int)] rfl
        have hrd := hnew.rd0 (W32.one hcy)
        have hap2 : Apart (some ⟨wr.heap.size, 0, none⟩) [cy] g := by
          intro _ a ha
          injection ha with ha
          subst ha
          have := hblk.lt
          show wr.heap.size ≠ g
          omega
        have hmod1 := hmod.alloc (.cells #[.int .u32 (cy : Int)] 43)
        have Hsp := Lib.hid hsp
        clear hsp
        go_wp2_with (go_at_call 58; refine (int_addTo (n := n - m) (pre := pre ++ zs.take m) (zs0 := zs.drop m) (post := post) _ _ [cy] _ hb1 (by rw [List.length_append, Hoff.out, List.length_take]; omega) (by rw [List.length_drop]; omega) (hinv.w32.drop m) hrd rfl hap2 (by simp; omega) (by omega)).mono ?_; rintro e w2 ⟨zt, rfl, hzl, hzw, hzb, ⟨c2, hc2, hval⟩, hmod2⟩)
        go_end0
        have hm := Hm.out
        subst hm
        refine ⟨zs.take xs.length ++ zt, rfl, by rw [List.length_append, List.length_take, hzl]; omega, (hinv.w32.take _).append hzw, by rw [← List.append_assoc pre]; exact hzb, ?_, hmod1.trans hmod2⟩
        exact mul_tail (n := n) (c2 := c2) (by omega) Hd.out hl (by rw [hval, val_one]) Hf.out
set_option maxHeartbeats 1000000 in
theorem int_addProduct1 {g off n cz p : Nat} {pre zs0 post : List Nat} (hblk0 : BlkN w g (pre ++ zs0 ++ post)) (hoff : pre.length = off) (hn : zs0.length = n) (hw : W32 zs0) (hx : Rd w A xs) (hm : xs.length = m) (hap : Apart A xs g)
    (hy : Rd w B ys) (hp : ys.length = p) (hbp : Apart B ys g) (hpm : p ≤ m) (hp64 : p < 64) (hl : m + p ≤ n) (hf : val zs0 + val xs * val ys < 4294967296 ^ n) (h1 : n ≤ 1000000) (hcz : n ≤ cz) (hczm : cz ≤ maxLen) :
    Calls Tryd.prog 82 #[.slice (some ⟨g, off, none⟩) n cz, .slice A m c, .slice B p d] w (Turned w g pre n post fun zs => val zs = val zs0 + val xs * val ys) := by
  have Hczm := Lib.hid hczm
  unfold maxLen at hczm
  have Hoff := Lib.hid hoff
  have Hn := Lib.hid hn
  have Hm := Lib.hid hm
  have Hp := Lib.hid hp
  have Hf := Lib.hid hf
  clear hoff hn hm hp hf
  have ht1 : decide ((p : Int) < 64) = true := decide_eq_true (by omega)
  have ht2 : decide ((m : Int) < (p : Int)) = false := decide_eq_false (by omega)
  have ht3 : decide (m < p) = false := decide_eq_false (by omega)
  go_enter Tryd.func82, Tryd.ntmps82
  go_wp2
  go_loopw [26] (fun i wr => ∃ (k : Nat) (zs : List Nat), k ≤ p ∧ i = .int .i64 (k : Int) ∧ zs.length = n ∧ W32 zs ∧ val zs = val zs0 + val xs * val (ys.take k) ∧ BlkN wr g (pre ++ zs ++ post) ∧ Mod w wr g) (fun i _ => p - (intOf i).toNat)
  case atStart => exact ⟨0, zs0, by omega, rfl, Hn.out, hw, by simp [val], hblk0, Mod.refl _ _⟩
  case round =>
    obtain ⟨k, zs, hk, rfl, hzl, hzw, hzv, hblk, hmod⟩ := hrel
    have Hzl := Lib.hid hzl
    have Hzv := Lib.hid hzv
    clear hzl hzv
    have hyl : p ≤ ys.length := by rw [Hp.out]; omega
    have hyl2 : ys.length ≤ p := by rw [Hp.out]; omega
    by_cases hlt : k < p
    · obtain ⟨b, off', rfl, hb, hc1⟩ := (hy.mod hmod hbp).at_ (i := k) (by omega)
      have hyk := hy.1.get (k := k) (by omega)
      have hkc : k < cz := by omega
      have hkc' : ¬ cz = k := by omega
      have hb1 : BlkN wr g ((pre ++ zs.take k) ++ zs.drop k ++ post) := by rw [← split_mid]; exact hblk
      go_wp2_with (go_at_call 97; refine (int_addMultiple (n := n - k) (m := m) (pre := pre ++ zs.take k) (zs0 := zs.drop k) (post := post) (q := ys[k]) hb1 (by rw [List.length_append, Hoff.out, List.length_take, Hzl.out]; omega) (by rw [List.length_drop, Hzl.out]) (hzw.drop k) (hx.mod hmod hap) Hm.out hap (by omega) hyk (prod_fits (by omega) (by omega) Hzl.out Hzv.out Hf.out) (by omega) (by omega) (Nat.le_trans (Nat.sub_le _ _) Hczm.out)).mono ?_; rintro e w2 ⟨zt, rfl, hztl, hztw, hztb, hztv, hmod2⟩)
      go_roundw
      case rel =>
        refine ⟨k + 1, zs.take k ++ zt, by omega, by go_num, ?_, (hzw.take k).append hztw, prod_step (by omega) (by omega) Hzl.out Hzv.out hztv, by rw [← List.append_assoc pre]; exact hztb, hmod.trans hmod2⟩
        have := Hzl.out
        rw [List.length_append, List.length_take, hztl]; omega
      case measure => simp [intOf]; omega
    · have Hfin := Lib.hid (by rw [Hzv.out, List.take_of_length_le (by omega)] : val zs = val zs0 + val xs * val ys)
      go_wp2
      go_end0
      exact ⟨zs, rfl, Hzl.out, hzw, hblk, Hfin.out, hmod⟩
set_option maxHeartbeats 1000000 in
theorem int_addProduct2 {g off n cz p : Nat} {pre zs0 post : List Nat} (hblk0 : BlkN w g (pre ++ zs0 ++ post)) (hoff : pre.length = off) (hn : zs0.length = n) (hw : W32 zs0) (hx : Rd w A xs) (hm : xs.length = m) (hap : Apart A xs g)
    (hy : Rd w B ys) (hp : ys.length = p) (hbp : Apart B ys g) (hpm : m < p) (hp64 : m < 64) (hl : m + p ≤ n) (hf : val zs0 + val xs * val ys < 4294967296 ^ n) (h1 : n ≤ 1000000) (hcz : n ≤ cz) (hczm : cz ≤ maxLen) :
    Calls Tryd.prog 82 #[.slice (some ⟨g, off, none⟩) n cz, .slice A m c, .slice B p d] w (Turned w g pre n post fun zs => val zs = val zs0 + val xs * val ys) := by
  have Hczm := Lib.hid hczm
  unfold maxLen at hczm
  have Hoff := Lib.hid hoff
  have Hn := Lib.hid hn
  have Hm := Lib.hid hm
  have Hp := Lib.hid hp
  have Hf := Lib.hid hf
  clear hoff hn hm hp hf
  have ht1 : decide ((m : Int) < 64) = true := decide_eq_true (by omega)
  have ht2 : decide ((m : Int) < (p : Int)) = true := decide_eq_true (by omega)
  have ht3 : decide (m < p) = true := decide_eq_true (by omega)
  go_enter Tryd.func82, Tryd.ntmps82
  go_wp2
  go_loopw [26] (fun i wr => ∃ (k : Nat) (zs : List Nat), k ≤ m ∧ i = .int .i64 (k : Int) ∧ zs.length = n ∧ W32 zs ∧ val zs = val zs0 + val ys * val (xs.take k) ∧ BlkN wr g (pre ++ zs ++ post) ∧ Mod w wr g) (fun i _ => m - (intOf i).toNat)
  case atStart => exact ⟨0, zs0, by omega, rfl, Hn.out, hw, by simp [val], hblk0, Mod.refl _ _⟩
  case round =>
    obtain ⟨k, zs, hk, rfl, hzl, hzw, hzv, hblk, hmod⟩ := hrel
    have Hzl := Lib.hid hzl
    have Hzv := Lib.hid hzv
    clear hzl hzv
    have hyl : m ≤ xs.length := by rw [Hm.out]; omega
    have hyl2 : xs.length ≤ m := by rw [Hm.out]; omega
    by_cases hlt : k < m
    · obtain ⟨b, off', rfl, hb, hc1⟩ := (hx.mod hmod hap).at_ (i := k) (by omega)
      have hyk := hx.1.get (k := k) (by omega)
      have hkc : k < cz := by omega
      have hkc' : ¬ cz = k := by omega
      have hb1 : BlkN wr g ((pre ++ zs.take k) ++ zs.drop k ++ post) := by rw [← split_mid]; exact hblk
      go_wp2_with (go_at_call 97; refine (int_addMultiple (n := n - k) (m := p) (pre := pre ++ zs.take k) (zs0 := zs.drop k) (post := post) (q := xs[k]) hb1 (by rw [List.length_append, Hoff.out, List.length_take, Hzl.out]; omega) (by rw [List.length_drop, Hzl.out]) (hzw.drop k) (hy.mod hmod hbp) Hp.out hbp (by omega) hyk (prod_fits (by omega) (by omega) Hzl.out Hzv.out (by rw [Nat.mul_comm]; exact Hf.out)) (by omega) (by omega) (Nat.le_trans (Nat.sub_le _ _) Hczm.out)).mono ?_; rintro e w2 ⟨zt, rfl, hztl, hztw, hztb, hztv, hmod2⟩)
      go_roundw
      case rel =>
        refine ⟨k + 1, zs.take k ++ zt, by omega, by go_num, ?_, (hzw.take k).append hztw, prod_step (by omega) (by omega) Hzl.out Hzv.out hztv, by rw [← List.append_assoc pre]; exact hztb, hmod.trans hmod2⟩
        have := Hzl.out
        rw [List.length_append, List.length_take, hztl]; omega
      case measure => simp [intOf]; omega
    · have Hfin := Lib.hid (by rw [Hzv.out, List.take_of_length_le (by omega), Nat.mul_comm] : val zs = val zs0 + val xs * val ys)
      go_wp2
      go_end0
      exact ⟨zs, rfl, Hzl.out, hzw, hblk, Hfin.out, hmod⟩
theorem int_addProduct_s {g off n cz p : Nat} {pre zs0 post : List Nat} (hblk0 : BlkN w g (pre ++ zs0 ++ post)) (hoff : pre.length = off) (hn : zs0.length = n) (hw : W32 zs0) (hx : Rd w A xs) (hm : xs.length = m) (hap : Apart A xs g)
    (hy : Rd w B ys) (hp : ys.length = p) (hbp : Apart B ys g) (h64 : min m p < 64) (hl : m + p ≤ n) (hf : val zs0 + val xs * val ys < 4294967296 ^ n) (h1 : n ≤ 1000000) (hcz : n ≤ cz) (hczm : cz ≤ maxLen) :
    Calls Tryd.prog 82 #[.slice (some ⟨g, off, none⟩) n cz, .slice A m c, .slice B p d] w (Turned w g pre n post fun zs => val zs = val zs0 + val xs * val ys) := by
  by_cases h : p ≤ m
  · exact int_addProduct1 hblk0 hoff hn hw hx hm hap hy hp hbp h (by omega) hl hf h1 hcz hczm
  · exact int_addProduct2 hblk0 hoff hn hw hx hm hap hy hp hbp (by omega) (by omega) hl hf h1 hcz hczm
end
end Go.Proofs.YtmjmcinnbmjpdaaDoor
