/- Walks and laws, part 15. -/
import Derived.Test.YtmjmcinnbmjpdaaDoorMg6
import Derived.Test.YtmjmcinnbmjpdaaDoorMg8
import Derived.Test.YtmjmcinnbmjpdaaDoorMg9
import Derived.Test.YtmjmcinnbmjpdaaDoorMg11
import Derived.Test.YtmjmcinnbmjpdaaDoorMg13
import Derived.Test.YtmjmcinnbmjpdaaDoorMg14
namespace Go.Proofs.YtmjmcinnbmjpdaaDoor
open Go.RowKit
theorem word_pow (k : Nat) : (4294967296 : Nat) ^ k = 2 ^ (32 * k) := by
  rw [Nat.pow_mul]
theorem bitsN_spec {xs : List Nat} (hw : W32 xs) (hn : Nrm xs) (h : 0 < xs.length) : 1 ≤ bitsN xs ∧ 2 ^ (bitsN xs - 1) ≤ val xs ∧ val xs < 2 ^ bitsN xs ∧ bitsN xs ≤ 32 * xs.length := by
  have hlast := hn.last h
  have hX := hw.get (k := xs.length - 1) (by omega)
  obtain ⟨a, b, c, d⟩ := bitLen_bounds hX hlast
  have e := val_take_succ xs (xs.length - 1) (by omega)
  rw [List.take_of_length_le (by omega)] at e
  have hl := val_lt (hw.take (xs.length - 1))
  rw [List.length_take, Nat.min_eq_left (by omega)] at hl
  have hb : bitsN xs = 32 * (xs.length - 1) + Lib.bitLen (xs[xs.length - 1]'(by omega)) := by unfold bitsN; rw [dif_pos h]
  rw [hb, e]
  generalize xs[xs.length - 1]'(by omega) = X at *
  generalize hk : xs.length - 1 = k at *
  refine ⟨by omega, ?_, ?_, by omega⟩
  · rw [show 32 * k + Lib.bitLen X - 1 = 32 * k + (Lib.bitLen X - 1) by omega, Nat.pow_add, ← word_pow]
    have := Nat.mul_le_mul_left (4294967296 ^ k) c
    omega
  · rw [Nat.pow_add, ← word_pow]
    have := Nat.mul_le_mul_left (4294967296 ^ k) (show X + 1 ≤ 2 ^ Lib.bitLen X from d)
    rw [Nat.mul_add] at this
    omega
theorem four_pow (k : Nat) : (4 : Nat) ^ k = 2 ^ (2 * k) := by rw [Nat.pow_mul]
theorem root_start {v b : Nat} (h1 : 1 ≤ b) (h2 : 2 ^ (b - 1) ≤ v) (h3 : v < 2 ^ b) : 4 ^ ((b - 1) / 2) ≤ v ∧ SqInv v ((b - 1) / 2) 0 1 := by
  have a : 4 ^ ((b - 1) / 2) ≤ v := by
    rw [four_pow]
    exact Nat.le_trans (Nat.pow_le_pow_right (by omega) (by omega)) h2
  refine ⟨a, SqInv.start a ?_⟩
  rw [four_pow]
  exact Nat.lt_of_lt_of_le h3 (Nat.pow_le_pow_right (by omega) (by omega))
theorem known_step {L j b : Nat} (hb : L ≠ 0 → 2 ^ (b - 1) ≤ L) (h0 : L ≠ 0) (hj : j < b) : L / 2 ^ (j + 1) < L / 2 ^ j ∧ L / 2 ^ j ≤ L ∧ L / 2 ^ j ≤ 2 * (L / 2 ^ (j + 1)) + 1 := by
  have h1 : 1 ≤ L / 2 ^ j := by
    rw [Nat.le_div_iff_mul_le (Nat.two_pow_pos j), Nat.one_mul]
    exact Nat.le_trans (Nat.pow_le_pow_right (by omega) (by omega)) (hb h0)
  have h2 : L / 2 ^ (j + 1) = L / 2 ^ j / 2 := by rw [Nat.pow_succ, Nat.div_div_eq_div_mul]
  have h3 := Nat.div_le_self L (2 ^ j)
  omega
theorem root_len {v c e n : Nat} {rs : List Nat} (h : SqInv v c e (val rs)) (hv : v < 4294967296 ^ n) (hn : Nrm rs) : rs.length ≤ n + 1 := by
  rcases Nat.lt_or_ge (n + 1) rs.length with hl | hl
  · have g := hn.ge (by rintro rfl; simp at hl)
    have g2 : 4294967296 ^ (n + 1) ≤ 4294967296 ^ (rs.length - 1) := Nat.pow_le_pow_right (by omega) (by omega)
    have hp : 0 < 4294967296 ^ n := Nat.pow_pos (by omega)
    rw [Nat.pow_succ] at g2
    have hr : 4294967296 ^ n + 1 ≤ val rs := by omega
    have lo := h.lo
    have k1 : val rs - 1 ≤ (val rs - 1) * (val rs - 1) := Nat.le_mul_of_pos_left _ (by omega)
    have k2 : (val rs - 1) * (val rs - 1) * 1 ≤ (val rs - 1) * (val rs - 1) * 4 ^ (c - e) := Nat.mul_le_mul_left _ (Nat.pow_pos (by omega))
    omega
  · exact hl
end Go.Proofs.YtmjmcinnbmjpdaaDoor
namespace Go.Proofs.YtmjmcinnbmjpdaaDoor
open Go.RowKit
attribute [local go_sem ↓] Go.wp_at_zero Go.wp_at_succ
theorem sign_of_lt {a b : Int} (h : a < b) : (a - b).sign = -1 := Int.sign_eq_neg_one_of_neg (by omega)
theorem sign_of_gt {a b : Int} (h : b < a) : (a - b).sign = 1 := Int.sign_eq_one_of_pos (by omega)
theorem sign_of_eq {a b : Int} (h : a = b) : (a - b).sign = 0 := by rw [h, Int.sub_self]; rfl
theorem sign_cases (a : Int) : (a < 0 ∧ a.sign = -1) ∨ (a = 0 ∧ a.sign = 0) ∨ (0 < a ∧ a.sign = 1) := by
  rcases Int.lt_trichotomy a 0 with h | h | h
  · exact .inl ⟨h, Int.sign_eq_neg_one_of_neg h⟩
  · exact .inr (.inl ⟨h, by rw [h]; rfl⟩)
  · exact .inr (.inr ⟨h, Int.sign_eq_one_of_pos h⟩)
theorem cmp_sign {s t : Bool} {xs ys : List Nat} (hx : W32 xs) (hy : W32 ys) (σ : Int) (ha : (ival s xs).sign = σ) (hb : (ival t ys).sign = σ) : σ * cmpL (trimL xs) (trimL ys) = (ival s xs - ival t ys).sign := by
  rw [cmpL_nrm hx.trimL hy.trimL (Nrm.trimL xs) (Nrm.trimL ys), val_trimL, val_trimL]
  have h1 := sign_cases (ival s xs)
  have h2 := sign_cases (ival t ys)
  have e1 : ival s xs = if s then -(val xs : Int) else (val xs : Int) := rfl
  have e2 : ival t ys = if t then -(val ys : Int) else (val ys : Int) := rfl
  rw [ha] at h1
  rw [hb] at h2
  clear ha hb
  rcases Nat.lt_trichotomy (val xs) (val ys) with h | h | h
  · rw [cmpI_of_lt h]
    rcases h1 with ⟨h1, rfl⟩ | ⟨h1, rfl⟩ | ⟨h1, rfl⟩
    · rw [sign_of_gt (by cases s <;> cases t <;> simp at e1 e2 h2 <;> omega)]; rfl
    · rw [sign_of_eq (by cases s <;> cases t <;> simp at e1 e2 h2 <;> omega)]; rfl
    · rw [sign_of_lt (by cases s <;> cases t <;> simp at e1 e2 h2 <;> omega)]; rfl
  · rw [cmpI_of_eq h, Int.mul_zero]
    rw [sign_of_eq (by rcases h1 with ⟨h1, rfl⟩ | ⟨h1, rfl⟩ | ⟨h1, rfl⟩ <;> cases s <;> cases t <;> simp at e1 e2 h2 <;> omega)]
  · rw [cmpI_of_gt h, Int.mul_one]
    rcases h1 with ⟨h1, rfl⟩ | ⟨h1, rfl⟩ | ⟨h1, rfl⟩
    · rw [sign_of_lt (by cases s <;> cases t <;> simp at e1 e2 h2 <;> omega)]
    · rw [sign_of_eq (by cases s <;> cases t <;> simp at e1 e2 h2 <;> omega)]
    · rw [sign_of_gt (by cases s <;> cases t <;> simp at e1 e2 h2 <;> omega)]
theorem cmpI_bd (a b : Nat) : -1 ≤ cmpI a b ∧ cmpI a b ≤ 1 := by unfold cmpI; split <;> (try split) <;> omega
theorem cmpL_bd (xs ys : List Nat) : -1 ≤ cmpL xs ys ∧ cmpL xs ys ≤ 1 := by unfold cmpL; split <;> exact cmpI_bd _ _
section
variable {A B : Option Addr} {c d n m : Nat} {xs ys : List Nat} {w : World} {s t : Bool}
end
end Go.Proofs.YtmjmcinnbmjpdaaDoor
namespace Go.Proofs.YtmjmcinnbmjpdaaDoor
open Go.RowKit
attribute [local go_sem ↓] Go.wp_at_zero Go.wp_at_succ
theorem step_append_words {w0 w : World} {ops : Array Oper} {o : Oper} {a : Act} {K : Act → World → Prop} {Q : Exit → Act → World → Prop} {E : Prop} (hgd : o.guard = none) (s x : Operand) (t : TypeId)
    (ho : o.op = .call { callee := .builtin .append, args := #[s, x], argTypes := #[t, t] }) (ht : Tryd.prog.underlying t = some (.slice 43))
    (he : Ext w0 w) (g : Nat) (hs : a.eval s = .slice (some ⟨g, 0, none⟩) 0 0) (hg : w.heap[g]? = some (.cells #[] 43 (0, 0))) (hg0 : w0.heap.size ≤ g)
    {A : Option Addr} {n : Nat} {xs : List Nat} {c : Nat} (hx : a.eval x = .slice A n c) (hn : xs.length = n) (hr : Rd w A xs) (hl : n ≤ 1000000)
    (h : ∀ A' c' w', Own w' w0.heap.size A' xs → n ≤ c' → c' ≤ maxLen → Ext w0 w' → K (a.put o.dst (.slice A' n c')) w') :
    if Region.wanted o (yielded ops a.tmps) = true then Oper.wp Tryd.prog o a w K Q else E := by
  have hw : Region.wanted o (yielded ops a.tmps) = true := by simp [Region.wanted, hgd]
  rw [if_pos hw]
  subst hn
  obtain ⟨i0, hi, hz0, hz1, hz2⟩ := info_parts Tryd.infoW
  obtain ⟨A', c', w', hrun, h1, h2, h3, h4⟩ := run_append_words (P := Tryd.prog) t o.type i0 ht hi hz0 hz1 hz2 he g hg hg0 (c := c) hr hl
  unfold Oper.wp execOp
  simp only [ho, resolve, invoke, builtin, Sem.run_bind, Sem.run_pure, Result.andThen_ok, List.map_toArray, List.map_cons, List.map_nil, hs, hx, hrun]
  exact h A' c' w' h1 h2 h3 h4
section
variable {A B : Option Addr} {c d n m L : Nat} {xs ys : List Nat} {w : World} {s t : Bool}
/-- a copy, word for word. -/
def RetCp (s : Bool) (xs : List Nat) (w : World) (e : Ending) (w' : World) : Prop :=
  ∃ A' c', e = .returned (.agg #[.bool s, .slice A' xs.length c']) ∧ Rd w' A' xs ∧ xs.length ≤ c' ∧ c' ≤ maxLen ∧ Ext w w'
set_option maxHeartbeats 1000000 in
theorem law_cp (hn : xs.length = n) (hx : Rd w A xs) (hl : n ≤ 1000) :
    Calls Tryd.prog 9 #[.agg #[.bool s, .slice A n c]] w (RetCp s xs w) := by
  have Hn := Lib.hid hn
  clear hn
  go_enter Tryd.func9, Tryd.ntmps9
  go_upto_region 1 with (fail)
  obtain ⟨W, hW, extW, bx, bz, hz⟩ := box2 w 24 24 #[.bool s, .slice A n c] #[.bool false, .slice none 0 0]
  rw [← hW]
  clear hW
  have x0 := bx.cell 0 (.bool s) rfl
  have x1 := bx.cell 1 (.slice A n c) rfl
  have z0 := bz.cell 0 (.bool false) rfl
  have z1 := bz.cell 1 (.slice none 0 0) rfl
  have f0 := bz.frozen 0
  have f1 := bz.frozen 1
  go_region_held3 (fun w' => w'.cell? ⟨w.heap.size, 0, none⟩ = some (.bool s) ∧ w'.cell? ⟨w.heap.size, 1, none⟩ = some (.slice A n c)) (first | (go_split_ands; refine ⟨?_, ?_⟩ <;> first | (exact Ext.cellv (by assumption) (by assumption)) | (refine (cell_far2 (by omega)).trans ?_; assumption)) | go_keep)
    ((refine step_append_words (w0 := W) (by rfl) _ _ _ (by rfl) Tryd.underlying22 (((Ext.refl W).drew).alloc _) W.heap.size (by rfl) (heap_alloc_new W.drew _) (Nat.le_refl _) (by rfl) Hn.out (hx.ext (extW.drew.alloc _)) (by omega) ?_; intro A2 c2 w2 ho2 hc2 hm2 ext2; have bz2 := bz.ext ext2; have z20 := bz2.cell 0 (.bool false) rfl; have z21 := bz2.cell 1 (.slice none 0 0) rfl; have f20 := bz2.frozen 0; have f21 := bz2.frozen 1))
  go_wp2_with fail
  obtain ⟨r1, r2, r3, r4⟩ := fin_pair (b := s) (n := n) (c := c2) (extW.trans ext2) (by omega) bz2 ho2.rd
  refine bodyPost_ret (v := .agg #[.bool s, .slice A2 n c2]) (by simp [results, Tryd.results9, go_sem, r3, r4]) rfl ?_
  have hn := Hn.out
  subst hn
  exact ⟨A2, c2, rfl, r1, hc2, hm2, r2⟩

set_option maxHeartbeats 1000000 in
theorem ref_Same (hn : xs.length = n) (hm : xs.length = m) (hx : Rd w A xs) (hy : Rd w B xs) (h1 : n ≤ 100000) :
    Calls Tryd.prog 27 #[.agg #[.bool s, .slice A n c], .agg #[.bool s, .slice B m d]] w fun e w' => e = .returned (.bool true) ∧ Ext w w' := by
  subst hn
  subst hm
  have hcm := Lib.hid (cmpL_self xs)
  go_enter Tryd.func27, Tryd.ntmps27
  go_upto_region 1 with (fail)
  obtain ⟨W, hW, extW, bx, by_, hz⟩ := box2 w 24 24 #[.bool s, .slice A xs.length c] #[.bool s, .slice B xs.length d]
  rw [← hW]
  clear hW
  have x0 := bx.cell 0 (.bool s) rfl
  have x1 := bx.cell 1 (.slice A xs.length c) rfl
  have y0 := by_.cell 0 (.bool s) rfl
  have y1 := by_.cell 1 (.slice B xs.length d) rfl
  go_wp2_with fail
  refine (ref_compare A B c d xs xs W (hx.ext extW) (hy.ext extW) (by unfold maxLen; omega) (by unfold maxLen; omega)).mono ?_
  rintro e w1 ⟨rfl, hext1⟩
  rw [hcm.out]
  go_wp2_with fail
  go_ret
  exact ⟨rfl, extW.trans hext1⟩

set_option maxHeartbeats 1000000 in
theorem law_same (hn : xs.length = n) (hm : xs.length = m) (hx : Rd w A xs) (hy : Rd w B xs) (h1 : n ≤ 100000) :
    Calls Tryd.prog 10 #[.agg #[.bool s, .slice A n c], .agg #[.bool s, .slice B m d]] w fun e w' => e = .returned (.bool true) ∧ Ext w w' := by
  subst hn
  subst hm
  go_enter Tryd.func10, Tryd.ntmps10
  go_upto_region 1 with (fail)
  obtain ⟨W, hW, extW, bx, by_, hz⟩ := box2 w 24 24 #[.bool s, .slice A xs.length c] #[.bool s, .slice B xs.length d]
  rw [← hW]
  clear hW
  have x0 := bx.cell 0 (.bool s) rfl
  have x1 := bx.cell 1 (.slice A xs.length c) rfl
  have y0 := by_.cell 0 (.bool s) rfl
  have y1 := by_.cell 1 (.slice B xs.length d) rfl
  go_wp2_with fail
  refine (ref_Same rfl rfl (hx.ext extW) (hy.ext extW) h1).mono ?_
  rintro e w1 ⟨rfl, hext1⟩
  go_wp2_with fail
  go_ret
  exact ⟨rfl, extW.trans hext1⟩
/-- the two forms of one integer are the same. -/
theorem law_same_int {z : Int} {t : Bool} (hn : xs.length = n) (hm : ys.length = m) (hx : Rd w A xs) (hy : Rd w B ys) (h1 : n ≤ 100000) (ix : IsInt z s xs) (iy : IsInt z t ys) :
    Calls Tryd.prog 10 #[.agg #[.bool s, .slice A n c], .agg #[.bool t, .slice B m d]] w fun e w' => e = .returned (.bool true) ∧ Ext w w' := by
  obtain ⟨rfl, rfl⟩ := ix.unique iy
  exact law_same hn hm hx hy h1

set_option maxHeartbeats 1000000 in
theorem law_is {z : Int} (hn : xs.length = n) (hx : Rd w A xs) (h1 : n ≤ 100000) (ix : IsInt z s xs) (hz1 : -9223372036854775808 ≤ z) (hz2 : z < 9223372036854775808) :
    Calls Tryd.prog 14 #[.agg #[.bool s, .slice A n c], .int .i64 z] w fun e w' => e = .returned (.bool true) ∧ Ext w w' := by
  have Hn := Lib.hid hn
  have Hz1 := Lib.hid hz1
  have Hz2 := Lib.hid hz2
  clear hn hz1 hz2
  go_enter Tryd.func14, Tryd.ntmps14
  go_upto_region 1 with (fail)
  obtain ⟨W, hW, extW, bx, hz⟩ := box1 w 24 #[.bool s, .slice A n c]
  rw [← hW]
  clear hW
  have x0 := bx.cell 0 (.bool s) rfl
  have x1 := bx.cell 1 (.slice A n c) rfl
  go_region_held3 (fun w' => w'.cell? ⟨w.heap.size, 0, none⟩ = some (.bool s) ∧ w'.cell? ⟨w.heap.size, 1, none⟩ = some (.slice A n c)) (first | (go_split_ands; refine ⟨?_, ?_⟩ <;> first | (exact Ext.cellv (by assumption) (by assumption)) | (refine (cell_far2 (by omega)).trans ?_; assumption)) | go_keep)
    (first | (go_at_call 33; refine (ref_FromInt z Hz1.out Hz2.out).mono ?_; rintro e w3 ⟨b3, A3, c3, rs, rfl, hr3, hc3, hm3, hi3, hl3, hext3⟩) | (go_at_call 10; refine (law_same_int Hn.out rfl (hx.ext (extW.trans ((Ext.refl W).drew.trans hext3))) hr3 h1 ix hi3).mono ?_; rintro e w4 ⟨rfl, hext4⟩))
  go_wp2_with fail
  go_ret
  exact ⟨rfl, extW.trans (((Ext.refl W).drew.trans hext3).trans hext4)⟩

end
end Go.Proofs.YtmjmcinnbmjpdaaDoor
namespace Go.Proofs.YtmjmcinnbmjpdaaDoor
open Go.RowKit
attribute [local go_sem ↓] Go.wp_at_zero Go.wp_at_succ
section
variable {A B : Option Addr} {c d n m : Nat} {xs ys : List Nat} {w : World}
theorem clone_blk (hn : xs.length = n) (hx : Rd w A xs) (h0 : 0 < n) (hl : n ≤ 1000000) :
    Calls Tryd.prog 45 #[.slice A n c] w fun e w' => ∃ g c1, e = .returned (.slice (some ⟨g, 0, none⟩) n c1) ∧ BlkN w' g xs ∧ w.heap.size ≤ g ∧ n ≤ c1 ∧ c1 ≤ maxLen ∧ Ext w w' := by
  refine (clone hn hx hl).mono ?_
  rintro e w' ⟨A1, c1, zs, rfl, ho, hc, hm, rfl, ext⟩
  rcases ho.2 with rfl | ⟨g, rfl, hg, hb⟩
  · simp at hn; omega
  · exact ⟨g, c1, by rw [hn], hb, hg, by omega, hm, ext⟩
/-- a block with room for N words, which begins with xs. -/
def Buf (w : World) (g N : Nat) (xs : List Nat) : Prop := ∃ l, BlkN w g (xs ++ l) ∧ N ≤ (xs ++ l).length ∧ W32 l
theorem Buf.rd {w : World} {g N : Nat} {xs : List Nat} (h : Buf w g N xs) (hw : W32 xs) : Rd w (some ⟨g, 0, none⟩) xs := by
  obtain ⟨l, h, _⟩ := h
  have := (h.take xs.length)
  rw [List.take_left'  rfl] at this
  exact this.rd0 hw
theorem Buf.ext {w w' : World} {g N : Nat} {xs : List Nat} (h : Buf w g N xs) (e : Ext w w') : Buf w' g N xs := by
  obtain ⟨l, h, hl⟩ := h
  exact ⟨l, h.ext e, hl⟩
theorem Buf.mod {w w' : World} {g g' N : Nat} {xs : List Nat} (h : Buf w g N xs) (e : Mod w w' g') (hn : g ≠ g') : Buf w' g N xs := by
  obtain ⟨l, h, hl⟩ := h
  exact ⟨l, h.mod e hn, hl⟩
theorem Buf.mono {w : World} {g N M : Nat} {xs : List Nat} (h : Buf w g N xs) (hl : M ≤ N) : Buf w g M xs := by
  obtain ⟨l, h, h2⟩ := h
  exact ⟨l, h, by omega, h2.2⟩
theorem Buf.room {w : World} {g N : Nat} {xs : List Nat} (h : Buf w g N xs) (hw : W32 xs) : Buf w g N [] := by
  obtain ⟨l, h, h2, h3⟩ := h
  exact ⟨xs ++ l, h, h2, hw.append h3⟩
/-- the number that a slice of words holds. -/
def look (w : World) : Value → Nat
  | .slice (some ad) k _ => val ((List.range k).map fun j => match w.cell? ⟨ad.block, ad.off + j, none⟩ with | some (.int _ z) => z.toNat | _ => 0)
  | _ => 0
theorem look_rd {w : World} {g c : Nat} {xs : List Nat} (h : Rd w (some ⟨g, 0, none⟩) xs) : look w (.slice (some ⟨g, 0, none⟩) xs.length c) = val xs := by
  unfold look
  refine congrArg val (List.ext_getElem (by simp) fun i h1 h2 => ?_)
  obtain ⟨b, off, he, _, hc⟩ := h.at_ h2
  injection he with he
  injection he with e1 e2
  subst e1
  subst e2
  simp only [List.getElem_map, List.getElem_range, hc]
  simp
/-- the rounds of reduce. -/
structure RInv (w V : World) (n0 G : Nat) (ga gb gs gt ca cb cs ct : Nat) (xs ys : List Nat) : Prop where
  n0 : xs.length ≤ n0
  wx : W32 xs
  wy : W32 ys
  nx : Nrm xs
  ny : Nrm ys
  le : val ys ≤ val xs
  gcd : Nat.gcd (val xs) (val ys) = G
  bx : Buf V ga xs.length xs
  by_ : Buf V gb xs.length ys
  bs : Buf V gs xs.length []
  bt : Buf V gt xs.length []
  caps : xs.length ≤ ca ∧ xs.length ≤ cb ∧ xs.length ≤ cs ∧ xs.length ≤ ct
  maxs : ca ≤ maxLen ∧ cb ≤ maxLen ∧ cs ≤ maxLen ∧ ct ≤ maxLen
  ne : ga ≠ gb ∧ ga ≠ gs ∧ ga ≠ gt ∧ gb ≠ gs ∧ gb ≠ gt ∧ gs ≠ gt
  lo : w.heap.size ≤ ga ∧ w.heap.size ≤ gb ∧ w.heap.size ≤ gs ∧ w.heap.size ≤ gt
  ext : Ext w V
theorem RInv.lens {w V : World} {n0 G ga gb gs gt ca cb cs ct : Nat} {xs ys : List Nat} (h : RInv w V n0 G ga gb gs gt ca cb cs ct xs ys) : ys.length ≤ xs.length := by
  refine Nat.le_of_not_lt fun hlt => ?_
  have h1 := h.ny.ge (by rintro rfl; simp at hlt)
  have h2 := val_lt h.wx
  have h3 : 4294967296 ^ xs.length ≤ 4294967296 ^ (ys.length - 1) := Nat.pow_le_pow_right (by omega) (by omega)
  have h4 := h.le
  generalize 4294967296 ^ xs.length = p at *
  generalize 4294967296 ^ (ys.length - 1) = q at *
  omega
theorem bits_many {xs : List Nat} (hw : W32 xs) (hn : Nrm xs) (h : 3 ≤ xs.length) : 62 ≤ bitsN xs := by
  refine Nat.le_of_not_lt fun hlt => ?_
  have h1 := (bitsN_spec hw hn (by omega)).2.2.1
  have h2 := hn.ge (by rintro rfl; simp at h)
  have h3 : 2 ^ bitsN xs ≤ 2 ^ 62 := Nat.pow_le_pow_right (by omega) (by omega)
  have h4 : 4294967296 ^ 2 ≤ 4294967296 ^ (xs.length - 1) := Nat.pow_le_pow_right (by omega) (by omega)
  have h5 : (2 : Nat) ^ 62 = 4611686018427387904 := by decide
  have h6 : (4294967296 : Nat) ^ 2 = 18446744073709551616 := by decide
  generalize 4294967296 ^ (xs.length - 1) = p at *
  generalize 2 ^ bitsN xs = q at *
  omega
theorem RInv.extv {w V V' : World} {n0 G ga gb gs gt ca cb cs ct : Nat} {xs ys : List Nat} (h : RInv w V n0 G ga gb gs gt ca cb cs ct xs ys) (e : Ext V V') : RInv w V' n0 G ga gb gs gt ca cb cs ct xs ys :=
  ⟨h.n0, h.wx, h.wy, h.nx, h.ny, h.le, h.gcd, h.bx.ext e, h.by_.ext e, h.bs.ext e, h.bt.ext e, h.caps, h.maxs, h.ne, h.lo, h.ext.trans e⟩
theorem RInv.divide {w V V' : World} {n0 G ga gb gs gt ca cb cs ct : Nat} {xs ys rs l : List Nat} (h : RInv w V n0 G ga gb gs gt ca cb cs ct xs ys) (h3 : 0 < ys.length) (hw : W32 rs) (hn : Nrm rs) (hv : val rs = val xs % val ys) (hl : ys.length ≤ (rs ++ l).length) (hwl : W32 l)
    (hb : BlkN V' ga (rs ++ l)) (md : Mod V V' ga) : RInv w V' n0 G gb ga gs gt cb ca cs ct ys rs ∧ val ys + val rs < val xs + val ys := by
  have hlen := h.lens
  have hpos : 0 < val ys := by
    have := h.ny.ge (by rintro rfl; simp at h3)
    have h2 : 0 < 4294967296 ^ (ys.length - 1) := Nat.pow_pos (by omega)
    omega
  have hlt := Nat.mod_lt (val xs) hpos
  rw [← hv] at hlt
  obtain ⟨c1, c2, c3, c4⟩ := h.caps
  obtain ⟨m1, m2, m3, m4⟩ := h.maxs
  obtain ⟨n1, n2, n3, n4, n5, n6⟩ := h.ne
  obtain ⟨l1, l2, l3, l4⟩ := h.lo
  have h0 := h.n0
  have hle := h.le
  refine ⟨⟨by omega, h.wy, hw, h.ny, hn, by omega, ?_, (h.by_.mod md (Ne.symm n1)).mono hlen, ⟨l, hb, hl, hwl⟩, (h.bs.mod md (Ne.symm n2)).mono hlen, (h.bt.mod md (Ne.symm n3)).mono hlen, ⟨by omega, by omega, by omega, by omega⟩, ⟨m2, m1, m3, m4⟩, ⟨Ne.symm n1, n4, n5, n2, n3, n6⟩, ⟨l2, l1, l3, l4⟩, Mod.ext h.ext md l1⟩, by omega⟩
  rw [hv, ← h.gcd, Nat.gcd_comm (val xs), Nat.gcd_rec (val ys) (val xs), Nat.gcd_comm]
theorem RInv.lehmer {w V V' : World} {n0 G ga gb gs gt ca cb cs ct R S : Nat} {xs ys zs us : List Nat} (h : RInv w V n0 G ga gb gs gt ca cb cs ct xs ys) (hb1 : BlkN V' gs zs) (hb2 : BlkN V' gt us) (hz : zs.length = xs.length) (hu : us.length = xs.length) (hzw : W32 zs) (huw : W32 us) (hR : val zs = R) (hS : val us = S)
    (hlt : S < R) (hsum : R + S ≤ val xs) (hg : Nat.gcd R S = Nat.gcd (val xs) (val ys)) (hy0 : 0 < val ys) (ba : Buf V' ga xs.length xs) (bb : Buf V' gb xs.length []) (e : Ext w V') : RInv w V' n0 G gs gt ga gb cs ct ca cb (trimL zs) (trimL us) ∧ val (trimL zs) + val (trimL us) < val xs + val ys := by
  obtain ⟨c1, c2, c3, c4⟩ := h.caps
  obtain ⟨m1, m2, m3, m4⟩ := h.maxs
  obtain ⟨n1, n2, n3, n4, n5, n6⟩ := h.ne
  obtain ⟨l1, l2, l3, l4⟩ := h.lo
  have h0 := h.n0
  have t1 : (trimL zs).length ≤ xs.length := by rw [← hz]; exact trimL_len zs
  have t2 : (trimL us).length ≤ us.length := trimL_len us
  rw [val_trimL, val_trimL, hR, hS]
  refine ⟨⟨by omega, hzw.trimL, huw.trimL, Nrm.trimL _, Nrm.trimL _, by rw [val_trimL, val_trimL]; omega, by rw [val_trimL, val_trimL, hR, hS, hg]; exact h.gcd, ?_, ?_, (ba.room h.wx).mono t1, bb.mono t1, ⟨by omega, by omega, by omega, by omega⟩, ⟨m3, m4, m1, m2⟩, ⟨n6, Ne.symm n2, Ne.symm n4, Ne.symm n3, Ne.symm n5, n1⟩, ⟨l3, l4, l1, l2⟩, e⟩, by omega⟩
  · refine ⟨zs.drop (trimL zs).length, ?_, ?_⟩
    · have e1 := List.take_append_drop (trimL zs).length zs
      rw [← trimL_take zs] at e1
      rw [e1]; exact hb1
    · refine ⟨by simp; try omega, fun x hx => hzw x (List.mem_of_mem_drop hx)⟩
  · refine ⟨us.drop (trimL us).length, ?_, ?_⟩
    · have e1 := List.take_append_drop (trimL us).length us
      rw [← trimL_take us] at e1
      rw [e1]; exact hb2
    · refine ⟨by simp; try omega, fun x hx => huw x (List.mem_of_mem_drop hx)⟩
/-- what reduce returns. -/
def RetRd (x y n : Nat) (w : World) (e : Ending) (w' : World) : Prop :=
  ∃ A' c' zs B' d' us, e = .returned (.tuple #[.slice A' (List.length zs) c', .slice B' (List.length us) d']) ∧ Rd w' A' zs ∧ Rd w' B' us ∧ zs.length ≤ c' ∧ c' ≤ maxLen ∧ us.length ≤ d' ∧ d' ≤ maxLen ∧ Nrm zs ∧ Nrm us ∧ val us ≤ val zs ∧ us.length ≤ 2 ∧ zs.length ≤ n ∧ Nat.gcd (val zs) (val us) = Nat.gcd x y ∧ Ext w w'
set_option maxRecDepth 100000 in
set_option maxHeartbeats 4000000 in
theorem int_reduce (hn : xs.length = n) (hm : ys.length = m) (hx : Rd w A xs) (hy : Rd w B ys) (hnx : Nrm xs) (hny : Nrm ys) (hle : val ys ≤ val xs) (hmn : m ≤ n) (h2 : 2 < m) (h1 : n ≤ 3000) :
    Calls Tryd.prog 44 #[.slice A n c, .slice B m d] w (RetRd (val xs) (val ys) n w) := by
  have Hn := Lib.hid hn
  have Hm := Lib.hid hm
  have Hle := Lib.hid hle
  clear hn hm hle
  have hx0 := Lib.hid hx.1
  have hy0 := Lib.hid hy.1
  have hmk1 : ∀ W : World, (Instr.makeSlice 48 (.int .i64 0) (.int .i64 (n : Int))).run Tryd.prog W = .ok (.slice (some ⟨W.heap.size, 0, none⟩) 0 n) (W.alloc (.cells (madeCells #[.int .u32 0] n) 43)) := fun W => by
    obtain ⟨i0, hi, hz0, hz1, hz2⟩ := info_parts Tryd.infoW
    have := run_make_rowN (P := Tryd.prog) 48 43 i0 (.int .u32 0) Tryd.underlying48 hi hz0 .i64 .i64 0 n (by omega) (by rw [hz2]; omega) (by omega) W
    rw [hz1, Nat.mul_one] at this
    exact this
  have hmk2 : ∀ W : World, (Instr.makeSlice 48 (.int .i64 (n : Int)) (.int .i64 (n : Int))).run Tryd.prog W = .ok (.slice (some ⟨W.heap.size, 0, none⟩) n n) (W.alloc (.cells (madeCells #[.int .u32 0] n) 43)) := fun W =>
    mk_words 48 Tryd.underlying48 n (by omega) W
  go_enter Tryd.func44, Tryd.ntmps44
  go_upto_region 2 with (fail)
  go_cut [0, 1] (fun a b V => ∃ ga gb ca, a = .slice (some ⟨ga, 0, none⟩) n ca ∧ b = .slice (some ⟨gb, 0, none⟩) m n ∧ BlkN V ga xs ∧ BlkN V gb (ys ++ List.drop m (List.replicate n 0)) ∧ w.heap.size ≤ ga ∧ w.heap.size ≤ gb ∧ ga ≠ gb ∧ n ≤ ca ∧ ca ≤ maxLen ∧ Ext w V)
  case first =>
    go_region_held3 (fun w' => Ext w w') (first | exact (by assumption : Ext w _) | exact (Ext.refl w).drew | exact (Ext.refl w).drew.alloc _ | exact Ext.alloc (by assumption) _ | exact Ext.trans (Ext.refl w).drew (by assumption) | exact Ext.trans ((Ext.refl w).drew.alloc _) (by assumption) | go_keep)
      (first
        | (go_at_call 45; refine (clone_blk Hn.out (hx.ext (by first | exact (Ext.refl w).drew | exact (Ext.refl w).drew.alloc _)) (by omega) (by omega)).mono ?_; rintro e w1 ⟨g1, c1, rfl, hb1, hg1, hc1, hm1, ext1⟩)
        | (refine step_append_fill (ns := List.replicate n 0) (by rfl) _ _ _ (by rfl) Tryd.underlying48 (by rfl) (by first | exact BlkN.new _ n | exact BlkN.ext (w := (w.alloc _).drew) (BlkN.new w n) (by assumption)) (by rfl) Hm.out (hy.ext (by first | exact Ext.alloc (Ext.trans (Ext.refl w).drew (by assumption)) _ | exact Ext.trans ((Ext.refl w).alloc _).drew (by assumption))) (by rw [List.length_replicate]; omega) (by omega) ?_; rintro w2 hb2 md2; have ext2 : Ext w w2 := by first | exact Mod.ext (Ext.alloc (Ext.trans (Ext.refl w).drew (by assumption)) _) md2 (Ext.trans (Ext.refl w).drew (by assumption)).size | exact Mod.ext (Ext.trans ((Ext.refl w).alloc _).drew (by assumption)) md2 (Nat.le_refl _)))
    · go_wp2_with fail
      go_meet
      have hlt := hb1.lt
      exact ⟨g1, w1.heap.size, c1, rfl, rfl, (hb1.ext ((Ext.refl w1).alloc _)).mod md2 (by omega), hb2, hg1, ext1.size, by omega, hc1, hm1, ext2⟩
    · go_wp2_with fail
      go_meet
      have hg2 : w.heap.size + 1 ≤ g1 := by simpa using hg1
      exact ⟨g1, w.heap.size, c1, rfl, rfl, hb1.mod md2 (by omega), hb2, by omega, Nat.le_refl _, by omega, hc1, hm1, ext2⟩
  case rest =>
    clear hx hy
    obtain ⟨ga, gb, ca, rfl, rfl, hba, hbb, hga, hgb, hne, hca, hcam, ext1⟩ := hcut
    go_upto_region 3 with (fail)
    go_cut [7, 8] (fun a b V => ∃ gs gt, a = .slice (some ⟨gs, 0, none⟩) n n ∧ b = .slice (some ⟨gt, 0, none⟩) n n ∧ RInv w V n (Nat.gcd (val xs) (val ys)) ga gb gs gt ca n n n xs ys)
    case first =>
      go_region_held3 (fun w' => Ext wc w') (first | exact (by assumption : Ext wc _) | exact (Ext.refl wc).drew | exact (Ext.refl wc).drew.alloc _ | exact Ext.alloc (by assumption) _ | go_keep) (fail)
      all_goals (go_wp2_with fail; go_meet)
      all_goals (
        have hn := Hn.out
        have hm := Hm.out
        have l1 := hba.lt
        have l2 := hbb.lt
        have e0 := ext1.size
        have k1 : Ext wc (((wc.alloc (.cells (madeCells #[.int .u32 0] n) 43)).alloc (.cells (madeCells #[.int .u32 0] n) 43)).drew) := (((Ext.refl wc).alloc _).alloc _).drew
        have b1 : BlkN (((wc.alloc (.cells (madeCells #[.int .u32 0] n) 43)).alloc (.cells (madeCells #[.int .u32 0] n) 43)).drew) wc.heap.size (List.replicate n 0) := (BlkN.new wc n).ext (((Ext.refl _).alloc _).drew)
        have b2 : BlkN (((wc.alloc (.cells (madeCells #[.int .u32 0] n) 43)).alloc (.cells (madeCells #[.int .u32 0] n) 43)).drew) (wc.heap.size + 1) (List.replicate n 0) := by
          have := BlkN.new (wc.alloc (.cells (madeCells #[.int .u32 0] n) 43)) n
          rw [show (wc.alloc (.cells (madeCells #[.int .u32 0] n) 43)).heap.size = wc.heap.size + 1 by simp] at this
          exact this
        refine ⟨_, _, rfl, rfl, ⟨by omega, hx0.out, hy0.out, hnx, hny, Hle.out, rfl, ?_, ?_, ?_, ?_, by omega, by unfold maxLen at *; omega, by omega, by omega, ext1.trans k1⟩⟩
        · exact ⟨[], by rw [List.append_nil]; exact hba.ext k1, by simp, fun x hx => by cases hx⟩
        · exact ⟨_, hbb.ext k1, by simp; omega, fun x hx => W32.replicate n x (List.mem_of_mem_drop hx)⟩
        · exact ⟨List.replicate n 0, by first | exact b1 | exact b2, by simp; omega, W32.replicate n⟩
        · exact ⟨List.replicate n 0, by first | exact b1 | exact b2, by simp; omega, W32.replicate n⟩)
    case rest =>
      clear hba hbb ext1
      obtain ⟨gs, gt, rfl, rfl, hI⟩ := hcut
      have HI := Lib.hid hI
      clear hI hnx hny
      go_wp2_with fail
      go_loopw [0, 1, 7, 8] (fun a b sa sb V => ∃ (ga gb gs gt ca cb cs ct ps pt : Nat) (us vs : List Nat), a = .slice (some ⟨ga, 0, none⟩) us.length ca ∧ b = .slice (some ⟨gb, 0, none⟩) vs.length cb ∧ sa = .slice (some ⟨gs, 0, none⟩) ps cs ∧ sb = .slice (some ⟨gt, 0, none⟩) pt ct ∧ RInv w V n (Nat.gcd (val xs) (val ys)) ga gb gs gt ca cb cs ct us vs) (fun a b _ _ V => look V a + look V b)
      case atStart => exact ⟨ga, gb, gs, gt, ca, n, n, n, n, n, xs, ys, by rw [Hn.out], by rw [Hm.out], rfl, rfl, HI.out⟩
      case round =>
        clear HI
        obtain ⟨ga, gb, gs, gt, ca, cb, cs, ct, ps, pt, us, vs, rfl, rfl, rfl, rfl, hI⟩ := hrel
        have hru := hI.bx.rd hI.wx
        have hrv := hI.by_.rd hI.wy
        have hn0 := hI.n0
        have HI := Lib.hid hI
        clear hI
        by_cases h3 : vs.length ≤ 2
        · go_wp2_with fail
          have hI := HI.out
          have hc := hI.caps
          have hm := hI.maxs
          have hlb : vs.length ≤ us.length := hI.lens
          exact bodyPost_ret (v := .tuple #[.slice (some ⟨ga, 0, none⟩) us.length ca, .slice (some ⟨gb, 0, none⟩) vs.length cb]) (by simp [results, Tryd.results44, go_sem]) rfl ⟨_, ca, us, _, cb, vs, rfl, hru, hrv, by omega, by omega, by omega, by omega, hI.nx, hI.ny, hI.le, h3, hn0, hI.gcd, hI.ext⟩
        · have hlb : vs.length ≤ us.length := HI.out.lens
          have hb := bitsN_spec HI.out.wx HI.out.nx (by omega)
          have hb65 : 62 ≤ bitsN us := bits_many HI.out.wx HI.out.nx (by omega)
          obtain ⟨k, hk⟩ : ∃ k, bitsN us = k + 62 := ⟨bitsN us - 62, by omega⟩
          have hkb : k ≤ 100000 := by omega
          have hwx : val us / 2 ^ k < 4611686018427387904 := by
            refine Nat.div_lt_of_lt_mul ?_
            have := hb.2.2.1
            rw [hk, Nat.pow_add] at this
            exact this
          have hwy : val vs / 2 ^ k ≤ val us / 2 ^ k := Nat.div_le_div_right HI.out.le
          obtain ⟨a0, ha0⟩ : ∃ a0, val us / 2 ^ k = a0 := ⟨_, rfl⟩
          obtain ⟨b0, hb0⟩ : ∃ b0, val vs / 2 ^ k = b0 := ⟨_, rfl⟩
          have Ha0 := Lib.hid ha0
          have Hb0 := Lib.hid hb0
          rw [ha0] at hwx hwy
          rw [hb0] at hwy
          have Hk := Lib.hid hk
          clear hb hb65 hk ha0 hb0
          go_wp2_with (first | (go_at_call 67; refine (int_bits (n := us.length) rfl hru (by omega)).mono ?_; rintro e w1 ⟨rfl, rfl⟩; rw [Hk.out, show ((k + 62 : Nat) : Int) = (k : Int) + 62 by omega]) | (go_at_call 73; refine (int_window (k := k) rfl (by first | exact hru | exact hrv) (by have := HI.out.caps; omega) (by have := HI.out.maxs; omega) hkb (by omega) (by first | (rw [Ha0.out]; omega) | (rw [Hb0.out]; omega))).mono ?_; rintro e w1 ⟨he, rfl⟩; (first | rw [Ha0.out] at he | rw [Hb0.out] at he); subst he))
          refine (int_simulate hwy hwx).mono ?_
          rintro e w2 ⟨x1, y1, x2, y2, rfl, hst, ext2⟩
          rw [← Ha0.out, ← Hb0.out] at hst
          have Hst := Lib.hid hst
          clear hst
          go_upto_region 7 with (fail)
          obtain ⟨W, hW, extW, bz, hz⟩ := box1 w2 91 #[.int .i64 x1, .int .i64 y1, .int .i64 x2, .int .i64 y2]
          rw [← hW]
          clear hW
          have z0 := bz.cell 0 (.int .i64 x1) rfl
          have z1 := bz.cell 1 (.int .i64 y1) rfl
          have z2 := bz.cell 2 (.int .i64 x2) rfl
          have z3 := bz.cell 3 (.int .i64 y2) rfl
          have hI2 := HI.out.extv (ext2.trans extW)
          have HI2 := Lib.hid hI2
          have lts : ga < w2.heap.size ∧ gb < w2.heap.size ∧ gs < w2.heap.size ∧ gt < w2.heap.size := by
            obtain ⟨_, b1, _⟩ := HI.out.bx
            obtain ⟨_, b2, _⟩ := HI.out.by_
            obtain ⟨_, b3, _⟩ := HI.out.bs
            obtain ⟨_, b4, _⟩ := HI.out.bt
            have := ext2.size
            exact ⟨by have := b1.lt; omega, by have := b2.lt; omega, by have := b3.lt; omega, by have := b4.lt; omega⟩
          have hzlt := bz.lt
          clear hI2 ext2 extW hru hrv
          by_cases hy1 : y1 = 0
          · have hyb : (y1 == 0) = true := by simp [hy1]
            have Hyb := Lib.hid hyb
            clear hyb hy1
            go_wp2_with (go_at_call 74; refine (int_none (x1 := x1) (y1 := y1) (x2 := x2) (y2 := y2)).mono ?_; rintro e w3 ⟨he, ext3⟩; rw [Hyb.out] at he; subst he)
            have hI3 := HI2.out.extv ext3
            refine (divide_ok _ _ ca cb us.length vs.length us vs _ rfl rfl (hI3.bx.rd hI3.wx) (hI3.by_.rd hI3.wy) (by have := hI3.caps; omega) (by have := hI3.maxs; omega) (by have := hI3.caps; omega) (by have := hI3.maxs; omega) hI3.nx hI3.ny (by omega) (by omega) (by omega)).mono ?_
            rintro e w4 ⟨Aq, cq, qs, Ar, cr, rs, rfl, hoq, hor, hcq, hmq, hcr, hmr, ⟨hq1, hr1, hq2, hr2, hq3, hr3⟩, ext4⟩
            have hI4 := hI3.extv ext4
            have HI4 := Lib.hid hI4
            have Hr1 := Lib.hid hr1
            obtain ⟨l, hbl, hll, hlw⟩ := hI4.bx
            have hrr := hor.rd
            have hw4 := hor.1
            clear hI4 hI3 hq1 hr1 hoq
            go_wp2_with (at_builtin; refine wpList_append_fill rfl _ _ _ rfl Tryd.underlying48 rfl hbl rfl rfl hrr (by simp; omega) (by have := HI4.out.caps; omega) ?_; intro w5 hb5 md5)
            obtain ⟨hnew, hdec⟩ := HI4.out.divide (by omega) hw4 hr2 Hr1.out (by simp; omega) (fun x hx => (HI4.out.wx.append hlw) x (List.mem_of_mem_drop hx)) hb5 md5
            refine ⟨⟨gb, ga, gs, gt, cb, ca, cs, ct, ps, pt, vs, rs, rfl, rfl, rfl, rfl, hnew⟩, ?_⟩
            rw [look_rd (hnew.bx.rd hnew.wx), look_rd (hnew.by_.rd hnew.wy), look_rd (HI.out.bx.rd HI.out.wx), look_rd (HI.out.by_.rd HI.out.wy)]
            exact hdec
          · have hyb : (y1 == 0) = false := by simp [hy1]
            have Hyb := Lib.hid hyb
            have Hu := Lib.hid (Hst.out.use hy1 (by rw [Ha0.out]; exact hwx))
            clear hyb hy1 Hst Ha0 Hb0 hwx hwy
            obtain ⟨hcap1, hcap2, hcap3, hcap4⟩ := HI2.out.caps
            obtain ⟨hmax1, hmax2, hmax3, hmax4⟩ := HI2.out.maxs
            go_upto_region 12 with (go_at_call 74; refine (int_none (x1 := x1) (y1 := y1) (x2 := x2) (y2 := y2)).mono ?_; rintro e w3 ⟨he, ext3⟩; rw [Hyb.out] at he; subst he)
            have hbv : BlkN w3 gb (vs ++ List.replicate (us.length - vs.length) 0 ++ []) ∨ True := .inr trivial
            obtain ⟨l, hbl, hll, _⟩ := (HI2.out.extv ext3).by_
            have hbl2 := hbl.take us.length
            have hq : vs.length + (us.length - vs.length) = ((vs ++ l).take us.length).length := by rw [List.length_take]; omega
            have hbe : ((vs ++ l).take us.length).take vs.length = vs := by rw [List.take_take, Nat.min_eq_left hlb, List.take_left' rfl]
            obtain ⟨w4, hb4, md4, hcl⟩ := run_clear_words 48 0 Tryd.underlying48 hbl2 hq.symm.symm
            rw [hbe] at hb4
            have Hcl := Lib.hid hcl
            clear hq hbe hbl hbl2 hll hbv hcl
            go_cut [] (fun V => V = w4)
            case first =>
              by_cases hcv : cb = vs.length
              · subst hcv
                go_wp2_with fail
                have hz0 : us.length - vs.length = 0 := by omega
                have H0 := Hcl.out 0 0 (.inr hz0)
                rw [hz0] at H0
                rw [H0]
                clear hz0 H0
                go_wp2_with fail
                go_meet
                try rfl
              · go_wp2_with fail
                all_goals (first | omega | (rw [Hcl.out _ _ (by omega)]; go_wp2_with fail; go_meet; try rfl))
            case rest =>
              subst hcut
              have hI3 := HI2.out.extv ext3
              have b3a := hI3.bx.mod md4 hI3.ne.1
              have b3s := hI3.bs.mod md4 (Ne.symm hI3.ne.2.2.2.1)
              have b3t := hI3.bt.mod md4 (Ne.symm hI3.ne.2.2.2.2.1)
              have z0 := (md4.cell (by show w2.heap.size < w3.heap.size; have := ext3.size; omega) (by show w2.heap.size ≠ gb; omega)).trans (ext3.cellv z0)
              have z1 := (md4.cell (by show w2.heap.size < w3.heap.size; have := ext3.size; omega) (by show w2.heap.size ≠ gb; omega)).trans (ext3.cellv z1)
              have z2 := (md4.cell (by show w2.heap.size < w3.heap.size; have := ext3.size; omega) (by show w2.heap.size ≠ gb; omega)).trans (ext3.cellv z2)
              have z3 := (md4.cell (by show w2.heap.size < w3.heap.size; have := ext3.size; omega) (by show w2.heap.size ≠ gb; omega)).trans (ext3.cellv z3)
              obtain ⟨R, S, hR, hS, hlt, hsum, hg, hs1, hs2, ⟨p1, p2, p3, p4⟩, q1, q2, q3, q4⟩ := Hu.out
              have hvp : val (vs ++ List.replicate (us.length - vs.length) 0) = val vs := by rw [val_append, val_replicate, Nat.mul_zero, Nat.add_zero]
              have hyl : (vs ++ List.replicate (us.length - vs.length) 0).length = us.length := by simp; omega
              have hyw : W32 (vs ++ List.replicate (us.length - vs.length) 0) := W32.append hI3.wy (W32.replicate _)
              obtain ⟨e1, e2, e3, e4, e5, e6⟩ := hI3.ne
              generalize vs ++ List.replicate (us.length - vs.length) 0 = yz at *
              have Hvp := Lib.hid hvp
              have Hyl := Lib.hid hyl
              rw [← hvp] at hR hS
              have HR := Lib.hid hR
              have HS := Lib.hid hS
              have Hlt := Lib.hid hlt
              have Hsum := Lib.hid hsum
              have Hg := Lib.hid hg
              have hba := b3a.rd hI3.wx
              have hbb := hb4.rd0 hyw
              obtain ⟨ls, hbs, hls, hlsw⟩ := b3s
              obtain ⟨lt, hbt, hlt2, hltw⟩ := b3t
              rw [List.nil_append] at hbs hls hbt hlt2
              have hbs2 := hbs.take us.length
              have hbt2 := hbt.take us.length
              have HI3 := Lib.hid hI3
              clear hR hS hlt hsum hg hvp hyl hI3 Hu hbs hbt
              have hlR : R < 4294967296 ^ us.length := by have := val_lt HI3.out.wx; have := Hsum.out; omega
              have hlS : S < 4294967296 ^ us.length := by have := Hlt.out; omega
              have HlR := Lib.hid hlR
              have HlS := Lib.hid hlS
              clear hlR hlS
              have hls1 : (ls.take us.length).length = us.length := by rw [List.length_take]; omega
              have hlt1 : (lt.take us.length).length = us.length := by rw [List.length_take]; omega
              have Hls1 := Lib.hid hls1
              have Hlt1 := Lib.hid hlt1
              have hws := hlsw.take us.length
              have hwt := hltw.take us.length
              have hap1 : Apart (some ⟨ga, 0, none⟩) us gs := fun _ a ha => by injection ha with ha; subst ha; exact e2
              have hap2 : Apart (some ⟨gb, 0, none⟩) yz gs := fun _ a ha => by injection ha with ha; subst ha; exact e4
              have hap3 : Apart (some ⟨ga, 0, none⟩) us gt := fun _ a ha => by injection ha with ha; subst ha; exact e3
              have hap4 : Apart (some ⟨gb, 0, none⟩) yz gt := fun _ a ha => by injection ha with ha; subst ha; exact e5
              generalize ls.take us.length = l1 at *
              generalize lt.take us.length = l2 at *
              clear hls1 hlt1
              go_upto_region 13 with (fail)
              have hgz : w2.heap.size < wc.heap.size := cell_lt z0
              have ne1 : w2.heap.size ≠ gs := by omega
              have ne2 : w2.heap.size ≠ gt := by omega
              go_region_held3 (fun w' => w'.cell? ⟨w2.heap.size, 0, none⟩ = some (.int .i64 x1) ∧ w'.cell? ⟨w2.heap.size, 1, none⟩ = some (.int .i64 y1)) (first | (go_split_ands; refine ⟨?_, ?_⟩ <;> assumption) | go_keep)
                ((go_at_call 75; refine (int_combine (w := wc.drew) (n := us.length) (xs := us) (ys := yz) (hbs2.ext (Ext.refl wc).drew) Hls1.out hws (hba.ext (Ext.refl wc).drew) rfl hap1 (hbb.ext (Ext.refl wc).drew) Hyl.out hap2 hs1 p1 p2 p3 p4 HR.out HlR.out (by omega) hcap1 hmax1 hcap2 hmax2 hcap3 hmax3).mono ?_; rintro e w5 ⟨zs, rfl, hzl, hzb, hzw, hzv, md5⟩; have t0 := (md5.cell hgz ne1).trans z0; have t1 := (md5.cell hgz ne1).trans z1; have t2 := (md5.cell hgz ne1).trans z2; have t3 := (md5.cell hgz ne1).trans z3))
              have M5 : Mod wc w5 gs := ((Ext.refl wc).drew.mod gs).trans md5
              have c5a := hba.mod M5 hap1
              have c5b := hbb.mod M5 hap2
              have c5t := hbt2.mod M5 (Ne.symm e6)
              have b5a := b3a.mod M5 e2
              have b5b := hb4.mod M5 e4
              have hg5 : w2.heap.size < w5.heap.size := cell_lt t0
              have Hzl := Lib.hid hzl
              have Hzv := Lib.hid hzv
              clear hzl hzv z0 z1 z2 z3 hba hbb hbt2 hbs2 b3a hb4
              go_upto_region 14 with (fail)
              go_region_held3 (fun w' => w'.cell? ⟨w2.heap.size, 2, none⟩ = some (.int .i64 x2) ∧ w'.cell? ⟨w2.heap.size, 3, none⟩ = some (.int .i64 y2)) (first | (go_split_ands; refine ⟨?_, ?_⟩ <;> assumption) | go_keep)
                ((go_at_call 75; refine (int_combine (w := w5.drew) (n := us.length) (xs := us) (ys := yz) (c5t.ext (Ext.refl w5).drew) Hlt1.out hwt (c5a.ext (Ext.refl w5).drew) rfl hap3 (c5b.ext (Ext.refl w5).drew) Hyl.out hap4 hs2 q1 q2 q3 q4 HS.out HlS.out (by omega) hcap1 hmax1 hcap2 hmax2 hcap4 hmax4).mono ?_; rintro e w6 ⟨ts, rfl, htl, htw, htb, htv, md6⟩; have v2 := (md6.cell hg5 ne2).trans t2; have v3 := (md6.cell hg5 ne2).trans t3))
              have M6 : Mod w5 w6 gt := ((Ext.refl w5).drew.mod gt).trans md6
              have hI3 := HI3.out
              have E4 := Mod.ext hI3.ext md4 hI3.lo.2.1
              have E5 := Mod.ext E4 M5 hI3.lo.2.2.1
              have E6 := Mod.ext E5 M6 hI3.lo.2.2.2
              have hvs : 0 < val vs := by
                have := hI3.ny.ge (by rintro rfl; simp at h3)
                have h5 : 0 < 4294967296 ^ (vs.length - 1) := Nat.pow_pos (by omega)
                omega
              obtain ⟨hnew, hdec⟩ := hI3.lehmer (hzw.mod M6 e6) htb Hzl.out htl hzb htw Hzv.out htv Hlt.out Hsum.out Hg.out hvs (b5a.mod M6 e3) ⟨yz, b5b.mod M6 e5, by have := Hyl.out; rw [List.nil_append]; omega, hyw⟩ E6
              have HN := Lib.hid (And.intro hnew hdec)
              clear hnew hdec hI3 E4 E5 E6 htl htv
              go_wp2_with fail
              obtain ⟨hnew, hdec⟩ := HN.out
              refine ⟨⟨gs, gt, ga, gb, cs, ct, ca, cb, _, _, trimL zs, trimL ts, rfl, rfl, rfl, rfl, hnew⟩, ?_⟩
              rw [look_rd (hnew.bx.rd hnew.wx), look_rd (hnew.by_.rd hnew.wy), look_rd (HI.out.bx.rd HI.out.wx), look_rd (HI.out.by_.rd HI.out.wy)]
              exact hdec
end
end Go.Proofs.YtmjmcinnbmjpdaaDoor
