/- Walks: what the laws themselves call: copies, sizes, sameness. -/
import Derived.Test.YtmjmcinnbmjpdaaWk
import Derived.Test.YtmjmcinnbmjpdaaWd5
namespace Go.Proofs.Ytmjmcinnbmjpdaa
open Go.RowKit
attribute [local go_sem ↓] Go.wp_at_zero Go.wp_at_succ
theorem step_append_words {w0 w : World} {ops : Array Oper} {o : Oper} {a : Act} {K : Act → World → Prop} {Q : Exit → Act → World → Prop} {E : Prop} (hgd : o.guard = none) (s x : Operand) (t : TypeId)
    (ho : o.op = .call { callee := .builtin .append, args := #[s, x], argTypes := #[t, t] }) (ht : Try.prog.underlying t = some (.slice 46))
    (he : Ext w0 w) (g : Nat) (hs : a.eval s = .slice (some ⟨g, 0, none⟩) 0 0) (hg : w.heap[g]? = some (.cells #[] 46 (0, 0))) (hg0 : w0.heap.size ≤ g)
    {A : Option Addr} {n : Nat} {xs : List Nat} {c : Nat} (hx : a.eval x = .slice A n c) (hn : xs.length = n) (hr : Rd w A xs) (hl : n ≤ 1000000)
    (h : ∀ A' c' w', Own w' w0.heap.size A' xs → n ≤ c' → c' ≤ maxLen → Ext w0 w' → K (a.put o.dst (.slice A' n c')) w') :
    if Region.wanted o (yielded ops a.tmps) = true then Oper.wp Try.prog o a w K Q else E := by
  have hw : Region.wanted o (yielded ops a.tmps) = true := by simp [Region.wanted, hgd]
  rw [if_pos hw]
  subst hn
  obtain ⟨i0, hi, hz0, hz1, hz2⟩ := info_parts Try.infoW
  obtain ⟨A', c', w', hrun, h1, h2, h3, h4⟩ := run_append_words (P := Try.prog) t o.type i0 ht hi hz0 hz1 hz2 he g hg hg0 (c := c) hr hl
  unfold Oper.wp execOp
  simp only [ho, resolve, invoke, builtin, Sem.run_bind, Sem.run_pure, Result.andThen_ok, List.map_toArray, List.map_cons, List.map_nil, hs, hx, hrun]
  exact h A' c' w' h1 h2 h3 h4
section
variable {A B : Option Addr} {c d n m L : Nat} {xs ys : List Nat} {w : World} {s t : Bool}
/-- a copy, word for word. -/
def RetCp (s : Bool) (xs : List Nat) (w : World) (e : Ending) (w' : World) : Prop :=
  ∃ A' c', e = .returned (.agg #[.bool s, .slice A' xs.length c']) ∧ Rd w' A' xs ∧ xs.length ≤ c' ∧ c' ≤ maxLen ∧ Ext w w'
set_option maxHeartbeats 1000000 in
theorem law_cp (hn : xs.length = n) (hx : Rd w A xs) (hl : n ≤ 1000) :
    Calls Try.prog 13 #[.agg #[.bool s, .slice A n c]] w (RetCp s xs w) := by
  have Hn := Lib.hid hn
  clear hn
  go_enter Try.func13, Try.ntmps13
  go_upto_region 1 with (fail)
  obtain ⟨W, hW, extW, bx, bz, hz⟩ := box2 w 24 24 #[.bool s, .slice A n c] #[.bool false, .slice none 0 0]
  rw [← hW]
  clear hW
  have x0 := bx.cell 0 (.bool s) rfl
  have x1 := bx.cell 1 (.slice A n c) rfl
  have z0 := bz.cell 0 (.bool false) rfl
  have z1 := bz.cell 1 (.slice none 0 0) rfl
  have f0 := bz.frozen 0
  have f1 := bz.frozen 1
  go_region_held3 (fun w' => w'.cell? ⟨w.heap.size, 0, none⟩ = some (.bool s) ∧ w'.cell? ⟨w.heap.size, 1, none⟩ = some (.slice A n c)) (first | (go_split_ands; refine ⟨?_, ?_⟩ <;> first | (exact Ext.cellv (by assumption) (by assumption)) | (refine (cell_far2 (by omega)).trans ?_; assumption)) | go_keep)
    ((refine step_append_words (w0 := W) (by rfl) _ _ _ (by rfl) Try.underlying22 (((Ext.refl W).drew).alloc _) W.heap.size (by rfl) (heap_alloc_new W.drew _) (Nat.le_refl _) (by rfl) Hn.out (hx.ext (extW.drew.alloc _)) (by omega) ?_; intro A2 c2 w2 ho2 hc2 hm2 ext2; have bz2 := bz.ext ext2; have z20 := bz2.cell 0 (.bool false) rfl; have z21 := bz2.cell 1 (.slice none 0 0) rfl; have f20 := bz2.frozen 0; have f21 := bz2.frozen 1))
  go_wp2_with fail
  obtain ⟨r1, r2, r3, r4⟩ := fin_pair (b := s) (n := n) (c := c2) (extW.trans ext2) (by omega) bz2 ho2.rd
  refine bodyPost_ret (v := .agg #[.bool s, .slice A2 n c2]) (by simp [results, Try.results13, go_sem, r3, r4]) rfl ?_
  have hn := Hn.out
  subst hn
  exact ⟨A2, c2, rfl, r1, hc2, hm2, r2⟩

set_option maxHeartbeats 1000000 in
theorem ref_Same (hn : xs.length = n) (hm : xs.length = m) (hx : Rd w A xs) (hy : Rd w B xs) (h1 : n ≤ 100000) :
    Calls Try.prog 47 #[.agg #[.bool s, .slice A n c], .agg #[.bool s, .slice B m d]] w fun e w' => e = .returned (.bool true) ∧ Ext w w' := by
  subst hn
  subst hm
  have hcm := Lib.hid (cmpL_self xs)
  go_enter Try.func47, Try.ntmps47
  go_upto_region 1 with (fail)
  obtain ⟨W, hW, extW, bx, by_, hz⟩ := box2 w 24 24 #[.bool s, .slice A xs.length c] #[.bool s, .slice B xs.length d]
  rw [← hW]
  clear hW
  have x0 := bx.cell 0 (.bool s) rfl
  have x1 := bx.cell 1 (.slice A xs.length c) rfl
  have y0 := by_.cell 0 (.bool s) rfl
  have y1 := by_.cell 1 (.slice B xs.length d) rfl
  go_wp2_with fail
  refine (ref_compare A B c d xs xs W (hx.ext extW) (hy.ext extW) (by unfold maxLen; omega) (by unfold maxLen; omega)).mono ?_
  rintro e w1 ⟨rfl, hext1⟩
  rw [hcm.out]
  go_wp2_with fail
  go_ret
  exact ⟨rfl, extW.trans hext1⟩

set_option maxHeartbeats 1000000 in
theorem law_same (hn : xs.length = n) (hm : xs.length = m) (hx : Rd w A xs) (hy : Rd w B xs) (h1 : n ≤ 100000) :
    Calls Try.prog 15 #[.agg #[.bool s, .slice A n c], .agg #[.bool s, .slice B m d]] w fun e w' => e = .returned (.bool true) ∧ Ext w w' := by
  subst hn
  subst hm
  go_enter Try.func15, Try.ntmps15
  go_upto_region 1 with (fail)
  obtain ⟨W, hW, extW, bx, by_, hz⟩ := box2 w 24 24 #[.bool s, .slice A xs.length c] #[.bool s, .slice B xs.length d]
  rw [← hW]
  clear hW
  have x0 := bx.cell 0 (.bool s) rfl
  have x1 := bx.cell 1 (.slice A xs.length c) rfl
  have y0 := by_.cell 0 (.bool s) rfl
  have y1 := by_.cell 1 (.slice B xs.length d) rfl
  go_wp2_with fail
  refine (ref_Same rfl rfl (hx.ext extW) (hy.ext extW) h1).mono ?_
  rintro e w1 ⟨rfl, hext1⟩
  go_wp2_with fail
  go_ret
  exact ⟨rfl, extW.trans hext1⟩
/-- the two forms of one integer are the same. -/
theorem law_same_int {z : Int} {t : Bool} (hn : xs.length = n) (hm : ys.length = m) (hx : Rd w A xs) (hy : Rd w B ys) (h1 : n ≤ 100000) (ix : IsInt z s xs) (iy : IsInt z t ys) :
    Calls Try.prog 15 #[.agg #[.bool s, .slice A n c], .agg #[.bool t, .slice B m d]] w fun e w' => e = .returned (.bool true) ∧ Ext w w' := by
  obtain ⟨rfl, rfl⟩ := ix.unique iy
  exact law_same hn hm hx hy h1

set_option maxHeartbeats 1000000 in
theorem law_is {z : Int} (hn : xs.length = n) (hx : Rd w A xs) (h1 : n ≤ 100000) (ix : IsInt z s xs) (hz1 : -9223372036854775808 ≤ z) (hz2 : z < 9223372036854775808) :
    Calls Try.prog 43 #[.agg #[.bool s, .slice A n c], .int .i64 z] w fun e w' => e = .returned (.bool true) ∧ Ext w w' := by
  have Hn := Lib.hid hn
  have Hz1 := Lib.hid hz1
  have Hz2 := Lib.hid hz2
  clear hn hz1 hz2
  go_enter Try.func43, Try.ntmps43
  go_upto_region 1 with (fail)
  obtain ⟨W, hW, extW, bx, hz⟩ := box1 w 24 #[.bool s, .slice A n c]
  rw [← hW]
  clear hW
  have x0 := bx.cell 0 (.bool s) rfl
  have x1 := bx.cell 1 (.slice A n c) rfl
  go_region_held3 (fun w' => w'.cell? ⟨w.heap.size, 0, none⟩ = some (.bool s) ∧ w'.cell? ⟨w.heap.size, 1, none⟩ = some (.slice A n c)) (first | (go_split_ands; refine ⟨?_, ?_⟩ <;> first | (exact Ext.cellv (by assumption) (by assumption)) | (refine (cell_far2 (by omega)).trans ?_; assumption)) | go_keep)
    (first | (go_at_call 25; refine (ref_FromInt z Hz1.out Hz2.out).mono ?_; rintro e w3 ⟨b3, A3, c3, rs, rfl, hr3, hc3, hm3, hi3, hl3, hext3⟩) | (go_at_call 15; refine (law_same_int Hn.out rfl (hx.ext (extW.trans ((Ext.refl W).drew.trans hext3))) hr3 h1 ix hi3).mono ?_; rintro e w4 ⟨rfl, hext4⟩))
  go_wp2_with fail
  go_ret
  exact ⟨rfl, extW.trans (((Ext.refl W).drew.trans hext3).trans hext4)⟩

end
end Go.Proofs.Ytmjmcinnbmjpdaa
