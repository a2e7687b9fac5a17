/- Walks and laws, part 19. -/
import Derived.Test.YtmjmcinnbmjpdaaDoorMt8
import Derived.Test.YtmjmcinnbmjpdaaDoorMt9
import Derived.Test.YtmjmcinnbmjpdaaDoorMt14
import Derived.Test.YtmjmcinnbmjpdaaDoorMt18
namespace Go.Proofs.YtmjmcinnbmjpdaaDoor
open Go.RowKit
theorem nrm_small {zs : List Nat} (_hw : W32 zs) (hn : Nrm zs) (h : val zs ≤ 4294967295) : zs.length ≤ 1 :=
  nrm_len_le (xs := [4294967295]) (W32.one (by omega)) hn (by rw [val_one]; exact h)
section
variable {A B : Option Addr} {c d n m : Nat} {xs ys : List Nat} {w : World} {s t : Bool}
theorem bits_99 (hx : Rd w A [99]) : Calls Tryd.prog 67 #[.slice A 1 c] w fun e w' => e = .returned (.int .i64 7) ∧ w = w' := by
  have h := int_binaryDigits (c := c) (n := 1) rfl hx (by omega)
  exact h.mono fun e w' ⟨h1, h2⟩ => ⟨h1, h2⟩
theorem len_3 : Calls Tryd.prog 66 #[.int .u64 3] w fun e w' => e = .returned (.int .i64 2) ∧ w = w' :=
  (lenU 3 w (by omega) (by omega)).mono fun e w' ⟨h1, h2⟩ => ⟨h1, h2⟩
set_option maxHeartbeats 4000000 in
theorem squareRoot_99 (hx : Rd w A [99]) (hc : 1 ≤ c) (hcm : c ≤ maxLen) :
    Calls Tryd.prog 42 #[.slice A 1 c] w (RetN (fun zs => val zs = 9 ∧ Nrm zs ∧ zs.length ≤ 1) w) := by
  go_enter Tryd.func42, Tryd.ntmps42
  have hnew := BlkN.lit w [1] #[.int .u32 1] rfl
  have hrd := hnew.rd0 (W32.one (by omega))
  go_wp2_with (first | (go_at_call 67; refine (bits_99 hx).mono ?_; rintro e w2 ⟨rfl, rfl⟩) | (go_at_call 66; refine len_3.mono ?_; rintro e w2 ⟨rfl, rfl⟩))
  go_loopw [4, 5, 6] (fun r kn i wr => ∃ (A1 : Option Addr) (c1 : Nat) (rs : List Nat), r = .slice A1 rs.length c1 ∧ Rd wr A1 rs ∧ rs.length ≤ c1 ∧ c1 ≤ maxLen ∧ Nrm rs ∧ rs.length ≤ 1 ∧ Ext w wr ∧ ((i = .int .i64 1 ∧ kn = .int .i64 0 ∧ val rs = 1) ∨ (i = .int .i64 0 ∧ kn = .int .i64 1 ∧ val rs = 2) ∨ (i = .int .i64 (-1) ∧ kn = .int .i64 3 ∧ val rs = 10))) (fun _ _ i _ => (intOf i + 1).toNat)
  case atStart => exact ⟨_, 1, [1], rfl, hrd, by simp, by unfold maxLen; omega, Nrm.one (by omega), by simp, (Ext.refl w).alloc _, .inl ⟨rfl, rfl, val_one 1⟩⟩
  case round =>
    obtain ⟨A1, c1, rs, rfl, hr, hc1, hm1, hnr, hl1, hext, hcase⟩ := hrel
    have hpos : 0 < rs.length := by
      rcases Nat.eq_zero_or_pos rs.length with h | h
      · have h0 : rs = [] := List.length_eq_zero_iff.1 h
        subst h0
        have : val [] = 0 := rfl
        omega
      · exact h
    rcases hcase with ⟨rfl, rfl, hv⟩ | ⟨rfl, rfl, hv⟩ | ⟨rfl, rfl, hv⟩
    · replace hv := Lib.hid hv
      go_wp2_with (first | (go_at_call 68; refine (int_shiftRight (k := 6) (xs := [99]) (n := 1) rfl (hx.ext hext) hc hcm (by omega) (by omega)).mono ?_; rintro e w2 ⟨A2, c2, s2, rfl, ho2, hc2, hm2, ⟨hv2, hn2, hl2⟩, hxt2⟩; replace hv2 := Lib.hid hv2) | (go_at_call 30; refine (divide_two _ _ _ _ _ _ _ _ _ rfl rfl ho2.rd (hr.ext hxt2) hc2 hm2 hc1 hm1 hn2 hnr hpos (by omega) (by omega)).mono ?_; rintro e w3 ⟨A3, c3, q3, A4, c4, r4, rfl, ho3, ho4, hc3, hm3, hc4, hm4, ⟨hv3, hv4, hn3, hn4, hl3, hl4⟩, hxt3⟩; replace hv3 := Lib.hid hv3; replace hv4 := Lib.hid hv4) | (go_at_call 69; refine (int_shiftLeft (k := 0) rfl (hr.ext (hxt2.trans hxt3)) (by omega) (by omega)).mono ?_; rintro e w4 ⟨A5, c5, s5, rfl, ho5, hc5, hm5, ⟨hv5, hn5, hl5⟩, hxt5⟩; replace hv5 := Lib.hid hv5) | (go_at_call 31; refine (int_add rfl rfl ho5.rd (ho3.rd.ext hxt5) (by omega) (by omega)).mono ?_; rintro e w5 ⟨A6, c6, s6, rfl, ho6, hc6, hm6, ⟨hv6, hn6, hl6⟩, hxt6⟩; replace hv6 := Lib.hid hv6))
      go_roundw
      case rel =>
        have e2 := hv2.out
        have e3 := hv3.out
        have e5 := hv5.out
        have e6 := hv6.out
        rw [e2, hv.out, val_one] at e3
        rw [hv.out] at e5
        rw [e3, e5] at e6
        refine ⟨A6, c6, s6, rfl, ho6.rd, hc6, hm6, hn6, ?_, hext.trans (hxt2.trans (hxt3.trans (hxt5.trans hxt6))), ?_⟩
        · exact nrm_small ho6.rd.1 hn6 (by rw [e6]; decide)
        · exact .inr (.inl ⟨rfl, rfl, e6⟩)
      case measure => simp [intOf]
    · replace hv := Lib.hid hv
      go_wp2_with (first | (go_at_call 68; refine (int_shiftRight (k := 3) (xs := [99]) (n := 1) rfl (hx.ext hext) hc hcm (by omega) (by omega)).mono ?_; rintro e w2 ⟨A2, c2, s2, rfl, ho2, hc2, hm2, ⟨hv2, hn2, hl2⟩, hxt2⟩; replace hv2 := Lib.hid hv2) | (go_at_call 30; refine (divide_two _ _ _ _ _ _ _ _ _ rfl rfl ho2.rd (hr.ext hxt2) hc2 hm2 hc1 hm1 hn2 hnr hpos (by omega) (by omega)).mono ?_; rintro e w3 ⟨A3, c3, q3, A4, c4, r4, rfl, ho3, ho4, hc3, hm3, hc4, hm4, ⟨hv3, hv4, hn3, hn4, hl3, hl4⟩, hxt3⟩; replace hv3 := Lib.hid hv3; replace hv4 := Lib.hid hv4) | (go_at_call 69; refine (int_shiftLeft (k := 1) rfl (hr.ext (hxt2.trans hxt3)) (by omega) (by omega)).mono ?_; rintro e w4 ⟨A5, c5, s5, rfl, ho5, hc5, hm5, ⟨hv5, hn5, hl5⟩, hxt5⟩; replace hv5 := Lib.hid hv5) | (go_at_call 31; refine (int_add rfl rfl ho5.rd (ho3.rd.ext hxt5) (by omega) (by omega)).mono ?_; rintro e w5 ⟨A6, c6, s6, rfl, ho6, hc6, hm6, ⟨hv6, hn6, hl6⟩, hxt6⟩; replace hv6 := Lib.hid hv6))
      go_roundw
      case rel =>
        have e2 := hv2.out
        have e3 := hv3.out
        have e5 := hv5.out
        have e6 := hv6.out
        rw [e2, hv.out, val_one] at e3
        rw [hv.out] at e5
        rw [e3, e5] at e6
        refine ⟨A6, c6, s6, rfl, ho6.rd, hc6, hm6, hn6, ?_, hext.trans (hxt2.trans (hxt3.trans (hxt5.trans hxt6))), ?_⟩
        · exact nrm_small ho6.rd.1 hn6 (by rw [e6]; decide)
        · exact .inr (.inr ⟨rfl, rfl, e6⟩)
      case measure => simp [intOf]
    · replace hv := Lib.hid hv
      have hcmp : ∀ us : List Nat, val us = 100 → W32 us → Nrm us → cmpL us [99] = 1 := fun us h1 h2 h3 => by
        rw [cmpL_nrm h2 (W32.one (by omega)) h3 (Nrm.one (by omega)), h1, val_one]
        rfl
      go_wp2_with (first | (go_at_call 61; refine (int_multiply_s rfl rfl hr hr (by omega) (by omega)).mono ?_; rintro e w2 ⟨A2, c2, s2, rfl, ho2, hc2, hm2, ⟨hv2, hn2, hl2⟩, hxt2⟩; replace hv2 := Lib.hid hv2) | (go_at_call 43; refine (int_compare A2 A c2 c s2 [99] _ ho2.rd (hx.ext (hext.trans hxt2)) (by omega) (by simp [maxLen])).mono ?_; rintro e w3 ⟨rfl, hxt3⟩; rw [hcmp s2 (by rw [hv2.out, hv.out]) ho2.rd.1 hn2]))
      have hnew3 := BlkN.lit w3 [1] #[.int .u32 1] rfl
      have hext3 := (hext.trans (hxt2.trans hxt3)).alloc (.cells #[.int .u32 1] 43)
      refine (int_subtract (xs := rs) (ys := [1]) rfl rfl (hr.ext ((hxt2.trans hxt3).alloc _)) (hnew3.rd0 (W32.one (by omega))) hpos (by rw [hv.out, val_one]; omega) (by omega)).mono ?_
      rintro e w4 ⟨A4, c4, s4, rfl, ho4, hc4, hm4, ⟨hv4, hn4, hl4⟩, hxt4⟩
      replace hv4 := Lib.hid hv4
      go_wp2_with fail
      go_ret
      exact ⟨A4, c4, s4, rfl, ho4.mono hext3.size, hc4, hm4, ⟨by rw [hv4.out, hv.out, val_one], hn4, by omega⟩, hext3.trans hxt4⟩
set_option maxHeartbeats 4000000 in
theorem Sqrt_99 (hx : Rd w A xs) (hv : val xs = 99) (hnr : Nrm xs) (hn : xs.length = n) (hc : n ≤ c) (hcm : c ≤ maxLen) (h1 : n ≤ 1000) :
    Calls Tryd.prog 21 #[.agg #[.bool false, .slice A n c]] w (RetIE 9 1 0 w) := by
  obtain rfl : xs = [99] := nrm_inj hx.1 (W32.one (by omega)) hnr (Nrm.one (by omega)) (by rw [hv, val_one])
  obtain rfl : 1 = n := hn
  have hsg : (ival false [99]).sign = 1 := by decide
  have htr : (trimL [99]).length = 1 := by decide
  clear hv hnr
  go_enter Tryd.func21, Tryd.ntmps21
  go_upto_region 1 with (fail)
  obtain ⟨W, hW, extW, bx, bz, hz⟩ := box2 w 24 24 #[.bool false, .slice A 1 c] #[.bool false, .slice none 0 0]
  rw [← hW]
  clear hW
  have x0 := bx.cell 0 (.bool false) rfl
  have x1 := bx.cell 1 (.slice A 1 c) rfl
  go_wp2_with fail
  refine (int_Sign (xs := [99]) (n := 1) rfl (hx.ext extW) hc hcm (by omega)).mono ?_
  rintro e w1 ⟨rfl, ext1⟩
  rw [hsg]
  replace bx := bx.ext ext1
  replace bz := bz.ext ext1
  replace extW := extW.trans ext1
  have x1 := bx.cell 1 (.slice A 1 c) rfl
  go_wp2_with fail
  refine (int_trimN (xs := [99]) rfl (hx.ext extW) hc hcm).mono ?_
  rintro e w2 ⟨rfl, rfl⟩
  rw [htr]
  go_wp2_with fail
  refine (squareRoot_99 (hx.ext extW) hc hcm).mono ?_
  rintro e w2 ⟨A2, c2, zs, rfl, ho2, hc2, hm2, ⟨hv2, hn2, hl2⟩, hext2⟩
  have Hv2 := Lib.hid hv2
  clear hv2
  go_wp2_with fail
  refine (int_signed rfl ho2.rd hc2 hm2 hn2).mono ?_
  rintro e w3 ⟨b3, A3, c3, rs, rfl, hr3, hc3, hm3, hi3, hl3, hext3⟩
  have ext3 := hext2.trans hext3
  have bz3 := bz.ext ext3
  have z0 := bz3.cell 0 (.bool false) rfl
  have z1 := bz3.cell 1 (.slice none 0 0) rfl
  have f0 := bz3.frozen 0
  have f1 := bz3.frozen 1
  go_wp2_with fail
  obtain ⟨r1, r2, r3, r4⟩ := fin_pair (b := b3) (n := rs.length) (c := c3) (extW.trans ext3) (by omega) bz3 hr3
  refine bodyPost_ret (v := .tuple #[.agg #[.bool b3, .slice A3 rs.length c3], .int .i64 0]) (by simp [results, Tryd.results21, go_sem, r3, r4]) rfl ⟨b3, A3, c3, rs, rfl, r1, hc3, hm3, ?_, by omega, r2⟩
  have e9 : ival false zs = 9 := by simp [ival, Hv2.out]
  rwa [e9] at hi3
end
end Go.Proofs.YtmjmcinnbmjpdaaDoor
namespace Go.Proofs.YtmjmcinnbmjpdaaDoor
open Go.RowKit
attribute [local go_sem ↓] Go.wp_at_zero Go.wp_at_succ
theorem sign_of_lt {a b : Int} (h : a < b) : (a - b).sign = -1 := Int.sign_eq_neg_one_of_neg (by omega)
theorem sign_of_gt {a b : Int} (h : b < a) : (a - b).sign = 1 := Int.sign_eq_one_of_pos (by omega)
theorem sign_of_eq {a b : Int} (h : a = b) : (a - b).sign = 0 := by rw [h, Int.sub_self]; rfl
theorem sign_cases (a : Int) : (a < 0 ∧ a.sign = -1) ∨ (a = 0 ∧ a.sign = 0) ∨ (0 < a ∧ a.sign = 1) := by
  rcases Int.lt_trichotomy a 0 with h | h | h
  · exact .inl ⟨h, Int.sign_eq_neg_one_of_neg h⟩
  · exact .inr (.inl ⟨h, by rw [h]; rfl⟩)
  · exact .inr (.inr ⟨h, Int.sign_eq_one_of_pos h⟩)
theorem cmp_sign {s t : Bool} {xs ys : List Nat} (hx : W32 xs) (hy : W32 ys) (σ : Int) (ha : (ival s xs).sign = σ) (hb : (ival t ys).sign = σ) : σ * cmpL (trimL xs) (trimL ys) = (ival s xs - ival t ys).sign := by
  rw [cmpL_nrm hx.trimL hy.trimL (Nrm.trimL xs) (Nrm.trimL ys), val_trimL, val_trimL]
  have h1 := sign_cases (ival s xs)
  have h2 := sign_cases (ival t ys)
  have e1 : ival s xs = if s then -(val xs : Int) else (val xs : Int) := rfl
  have e2 : ival t ys = if t then -(val ys : Int) else (val ys : Int) := rfl
  rw [ha] at h1
  rw [hb] at h2
  clear ha hb
  rcases Nat.lt_trichotomy (val xs) (val ys) with h | h | h
  · rw [cmpI_of_lt h]
    rcases h1 with ⟨h1, rfl⟩ | ⟨h1, rfl⟩ | ⟨h1, rfl⟩
    · rw [sign_of_gt (by cases s <;> cases t <;> simp at e1 e2 h2 <;> omega)]; rfl
    · rw [sign_of_eq (by cases s <;> cases t <;> simp at e1 e2 h2 <;> omega)]; rfl
    · rw [sign_of_lt (by cases s <;> cases t <;> simp at e1 e2 h2 <;> omega)]; rfl
  · rw [cmpI_of_eq h, Int.mul_zero]
    rw [sign_of_eq (by rcases h1 with ⟨h1, rfl⟩ | ⟨h1, rfl⟩ | ⟨h1, rfl⟩ <;> cases s <;> cases t <;> simp at e1 e2 h2 <;> omega)]
  · rw [cmpI_of_gt h, Int.mul_one]
    rcases h1 with ⟨h1, rfl⟩ | ⟨h1, rfl⟩ | ⟨h1, rfl⟩
    · rw [sign_of_lt (by cases s <;> cases t <;> simp at e1 e2 h2 <;> omega)]
    · rw [sign_of_eq (by cases s <;> cases t <;> simp at e1 e2 h2 <;> omega)]
    · rw [sign_of_gt (by cases s <;> cases t <;> simp at e1 e2 h2 <;> omega)]
theorem cmpI_bd (a b : Nat) : -1 ≤ cmpI a b ∧ cmpI a b ≤ 1 := by unfold cmpI; split <;> (try split) <;> omega
theorem cmpL_bd (xs ys : List Nat) : -1 ≤ cmpL xs ys ∧ cmpL xs ys ≤ 1 := by unfold cmpL; split <;> exact cmpI_bd _ _
section
variable {A B : Option Addr} {c d n m : Nat} {xs ys : List Nat} {w : World} {s t : Bool}
end
end Go.Proofs.YtmjmcinnbmjpdaaDoor
namespace Go.Proofs.YtmjmcinnbmjpdaaDoor
open Go.RowKit
attribute [local go_sem ↓] Go.wp_at_zero Go.wp_at_succ
theorem step_append_words {w0 w : World} {ops : Array Oper} {o : Oper} {a : Act} {K : Act → World → Prop} {Q : Exit → Act → World → Prop} {E : Prop} (hgd : o.guard = none) (s x : Operand) (t : TypeId)
    (ho : o.op = .call { callee := .builtin .append, args := #[s, x], argTypes := #[t, t] }) (ht : Tryd.prog.underlying t = some (.slice 43))
    (he : Ext w0 w) (g : Nat) (hs : a.eval s = .slice (some ⟨g, 0, none⟩) 0 0) (hg : w.heap[g]? = some (.cells #[] 43 (0, 0))) (hg0 : w0.heap.size ≤ g)
    {A : Option Addr} {n : Nat} {xs : List Nat} {c : Nat} (hx : a.eval x = .slice A n c) (hn : xs.length = n) (hr : Rd w A xs) (hl : n ≤ 1000000)
    (h : ∀ A' c' w', Own w' w0.heap.size A' xs → n ≤ c' → c' ≤ maxLen → Ext w0 w' → K (a.put o.dst (.slice A' n c')) w') :
    if Region.wanted o (yielded ops a.tmps) = true then Oper.wp Tryd.prog o a w K Q else E := by
  have hw : Region.wanted o (yielded ops a.tmps) = true := by simp [Region.wanted, hgd]
  rw [if_pos hw]
  subst hn
  obtain ⟨i0, hi, hz0, hz1, hz2⟩ := info_parts Tryd.infoW
  obtain ⟨A', c', w', hrun, h1, h2, h3, h4⟩ := run_append_words (P := Tryd.prog) t o.type i0 ht hi hz0 hz1 hz2 he g hg hg0 (c := c) hr hl
  unfold Oper.wp execOp
  simp only [ho, resolve, invoke, builtin, Sem.run_bind, Sem.run_pure, Result.andThen_ok, List.map_toArray, List.map_cons, List.map_nil, hs, hx, hrun]
  exact h A' c' w' h1 h2 h3 h4
section
variable {A B : Option Addr} {c d n m L : Nat} {xs ys : List Nat} {w : World} {s t : Bool}
/-- a copy, word for word. -/
def RetCp (s : Bool) (xs : List Nat) (w : World) (e : Ending) (w' : World) : Prop :=
  ∃ A' c', e = .returned (.agg #[.bool s, .slice A' xs.length c']) ∧ Rd w' A' xs ∧ xs.length ≤ c' ∧ c' ≤ maxLen ∧ Ext w w'
set_option maxHeartbeats 1000000 in
theorem law_cp (hn : xs.length = n) (hx : Rd w A xs) (hl : n ≤ 1000) :
    Calls Tryd.prog 9 #[.agg #[.bool s, .slice A n c]] w (RetCp s xs w) := by
  have Hn := Lib.hid hn
  clear hn
  go_enter Tryd.func9, Tryd.ntmps9
  go_upto_region 1 with (fail)
  obtain ⟨W, hW, extW, bx, bz, hz⟩ := box2 w 24 24 #[.bool s, .slice A n c] #[.bool false, .slice none 0 0]
  rw [← hW]
  clear hW
  have x0 := bx.cell 0 (.bool s) rfl
  have x1 := bx.cell 1 (.slice A n c) rfl
  have z0 := bz.cell 0 (.bool false) rfl
  have z1 := bz.cell 1 (.slice none 0 0) rfl
  have f0 := bz.frozen 0
  have f1 := bz.frozen 1
  go_region_held3 (fun w' => w'.cell? ⟨w.heap.size, 0, none⟩ = some (.bool s) ∧ w'.cell? ⟨w.heap.size, 1, none⟩ = some (.slice A n c)) (first | (go_split_ands; refine ⟨?_, ?_⟩ <;> first | (exact Ext.cellv (by assumption) (by assumption)) | (refine (cell_far2 (by omega)).trans ?_; assumption)) | go_keep)
    ((refine step_append_words (w0 := W) (by rfl) _ _ _ (by rfl) Tryd.underlying22 (((Ext.refl W).drew).alloc _) W.heap.size (by rfl) (heap_alloc_new W.drew _) (Nat.le_refl _) (by rfl) Hn.out (hx.ext (extW.drew.alloc _)) (by omega) ?_; intro A2 c2 w2 ho2 hc2 hm2 ext2; have bz2 := bz.ext ext2; have z20 := bz2.cell 0 (.bool false) rfl; have z21 := bz2.cell 1 (.slice none 0 0) rfl; have f20 := bz2.frozen 0; have f21 := bz2.frozen 1))
  go_wp2_with fail
  obtain ⟨r1, r2, r3, r4⟩ := fin_pair (b := s) (n := n) (c := c2) (extW.trans ext2) (by omega) bz2 ho2.rd
  refine bodyPost_ret (v := .agg #[.bool s, .slice A2 n c2]) (by simp [results, Tryd.results9, go_sem, r3, r4]) rfl ?_
  have hn := Hn.out
  subst hn
  exact ⟨A2, c2, rfl, r1, hc2, hm2, r2⟩

set_option maxHeartbeats 1000000 in
theorem ref_Same (hn : xs.length = n) (hm : xs.length = m) (hx : Rd w A xs) (hy : Rd w B xs) (h1 : n ≤ 100000) :
    Calls Tryd.prog 27 #[.agg #[.bool s, .slice A n c], .agg #[.bool s, .slice B m d]] w fun e w' => e = .returned (.bool true) ∧ Ext w w' := by
  subst hn
  subst hm
  have hcm := Lib.hid (cmpL_self xs)
  go_enter Tryd.func27, Tryd.ntmps27
  go_upto_region 1 with (fail)
  obtain ⟨W, hW, extW, bx, by_, hz⟩ := box2 w 24 24 #[.bool s, .slice A xs.length c] #[.bool s, .slice B xs.length d]
  rw [← hW]
  clear hW
  have x0 := bx.cell 0 (.bool s) rfl
  have x1 := bx.cell 1 (.slice A xs.length c) rfl
  have y0 := by_.cell 0 (.bool s) rfl
  have y1 := by_.cell 1 (.slice B xs.length d) rfl
  go_wp2_with fail
  refine (ref_compare A B c d xs xs W (hx.ext extW) (hy.ext extW) (by unfold maxLen; omega) (by unfold maxLen; omega)).mono ?_
  rintro e w1 ⟨rfl, hext1⟩
  rw [hcm.out]
  go_wp2_with fail
  go_ret
  exact ⟨rfl, extW.trans hext1⟩

set_option maxHeartbeats 1000000 in
theorem law_same (hn : xs.length = n) (hm : xs.length = m) (hx : Rd w A xs) (hy : Rd w B xs) (h1 : n ≤ 100000) :
    Calls Tryd.prog 10 #[.agg #[.bool s, .slice A n c], .agg #[.bool s, .slice B m d]] w fun e w' => e = .returned (.bool true) ∧ Ext w w' := by
  subst hn
  subst hm
  go_enter Tryd.func10, Tryd.ntmps10
  go_upto_region 1 with (fail)
  obtain ⟨W, hW, extW, bx, by_, hz⟩ := box2 w 24 24 #[.bool s, .slice A xs.length c] #[.bool s, .slice B xs.length d]
  rw [← hW]
  clear hW
  have x0 := bx.cell 0 (.bool s) rfl
  have x1 := bx.cell 1 (.slice A xs.length c) rfl
  have y0 := by_.cell 0 (.bool s) rfl
  have y1 := by_.cell 1 (.slice B xs.length d) rfl
  go_wp2_with fail
  refine (ref_Same rfl rfl (hx.ext extW) (hy.ext extW) h1).mono ?_
  rintro e w1 ⟨rfl, hext1⟩
  go_wp2_with fail
  go_ret
  exact ⟨rfl, extW.trans hext1⟩
/-- the two forms of one integer are the same. -/
theorem law_same_int {z : Int} {t : Bool} (hn : xs.length = n) (hm : ys.length = m) (hx : Rd w A xs) (hy : Rd w B ys) (h1 : n ≤ 100000) (ix : IsInt z s xs) (iy : IsInt z t ys) :
    Calls Tryd.prog 10 #[.agg #[.bool s, .slice A n c], .agg #[.bool t, .slice B m d]] w fun e w' => e = .returned (.bool true) ∧ Ext w w' := by
  obtain ⟨rfl, rfl⟩ := ix.unique iy
  exact law_same hn hm hx hy h1

set_option maxHeartbeats 1000000 in
theorem law_is {z : Int} (hn : xs.length = n) (hx : Rd w A xs) (h1 : n ≤ 100000) (ix : IsInt z s xs) (hz1 : -9223372036854775808 ≤ z) (hz2 : z < 9223372036854775808) :
    Calls Tryd.prog 14 #[.agg #[.bool s, .slice A n c], .int .i64 z] w fun e w' => e = .returned (.bool true) ∧ Ext w w' := by
  have Hn := Lib.hid hn
  have Hz1 := Lib.hid hz1
  have Hz2 := Lib.hid hz2
  clear hn hz1 hz2
  go_enter Tryd.func14, Tryd.ntmps14
  go_upto_region 1 with (fail)
  obtain ⟨W, hW, extW, bx, hz⟩ := box1 w 24 #[.bool s, .slice A n c]
  rw [← hW]
  clear hW
  have x0 := bx.cell 0 (.bool s) rfl
  have x1 := bx.cell 1 (.slice A n c) rfl
  go_region_held3 (fun w' => w'.cell? ⟨w.heap.size, 0, none⟩ = some (.bool s) ∧ w'.cell? ⟨w.heap.size, 1, none⟩ = some (.slice A n c)) (first | (go_split_ands; refine ⟨?_, ?_⟩ <;> first | (exact Ext.cellv (by assumption) (by assumption)) | (refine (cell_far2 (by omega)).trans ?_; assumption)) | go_keep)
    (first | (go_at_call 33; refine (ref_FromInt z Hz1.out Hz2.out).mono ?_; rintro e w3 ⟨b3, A3, c3, rs, rfl, hr3, hc3, hm3, hi3, hl3, hext3⟩) | (go_at_call 10; refine (law_same_int Hn.out rfl (hx.ext (extW.trans ((Ext.refl W).drew.trans hext3))) hr3 h1 ix hi3).mono ?_; rintro e w4 ⟨rfl, hext4⟩))
  go_wp2_with fail
  go_ret
  exact ⟨rfl, extW.trans (((Ext.refl W).drew.trans hext3).trans hext4)⟩

end
end Go.Proofs.YtmjmcinnbmjpdaaDoor
