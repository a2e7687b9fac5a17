/- Walks: integers with a sign: sums, differences, comparisons. -/
import Derived.Test.YtmjmcinnbmjpdaaWd2
import Derived.Deep.DeepCutAuto
namespace Go.Proofs.Ytmjmcinnbmjpdaa
open Go.RowKit
attribute [local go_sem ↓] Go.wp_at_zero Go.wp_at_succ
theorem at_world {P : Program} {c : Code} {Q : Exit → Act → World → Prop} {a : Act} {w : World} (C : World → Prop) (h : C w) (k : ∀ W, C W → Code.wp P c Q a W) : Code.wp P c Q a w := k w h
theorem at_then {K : Act → World → Prop} {Q : Exit → Act → World → Prop} {e : Exit} {a : Act} {w : World} (C : World → Prop) (h : C w) (k : ∀ W, C W → Exit.then K Q e a W) : Exit.then K Q e a w := k w h
theorem IsInt.nn {z : Int} {ys : List Nat} (h : IsInt z false ys) : 0 ≤ z := by have := h.eq; unfold ival at this; simp at this; omega
theorem IsInt.np {z : Int} {ys : List Nat} (h : IsInt z true ys) : z < 0 := by
  have := h.neg
  have := of_decide_eq_true this.symm
  exact this
theorem IsInt.sgn0 {z : Int} {b : Bool} (h : IsInt z b []) : z.sign = 0 := by
  have := h.zero.1 rfl
  rw [this]; rfl
theorem IsInt.sgn1 {z : Int} {x : Nat} {xs : List Nat} (h : IsInt z false (x :: xs)) : z.sign = 1 := by
  have h0 : z ≠ 0 := fun h0 => by have := h.zero.2 h0; cases this
  have := h.nn
  exact Int.sign_eq_one_of_pos (by omega)
theorem IsInt.sgn2 {z : Int} {x : Nat} {xs : List Nat} (h : IsInt z true (x :: xs)) : z.sign = -1 := Int.sign_eq_neg_one_of_neg h.np
/-- behind 'a, b = Norm(a), Norm(b)': both boxes hold normal forms. -/
def TwoN (w _W : World) (x y : Int) (lx ly : Nat) (R : World → Prop) (wx : World) : Prop :=
  ∃ b3 A3 c3 rs b4 A4 c4 qs, Ext w wx ∧ Box wx w.heap.size 24 #[.bool b3, .slice A3 (List.length rs) c3] ∧ Box wx (w.heap.size + 1) 24 #[.bool b4, .slice A4 (List.length qs) c4] ∧ R wx ∧ Rd wx A3 rs ∧ Rd wx A4 qs ∧
    rs.length ≤ c3 ∧ c3 ≤ maxLen ∧ qs.length ≤ c4 ∧ c4 ≤ maxLen ∧ IsInt x b3 rs ∧ IsInt y b4 qs ∧ rs.length ≤ lx ∧ qs.length ≤ ly
theorem TwoN.mk' {w W w4 : World} {x y : Int} {lx ly : Nat} {R : World → Prop} {s t b3 b4 : Bool} {A A3 B A4 : Option Addr} {n c m d c3 c4 : Nat} {rs qs : List Nat} (extW : Ext w W) (e4 : Ext W w4)
    (bx : Box W w.heap.size 24 #[.bool s, .slice A n c]) (by_ : Box W (w.heap.size + 1) 24 #[.bool t, .slice B m d]) (hr3 : Rd w4 A3 rs) (hr4 : Rd w4 A4 qs)
    (h1 : rs.length ≤ c3) (h2 : c3 ≤ maxLen) (h3 : qs.length ≤ c4) (h4 : c4 ≤ maxLen) (hi3 : IsInt x b3 rs) (hi4 : IsInt y b4 qs) (h5 : rs.length ≤ lx) (h6 : qs.length ≤ ly)
    (hR : ∀ u v p q, R ((((w4.setCell ⟨w.heap.size, 0, none⟩ u).setCell ⟨w.heap.size, 1, none⟩ v).setCell ⟨w.heap.size + 1, 0, none⟩ p).setCell ⟨w.heap.size + 1, 1, none⟩ q)) :
    TwoN w W x y lx ly R ((((w4.setCell ⟨w.heap.size, 0, none⟩ (.bool b3)).setCell ⟨w.heap.size, 1, none⟩ (.slice A3 rs.length c3)).setCell ⟨w.heap.size + 1, 0, none⟩ (.bool b4)).setCell ⟨w.heap.size + 1, 1, none⟩ (.slice A4 qs.length c4)) := by
  have k1 := bx.ext e4
  have k2 := by_.ext e4
  obtain ⟨r1, r2, _, _⟩ := fin_pair (b := b3) (n := rs.length) (c := c3) (extW.trans e4) (Nat.le_refl _) k1 hr3
  have q1 := (hr4.setBox k1 NoWord.two 0 (.bool b3)).setBox (k1.setA (.bool b3)) NoWord.two 1 (.slice A3 rs.length c3)
  have j1 := (k1.setA (.bool b3)).setB (.slice A3 rs.length c3)
  have j2 := ((k2.far (p := ⟨w.heap.size, 0, none⟩) (by simp) (.bool b3)).far (p := ⟨w.heap.size, 1, none⟩) (by simp) (.slice A3 rs.length c3))
  have j20 := j2.setA (.bool b4)
  have j3 := j20.setB (.slice A4 qs.length c4)
  have j4 := ((j1.far (p := ⟨w.heap.size + 1, 0, none⟩) (by simp) (.bool b4)).far (p := ⟨w.heap.size + 1, 1, none⟩) (by simp) (.slice A4 qs.length c4))
  have hE := (r2.setCell (p := ⟨w.heap.size + 1, 0, none⟩) (Nat.le_succ _) (.bool b4)).setCell (p := ⟨w.heap.size + 1, 1, none⟩) (Nat.le_succ _) (.slice A4 qs.length c4)
  have r3 := (r1.setBox j2 NoWord.two 0 (.bool b4)).setBox j20 NoWord.two 1 (.slice A4 qs.length c4)
  have q3 := (q1.setBox j2 NoWord.two 0 (.bool b4)).setBox j20 NoWord.two 1 (.slice A4 qs.length c4)
  have hRR := hR (.bool b3) (.slice A3 rs.length c3) (.bool b4) (.slice A4 qs.length c4)
  exact ⟨b3, A3, c3, rs, b4, A4, c4, qs, hE, j4, j3, hRR, r3, q3, h1, h2, h3, h4, hi3, hi4, h5, h6⟩
theorem far_ne {g h i : Nat} (hne : g ≠ h) : g ≠ (⟨h, i, none⟩ : Addr).block := hne
theorem cmpI_of_lt {a b : Nat} (h : a < b) : cmpI a b = -1 := by simp [cmpI, h]
theorem cmpI_of_eq {a b : Nat} (h : a = b) : cmpI a b = 0 := by rw [h]; exact cmpI_self b
theorem cmpI_of_gt {a b : Nat} (h : b < a) : cmpI a b = 1 := by simp [cmpI, h, Nat.lt_asymm h]
theorem len_le {xs ys : List Nat} (hy : W32 ys) (nx : Nrm xs) (h : val xs ≤ val ys) : xs.length ≤ ys.length := by
  rcases Nat.lt_or_ge ys.length xs.length with hl | hl
  · have := val_lt_of_len hy nx hl; omega
  · exact hl
theorem isint_val {z : Int} {b : Bool} {ys : List Nat} (h : IsInt z b ys) : (val ys : Int) = if b then -z else z := by
  have := h.eq
  unfold ival at this
  cases b <;> simp at this ⊢ <;> omega
section
variable {A B : Option Addr} {c d n m : Nat} {xs ys : List Nat} {w : World} {s t : Bool}
set_option maxHeartbeats 1000000 in
theorem ref_Sign (hn : xs.length = n) (hx : Rd w A xs) (hc : n ≤ c) (hcm : c ≤ maxLen) (h1 : n ≤ 100000) :
    Calls Try.prog 21 #[.agg #[.bool s, .slice A n c]] w fun e w' => e = .returned (.int .i64 (ival s xs).sign) ∧ Ext w w' := by
  go_enter Try.func21, Try.ntmps21
  go_upto_region 1 with (fail)
  obtain ⟨W, hW, extW, bx, hz⟩ := box1 w 24 #[.bool s, .slice A n c]
  rw [← hW]
  clear hW
  have x0 := bx.cell 0 (.bool s) rfl
  have x1 := bx.cell 1 (.slice A n c) rfl
  have hf0 := bx.frozen 0
  have hf1 := bx.frozen 1
  go_wp2_with fail
  refine (ref_Norm hn (hx.ext extW) hc hcm h1).mono ?_
  rintro e w3 ⟨b3, A3, c3, rs, rfl, hr3, hc3, hm3, hi3, hl3, hext3⟩
  have bx3 := bx.ext hext3
  have z0 := bx3.cell 0 (.bool s) rfl
  have z1 := bx3.cell 1 (.slice A n c) rfl
  have f0 := bx3.frozen 0
  have f1 := bx3.frozen 1
  have hfin := fin_pair (b := b3) (n := rs.length) (c := c3) (extW.trans hext3) (Nat.le_refl _) bx3 hr3
  have Hfin := Lib.hid hfin
  clear hfin bx bx3 x0 x1 hf0 hf1 hn
  cases rs with
  | nil =>
    go_wp2_with fail
    go_ret
    exact ⟨ret_int hi3.sgn0.symm, Hfin.out.2.1⟩
  | cons r rs' =>
    cases b3 with
    | false =>
      go_wp2_with fail
      go_ret
      exact ⟨ret_int hi3.sgn1.symm, Hfin.out.2.1⟩
    | true =>
      go_wp2_with fail
      go_ret
      exact ⟨ret_int hi3.sgn2.symm, Hfin.out.2.1⟩

set_option maxHeartbeats 1000000 in
theorem int_Add (hn : xs.length = n) (hm : ys.length = m) (hx : Rd w A xs) (hy : Rd w B ys) (hc : n ≤ c) (hcm : c ≤ maxLen) (hd : m ≤ d) (hdm : d ≤ maxLen) (h1 : n ≤ 100000) (h2 : m ≤ 100000) :
    Calls Try.prog 26 #[.agg #[.bool s, .slice A n c], .agg #[.bool t, .slice B m d]] w (RetI (ival s xs + ival t ys) (max xs.length ys.length + 1) w) := by
  have Hn := Lib.hid hn
  have Hm := Lib.hid hm
  clear hn hm
  have lx := trimL_len xs
  have ly := trimL_len ys
  have hxt : Rd w A (trimL xs) := by rw [trimL_take]; exact hx.take _
  have hyt : Rd w B (trimL ys) := by rw [trimL_take]; exact hy.take _
  go_enter Try.func26, Try.ntmps26
  go_upto_region 1 with (fail)
  obtain ⟨W, hW, extW, bx, by_, bz, hz⟩ := box3 w 24 24 24 #[.bool s, .slice A n c] #[.bool t, .slice B m d] #[.bool false, .slice none 0 0]
  rw [← hW]
  clear hW
  have x0 := bx.cell 0 (.bool s) rfl
  have x1 := bx.cell 1 (.slice A n c) rfl
  have y0 := by_.cell 0 (.bool t) rfl
  have y1 := by_.cell 1 (.slice B m d) rfl
  go_quiet (first | (go_at_call_of 44 A; exact quiet_left (int_trimN Hn.out (hx.ext (extW.drewN _)) hc hcm)) | (go_at_call_of 44 B; exact quiet_left (int_trimN Hm.out (hy.ext (extW.drewN _)) hd hdm)))
  refine at_then (fun N => Ext w N ∧ Box N w.heap.size 24 #[.bool s, .slice A n c] ∧ Box N (w.heap.size + 1) 24 #[.bool t, .slice B m d] ∧ Box N (w.heap.size + 1 + 1) 24 #[.bool false, .slice none 0 0] ∧ w.heap.size + 3 ≤ N.heap.size) ⟨extW.drewN _, bx.ext ((Ext.refl _).drewN _), by_.ext ((Ext.refl _).drewN _), bz.ext ((Ext.refl _).drewN _), hz⟩ ?_
  clear x0 x1 y0 y1 extW bx by_ bz hz
  rintro N ⟨extN, bx, by_, bz, hz⟩
  have x0 := bx.cell 0 (.bool s) rfl
  have y0 := by_.cell 0 (.bool t) rfl
  have cst : Hid (True) := trivial
  cases hst : (s == t) with
  | true =>
    have Hv := Lib.hid (rfl : val (trimL xs) = val (trimL xs))
    have hv0 := Lib.hid (rfl : val (trimL ys) = val (trimL ys))
    go_wp2_with fail
    go_region_held3 (fun w' => w'.cell? ⟨w.heap.size, 0, none⟩ = some (.bool s)) (first | (first | (exact Ext.cellv (by assumption) (by assumption)) | (refine (cell_far2 (by omega)).trans ?_; assumption)) | go_keep)
      (first | (go_at_call 56; refine (int_add rfl rfl (hxt.ext (by first | exact extN | exact extN.drew | exact extN.drewN _)) (hyt.ext (by first | exact extN | exact extN.drew | exact extN.drewN _)) (by have := Hn.out; omega) (by have := Hm.out; omega)).mono ?_; rintro e w2 ⟨A2, c2, zs, rfl, ho2, hc2, hm2, ⟨hv2, hn2, hl2⟩, hext2⟩; have Hv2 := Lib.hid hv2; clear hv2) | (go_at_call 48; refine (int_signed rfl ho2.rd hc2 hm2 hn2).mono ?_; rintro e w3 ⟨b3, A3, c3, rs, rfl, hr3, hc3, hm3, hi3, hl3, hext3⟩; have ext3 := ((Ext.refl N).drew.trans hext2).trans hext3; have bz3 := bz.ext ext3; have z0 := bz3.cell 0 (.bool false) rfl; have z1 := bz3.cell 1 (.slice none 0 0) rfl; have f0 := bz3.frozen 0; have f1 := bz3.frozen 1))
    go_wp2_with fail
    obtain ⟨r1, r2, r3, r4⟩ := fin_pair (b := b3) (n := rs.length) (c := c3) (extN.trans ext3) (by omega) bz3 hr3
    refine bodyPost_ret (v := .agg #[.bool b3, .slice A3 rs.length c3]) (by simp [results, Try.results26, go_sem, r3, r4]) rfl ⟨b3, A3, c3, rs, rfl, r1, hc3, hm3, ?_, by omega, r2⟩
    have e : ival s zs = ival s xs + ival t ys := by
      have h := Hv2.out
      rw [val_trimL, val_trimL] at h
      have hst' : s = t := by simpa using hst
      subst hst'
      unfold ival
      cases s <;> simp <;> omega
    rw [← e]
    exact hi3
  | false =>
    rcases Nat.lt_trichotomy (val (trimL xs)) (val (trimL ys)) with hlt | hlt | hlt
    · have hcm1 := Lib.hid (show cmpL (trimL xs) (trimL ys) = (-1) by rw [cmpL_nrm hxt.1 hyt.1 (Nrm.trimL xs) (Nrm.trimL ys)]; exact cmpI_of_lt hlt)
      have hle := len_le hyt.1 (Nrm.trimL xs) (Nat.le_of_lt hlt)
      have Hlt := Lib.hid hlt
      clear hlt
      go_wp2_with fail
      refine (int_compare A B c d (trimL xs) (trimL ys) N (hxt.ext extN) (hyt.ext extN) (by have := Hn.out; unfold maxLen; omega) (by have := Hm.out; unfold maxLen; omega)).mono ?_
      rintro e w1 ⟨rfl, hext1⟩
      rw [hcm1.out]
      replace extN := extN.trans hext1
      replace bx := bx.ext hext1
      replace by_ := by_.ext hext1
      replace bz := bz.ext hext1
      clear x0 y0 hext1
      have x0 := bx.cell 0 (.bool s) rfl
      have y0 := by_.cell 0 (.bool t) rfl
      go_wp2_with fail
      go_region_held3 (fun w' => w'.cell? ⟨w.heap.size + 1, 0, none⟩ = some (.bool t)) (first | (first | (exact Ext.cellv (by assumption) (by assumption)) | (refine (cell_far2 (by omega)).trans ?_; assumption)) | go_keep)
        (first | (go_at_call 58; refine (int_subtract rfl rfl (hyt.ext (by first | exact extN | exact extN.drew | exact extN.drewN _)) (hxt.ext (by first | exact extN | exact extN.drew | exact extN.drewN _)) hle (Nat.le_of_lt Hlt.out) (by have := Hm.out; omega)).mono ?_; rintro e w2 ⟨A2, c2, zs, rfl, ho2, hc2, hm2, ⟨hv2, hn2, hl2⟩, hext2⟩; have Hv2 := Lib.hid hv2; clear hv2) | (go_at_call 48; refine (int_signed rfl ho2.rd hc2 hm2 hn2).mono ?_; rintro e w3 ⟨b3, A3, c3, rs, rfl, hr3, hc3, hm3, hi3, hl3, hext3⟩; have ext3 := ((Ext.refl w1).drew.trans hext2).trans hext3; have bz3 := bz.ext ext3; have z0 := bz3.cell 0 (.bool false) rfl; have z1 := bz3.cell 1 (.slice none 0 0) rfl; have f0 := bz3.frozen 0; have f1 := bz3.frozen 1))
      go_wp2_with fail
      obtain ⟨r1, r2, r3, r4⟩ := fin_pair (b := b3) (n := rs.length) (c := c3) (extN.trans ext3) (by omega) bz3 hr3
      refine bodyPost_ret (v := .agg #[.bool b3, .slice A3 rs.length c3]) (by simp [results, Try.results26, go_sem, r3, r4]) rfl ⟨b3, A3, c3, rs, rfl, r1, hc3, hm3, ?_, by omega, r2⟩
      have e : ival t zs = ival s xs + ival t ys := by
        have h := Hv2.out
        have h' := Hlt.out
        rw [val_trimL, val_trimL] at h h'
        unfold ival
        cases s <;> cases t <;> simp at hst <;> simp <;> omega
      rw [← e]
      exact hi3
    · have hcm1 := Lib.hid (show cmpL (trimL xs) (trimL ys) = 0 by rw [cmpL_nrm hxt.1 hyt.1 (Nrm.trimL xs) (Nrm.trimL ys)]; exact cmpI_of_eq hlt)
      have hle := len_le hxt.1 (Nrm.trimL ys) (by omega)
      have Hlt := Lib.hid hlt
      clear hlt
      go_wp2_with fail
      refine (int_compare A B c d (trimL xs) (trimL ys) N (hxt.ext extN) (hyt.ext extN) (by have := Hn.out; unfold maxLen; omega) (by have := Hm.out; unfold maxLen; omega)).mono ?_
      rintro e w1 ⟨rfl, hext1⟩
      rw [hcm1.out]
      replace extN := extN.trans hext1
      replace bx := bx.ext hext1
      replace by_ := by_.ext hext1
      replace bz := bz.ext hext1
      clear x0 y0 hext1
      have x0 := bx.cell 0 (.bool s) rfl
      have y0 := by_.cell 0 (.bool t) rfl
      go_wp2_with fail
      go_region_held3 (fun w' => w'.cell? ⟨w.heap.size, 0, none⟩ = some (.bool s)) (first | (first | (exact Ext.cellv (by assumption) (by assumption)) | (refine (cell_far2 (by omega)).trans ?_; assumption)) | go_keep)
        (first | (go_at_call 58; refine (int_subtract rfl rfl (hxt.ext (by first | exact extN | exact extN.drew | exact extN.drewN _)) (hyt.ext (by first | exact extN | exact extN.drew | exact extN.drewN _)) hle (by have := Hlt.out; omega) (by have := Hn.out; omega)).mono ?_; rintro e w2 ⟨A2, c2, zs, rfl, ho2, hc2, hm2, ⟨hv2, hn2, hl2⟩, hext2⟩; have Hv2 := Lib.hid hv2; clear hv2) | (go_at_call 48; refine (int_signed rfl ho2.rd hc2 hm2 hn2).mono ?_; rintro e w3 ⟨b3, A3, c3, rs, rfl, hr3, hc3, hm3, hi3, hl3, hext3⟩; have ext3 := ((Ext.refl w1).drew.trans hext2).trans hext3; have bz3 := bz.ext ext3; have z0 := bz3.cell 0 (.bool false) rfl; have z1 := bz3.cell 1 (.slice none 0 0) rfl; have f0 := bz3.frozen 0; have f1 := bz3.frozen 1))
      go_wp2_with fail
      obtain ⟨r1, r2, r3, r4⟩ := fin_pair (b := b3) (n := rs.length) (c := c3) (extN.trans ext3) (by omega) bz3 hr3
      refine bodyPost_ret (v := .agg #[.bool b3, .slice A3 rs.length c3]) (by simp [results, Try.results26, go_sem, r3, r4]) rfl ⟨b3, A3, c3, rs, rfl, r1, hc3, hm3, ?_, by omega, r2⟩
      have e : ival s zs = ival s xs + ival t ys := by
        have h := Hv2.out
        have h' := Hlt.out
        rw [val_trimL, val_trimL] at h h'
        unfold ival
        cases s <;> cases t <;> simp at hst <;> simp <;> omega
      rw [← e]
      exact hi3
    · have hcm1 := Lib.hid (show cmpL (trimL xs) (trimL ys) = 1 by rw [cmpL_nrm hxt.1 hyt.1 (Nrm.trimL xs) (Nrm.trimL ys)]; exact cmpI_of_gt hlt)
      have hle := len_le hxt.1 (Nrm.trimL ys) (by omega)
      have Hlt := Lib.hid hlt
      clear hlt
      go_wp2_with fail
      refine (int_compare A B c d (trimL xs) (trimL ys) N (hxt.ext extN) (hyt.ext extN) (by have := Hn.out; unfold maxLen; omega) (by have := Hm.out; unfold maxLen; omega)).mono ?_
      rintro e w1 ⟨rfl, hext1⟩
      rw [hcm1.out]
      replace extN := extN.trans hext1
      replace bx := bx.ext hext1
      replace by_ := by_.ext hext1
      replace bz := bz.ext hext1
      clear x0 y0 hext1
      have x0 := bx.cell 0 (.bool s) rfl
      have y0 := by_.cell 0 (.bool t) rfl
      go_wp2_with fail
      go_region_held3 (fun w' => w'.cell? ⟨w.heap.size, 0, none⟩ = some (.bool s)) (first | (first | (exact Ext.cellv (by assumption) (by assumption)) | (refine (cell_far2 (by omega)).trans ?_; assumption)) | go_keep)
        (first | (go_at_call 58; refine (int_subtract rfl rfl (hxt.ext (by first | exact extN | exact extN.drew | exact extN.drewN _)) (hyt.ext (by first | exact extN | exact extN.drew | exact extN.drewN _)) hle (by have := Hlt.out; omega) (by have := Hn.out; omega)).mono ?_; rintro e w2 ⟨A2, c2, zs, rfl, ho2, hc2, hm2, ⟨hv2, hn2, hl2⟩, hext2⟩; have Hv2 := Lib.hid hv2; clear hv2) | (go_at_call 48; refine (int_signed rfl ho2.rd hc2 hm2 hn2).mono ?_; rintro e w3 ⟨b3, A3, c3, rs, rfl, hr3, hc3, hm3, hi3, hl3, hext3⟩; have ext3 := ((Ext.refl w1).drew.trans hext2).trans hext3; have bz3 := bz.ext ext3; have z0 := bz3.cell 0 (.bool false) rfl; have z1 := bz3.cell 1 (.slice none 0 0) rfl; have f0 := bz3.frozen 0; have f1 := bz3.frozen 1))
      go_wp2_with fail
      obtain ⟨r1, r2, r3, r4⟩ := fin_pair (b := b3) (n := rs.length) (c := c3) (extN.trans ext3) (by omega) bz3 hr3
      refine bodyPost_ret (v := .agg #[.bool b3, .slice A3 rs.length c3]) (by simp [results, Try.results26, go_sem, r3, r4]) rfl ⟨b3, A3, c3, rs, rfl, r1, hc3, hm3, ?_, by omega, r2⟩
      have e : ival s zs = ival s xs + ival t ys := by
        have h := Hv2.out
        have h' := Hlt.out
        rw [val_trimL, val_trimL] at h h'
        unfold ival
        cases s <;> cases t <;> simp at hst <;> simp <;> omega
      rw [← e]
      exact hi3

end
end Go.Proofs.Ytmjmcinnbmjpdaa
