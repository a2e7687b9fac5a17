/- Walks: integers with a sign. -/
import Derived.Test.YtmjmcinnbmjpdaaWc
import Derived.Deep.RegionHeld3
import Derived.Deep.DrawnRows
import Derived.Deep.RegionWith
import Derived.Deep.CutBlock
namespace Go.Proofs.Ytmjmcinnbmjpdaa
open Go.RowKit
def ival (b : Bool) (xs : List Nat) : Int := if b then -(val xs : Int) else (val xs : Int)
/-- (b, ys) is the normal form of z. -/
structure IsInt (z : Int) (b : Bool) (ys : List Nat) : Prop where
  w32 : W32 ys
  nrm : Nrm ys
  sgn : ys = [] → b = false
  eq : ival b ys = z
theorem IsInt.unique {z : Int} {b b' : Bool} {ys ys' : List Nat} (h : IsInt z b ys) (k : IsInt z b' ys') : b = b' ∧ ys = ys' := by
  have e := h.eq.trans k.eq.symm
  have hz := h.nrm.zero
  have kz := k.nrm.zero
  unfold ival at e
  have hv : val ys = val ys' := by
    cases b <;> cases b' <;> simp at e <;> omega
  have hys := nrm_inj h.w32 k.w32 h.nrm k.nrm hv
  refine ⟨?_, hys⟩
  subst hys
  by_cases h0 : ys = []
  · rw [h.sgn h0, k.sgn h0]
  · have : val ys ≠ 0 := fun hh => h0 (hz.1 hh)
    cases b <;> cases b' <;> simp at e <;> first | rfl | omega
theorem IsInt.mk' {b : Bool} {ys : List Nat} (hw : W32 ys) (hn : Nrm ys) : IsInt (ival b ys) (b && !ys.isEmpty) ys := by
  refine ⟨hw, hn, ?_, ?_⟩
  · rintro rfl; simp
  · cases ys with
    | nil => cases b <;> simp [ival, val]
    | cons y ys => simp
theorem ival_trim (b : Bool) (xs : List Nat) : ival b (trimL xs) = ival b xs := by unfold ival; rw [val_trimL]
/-- the result is the integer z, in normal form. -/
def RetI (z : Int) (len : Nat) (w : World) (e : Ending) (w' : World) : Prop :=
  ∃ b A c ys, e = .returned (.agg #[.bool b, .slice A ys.length c]) ∧ Rd w' A ys ∧ ys.length ≤ c ∧ c ≤ maxLen ∧ IsInt z b ys ∧ ys.length ≤ len ∧ Ext w w'
section
variable {A B : Option Addr} {c d n m : Nat} {xs ys : List Nat} {w : World} {s t : Bool}
theorem IsInt.nil (s : Bool) : IsInt (ival s []) false [] := ⟨W32.nil, Nrm.nil, fun _ => rfl, by cases s <;> rfl⟩
theorem IsInt.pos {s : Bool} {xs : List Nat} (hw : W32 xs) (hn : Nrm xs) (h : xs ≠ []) : IsInt (ival s xs) s xs := ⟨hw, hn, fun h0 => absurd h0 h, rfl⟩
attribute [local go_sem ↓] Go.wp_at_zero Go.wp_at_succ
set_option maxHeartbeats 400000 in
theorem int_signed (hn : xs.length = n) (hx : Rd w A xs) (hc : n ≤ c) (hcm : c ≤ maxLen) (hnr : Nrm xs) :
    Calls Try.prog 48 #[.bool s, .slice A n c] w (RetI (ival s xs) xs.length w) := by
  by_cases h0 : xs = []
  · subst h0
    simp only [List.length_nil] at hn
    subst hn
    go_enter Try.func48, Try.ntmps48
    go_wp2
    exact bodyPost_ret (v := .agg #[.bool false, .slice none 0 0]) (by simp [results, Try.results48, go_sem]) rfl ⟨false, none, 0, [], rfl, Rd.nil _ _, by simp, by unfold maxLen; omega, IsInt.nil s, by simp, (Ext.refl w).alloc _⟩
  · have hl : 0 < xs.length := List.length_pos_iff.2 h0
    have ht : ((n : Int) == 0) = false := by rw [beq_eq_false_iff_ne]; omega
    have Hn := Lib.hid hn
    have H0 := Lib.hid h0
    clear hn h0 hl
    go_enter Try.func48, Try.ntmps48
    go_wp2
    refine bodyPost_ret (v := .agg #[.bool s, .slice A n c]) (by simp [results, Try.results48, go_sem]) rfl ?_
    have hn := Hn.out
    subst hn
    exact ⟨s, A, c, xs, rfl, hx.ext ((Ext.refl w).alloc _), hc, hcm, IsInt.pos hx.1 hnr H0.out, Nat.le_refl _, (Ext.refl w).alloc _⟩

set_option maxHeartbeats 400000 in
theorem ref_signed (hn : xs.length = n) (hx : Rd w A xs) (hc : n ≤ c) (hcm : c ≤ maxLen) :
    Calls Try.prog 50 #[.bool s, .slice A n c] w (RetI (ival s xs) xs.length w) := by
  have hlen := trimL_len xs
  have Hn := Lib.hid hn
  clear hn
  have hx1 := hx.ext ((Ext.refl w).alloc (.cells #[.bool false, .slice none 0 0] 24))
  have key : IsInt (ival s xs) (s && !(trimL xs).isEmpty) (trimL xs) := by rw [← ival_trim]; exact IsInt.mk' hx.1.trimL (Nrm.trimL xs)
  have Key := Lib.hid key
  clear key
  cases s with
  | false =>
    go_enter Try.func50, Try.ntmps50
    go_wp2_with (go_at_call 51; refine (ref_trimN Hn.out hx1 hc hcm).mono ?_; rintro e w1 ⟨rfl, rfl⟩)
    exact bodyPost_ret (v := .agg #[.bool false, .slice A (trimL xs).length c]) (by simp [results, Try.results50, go_sem]) rfl ⟨false, A, c, trimL xs, rfl, by rw [trimL_take]; exact (hx.take _).ext ((Ext.refl w).alloc _), by have := Hn.out; omega, hcm, by simpa using Key.out, hlen, (Ext.refl w).alloc _⟩
  | true =>
    by_cases h0 : 0 < (trimL xs).length
    · have hd : decide ((0 : Int) < (trimL xs).length) = true := decide_eq_true (by omega)
      have hd2 : decide (0 < (trimL xs).length) = true := decide_eq_true (by omega)
      go_enter Try.func50, Try.ntmps50
      go_wp2_with (go_at_call 51; refine (ref_trimN Hn.out hx1 hc hcm).mono ?_; rintro e w1 ⟨rfl, rfl⟩)
      refine bodyPost_ret (v := .agg #[.bool true, .slice A (trimL xs).length c]) (by simp [results, Try.results50, go_sem]) rfl ⟨true, A, c, trimL xs, rfl, by rw [trimL_take]; exact (hx.take _).ext ((Ext.refl w).alloc _), by have := Hn.out; omega, hcm, ?_, hlen, (Ext.refl w).alloc _⟩
      have hk := Key.out
      have he : (true && !(trimL xs).isEmpty) = true := by
        cases h : trimL xs with
        | nil => rw [h] at h0; simp at h0
        | cons => rfl
      rwa [he] at hk
    · have hd : decide ((0 : Int) < (trimL xs).length) = false := decide_eq_false (by omega)
      have hd2 : decide (0 < (trimL xs).length) = false := decide_eq_false (by omega)
      go_enter Try.func50, Try.ntmps50
      go_wp2_with (go_at_call 51; refine (ref_trimN Hn.out hx1 hc hcm).mono ?_; rintro e w1 ⟨rfl, rfl⟩)
      refine bodyPost_ret (v := .agg #[.bool false, .slice A (trimL xs).length c]) (by simp [results, Try.results50, go_sem]) rfl ⟨false, A, c, trimL xs, rfl, by rw [trimL_take]; exact (hx.take _).ext ((Ext.refl w).alloc _), by have := Hn.out; omega, hcm, ?_, hlen, (Ext.refl w).alloc _⟩
      have hk := Key.out
      have he : (true && !(trimL xs).isEmpty) = false := by
        have : trimL xs = [] := List.eq_nil_of_length_eq_zero (by omega)
        rw [this]; rfl
      rwa [he] at hk

set_option maxHeartbeats 1000000 in
theorem int_Norm (hn : xs.length = n) (hx : Rd w A xs) (hc : n ≤ c) (hcm : c ≤ maxLen) (h1 : n ≤ 100000) :
    Calls Try.prog 16 #[.agg #[.bool s, .slice A n c]] w (RetI (ival s xs) xs.length w) := by
  have Hn := Lib.hid hn
  clear hn
  have lx := trimL_len xs
  have hxt : Rd w A (trimL xs) := by rw [trimL_take]; exact hx.take _
  go_enter Try.func16, Try.ntmps16
  go_upto_region 1 with (fail)
  obtain ⟨W, hW, extW, bx, bz, hz⟩ := box2 w 24 24 #[.bool s, .slice A n c] #[.bool false, .slice none 0 0]
  rw [← hW]
  clear hW
  have x0 := bx.cell 0 (.bool s) rfl
  have x1 := bx.cell 1 (.slice A n c) rfl
  go_region_held3 (fun w' => w'.cell? ⟨w.heap.size, 0, none⟩ = some (.bool s) ∧ w'.cell? ⟨w.heap.size, 1, none⟩ = some (.slice A n c)) (first | go_keep | (refine ⟨?_, ?_⟩ <;> first | (exact Ext.cellv (by assumption) (by assumption)) | (refine (cell_far2 (by omega)).trans ?_; assumption)))
    (first | (go_at_call 44; refine (int_trimN Hn.out (hx.ext (by first | exact extW | exact extW.drew)) hc hcm).mono ?_; rintro e w1 ⟨rfl, rfl⟩) | (go_at_call 49; refine (clone rfl (hxt.ext (by first | exact extW | exact extW.drew)) (by have := Hn.out; omega)).mono ?_; rintro e w2 ⟨A2, c2, zs, rfl, ho2, hc2, hm2, rfl, hext2⟩) | (go_at_call 48; refine (int_signed rfl ho2.rd hc2 hm2 (Nrm.trimL _)).mono ?_; rintro e w3 ⟨b3, A3, c3, rs, rfl, hr3, hc3, hm3, hi3, hl3, hext3⟩; have ext3 := ((Ext.refl W).drew.trans hext2).trans hext3; have bz3 := bz.ext ext3; have z0 := bz3.cell 0 (.bool false) rfl; have z1 := bz3.cell 1 (.slice none 0 0) rfl; have f0 := bz3.frozen 0; have f1 := bz3.frozen 1))
  go_wp2_with fail
  obtain ⟨r1, r2, r3, r4⟩ := fin_pair (b := b3) (n := rs.length) (c := c3) (extW.trans ext3) (by omega) bz3 hr3
  exact bodyPost_ret (v := .agg #[.bool b3, .slice A3 rs.length c3]) (by simp [results, Try.results16, go_sem, r3, r4]) rfl ⟨b3, A3, c3, rs, rfl, r1, hc3, hm3, by rw [ival_trim] at hi3; exact hi3, by omega, r2⟩
end
end Go.Proofs.Ytmjmcinnbmjpdaa
