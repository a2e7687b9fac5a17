/- Walks and laws, a part. -/
import Derived.Test.YtiioodgpkdbndaaGreatDoorM1
import Derived.Test.YtiioodgpkdbndaaGreatDoorM0
import Derived.Lib.SliceRun
import Derived.ArgAppend
import Derived.Laws.BitsAllLaws
namespace Go.Proofs.YtiioodgpkdbndaaGreatDoor
open Go.RowKit
attribute [local go_sem ↓] Go.wp_at_zero Go.wp_at_succ
theorem ival_mul {s t : Bool} {xs ys zs : List Nat} (h : val zs = val xs * val ys) : ival (!(s == t)) zs = ival s xs * ival t ys := by
  unfold ival
  rw [h]
  cases s <;> cases t <;> simp [Int.natCast_mul, Int.neg_mul, Int.mul_neg]
section
variable {A B : Option Addr} {c d n m : Nat} {xs ys : List Nat} {w : World} {s t : Bool}
set_option maxHeartbeats 1000000 in
theorem int_Mul_s (hn : xs.length = n) (hm : ys.length = m) (hx : Rd w A xs) (hy : Rd w B ys) (hc : n ≤ c) (hcm : c ≤ maxLen) (hd : m ≤ d) (hdm : d ≤ maxLen) (h64 : min n m < 64) (h1 : n ≤ 100000) (h2 : m ≤ 100000) :
    Calls Tryz.prog 72 #[.agg #[.bool s, .slice A n c], .agg #[.bool t, .slice B m d]] w (RetI (ival s xs * ival t ys) (xs.length + ys.length) w) := by
  have Hn := Lib.hid hn
  have Hm := Lib.hid hm
  clear hn hm
  have lx := trimL_len xs
  have ly := trimL_len ys
  have hxt : Rd w A (trimL xs) := by rw [trimL_take]; exact hx.take _
  have hyt : Rd w B (trimL ys) := by rw [trimL_take]; exact hy.take _
  go_enter Tryz.func72, Tryz.ntmps72
  go_upto_region 1 with (fail)
  obtain ⟨W, hW, extW, bx, by_, bz, hz⟩ := box3 w 24 24 24 #[.bool s, .slice A n c] #[.bool t, .slice B m d] #[.bool false, .slice none 0 0]
  rw [← hW]
  clear hW
  have x0 := bx.cell 0 (.bool s) rfl
  have x1 := bx.cell 1 (.slice A n c) rfl
  have y0 := by_.cell 0 (.bool t) rfl
  have y1 := by_.cell 1 (.slice B m d) rfl
  go_region_held3 (fun w' => w'.cell? ⟨w.heap.size, 0, none⟩ = some (.bool s) ∧ w'.cell? ⟨w.heap.size, 1, none⟩ = some (.slice A n c) ∧ w'.cell? ⟨w.heap.size + 1, 0, none⟩ = some (.bool t) ∧ w'.cell? ⟨w.heap.size + 1, 1, none⟩ = some (.slice B m d)) (first | (go_split_ands; refine ⟨?_, ?_, ?_, ?_⟩ <;> first | (exact Ext.cellv (by assumption) (by assumption)) | (refine (cell_far2 (by omega)).trans ?_; assumption)) | go_keep)
    (first | (go_at_call_of 89 A; refine (int_trimN Hn.out (hx.ext (by first | exact extW | exact extW.drew | exact extW.drewN _ | exact (extW.drew).drew)) hc hcm).mono ?_; rintro e w1 ⟨rfl, rfl⟩) | (go_at_call_of 89 B; refine (int_trimN Hm.out (hy.ext (by first | exact extW | exact extW.drew | exact extW.drewN _ | exact (extW.drew).drew)) hd hdm).mono ?_; rintro e w1 ⟨rfl, rfl⟩) | (go_at_call 102; refine (int_multiply_s rfl rfl (hxt.ext (by first | exact extW | exact extW.drew | exact extW.drewN _ | exact (extW.drew).drew)) (hyt.ext (by first | exact extW | exact extW.drew | exact extW.drewN _ | exact (extW.drew).drew)) (by have := Hn.out; have := Hm.out; omega) (by have := Hn.out; have := Hm.out; omega)).mono ?_; rintro e w2 ⟨A2, c2, zs, rfl, ho2, hc2, hm2, ⟨hv2, hn2, hl2⟩, hext2⟩; have Hv2 := Lib.hid hv2; clear hv2) | (go_at_call 91; refine (int_signed rfl ho2.rd hc2 hm2 hn2).mono ?_; rintro e w3 ⟨b3, A3, c3, rs, rfl, hr3, hc3, hm3, hi3, hl3, hext3⟩; have ext3 := ((Ext.refl W).drew.trans hext2).trans hext3; have bz3 := bz.ext ext3; have z0 := bz3.cell 0 (.bool false) rfl; have z1 := bz3.cell 1 (.slice none 0 0) rfl; have f0 := bz3.frozen 0; have f1 := bz3.frozen 1))
  go_wp2_with fail
  obtain ⟨r1, r2, r3, r4⟩ := fin_pair (b := b3) (n := rs.length) (c := c3) (extW.trans ext3) (by omega) bz3 hr3
  exact bodyPost_ret (v := .agg #[.bool b3, .slice A3 rs.length c3]) (by simp [results, Tryz.results72, go_sem, r3, r4]) rfl ⟨b3, A3, c3, rs, rfl, r1, hc3, hm3, by rw [ival_mul Hv2.out, ival_trim, ival_trim] at hi3; exact hi3, by omega, r2⟩
end
end Go.Proofs.YtiioodgpkdbndaaGreatDoor
namespace Go.Proofs.YtiioodgpkdbndaaGreatDoor
open Go.RowKit
attribute [local go_sem ↓] Go.wp_at_zero Go.wp_at_succ
/-- two slices of words in new memory. -/
def Ret2 (P : List Nat → List Nat → Prop) (w : World) (e : Ending) (w' : World) : Prop :=
  ∃ A c ys A' c' zs, e = .returned (.tuple #[.slice A (List.length ys) c, .slice A' (List.length zs) c']) ∧ Own w' w.heap.size A ys ∧ Own w' w.heap.size A' zs ∧ ys.length ≤ c ∧ c ≤ maxLen ∧ zs.length ≤ c' ∧ c' ≤ maxLen ∧ P ys zs ∧ Ext w w'
/-- divide is right for lists of at most L words. -/
def DivideOK (L : Nat) : Prop := ∀ (A B : Option Addr) (c d n m : Nat) (xs ys : List Nat) (w : World), xs.length = n → ys.length = m → Rd w A xs → Rd w B ys → n ≤ c → c ≤ maxLen → m ≤ d → d ≤ maxLen → Nrm xs → Nrm ys → 0 < m → n ≤ L → m ≤ 100000 →
    Calls Tryz.prog 108 #[.slice A n c, .slice B m d] w (Ret2 (fun qs rs => val qs = val xs / val ys ∧ val rs = val xs % val ys ∧ Nrm qs ∧ Nrm rs ∧ qs.length ≤ xs.length ∧ rs.length ≤ xs.length) w)
theorem val_lt_two {xs : List Nat} (h : W32 xs) (hl : xs.length ≤ 2) : val xs < 18446744073709551616 := by
  have := val_lt h
  have : 4294967296 ^ xs.length ≤ 4294967296 ^ 2 := Nat.pow_le_pow_right (by omega) hl
  omega
theorem nrm_len_le {zs xs : List Nat} (hx : W32 xs) (hz : Nrm zs) (h : val zs ≤ val xs) : zs.length ≤ xs.length := by
  rcases Nat.lt_or_ge xs.length zs.length with hl | hl
  · have := val_lt_of_len hx hz hl; omega
  · exact hl
theorem wrap_nat {a : Nat} (h : a < 18446744073709551616) : IntKind.u64.wrap (a : Int) = (a : Int) := by rw [IntKind.wrap_u64]; omega
section
variable {A B : Option Addr} {c d n m : Nat} {xs ys : List Nat} {w : World} {s t : Bool}
set_option maxHeartbeats 1000000 in
theorem int_divide_lt (hn : xs.length = n) (hm : ys.length = m) (hx : Rd w A xs) (hy : Rd w B ys) (hnx : Nrm xs) (hny : Nrm ys) (hlt : val xs < val ys) (h1 : n ≤ 100000) (h2 : m ≤ 100000) :
    Calls Tryz.prog 108 #[.slice A n c, .slice B m d] w (Ret2 (fun qs rs => val qs = val xs / val ys ∧ val rs = val xs % val ys ∧ Nrm qs ∧ Nrm rs ∧ qs.length ≤ xs.length ∧ rs.length ≤ xs.length) w) := by
  have hcm1 := Lib.hid (show cmpL xs ys = -1 by rw [cmpL_nrm hx.1 hy.1 hnx hny]; exact cmpI_of_lt hlt)
  have Hlt := Lib.hid hlt
  clear hlt
  go_enter Tryz.func108, Tryz.ntmps108
  go_wp2_with fail
  subst hn
  subst hm
  refine (int_compare A B c d xs ys w hx hy (by unfold maxLen; omega) (by unfold maxLen; omega)).mono ?_
  rintro e w1 ⟨rfl, hext1⟩
  rw [hcm1.out]
  go_wp2_with fail
  refine (clone rfl (hx.ext hext1) (by omega)).mono ?_
  rintro e w2 ⟨A2, c2, zs, rfl, ho2, hc2, hm2, rfl, hext2⟩
  go_wp2_with fail
  go_ret2
  have h := Hlt.out
  exact ⟨none, 0, [], A2, c2, zs, rfl, ⟨W32.nil, .inl rfl⟩, ho2.mono hext1.size, by simp, by unfold maxLen; omega, hc2, hm2, ⟨by rw [Nat.div_eq_of_lt h]; rfl, by rw [Nat.mod_eq_of_lt h], Nrm.nil, hnx, by simp, Nat.le_refl _⟩, hext1.trans hext2⟩
set_option maxRecDepth 100000 in
set_option maxHeartbeats 1000000 in
theorem int_divide_two (hn : xs.length = n) (hm : ys.length = m) (hx : Rd w A xs) (hy : Rd w B ys) (hnx : Nrm xs) (hny : Nrm ys) (hge : val ys ≤ val xs) (h0 : 0 < m) (h2 : n ≤ 2) :
    Calls Tryz.prog 108 #[.slice A n c, .slice B m d] w (Ret2 (fun qs rs => val qs = val xs / val ys ∧ val rs = val xs % val ys ∧ Nrm qs ∧ Nrm rs ∧ qs.length ≤ xs.length ∧ rs.length ≤ xs.length) w) := by
  have hml := len_le hx.1 hny hge
  have hpos : val ys ≠ 0 := fun h => by
    have := hny.zero.1 h
    subst this
    simp at hm
    omega
  have hcase : cmpL xs ys = 0 ∨ cmpL xs ys = 1 := by
    rw [cmpL_nrm hx.1 hy.1 hnx hny]
    rcases Nat.lt_or_ge (val ys) (val xs) with h | h
    · exact .inr (cmpI_of_gt h)
    · exact .inl (cmpI_of_eq (by omega))
  have hvx := val_lt_two hx.1 (by omega)
  have hvy := val_lt_two hy.1 (by omega)
  have q1 : val xs / val ys ≤ val xs := Nat.div_le_self _ _
  have q2 : val xs % val ys < val ys := Nat.mod_lt _ (by omega)
  have e1 : val xs / val ys / 4294967296 < 4294967296 := by omega
  have e2 : val xs % val ys / 4294967296 < 4294967296 := by omega
  have Hvx := Lib.hid hvx
  have Hvy := Lib.hid hvy
  have Hq1 := Lib.hid q1
  have Hq2 := Lib.hid q2
  have E1 := Lib.hid e1
  have E2 := Lib.hid e2
  have Hge := Lib.hid hge
  subst hn
  subst hm
  have Hml := Lib.hid hml
  have hz : ((val ys : Nat) : Int) ≠ 0 := by omega
  have hz0 : (((val ys : Nat) : Int) == 0) = false := by rw [beq_eq_false_iff_ne]; exact hz
  have hp1 : (1 : Int) ≤ ((val ys : Nat) : Int) := by omega
  clear hvx hvy q1 q2 e1 e2 hml hge hz
  rcases hcase with hcm | hcm
  all_goals
    have hcm1 := Lib.hid hcm
    clear hcm
    go_enter Tryz.func108, Tryz.ntmps108
    go_wp2_with fail
    refine (int_compare A B c d xs ys w hx hy (by unfold maxLen; omega) (by have := Hml.out; unfold maxLen; omega)).mono ?_
    rintro e w1 ⟨rfl, hext1⟩
    rw [hcm1.out]
    go_wp2_with fail
    refine (int_toUint rfl (hx.ext hext1) h2).mono ?_
    rintro e w2 ⟨rfl, rfl⟩
    go_wp2_with fail
    refine (int_toUint rfl (hy.ext hext1) (by have := Hml.out; omega)).mono ?_
    rintro e w2 ⟨rfl, rfl⟩
    clear hp1 hz0
    generalize hX : val xs = X at *
    generalize hY : val ys = Y at *
    have HX := Lib.hid hX
    have HY := Lib.hid hY
    clear hX hY
    have hz0 : ((Y : Int) == 0) = false := by rw [beq_eq_false_iff_ne]; omega
    have hp1 : (1 : Int) ≤ (Y : Int) := by omega
    have hp0 : (0 : Int) ≤ (X : Int) := by omega
    go_wp2_with fail
    have hq : (X : Int) / (Y : Int) = ((X / Y : Nat) : Int) := (Int.natCast_ediv _ _).symm
    have hr : (X : Int) % (Y : Int) = ((X % Y : Nat) : Int) := (Int.natCast_emod _ _).symm
    have hq' : (X : Int).tdiv (Y : Int) = ((X / Y : Nat) : Int) := rfl
    have hr' : (X : Int).tmod (Y : Int) = ((X % Y : Nat) : Int) := rfl
    have hw1 : IntKind.u64.wrap ((X / Y : Nat) : Int) = ((X / Y : Nat) : Int) := wrap_nat (Nat.lt_of_le_of_lt Hq1.out Hvx.out)
    have hw2 : IntKind.u64.wrap ((X % Y : Nat) : Int) = ((X % Y : Nat) : Int) := wrap_nat (Nat.lt_trans Hq2.out Hvy.out)
    generalize hU : X / Y = U at *
    generalize hV : X % Y = V at *
    have HU := Lib.hid hU
    have HV := Lib.hid hV
    clear hp0 hp1 hU hV
    go_region_with (first | (go_at_call_of 96 U; refine (int_fromUint U E1.out).mono ?_; rintro e w3 ⟨A3, c3, qs, rfl, ho3, hc3, hm3, ⟨hv3, hn3, hl3⟩, hext3⟩; have Hv3 := Lib.hid hv3; clear hv3) | (go_at_call_of 96 V; refine (int_fromUint V E2.out).mono ?_; rintro e w4 ⟨A4, c4, rs, rfl, ho4, hc4, hm4, ⟨hv4, hn4, hl4⟩, hext4⟩; have Hv4 := Lib.hid hv4; clear hv4))
    all_goals
      go_wp2_with fail
      go_ret2
      have ext3 := (Ext.refl w1).drew.trans hext3
      have e3 := Hv3.out
      have e4 := Hv4.out
      have hX := HX.out
      have hY := HY.out
      exact ⟨A3, c3, qs, A4, c4, rs, rfl, (ho3.ext hext4).mono hext1.size, ho4.mono (hext1.trans ext3).size, hc3, hm3, hc4, hm4, ⟨by rw [e3, hX, hY, HU.out], by rw [e4, hX, hY, HV.out], hn3, hn4, nrm_len_le hx.1 hn3 (by rw [e3, hX]; exact Hq1.out), nrm_len_le hx.1 hn4 (by rw [e4, hX]; have := Hq2.out; have := Hge.out; omega)⟩, hext1.trans (ext3.trans hext4)⟩
end
end Go.Proofs.YtiioodgpkdbndaaGreatDoor
namespace Go.Proofs.YtiioodgpkdbndaaGreatDoor
open Go.RowKit
attribute [local go_sem ↓] Go.wp_at_zero Go.wp_at_succ
/-- q is the quotient, rounded down, and r the remainder. -/
def IsDM (a b q r : Int) : Prop := a = q * b + r ∧ (r = 0 ∨ (0 < b ∧ 0 < r ∧ r < b) ∨ (b < 0 ∧ b < r ∧ r < 0))
/-- two integers and an error's number. -/
def RetDM (a b : Int) (lq lr : Nat) (w : World) (e : Ending) (w' : World) : Prop :=
  ∃ b3 A3 c3 qs b4 A4 c4 rs q r, e = .returned (.tuple #[.agg #[.bool b3, .slice A3 (List.length qs) c3], .agg #[.bool b4, .slice A4 (List.length rs) c4], .int .i64 0]) ∧ Rd w' A3 qs ∧ Rd w' A4 rs ∧ qs.length ≤ c3 ∧ c3 ≤ maxLen ∧ rs.length ≤ c4 ∧ c4 ≤ maxLen ∧
    IsInt q b3 qs ∧ IsInt r b4 rs ∧ IsDM a b q r ∧ qs.length ≤ lq ∧ rs.length ≤ lr ∧ Ext w w'
theorem box4 (w : World) (t u v z : TypeId) (a b c d : Array Value) : ∃ W, W = (((w.alloc (.cells a t)).alloc (.cells b u)).alloc (.cells c v)).alloc (.cells d z) ∧ Ext w W ∧ Box W w.heap.size t a ∧ Box W (w.heap.size + 1) u b ∧ Box W (w.heap.size + 1 + 1) v c ∧ Box W (w.heap.size + 1 + 1 + 1) z d ∧ w.heap.size + 4 ≤ W.heap.size := by
  obtain ⟨W, rfl, h1, h2, h3, h4, h5⟩ := box3 w t u v a b c
  have h6 := Box.new (((w.alloc (.cells a t)).alloc (.cells b u)).alloc (.cells c v)) z d
  simp only [World.size_alloc] at h6
  exact ⟨_, rfl, h1.alloc _, h2.ext ((Ext.refl _).alloc _), h3.ext ((Ext.refl _).alloc _), h4.ext ((Ext.refl _).alloc _), h6, by simp⟩
theorem dm_near {s t : Bool} {x y q r : Nat} (hy : 0 < y) (h : x = q * y + r) (hr : r < y) (hc : (s == t) = true ∨ r = 0) :
    IsDM (if s then -(x : Int) else (x : Int)) (if t then -(y : Int) else (y : Int)) (if (!(s == t)) = true then -(q : Int) else (q : Int)) (if t then -(r : Int) else (r : Int)) := by
  subst h
  have e : (((q * y + r : Nat)) : Int) = (q : Int) * (y : Int) + (r : Int) := by rw [Int.natCast_add, Int.natCast_mul]
  rw [e]
  refine ⟨?_, ?_⟩
  · cases s <;> cases t <;> simp at hc ⊢ <;> (try subst hc) <;> simp [Int.neg_mul, Int.mul_neg] <;> omega
  · cases t
    · simp; omega
    · simp; omega
theorem dm_far {s t : Bool} {x y q r : Nat} (hr0 : 0 < r) (h : x = q * y + r) (hr : r < y) (hc : (s == t) = false) :
    IsDM (if s then -(x : Int) else (x : Int)) (if t then -(y : Int) else (y : Int)) (-((q + 1 : Nat) : Int)) (if t then -((y - r : Nat) : Int) else ((y - r : Nat) : Int)) := by
  subst h
  have e : (((q * y + r : Nat)) : Int) = (q : Int) * (y : Int) + (r : Int) := by rw [Int.natCast_add, Int.natCast_mul]
  have e2 : ((y - r : Nat) : Int) = (y : Int) - (r : Int) := by omega
  rw [e, e2]
  refine ⟨?_, ?_⟩
  · cases s <;> cases t <;> simp at hc ⊢ <;> rw [Int.neg_mul] <;> (try rw [Int.mul_neg]) <;> rw [Int.add_mul] <;> omega
  · cases t
    · simp; omega
    · simp; omega
theorem fin_two {w w2 : World} {g h : Nat} {ty : TypeId} {x x' : Bool} {y y' : Option Addr} {p q p' q' : Nat} {A A' : Option Addr} {rs rs' : List Nat} {b b' : Bool} {n c n' c' : Nat} (hext : Ext w w2) (hg : w.heap.size ≤ g) (hh : w.heap.size ≤ h) (hne : g ≠ h)
    (hb : Box w2 g ty #[.bool x, .slice y p q]) (hb' : Box w2 h ty #[.bool x', .slice y' p' q']) (hr : Rd w2 A rs) (hr' : Rd w2 A' rs') (v0 v1 v2 v3 : Value) (e0 : v0 = .bool b) (e1 : v1 = .slice A n c) (e2 : v2 = .bool b') (e3 : v3 = .slice A' n' c') :
    ∃ W', W' = (((w2.setCell ⟨g, 0, none⟩ v0).setCell ⟨g, 1, none⟩ v1).setCell ⟨h, 0, none⟩ v2).setCell ⟨h, 1, none⟩ v3 ∧ Rd W' A rs ∧ Rd W' A' rs' ∧ Ext w W' ∧ W'.cell? ⟨g, 0, none⟩ = some (.bool b) ∧ W'.cell? ⟨g, 1, none⟩ = some (.slice A n c) ∧ W'.cell? ⟨h, 0, none⟩ = some (.bool b') ∧ W'.cell? ⟨h, 1, none⟩ = some (.slice A' n' c') := by
  subst e0 e1 e2 e3
  obtain ⟨r1, r2, _, _⟩ := fin_pair (b := b) (n := n) (c := c) hext hg hb hr
  have q1 := (hr'.setBox hb NoWord.two 0 (.bool b)).setBox (hb.setA (.bool b)) NoWord.two 1 (.slice A n c)
  have k1 := (hb.setA (.bool b)).setB (.slice A n c)
  have k2 := (hb'.far (p := ⟨g, 0, none⟩) (far_ne (Ne.symm hne)) (.bool b)).far (p := ⟨g, 1, none⟩) (far_ne (Ne.symm hne)) (.slice A n c)
  obtain ⟨s1, s2, s3, s4⟩ := fin_pair (b := b') (n := n') (c := c') r2 hh k2 q1
  have t1 := (r1.setBox k2 NoWord.two 0 (.bool b')).setBox (k2.setA (.bool b')) NoWord.two 1 (.slice A' n' c')
  have k3 := (k1.far (p := ⟨h, 0, none⟩) (far_ne hne) (.bool b')).far (p := ⟨h, 1, none⟩) (far_ne hne) (.slice A' n' c')
  exact ⟨_, rfl, t1, s1, s2, k3.cell 0 _ rfl, k3.cell 1 _ rfl, s3, s4⟩
section
variable {A B : Option Addr} {c d n m L : Nat} {xs ys : List Nat} {w : World} {s t : Bool}
set_option maxHeartbeats 1000000 in
theorem int_DivMod_L (hD : DivideOK L) (hn : xs.length = n) (hm : ys.length = m) (hx : Rd w A xs) (hy : Rd w B ys) (hc : n ≤ c) (hcm : c ≤ maxLen) (hd : m ≤ d) (hdm : d ≤ maxLen) (h1 : n ≤ 100000) (h2 : m ≤ 100000) (hL : n ≤ L) (h0 : val ys ≠ 0) :
    Calls Tryz.prog 78 #[.agg #[.bool s, .slice A n c], .agg #[.bool t, .slice B m d]] w (RetDM (ival s xs) (ival t ys) (xs.length + 1) (max xs.length ys.length) w) := by
  have Hn := Lib.hid hn
  have Hm := Lib.hid hm
  clear hn hm
  have lx := trimL_len xs
  have ly := trimL_len ys
  have hxt : Rd w A (trimL xs) := by rw [trimL_take]; exact hx.take _
  have hyt : Rd w B (trimL ys) := by rw [trimL_take]; exact hy.take _
  go_enter Tryz.func78, Tryz.ntmps78
  go_upto_region 1 with (fail)
  obtain ⟨W, hW, extW, bx, by_, bz, bu, hz⟩ := box4 w 24 24 24 24 #[.bool s, .slice A n c] #[.bool t, .slice B m d] #[.bool false, .slice none 0 0] #[.bool false, .slice none 0 0]
  rw [← hW]
  clear hW
  have x0 := bx.cell 0 (.bool s) rfl
  have x1 := bx.cell 1 (.slice A n c) rfl
  have y0 := by_.cell 0 (.bool t) rfl
  have y1 := by_.cell 1 (.slice B m d) rfl
  go_quiet (first | (go_at_call_of 89 A; exact quiet_left (int_trimN Hn.out (hx.ext (extW.drewN _)) hc hcm)) | (go_at_call_of 89 B; exact quiet_left (int_trimN Hm.out (hy.ext (extW.drewN _)) hd hdm)))
  refine at_then (fun N => Ext w N ∧ Box N w.heap.size 24 #[.bool s, .slice A n c] ∧ Box N (w.heap.size + 1) 24 #[.bool t, .slice B m d] ∧ Box N (w.heap.size + 1 + 1) 24 #[.bool false, .slice none 0 0] ∧ Box N (w.heap.size + 1 + 1 + 1) 24 #[.bool false, .slice none 0 0] ∧ w.heap.size + 4 ≤ N.heap.size) ⟨extW.drewN _, bx.ext ((Ext.refl _).drewN _), by_.ext ((Ext.refl _).drewN _), bz.ext ((Ext.refl _).drewN _), bu.ext ((Ext.refl _).drewN _), hz⟩ ?_
  clear x0 x1 y0 y1 extW bx by_ bz bu hz
  rintro N ⟨extN, bx, by_, bz, bu, hz⟩
  have x0 := bx.cell 0 (.bool s) rfl
  have y0 := by_.cell 0 (.bool t) rfl
  have hpy : val (trimL ys) ≠ 0 := by rw [val_trimL]; exact h0
  have hly : 0 < (trimL ys).length := by
    rcases Nat.eq_zero_or_pos (trimL ys).length with h | h
    · exact absurd ((Nrm.trimL ys).zero.2 (List.eq_nil_of_length_eq_zero h)) hpy
    · exact h
  have ht0 : (((trimL ys).length : Int) == 0) = false := by rw [beq_eq_false_iff_ne]; omega
  have HD := Lib.hid hD
  have H0 := Lib.hid h0
  clear hD h0 hpy
  go_wp2_with fail
  refine (HD.out A B c d _ _ (trimL xs) (trimL ys) N rfl rfl (hxt.ext extN) (hyt.ext extN) (by have := Hn.out; omega) hcm (by have := Hm.out; omega) hdm (Nrm.trimL xs) (Nrm.trimL ys) hly (by have := Hn.out; omega) (by have := Hm.out; omega)).mono ?_
  rintro e w1 ⟨A5, c5, qs, A6, c6, rs, rfl, ho5, ho6, hc5, hm5, hc6, hm6, ⟨hv5, hv6, hn5, hn6, hl5, hl6⟩, hext1⟩
  have Hv5 := Lib.hid hv5
  have Hv6 := Lib.hid hv6
  clear hv5 hv6
  replace extN := extN.trans hext1
  replace bx := bx.ext hext1
  replace by_ := by_.ext hext1
  replace bz := bz.ext hext1
  replace bu := bu.ext hext1
  have hs1 := hext1.size
  clear x0 y0
  have x0 := bx.cell 0 (.bool s) rfl
  have y0 := by_.cell 0 (.bool t) rfl
  have hrs0 : rs.length = 0 → val rs = 0 := fun h => by rw [List.eq_nil_of_length_eq_zero h]; rfl
  have hdm1 : val (trimL xs) = val qs * val (trimL ys) + val rs := by
    rw [Hv5.out, Hv6.out, Nat.mul_comm]; exact (Nat.div_add_mod _ _).symm
  have hdm2 : val rs < val (trimL ys) := by rw [Hv6.out]; exact Nat.mod_lt _ (by rw [val_trimL]; have := H0.out; omega)
  rw [val_trimL, val_trimL] at hdm1
  rw [val_trimL] at hdm2
  have Hdm1 := Lib.hid hdm1
  have Hdm2 := Lib.hid hdm2
  have Hrs0 := Lib.hid hrs0
  clear hdm1 hdm2 hrs0
  by_cases hcase : (s == t) = true ∨ rs.length = 0
  · have Hcase := Lib.hid hcase
    rcases hcase with hst | hr0
    · have hnot : (!(s == t)) = false := by rw [hst]; rfl
      go_wp2_with fail
      go_region_held3 (fun w' => w'.cell? ⟨w.heap.size + 1, 0, none⟩ = some (.bool t)) (first | (first | (exact Ext.cellv (by assumption) (by assumption)) | (refine (cell_far2 (by omega)).trans ?_; assumption)) | go_keep)
        (first | (go_at_call_of 91 A5; refine (int_signed rfl (ho5.rd.ext (by first | exact Ext.refl _ | exact (Ext.refl _).drew)) hc5 hm5 hn5).mono ?_; rintro e w3 ⟨b3, A3, c3, ps, rfl, hr3, hc3, hm3, hi3, hl3, hext3⟩; have ext3 := (Ext.refl w1).drew.trans hext3) | (go_at_call_of 91 A6; refine (int_signed rfl (ho6.rd.ext ext3) hc6 hm6 hn6).mono ?_; rintro e w4 ⟨b4, A4, c4, us, rfl, hr4, hc4, hm4, hi4, hl4, hext4⟩; have ext4 := ext3.trans hext4; have bz4 := bz.ext ext4; have bu4 := bu.ext ext4; have z0 := bz4.cell 0 (.bool false) rfl; have z1 := bz4.cell 1 (.slice none 0 0) rfl; have f0 := bz4.frozen 0; have f1 := bz4.frozen 1; have u0 := bu4.cell 0 (.bool false) rfl; have u1 := bu4.cell 1 (.slice none 0 0) rfl; have g0 := bu4.frozen 0; have g1 := bu4.frozen 1))
      go_wp2_with fail
      obtain ⟨W', hW', r1, r2, r3, r4, r5, r6, r7⟩ := fin_two (b := b3) (A := A3) (n := ps.length) (c := c3) (b' := b4) (A' := A4) (n' := us.length) (c' := c4) (extN.trans ext4) (show w.heap.size ≤ w.heap.size + 1 + 1 by omega) (show w.heap.size ≤ w.heap.size + 1 + 1 + 1 by omega) (by omega) bz4 bu4 (hr3.ext hext4) hr4 _ _ _ _ rfl rfl rfl rfl
      rw [← hW']
      refine bodyPost_ret (v := .tuple #[.agg #[.bool b3, .slice A3 ps.length c3], .agg #[.bool b4, .slice A4 us.length c4], .int .i64 0]) (by simp [results, Tryz.results78, go_sem, r4, r5, r6, r7]) rfl ⟨b3, A3, c3, ps, b4, A4, c4, us, _, _, rfl, r1, r2, hc3, hm3, hc4, hm4, hi3, hi4, ?_, by omega, by omega, r3⟩
      have e := dm_near (s := s) (t := t) (x := val xs) (y := val ys) (q := val qs) (r := val rs) (by have := H0.out; omega) Hdm1.out Hdm2.out (Hcase.out.imp id Hrs0.out)
      first | simp only [hst, Bool.not_true] at e | simp only [hst, Bool.not_false] at e | simp only [hst] at e
      exact e
    · have hd1 : decide ((0 : Int) < (rs.length : Int)) = false := decide_eq_false (by omega)
      have hd2 : decide (0 < rs.length) = false := decide_eq_false (by omega)
      have Hr0 := Lib.hid hr0
      clear hr0
      cases hst : (s == t)
      all_goals
        go_wp2_with fail
        go_region_held3 (fun w' => w'.cell? ⟨w.heap.size + 1, 0, none⟩ = some (.bool t)) (first | (first | (exact Ext.cellv (by assumption) (by assumption)) | (refine (cell_far2 (by omega)).trans ?_; assumption)) | go_keep)
          (first | (go_at_call_of 91 A5; refine (int_signed rfl (ho5.rd.ext (by first | exact Ext.refl _ | exact (Ext.refl _).drew)) hc5 hm5 hn5).mono ?_; rintro e w3 ⟨b3, A3, c3, ps, rfl, hr3, hc3, hm3, hi3, hl3, hext3⟩; have ext3 := (Ext.refl w1).drew.trans hext3) | (go_at_call_of 91 A6; refine (int_signed rfl (ho6.rd.ext ext3) hc6 hm6 hn6).mono ?_; rintro e w4 ⟨b4, A4, c4, us, rfl, hr4, hc4, hm4, hi4, hl4, hext4⟩; have ext4 := ext3.trans hext4; have bz4 := bz.ext ext4; have bu4 := bu.ext ext4; have z0 := bz4.cell 0 (.bool false) rfl; have z1 := bz4.cell 1 (.slice none 0 0) rfl; have f0 := bz4.frozen 0; have f1 := bz4.frozen 1; have u0 := bu4.cell 0 (.bool false) rfl; have u1 := bu4.cell 1 (.slice none 0 0) rfl; have g0 := bu4.frozen 0; have g1 := bu4.frozen 1))
        go_wp2_with fail
        obtain ⟨W', hW', r1, r2, r3, r4, r5, r6, r7⟩ := fin_two (b := b3) (A := A3) (n := ps.length) (c := c3) (b' := b4) (A' := A4) (n' := us.length) (c' := c4) (extN.trans ext4) (show w.heap.size ≤ w.heap.size + 1 + 1 by omega) (show w.heap.size ≤ w.heap.size + 1 + 1 + 1 by omega) (by omega) bz4 bu4 (hr3.ext hext4) hr4 _ _ _ _ rfl rfl rfl rfl
        rw [← hW']
        refine bodyPost_ret (v := .tuple #[.agg #[.bool b3, .slice A3 ps.length c3], .agg #[.bool b4, .slice A4 us.length c4], .int .i64 0]) (by simp [results, Tryz.results78, go_sem, r4, r5, r6, r7]) rfl ⟨b3, A3, c3, ps, b4, A4, c4, us, _, _, rfl, r1, r2, hc3, hm3, hc4, hm4, hi3, hi4, ?_, by omega, by omega, r3⟩
        have e := dm_near (s := s) (t := t) (x := val xs) (y := val ys) (q := val qs) (r := val rs) (by have := H0.out; omega) Hdm1.out Hdm2.out (Hcase.out.imp id Hrs0.out)
        first | simp only [hst, Bool.not_true] at e | simp only [hst, Bool.not_false] at e | simp only [hst] at e
        exact e
  · have hst : (s == t) = false := by
      cases h : (s == t) with
      | true => exact absurd (.inl h) hcase
      | false => rfl
    have hrl : 0 < rs.length := by
      rcases Nat.eq_zero_or_pos rs.length with h | h
      · exact absurd (.inr h) hcase
      · exact h
    clear hcase
    have hd1 : decide ((0 : Int) < (rs.length : Int)) = true := decide_eq_true (by omega)
    have hd2 : decide (0 < rs.length) = true := decide_eq_true (by omega)
    go_wp2_with fail
    have hnew := BlkN.lit w1 [1] #[.int .u32 1] rfl
    refine (int_add (xs := qs) (ys := [1]) rfl rfl (ho5.rd.ext ((Ext.refl w1).alloc _)) (hnew.rd0 (W32.one (by omega))) (by have := Hn.out; omega) (by simp)).mono ?_
    rintro e w5 ⟨A7, c7, q2, rfl, ho7, hc7, hm7, ⟨hv7, hn7, hl7⟩, hext7⟩
    have ext7 := ((Ext.refl w1).alloc (.cells #[.int .u32 1] 71)).trans hext7
    have Hv7 := Lib.hid hv7
    clear hv7
    go_wp2_with fail
    refine (int_subtract (xs := trimL ys) (ys := rs) rfl rfl (hyt.ext (extN.trans ext7)) (ho6.rd.ext ext7) (len_le hyt.1 hn6 (by rw [val_trimL]; exact Nat.le_of_lt Hdm2.out)) (by rw [val_trimL]; exact Nat.le_of_lt Hdm2.out) (by have := Hm.out; omega)).mono ?_
    rintro e w6 ⟨A8, c8, r2', rfl, ho8, hc8, hm8, ⟨hv8, hn8, hl8⟩, hext8⟩
    have ext8 := ext7.trans hext8
    have Hv8 := Lib.hid hv8
    clear hv8
    replace extN := extN.trans ext8
    replace bx := bx.ext ext8
    replace by_ := by_.ext ext8
    replace bz := bz.ext ext8
    replace bu := bu.ext ext8
    have ho7' := ho7.rd.ext hext8
    clear x0 y0
    have y0 := by_.cell 0 (.bool t) rfl
    go_wp2_with fail
    go_region_held3 (fun w' => w'.cell? ⟨w.heap.size + 1, 0, none⟩ = some (.bool t)) (first | (first | (exact Ext.cellv (by assumption) (by assumption)) | (refine (cell_far2 (by omega)).trans ?_; assumption)) | go_keep)
      (first | (go_at_call_of 91 A7; refine (int_signed rfl (ho7'.ext (by first | exact Ext.refl _ | exact (Ext.refl _).drew)) hc7 hm7 hn7).mono ?_; rintro e w3 ⟨b3, A3, c3, ps, rfl, hr3, hc3, hm3, hi3, hl3, hext3⟩; have ext3 := (Ext.refl w6).drew.trans hext3) | (go_at_call_of 91 A8; refine (int_signed rfl (ho8.rd.ext ext3) hc8 hm8 hn8).mono ?_; rintro e w4 ⟨b4, A4, c4, us, rfl, hr4, hc4, hm4, hi4, hl4, hext4⟩; have ext4 := ext3.trans hext4; have bz4 := bz.ext ext4; have bu4 := bu.ext ext4; have z0 := bz4.cell 0 (.bool false) rfl; have z1 := bz4.cell 1 (.slice none 0 0) rfl; have f0 := bz4.frozen 0; have f1 := bz4.frozen 1; have u0 := bu4.cell 0 (.bool false) rfl; have u1 := bu4.cell 1 (.slice none 0 0) rfl; have g0 := bu4.frozen 0; have g1 := bu4.frozen 1))
    go_wp2_with fail
    obtain ⟨W', hW', r1, r2, r3, r4, r5, r6, r7⟩ := fin_two (b := b3) (A := A3) (n := ps.length) (c := c3) (b' := b4) (A' := A4) (n' := us.length) (c' := c4) (extN.trans ext4) (show w.heap.size ≤ w.heap.size + 1 + 1 by omega) (show w.heap.size ≤ w.heap.size + 1 + 1 + 1 by omega) (by omega) bz4 bu4 (hr3.ext hext4) hr4 _ _ _ _ rfl rfl rfl rfl
    rw [← hW']
    refine bodyPost_ret (v := .tuple #[.agg #[.bool b3, .slice A3 ps.length c3], .agg #[.bool b4, .slice A4 us.length c4], .int .i64 0]) (by simp [results, Tryz.results78, go_sem, r4, r5, r6, r7]) rfl ⟨b3, A3, c3, ps, b4, A4, c4, us, _, _, rfl, r1, r2, hc3, hm3, hc4, hm4, hi3, hi4, ?_, by (simp at hl7; omega), by omega, r3⟩
    have h7 := Hv7.out
    have h8 := Hv8.out
    rw [val_one] at h7
    rw [val_trimL] at h8
    have hrp : 0 < val rs := by
      have := hn6.zero
      rcases Nat.eq_zero_or_pos (val rs) with h | h
      · rw [this.1 h] at hrl; simp at hrl
      · exact h
    have e := dm_far (s := s) (t := t) (x := val xs) (y := val ys) (q := val qs) (r := val rs) hrp Hdm1.out Hdm2.out hst
    rw [← h7, ← h8] at e
    exact e
end
end Go.Proofs.YtiioodgpkdbndaaGreatDoor
namespace Go.Proofs.YtiioodgpkdbndaaGreatDoor
open Go.RowKit
attribute [local go_sem ↓] Go.wp_at_zero Go.wp_at_succ
/-- four factors: none of use, or those of SRes. -/
def Steps4 (A0 B0 : Nat) (x1 y1 x2 y2 : Int) : Prop :=
  y1 = 0 ∨ (y1 ≠ 0 ∧ ∃ e p a u0 u1 v0 v1, SRes A0 B0 e p a u0 u1 v0 v1 ∧ 1 ≤ v0 ∧ x1 = (if e then (u0 : Int) else -(u0 : Int)) ∧ y1 = (if e then -(v0 : Int) else (v0 : Int)) ∧ x2 = (if e then -(u1 : Int) else (u1 : Int)) ∧ y2 = (if e then (v1 : Int) else -(v1 : Int)))
section
variable {w : World}
theorem put4 {w : World} {g : Nat} {t : TypeId} {a b c d : Value} (hb : Box w g t #[a, b, c, d]) (p q r s : Value) : Box ((((w.setCell ⟨g, 0, none⟩ p).setCell ⟨g, 1, none⟩ q).setCell ⟨g, 2, none⟩ r).setCell ⟨g, 3, none⟩ s) g t #[p, q, r, s] ∧
    ∀ W0, Ext W0 w → W0.heap.size ≤ g → Ext W0 ((((w.setCell ⟨g, 0, none⟩ p).setCell ⟨g, 1, none⟩ q).setCell ⟨g, 2, none⟩ r).setCell ⟨g, 3, none⟩ s) := by
  refine ⟨?_, fun _ e hg => (((e.setCell hg _).setCell hg _).setCell hg _).setCell hg _⟩
  have h1 := (((hb.set 0 p).set 1 q).set 2 r).set 3 s
  exact h1
theorem steps_t {A0 B0 a u0 u1 v0 v1 : Nat} (h : v0 = 0 ∨ ∃ p, SRes A0 B0 true p a u0 u1 v0 v1) : Steps4 A0 B0 (u0 : Int) (-(v0 : Int)) (-(u1 : Int)) (v1 : Int) := by
  by_cases h0 : v0 = 0
  · left; omega
  · rcases h with h | ⟨p, h⟩
    · exact absurd h h0
    · exact .inr ⟨by omega, true, p, a, u0, u1, v0, v1, h, by omega, rfl, rfl, rfl, rfl⟩
theorem steps_f {A0 B0 a u0 u1 v0 v1 : Nat} (h : v0 = 0 ∨ ∃ p, SRes A0 B0 false p a u0 u1 v0 v1) : Steps4 A0 B0 (-(u0 : Int)) (v0 : Int) (u1 : Int) (-(v1 : Int)) := by
  by_cases h0 : v0 = 0
  · left; omega
  · rcases h with h | ⟨p, h⟩
    · exact absurd h h0
    · exact .inr ⟨by omega, false, p, a, u0, u1, v0, v1, h, by omega, rfl, rfl, rfl, rfl⟩
set_option maxRecDepth 100000 in
set_option maxHeartbeats 4000000 in
theorem int_simulate {A0 B0 : Nat} (hle : B0 ≤ A0) (hA : A0 < 4611686018427387904) :
    Calls Tryz.prog 145 #[.int .u64 (A0 : Int), .int .u64 (B0 : Int)] w fun e w' => ∃ x1 y1 x2 y2 : Int, e = .returned (.agg #[.int .i64 x1, .int .i64 y1, .int .i64 x2, .int .i64 y2]) ∧ Steps4 A0 B0 x1 y1 x2 y2 ∧ Ext w w' := by
  go_enter Tryz.func145, Tryz.ntmps145
  go_upto_region 1 with (fail)
  obtain ⟨W, hW, extW, bz, hz⟩ := box1 w 130 #[.int .i64 0, .int .i64 0, .int .i64 0, .int .i64 0]
  rw [← hW]
  clear hW
  go_wp2
  go_loopw [0, 1, 5, 6, 7, 8, 9, 10, 11] (fun sa sb s0 s1 s2 t0 t1 t2 se wr => ∃ (e : Bool) (a b u0 u1 u2 v0 v1 v2 : Nat), sa = .int .u64 (a : Int) ∧ sb = .int .u64 (b : Int) ∧ s0 = .int .u64 (u0 : Int) ∧ s1 = .int .u64 (u1 : Int) ∧ s2 = .int .u64 (u2 : Int) ∧ t0 = .int .u64 (v0 : Int) ∧ t1 = .int .u64 (v1 : Int) ∧ t2 = .int .u64 (v2 : Int) ∧ se = .bool e ∧ SInv A0 B0 e a b u1 u2 v1 v2 ∧ (v0 = 0 ∨ ∃ p, SRes A0 B0 e p a u0 u1 v0 v1) ∧ a ≤ A0 ∧ u0 ≤ A0 + 1 ∧ v0 ≤ A0 + 1 ∧ u1 ≤ A0 + 1 ∧ v1 ≤ A0 + 1 ∧ u2 ≤ A0 + 1 ∧ v2 ≤ A0 + 1 ∧ Ext W wr) (fun _ sb _ _ _ _ _ _ _ _ => (intOf sb).toNat)
  case atStart => exact ⟨false, A0, B0, 0, 1, 0, 0, 0, 1, rfl, rfl, rfl, rfl, rfl, rfl, rfl, rfl, rfl, SInv.start hle, .inl rfl, Nat.le_refl _, by omega, by omega, by omega, by omega, by omega, by omega, Ext.refl _⟩
  case round =>
    obtain ⟨e, a, b, u0, u1, u2, v0, v1, v2, rfl, rfl, rfl, rfl, rfl, rfl, rfl, rfl, rfl, hinv, hres, ha, b0, c0, b1, c1, b2, c2, hext⟩ := hrel
    have hba := hinv.le
    have HI := Lib.hid hinv
    have HR := Lib.hid hres
    clear hinv hres
    by_cases k1 : v2 ≤ b
    · by_cases k2 : b + v1 + v2 ≤ a
      · obtain ⟨hs1, hs2, hs3⟩ := HI.out.step k1 k2
        have hb0 : 0 < b := by have := HI.out.pos; omega
        have hl2 := hs1.l2
        have hqu : a / b * u2 ≤ a / b * v2 := Nat.mul_le_mul_left _ HI.out.l2
        have hr := Nat.mod_lt a hb0
        have hqa := Nat.div_le_self a b
        have hdq : (a : Int) / (b : Int) = ((a / b : Nat) : Int) := by omega
        have hdr : (a : Int) % (b : Int) = ((a % b : Nat) : Int) := by omega
        generalize a / b = q at *
        generalize a % b = r at *
        have g1 : (q : Int) * (u2 : Int) ≤ 4611686018427387904 := by have : ((q * u2 : Nat) : Int) ≤ 4611686018427387904 := by omega
                                                                     rwa [Int.natCast_mul] at this
        have g2 : (q : Int) * (v2 : Int) ≤ 4611686018427387904 := by have : ((q * v2 : Nat) : Int) ≤ 4611686018427387904 := by omega
                                                                     rwa [Int.natCast_mul] at this
        have g3 : 0 ≤ (q : Int) * (u2 : Int) := Int.mul_nonneg (Int.natCast_nonneg _) (Int.natCast_nonneg _)
        have g4 : 0 ≤ (q : Int) * (v2 : Int) := Int.mul_nonneg (Int.natCast_nonneg _) (Int.natCast_nonneg _)
        have t1 : decide ((v2 : Int) ≤ (b : Int)) = true := decide_eq_true (by omega)
        have t2 : decide ((v1 : Int) + (v2 : Int) ≤ (a : Int) - (b : Int)) = true := decide_eq_true (by omega)
        have HQ := Lib.hid hdq
        have HM := Lib.hid hdr
        have H1 := Lib.hid hs1
        have H2 := Lib.hid hs2
        clear hdq hdr hs1 hs2 hqu
        go_upto_region 6 with (fail)
        rw [HQ.out]
        go_quiet (fail)
        rw [HM.out]
        go_wp2_with fail
        go_roundw
        case rel => exact ⟨!e, b, r, u1, u2, u1 + q * u2, v1, v2, v1 + q * v2, rfl, rfl, rfl, rfl, congrArg (Value.int .u64) (by rw [Int.natCast_add, Int.natCast_mul]), rfl, rfl, congrArg (Value.int .u64) (by rw [Int.natCast_add, Int.natCast_mul]), rfl, H1.out, .inr ⟨a, H2.out⟩, by omega, by omega, by omega, by omega, by omega, by omega, by omega, hext.drewN _⟩
        case measure => simp [intOf]; omega
      · have t1 : decide ((v2 : Int) ≤ (b : Int)) = true := decide_eq_true (by omega)
        have t2 : decide ((v1 : Int) + (v2 : Int) ≤ (a : Int) - (b : Int)) = false := decide_eq_false (by omega)
        go_upto_region 10 with (fail)
        have bzr := bz.ext hext
        have hsz := hext.size
        cases e with
        | true =>
          go_upto_region 13 with (fail)
          refine at_world (fun X => Ext W X ∧ Box X wr.heap.size 130 #[.int .i64 (u0 : Int), .int .i64 (-(v0 : Int)), .int .i64 (-(u1 : Int)), .int .i64 (v1 : Int)] ∧ Box X w.heap.size 130 #[.int .i64 0, .int .i64 0, .int .i64 0, .int .i64 0]) ⟨hext.alloc _, Box.new wr _ _, bzr.ext ((Ext.refl wr).alloc _)⟩ ?_
          generalize wr.heap.size = g13
          rintro X ⟨EX, bs, bzx⟩
          have y0 := bs.cell 0 _ rfl
          have y1 := bs.cell 1 _ rfl
          have y2 := bs.cell 2 _ rfl
          have y3 := bs.cell 3 _ rfl
          have z0 := bzx.cell 0 _ rfl
          have z1 := bzx.cell 1 _ rfl
          have z2 := bzx.cell 2 _ rfl
          have z3 := bzx.cell 3 _ rfl
          have f0 := bzx.frozen 0
          have f1 := bzx.frozen 1
          have f2 := bzx.frozen 2
          have f3 := bzx.frozen 3
          go_wp2_with fail
          have hp := put4 bzx (.int .i64 (u0 : Int)) (.int .i64 (-(v0 : Int))) (.int .i64 (-(u1 : Int))) (.int .i64 (v1 : Int))
          have r0 := hp.1.cell 0 _ rfl
          have r1 := hp.1.cell 1 _ rfl
          have r2 := hp.1.cell 2 _ rfl
          have r3 := hp.1.cell 3 _ rfl
          exact bodyPost_ret (v := .agg #[.int .i64 (u0 : Int), .int .i64 (-(v0 : Int)), .int .i64 (-(u1 : Int)), .int .i64 (v1 : Int)]) (by simp [results, Tryz.results145, go_sem, r0, r1, r2, r3]) rfl ⟨_, _, _, _, rfl, steps_t HR.out, hp.2 _ (extW.trans EX) (Nat.le_refl _)⟩
        | false =>
          go_upto_region 13 with (fail)
          refine at_world (fun X => Ext W X ∧ Box X wr.heap.size 130 #[.int .i64 (-(u0 : Int)), .int .i64 (v0 : Int), .int .i64 (u1 : Int), .int .i64 (-(v1 : Int))] ∧ Box X w.heap.size 130 #[.int .i64 0, .int .i64 0, .int .i64 0, .int .i64 0]) ⟨hext.alloc _, Box.new wr _ _, bzr.ext ((Ext.refl wr).alloc _)⟩ ?_
          generalize wr.heap.size = g13
          rintro X ⟨EX, bs, bzx⟩
          have y0 := bs.cell 0 _ rfl
          have y1 := bs.cell 1 _ rfl
          have y2 := bs.cell 2 _ rfl
          have y3 := bs.cell 3 _ rfl
          have z0 := bzx.cell 0 _ rfl
          have z1 := bzx.cell 1 _ rfl
          have z2 := bzx.cell 2 _ rfl
          have z3 := bzx.cell 3 _ rfl
          have f0 := bzx.frozen 0
          have f1 := bzx.frozen 1
          have f2 := bzx.frozen 2
          have f3 := bzx.frozen 3
          go_wp2_with fail
          have hp := put4 bzx (.int .i64 (-(u0 : Int))) (.int .i64 (v0 : Int)) (.int .i64 (u1 : Int)) (.int .i64 (-(v1 : Int)))
          have r0 := hp.1.cell 0 _ rfl
          have r1 := hp.1.cell 1 _ rfl
          have r2 := hp.1.cell 2 _ rfl
          have r3 := hp.1.cell 3 _ rfl
          exact bodyPost_ret (v := .agg #[.int .i64 (-(u0 : Int)), .int .i64 (v0 : Int), .int .i64 (u1 : Int), .int .i64 (-(v1 : Int))]) (by simp [results, Tryz.results145, go_sem, r0, r1, r2, r3]) rfl ⟨_, _, _, _, rfl, steps_f HR.out, hp.2 _ (extW.trans EX) (Nat.le_refl _)⟩
    · have t1 : decide ((v2 : Int) ≤ (b : Int)) = false := decide_eq_false (by omega)
      go_upto_region 10 with (fail)
      have bzr := bz.ext hext
      have hsz := hext.size
      cases e with
      | true =>
        go_upto_region 13 with (fail)
        refine at_world (fun X => Ext W X ∧ Box X wr.heap.size 130 #[.int .i64 (u0 : Int), .int .i64 (-(v0 : Int)), .int .i64 (-(u1 : Int)), .int .i64 (v1 : Int)] ∧ Box X w.heap.size 130 #[.int .i64 0, .int .i64 0, .int .i64 0, .int .i64 0]) ⟨hext.alloc _, Box.new wr _ _, bzr.ext ((Ext.refl wr).alloc _)⟩ ?_
        generalize wr.heap.size = g13
        rintro X ⟨EX, bs, bzx⟩
        have y0 := bs.cell 0 _ rfl
        have y1 := bs.cell 1 _ rfl
        have y2 := bs.cell 2 _ rfl
        have y3 := bs.cell 3 _ rfl
        have z0 := bzx.cell 0 _ rfl
        have z1 := bzx.cell 1 _ rfl
        have z2 := bzx.cell 2 _ rfl
        have z3 := bzx.cell 3 _ rfl
        have f0 := bzx.frozen 0
        have f1 := bzx.frozen 1
        have f2 := bzx.frozen 2
        have f3 := bzx.frozen 3
        go_wp2_with fail
        have hp := put4 bzx (.int .i64 (u0 : Int)) (.int .i64 (-(v0 : Int))) (.int .i64 (-(u1 : Int))) (.int .i64 (v1 : Int))
        have r0 := hp.1.cell 0 _ rfl
        have r1 := hp.1.cell 1 _ rfl
        have r2 := hp.1.cell 2 _ rfl
        have r3 := hp.1.cell 3 _ rfl
        exact bodyPost_ret (v := .agg #[.int .i64 (u0 : Int), .int .i64 (-(v0 : Int)), .int .i64 (-(u1 : Int)), .int .i64 (v1 : Int)]) (by simp [results, Tryz.results145, go_sem, r0, r1, r2, r3]) rfl ⟨_, _, _, _, rfl, steps_t HR.out, hp.2 _ (extW.trans EX) (Nat.le_refl _)⟩
      | false =>
        go_upto_region 13 with (fail)
        refine at_world (fun X => Ext W X ∧ Box X wr.heap.size 130 #[.int .i64 (-(u0 : Int)), .int .i64 (v0 : Int), .int .i64 (u1 : Int), .int .i64 (-(v1 : Int))] ∧ Box X w.heap.size 130 #[.int .i64 0, .int .i64 0, .int .i64 0, .int .i64 0]) ⟨hext.alloc _, Box.new wr _ _, bzr.ext ((Ext.refl wr).alloc _)⟩ ?_
        generalize wr.heap.size = g13
        rintro X ⟨EX, bs, bzx⟩
        have y0 := bs.cell 0 _ rfl
        have y1 := bs.cell 1 _ rfl
        have y2 := bs.cell 2 _ rfl
        have y3 := bs.cell 3 _ rfl
        have z0 := bzx.cell 0 _ rfl
        have z1 := bzx.cell 1 _ rfl
        have z2 := bzx.cell 2 _ rfl
        have z3 := bzx.cell 3 _ rfl
        have f0 := bzx.frozen 0
        have f1 := bzx.frozen 1
        have f2 := bzx.frozen 2
        have f3 := bzx.frozen 3
        go_wp2_with fail
        have hp := put4 bzx (.int .i64 (-(u0 : Int))) (.int .i64 (v0 : Int)) (.int .i64 (u1 : Int)) (.int .i64 (-(v1 : Int)))
        have r0 := hp.1.cell 0 _ rfl
        have r1 := hp.1.cell 1 _ rfl
        have r2 := hp.1.cell 2 _ rfl
        have r3 := hp.1.cell 3 _ rfl
        exact bodyPost_ret (v := .agg #[.int .i64 (-(u0 : Int)), .int .i64 (v0 : Int), .int .i64 (u1 : Int), .int .i64 (-(v1 : Int))]) (by simp [results, Tryz.results145, go_sem, r0, r1, r2, r3]) rfl ⟨_, _, _, _, rfl, steps_f HR.out, hp.2 _ (extW.trans EX) (Nat.le_refl _)⟩
end
end Go.Proofs.YtiioodgpkdbndaaGreatDoor
namespace Go.Proofs.YtiioodgpkdbndaaGreatDoor
open Go.RowKit
/-- both new numbers, from the factors of the first digits. -/
theorem Steps4.use {x y k : Nat} {x1 y1 x2 y2 : Int} (h : Steps4 (x / 2 ^ k) (y / 2 ^ k) x1 y1 x2 y2) (h0 : y1 ≠ 0) (hA : x / 2 ^ k < 4611686018427387904) :
    ∃ R S : Nat, x1 * (x : Int) + y1 * (y : Int) = (R : Int) ∧ x2 * (x : Int) + y2 * (y : Int) = (S : Int) ∧ S < R ∧ R + S ≤ x ∧ Nat.gcd R S = Nat.gcd x y ∧
      ((x1 ≤ 0 ∧ 0 ≤ y1) ∨ (0 ≤ x1 ∧ y1 ≤ 0)) ∧ ((x2 ≤ 0 ∧ 0 ≤ y2) ∨ (0 ≤ x2 ∧ y2 ≤ 0)) ∧
      (-2147483647 ≤ x1 ∧ x1 ≤ 2147483647 ∧ -2147483647 ≤ y1 ∧ y1 ≤ 2147483647) ∧ (-2147483647 ≤ x2 ∧ x2 ≤ 2147483647 ∧ -2147483647 ≤ y2 ∧ y2 ≤ 2147483647) := by
  rcases h with h | ⟨_, e, p, a, u0, u1, v0, v1, hs, hv0, rfl, rfl, rfl, rfl⟩
  · exact absurd h h0
  have hp : 0 < 2 ^ k := Nat.pow_pos (by omega)
  obtain ⟨R, S, hr, hlt⟩ := hs.real (Nat.mod_lt x hp) (Nat.mod_lt y hp)
  rw [Nat.div_add_mod, Nat.div_add_mod] at hr
  have hg := hs.gcd hr
  obtain ⟨bx, _⟩ := hs.back hr
  obtain ⟨f1, f2, f3, f4⟩ := hs.factors hA
  have pos := hs.pos
  have g1 : 1 * R ≤ v1 * R := Nat.mul_le_mul_right _ pos
  have g2 : 1 * S ≤ v0 * S := Nat.mul_le_mul_right _ hv0
  refine ⟨R, S, ?_, ?_, hlt, by omega, hg, ?_, ?_, ?_, ?_⟩
  all_goals cases e
  · simp at hr ⊢
    have := congrArg (Nat.cast (R := Int)) hr.1
    rw [Int.natCast_add, Int.natCast_mul, Int.natCast_mul] at this
    rw [Int.neg_mul]
    omega
  · simp at hr ⊢
    have := congrArg (Nat.cast (R := Int)) hr.1
    rw [Int.natCast_add, Int.natCast_mul, Int.natCast_mul] at this
    rw [Int.neg_mul]
    omega
  · simp at hr ⊢
    have := congrArg (Nat.cast (R := Int)) hr.2
    rw [Int.natCast_add, Int.natCast_mul, Int.natCast_mul] at this
    rw [Int.neg_mul]
    omega
  · simp at hr ⊢
    have := congrArg (Nat.cast (R := Int)) hr.2
    rw [Int.natCast_add, Int.natCast_mul, Int.natCast_mul] at this
    rw [Int.neg_mul]
    omega
  all_goals simp
  all_goals omega
end Go.Proofs.YtiioodgpkdbndaaGreatDoor
namespace Go.Proofs.YtiioodgpkdbndaaGreatDoor
open Go.RowKit
section
variable {w w' : World} {g : Nat} {ns ms : List Nat}
theorem set_mid (ns : List Nat) (o x : Nat) (ms : List Nat) (h : o + (ms.length + 1) ≤ ns.length) : (ns.set o x).take (o + 1) ++ ms ++ (ns.set o x).drop (o + 1 + ms.length) = ns.take o ++ x :: ms ++ ns.drop (o + (ms.length + 1)) := by
  have h1 : (ns.set o x).take (o + 1) = ns.take o ++ [x] := by
    rw [List.take_succ_eq_append_getElem (by rw [List.length_set]; omega), List.getElem_set_self, List.take_set, List.set_eq_of_length_le (by rw [List.length_take]; omega)]
  have h2 : (ns.set o x).drop (o + 1 + ms.length) = ns.drop (o + (ms.length + 1)) := by
    rw [List.drop_set_of_lt (by omega), show o + 1 + ms.length = o + (ms.length + 1) by omega]
  rw [h1, h2]
  simp
theorem BlkN.setCells : ∀ (ms : List Nat) (o : Nat) (w : World) (ns : List Nat), BlkN w g ns → o + ms.length ≤ ns.length → BlkN (w.setCells g o (ms.map Wd)) g (ns.take o ++ ms ++ ns.drop (o + ms.length))
  | [], o, w, ns, h, hl => by simpa [World.setCells] using h
  | x :: ms, o, w, ns, h, hl => by
    have h1 := h.set o (v := (x : Int)) (n := x) rfl
    have h2 := BlkN.setCells ms (o + 1) _ _ h1 (by rw [List.length_set]; simp at hl; omega)
    rw [set_mid ns o x ms (by simpa using hl)] at h2
    exact h2
theorem Mod.setCells {a : World} : ∀ (vs : List Value) (o : Nat) (w : World), Mod a w g → Mod a (w.setCells g o vs) g
  | [], _, _, h => h
  | v :: vs, o, _, h => Mod.setCells vs (o + 1) _ (h.setCell o v)
theorem BlkN.there (h : BlkN w g ns) {off n : Nat} (hl : off + n ≤ ns.length) : ∀ j, j < n → (w.cell? ⟨g, off + j, none⟩).isSome = true := fun j hj => by
  rw [h.cell (show off + j < ns.length by omega)]; rfl
end
/-- append of words to the head of a block with room. -/
theorem run_append_fill {w : World} (t ty : TypeId) (ht : Tryz.prog.underlying t = some (.slice 71))
    {g m c cz : Nat} {ns xs : List Nat} {A : Option Addr} (hb : BlkN w g ns) (hm : xs.length = m) (hr : Rd w A xs) (hl : m ≤ ns.length) (hcz : m ≤ cz) :
    ∃ w', (Builtin.append_ #[t, t] ty #[.slice (some ⟨g, 0, none⟩) 0 cz, .slice A m c]).run Tryz.prog w = .ok (.slice (some ⟨g, 0, none⟩) m cz) w' ∧ BlkN w' g (xs ++ ns.drop m) ∧ Mod w w' g := by
  subst hm
  obtain ⟨i0, hi, hz0, hz1, hz2⟩ := info_parts Tryz.infoW
  refine ⟨w.setCells g 0 (xs.map Wd), ?_, ?_, Mod.setCells _ _ _ (Mod.refl w g)⟩
  · by_cases h0 : xs = []
    · subst h0
      cases A with
      | none => simp [Builtin.append_, run_underlying ht, sizeOf, typeInfo, hi, Builtin.lenOf, Builtin.firstCells, storeCells, World.setCells]
      | some ad => simp [Builtin.append_, run_underlying ht, sizeOf, typeInfo, hi, Builtin.lenOf, Builtin.firstCells, loadCells, loadCellsFrom, storeCells, World.setCells]
    · obtain ⟨b, off, rfl, _, _⟩ := hr.2 h0
      have := run_append_room_cells (P := Tryz.prog) w t ty 71 i0 ht hi g 0 0 cz ⟨b, off, none⟩ xs.length c (xs.map Wd) (by rw [hz1]; simp) (cells_of_rd hr) (oneCell_words xs) (by omega)
        (by simpa using hb.there (off := 0) (n := xs.length) (by omega)) (fun j _ => hb.frozen _)
      simpa using this
  · have := BlkN.setCells xs 0 w ns hb (by omega)
    simpa using this
/-- the same, as a step of a walk. -/
theorem wpList_append_fill {w : World} {ops : Array Oper} {rest : List Oper} {o : Oper} {a : Act} {Q : Exit → Act → World → Prop} (hgd : o.guard = none) (s x : Operand) (t : TypeId)
    (ho : o.op = .call { callee := .builtin .append, args := #[s, x], argTypes := #[t, t] }) (ht : Tryz.prog.underlying t = some (.slice 71))
    {g m c cz : Nat} {ns xs : List Nat} {A : Option Addr} (hs : a.eval s = .slice (some ⟨g, 0, none⟩) 0 cz) (hb : BlkN w g ns) (hx : a.eval x = .slice A m c) (hm : xs.length = m) (hr : Rd w A xs) (hl : m ≤ ns.length) (hcz : m ≤ cz)
    (h : ∀ w', BlkN w' g (xs ++ ns.drop m) → Mod w w' g → wpList Tryz.prog ops Q rest (a.put o.dst (.slice (some ⟨g, 0, none⟩) m cz)) w') : wpList Tryz.prog ops Q (o :: rest) a w := by
  refine wpList_plain hgd fun K hK => ?_
  obtain ⟨w', hrun, h1, h2⟩ := run_append_fill (c := c) (cz := cz) t o.type ht hb hm hr hl hcz
  unfold Oper.wp execOp
  simp only [ho, resolve, invoke, builtin, Sem.run_bind, Sem.run_pure, Result.andThen_ok, List.map_toArray, List.map_cons, List.map_nil, hs, hx, hrun]
  exact hK _ _ (h w' h1 h2)
theorem step_append_fill {w : World} {ops : Array Oper} {o : Oper} {a : Act} {K : Act → World → Prop} {Q : Exit → Act → World → Prop} {E : Prop} (hgd : o.guard = none) (s x : Operand) (t : TypeId)
    (ho : o.op = .call { callee := .builtin .append, args := #[s, x], argTypes := #[t, t] }) (ht : Tryz.prog.underlying t = some (.slice 71))
    {g m c cz : Nat} {ns xs : List Nat} {A : Option Addr} (hs : a.eval s = .slice (some ⟨g, 0, none⟩) 0 cz) (hb : BlkN w g ns) (hx : a.eval x = .slice A m c) (hm : xs.length = m) (hr : Rd w A xs) (hl : m ≤ ns.length) (hcz : m ≤ cz)
    (h : ∀ w', BlkN w' g (xs ++ ns.drop m) → Mod w w' g → K (a.put o.dst (.slice (some ⟨g, 0, none⟩) m cz)) w') : if Region.wanted o (yielded ops a.tmps) = true then Oper.wp Tryz.prog o a w K Q else E := by
  have hw : Region.wanted o (yielded ops a.tmps) = true := by simp [Region.wanted, hgd]
  rw [if_pos hw]
  obtain ⟨w', hrun, h1, h2⟩ := run_append_fill (c := c) (cz := cz) t o.type ht hb hm hr hl hcz
  unfold Oper.wp execOp
  simp only [ho, resolve, invoke, builtin, Sem.run_bind, Sem.run_pure, Result.andThen_ok, List.map_toArray, List.map_cons, List.map_nil, hs, hx, hrun]
  exact h w' h1 h2
/-- clear of the words of a block from word q on. -/
theorem run_clear_words {w : World} (t ty : TypeId) (ht : Tryz.prog.underlying t = some (.slice 71)) {g n q : Nat} {ns : List Nat} (hb : BlkN w g ns) (hq : q + n = ns.length) :
    ∃ w', BlkN w' g (ns.take q ++ List.replicate n 0) ∧ Mod w w' g ∧ ∀ off c, off = q ∨ n = 0 → (Builtin.clear_ #[t] ty #[.slice (some ⟨g, off, none⟩) n c]).run Tryz.prog w = .ok (.tuple #[]) w' := by
  obtain ⟨i0, hi, hz0, hz1, hz2⟩ := info_parts Tryz.infoW
  have hv : ∀ w, (zeroValue 71).run Tryz.prog w = .ok (.int .u32 0) w := fun w => by simp [zeroValue, typeInfo, hi, hz0]
  refine ⟨w.setCells g q ((List.replicate n 0).map Wd), ?_, Mod.setCells _ _ _ (Mod.refl w g), fun off c hoff => ?_⟩
  · have := BlkN.setCells (List.replicate n 0) q w ns hb (by simp; omega)
    simpa [hq] using this
  · by_cases h0 : n = 0
    · subst h0
      simp [Builtin.clear_, run_underlying ht, World.setCells]
    · have hoq : off = q := by omega
      subst hoq
      have := Lib.run_clear_slice (P := Tryz.prog) w t 71 ty (.int .u32 0) ht hv rfl rfl g off n c (by omega) (hb.there (by omega)) (fun j _ => hb.frozen _)
      rw [this, List.map_replicate]
      rfl
section
variable {w : World}
theorem int_none {x1 y1 x2 y2 : Int} : Calls Tryz.prog 147 #[.agg #[.int .i64 x1, .int .i64 y1, .int .i64 x2, .int .i64 y2]] w fun e w' => e = .returned (.bool (y1 == 0)) ∧ Ext w w' := by
  go_enter Tryz.func147, Tryz.ntmps147
  go_upto_region 1 with (fail)
  obtain ⟨W, hW, extW, bz, hz⟩ := box1 w 130 #[.int .i64 x1, .int .i64 y1, .int .i64 x2, .int .i64 y2]
  rw [← hW]
  clear hW
  have c1 := bz.cell 1
  simp at c1
  go_wp2
  exact bodyPost_ret (v := .bool (y1 == 0)) (by simp [results, Tryz.results147, go_sem]) rfl ⟨rfl, extW⟩
end
end Go.Proofs.YtiioodgpkdbndaaGreatDoor
namespace Go.Proofs.YtiioodgpkdbndaaGreatDoor
theorem pow32 (b : Nat) (h : b ≤ 32) : 2 ^ b * 2 ^ (32 - b) = 4294967296 := by
  rw [← Nat.pow_add, show b + (32 - b) = 32 by omega]
/-- an or of disjoint parts is a sum. -/
theorem or_parts {x y j : Nat} (h : x < 2 ^ j) : x ||| (2 ^ j * y) = x + 2 ^ j * y := by
  rw [Nat.or_comm, ← Nat.two_pow_add_eq_or_of_lt h, Nat.add_comm]
def shrL (b : Nat) : List Nat → List Nat
  | [] => []
  | x :: xs => ((x + 4294967296 * xs.headD 0) / 2 ^ b % 4294967296) :: shrL b xs
theorem shrL_len (b : Nat) (xs : List Nat) : (shrL b xs).length = xs.length := by
  induction xs with
  | nil => rfl
  | cons x xs ih => simp [shrL, ih]
theorem shrL_at (b : Nat) (xs : List Nat) (i : Nat) (h : i < xs.length) : (shrL b xs)[i]'(by rw [shrL_len]; exact h) = (xs[i] + 4294967296 * xs.getD (i + 1) 0) / 2 ^ b % 4294967296 := by
  induction xs generalizing i with
  | nil => simp at h
  | cons x xs ih =>
    cases i with
    | zero => cases xs <;> simp [shrL]
    | succ i =>
      simp only [shrL, List.getElem_cons_succ]
      rw [ih i (by simpa using h)]
      simp
theorem head_mod {xs : List Nat} (h : W32 xs) : xs.headD 0 = val xs % 4294967296 := by
  cases xs with
  | nil => rfl
  | cons x xs =>
    have := h x (by simp)
    simp only [List.headD_cons, val]
    omega
theorem div_words (x V b : Nat) (hb : b ≤ 32) : (x + 4294967296 * (V % 4294967296)) / 2 ^ b % 4294967296 = (x + 4294967296 * V) / 2 ^ b % 4294967296 := by
  have e : x + 4294967296 * V = x + 4294967296 * (V % 4294967296) + 2 ^ b * (2 ^ (32 - b) * (V / 4294967296) * 4294967296) := by
    have h1 : 2 ^ b * (2 ^ (32 - b) * (V / 4294967296) * 4294967296) = 2 ^ b * 2 ^ (32 - b) * (V / 4294967296) * 4294967296 := by simp only [Nat.mul_assoc]
    rw [h1, pow32 b hb]
    have := Nat.div_add_mod V 4294967296
    omega
  rw [e, Nat.add_mul_div_left _ _ (Nat.two_pow_pos b), Nat.add_mul_mod_self_right]
theorem val_shrL {b : Nat} (hb : b ≤ 32) {xs : List Nat} (h : W32 xs) : val (shrL b xs) = val xs / 2 ^ b := by
  induction xs with
  | nil => simp [shrL, val]
  | cons x xs ih =>
    have hx := h x (by simp)
    have ht : W32 xs := fun z hz => h z (by simp [hz])
    simp only [shrL, val]
    rw [ih ht, head_mod ht, div_words x (val xs) b hb]
    have e2 : (x + 4294967296 * val xs) / 2 ^ b / 4294967296 = val xs / 2 ^ b := by
      rw [Nat.div_div_eq_div_mul, Nat.mul_comm (2 ^ b) 4294967296, ← Nat.div_div_eq_div_mul, show (x + 4294967296 * val xs) / 4294967296 = val xs by omega]
    rw [← e2]
    generalize (x + 4294967296 * val xs) / 2 ^ b = T
    omega
theorem val_drop {xs : List Nat} (h : W32 xs) (q : Nat) : val (xs.drop q) = val xs / 4294967296 ^ q := by
  by_cases hq : q ≤ xs.length
  · have e := val_split xs q hq
    have hl := val_lt (h.take q)
    rw [List.length_take, Nat.min_eq_left hq] at hl
    rw [e, Nat.add_mul_div_left _ _ (Nat.pow_pos (by omega)), Nat.div_eq_of_lt hl, Nat.zero_add]
  · rw [List.drop_eq_nil_of_le (by omega), Nat.div_eq_of_lt]
    · rfl
    · exact Nat.lt_of_lt_of_le (val_lt h) (Nat.pow_le_pow_right (by omega) (by omega))
theorem pow_split (k : Nat) : 2 ^ k = 4294967296 ^ (k / 32) * 2 ^ (k % 32) := by
  have : (4294967296 : Nat) = 2 ^ 32 := by decide
  rw [this, ← Nat.pow_mul, ← Nat.pow_add]
  congr 1
  omega
theorem shr_spec {xs : List Nat} (h : W32 xs) (k : Nat) : val (shrL (k % 32) (xs.drop (k / 32))) = val xs / 2 ^ k := by
  rw [val_shrL (by omega) (h.drop _), val_drop h, Nat.div_div_eq_div_mul, ← pow_split]
theorem shr_word {x y b : Nat} (hx : x < 4294967296) (hb : b ≤ 32) : x / 2 ^ b ||| (y * 2 ^ (32 - b) % 4294967296) = (x + 4294967296 * y) / 2 ^ b % 4294967296 := by
  have hp := pow32 b hb
  have h1 : x / 2 ^ b < 2 ^ (32 - b) := by
    rw [Nat.div_lt_iff_lt_mul (Nat.two_pow_pos b), Nat.mul_comm, hp]
    exact hx
  have e1 : y * 2 ^ (32 - b) % 4294967296 = 2 ^ (32 - b) * (y % 2 ^ b) := by
    rw [← hp, Nat.mul_comm y, Nat.mul_comm (2 ^ b), Nat.mul_mod_mul_left]
  have e2 : (x + 4294967296 * y) / 2 ^ b = x / 2 ^ b + 2 ^ (32 - b) * y := by
    rw [← hp, Nat.mul_assoc, Nat.add_mul_div_left _ _ (Nat.two_pow_pos b)]
  rw [e1, or_parts h1, e2]
  have e3 : 2 ^ (32 - b) * y = 2 ^ (32 - b) * (y % 2 ^ b) + 4294967296 * (y / 2 ^ b) := by
    rw [← hp, Nat.mul_comm (2 ^ b), Nat.mul_assoc, ← Nat.mul_add, Nat.add_comm, Nat.div_add_mod]
  have h2 : y % 2 ^ b < 2 ^ b := Nat.mod_lt _ (Nat.two_pow_pos b)
  have h3 : 2 ^ (32 - b) * (y % 2 ^ b + 1) ≤ 2 ^ (32 - b) * 2 ^ b := Nat.mul_le_mul_left _ h2
  rw [Nat.mul_comm (2 ^ (32 - b)) (2 ^ b), hp, Nat.mul_add, Nat.mul_one] at h3
  rw [e3]
  generalize 2 ^ (32 - b) * (y % 2 ^ b) = P at h3 ⊢
  generalize y / 2 ^ b = R
  generalize 2 ^ (32 - b) = Q at h1 h3
  generalize x / 2 ^ b = X at h1 ⊢
  omega
theorem shr_word0 {x b : Nat} (hx : x < 4294967296) : x / 2 ^ b = (x + 4294967296 * 0) / 2 ^ b % 4294967296 := by
  rw [Nat.mul_zero, Nat.add_zero, Nat.mod_eq_of_lt (Nat.lt_of_le_of_lt (Nat.div_le_self _ _) hx)]
theorem take_shr {b : Nat} {xs zs : List Nat} {i v : Nat} (hi : i < xs.length) (hz : i < zs.length) (h : zs.take i = (shrL b xs).take i) (hv : v = (xs[i] + 4294967296 * xs.getD (i + 1) 0) / 2 ^ b % 4294967296) : (zs.set i v).take (i + 1) = (shrL b xs).take (i + 1) := by
  have hl : i < (shrL b xs).length := by rw [shrL_len]; exact hi
  rw [take_succ' (xs := zs.set i v) (k := i) (by simpa using hz), take_succ' (xs := shrL b xs) (k := i) hl, take_set_self, h, shrL_at b xs i hi]
  simp [hv]
/-! to the left -/
structure ShlInv (xs : List Nat) (b i : Nat) (zs : List Nat) : Prop where
  w32 : W32 zs
  len : zs.length = xs.length + 1
  low : zs.getD i 0 < 2 ^ b
  eq : val (zs.take (i + 1)) = val (xs.take i) * 2 ^ b
theorem ShlInv.start (xs : List Nat) (b : Nat) : ShlInv xs b 0 (List.replicate (xs.length + 1) 0) :=
  ⟨W32.replicate _, by simp, by simp [List.getD]; exact Nat.two_pow_pos b, by simp [List.take_replicate, val]⟩
theorem shl_low {x z b : Nat} (hb : b ≤ 32) (hz : z < 2 ^ b) : z ||| (x * 2 ^ b % 4294967296) = z + x * 2 ^ b % 4294967296 := by
  have hp := pow32 b hb
  have e1 : x * 2 ^ b % 4294967296 = 2 ^ b * (x % 2 ^ (32 - b)) := by rw [← hp, Nat.mul_comm x, Nat.mul_mod_mul_left]
  rw [e1, or_parts hz]
theorem shl_sum {x z b : Nat} (hb : b ≤ 32) (hz : z < 2 ^ b) : z + x * 2 ^ b % 4294967296 < 4294967296 := by
  have hp := pow32 b hb
  have e1 : x * 2 ^ b % 4294967296 = 2 ^ b * (x % 2 ^ (32 - b)) := by rw [← hp, Nat.mul_comm x, Nat.mul_mod_mul_left]
  have h2 : x % 2 ^ (32 - b) < 2 ^ (32 - b) := Nat.mod_lt _ (Nat.two_pow_pos _)
  have h3 : 2 ^ b * (x % 2 ^ (32 - b) + 1) ≤ 2 ^ b * 2 ^ (32 - b) := Nat.mul_le_mul_left _ h2
  rw [hp, Nat.mul_add] at h3
  omega
theorem shl_high {x b : Nat} (hx : x < 4294967296) : x * 2 ^ b / 4294967296 < 2 ^ b := by
  rw [Nat.div_lt_iff_lt_mul (by omega), Nat.mul_comm (2 ^ b)]
  exact Nat.mul_lt_mul_of_pos_right hx (Nat.two_pow_pos b)
theorem ShlInv.step {xs zs : List Nat} {b i : Nat} (h : ShlInv xs b i zs) (hb : b < 32) (hx : W32 xs) (hi : i < xs.length) :
    ShlInv xs b (i + 1) ((zs.set i (zs.getD i 0 + xs[i] * 2 ^ b % 4294967296)).set (i + 1) (xs[i] * 2 ^ b / 4294967296)) := by
  have hl := h.len
  have h1 := shl_sum (x := xs[i]) (by omega : b ≤ 32) h.low
  have h2 := shl_high (b := b) (hx.get hi)
  have hpb : 2 ^ b ≤ 4294967296 := by
    have : 2 ^ b ≤ 2 ^ 32 := Nat.pow_le_pow_right (by omega) (by omega)
    omega
  have hiz : i < zs.length := by omega
  refine ⟨(h.w32.set _ h1).set _ (by omega), by simp [hl], ?_, ?_⟩
  · rw [List.getD_eq_getElem?_getD, List.getElem?_set_self (by simp; omega)]
    exact h2
  · rw [val_take_set _ (by simp; omega), val_take_set _ hiz]
    have e := h.eq
    rw [val_take_succ zs i hiz] at e
    rw [val_take_succ xs i hi, Nat.add_mul, ← e, getD_at hiz, Nat.mul_add]
    have := pow_carry i (xs[i] * 2 ^ b)
    rw [Nat.mul_assoc (4294967296 ^ i) xs[i]]
    omega
theorem shl_val {xs zs : List Nat} {k : Nat} (h : val zs = val xs * 2 ^ (k % 32)) : val (List.replicate (k / 32) 0 ++ zs) = val xs * 2 ^ k := by
  rw [val_append, val_replicate, Nat.zero_add, List.length_replicate, h, pow_split k, Nat.mul_comm, Nat.mul_assoc, Nat.mul_comm (2 ^ (k % 32))]
end Go.Proofs.YtiioodgpkdbndaaGreatDoor
namespace Go.Proofs.YtiioodgpkdbndaaGreatDoor
open Go.RowKit
theorem shl_cast {x b : Nat} (hx : x < 4294967296) (hb : b < 32) : IntKind.u64.wrap ((x : Int) * 2 ^ b) = ((x * 2 ^ b : Nat) : Int) := by
  have h2 : x * 2 ^ b < 4294967296 * 4294967296 := by
    have hpb : 2 ^ b ≤ 4294967296 := by
      have : 2 ^ b ≤ 2 ^ 32 := Nat.pow_le_pow_right (by omega) (by omega)
      omega
    exact Nat.mul_lt_mul_of_lt_of_le hx hpb (by omega)
  rw [IntKind.wrap_u64, show (x : Int) * 2 ^ b = ((x * 2 ^ b : Nat) : Int) by simp]
  omega
theorem shl_lo {x z b : Nat} (hx : x < 4294967296) (hb : b < 32) (hz : z < 2 ^ b) (hz2 : z < 4294967296) : bits .or .u32 (z : Int) (IntKind.u64.wrap ((x : Int) * 2 ^ b) % 4294967296) = ((z + x * 2 ^ b % 4294967296 : Nat) : Int) := by
  rw [shl_cast hx hb, show ((x * 2 ^ b : Nat) : Int) % 4294967296 = ((x * 2 ^ b % 4294967296 : Nat) : Int) by omega, u32_or_nat _ _ hz2 (Nat.mod_lt _ (by omega)), shl_low (by omega) hz]
theorem shl_hi {x b : Nat} (hx : x < 4294967296) (hb : b < 32) : IntKind.u64.wrap ((x : Int) * 2 ^ b) / 4294967296 % 4294967296 = ((x * 2 ^ b / 4294967296 : Nat) : Int) := by
  have h := shl_high (b := b) hx
  have hpb : 2 ^ b ≤ 4294967296 := by
    have : 2 ^ b ≤ 2 ^ 32 := Nat.pow_le_pow_right (by omega) (by omega)
    omega
  rw [shl_cast hx hb]
  generalize x * 2 ^ b = T at *
  omega
section
variable {A B : Option Addr} {c d n m : Nat} {xs ys : List Nat} {w : World} {s t : Bool}
set_option maxHeartbeats 1000000 in
theorem int_shiftInto {g off n cz b : Nat} {pre zs0 post : List Nat} (hblk0 : BlkN w g (pre ++ zs0 ++ post)) (hoff : pre.length = off) (hz : zs0 = List.replicate (xs.length + 1) 0) (hx : Rd w A xs) (hm : xs.length = m) (hap : Apart A xs g)
    (hn : m + 1 = n) (hb : b < 32) (h1 : n ≤ 100000) (_hcz : n ≤ cz) (_hczm : cz ≤ maxLen) :
    Calls Tryz.prog 156 #[.slice (some ⟨g, off, none⟩) n cz, .slice A m c, .int .i64 (b : Int)] w (Turned w g pre n post fun zs => val zs = val xs * 2 ^ b) := by
  have Hoff := Lib.hid hoff
  have Hm := Lib.hid hm
  clear hoff hm
  have hi := ShlInv.start xs b
  rw [← hz] at hi
  clear hz
  go_enter Tryz.func156, Tryz.ntmps156
  go_wp2
  go_loopw [11] (fun i wr => ∃ (k : Nat) (zs : List Nat), k ≤ m ∧ i = .int .i64 (k : Int) ∧ ShlInv xs b k zs ∧ BlkN wr g (pre ++ zs ++ post) ∧ Mod w wr g) (fun i _ => m - (intOf i).toNat)
  case atStart => exact ⟨0, zs0, by omega, rfl, hi, hblk0, Mod.refl _ _⟩
  case round =>
    obtain ⟨k, zs, hk, rfl, hinv, hblk, hmod⟩ := hrel
    have hzl : zs.length = n := by rw [hinv.len, Hm.out]; exact hn
    have hxl : xs.length = m := Hm.out
    by_cases hlt : k < m
    · obtain ⟨b1, off', rfl, hb1, hc1⟩ := (hx.mod hmod hap).at_ (i := k) (by omega)
      have hxk := hx.1.get (k := k) (by omega)
      obtain ⟨b2, off2, he, hb2, hc2⟩ := (hblk.mid hinv.w32 Hoff.out).at_ (i := k) (by omega)
      injection he with he
      injection he with he1 he2
      subst he1; subst he2
      have hzk := hinv.w32.get (k := k) (by omega)
      have hlow : zs[k] < 2 ^ b := by have := hinv.low; rwa [getD_at (by omega)] at this
      obtain ⟨b3, off3, he, hb3, hc3⟩ := (hblk.mid hinv.w32 Hoff.out).at_ (i := k + 1) (by omega)
      injection he with he
      injection he with he1 he2
      subst he1; subst he2
      have hfz := hblk.frozen (off + k)
      have hfz2 := hblk.frozen (off + (k + 1))
      go_wp2
      go_roundw
      case rel =>
        have hst := hinv.step hb hx.1 (by omega)
        rw [getD_at (by omega)] at hst
        exact ⟨k + 1, _, by omega, by go_num, hst, (hblk.setMid Hoff.out (by omega) (shl_lo hxk hb hlow hzk)).setMid Hoff.out (by simp; omega) (shl_hi hxk hb), (hmod.setCell _ _).setCell _ _⟩
      case measure => simp [intOf]; omega
    · have hk' : k = m := by omega
      subst hk'
      go_wp2
      go_end0
      refine ⟨zs, rfl, hzl, hinv.w32, hblk, ?_, hmod⟩
      have := hinv.eq
      rwa [List.take_of_length_le (by omega), List.take_of_length_le (by omega)] at this
end
end Go.Proofs.YtiioodgpkdbndaaGreatDoor
namespace Go.Proofs.YtiioodgpkdbndaaGreatDoor
open Go.RowKit
section
variable {A B : Option Addr} {c d n m : Nat} {xs ys : List Nat} {w : World} {s t : Bool}
set_option maxHeartbeats 1000000 in
theorem int_shiftLeft {k : Nat} (hn : xs.length = n) (hx : Rd w A xs) (hk : k ≤ 100000) (h1 : n ≤ 10000) :
    Calls Tryz.prog 155 #[.slice A n c, .int .i64 (k : Int)] w (RetN (fun zs => val zs = val xs * 2 ^ k ∧ Nrm zs ∧ zs.length ≤ k / 32 + n + 1) w) := by
  have hmk : ∀ W : World, (Instr.makeSlice 84 (.int .i64 ((k : Int) / 32 + (n : Int) + 1)) (.int .i64 ((k : Int) / 32 + (n : Int) + 1))).run Tryz.prog W = .ok (.slice (some ⟨W.heap.size, 0, none⟩) (k / 32 + n + 1) (k / 32 + n + 1)) (W.alloc (.cells (madeCells #[.int .u32 0] (k / 32 + n + 1)) 71)) := fun W => by
    have h := mk_words 84 Tryz.underlying84 (k / 32 + n + 1) (by omega) W
    rwa [show ((k / 32 + n + 1 : Nat) : Int) = (k : Int) / 32 + (n : Int) + 1 by omega] at h
  have Hn := Lib.hid hn
  clear hn
  go_enter Tryz.func155, Tryz.ntmps155
  go_wp2_with fail
  rw [show ((k : Int) % 32) = ((k % 32 : Nat) : Int) by omega]
  have hb0 := BlkN.new w (k / 32 + n + 1)
  have hsp : List.replicate (k / 32 + n + 1) 0 = List.replicate (k / 32) 0 ++ List.replicate (xs.length + 1) 0 ++ ([] : List Nat) := by
    rw [List.append_nil, List.replicate_append_replicate, Hn.out, Nat.add_assoc]
  rw [hsp] at hb0
  refine (int_shiftInto (pre := List.replicate (k / 32) 0) (zs0 := List.replicate (xs.length + 1) 0) (post := []) hb0 (by simp) rfl (hx.ext ((Ext.refl w).alloc _)) Hn.out (hx.apart (Nat.le_refl _)) (by omega) (by omega) (by omega) (Nat.le_refl _) (by unfold maxLen; omega)).mono ?_
  rintro e w2 ⟨zs, rfl, hzl, hzw, hzb, hzv, hmod⟩
  have hext := hmod.ext ((Ext.refl w).alloc _) (Nat.le_refl _)
  rw [List.append_nil] at hzb
  have hfull : W32 (List.replicate (k / 32) 0 ++ zs) := (W32.replicate _).append hzw
  have hlen : (List.replicate (k / 32) 0 ++ zs).length = k / 32 + n + 1 := by rw [List.length_append, List.length_replicate, hzl]; omega
  have hval := shl_val (k := k) hzv
  generalize List.replicate (k / 32) 0 ++ zs = Z at hzb hfull hlen hval
  have Hlen := Lib.hid hlen
  have Hval := Lib.hid hval
  clear hlen hval hzl hzv hmod hsp hb0
  go_wp2_with fail
  refine (int_trimN (xs := Z) Hlen.out (hzb.rd0 hfull) (Nat.le_refl _) (by unfold maxLen; omega)).mono ?_
  rintro e w3 ⟨rfl, rfl⟩
  go_wp2_with fail
  go_ret
  have hl := trimL_len Z
  rw [Hlen.out] at hl
  refine ⟨_, _, trimL Z, rfl, ?_, by omega, by unfold maxLen; omega, ⟨by rw [val_trimL]; exact Hval.out, Nrm.trimL _, hl⟩, hext⟩
  rw [trimL_take]
  exact (Own.of_blk hzb hfull (Nat.le_refl _)).take _
set_option maxHeartbeats 1000000 in
theorem int_binaryDigits (hn : xs.length = n) (hx : Rd w A xs) (h1 : n ≤ 100000) :
    Calls Tryz.prog 144 #[.slice A n c] w fun e w' => e = .returned (.int .i64 ((if h : 0 < xs.length then 32 * (xs.length - 1) + Lib.bitLen (xs[xs.length - 1]'(by omega)) else 0 : Nat) : Int)) ∧ w = w' := by
  subst hn
  by_cases h : 0 < xs.length
  · obtain ⟨b1, off', rfl, hb1, hc1⟩ := hx.at_ (i := xs.length - 1) (by omega)
    have hxk := hx.1.get (k := xs.length - 1) (by omega)
    have hpos : ¬ xs.length = 0 := by omega
    have hle : Lib.bitLen xs[xs.length - 1] ≤ 32 := Lib.bitLen_le _ 32 (by omega) (by omega)
    go_enter Tryz.func144, Tryz.ntmps144
    go_wp2_with (go_at_call 176; refine (len32 _ _ (by omega) (by omega)).mono ?_; rintro e w2 ⟨rfl, rfl⟩)
    go_ret
    refine ⟨ret_int ?_, rfl⟩
    omega
  · have h0 : xs.length = 0 := by omega
    go_enter Tryz.func144, Tryz.ntmps144
    go_wp2_with fail
    go_ret
    refine ⟨ret_int ?_, rfl⟩
    rfl
end
end Go.Proofs.YtiioodgpkdbndaaGreatDoor
namespace Go.Proofs.YtiioodgpkdbndaaGreatDoor
open Go.RowKit
theorem or_cast {x y b c : Nat} (hx : x < 4294967296) : bits .or .u32 ((x : Int) / 2 ^ b) ((y : Int) * 2 ^ c % 4294967296) = ((x / 2 ^ b ||| (y * 2 ^ c % 4294967296) : Nat) : Int) := by
  rw [show (x : Int) / 2 ^ b = ((x / 2 ^ b : Nat) : Int) by simp, show (y : Int) * 2 ^ c % 4294967296 = ((y * 2 ^ c % 4294967296 : Nat) : Int) by simp]
  exact u32_or_nat _ _ (Nat.lt_of_le_of_lt (Nat.div_le_self _ _) hx) (Nat.mod_lt _ (by omega))
section
variable {A B : Option Addr} {c d n m : Nat} {xs ys : List Nat} {w : World} {s t : Bool}
set_option maxHeartbeats 2000000 in
theorem int_shiftRight {k : Nat} (hn : xs.length = n) (hx : Rd w A xs) (hc : n ≤ c) (hcm : c ≤ maxLen) (hk : k ≤ 100000) (h1 : n ≤ 10000) :
    Calls Tryz.prog 159 #[.slice A n c, .int .i64 (k : Int)] w (RetN (fun zs => val zs = val xs / 2 ^ k ∧ Nrm zs ∧ zs.length ≤ n) w) := by
  by_cases hlt : n ≤ k / 32
  · have Hn := Lib.hid hn
    clear hn
    have hge : ((n : Int)) ≤ (k : Int) / 32 := by omega
    go_enter Tryz.func159, Tryz.ntmps159
    go_wp2_with fail
    go_ret
    refine ⟨none, 0, [], rfl, ⟨W32.nil, .inl rfl⟩, by simp, by unfold maxLen; omega, ⟨?_, rfl, by simp⟩, Ext.refl _⟩
    have := shr_spec hx.1 k
    rw [List.drop_eq_nil_of_le (by have := Hn.out; omega)] at this
    exact this
  · have hnl := hn
    obtain ⟨b1, off1, rfl, hb1, hc1⟩ := hx.at_ (i := 0) (by omega)
    have hd := hx.drop (k / 32)
    have hlen : (xs.drop (k / 32)).length = n - k / 32 := by rw [List.length_drop, hn]
    have hspec := shr_spec hx.1 k
    generalize hys : xs.drop (k / 32) = ys at hd hlen hspec
    have Hn := Lib.hid hn
    have Hys := Lib.hid hys
    have Hspec := Lib.hid hspec
    have Hlen := Lib.hid hlen
    clear hn hys hspec hc1 hnl hlen
    unfold maxLen at hcm
    generalize hL : n - k / 32 = L at *
    have hL0 : 0 < L := by omega
    have hmk : ∀ W : World, (Instr.makeSlice 84 (.int .i64 (L : Int)) (.int .i64 (L : Int))).run Tryz.prog W = .ok (.slice (some ⟨W.heap.size, 0, none⟩) L L) (W.alloc (.cells (madeCells #[.int .u32 0] L) 71)) := fun W => mk_words 84 Tryz.underlying84 L (by omega) W
    have hge : ¬ ((n : Int)) ≤ (k : Int) / 32 := by omega
    have hkc : k / 32 ≤ c := by omega
    have hkn : k / 32 ≤ n := by omega
    go_enter Tryz.func159, Tryz.ntmps159
    go_wp2_with fail
    have hb0 := BlkN.new w L
    go_loopw [21] (fun i wr => ∃ (j : Nat) (zs : List Nat), j ≤ L ∧ i = .int .i64 (j : Int) ∧ zs.length = L ∧ W32 zs ∧ zs.take j = (shrL (k % 32) ys).take j ∧ BlkN wr w.heap.size zs ∧ Ext w wr) (fun i _ => L - (intOf i).toNat)
    case atStart => exact ⟨0, List.replicate L 0, by omega, rfl, by simp, W32.replicate _, rfl, hb0, (Ext.refl w).alloc _⟩
    case round =>
      obtain ⟨j, zs, hj, rfl, hzl, hzw, htk, hblk, hext⟩ := hrel
      have Htk := Lib.hid htk
      clear htk
      by_cases hjl : j < L
      · obtain ⟨b2, off2, he, hb2, hc2⟩ := (hd.ext hext).at_ (i := j) (by rw [Hlen.out]; exact hjl)
        injection he with he
        injection he with he1 he2
        subst he1; subst he2
        have hyl : j < ys.length := by rw [Hlen.out]; exact hjl
        have hyj := hd.1.get hyl
        have hcz := hblk.cell (i := j) (by omega)
        have hzj := hzw.get (k := j) (by omega)
        have hfz := hblk.frozen j
        by_cases hnx : j + 1 < L
        · have Hv1 := Lib.hid (show ((ys[j] : Nat) : Int) / 2 ^ (k % 32) = ((ys[j] / 2 ^ (k % 32) : Nat) : Int) by simp)
          have hyn := hd.1.get (k := j + 1) (by rw [Hlen.out]; exact hnx)
          have hlp : (j : Int) + 1 < (L : Int) := by omega
          go_upto_region 10 with (fail)
          refine at_world (fun W => BlkN W w.heap.size (zs.set j (ys[j] / 2 ^ (k % 32))) ∧ Ext w W) ⟨hblk.set j Hv1.out, hext.setCell (Nat.le_refl _) _⟩ ?_
          rintro W ⟨hblkW, hextW⟩
          obtain ⟨b3, off3, he, hb3, hc3⟩ := (hd.ext hextW).at_ (i := j + 1) (by rw [Hlen.out]; exact hnx)
          injection he with he
          injection he with he1 he2
          subst he1; subst he2
          have hcW := hblkW.cell (i := j) (by simp; omega)
          rw [List.getElem_set_self] at hcW
          have hfW := hblkW.frozen j
          have hbW := hblkW.lt
          go_region
          go_wp2
          go_roundw
          case rel =>
            have hj1 : j + 1 < ys.length := by rw [Hlen.out]; exact hnx
            have hval := (or_cast (x := ys[j]) (y := ys[j + 1]) (b := k % 32) (c := 32 - k % 32) hyj).trans (congrArg Int.ofNat (shr_word (x := ys[j]) (y := ys[j + 1]) (b := k % 32) hyj (by omega)))
            have hlt2 : (ys[j] + 4294967296 * ys[j + 1]) / 2 ^ (k % 32) % 4294967296 < 4294967296 := Nat.mod_lt _ (by omega)
            have hset := hblkW.set j hval
            rw [List.set_set] at hset
            refine ⟨j + 1, _, by omega, by go_num, by simp [hzl], hzw.set _ hlt2, take_shr (b := k % 32) hyl (by omega) Htk.out ?_, hset.drewN 1, (hextW.setCell (Nat.le_refl _) _).drew⟩
            rw [getD_at (by rw [Hlen.out]; exact hnx)]
          case measure => simp [intOf]; omega
        · have hnx' : ¬ ((j : Int) + 1 < (L : Int)) := by omega
          have Hv1 := Lib.hid (show ((ys[j] : Nat) : Int) / 2 ^ (k % 32) = ((ys[j] / 2 ^ (k % 32) : Nat) : Int) by simp)
          have hlt2 : ys[j] / 2 ^ (k % 32) < 4294967296 := Nat.lt_of_le_of_lt (Nat.div_le_self _ _) hyj
          go_wp2
          go_roundw
          case rel =>
            refine ⟨j + 1, zs.set j (ys[j] / 2 ^ (k % 32)), by omega, by go_num, by simp [hzl], hzw.set _ hlt2, take_shr (b := k % 32) hyl (by omega) Htk.out ?_, hblk.set j Hv1.out, hext.setCell (Nat.le_refl _) _⟩
            rw [getD_out (by rw [Hlen.out]; omega)]
            exact shr_word0 hyj
          case measure => simp [intOf]; omega
      · have hjl' : j = L := by omega
        subst hjl'
        go_wp2_with (go_at_call 89; refine (int_trimN (xs := zs) hzl (hblk.rd0 hzw) (Nat.le_refl _) (by unfold maxLen; omega)).mono ?_; rintro e w3 ⟨rfl, rfl⟩)
        go_ret
        have hl := trimL_len zs
        have hfull : zs = shrL (k % 32) ys := by
          have := Htk.out
          rwa [List.take_of_length_le (by omega), List.take_of_length_le (by rw [shrL_len, Hlen.out]; omega)] at this
        refine ⟨_, _, trimL zs, rfl, ?_, by omega, by unfold maxLen; omega, ⟨by rw [val_trimL, hfull]; exact Hspec.out, Nrm.trimL _, by omega⟩, hext⟩
        rw [trimL_take]
        exact (Own.of_blk hblk hzw (Nat.le_refl _)).take _
end
end Go.Proofs.YtiioodgpkdbndaaGreatDoor
namespace Go.Proofs.YtiioodgpkdbndaaGreatDoor
open Go.RowKit
attribute [local go_sem ↓] Go.wp_at_zero Go.wp_at_succ
theorem kar_step {z zt : List Nat} {k n cy m : Nat} (hz : z.length = n) (hk : k ≤ n) (h : val zt + 4294967296 ^ (n - k) * cy = val (z.drop k) + m) (hf : val z + 4294967296 ^ k * m < 4294967296 ^ n) :
    val (z.take k ++ zt) = val z + 4294967296 ^ k * m := by
  have e1 := val_split z k (by omega)
  have e2 : val (z.take k ++ zt) = val (z.take k) + 4294967296 ^ k * val zt := by rw [val_append, List.length_take, Nat.min_eq_left (by omega)]
  have e3 : (4294967296 : Nat) ^ n = 4294967296 ^ k * 4294967296 ^ (n - k) := by rw [← Nat.pow_add]; congr 1; omega
  rw [e3] at hf
  rw [e2, e1]
  rw [e1] at hf
  generalize 4294967296 ^ k = p at *
  generalize 4294967296 ^ (n - k) = q at *
  have h4 : p * val zt + p * q * cy = p * val (z.drop k) + p * m := by rw [Nat.mul_assoc, ← Nat.mul_add, h, Nat.mul_add]
  cases cy with
  | zero => rw [Nat.mul_zero, Nat.add_zero] at h4; omega
  | succ cy =>
    rw [Nat.mul_add, Nat.mul_one] at h4
    omega
theorem kar_mid {a0 a1 b0 b1 m1 m : Nat} (h1 : m1 + a0 * b0 = (a0 + a1) * (b0 + b1)) (h2 : m + a1 * b1 = m1) : m = a0 * b1 + a1 * b0 := by
  have : (a0 + a1) * (b0 + b1) = a0 * b0 + a0 * b1 + (a1 * b0 + a1 * b1) := by rw [Nat.add_mul, Nat.mul_add, Nat.mul_add]
  omega
theorem kar_all {a0 a1 b0 b1 p : Nat} : (a0 + p * a1) * (b0 + p * b1) = a0 * b0 + p * (a0 * b1 + a1 * b0) + p * p * (a1 * b1) := by grind
theorem kar_low {a0 a1 b0 b1 : Nat} : a0 * b0 ≤ (a0 + a1) * (b0 + b1) := Nat.mul_le_mul (Nat.le_add_right _ _) (Nat.le_add_right _ _)
theorem kar_high {a0 a1 b0 b1 m1 : Nat} (h1 : m1 + a0 * b0 = (a0 + a1) * (b0 + b1)) : a1 * b1 ≤ m1 := by
  have : (a0 + a1) * (b0 + b1) = a0 * b0 + a0 * b1 + (a1 * b0 + a1 * b1) := by rw [Nat.add_mul, Nat.mul_add, Nat.mul_add]
  omega
theorem kar_lt1 {a b c m p q : Nat} (_hp : 0 < p) (h : a + (b + p * m + c) < p * q) : m < q := by
  refine Nat.lt_of_not_le fun hle => ?_
  have := Nat.mul_le_mul_left p hle
  omega
theorem kar_lt2 {a b m p q : Nat} (_hp : 0 < p) (h : a + (b + p * m) < p * q) : m < q := by
  refine Nat.lt_of_not_le fun hle => ?_
  have := Nat.mul_le_mul_left p hle
  omega
theorem Nrm.len_le {xs : List Nat} {k : Nat} (h : Nrm xs) (hv : val xs < 4294967296 ^ k) : xs.length ≤ k := by
  rcases Nat.lt_or_ge k xs.length with hlt | hge
  · have h1 := h.ge (by intro h0; rw [h0] at hlt; simp at hlt)
    have h2 : (4294967296 : Nat) ^ k ≤ 4294967296 ^ (xs.length - 1) := Nat.pow_le_pow_right (by omega) (by omega)
    omega
  · exact hge
theorem Rd.some {w : World} {A : Option Addr} {xs : List Nat} (h : Rd w A xs) (hn : 0 < xs.length) : ∃ b off, A = .some ⟨b, off, none⟩ := by
  obtain ⟨b, off, hA, _, _⟩ := h.2 (by intro h0; rw [h0] at hn; simp at hn)
  exact ⟨b, off, hA⟩
section
variable {A B : Option Addr} {c d n m : Nat} {xs ys : List Nat} {w : World}
set_option maxRecDepth 100000 in
set_option maxHeartbeats 4000000 in
theorem int_addHalves {g N cz : Nat} {zs0 : List Nat} (hblk0 : BlkN w g zs0) (hN : zs0.length = N) (hw : W32 zs0) (hx : Rd w A xs) (hm : xs.length = n) (hap : Apart A xs g) (hy : Rd w B ys) (hp : ys.length = n) (hbp : Apart B ys g)
    (h2 : 2 ≤ n) (h100 : n ≤ 110) (hl : n + n ≤ N) (hN2 : N ≤ 100000) (hpx : 0 < val xs) (hpy : 0 < val ys) (hf : val zs0 + val xs * val ys < 4294967296 ^ N) (hc : n ≤ c) (hcm : c ≤ maxLen) (hd : n ≤ d) (hdm : d ≤ maxLen) (hcz : N ≤ cz) (hczm : cz ≤ maxLen) :
    Calls Tryz.prog 153 #[.slice (some ⟨g, 0, none⟩) N cz, .slice A n c, .slice B n d] w (Turned w g [] N [] fun zs => val zs = val zs0 + val xs * val ys) := by
  obtain ⟨ba, oa, rfl⟩ := hx.some (by omega)
  obtain ⟨bb, ob, rfl⟩ := hy.some (by omega)
  obtain ⟨h, hh⟩ : ∃ h, h = (n + 1) / 2 := ⟨_, rfl⟩
  have Hh := Lib.hid (show ((n : Int) + 1) / 2 = (h : Int) by omega)
  have hh1 : h < n := by omega
  have hh2 : n ≤ 2 * h := by omega
  have hh3 : 2 * h ≤ n + 1 := by omega
  have Hm := Lib.hid hm
  have Hp := Lib.hid hp
  have HN := Lib.hid hN
  have Hf := Lib.hid hf
  clear hm hp hN hf hh
  unfold maxLen at hcm hdm hczm
  have ra0 := hx.take h
  have ra1 := hx.drop h
  have rb0 := hy.take h
  have rb1 := hy.drop h
  have k1 : (h : Int) ≤ (n : Int) := by omega
  have k2 : (h : Int) ≤ (c : Int) := by omega
  have k3 : (h : Int) ≤ (d : Int) := by omega
  have k4 : (n : Int) ≤ (c : Int) := by omega
  have k5 : (n : Int) ≤ (d : Int) := by omega
  have k6 : ¬ c = h := by omega
  have k7 : ¬ d = h := by omega
  go_enter Tryz.func153, Tryz.ntmps153
  go_upto_region 1 with (fail)
  rw [Hh.out]
  have ES0 := Ext.refl w
  refine wp_region_held_drew (S := Ext w) (by kernel_rfl) ES0.drew (fun ES => ?_)
  clear ES0
  refine Late.start0 (fun _ _ _ _ _ => ⟨fun h => h, fun h => h⟩) ES (fun hAl hQ => ?_)
  refine Late.take (i := 0) (d := some 18) (v := ?v0_1) rfl rfl (by kernel_rfl) (by kernel_rfl) (by kernel_rfl) (by kernel_rfl) hQ (Or.inl ⟨by rfl, ?y0_1⟩) ?r0_1
  case y0_1 =>
    intro w' hSw
    go_simp
    try with_reducible rfl
  try simp only [Act.put]
  try simp only [List.setIfInBounds_toArray]
  try simp only [List.set_cons_succ]
  try simp only [List.set_cons_zero]
  refine Late.take (i := 1) (d := some 19) (v := ?v1_2) rfl rfl (by kernel_rfl) (by kernel_rfl) (by kernel_rfl) (by kernel_rfl) hQ (Or.inl ⟨by rfl, ?y1_2⟩) ?r1_2
  case y1_2 =>
    intro w' hSw
    go_simp
    try with_reducible rfl
  try simp only [Act.put]
  try simp only [List.setIfInBounds_toArray]
  try simp only [List.set_cons_succ]
  try simp only [List.set_cons_zero]
  refine Late.take (i := 2) (d := some 20) (v := ?v2_3) rfl rfl (by kernel_rfl) (by kernel_rfl) (by kernel_rfl) (by kernel_rfl) hQ (Or.inl ⟨by rfl, ?y2_3⟩) ?r2_3
  case y2_3 =>
    intro w' hSw
    go_simp
    try with_reducible rfl
  try simp only [Act.put]
  try simp only [List.setIfInBounds_toArray]
  try simp only [List.set_cons_succ]
  try simp only [List.set_cons_zero]
  refine Late.take (i := 4) (d := some 22) (v := ?v4_4) rfl rfl (by kernel_rfl) (by kernel_rfl) (by kernel_rfl) (by kernel_rfl) hQ (Or.inl ⟨by rfl, ?y4_4⟩) ?r4_4
  case y4_4 =>
    intro w' hSw
    go_simp
    try with_reducible rfl
  try simp only [Act.put]
  try simp only [List.setIfInBounds_toArray]
  try simp only [List.set_cons_succ]
  try simp only [List.set_cons_zero]
  refine Late.take (i := 5) (d := some 23) (v := ?v5_5) rfl rfl (by kernel_rfl) (by kernel_rfl) (by kernel_rfl) (by kernel_rfl) hQ (Or.inl ⟨by rfl, ?y5_5⟩) ?r5_5
  case y5_5 =>
    intro w' hSw
    go_simp
    try with_reducible rfl
  try simp only [Act.put]
  try simp only [List.setIfInBounds_toArray]
  try simp only [List.set_cons_succ]
  try simp only [List.set_cons_zero]
  refine Late.take (i := 6) (d := some 24) (v := ?v6_6) rfl rfl (by kernel_rfl) (by kernel_rfl) (by kernel_rfl) (by kernel_rfl) hQ (Or.inl ⟨by rfl, ?y6_6⟩) ?r6_6
  case y6_6 =>
    intro w' hSw
    go_simp
    try with_reducible rfl
  try simp only [Act.put]
  try simp only [List.setIfInBounds_toArray]
  try simp only [List.set_cons_succ]
  try simp only [List.set_cons_zero]
  refine Late.take (i := 8) (d := some 26) (v := ?v8_7) rfl rfl (by kernel_rfl) (by kernel_rfl) (by kernel_rfl) (by kernel_rfl) hQ (Or.inl ⟨by rfl, ?y8_7⟩) ?r8_7
  case y8_7 =>
    intro w' hSw
    go_simp
    try with_reducible rfl
  try simp only [Act.put]
  try simp only [List.setIfInBounds_toArray]
  try simp only [List.set_cons_succ]
  try simp only [List.set_cons_zero]
  refine Late.take (i := 9) (d := some 27) (v := ?v9_8) rfl rfl (by kernel_rfl) (by kernel_rfl) (by kernel_rfl) (by kernel_rfl) hQ (Or.inl ⟨by rfl, ?y9_8⟩) ?r9_8
  case y9_8 =>
    intro w' hSw
    go_simp
    try with_reducible rfl
  try simp only [Act.put]
  try simp only [List.setIfInBounds_toArray]
  try simp only [List.set_cons_succ]
  try simp only [List.set_cons_zero]
  refine Late.take (i := 10) (d := some 28) (v := ?v10_9) rfl rfl (by kernel_rfl) (by kernel_rfl) (by kernel_rfl) (by kernel_rfl) hQ (Or.inl ⟨by rfl, ?y10_9⟩) ?r10_9
  case y10_9 =>
    intro w' hSw
    go_simp
    try with_reducible rfl
  try simp only [Act.put]
  try simp only [List.setIfInBounds_toArray]
  try simp only [List.set_cons_succ]
  try simp only [List.set_cons_zero]
  refine Late.take (i := 12) (d := some 30) (v := ?v12_10) rfl rfl (by kernel_rfl) (by kernel_rfl) (by kernel_rfl) (by kernel_rfl) hQ (Or.inl ⟨by rfl, ?y12_10⟩) ?r12_10
  case y12_10 =>
    intro w' hSw
    go_simp
    try with_reducible rfl
  try simp only [Act.put]
  try simp only [List.setIfInBounds_toArray]
  try simp only [List.set_cons_succ]
  try simp only [List.set_cons_zero]
  refine Late.take (i := 13) (d := some 31) (v := ?v13_11) rfl rfl (by kernel_rfl) (by kernel_rfl) (by kernel_rfl) (by kernel_rfl) hQ (Or.inl ⟨by rfl, ?y13_11⟩) ?r13_11
  case y13_11 =>
    intro w' hSw
    go_simp
    try with_reducible rfl
  try simp only [Act.put]
  try simp only [List.setIfInBounds_toArray]
  try simp only [List.set_cons_succ]
  try simp only [List.set_cons_zero]
  refine Late.take (i := 14) (d := some 32) (v := ?v14_12) rfl rfl (by kernel_rfl) (by kernel_rfl) (by kernel_rfl) (by kernel_rfl) hQ (Or.inl ⟨by rfl, ?y14_12⟩) ?r14_12
  case y14_12 =>
    intro w' hSw
    go_simp
    try with_reducible rfl
  try simp only [Act.put]
  try simp only [List.setIfInBounds_toArray]
  try simp only [List.set_cons_succ]
  try simp only [List.set_cons_zero]
  refine Late.call (i := 3) rfl (by kernel_rfl) hAl (by kernel_rfl) (by kernel_rfl) (by kernel_rfl) hQ (fun w3 e3 E3 K hK => ?_)
  go_simp
  (go_at_call 89; refine (int_trimN (xs := xs.take h) (by have := Hm.out; have := Hp.out; simp; omega) (ra0.ext E3) (by omega) (by unfold maxLen; omega)).mono ?_; rintro e v3 ⟨rfl, rfl⟩)
  refine hK.out _ _ (Ext.refl _) ?_
  clear hK K
  try simp only [Act.put]
  try simp only [List.setIfInBounds_toArray]
  try simp only [List.set_cons_succ]
  try simp only [List.set_cons_zero]
  refine Late.call (i := 7) rfl (by kernel_rfl) hAl (by kernel_rfl) (by kernel_rfl) (by kernel_rfl) hQ (fun w7 e7 E7 K hK => ?_)
  go_simp
  (go_at_call 89; refine (int_trimN (xs := xs.drop h) (by have := Hm.out; have := Hp.out; simp; omega) (ra1.ext E7) (by omega) (by unfold maxLen; omega)).mono ?_; rintro e v7 ⟨rfl, rfl⟩)
  refine hK.out _ _ (Ext.refl _) ?_
  clear hK K
  try simp only [Act.put]
  try simp only [List.setIfInBounds_toArray]
  try simp only [List.set_cons_succ]
  try simp only [List.set_cons_zero]
  refine Late.call (i := 11) rfl (by kernel_rfl) hAl (by kernel_rfl) (by kernel_rfl) (by kernel_rfl) hQ (fun w11 e11 E11 K hK => ?_)
  go_simp
  (go_at_call 89; refine (int_trimN (xs := ys.take h) (by have := Hm.out; have := Hp.out; simp; omega) (rb0.ext E11) (by omega) (by unfold maxLen; omega)).mono ?_; rintro e v11 ⟨rfl, rfl⟩)
  refine hK.out _ _ (Ext.refl _) ?_
  clear hK K
  try simp only [Act.put]
  try simp only [List.setIfInBounds_toArray]
  try simp only [List.set_cons_succ]
  try simp only [List.set_cons_zero]
  refine Late.call (i := 15) rfl (by kernel_rfl) hAl (by kernel_rfl) (by kernel_rfl) (by kernel_rfl) hQ (fun w15 e15 E15 K hK => ?_)
  go_simp
  (go_at_call 89; refine (int_trimN (xs := ys.drop h) (by have := Hm.out; have := Hp.out; simp; omega) (rb1.ext E15) (by omega) (by unfold maxLen; omega)).mono ?_; rintro e v15 ⟨rfl, rfl⟩)
  refine hK.out _ _ (Ext.refl _) ?_
  clear hK K
  try simp only [Act.put]
  try simp only [List.setIfInBounds_toArray]
  try simp only [List.set_cons_succ]
  try simp only [List.set_cons_zero]
  refine Late.take (i := 16) (d := some 7) (v := ?v16_13) rfl rfl (by kernel_rfl) (by kernel_rfl) (by kernel_rfl) (by kernel_rfl) hQ (Or.inl ⟨by rfl, ?y16_13⟩) ?r16_13
  case y16_13 =>
    intro w' hSw
    go_simp
    try with_reducible rfl
  try simp only [Act.put]
  try simp only [List.setIfInBounds_toArray]
  try simp only [List.set_cons_succ]
  try simp only [List.set_cons_zero]
  refine Late.take (i := 17) (d := some 8) (v := ?v17_14) rfl rfl (by kernel_rfl) (by kernel_rfl) (by kernel_rfl) (by kernel_rfl) hQ (Or.inl ⟨by rfl, ?y17_14⟩) ?r17_14
  case y17_14 =>
    intro w' hSw
    go_simp
    try with_reducible rfl
  try simp only [Act.put]
  try simp only [List.setIfInBounds_toArray]
  try simp only [List.set_cons_succ]
  try simp only [List.set_cons_zero]
  refine Late.take (i := 18) (d := some 9) (v := ?v18_15) rfl rfl (by kernel_rfl) (by kernel_rfl) (by kernel_rfl) (by kernel_rfl) hQ (Or.inl ⟨by rfl, ?y18_15⟩) ?r18_15
  case y18_15 =>
    intro w' hSw
    go_simp
    try with_reducible rfl
  try simp only [Act.put]
  try simp only [List.setIfInBounds_toArray]
  try simp only [List.set_cons_succ]
  try simp only [List.set_cons_zero]
  refine Late.take (i := 19) (d := some 10) (v := ?v19_16) rfl rfl (by kernel_rfl) (by kernel_rfl) (by kernel_rfl) (by kernel_rfl) hQ (Or.inl ⟨by rfl, ?y19_16⟩) ?r19_16
  case y19_16 =>
    intro w' hSw
    go_simp
    try with_reducible rfl
  try simp only [Act.put]
  try simp only [List.setIfInBounds_toArray]
  try simp only [List.set_cons_succ]
  try simp only [List.set_cons_zero]
  refine Late.done0 (by kernel_rfl) (fun wz ez Ez => ?_)
  clear hAl hQ ES
  have ta0 := trimL_len (xs.take h)
  have ta1 := trimL_len (xs.drop h)
  have tb0 := trimL_len (ys.take h)
  have tb1 := trimL_len (ys.drop h)
  rw [List.length_take] at ta0 tb0
  rw [List.length_drop] at ta1 tb1
  rw [Hm.out] at ta0 ta1
  rw [Hp.out] at tb0 tb1
  have qa0 : Rd w (some ⟨ba, oa, none⟩) (trimL (xs.take h)) := by rw [trimL_take]; exact ra0.take _
  have qa1 : Rd w (some ⟨ba, oa + h, none⟩) (trimL (xs.drop h)) := by rw [trimL_take]; exact ra1.take _
  have qb0 : Rd w (some ⟨bb, ob, none⟩) (trimL (ys.take h)) := by rw [trimL_take]; exact rb0.take _
  have qb1 : Rd w (some ⟨bb, ob + h, none⟩) (trimL (ys.drop h)) := by rw [trimL_take]; exact rb1.take _
  generalize hta0 : trimL (xs.take h) = l0 at *
  generalize hta1 : trimL (xs.drop h) = l1 at *
  generalize htb0 : trimL (ys.take h) = m0 at *
  generalize htb1 : trimL (ys.drop h) = m1 at *
  have va0 : val l0 = val (xs.take h) := by rw [← hta0, val_trimL]
  have va1 : val l1 = val (xs.drop h) := by rw [← hta1, val_trimL]
  have vb0 : val m0 = val (ys.take h) := by rw [← htb0, val_trimL]
  have vb1 : val m1 = val (ys.drop h) := by rw [← htb1, val_trimL]
  have Va0 := Lib.hid va0
  have Va1 := Lib.hid va1
  have Vb0 := Lib.hid vb0
  have Vb1 := Lib.hid vb1
  clear hta0 hta1 htb0 htb1 va0 va1 vb0 vb1 ra0 ra1 rb0 rb1
  go_wp2_with fail
  refine (int_multiply_s rfl rfl (qa0.ext Ez) (qb0.ext Ez) (by omega) (by omega)).mono ?_
  rintro e u1 ⟨A1, c1, lo, rfl, hr1, hc1, hm1, ⟨hv1, hn1, hl1⟩, hx1⟩
  have Hv1 := Lib.hid hv1
  clear hv1
  have F1 := Ez.trans hx1
  go_wp2_with fail
  refine (int_multiply_s rfl rfl (qa1.ext F1) (qb1.ext F1) (by omega) (by omega)).mono ?_
  rintro e u2 ⟨A2, c2, hi, rfl, hr2, hc2, hm2, ⟨hv2, hn2, hl2⟩, hx2⟩
  have Hv2 := Lib.hid hv2
  clear hv2
  have F2 := F1.trans hx2
  go_wp2_with fail
  refine (int_add rfl rfl (qa0.ext F2) (qa1.ext F2) (by omega) (by omega)).mono ?_
  rintro e u3 ⟨A3, c3, sa, rfl, hr3, hc3, hm3, ⟨hv3, hn3, hl3⟩, hx3⟩
  have Hv3 := Lib.hid hv3
  clear hv3
  have F3 := F2.trans hx3
  go_wp2_with fail
  refine (int_add rfl rfl (qb0.ext F3) (qb1.ext F3) (by omega) (by omega)).mono ?_
  rintro e u4 ⟨A4, c4, sb, rfl, hr4, hc4, hm4, ⟨hv4, hn4, hl4⟩, hx4⟩
  have Hv4 := Lib.hid hv4
  clear hv4
  have F4 := F3.trans hx4
  go_wp2_with fail
  refine (int_multiply_s rfl rfl (hr3.rd.ext hx4) hr4.rd (by omega) (by omega)).mono ?_
  rintro e u5 ⟨A5, c5, mi, rfl, hr5, hc5, hm5, ⟨hv5, hn5, hl5⟩, hx5⟩
  have F5 := F4.trans hx5
  have sx := val_split xs h (by have := Hm.out; omega)
  have sy := val_split ys h (by have := Hp.out; omega)
  rw [Hv3.out, Hv4.out, Va0.out, Va1.out, Vb0.out, Vb1.out] at hv5
  have hlo := Hv1.out
  have hhi := Hv2.out
  rw [Va0.out, Vb0.out] at hlo
  rw [Va1.out, Vb1.out] at hhi
  have hmul : val xs * val ys = val (xs.take h) * val (ys.take h) + 4294967296 ^ h * (val (xs.take h) * val (ys.drop h) + val (xs.drop h) * val (ys.take h)) + 4294967296 ^ h * 4294967296 ^ h * (val (xs.drop h) * val (ys.drop h)) := by
    rw [sx, sy]; exact kar_all
  have hmi0 : mi ≠ [] := by
    rintro rfl
    have h0 : (val (xs.take h) + val (xs.drop h)) * (val (ys.take h) + val (ys.drop h)) = 0 := by rw [← hv5]; rfl
    rcases Nat.mul_eq_zero.1 h0 with h0 | h0
    · rw [show val (xs.take h) = 0 by omega, show val (xs.drop h) = 0 by omega] at sx
      simp at sx
      omega
    · rw [show val (ys.take h) = 0 by omega, show val (ys.drop h) = 0 by omega] at sy
      simp at sy
      omega
  obtain ⟨wmi, hh5⟩ := hr5
  rcases hh5 with h0 | ⟨g5, rfl, hg5, hb5⟩
  · exact absurd h0 hmi0
  have hlml : val lo ≤ val mi := by rw [hv5, hlo]; exact kar_low
  have hlen1 : lo.length ≤ mi.length := by
    refine Nat.le_of_not_lt fun hlt => ?_
    have := val_lt_of_len wmi hn1 hlt
    omega
  have Hvm := Lib.hid hv5
  have Hlo := Lib.hid hlo
  have Hhi := Lib.hid hhi
  have Hmul := Lib.hid hmul
  have Hlml := Lib.hid hlml
  clear hv5 hlo hhi hmul hlml sx sy hmi0
  have z1 := hr1.rd.ext (((hx2.trans hx3).trans hx4).trans hx5)
  have z2 := hr2.rd.ext ((hx3.trans hx4).trans hx5)
  have hu5 : u1.heap.size ≤ u4.heap.size := ((hx2.trans hx3).trans hx4).size
  have hu6 : u2.heap.size ≤ u4.heap.size := (hx3.trans hx4).size
  have ap1 : Apart A1 lo g5 := (hr1.rd.ext ((hx2.trans hx3).trans hx4)).apart hg5
  have ap2 : Apart A2 hi g5 := (hr2.rd.ext (hx3.trans hx4)).apart hg5
  have hgw : w.heap.size ≤ g5 := Nat.le_trans F4.size hg5
  go_wp2_with fail
  refine (int_subtractFrom (pre := []) (zs0 := mi) (post := []) _ _ lo _ (by simpa using hb5) rfl rfl wmi z1 rfl ap1 hlen1 Hlml.out (by omega)).mono ?_
  rintro e u6 ⟨mj, rfl, hlj, wmj, hbj, hvj, hmj⟩
  simp only [List.nil_append, List.append_nil] at hbj
  rw [Hvm.out, Hlo.out] at hvj
  have hhl : val hi ≤ val mj := by rw [Hhi.out]; exact kar_high hvj
  have hlen2 : hi.length ≤ mi.length := by
    refine Nat.le_of_not_lt fun hlt => ?_
    have h1 := val_lt_of_len wmi hn2 hlt
    have h2 := Hvm.out
    omega
  have Hvj := Lib.hid hvj
  have Hhl := Lib.hid hhl
  have Hlj := Lib.hid hlj
  clear hvj hhl hlj
  have hlt : g < w.heap.size := hblk0.lt
  have hne : g ≠ g5 := by omega
  go_wp2_with fail
  refine (int_subtractFrom (pre := []) (zs0 := mj) (post := []) _ _ hi _ (by simpa using hbj) rfl Hlj.out wmj (z2.mod hmj ap2) rfl ap2 hlen2 Hhl.out (by omega)).mono ?_
  rintro e u7 ⟨mk, rfl, hlk, wmk, hbk, hvk, hmk⟩
  simp only [List.nil_append, List.append_nil] at hbk
  rw [Hhi.out] at hvk
  have hvk2 := kar_mid Hvj.out hvk
  have Hvk := Lib.hid hvk2
  have Hlk := Lib.hid hlk
  clear hvk hvk2 hlk
  have y1 := (z1.mod hmj ap1).mod hmk ap1
  have y2 := (z2.mod hmj ap2).mod hmk ap2
  have bz := ((hblk0.ext F5).mod hmj hne).mod hmk hne
  have ag1 : Apart A1 lo g := fun hn a ha => by
    obtain ⟨_, hl | ⟨gl, hA, hgl, _⟩⟩ := hr1
    · exact absurd hl hn
    · have hs := Ez.size
      rw [ha] at hA; injection hA with hA; subst hA; show gl ≠ g; omega
  have ag2 : Apart A2 hi g := fun hn a ha => by
    obtain ⟨_, hl | ⟨gl, hA, hgl, _⟩⟩ := hr2
    · exact absurd hl hn
    · have hs := F1.size
      rw [ha] at hA; injection hA with hA; subst hA; show gl ≠ g; omega
  have hfm := Hf.out
  rw [Hmul.out] at hfm
  have hp1 : 0 < 4294967296 ^ h := Nat.pow_pos (by omega)
  go_wp2_with fail
  refine (int_addTo (pre := []) (zs0 := zs0) (post := []) _ _ lo _ (by simpa using bz) rfl HN.out hw y1 rfl ag1 (by omega) (by omega)).mono ?_
  rintro e u8 ⟨t1, rfl, hlt1, wt1, hbt1, ⟨cy1, _, hvt1⟩, hmt1⟩
  simp only [List.nil_append, List.append_nil] at hbt1
  rw [Hlo.out] at hvt1
  have hvt : val t1 = val zs0 + val (xs.take h) * val (ys.take h) := by
    have := kar_step (z := zs0) (zt := t1) (k := 0) (n := N) (cy := cy1) (m := val (xs.take h) * val (ys.take h)) HN.out (by omega) (by simpa using hvt1) (by rw [Nat.pow_zero, Nat.one_mul]; omega)
    simpa using this
  have e1 : (4294967296 : Nat) ^ N = 4294967296 ^ h * 4294967296 ^ (N - h) := by rw [← Nat.pow_add]; congr 1; omega
  have e2 : (4294967296 : Nat) ^ N = 4294967296 ^ h * 4294967296 ^ h * 4294967296 ^ (N - 2 * h) := by rw [← Nat.pow_add, ← Nat.pow_add]; congr 1; omega
  have e3 : (4294967296 : Nat) ^ (2 * h) = 4294967296 ^ h * 4294967296 ^ h := by rw [← Nat.pow_add]; congr 1; omega
  have hmid : val mk < 4294967296 ^ (N - h) := by
    rw [Hvk.out]
    rw [e1] at hfm
    exact kar_lt1 hp1 hfm
  have hhig : val hi < 4294967296 ^ (N - 2 * h) := by
    rw [Hhi.out]
    rw [e2] at hfm
    exact kar_lt2 (Nat.mul_pos hp1 hp1) hfm
  have htk := Nrm.len_le (Nrm.trimL mk) (by rw [val_trimL]; exact hmid)
  have hhk := Nrm.len_le hn2 hhig
  have hstep1 : val zs0 + val (xs.take h) * val (ys.take h) + 4294967296 ^ h * (val (xs.take h) * val (ys.drop h) + val (xs.drop h) * val (ys.take h)) < 4294967296 ^ N := by omega
  have Hst1 := Lib.hid hstep1
  have Hvt := Lib.hid hvt
  have Hlt1 := Lib.hid hlt1
  have E3 := Lib.hid e3
  have Hfm := Lib.hid hfm
  clear e1 e2 e3 hvt hvt1 hlt1 hmid hhig hstep1 hfm hp1
  have bk1 : BlkN u8 g5 mk := hbk.mod hmt1 (by omega)
  have rk1 : Rd u8 (some ⟨g5, 0, none⟩) (trimL mk) := by rw [trimL_take]; exact (bk1.rd0 wmk).take _
  have y3 := y2.mod hmt1 ag2
  have hb8 : BlkN u8 g (t1.take h ++ t1.drop h ++ []) := by simpa using hbt1
  have l1 : (h : Int) ≤ (N : Int) := by omega
  have l2 : (N : Int) ≤ (cz : Int) := by omega
  have l3 : (h : Int) ≤ (cz : Int) := by omega
  have l4 : ¬ cz = h := by omega
  have apk : Apart (some ⟨g5, 0, none⟩) (trimL mk) g := fun _ a ha => by injection ha with ha; subst ha; show g5 ≠ g; omega
  clear k1 k2 k3 k4 k5 k6 k7 hx hy hap hbp ta0 ta1 tb0 tb1 qa0 qa1 qb0 qb1 hr1 hr2 hr3 hr4 hx1 hx2 hx3 hx4 hx5
  go_upto_region 7 with (fail)
  go_region_held3 (fun _ => True) (trivial)
    (first | (go_at_call 89; refine (int_trimN (xs := mk) (by have := Hlk.out; have := Hlj.out; omega) ((bk1.rd0 wmk).ext (Ext.refl _).drew) hc5 hm5).mono ?_; rintro e u8' ⟨rfl, rfl⟩) | (go_at_call 127; refine (int_addTo (n := N - h) (pre := t1.take h) (zs0 := t1.drop h) (post := []) _ _ (trimL mk) _ (hb8.ext (Ext.refl _).drew) (by have := Hlt1.out; simp; omega) (by have := Hlt1.out; simp; omega) (wt1.drop h) (rk1.ext (Ext.refl _).drew) rfl apk (by omega) (by omega)).mono ?_; rintro e u9 ⟨t2, rfl, hlt2, wt2, hbt2, ⟨cy2, _, hvt2⟩, hmt2⟩))
  simp only [List.append_nil] at hbt2
  rw [val_trimL, Hvk.out] at hvt2
  have hv2 := kar_step (z := t1) (zt := t2) (k := h) (n := N) (cy := cy2) Hlt1.out (by omega) hvt2 (by rw [Hvt.out]; exact Hst1.out)
  have hl2z : (t1.take h ++ t2).length = N := by have := Hlt1.out; rw [List.length_append, List.length_take, hlt2]; omega
  have hw2z := (wt1.take h).append wt2
  generalize hz2 : t1.take h ++ t2 = z2 at hbt2 hv2 hl2z hw2z
  rw [Hvt.out] at hv2
  have Hv2z := Lib.hid hv2
  have Hl2z := Lib.hid hl2z
  clear hz2 hv2 hl2z hvt2 hlt2 wt2 wt1 hb8 bk1 rk1
  have y4 := y3.mod ((Mod.refl u8 g).drew.trans hmt2) ag2
  have hb9 : BlkN u9 g (z2.take (2 * h) ++ z2.drop (2 * h) ++ []) := by simpa using hbt2
  have m1 : (2 : Int) * (h : Int) ≤ (N : Int) := by omega
  have m2 : (0 : Int) ≤ 2 * (h : Int) := by omega
  have m3 : (2 : Int) * (h : Int) ≤ (cz : Int) := by omega
  have m4 : ¬ cz = 2 * h := by omega
  have m5 : ((2 : Int) * (h : Int)).toNat = 2 * h := by omega
  have Hm5 := Lib.hid m5
  go_wp2_with (go_at_call 127; refine (int_addTo (n := N - 2 * h) (pre := z2.take (2 * h)) (zs0 := z2.drop (2 * h)) (post := []) _ _ hi _ hb9 (by have := Hl2z.out; simp; omega) (by have := Hl2z.out; simp; omega) (hw2z.drop _) y4 rfl ag2 (by omega) (by omega)).mono ?_; rintro e u10 ⟨t3, rfl, hlt3, wt3, hbt3, ⟨cy3, _, hvt3⟩, hmt3⟩)
  go_end0
  have hfm := Hfm.out
  rw [Hhi.out] at hvt3
  have hv3 := kar_step (z := z2) (zt := t3) (k := 2 * h) (n := N) (cy := cy3) Hl2z.out (by omega) hvt3 (by rw [Hv2z.out, E3.out]; omega)
  rw [Hv2z.out, E3.out] at hv3
  refine ⟨z2.take (2 * h) ++ t3, rfl, by have := Hl2z.out; rw [List.length_append, List.length_take, hlt3]; omega, (hw2z.take _).append wt3, by simpa using hbt3, by show val _ = _; rw [hv3, Hmul.out]; omega, ?_⟩
  exact ((((Mod.ext (Mod.ext F5 hmj hgw) hmk hgw).mod g).trans hmt1).trans ((Mod.refl u8 g).drew.trans hmt2)).trans hmt3
set_option maxHeartbeats 1000000 in
theorem int_addProduct_k {g N cz : Nat} {zs0 : List Nat} (hblk0 : BlkN w g zs0) (hN : zs0.length = N) (hw : W32 zs0) (hx : Rd w A xs) (hm : xs.length = n) (hap : Apart A xs g) (hy : Rd w B ys) (hp : ys.length = n) (hbp : Apart B ys g)
    (h2 : 64 ≤ n) (h100 : n ≤ 110) (hl : n + n ≤ N) (hN2 : N ≤ 100000) (hpx : 0 < val xs) (hpy : 0 < val ys) (hf : val zs0 + val xs * val ys < 4294967296 ^ N) (hc : n ≤ c) (hcm : c ≤ maxLen) (hd : n ≤ d) (hdm : d ≤ maxLen) (hcz : N ≤ cz) (hczm : cz ≤ maxLen) :
    Calls Tryz.prog 131 #[.slice (some ⟨g, 0, none⟩) N cz, .slice A n c, .slice B n d] w (Turned w g [] N [] fun zs => val zs = val zs0 + val xs * val ys) := by
  have ht1 : decide ((n : Int) < 64) = false := decide_eq_false (by omega)
  have HK := Lib.hid (int_addHalves hblk0 hN hw hx hm hap hy hp hbp (by omega) h100 hl hN2 hpx hpy hf hc hcm hd hdm hcz hczm)
  clear hm hp hN hf hblk0
  go_enter Tryz.func131, Tryz.ntmps131
  go_wp2_with fail
  refine HK.out.mono ?_
  rintro e u ⟨zs, rfl, h1, h2, h3, h4, h5⟩
  have H1 := Lib.hid h1
  have H4 := Lib.hid h4
  clear h1 h4
  go_wp2_with fail
  go_end0
  exact ⟨zs, rfl, H1.out, h2, h3, H4.out, h5⟩
set_option maxHeartbeats 1000000 in
theorem int_multiply_k (hn : xs.length = n) (hm : ys.length = n) (hx : Rd w A xs) (hy : Rd w B ys) (h64 : 64 ≤ n) (h1 : n ≤ 110) (hpx : 0 < val xs) (hpy : 0 < val ys) (hc : n ≤ c) (hcm : c ≤ maxLen) (hd : n ≤ d) (hdm : d ≤ maxLen) :
    Calls Tryz.prog 102 #[.slice A n c, .slice B n d] w (RetN (fun zs => val zs = val xs * val ys ∧ Nrm zs ∧ zs.length ≤ xs.length + ys.length) w) := by
  have hmk := mk_wordsA 84 Tryz.underlying84 n n (by omega)
  have hf : 0 + val xs * val ys < 4294967296 ^ (n + n) := by
    rw [Nat.zero_add]
    have := prod_lt hx.1 hy.1
    rwa [hn, hm] at this
  have Hf := Lib.hid hf
  have Hn := Lib.hid hn
  have Hm := Lib.hid hm
  clear hf hn hm
  go_enter Tryz.func102, Tryz.ntmps102
  go_wp2_with fail
  refine (int_addProduct_k (zs0 := List.replicate (n + n) 0) (by simpa using BlkN.new w (n + n)) (by simp) (W32.replicate _) (hx.ext ((Ext.refl w).alloc _)) Hn.out (hx.apart (Nat.le_refl _)) (hy.ext ((Ext.refl w).alloc _)) Hm.out (hy.apart (Nat.le_refl _)) h64 h1 (Nat.le_refl _) (by omega) hpx hpy (by rw [val_replicate]; exact Hf.out) hc hcm hd hdm (Nat.le_refl _) (by unfold maxLen; omega)).mono ?_
  rintro e w2 ⟨zs, rfl, hzl, hzw, hzb, hzv, hmod⟩
  have hext := hmod.ext ((Ext.refl w).alloc _) (Nat.le_refl _)
  simp only [List.nil_append, List.append_nil] at hzb
  have Hzl := Lib.hid hzl
  have Hzv := Lib.hid hzv
  clear hzl hzv hmod
  go_wp2_with fail
  refine (int_trimN (xs := zs) Hzl.out (hzb.rd0 hzw) (Nat.le_refl _) (by unfold maxLen; omega)).mono ?_
  rintro e w3 ⟨rfl, rfl⟩
  go_wp2_with fail
  go_ret
  have hlen := trimL_len zs
  have hz := Hzl.out
  have hn := Hn.out
  have hm := Hm.out
  refine ⟨_, _, trimL zs, rfl, ?_, by omega, by unfold maxLen; omega, ⟨by rw [val_trimL, Hzv.out, val_replicate, Nat.zero_add], Nrm.trimL _, by omega⟩, hext⟩
  rw [trimL_take]
  exact (Own.of_blk hzb hzw (Nat.le_refl _)).take _
end
end Go.Proofs.YtiioodgpkdbndaaGreatDoor
