/- Walks and laws, part 8. -/
import Derived.Test.YtmjmcinnbmjpdaaDoorMg2
import Derived.Test.YtmjmcinnbmjpdaaDoorMg7
namespace Go.Proofs.YtmjmcinnbmjpdaaDoor
open Go.RowKit
attribute [local go_sem ↓] Go.wp_at_zero Go.wp_at_succ
/-- q is the quotient, rounded down, and r the remainder. -/
def IsDM (a b q r : Int) : Prop := a = q * b + r ∧ (r = 0 ∨ (0 < b ∧ 0 < r ∧ r < b) ∨ (b < 0 ∧ b < r ∧ r < 0))
/-- two integers and an error's number. -/
def RetDM (a b : Int) (lq lr : Nat) (w : World) (e : Ending) (w' : World) : Prop :=
  ∃ b3 A3 c3 qs b4 A4 c4 rs q r, e = .returned (.tuple #[.agg #[.bool b3, .slice A3 (List.length qs) c3], .agg #[.bool b4, .slice A4 (List.length rs) c4], .int .i64 0]) ∧ Rd w' A3 qs ∧ Rd w' A4 rs ∧ qs.length ≤ c3 ∧ c3 ≤ maxLen ∧ rs.length ≤ c4 ∧ c4 ≤ maxLen ∧
    IsInt q b3 qs ∧ IsInt r b4 rs ∧ IsDM a b q r ∧ qs.length ≤ lq ∧ rs.length ≤ lr ∧ Ext w w'
theorem box4 (w : World) (t u v z : TypeId) (a b c d : Array Value) : ∃ W, W = (((w.alloc (.cells a t)).alloc (.cells b u)).alloc (.cells c v)).alloc (.cells d z) ∧ Ext w W ∧ Box W w.heap.size t a ∧ Box W (w.heap.size + 1) u b ∧ Box W (w.heap.size + 1 + 1) v c ∧ Box W (w.heap.size + 1 + 1 + 1) z d ∧ w.heap.size + 4 ≤ W.heap.size := by
  obtain ⟨W, rfl, h1, h2, h3, h4, h5⟩ := box3 w t u v a b c
  have h6 := Box.new (((w.alloc (.cells a t)).alloc (.cells b u)).alloc (.cells c v)) z d
  simp only [World.size_alloc] at h6
  exact ⟨_, rfl, h1.alloc _, h2.ext ((Ext.refl _).alloc _), h3.ext ((Ext.refl _).alloc _), h4.ext ((Ext.refl _).alloc _), h6, by simp⟩
theorem dm_near {s t : Bool} {x y q r : Nat} (hy : 0 < y) (h : x = q * y + r) (hr : r < y) (hc : (s == t) = true ∨ r = 0) :
    IsDM (if s then -(x : Int) else (x : Int)) (if t then -(y : Int) else (y : Int)) (if (!(s == t)) = true then -(q : Int) else (q : Int)) (if t then -(r : Int) else (r : Int)) := by
  subst h
  have e : (((q * y + r : Nat)) : Int) = (q : Int) * (y : Int) + (r : Int) := by rw [Int.natCast_add, Int.natCast_mul]
  rw [e]
  refine ⟨?_, ?_⟩
  · cases s <;> cases t <;> simp at hc ⊢ <;> (try subst hc) <;> simp [Int.neg_mul, Int.mul_neg] <;> omega
  · cases t
    · simp; omega
    · simp; omega
theorem dm_far {s t : Bool} {x y q r : Nat} (hr0 : 0 < r) (h : x = q * y + r) (hr : r < y) (hc : (s == t) = false) :
    IsDM (if s then -(x : Int) else (x : Int)) (if t then -(y : Int) else (y : Int)) (-((q + 1 : Nat) : Int)) (if t then -((y - r : Nat) : Int) else ((y - r : Nat) : Int)) := by
  subst h
  have e : (((q * y + r : Nat)) : Int) = (q : Int) * (y : Int) + (r : Int) := by rw [Int.natCast_add, Int.natCast_mul]
  have e2 : ((y - r : Nat) : Int) = (y : Int) - (r : Int) := by omega
  rw [e, e2]
  refine ⟨?_, ?_⟩
  · cases s <;> cases t <;> simp at hc ⊢ <;> rw [Int.neg_mul] <;> (try rw [Int.mul_neg]) <;> rw [Int.add_mul] <;> omega
  · cases t
    · simp; omega
    · simp; omega
theorem fin_two {w w2 : World} {g h : Nat} {ty : TypeId} {x x' : Bool} {y y' : Option Addr} {p q p' q' : Nat} {A A' : Option Addr} {rs rs' : List Nat} {b b' : Bool} {n c n' c' : Nat} (hext : Ext w w2) (hg : w.heap.size ≤ g) (hh : w.heap.size ≤ h) (hne : g ≠ h)
    (hb : Box w2 g ty #[.bool x, .slice y p q]) (hb' : Box w2 h ty #[.bool x', .slice y' p' q']) (hr : Rd w2 A rs) (hr' : Rd w2 A' rs') (v0 v1 v2 v3 : Value) (e0 : v0 = .bool b) (e1 : v1 = .slice A n c) (e2 : v2 = .bool b') (e3 : v3 = .slice A' n' c') :
    ∃ W', W' = (((w2.setCell ⟨g, 0, none⟩ v0).setCell ⟨g, 1, none⟩ v1).setCell ⟨h, 0, none⟩ v2).setCell ⟨h, 1, none⟩ v3 ∧ Rd W' A rs ∧ Rd W' A' rs' ∧ Ext w W' ∧ W'.cell? ⟨g, 0, none⟩ = some (.bool b) ∧ W'.cell? ⟨g, 1, none⟩ = some (.slice A n c) ∧ W'.cell? ⟨h, 0, none⟩ = some (.bool b') ∧ W'.cell? ⟨h, 1, none⟩ = some (.slice A' n' c') := by
  subst e0 e1 e2 e3
  obtain ⟨r1, r2, _, _⟩ := fin_pair (b := b) (n := n) (c := c) hext hg hb hr
  have q1 := (hr'.setBox hb NoWord.two 0 (.bool b)).setBox (hb.setA (.bool b)) NoWord.two 1 (.slice A n c)
  have k1 := (hb.setA (.bool b)).setB (.slice A n c)
  have k2 := (hb'.far (p := ⟨g, 0, none⟩) (far_ne (Ne.symm hne)) (.bool b)).far (p := ⟨g, 1, none⟩) (far_ne (Ne.symm hne)) (.slice A n c)
  obtain ⟨s1, s2, s3, s4⟩ := fin_pair (b := b') (n := n') (c := c') r2 hh k2 q1
  have t1 := (r1.setBox k2 NoWord.two 0 (.bool b')).setBox (k2.setA (.bool b')) NoWord.two 1 (.slice A' n' c')
  have k3 := (k1.far (p := ⟨h, 0, none⟩) (far_ne hne) (.bool b')).far (p := ⟨h, 1, none⟩) (far_ne hne) (.slice A' n' c')
  exact ⟨_, rfl, t1, s1, s2, k3.cell 0 _ rfl, k3.cell 1 _ rfl, s3, s4⟩
section
variable {A B : Option Addr} {c d n m L : Nat} {xs ys : List Nat} {w : World} {s t : Bool}
set_option maxHeartbeats 1000000 in
theorem int_DivMod_0 (hn : xs.length = n) (hm : ys.length = m) (hx : Rd w A xs) (hy : Rd w B ys) (hc : n ≤ c) (hcm : c ≤ maxLen) (hd : m ≤ d) (hdm : d ≤ maxLen) (_h1 : n ≤ 100000) (_h2 : m ≤ 100000) (h0 : val ys = 0) :
    Calls Tryd.prog 13 #[.agg #[.bool s, .slice A n c], .agg #[.bool t, .slice B m d]] w fun e w' => e = .returned (.tuple #[.agg #[.bool false, .slice none 0 0], .agg #[.bool false, .slice none 0 0], .int .i64 6]) ∧ Ext w w' := by
  have Hn := Lib.hid hn
  have Hm := Lib.hid hm
  clear hn hm
  have lx := trimL_len xs
  have ly := trimL_len ys
  have hxt : Rd w A (trimL xs) := by rw [trimL_take]; exact hx.take _
  have hyt : Rd w B (trimL ys) := by rw [trimL_take]; exact hy.take _
  go_enter Tryd.func13, Tryd.ntmps13
  go_upto_region 1 with (fail)
  obtain ⟨W, hW, extW, bx, by_, bz, bu, hz⟩ := box4 w 24 24 24 24 #[.bool s, .slice A n c] #[.bool t, .slice B m d] #[.bool false, .slice none 0 0] #[.bool false, .slice none 0 0]
  rw [← hW]
  clear hW
  have x0 := bx.cell 0 (.bool s) rfl
  have x1 := bx.cell 1 (.slice A n c) rfl
  have y0 := by_.cell 0 (.bool t) rfl
  have y1 := by_.cell 1 (.slice B m d) rfl
  go_quiet (first | (go_at_call_of 26 A; exact quiet_left (int_trimN Hn.out (hx.ext (extW.drewN _)) hc hcm)) | (go_at_call_of 26 B; exact quiet_left (int_trimN Hm.out (hy.ext (extW.drewN _)) hd hdm)))
  refine at_then (fun N => Ext w N ∧ Box N w.heap.size 24 #[.bool s, .slice A n c] ∧ Box N (w.heap.size + 1) 24 #[.bool t, .slice B m d] ∧ Box N (w.heap.size + 1 + 1) 24 #[.bool false, .slice none 0 0] ∧ Box N (w.heap.size + 1 + 1 + 1) 24 #[.bool false, .slice none 0 0] ∧ w.heap.size + 4 ≤ N.heap.size) ⟨extW.drewN _, bx.ext ((Ext.refl _).drewN _), by_.ext ((Ext.refl _).drewN _), bz.ext ((Ext.refl _).drewN _), bu.ext ((Ext.refl _).drewN _), hz⟩ ?_
  clear x0 x1 y0 y1 extW bx by_ bz bu hz
  rintro N ⟨extN, bx, by_, bz, bu, hz⟩
  have x0 := bx.cell 0 (.bool s) rfl
  have y0 := by_.cell 0 (.bool t) rfl
  have hl0 : (trimL ys).length = 0 := by rw [(Nrm.trimL ys).zero.1 (by rw [val_trimL]; exact h0)]; rfl
  have ht0 : (((trimL ys).length : Int) == 0) = true := by rw [beq_iff_eq]; omega
  have z0 := bz.cell 0 (.bool false) rfl
  have z1 := bz.cell 1 (.slice none 0 0) rfl
  have f0 := bz.frozen 0
  have f1 := bz.frozen 1
  have u0 := bu.cell 0 (.bool false) rfl
  have u1 := bu.cell 1 (.slice none 0 0) rfl
  have g0 := bu.frozen 0
  have g1 := bu.frozen 1
  go_wp2_with fail
  obtain ⟨W', hW', r1, r2, r3, r4, r5, r6, r7⟩ := fin_two (b := false) (A := none) (n := 0) (c := 0) (b' := false) (A' := none) (n' := 0) (c' := 0) (rs := []) (rs' := []) extN (show w.heap.size ≤ w.heap.size + 1 + 1 by omega) (show w.heap.size ≤ w.heap.size + 1 + 1 + 1 by omega) (by omega) bz bu (Rd.nil _ _) (Rd.nil _ _) _ _ _ _ rfl rfl rfl rfl
  rw [← hW']
  exact bodyPost_ret (v := .tuple #[.agg #[.bool false, .slice none 0 0], .agg #[.bool false, .slice none 0 0], .int .i64 6]) (by simp [results, Tryd.results13, go_sem, r4, r5, r6, r7]) rfl ⟨rfl, r3⟩

set_option maxHeartbeats 1000000 in
theorem int_DivMod_L (hD : DivideOK L) (hn : xs.length = n) (hm : ys.length = m) (hx : Rd w A xs) (hy : Rd w B ys) (hc : n ≤ c) (hcm : c ≤ maxLen) (hd : m ≤ d) (hdm : d ≤ maxLen) (h1 : n ≤ 100000) (h2 : m ≤ 100000) (hL : n ≤ L) (h0 : val ys ≠ 0) :
    Calls Tryd.prog 13 #[.agg #[.bool s, .slice A n c], .agg #[.bool t, .slice B m d]] w (RetDM (ival s xs) (ival t ys) (xs.length + 1) (max xs.length ys.length) w) := by
  have Hn := Lib.hid hn
  have Hm := Lib.hid hm
  clear hn hm
  have lx := trimL_len xs
  have ly := trimL_len ys
  have hxt : Rd w A (trimL xs) := by rw [trimL_take]; exact hx.take _
  have hyt : Rd w B (trimL ys) := by rw [trimL_take]; exact hy.take _
  go_enter Tryd.func13, Tryd.ntmps13
  go_upto_region 1 with (fail)
  obtain ⟨W, hW, extW, bx, by_, bz, bu, hz⟩ := box4 w 24 24 24 24 #[.bool s, .slice A n c] #[.bool t, .slice B m d] #[.bool false, .slice none 0 0] #[.bool false, .slice none 0 0]
  rw [← hW]
  clear hW
  have x0 := bx.cell 0 (.bool s) rfl
  have x1 := bx.cell 1 (.slice A n c) rfl
  have y0 := by_.cell 0 (.bool t) rfl
  have y1 := by_.cell 1 (.slice B m d) rfl
  go_quiet (first | (go_at_call_of 26 A; exact quiet_left (int_trimN Hn.out (hx.ext (extW.drewN _)) hc hcm)) | (go_at_call_of 26 B; exact quiet_left (int_trimN Hm.out (hy.ext (extW.drewN _)) hd hdm)))
  refine at_then (fun N => Ext w N ∧ Box N w.heap.size 24 #[.bool s, .slice A n c] ∧ Box N (w.heap.size + 1) 24 #[.bool t, .slice B m d] ∧ Box N (w.heap.size + 1 + 1) 24 #[.bool false, .slice none 0 0] ∧ Box N (w.heap.size + 1 + 1 + 1) 24 #[.bool false, .slice none 0 0] ∧ w.heap.size + 4 ≤ N.heap.size) ⟨extW.drewN _, bx.ext ((Ext.refl _).drewN _), by_.ext ((Ext.refl _).drewN _), bz.ext ((Ext.refl _).drewN _), bu.ext ((Ext.refl _).drewN _), hz⟩ ?_
  clear x0 x1 y0 y1 extW bx by_ bz bu hz
  rintro N ⟨extN, bx, by_, bz, bu, hz⟩
  have x0 := bx.cell 0 (.bool s) rfl
  have y0 := by_.cell 0 (.bool t) rfl
  have hpy : val (trimL ys) ≠ 0 := by rw [val_trimL]; exact h0
  have hly : 0 < (trimL ys).length := by
    rcases Nat.eq_zero_or_pos (trimL ys).length with h | h
    · exact absurd ((Nrm.trimL ys).zero.2 (List.eq_nil_of_length_eq_zero h)) hpy
    · exact h
  have ht0 : (((trimL ys).length : Int) == 0) = false := by rw [beq_eq_false_iff_ne]; omega
  have HD := Lib.hid hD
  have H0 := Lib.hid h0
  clear hD h0 hpy
  go_wp2_with fail
  refine (HD.out A B c d _ _ (trimL xs) (trimL ys) N rfl rfl (hxt.ext extN) (hyt.ext extN) (by have := Hn.out; omega) hcm (by have := Hm.out; omega) hdm (Nrm.trimL xs) (Nrm.trimL ys) hly (by have := Hn.out; omega) (by have := Hm.out; omega)).mono ?_
  rintro e w1 ⟨A5, c5, qs, A6, c6, rs, rfl, ho5, ho6, hc5, hm5, hc6, hm6, ⟨hv5, hv6, hn5, hn6, hl5, hl6⟩, hext1⟩
  have Hv5 := Lib.hid hv5
  have Hv6 := Lib.hid hv6
  clear hv5 hv6
  replace extN := extN.trans hext1
  replace bx := bx.ext hext1
  replace by_ := by_.ext hext1
  replace bz := bz.ext hext1
  replace bu := bu.ext hext1
  have hs1 := hext1.size
  clear x0 y0
  have x0 := bx.cell 0 (.bool s) rfl
  have y0 := by_.cell 0 (.bool t) rfl
  have hrs0 : rs.length = 0 → val rs = 0 := fun h => by rw [List.eq_nil_of_length_eq_zero h]; rfl
  have hdm1 : val (trimL xs) = val qs * val (trimL ys) + val rs := by
    rw [Hv5.out, Hv6.out, Nat.mul_comm]; exact (Nat.div_add_mod _ _).symm
  have hdm2 : val rs < val (trimL ys) := by rw [Hv6.out]; exact Nat.mod_lt _ (by rw [val_trimL]; have := H0.out; omega)
  rw [val_trimL, val_trimL] at hdm1
  rw [val_trimL] at hdm2
  have Hdm1 := Lib.hid hdm1
  have Hdm2 := Lib.hid hdm2
  have Hrs0 := Lib.hid hrs0
  clear hdm1 hdm2 hrs0
  by_cases hcase : (s == t) = true ∨ rs.length = 0
  · have Hcase := Lib.hid hcase
    rcases hcase with hst | hr0
    · have hnot : (!(s == t)) = false := by rw [hst]; rfl
      go_wp2_with fail
      go_region_held3 (fun w' => w'.cell? ⟨w.heap.size + 1, 0, none⟩ = some (.bool t)) (first | (first | (exact Ext.cellv (by assumption) (by assumption)) | (refine (cell_far2 (by omega)).trans ?_; assumption)) | go_keep)
        (first | (go_at_call_of 24 A5; refine (int_signed rfl (ho5.rd.ext (by first | exact Ext.refl _ | exact (Ext.refl _).drew)) hc5 hm5 hn5).mono ?_; rintro e w3 ⟨b3, A3, c3, ps, rfl, hr3, hc3, hm3, hi3, hl3, hext3⟩; have ext3 := (Ext.refl w1).drew.trans hext3) | (go_at_call_of 24 A6; refine (int_signed rfl (ho6.rd.ext ext3) hc6 hm6 hn6).mono ?_; rintro e w4 ⟨b4, A4, c4, us, rfl, hr4, hc4, hm4, hi4, hl4, hext4⟩; have ext4 := ext3.trans hext4; have bz4 := bz.ext ext4; have bu4 := bu.ext ext4; have z0 := bz4.cell 0 (.bool false) rfl; have z1 := bz4.cell 1 (.slice none 0 0) rfl; have f0 := bz4.frozen 0; have f1 := bz4.frozen 1; have u0 := bu4.cell 0 (.bool false) rfl; have u1 := bu4.cell 1 (.slice none 0 0) rfl; have g0 := bu4.frozen 0; have g1 := bu4.frozen 1))
      go_wp2_with fail
      obtain ⟨W', hW', r1, r2, r3, r4, r5, r6, r7⟩ := fin_two (b := b3) (A := A3) (n := ps.length) (c := c3) (b' := b4) (A' := A4) (n' := us.length) (c' := c4) (extN.trans ext4) (show w.heap.size ≤ w.heap.size + 1 + 1 by omega) (show w.heap.size ≤ w.heap.size + 1 + 1 + 1 by omega) (by omega) bz4 bu4 (hr3.ext hext4) hr4 _ _ _ _ rfl rfl rfl rfl
      rw [← hW']
      refine bodyPost_ret (v := .tuple #[.agg #[.bool b3, .slice A3 ps.length c3], .agg #[.bool b4, .slice A4 us.length c4], .int .i64 0]) (by simp [results, Tryd.results13, go_sem, r4, r5, r6, r7]) rfl ⟨b3, A3, c3, ps, b4, A4, c4, us, _, _, rfl, r1, r2, hc3, hm3, hc4, hm4, hi3, hi4, ?_, by omega, by omega, r3⟩
      have e := dm_near (s := s) (t := t) (x := val xs) (y := val ys) (q := val qs) (r := val rs) (by have := H0.out; omega) Hdm1.out Hdm2.out (Hcase.out.imp id Hrs0.out)
      first | simp only [hst, Bool.not_true] at e | simp only [hst, Bool.not_false] at e | simp only [hst] at e
      exact e
    · have hd1 : decide ((0 : Int) < (rs.length : Int)) = false := decide_eq_false (by omega)
      have hd2 : decide (0 < rs.length) = false := decide_eq_false (by omega)
      have Hr0 := Lib.hid hr0
      clear hr0
      cases hst : (s == t)
      all_goals
        go_wp2_with fail
        go_region_held3 (fun w' => w'.cell? ⟨w.heap.size + 1, 0, none⟩ = some (.bool t)) (first | (first | (exact Ext.cellv (by assumption) (by assumption)) | (refine (cell_far2 (by omega)).trans ?_; assumption)) | go_keep)
          (first | (go_at_call_of 24 A5; refine (int_signed rfl (ho5.rd.ext (by first | exact Ext.refl _ | exact (Ext.refl _).drew)) hc5 hm5 hn5).mono ?_; rintro e w3 ⟨b3, A3, c3, ps, rfl, hr3, hc3, hm3, hi3, hl3, hext3⟩; have ext3 := (Ext.refl w1).drew.trans hext3) | (go_at_call_of 24 A6; refine (int_signed rfl (ho6.rd.ext ext3) hc6 hm6 hn6).mono ?_; rintro e w4 ⟨b4, A4, c4, us, rfl, hr4, hc4, hm4, hi4, hl4, hext4⟩; have ext4 := ext3.trans hext4; have bz4 := bz.ext ext4; have bu4 := bu.ext ext4; have z0 := bz4.cell 0 (.bool false) rfl; have z1 := bz4.cell 1 (.slice none 0 0) rfl; have f0 := bz4.frozen 0; have f1 := bz4.frozen 1; have u0 := bu4.cell 0 (.bool false) rfl; have u1 := bu4.cell 1 (.slice none 0 0) rfl; have g0 := bu4.frozen 0; have g1 := bu4.frozen 1))
        go_wp2_with fail
        obtain ⟨W', hW', r1, r2, r3, r4, r5, r6, r7⟩ := fin_two (b := b3) (A := A3) (n := ps.length) (c := c3) (b' := b4) (A' := A4) (n' := us.length) (c' := c4) (extN.trans ext4) (show w.heap.size ≤ w.heap.size + 1 + 1 by omega) (show w.heap.size ≤ w.heap.size + 1 + 1 + 1 by omega) (by omega) bz4 bu4 (hr3.ext hext4) hr4 _ _ _ _ rfl rfl rfl rfl
        rw [← hW']
        refine bodyPost_ret (v := .tuple #[.agg #[.bool b3, .slice A3 ps.length c3], .agg #[.bool b4, .slice A4 us.length c4], .int .i64 0]) (by simp [results, Tryd.results13, go_sem, r4, r5, r6, r7]) rfl ⟨b3, A3, c3, ps, b4, A4, c4, us, _, _, rfl, r1, r2, hc3, hm3, hc4, hm4, hi3, hi4, ?_, by omega, by omega, r3⟩
        have e := dm_near (s := s) (t := t) (x := val xs) (y := val ys) (q := val qs) (r := val rs) (by have := H0.out; omega) Hdm1.out Hdm2.out (Hcase.out.imp id Hrs0.out)
        first | simp only [hst, Bool.not_true] at e | simp only [hst, Bool.not_false] at e | simp only [hst] at e
        exact e
  · have hst : (s == t) = false := by
      cases h : (s == t) with
      | true => exact absurd (.inl h) hcase
      | false => rfl
    have hrl : 0 < rs.length := by
      rcases Nat.eq_zero_or_pos rs.length with h | h
      · exact absurd (.inr h) hcase
      · exact h
    clear hcase
    have hd1 : decide ((0 : Int) < (rs.length : Int)) = true := decide_eq_true (by omega)
    have hd2 : decide (0 < rs.length) = true := decide_eq_true (by omega)
    go_wp2_with fail
    have hnew := BlkN.lit w1 [1] #[.int .u32 1] rfl
    refine (int_add (xs := qs) (ys := [1]) rfl rfl (ho5.rd.ext ((Ext.refl w1).alloc _)) (hnew.rd0 (W32.one (by omega))) (by have := Hn.out; omega) (by simp)).mono ?_
    rintro e w5 ⟨A7, c7, q2, rfl, ho7, hc7, hm7, ⟨hv7, hn7, hl7⟩, hext7⟩
    have ext7 := ((Ext.refl w1).alloc (.cells #[.int .u32 1] 43)).trans hext7
    have Hv7 := Lib.hid hv7
    clear hv7
    go_wp2_with fail
    refine (int_subtract (xs := trimL ys) (ys := rs) rfl rfl (hyt.ext (extN.trans ext7)) (ho6.rd.ext ext7) (len_le hyt.1 hn6 (by rw [val_trimL]; exact Nat.le_of_lt Hdm2.out)) (by rw [val_trimL]; exact Nat.le_of_lt Hdm2.out) (by have := Hm.out; omega)).mono ?_
    rintro e w6 ⟨A8, c8, r2', rfl, ho8, hc8, hm8, ⟨hv8, hn8, hl8⟩, hext8⟩
    have ext8 := ext7.trans hext8
    have Hv8 := Lib.hid hv8
    clear hv8
    replace extN := extN.trans ext8
    replace bx := bx.ext ext8
    replace by_ := by_.ext ext8
    replace bz := bz.ext ext8
    replace bu := bu.ext ext8
    have ho7' := ho7.rd.ext hext8
    clear x0 y0
    have y0 := by_.cell 0 (.bool t) rfl
    go_wp2_with fail
    go_region_held3 (fun w' => w'.cell? ⟨w.heap.size + 1, 0, none⟩ = some (.bool t)) (first | (first | (exact Ext.cellv (by assumption) (by assumption)) | (refine (cell_far2 (by omega)).trans ?_; assumption)) | go_keep)
      (first | (go_at_call_of 24 A7; refine (int_signed rfl (ho7'.ext (by first | exact Ext.refl _ | exact (Ext.refl _).drew)) hc7 hm7 hn7).mono ?_; rintro e w3 ⟨b3, A3, c3, ps, rfl, hr3, hc3, hm3, hi3, hl3, hext3⟩; have ext3 := (Ext.refl w6).drew.trans hext3) | (go_at_call_of 24 A8; refine (int_signed rfl (ho8.rd.ext ext3) hc8 hm8 hn8).mono ?_; rintro e w4 ⟨b4, A4, c4, us, rfl, hr4, hc4, hm4, hi4, hl4, hext4⟩; have ext4 := ext3.trans hext4; have bz4 := bz.ext ext4; have bu4 := bu.ext ext4; have z0 := bz4.cell 0 (.bool false) rfl; have z1 := bz4.cell 1 (.slice none 0 0) rfl; have f0 := bz4.frozen 0; have f1 := bz4.frozen 1; have u0 := bu4.cell 0 (.bool false) rfl; have u1 := bu4.cell 1 (.slice none 0 0) rfl; have g0 := bu4.frozen 0; have g1 := bu4.frozen 1))
    go_wp2_with fail
    obtain ⟨W', hW', r1, r2, r3, r4, r5, r6, r7⟩ := fin_two (b := b3) (A := A3) (n := ps.length) (c := c3) (b' := b4) (A' := A4) (n' := us.length) (c' := c4) (extN.trans ext4) (show w.heap.size ≤ w.heap.size + 1 + 1 by omega) (show w.heap.size ≤ w.heap.size + 1 + 1 + 1 by omega) (by omega) bz4 bu4 (hr3.ext hext4) hr4 _ _ _ _ rfl rfl rfl rfl
    rw [← hW']
    refine bodyPost_ret (v := .tuple #[.agg #[.bool b3, .slice A3 ps.length c3], .agg #[.bool b4, .slice A4 us.length c4], .int .i64 0]) (by simp [results, Tryd.results13, go_sem, r4, r5, r6, r7]) rfl ⟨b3, A3, c3, ps, b4, A4, c4, us, _, _, rfl, r1, r2, hc3, hm3, hc4, hm4, hi3, hi4, ?_, by (simp at hl7; omega), by omega, r3⟩
    have h7 := Hv7.out
    have h8 := Hv8.out
    rw [val_one] at h7
    rw [val_trimL] at h8
    have hrp : 0 < val rs := by
      have := hn6.zero
      rcases Nat.eq_zero_or_pos (val rs) with h | h
      · rw [this.1 h] at hrl; simp at hrl
      · exact h
    have e := dm_far (s := s) (t := t) (x := val xs) (y := val ys) (q := val qs) (r := val rs) hrp Hdm1.out Hdm2.out hst
    rw [← h7, ← h8] at e
    exact e

end
end Go.Proofs.YtmjmcinnbmjpdaaDoor
namespace Go.Proofs.YtmjmcinnbmjpdaaDoor
open Go.RowKit
attribute [local go_sem ↓] Go.wp_at_zero Go.wp_at_succ
/-- four factors: none of use, or those of SRes. -/
def Steps4 (A0 B0 : Nat) (x1 y1 x2 y2 : Int) : Prop :=
  y1 = 0 ∨ (y1 ≠ 0 ∧ ∃ e p a u0 u1 v0 v1, SRes A0 B0 e p a u0 u1 v0 v1 ∧ 1 ≤ v0 ∧ x1 = (if e then (u0 : Int) else -(u0 : Int)) ∧ y1 = (if e then -(v0 : Int) else (v0 : Int)) ∧ x2 = (if e then -(u1 : Int) else (u1 : Int)) ∧ y2 = (if e then (v1 : Int) else -(v1 : Int)))
section
variable {w : World}
theorem put4 {w : World} {g : Nat} {t : TypeId} {a b c d : Value} (hb : Box w g t #[a, b, c, d]) (p q r s : Value) : Box ((((w.setCell ⟨g, 0, none⟩ p).setCell ⟨g, 1, none⟩ q).setCell ⟨g, 2, none⟩ r).setCell ⟨g, 3, none⟩ s) g t #[p, q, r, s] ∧
    ∀ W0, Ext W0 w → W0.heap.size ≤ g → Ext W0 ((((w.setCell ⟨g, 0, none⟩ p).setCell ⟨g, 1, none⟩ q).setCell ⟨g, 2, none⟩ r).setCell ⟨g, 3, none⟩ s) := by
  refine ⟨?_, fun _ e hg => (((e.setCell hg _).setCell hg _).setCell hg _).setCell hg _⟩
  have h1 := (((hb.set 0 p).set 1 q).set 2 r).set 3 s
  exact h1
theorem steps_t {A0 B0 a u0 u1 v0 v1 : Nat} (h : v0 = 0 ∨ ∃ p, SRes A0 B0 true p a u0 u1 v0 v1) : Steps4 A0 B0 (u0 : Int) (-(v0 : Int)) (-(u1 : Int)) (v1 : Int) := by
  by_cases h0 : v0 = 0
  · left; omega
  · rcases h with h | ⟨p, h⟩
    · exact absurd h h0
    · exact .inr ⟨by omega, true, p, a, u0, u1, v0, v1, h, by omega, rfl, rfl, rfl, rfl⟩
theorem steps_f {A0 B0 a u0 u1 v0 v1 : Nat} (h : v0 = 0 ∨ ∃ p, SRes A0 B0 false p a u0 u1 v0 v1) : Steps4 A0 B0 (-(u0 : Int)) (v0 : Int) (u1 : Int) (-(v1 : Int)) := by
  by_cases h0 : v0 = 0
  · left; omega
  · rcases h with h | ⟨p, h⟩
    · exact absurd h h0
    · exact .inr ⟨by omega, false, p, a, u0, u1, v0, v1, h, by omega, rfl, rfl, rfl, rfl⟩
set_option maxRecDepth 100000 in
set_option maxHeartbeats 4000000 in
theorem int_simulate {A0 B0 : Nat} (hle : B0 ≤ A0) (hA : A0 < 4611686018427387904) :
    Calls Tryd.prog 72 #[.int .u64 (A0 : Int), .int .u64 (B0 : Int)] w fun e w' => ∃ x1 y1 x2 y2 : Int, e = .returned (.agg #[.int .i64 x1, .int .i64 y1, .int .i64 x2, .int .i64 y2]) ∧ Steps4 A0 B0 x1 y1 x2 y2 ∧ Ext w w' := by
  go_enter Tryd.func72, Tryd.ntmps72
  go_upto_region 1 with (fail)
  obtain ⟨W, hW, extW, bz, hz⟩ := box1 w 91 #[.int .i64 0, .int .i64 0, .int .i64 0, .int .i64 0]
  rw [← hW]
  clear hW
  go_wp2
  go_loopw [0, 1, 5, 6, 7, 8, 9, 10, 11] (fun sa sb s0 s1 s2 t0 t1 t2 se wr => ∃ (e : Bool) (a b u0 u1 u2 v0 v1 v2 : Nat), sa = .int .u64 (a : Int) ∧ sb = .int .u64 (b : Int) ∧ s0 = .int .u64 (u0 : Int) ∧ s1 = .int .u64 (u1 : Int) ∧ s2 = .int .u64 (u2 : Int) ∧ t0 = .int .u64 (v0 : Int) ∧ t1 = .int .u64 (v1 : Int) ∧ t2 = .int .u64 (v2 : Int) ∧ se = .bool e ∧ SInv A0 B0 e a b u1 u2 v1 v2 ∧ (v0 = 0 ∨ ∃ p, SRes A0 B0 e p a u0 u1 v0 v1) ∧ a ≤ A0 ∧ u0 ≤ A0 + 1 ∧ v0 ≤ A0 + 1 ∧ u1 ≤ A0 + 1 ∧ v1 ≤ A0 + 1 ∧ u2 ≤ A0 + 1 ∧ v2 ≤ A0 + 1 ∧ Ext W wr) (fun _ sb _ _ _ _ _ _ _ _ => (intOf sb).toNat)
  case atStart => exact ⟨false, A0, B0, 0, 1, 0, 0, 0, 1, rfl, rfl, rfl, rfl, rfl, rfl, rfl, rfl, rfl, SInv.start hle, .inl rfl, Nat.le_refl _, by omega, by omega, by omega, by omega, by omega, by omega, Ext.refl _⟩
  case round =>
    obtain ⟨e, a, b, u0, u1, u2, v0, v1, v2, rfl, rfl, rfl, rfl, rfl, rfl, rfl, rfl, rfl, hinv, hres, ha, b0, c0, b1, c1, b2, c2, hext⟩ := hrel
    have hba := hinv.le
    have HI := Lib.hid hinv
    have HR := Lib.hid hres
    clear hinv hres
    by_cases k1 : v2 ≤ b
    · by_cases k2 : b + v1 + v2 ≤ a
      · obtain ⟨hs1, hs2, hs3⟩ := HI.out.step k1 k2
        have hb0 : 0 < b := by have := HI.out.pos; omega
        have hl2 := hs1.l2
        have hqu : a / b * u2 ≤ a / b * v2 := Nat.mul_le_mul_left _ HI.out.l2
        have hr := Nat.mod_lt a hb0
        have hqa := Nat.div_le_self a b
        have hdq : (a : Int) / (b : Int) = ((a / b : Nat) : Int) := by omega
        have hdr : (a : Int) % (b : Int) = ((a % b : Nat) : Int) := by omega
        generalize a / b = q at *
        generalize a % b = r at *
        have g1 : (q : Int) * (u2 : Int) ≤ 4611686018427387904 := by have : ((q * u2 : Nat) : Int) ≤ 4611686018427387904 := by omega
                                                                     rwa [Int.natCast_mul] at this
        have g2 : (q : Int) * (v2 : Int) ≤ 4611686018427387904 := by have : ((q * v2 : Nat) : Int) ≤ 4611686018427387904 := by omega
                                                                     rwa [Int.natCast_mul] at this
        have g3 : 0 ≤ (q : Int) * (u2 : Int) := Int.mul_nonneg (Int.natCast_nonneg _) (Int.natCast_nonneg _)
        have g4 : 0 ≤ (q : Int) * (v2 : Int) := Int.mul_nonneg (Int.natCast_nonneg _) (Int.natCast_nonneg _)
        have t1 : decide ((v2 : Int) ≤ (b : Int)) = true := decide_eq_true (by omega)
        have t2 : decide ((v1 : Int) + (v2 : Int) ≤ (a : Int) - (b : Int)) = true := decide_eq_true (by omega)
        have HQ := Lib.hid hdq
        have HM := Lib.hid hdr
        have H1 := Lib.hid hs1
        have H2 := Lib.hid hs2
        clear hdq hdr hs1 hs2 hqu
        go_upto_region 6 with (fail)
        rw [HQ.out]
        go_quiet (fail)
        rw [HM.out]
        go_wp2_with fail
        go_roundw
        case rel => exact ⟨!e, b, r, u1, u2, u1 + q * u2, v1, v2, v1 + q * v2, rfl, rfl, rfl, rfl, congrArg (Value.int .u64) (by rw [Int.natCast_add, Int.natCast_mul]), rfl, rfl, congrArg (Value.int .u64) (by rw [Int.natCast_add, Int.natCast_mul]), rfl, H1.out, .inr ⟨a, H2.out⟩, by omega, by omega, by omega, by omega, by omega, by omega, by omega, hext.drewN _⟩
        case measure => simp [intOf]; omega
      · have t1 : decide ((v2 : Int) ≤ (b : Int)) = true := decide_eq_true (by omega)
        have t2 : decide ((v1 : Int) + (v2 : Int) ≤ (a : Int) - (b : Int)) = false := decide_eq_false (by omega)
        go_upto_region 10 with (fail)
        have bzr := bz.ext hext
        have hsz := hext.size
        cases e with
        | true =>
          go_upto_region 13 with (fail)
          refine at_world (fun X => Ext W X ∧ Box X wr.heap.size 91 #[.int .i64 (u0 : Int), .int .i64 (-(v0 : Int)), .int .i64 (-(u1 : Int)), .int .i64 (v1 : Int)] ∧ Box X w.heap.size 91 #[.int .i64 0, .int .i64 0, .int .i64 0, .int .i64 0]) ⟨hext.alloc _, Box.new wr _ _, bzr.ext ((Ext.refl wr).alloc _)⟩ ?_
          generalize wr.heap.size = g13
          rintro X ⟨EX, bs, bzx⟩
          have y0 := bs.cell 0 _ rfl
          have y1 := bs.cell 1 _ rfl
          have y2 := bs.cell 2 _ rfl
          have y3 := bs.cell 3 _ rfl
          have z0 := bzx.cell 0 _ rfl
          have z1 := bzx.cell 1 _ rfl
          have z2 := bzx.cell 2 _ rfl
          have z3 := bzx.cell 3 _ rfl
          have f0 := bzx.frozen 0
          have f1 := bzx.frozen 1
          have f2 := bzx.frozen 2
          have f3 := bzx.frozen 3
          go_wp2_with fail
          have hp := put4 bzx (.int .i64 (u0 : Int)) (.int .i64 (-(v0 : Int))) (.int .i64 (-(u1 : Int))) (.int .i64 (v1 : Int))
          have r0 := hp.1.cell 0 _ rfl
          have r1 := hp.1.cell 1 _ rfl
          have r2 := hp.1.cell 2 _ rfl
          have r3 := hp.1.cell 3 _ rfl
          exact bodyPost_ret (v := .agg #[.int .i64 (u0 : Int), .int .i64 (-(v0 : Int)), .int .i64 (-(u1 : Int)), .int .i64 (v1 : Int)]) (by simp [results, Tryd.results72, go_sem, r0, r1, r2, r3]) rfl ⟨_, _, _, _, rfl, steps_t HR.out, hp.2 _ (extW.trans EX) (Nat.le_refl _)⟩
        | false =>
          go_upto_region 13 with (fail)
          refine at_world (fun X => Ext W X ∧ Box X wr.heap.size 91 #[.int .i64 (-(u0 : Int)), .int .i64 (v0 : Int), .int .i64 (u1 : Int), .int .i64 (-(v1 : Int))] ∧ Box X w.heap.size 91 #[.int .i64 0, .int .i64 0, .int .i64 0, .int .i64 0]) ⟨hext.alloc _, Box.new wr _ _, bzr.ext ((Ext.refl wr).alloc _)⟩ ?_
          generalize wr.heap.size = g13
          rintro X ⟨EX, bs, bzx⟩
          have y0 := bs.cell 0 _ rfl
          have y1 := bs.cell 1 _ rfl
          have y2 := bs.cell 2 _ rfl
          have y3 := bs.cell 3 _ rfl
          have z0 := bzx.cell 0 _ rfl
          have z1 := bzx.cell 1 _ rfl
          have z2 := bzx.cell 2 _ rfl
          have z3 := bzx.cell 3 _ rfl
          have f0 := bzx.frozen 0
          have f1 := bzx.frozen 1
          have f2 := bzx.frozen 2
          have f3 := bzx.frozen 3
          go_wp2_with fail
          have hp := put4 bzx (.int .i64 (-(u0 : Int))) (.int .i64 (v0 : Int)) (.int .i64 (u1 : Int)) (.int .i64 (-(v1 : Int)))
          have r0 := hp.1.cell 0 _ rfl
          have r1 := hp.1.cell 1 _ rfl
          have r2 := hp.1.cell 2 _ rfl
          have r3 := hp.1.cell 3 _ rfl
          exact bodyPost_ret (v := .agg #[.int .i64 (-(u0 : Int)), .int .i64 (v0 : Int), .int .i64 (u1 : Int), .int .i64 (-(v1 : Int))]) (by simp [results, Tryd.results72, go_sem, r0, r1, r2, r3]) rfl ⟨_, _, _, _, rfl, steps_f HR.out, hp.2 _ (extW.trans EX) (Nat.le_refl _)⟩
    · have t1 : decide ((v2 : Int) ≤ (b : Int)) = false := decide_eq_false (by omega)
      go_upto_region 10 with (fail)
      have bzr := bz.ext hext
      have hsz := hext.size
      cases e with
      | true =>
        go_upto_region 13 with (fail)
        refine at_world (fun X => Ext W X ∧ Box X wr.heap.size 91 #[.int .i64 (u0 : Int), .int .i64 (-(v0 : Int)), .int .i64 (-(u1 : Int)), .int .i64 (v1 : Int)] ∧ Box X w.heap.size 91 #[.int .i64 0, .int .i64 0, .int .i64 0, .int .i64 0]) ⟨hext.alloc _, Box.new wr _ _, bzr.ext ((Ext.refl wr).alloc _)⟩ ?_
        generalize wr.heap.size = g13
        rintro X ⟨EX, bs, bzx⟩
        have y0 := bs.cell 0 _ rfl
        have y1 := bs.cell 1 _ rfl
        have y2 := bs.cell 2 _ rfl
        have y3 := bs.cell 3 _ rfl
        have z0 := bzx.cell 0 _ rfl
        have z1 := bzx.cell 1 _ rfl
        have z2 := bzx.cell 2 _ rfl
        have z3 := bzx.cell 3 _ rfl
        have f0 := bzx.frozen 0
        have f1 := bzx.frozen 1
        have f2 := bzx.frozen 2
        have f3 := bzx.frozen 3
        go_wp2_with fail
        have hp := put4 bzx (.int .i64 (u0 : Int)) (.int .i64 (-(v0 : Int))) (.int .i64 (-(u1 : Int))) (.int .i64 (v1 : Int))
        have r0 := hp.1.cell 0 _ rfl
        have r1 := hp.1.cell 1 _ rfl
        have r2 := hp.1.cell 2 _ rfl
        have r3 := hp.1.cell 3 _ rfl
        exact bodyPost_ret (v := .agg #[.int .i64 (u0 : Int), .int .i64 (-(v0 : Int)), .int .i64 (-(u1 : Int)), .int .i64 (v1 : Int)]) (by simp [results, Tryd.results72, go_sem, r0, r1, r2, r3]) rfl ⟨_, _, _, _, rfl, steps_t HR.out, hp.2 _ (extW.trans EX) (Nat.le_refl _)⟩
      | false =>
        go_upto_region 13 with (fail)
        refine at_world (fun X => Ext W X ∧ Box X wr.heap.size 91 #[.int .i64 (-(u0 : Int)), .int .i64 (v0 : Int), .int .i64 (u1 : Int), .int .i64 (-(v1 : Int))] ∧ Box X w.heap.size 91 #[.int .i64 0, .int .i64 0, .int .i64 0, .int .i64 0]) ⟨hext.alloc _, Box.new wr _ _, bzr.ext ((Ext.refl wr).alloc _)⟩ ?_
        generalize wr.heap.size = g13
        rintro X ⟨EX, bs, bzx⟩
        have y0 := bs.cell 0 _ rfl
        have y1 := bs.cell 1 _ rfl
        have y2 := bs.cell 2 _ rfl
        have y3 := bs.cell 3 _ rfl
        have z0 := bzx.cell 0 _ rfl
        have z1 := bzx.cell 1 _ rfl
        have z2 := bzx.cell 2 _ rfl
        have z3 := bzx.cell 3 _ rfl
        have f0 := bzx.frozen 0
        have f1 := bzx.frozen 1
        have f2 := bzx.frozen 2
        have f3 := bzx.frozen 3
        go_wp2_with fail
        have hp := put4 bzx (.int .i64 (-(u0 : Int))) (.int .i64 (v0 : Int)) (.int .i64 (u1 : Int)) (.int .i64 (-(v1 : Int)))
        have r0 := hp.1.cell 0 _ rfl
        have r1 := hp.1.cell 1 _ rfl
        have r2 := hp.1.cell 2 _ rfl
        have r3 := hp.1.cell 3 _ rfl
        exact bodyPost_ret (v := .agg #[.int .i64 (-(u0 : Int)), .int .i64 (v0 : Int), .int .i64 (u1 : Int), .int .i64 (-(v1 : Int))]) (by simp [results, Tryd.results72, go_sem, r0, r1, r2, r3]) rfl ⟨_, _, _, _, rfl, steps_f HR.out, hp.2 _ (extW.trans EX) (Nat.le_refl _)⟩
end
end Go.Proofs.YtmjmcinnbmjpdaaDoor
