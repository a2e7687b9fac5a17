/- Walks and laws, a part. -/
import Derived.Test.YtiioodgpkdbndaaGreatDoorM0
import Derived.Test.YtiioodgpkdbndaaGreatDoorM1
import Derived.Test.YtiioodgpkdbndaaGreatDoorM2
import Derived.Test.YtiioodgpkdbndaaGreatDoorM3
import Derived.Test.YtiioodgpkdbndaaGreatDoorM4
import Derived.Test.YtiioodgpkdbndaaGreatDoorM5
import Derived.Test.YtiioodgpkdbndaaGreatDoorM6
import Derived.Test.YtiioodgpkdbndaaGreatDoorM7
import Derived.Test.YtiioodgpkdbndaaGreatDoorM8
import Derived.Test.YtiioodgpkdbndaaGreatDoorM9
import Derived.Test.YtiioodgpkdbndaaGreatDoorMi0
import Derived.Test.YtiioodgpkdbndaaGreatDoorMi1
namespace Go.Proofs.YtiioodgpkdbndaaGreatDoor
open Go.RowKit
attribute [local go_sem ↓] Go.wp_at_zero Go.wp_at_succ
section
variable {w : World} {L : Nat}
set_option maxHeartbeats 16000000 in
set_option maxRecDepth 100000 in
theorem qp_quo_pos (u : ByteArray) (n : Nat) (a r : List UInt8) (hs : u.size ≤ 200) (hp : ∀ t, u.data.toList ≠ 45 :: t) (hl : u.data.toList = a ++ r) (hn : a.length = n) (ha : Digs a) (hr : r = [] ∨ ∃ c b, r = c :: b ∧ ¬ Dig c) (hu0 : u.data.toList ≠ []) (hc : Canon a) (b : List UInt8) (h0 : r = 47 :: b) (hb : Digs b) (hbn : b ≠ []) (hbc : Canon b) (hb48 : ∀ t, b ≠ 48 :: t) (hq1 : (dv b : Int) ≠ 1) (hq2 : Nat.gcd (dv a) (dv b) = 1) :
    Calls Tryz.prog 50 #[.string u] w (RetNRE (mkQ ((dv a : Int)) (dv b : Int)) 1000 w) := by
  have HQ1 := Lib.hid hq1
  clear hq1
  have HQ2 := Lib.hid hq2
  clear hq2
  have hz : u.size ≤ 200 := hs
  have hne : u.toList.isEmpty = false := by
    rw [Lib.toList_data]
    cases h : u.data.toList with
    | nil => exact absurd h hu0
    | cons c t => rfl
  have g0 : 0 < u.size := by rw [Lib.size_eq]; exact List.length_pos_iff.2 hu0
  have t9 : ((u[0].toNat : Int) == 45) = false := by
    rw [beq_eq_false_iff_ne]
    intro h
    cases h2 : u.data.toList with
    | nil => exact hu0 h2
    | cons c t =>
      obtain ⟨_, g1, _⟩ := get0 h2
      rw [g1] at h
      exact hp t (by rw [h2]; congr 1; exact UInt8.toNat_inj.1 (by have : (45 : UInt8).toNat = 45 := rfl; omega))
  clear hp
  have hsz := Lib.size_eq u
  rw [hl, List.length_append, hn] at hsz
  have hsz1 : u.size ≤ n + r.length := by omega
  have hsz2 : n + r.length ≤ u.size := by omega
  clear hsz
  have HG := Lib.hid (fun w => q_digits u w a r (by omega) hl ha hr)
  have HL := Lib.hid hl
  have HN := Lib.hid hn
  have HA := Lib.hid ha
  clear hl ha hr hn
  go_enter Tryz.func50, Tryz.ntmps50
  go_upto_region 1 with (fail)
  obtain ⟨W, hW, extW, bz, hzz⟩ := box1 w 27 #[Value.bool false, Value.slice none 0 0, Value.bool false, Value.slice none 0 0]
  rw [← hW]
  clear hW
  have t1 : decide ((65536 : Int) < (u.size : Int)) = false := decide_eq_false (by omega)
  go_wp2_with fail
  refine (HG.out _).mono ?_
  rintro e w0 ⟨rfl, hw0⟩
  subst hw0
  rw [HN.out]
  have HCA := Lib.hid hc
  have hn1 : 1 ≤ n := by
    rw [← HN.out]
    rcases hc with h | ⟨c, t, h, _⟩ <;> rw [h] <;> simp
  have hn0 : ((n : Int) == 0) = false := by rw [beq_eq_false_iff_ne]; omega
  have H48 := Lib.hid (fun (h1 : 1 < n) => show ((u[0]'(by omega)).toNat : Int) ≠ 48 from by
    rcases HCA.out with h | ⟨c, t, h, h2⟩
    · have := HN.out
      rw [h] at this
      simp at this
      omega
    · have hlc : u.data.toList = c :: (t ++ r) := by rw [HL.out, h]; rfl
      obtain ⟨_, g1, _⟩ := get0 hlc
      rw [g1]
      intro h3
      exact h2 (u8_48 (by omega)))
  clear hc
  go_upto_region 7 with (fail)
  go_cut [38] (fun p V => p = .bool false ∧ W = V)
  case first =>
    by_cases h1 : 1 < n
    · have h2 := H48.out h1
      have t2 : decide ((1 : Int) < (n : Int)) = true := decide_eq_true (by omega)
      have t3 : ((u[0].toNat : Int) == 48) = false := beq_eq_false_iff_ne.2 h2
      have g3 : 0 < u.size := by omega
      clear h2
      go_wp2_with fail
      go_meet
      exact ⟨rfl, rfl⟩
    · have t2 : decide ((1 : Int) < (n : Int)) = false := decide_eq_false (by omega)
      go_wp2_with fail
      go_meet
      exact ⟨rfl, rfl⟩
  case rest =>
  obtain ⟨rfl, rfl⟩ := hcut
  have c1 : (0 : Int) ≤ (n : Int) := by omega
  have c2 : (n : Int) ≤ (u.size : Int) := by omega
  have c3 : n ≤ u.size := by omega
  have hbf1 : (u.extract 0 n).data.toList = a := by rw [extract_to _ _ c3, HL.out, ← HN.out, List.take_left]
  have hrf1 : (u.extract n u.size).data.toList = r := by rw [extract_from, HL.out, ← HN.out, List.drop_left]
  obtain ⟨bf, hbf⟩ : ∃ bf, u.extract 0 n = bf := ⟨_, rfl⟩
  obtain ⟨rf, hrf⟩ : ∃ rf, u.extract n u.size = rf := ⟨_, rfl⟩
  rw [hbf] at hbf1
  rw [hrf] at hrf1
  have hbz : bf.size ≤ n := by rw [Lib.size_eq, hbf1, HN.out]; exact Nat.le_refl _
  have hrz := Lib.size_eq rf
  rw [hrf1] at hrz
  have hrz1 : rf.size ≤ r.length := by omega
  have hrz2 : r.length ≤ rf.size := by omega
  clear hrz
  have HBF := Lib.hid hbf
  have HRF := Lib.hid hrf
  have HB := Lib.hid hbf1
  have HR := Lib.hid hrf1
  clear hbf hrf hbf1 hrf1
  go_wp2_with fail
  rw [HBF.out]
  refine (q_ParseI bf (by omega) (by rw [HB.out]; exact HA.out) (by rw [HB.out]; exact HCA.out) (L := n) (by omega)).mono ?_
  rintro e wa ⟨s6, A6, n6, c6, rfl, h6, hxa⟩
  rw [HB.out] at h6
  go_upto_region 10 with (fail)
  refine at_world (fun V => Ext W V ∧ Box V wa.heap.size 24 #[.bool s6, .slice A6 n6 c6] ∧ NI V (dv a : Int) n s6 A6 n6 c6) ⟨hxa.alloc _, Box.new wa _ _, h6.ext ((Ext.refl wa).alloc _)⟩ ?_
  have hg6 : w.heap.size + 1 ≤ wa.heap.size := by have := hxa.size; omega
  generalize wa.heap.size = g6 at *
  clear hxa h6
  rintro V ⟨EV, b6, h6⟩
  replace bz := bz.ext EV
  replace extW := extW.trans EV
  clear EV
  go_wp2_with fail
  refine (q_FromInt 1 (by omega) (by omega)).mono ?_
  rintro e wb ⟨s8, A8, n8, c8, rfl, h8, hxb⟩
  go_upto_region 11 with (fail)
  refine at_world (fun U => Ext V U ∧ Box U wb.heap.size 24 #[.bool s8, .slice A8 n8 c8] ∧ NI U 1 2 s8 A8 n8 c8) ⟨hxb.alloc _, Box.new wb _ _, h8.ext ((Ext.refl wb).alloc _)⟩ ?_
  have hsz6 := hxb.size
  generalize wb.heap.size = g8 at *
  clear hxb h8
  rintro U ⟨EU, b8, h8⟩
  have hlt6 := b6.lt
  have hne68 : g6 ≠ g8 := by omega
  replace bz := bz.ext EU
  replace b6 := b6.ext EU
  replace h6 := h6.ext EU
  replace extW := extW.trans EU
  clear EU
  go_upto_region 13 with (fail)
  rw [HRF.out]
  have hrl : rf.data.toList = 47 :: b := by rw [HR.out, h0]
  have hre : rf.toList.isEmpty = false := by rw [Lib.toList_data, hrl]; rfl
  obtain ⟨g9, g91, g92⟩ := get0 hrl
  have t46 : ((rf[0].toNat : Int) == 46) = false := by rw [g91]; rfl
  have t47 : ((rf[0].toNat : Int) == 47) = true := by rw [g91]; rfl
  have hb1 : 1 ≤ b.length := List.length_pos_iff.2 hbn
  have hbr : ([] : List UInt8) = [] ∨ ∃ c t, [] = c :: t ∧ ¬ Dig c := .inl rfl
  obtain ⟨m, hm⟩ : ∃ m, List.length b = m := ⟨_, rfl⟩
  have hsf1 : (rf.extract 1 rf.size).data.toList = b := by rw [extract_from, hrl]; rfl
  obtain ⟨sf, hsf⟩ : ∃ sf, rf.extract 1 rf.size = sf := ⟨_, rfl⟩
  rw [hsf] at hsf1
  have hsz := Lib.size_eq sf
  rw [hsf1] at hsz
  have HG2 := Lib.hid (fun w => q_digits sf w b [] (by omega) (by rw [hsf1]; exact (List.append_nil b).symm) hb hbr)
  have HM := Lib.hid hm
  have HSF := Lib.hid hsf
  have HS1 := Lib.hid hsf1
  have hsz1' : sf.size ≤ b.length := by omega
  have hrs1 : rf.size ≤ b.length + 1 := by omega
  have hrs2 : b.length + 1 ≤ rf.size := by omega
  have t7 : decide ((1 : Int) < (rf.size : Int)) = true := decide_eq_true (by omega)
  have t8 : ((m : Int) == (rf.size : Int) - 1) = true := by rw [beq_iff_eq]; omega
  have gr1 : 1 < rf.size := by omega
  have t48 : ((rf[1].toNat : Int) != 48) = true := by
    rw [bne_iff_ne]
    intro h
    have e : rf[1] = rf.data.toList[1]'(by rw [← Lib.size_eq]; exact gr1) := rfl
    cases hbb : b with
    | nil => exact hbn hbb
    | cons c t =>
      have e2 : rf[1] = c := by rw [e]; simp only [hrl, hbb, List.getElem_cons_succ, List.getElem_cons_zero]
      rw [e2] at h
      exact hb48 t (hbb.trans (by rw [show c = 48 from u8_48 (by omega)]))
  have hsfz : sf.size ≤ 200 := by omega
  have HBD := Lib.hid hb
  have HBC := Lib.hid hbc
  have HB48 := Lib.hid hb48
  clear g91 g92 hb1 hm hsf hsf1 hsz hrl hb hbn hbr hbc hb48
  go_wp2_with fail
  rw [HSF.out]
  refine (HG2.out _).mono ?_
  rintro e w14 ⟨rfl, hw14⟩
  subst hw14
  rw [HM.out]
  go_wp2_with fail
  rw [HSF.out]
  refine (q_ParseI sf (by omega) (by rw [HS1.out]; exact HBD.out) (by rw [HS1.out]; exact HBC.out) (L := 200) (by omega)).mono ?_
  rintro e wp ⟨s16, A16, n16, c16, rfl, h16, hxp⟩
  rw [HS1.out] at h16
  replace bz := bz.ext hxp
  replace b6 := b6.ext hxp
  replace b8 := b8.ext hxp
  replace h6 := h6.ext hxp
  replace extW := extW.trans hxp
  clear hxp h8
  have z0 := b8.cell 0 _ rfl
  have z1 := b8.cell 1 _ rfl
  have f0 := b8.frozen 0
  have f1 := b8.frozen 1
  go_upto_region 23 with (fail)
  refine at_world (fun X => Ext w X ∧ Box X w.heap.size 27 #[Value.bool false, Value.slice none 0 0, Value.bool false, Value.slice none 0 0] ∧ Box X g6 24 #[.bool s6, .slice A6 n6 c6] ∧ Box X g8 24 #[.bool s16, .slice A16 n16 c16] ∧ NI X (dv a : Int) n s6 A6 n6 c6 ∧ NI X (dv b : Int) 200 s16 A16 n16 c16) ?_ ?_
  · have q1 := fin_dual (s := s16) (A := A16) (n := n16) (c := c16) b8
    exact ⟨q1.2.2.1 _ extW (by omega), q1.2.2.2 _ _ _ (by omega) bz, q1.2.2.2 _ _ _ hne68 b6, q1.1, q1.2.1 _ _ _ _ _ _ h6, q1.2.1 _ _ _ _ _ _ h16⟩
  clear extW bz b6 b8 h6 h16 z0 z1 f0 f1
  rintro X ⟨extW, bz, b6, b8, h6, h8⟩
  have b60 := b6.cell 0 (.bool s6) rfl
  have b61 := b6.cell 1 (.slice A6 n6 c6) rfl
  have b80 := b8.cell 0 (.bool s16) rfl
  have b81 := b8.cell 1 (.slice A16 n16 c16) rfl
  go_wp2_with fail
  refine (q_one h8).mono ?_
  rintro e X2 ⟨rfl, hxo⟩
  rw [decide_eq_false HQ1.out]
  replace bz := bz.ext hxo
  replace b6 := b6.ext hxo
  replace b8 := b8.ext hxo
  replace h6 := h6.ext hxo
  replace h8 := h8.ext hxo
  replace extW := extW.trans hxo
  clear hxo b60 b61 b80 b81
  have b60 := b6.cell 0 (.bool s6) rfl
  have b61 := b6.cell 1 (.slice A6 n6 c6) rfl
  have b80 := b8.cell 0 (.bool s16) rfl
  have b81 := b8.cell 1 (.slice A16 n16 c16) rfl
  go_wp2_with fail
  refine (q_GCD h6 h8 (by omega) (by omega)).mono ?_
  rintro e X3 ⟨s15, A15, n15, c15, rfl, hg, hxo⟩
  rw [Int.natAbs_natCast, Int.natAbs_natCast] at hg
  replace bz := bz.ext hxo
  replace b6 := b6.ext hxo
  replace b8 := b8.ext hxo
  replace h6 := h6.ext hxo
  replace h8 := h8.ext hxo
  replace extW := extW.trans hxo
  clear hxo b60 b61 b80 b81
  go_wp2_with fail
  refine (q_one hg).mono ?_
  rintro e X4 ⟨rfl, hxo⟩
  rw [decide_eq_true (show (((Nat.gcd (dv a) (dv b) : Nat) : Int) = 1) by have := HQ2.out; omega)]
  replace bz := bz.ext hxo
  replace b6 := b6.ext hxo
  replace b8 := b8.ext hxo
  replace h6 := h6.ext hxo
  replace h8 := h8.ext hxo
  replace extW := extW.trans hxo
  clear hxo hg
  have HY := Lib.hid (show (dv b : Int) ≠ 0 by
    intro h0
    have h1 := HQ2.out
    rw [show dv b = 0 by omega, Nat.gcd_zero_right] at h1
    have h2 := dv_zero_canon HBD.out HBC.out (by omega)
    have h3 := HS1.out
    exact HB48.out _ h2)
  replace h6 := h6.le (L' := 200) (by omega)
  have b60 := b6.cell 0 (.bool s6) rfl
  have b61 := b6.cell 1 (.slice A6 n6 c6) rfl
  have b80 := b8.cell 0 (.bool s16) rfl
  have b81 := b8.cell 1 (.slice A16 n16 c16) rfl
  go_wp2_with fail
  refine (q_Make_nz h6 h8 (by omega) (by omega) HY.out).mono ?_
  rintro e wm ⟨s7, A7, n7, c7, t7, B7, m7, d7, rfl, hr, hE⟩
  replace hr := hr.le (L' := 1000) (by omega)
  skip
  clear b60 b61 b80 b81
  have z0 := (bz.ext hE).cell 0 _ rfl
  have z1 := (bz.ext hE).cell 1 _ rfl
  have z2 := (bz.ext hE).cell 2 _ rfl
  have z3 := (bz.ext hE).cell 3 _ rfl
  have f0 := (bz.ext hE).frozen 0
  have f1 := (bz.ext hE).frozen 1
  have f2 := (bz.ext hE).frozen 2
  have f3 := (bz.ext hE).frozen 3
  go_wp2_with fail
  obtain ⟨b1, b2, b3, b4⟩ := fin_quad (s := s7) (A := A7) (n := n7) (c := c7) (t := t7) (B := B7) (m := m7) (d := d7) (bz.ext hE)
  have r0 := b1.cell 0 (.bool s7) rfl
  have r1 := b1.cell 1 (.slice A7 n7 c7) rfl
  have r2 := b1.cell 2 (.bool t7) rfl
  have r3 := b1.cell 3 (.slice B7 m7 d7) rfl
  unfold set4 at r0 r1 r2 r3
  refine bodyPost_ret (v := .tuple #[.agg #[.bool s7, .slice A7 n7 c7, .bool t7, .slice B7 m7 d7], .int .i64 0]) (by simp [results, Tryz.results50, go_sem, r0, r1, r2, r3]) rfl ⟨s7, A7, n7, c7, t7, B7, m7, d7, rfl, ⟨b2 _ _ _ _ _ _ hr.num, b2 _ _ _ _ _ _ hr.den⟩, b3 _ (extW.trans hE) (by omega)⟩
set_option maxHeartbeats 16000000 in
set_option maxRecDepth 100000 in
theorem qp_quo_pos1 (u : ByteArray) (n : Nat) (a r : List UInt8) (hs : u.size ≤ 200) (hp : ∀ t, u.data.toList ≠ 45 :: t) (hl : u.data.toList = a ++ r) (hn : a.length = n) (ha : Digs a) (hr : r = [] ∨ ∃ c b, r = c :: b ∧ ¬ Dig c) (hu0 : u.data.toList ≠ []) (hc : Canon a) (b : List UInt8) (h0 : r = 47 :: b) (hb : Digs b) (hbn : b ≠ []) (hbc : Canon b) (hb48 : ∀ t, b ≠ 48 :: t) (hq1 : (dv b : Int) = 1) :
    Calls Tryz.prog 50 #[.string u] w (RetZE 2 w) := by
  have HQ1 := Lib.hid hq1
  clear hq1
  have hz : u.size ≤ 200 := hs
  have hne : u.toList.isEmpty = false := by
    rw [Lib.toList_data]
    cases h : u.data.toList with
    | nil => exact absurd h hu0
    | cons c t => rfl
  have g0 : 0 < u.size := by rw [Lib.size_eq]; exact List.length_pos_iff.2 hu0
  have t9 : ((u[0].toNat : Int) == 45) = false := by
    rw [beq_eq_false_iff_ne]
    intro h
    cases h2 : u.data.toList with
    | nil => exact hu0 h2
    | cons c t =>
      obtain ⟨_, g1, _⟩ := get0 h2
      rw [g1] at h
      exact hp t (by rw [h2]; congr 1; exact UInt8.toNat_inj.1 (by have : (45 : UInt8).toNat = 45 := rfl; omega))
  clear hp
  have hsz := Lib.size_eq u
  rw [hl, List.length_append, hn] at hsz
  have hsz1 : u.size ≤ n + r.length := by omega
  have hsz2 : n + r.length ≤ u.size := by omega
  clear hsz
  have HG := Lib.hid (fun w => q_digits u w a r (by omega) hl ha hr)
  have HL := Lib.hid hl
  have HN := Lib.hid hn
  have HA := Lib.hid ha
  clear hl ha hr hn
  go_enter Tryz.func50, Tryz.ntmps50
  go_upto_region 1 with (fail)
  obtain ⟨W, hW, extW, bz, hzz⟩ := box1 w 27 #[Value.bool false, Value.slice none 0 0, Value.bool false, Value.slice none 0 0]
  rw [← hW]
  clear hW
  have t1 : decide ((65536 : Int) < (u.size : Int)) = false := decide_eq_false (by omega)
  go_wp2_with fail
  refine (HG.out _).mono ?_
  rintro e w0 ⟨rfl, hw0⟩
  subst hw0
  rw [HN.out]
  have HCA := Lib.hid hc
  have hn1 : 1 ≤ n := by
    rw [← HN.out]
    rcases hc with h | ⟨c, t, h, _⟩ <;> rw [h] <;> simp
  have hn0 : ((n : Int) == 0) = false := by rw [beq_eq_false_iff_ne]; omega
  have H48 := Lib.hid (fun (h1 : 1 < n) => show ((u[0]'(by omega)).toNat : Int) ≠ 48 from by
    rcases HCA.out with h | ⟨c, t, h, h2⟩
    · have := HN.out
      rw [h] at this
      simp at this
      omega
    · have hlc : u.data.toList = c :: (t ++ r) := by rw [HL.out, h]; rfl
      obtain ⟨_, g1, _⟩ := get0 hlc
      rw [g1]
      intro h3
      exact h2 (u8_48 (by omega)))
  clear hc
  go_upto_region 7 with (fail)
  go_cut [38] (fun p V => p = .bool false ∧ W = V)
  case first =>
    by_cases h1 : 1 < n
    · have h2 := H48.out h1
      have t2 : decide ((1 : Int) < (n : Int)) = true := decide_eq_true (by omega)
      have t3 : ((u[0].toNat : Int) == 48) = false := beq_eq_false_iff_ne.2 h2
      have g3 : 0 < u.size := by omega
      clear h2
      go_wp2_with fail
      go_meet
      exact ⟨rfl, rfl⟩
    · have t2 : decide ((1 : Int) < (n : Int)) = false := decide_eq_false (by omega)
      go_wp2_with fail
      go_meet
      exact ⟨rfl, rfl⟩
  case rest =>
  obtain ⟨rfl, rfl⟩ := hcut
  have c1 : (0 : Int) ≤ (n : Int) := by omega
  have c2 : (n : Int) ≤ (u.size : Int) := by omega
  have c3 : n ≤ u.size := by omega
  have hbf1 : (u.extract 0 n).data.toList = a := by rw [extract_to _ _ c3, HL.out, ← HN.out, List.take_left]
  have hrf1 : (u.extract n u.size).data.toList = r := by rw [extract_from, HL.out, ← HN.out, List.drop_left]
  obtain ⟨bf, hbf⟩ : ∃ bf, u.extract 0 n = bf := ⟨_, rfl⟩
  obtain ⟨rf, hrf⟩ : ∃ rf, u.extract n u.size = rf := ⟨_, rfl⟩
  rw [hbf] at hbf1
  rw [hrf] at hrf1
  have hbz : bf.size ≤ n := by rw [Lib.size_eq, hbf1, HN.out]; exact Nat.le_refl _
  have hrz := Lib.size_eq rf
  rw [hrf1] at hrz
  have hrz1 : rf.size ≤ r.length := by omega
  have hrz2 : r.length ≤ rf.size := by omega
  clear hrz
  have HBF := Lib.hid hbf
  have HRF := Lib.hid hrf
  have HB := Lib.hid hbf1
  have HR := Lib.hid hrf1
  clear hbf hrf hbf1 hrf1
  go_wp2_with fail
  rw [HBF.out]
  refine (q_ParseI bf (by omega) (by rw [HB.out]; exact HA.out) (by rw [HB.out]; exact HCA.out) (L := n) (by omega)).mono ?_
  rintro e wa ⟨s6, A6, n6, c6, rfl, h6, hxa⟩
  rw [HB.out] at h6
  go_upto_region 10 with (fail)
  refine at_world (fun V => Ext W V ∧ Box V wa.heap.size 24 #[.bool s6, .slice A6 n6 c6] ∧ NI V (dv a : Int) n s6 A6 n6 c6) ⟨hxa.alloc _, Box.new wa _ _, h6.ext ((Ext.refl wa).alloc _)⟩ ?_
  have hg6 : w.heap.size + 1 ≤ wa.heap.size := by have := hxa.size; omega
  generalize wa.heap.size = g6 at *
  clear hxa h6
  rintro V ⟨EV, b6, h6⟩
  replace bz := bz.ext EV
  replace extW := extW.trans EV
  clear EV
  go_wp2_with fail
  refine (q_FromInt 1 (by omega) (by omega)).mono ?_
  rintro e wb ⟨s8, A8, n8, c8, rfl, h8, hxb⟩
  go_upto_region 11 with (fail)
  refine at_world (fun U => Ext V U ∧ Box U wb.heap.size 24 #[.bool s8, .slice A8 n8 c8] ∧ NI U 1 2 s8 A8 n8 c8) ⟨hxb.alloc _, Box.new wb _ _, h8.ext ((Ext.refl wb).alloc _)⟩ ?_
  have hsz6 := hxb.size
  generalize wb.heap.size = g8 at *
  clear hxb h8
  rintro U ⟨EU, b8, h8⟩
  have hlt6 := b6.lt
  have hne68 : g6 ≠ g8 := by omega
  replace bz := bz.ext EU
  replace b6 := b6.ext EU
  replace h6 := h6.ext EU
  replace extW := extW.trans EU
  clear EU
  go_upto_region 13 with (fail)
  rw [HRF.out]
  have hrl : rf.data.toList = 47 :: b := by rw [HR.out, h0]
  have hre : rf.toList.isEmpty = false := by rw [Lib.toList_data, hrl]; rfl
  obtain ⟨g9, g91, g92⟩ := get0 hrl
  have t46 : ((rf[0].toNat : Int) == 46) = false := by rw [g91]; rfl
  have t47 : ((rf[0].toNat : Int) == 47) = true := by rw [g91]; rfl
  have hb1 : 1 ≤ b.length := List.length_pos_iff.2 hbn
  have hbr : ([] : List UInt8) = [] ∨ ∃ c t, [] = c :: t ∧ ¬ Dig c := .inl rfl
  obtain ⟨m, hm⟩ : ∃ m, List.length b = m := ⟨_, rfl⟩
  have hsf1 : (rf.extract 1 rf.size).data.toList = b := by rw [extract_from, hrl]; rfl
  obtain ⟨sf, hsf⟩ : ∃ sf, rf.extract 1 rf.size = sf := ⟨_, rfl⟩
  rw [hsf] at hsf1
  have hsz := Lib.size_eq sf
  rw [hsf1] at hsz
  have HG2 := Lib.hid (fun w => q_digits sf w b [] (by omega) (by rw [hsf1]; exact (List.append_nil b).symm) hb hbr)
  have HM := Lib.hid hm
  have HSF := Lib.hid hsf
  have HS1 := Lib.hid hsf1
  have hsz1' : sf.size ≤ b.length := by omega
  have hrs1 : rf.size ≤ b.length + 1 := by omega
  have hrs2 : b.length + 1 ≤ rf.size := by omega
  have t7 : decide ((1 : Int) < (rf.size : Int)) = true := decide_eq_true (by omega)
  have t8 : ((m : Int) == (rf.size : Int) - 1) = true := by rw [beq_iff_eq]; omega
  have gr1 : 1 < rf.size := by omega
  have t48 : ((rf[1].toNat : Int) != 48) = true := by
    rw [bne_iff_ne]
    intro h
    have e : rf[1] = rf.data.toList[1]'(by rw [← Lib.size_eq]; exact gr1) := rfl
    cases hbb : b with
    | nil => exact hbn hbb
    | cons c t =>
      have e2 : rf[1] = c := by rw [e]; simp only [hrl, hbb, List.getElem_cons_succ, List.getElem_cons_zero]
      rw [e2] at h
      exact hb48 t (hbb.trans (by rw [show c = 48 from u8_48 (by omega)]))
  have hsfz : sf.size ≤ 200 := by omega
  have HBD := Lib.hid hb
  have HBC := Lib.hid hbc
  have HB48 := Lib.hid hb48
  clear g91 g92 hb1 hm hsf hsf1 hsz hrl hb hbn hbr hbc hb48
  go_wp2_with fail
  rw [HSF.out]
  refine (HG2.out _).mono ?_
  rintro e w14 ⟨rfl, hw14⟩
  subst hw14
  rw [HM.out]
  go_wp2_with fail
  rw [HSF.out]
  refine (q_ParseI sf (by omega) (by rw [HS1.out]; exact HBD.out) (by rw [HS1.out]; exact HBC.out) (L := 200) (by omega)).mono ?_
  rintro e wp ⟨s16, A16, n16, c16, rfl, h16, hxp⟩
  rw [HS1.out] at h16
  replace bz := bz.ext hxp
  replace b6 := b6.ext hxp
  replace b8 := b8.ext hxp
  replace h6 := h6.ext hxp
  replace extW := extW.trans hxp
  clear hxp h8
  have z0 := b8.cell 0 _ rfl
  have z1 := b8.cell 1 _ rfl
  have f0 := b8.frozen 0
  have f1 := b8.frozen 1
  go_upto_region 23 with (fail)
  refine at_world (fun X => Ext w X ∧ Box X w.heap.size 27 #[Value.bool false, Value.slice none 0 0, Value.bool false, Value.slice none 0 0] ∧ Box X g6 24 #[.bool s6, .slice A6 n6 c6] ∧ Box X g8 24 #[.bool s16, .slice A16 n16 c16] ∧ NI X (dv a : Int) n s6 A6 n6 c6 ∧ NI X (dv b : Int) 200 s16 A16 n16 c16) ?_ ?_
  · have q1 := fin_dual (s := s16) (A := A16) (n := n16) (c := c16) b8
    exact ⟨q1.2.2.1 _ extW (by omega), q1.2.2.2 _ _ _ (by omega) bz, q1.2.2.2 _ _ _ hne68 b6, q1.1, q1.2.1 _ _ _ _ _ _ h6, q1.2.1 _ _ _ _ _ _ h16⟩
  clear extW bz b6 b8 h6 h16 z0 z1 f0 f1
  rintro X ⟨extW, bz, b6, b8, h6, h8⟩
  have b60 := b6.cell 0 (.bool s6) rfl
  have b61 := b6.cell 1 (.slice A6 n6 c6) rfl
  have b80 := b8.cell 0 (.bool s16) rfl
  have b81 := b8.cell 1 (.slice A16 n16 c16) rfl
  go_wp2_with fail
  refine (q_one h8).mono ?_
  rintro e X2 ⟨rfl, hxo⟩
  rw [decide_eq_true HQ1.out]
  replace bz := bz.ext hxo
  replace b6 := b6.ext hxo
  replace b8 := b8.ext hxo
  replace h6 := h6.ext hxo
  replace h8 := h8.ext hxo
  replace extW := extW.trans hxo
  clear hxo b60 b61 b80 b81
  have hE := Ext.refl X2
  have z0 := (bz.ext hE).cell 0 _ rfl
  have z1 := (bz.ext hE).cell 1 _ rfl
  have z2 := (bz.ext hE).cell 2 _ rfl
  have z3 := (bz.ext hE).cell 3 _ rfl
  have f0 := (bz.ext hE).frozen 0
  have f1 := (bz.ext hE).frozen 1
  have f2 := (bz.ext hE).frozen 2
  have f3 := (bz.ext hE).frozen 3
  go_wp2_with fail
  obtain ⟨b1, b2, b3, b4⟩ := fin_quad (s := false) (A := none) (n := 0) (c := 0) (t := false) (B := none) (m := 0) (d := 0) (bz.ext hE)
  have r0 := b1.cell 0 (.bool false) rfl
  have r1 := b1.cell 1 (.slice none 0 0) rfl
  have r2 := b1.cell 2 (.bool false) rfl
  have r3 := b1.cell 3 (.slice none 0 0) rfl
  unfold set4 at r0 r1 r2 r3
  refine bodyPost_ret (v := .tuple #[.agg #[.bool false, .slice none 0 0, .bool false, .slice none 0 0], .int .i64 2]) (by simp [results, Tryz.results50, go_sem, r0, r1, r2, r3]) rfl ⟨rfl, b3 _ (extW.trans hE) (by omega)⟩
set_option maxHeartbeats 16000000 in
set_option maxRecDepth 100000 in
theorem qp_quo_pos2 (u : ByteArray) (n : Nat) (a r : List UInt8) (hs : u.size ≤ 200) (hp : ∀ t, u.data.toList ≠ 45 :: t) (hl : u.data.toList = a ++ r) (hn : a.length = n) (ha : Digs a) (hr : r = [] ∨ ∃ c b, r = c :: b ∧ ¬ Dig c) (hu0 : u.data.toList ≠ []) (hc : Canon a) (b : List UInt8) (h0 : r = 47 :: b) (hb : Digs b) (hbn : b ≠ []) (hbc : Canon b) (hb48 : ∀ t, b ≠ 48 :: t) (hq1 : (dv b : Int) ≠ 1) (hq2 : Nat.gcd (dv a) (dv b) ≠ 1) :
    Calls Tryz.prog 50 #[.string u] w (RetZE 2 w) := by
  have HQ1 := Lib.hid hq1
  clear hq1
  have HQ2 := Lib.hid hq2
  clear hq2
  have hz : u.size ≤ 200 := hs
  have hne : u.toList.isEmpty = false := by
    rw [Lib.toList_data]
    cases h : u.data.toList with
    | nil => exact absurd h hu0
    | cons c t => rfl
  have g0 : 0 < u.size := by rw [Lib.size_eq]; exact List.length_pos_iff.2 hu0
  have t9 : ((u[0].toNat : Int) == 45) = false := by
    rw [beq_eq_false_iff_ne]
    intro h
    cases h2 : u.data.toList with
    | nil => exact hu0 h2
    | cons c t =>
      obtain ⟨_, g1, _⟩ := get0 h2
      rw [g1] at h
      exact hp t (by rw [h2]; congr 1; exact UInt8.toNat_inj.1 (by have : (45 : UInt8).toNat = 45 := rfl; omega))
  clear hp
  have hsz := Lib.size_eq u
  rw [hl, List.length_append, hn] at hsz
  have hsz1 : u.size ≤ n + r.length := by omega
  have hsz2 : n + r.length ≤ u.size := by omega
  clear hsz
  have HG := Lib.hid (fun w => q_digits u w a r (by omega) hl ha hr)
  have HL := Lib.hid hl
  have HN := Lib.hid hn
  have HA := Lib.hid ha
  clear hl ha hr hn
  go_enter Tryz.func50, Tryz.ntmps50
  go_upto_region 1 with (fail)
  obtain ⟨W, hW, extW, bz, hzz⟩ := box1 w 27 #[Value.bool false, Value.slice none 0 0, Value.bool false, Value.slice none 0 0]
  rw [← hW]
  clear hW
  have t1 : decide ((65536 : Int) < (u.size : Int)) = false := decide_eq_false (by omega)
  go_wp2_with fail
  refine (HG.out _).mono ?_
  rintro e w0 ⟨rfl, hw0⟩
  subst hw0
  rw [HN.out]
  have HCA := Lib.hid hc
  have hn1 : 1 ≤ n := by
    rw [← HN.out]
    rcases hc with h | ⟨c, t, h, _⟩ <;> rw [h] <;> simp
  have hn0 : ((n : Int) == 0) = false := by rw [beq_eq_false_iff_ne]; omega
  have H48 := Lib.hid (fun (h1 : 1 < n) => show ((u[0]'(by omega)).toNat : Int) ≠ 48 from by
    rcases HCA.out with h | ⟨c, t, h, h2⟩
    · have := HN.out
      rw [h] at this
      simp at this
      omega
    · have hlc : u.data.toList = c :: (t ++ r) := by rw [HL.out, h]; rfl
      obtain ⟨_, g1, _⟩ := get0 hlc
      rw [g1]
      intro h3
      exact h2 (u8_48 (by omega)))
  clear hc
  go_upto_region 7 with (fail)
  go_cut [38] (fun p V => p = .bool false ∧ W = V)
  case first =>
    by_cases h1 : 1 < n
    · have h2 := H48.out h1
      have t2 : decide ((1 : Int) < (n : Int)) = true := decide_eq_true (by omega)
      have t3 : ((u[0].toNat : Int) == 48) = false := beq_eq_false_iff_ne.2 h2
      have g3 : 0 < u.size := by omega
      clear h2
      go_wp2_with fail
      go_meet
      exact ⟨rfl, rfl⟩
    · have t2 : decide ((1 : Int) < (n : Int)) = false := decide_eq_false (by omega)
      go_wp2_with fail
      go_meet
      exact ⟨rfl, rfl⟩
  case rest =>
  obtain ⟨rfl, rfl⟩ := hcut
  have c1 : (0 : Int) ≤ (n : Int) := by omega
  have c2 : (n : Int) ≤ (u.size : Int) := by omega
  have c3 : n ≤ u.size := by omega
  have hbf1 : (u.extract 0 n).data.toList = a := by rw [extract_to _ _ c3, HL.out, ← HN.out, List.take_left]
  have hrf1 : (u.extract n u.size).data.toList = r := by rw [extract_from, HL.out, ← HN.out, List.drop_left]
  obtain ⟨bf, hbf⟩ : ∃ bf, u.extract 0 n = bf := ⟨_, rfl⟩
  obtain ⟨rf, hrf⟩ : ∃ rf, u.extract n u.size = rf := ⟨_, rfl⟩
  rw [hbf] at hbf1
  rw [hrf] at hrf1
  have hbz : bf.size ≤ n := by rw [Lib.size_eq, hbf1, HN.out]; exact Nat.le_refl _
  have hrz := Lib.size_eq rf
  rw [hrf1] at hrz
  have hrz1 : rf.size ≤ r.length := by omega
  have hrz2 : r.length ≤ rf.size := by omega
  clear hrz
  have HBF := Lib.hid hbf
  have HRF := Lib.hid hrf
  have HB := Lib.hid hbf1
  have HR := Lib.hid hrf1
  clear hbf hrf hbf1 hrf1
  go_wp2_with fail
  rw [HBF.out]
  refine (q_ParseI bf (by omega) (by rw [HB.out]; exact HA.out) (by rw [HB.out]; exact HCA.out) (L := n) (by omega)).mono ?_
  rintro e wa ⟨s6, A6, n6, c6, rfl, h6, hxa⟩
  rw [HB.out] at h6
  go_upto_region 10 with (fail)
  refine at_world (fun V => Ext W V ∧ Box V wa.heap.size 24 #[.bool s6, .slice A6 n6 c6] ∧ NI V (dv a : Int) n s6 A6 n6 c6) ⟨hxa.alloc _, Box.new wa _ _, h6.ext ((Ext.refl wa).alloc _)⟩ ?_
  have hg6 : w.heap.size + 1 ≤ wa.heap.size := by have := hxa.size; omega
  generalize wa.heap.size = g6 at *
  clear hxa h6
  rintro V ⟨EV, b6, h6⟩
  replace bz := bz.ext EV
  replace extW := extW.trans EV
  clear EV
  go_wp2_with fail
  refine (q_FromInt 1 (by omega) (by omega)).mono ?_
  rintro e wb ⟨s8, A8, n8, c8, rfl, h8, hxb⟩
  go_upto_region 11 with (fail)
  refine at_world (fun U => Ext V U ∧ Box U wb.heap.size 24 #[.bool s8, .slice A8 n8 c8] ∧ NI U 1 2 s8 A8 n8 c8) ⟨hxb.alloc _, Box.new wb _ _, h8.ext ((Ext.refl wb).alloc _)⟩ ?_
  have hsz6 := hxb.size
  generalize wb.heap.size = g8 at *
  clear hxb h8
  rintro U ⟨EU, b8, h8⟩
  have hlt6 := b6.lt
  have hne68 : g6 ≠ g8 := by omega
  replace bz := bz.ext EU
  replace b6 := b6.ext EU
  replace h6 := h6.ext EU
  replace extW := extW.trans EU
  clear EU
  go_upto_region 13 with (fail)
  rw [HRF.out]
  have hrl : rf.data.toList = 47 :: b := by rw [HR.out, h0]
  have hre : rf.toList.isEmpty = false := by rw [Lib.toList_data, hrl]; rfl
  obtain ⟨g9, g91, g92⟩ := get0 hrl
  have t46 : ((rf[0].toNat : Int) == 46) = false := by rw [g91]; rfl
  have t47 : ((rf[0].toNat : Int) == 47) = true := by rw [g91]; rfl
  have hb1 : 1 ≤ b.length := List.length_pos_iff.2 hbn
  have hbr : ([] : List UInt8) = [] ∨ ∃ c t, [] = c :: t ∧ ¬ Dig c := .inl rfl
  obtain ⟨m, hm⟩ : ∃ m, List.length b = m := ⟨_, rfl⟩
  have hsf1 : (rf.extract 1 rf.size).data.toList = b := by rw [extract_from, hrl]; rfl
  obtain ⟨sf, hsf⟩ : ∃ sf, rf.extract 1 rf.size = sf := ⟨_, rfl⟩
  rw [hsf] at hsf1
  have hsz := Lib.size_eq sf
  rw [hsf1] at hsz
  have HG2 := Lib.hid (fun w => q_digits sf w b [] (by omega) (by rw [hsf1]; exact (List.append_nil b).symm) hb hbr)
  have HM := Lib.hid hm
  have HSF := Lib.hid hsf
  have HS1 := Lib.hid hsf1
  have hsz1' : sf.size ≤ b.length := by omega
  have hrs1 : rf.size ≤ b.length + 1 := by omega
  have hrs2 : b.length + 1 ≤ rf.size := by omega
  have t7 : decide ((1 : Int) < (rf.size : Int)) = true := decide_eq_true (by omega)
  have t8 : ((m : Int) == (rf.size : Int) - 1) = true := by rw [beq_iff_eq]; omega
  have gr1 : 1 < rf.size := by omega
  have t48 : ((rf[1].toNat : Int) != 48) = true := by
    rw [bne_iff_ne]
    intro h
    have e : rf[1] = rf.data.toList[1]'(by rw [← Lib.size_eq]; exact gr1) := rfl
    cases hbb : b with
    | nil => exact hbn hbb
    | cons c t =>
      have e2 : rf[1] = c := by rw [e]; simp only [hrl, hbb, List.getElem_cons_succ, List.getElem_cons_zero]
      rw [e2] at h
      exact hb48 t (hbb.trans (by rw [show c = 48 from u8_48 (by omega)]))
  have hsfz : sf.size ≤ 200 := by omega
  have HBD := Lib.hid hb
  have HBC := Lib.hid hbc
  have HB48 := Lib.hid hb48
  clear g91 g92 hb1 hm hsf hsf1 hsz hrl hb hbn hbr hbc hb48
  go_wp2_with fail
  rw [HSF.out]
  refine (HG2.out _).mono ?_
  rintro e w14 ⟨rfl, hw14⟩
  subst hw14
  rw [HM.out]
  go_wp2_with fail
  rw [HSF.out]
  refine (q_ParseI sf (by omega) (by rw [HS1.out]; exact HBD.out) (by rw [HS1.out]; exact HBC.out) (L := 200) (by omega)).mono ?_
  rintro e wp ⟨s16, A16, n16, c16, rfl, h16, hxp⟩
  rw [HS1.out] at h16
  replace bz := bz.ext hxp
  replace b6 := b6.ext hxp
  replace b8 := b8.ext hxp
  replace h6 := h6.ext hxp
  replace extW := extW.trans hxp
  clear hxp h8
  have z0 := b8.cell 0 _ rfl
  have z1 := b8.cell 1 _ rfl
  have f0 := b8.frozen 0
  have f1 := b8.frozen 1
  go_upto_region 23 with (fail)
  refine at_world (fun X => Ext w X ∧ Box X w.heap.size 27 #[Value.bool false, Value.slice none 0 0, Value.bool false, Value.slice none 0 0] ∧ Box X g6 24 #[.bool s6, .slice A6 n6 c6] ∧ Box X g8 24 #[.bool s16, .slice A16 n16 c16] ∧ NI X (dv a : Int) n s6 A6 n6 c6 ∧ NI X (dv b : Int) 200 s16 A16 n16 c16) ?_ ?_
  · have q1 := fin_dual (s := s16) (A := A16) (n := n16) (c := c16) b8
    exact ⟨q1.2.2.1 _ extW (by omega), q1.2.2.2 _ _ _ (by omega) bz, q1.2.2.2 _ _ _ hne68 b6, q1.1, q1.2.1 _ _ _ _ _ _ h6, q1.2.1 _ _ _ _ _ _ h16⟩
  clear extW bz b6 b8 h6 h16 z0 z1 f0 f1
  rintro X ⟨extW, bz, b6, b8, h6, h8⟩
  have b60 := b6.cell 0 (.bool s6) rfl
  have b61 := b6.cell 1 (.slice A6 n6 c6) rfl
  have b80 := b8.cell 0 (.bool s16) rfl
  have b81 := b8.cell 1 (.slice A16 n16 c16) rfl
  go_wp2_with fail
  refine (q_one h8).mono ?_
  rintro e X2 ⟨rfl, hxo⟩
  rw [decide_eq_false HQ1.out]
  replace bz := bz.ext hxo
  replace b6 := b6.ext hxo
  replace b8 := b8.ext hxo
  replace h6 := h6.ext hxo
  replace h8 := h8.ext hxo
  replace extW := extW.trans hxo
  clear hxo b60 b61 b80 b81
  have b60 := b6.cell 0 (.bool s6) rfl
  have b61 := b6.cell 1 (.slice A6 n6 c6) rfl
  have b80 := b8.cell 0 (.bool s16) rfl
  have b81 := b8.cell 1 (.slice A16 n16 c16) rfl
  go_wp2_with fail
  refine (q_GCD h6 h8 (by omega) (by omega)).mono ?_
  rintro e X3 ⟨s15, A15, n15, c15, rfl, hg, hxo⟩
  rw [Int.natAbs_natCast, Int.natAbs_natCast] at hg
  replace bz := bz.ext hxo
  replace b6 := b6.ext hxo
  replace b8 := b8.ext hxo
  replace h6 := h6.ext hxo
  replace h8 := h8.ext hxo
  replace extW := extW.trans hxo
  clear hxo b60 b61 b80 b81
  go_wp2_with fail
  refine (q_one hg).mono ?_
  rintro e X4 ⟨rfl, hxo⟩
  rw [decide_eq_false (show ¬ (((Nat.gcd (dv a) (dv b) : Nat) : Int) = 1) by have := HQ2.out; omega)]
  replace bz := bz.ext hxo
  replace b6 := b6.ext hxo
  replace b8 := b8.ext hxo
  replace h6 := h6.ext hxo
  replace h8 := h8.ext hxo
  replace extW := extW.trans hxo
  clear hxo hg
  have hE := Ext.refl X4
  have z0 := (bz.ext hE).cell 0 _ rfl
  have z1 := (bz.ext hE).cell 1 _ rfl
  have z2 := (bz.ext hE).cell 2 _ rfl
  have z3 := (bz.ext hE).cell 3 _ rfl
  have f0 := (bz.ext hE).frozen 0
  have f1 := (bz.ext hE).frozen 1
  have f2 := (bz.ext hE).frozen 2
  have f3 := (bz.ext hE).frozen 3
  go_wp2_with fail
  obtain ⟨b1, b2, b3, b4⟩ := fin_quad (s := false) (A := none) (n := 0) (c := 0) (t := false) (B := none) (m := 0) (d := 0) (bz.ext hE)
  have r0 := b1.cell 0 (.bool false) rfl
  have r1 := b1.cell 1 (.slice none 0 0) rfl
  have r2 := b1.cell 2 (.bool false) rfl
  have r3 := b1.cell 3 (.slice none 0 0) rfl
  unfold set4 at r0 r1 r2 r3
  refine bodyPost_ret (v := .tuple #[.agg #[.bool false, .slice none 0 0, .bool false, .slice none 0 0], .int .i64 2]) (by simp [results, Tryz.results50, go_sem, r0, r1, r2, r3]) rfl ⟨rfl, b3 _ (extW.trans hE) (by omega)⟩
set_option maxHeartbeats 16000000 in
set_option maxRecDepth 100000 in
theorem qp_quo_neg (s u : ByteArray) (n : Nat) (a r : List UInt8) (hs : s.size ≤ 200) (h45 : s.data.toList = 45 :: u.data.toList) (hl : u.data.toList = a ++ r) (hn : a.length = n) (ha : Digs a) (hr : r = [] ∨ ∃ c b, r = c :: b ∧ ¬ Dig c) (hc : Canon a) (b : List UInt8) (h0 : r = 47 :: b) (hb : Digs b) (hbn : b ≠ []) (hbc : Canon b) (hb48 : ∀ t, b ≠ 48 :: t) (hq1 : (dv b : Int) ≠ 1) (hq2 : Nat.gcd (dv a) (dv b) = 1) (hz0 : dv a ≠ 0) :
    Calls Tryz.prog 50 #[.string s] w (RetNRE (mkQ (-(dv a : Int)) (dv b : Int)) 1000 w) := by
  have HZ := Lib.hid (show (dv a : Int) ≠ 0 by omega)
  clear hz0
  have HQ1 := Lib.hid hq1
  clear hq1
  have HQ2 := Lib.hid hq2
  clear hq2
  obtain ⟨g0, g1, g2⟩ := get0 h45
  clear g2
  obtain ⟨c1, c2, c3⟩ := cut_neg (w := w) (s := s) (by omega) h45
  clear c3
  have hu : s.extract 1 s.size = u := bytes_ext c1
  have hne : s.toList.isEmpty = false := by rw [Lib.toList_data, h45]; rfl
  have t9 : ((s[0].toNat : Int) == 45) = true := by rw [g1]; rfl
  have hz : u.size ≤ 200 := by rw [← hu, c2]; have := Lib.size_eq s; rw [h45, List.length_cons] at this; have h2 := Lib.size_eq u; omega
  have HU := Lib.hid hu
  clear g1 c1 c2 hu h45
  have hsz := Lib.size_eq u
  rw [hl, List.length_append, hn] at hsz
  have hsz1 : u.size ≤ n + r.length := by omega
  have hsz2 : n + r.length ≤ u.size := by omega
  clear hsz
  have HG := Lib.hid (fun w => q_digits u w a r (by omega) hl ha hr)
  have HL := Lib.hid hl
  have HN := Lib.hid hn
  have HA := Lib.hid ha
  clear hl ha hr hn
  go_enter Tryz.func50, Tryz.ntmps50
  go_upto_region 1 with (fail)
  obtain ⟨W, hW, extW, bz, hzz⟩ := box1 w 27 #[Value.bool false, Value.slice none 0 0, Value.bool false, Value.slice none 0 0]
  rw [← hW]
  clear hW
  have t1 : decide ((65536 : Int) < (s.size : Int)) = false := decide_eq_false (by omega)
  go_wp2_with fail
  rw [HU.out]
  refine (HG.out _).mono ?_
  rintro e w0 ⟨rfl, hw0⟩
  subst hw0
  rw [HN.out]
  have HCA := Lib.hid hc
  have hn1 : 1 ≤ n := by
    rw [← HN.out]
    rcases hc with h | ⟨c, t, h, _⟩ <;> rw [h] <;> simp
  have hn0 : ((n : Int) == 0) = false := by rw [beq_eq_false_iff_ne]; omega
  have H48 := Lib.hid (fun (h1 : 1 < n) => show ((u[0]'(by omega)).toNat : Int) ≠ 48 from by
    rcases HCA.out with h | ⟨c, t, h, h2⟩
    · have := HN.out
      rw [h] at this
      simp at this
      omega
    · have hlc : u.data.toList = c :: (t ++ r) := by rw [HL.out, h]; rfl
      obtain ⟨_, g1, _⟩ := get0 hlc
      rw [g1]
      intro h3
      exact h2 (u8_48 (by omega)))
  clear hc
  go_upto_region 7 with (fail)
  go_cut [38] (fun p V => p = .bool false ∧ W = V)
  case first =>
    by_cases h1 : 1 < n
    · have h2 := H48.out h1
      have t2 : decide ((1 : Int) < (n : Int)) = true := decide_eq_true (by omega)
      have t3 : ((u[0].toNat : Int) == 48) = false := beq_eq_false_iff_ne.2 h2
      have g3 : 0 < u.size := by omega
      clear h2
      go_wp2_with fail
      go_meet
      exact ⟨rfl, rfl⟩
    · have t2 : decide ((1 : Int) < (n : Int)) = false := decide_eq_false (by omega)
      go_wp2_with fail
      go_meet
      exact ⟨rfl, rfl⟩
  case rest =>
  obtain ⟨rfl, rfl⟩ := hcut
  have c1 : (0 : Int) ≤ (n : Int) := by omega
  have c2 : (n : Int) ≤ (u.size : Int) := by omega
  have c3 : n ≤ u.size := by omega
  have hbf1 : (u.extract 0 n).data.toList = a := by rw [extract_to _ _ c3, HL.out, ← HN.out, List.take_left]
  have hrf1 : (u.extract n u.size).data.toList = r := by rw [extract_from, HL.out, ← HN.out, List.drop_left]
  obtain ⟨bf, hbf⟩ : ∃ bf, u.extract 0 n = bf := ⟨_, rfl⟩
  obtain ⟨rf, hrf⟩ : ∃ rf, u.extract n u.size = rf := ⟨_, rfl⟩
  rw [hbf] at hbf1
  rw [hrf] at hrf1
  have hbz : bf.size ≤ n := by rw [Lib.size_eq, hbf1, HN.out]; exact Nat.le_refl _
  have hrz := Lib.size_eq rf
  rw [hrf1] at hrz
  have hrz1 : rf.size ≤ r.length := by omega
  have hrz2 : r.length ≤ rf.size := by omega
  clear hrz
  have HBF := Lib.hid hbf
  have HRF := Lib.hid hrf
  have HB := Lib.hid hbf1
  have HR := Lib.hid hrf1
  clear hbf hrf hbf1 hrf1
  go_wp2_with fail
  rw [HBF.out]
  refine (q_ParseI bf (by omega) (by rw [HB.out]; exact HA.out) (by rw [HB.out]; exact HCA.out) (L := n) (by omega)).mono ?_
  rintro e wa ⟨s6, A6, n6, c6, rfl, h6, hxa⟩
  rw [HB.out] at h6
  go_upto_region 10 with (fail)
  refine at_world (fun V => Ext W V ∧ Box V wa.heap.size 24 #[.bool s6, .slice A6 n6 c6] ∧ NI V (dv a : Int) n s6 A6 n6 c6) ⟨hxa.alloc _, Box.new wa _ _, h6.ext ((Ext.refl wa).alloc _)⟩ ?_
  have hg6 : w.heap.size + 1 ≤ wa.heap.size := by have := hxa.size; omega
  generalize wa.heap.size = g6 at *
  clear hxa h6
  rintro V ⟨EV, b6, h6⟩
  replace bz := bz.ext EV
  replace extW := extW.trans EV
  clear EV
  go_wp2_with fail
  refine (q_FromInt 1 (by omega) (by omega)).mono ?_
  rintro e wb ⟨s8, A8, n8, c8, rfl, h8, hxb⟩
  go_upto_region 11 with (fail)
  refine at_world (fun U => Ext V U ∧ Box U wb.heap.size 24 #[.bool s8, .slice A8 n8 c8] ∧ NI U 1 2 s8 A8 n8 c8) ⟨hxb.alloc _, Box.new wb _ _, h8.ext ((Ext.refl wb).alloc _)⟩ ?_
  have hsz6 := hxb.size
  generalize wb.heap.size = g8 at *
  clear hxb h8
  rintro U ⟨EU, b8, h8⟩
  have hlt6 := b6.lt
  have hne68 : g6 ≠ g8 := by omega
  replace bz := bz.ext EU
  replace b6 := b6.ext EU
  replace h6 := h6.ext EU
  replace extW := extW.trans EU
  clear EU
  go_upto_region 13 with (fail)
  rw [HRF.out]
  have hrl : rf.data.toList = 47 :: b := by rw [HR.out, h0]
  have hre : rf.toList.isEmpty = false := by rw [Lib.toList_data, hrl]; rfl
  obtain ⟨g9, g91, g92⟩ := get0 hrl
  have t46 : ((rf[0].toNat : Int) == 46) = false := by rw [g91]; rfl
  have t47 : ((rf[0].toNat : Int) == 47) = true := by rw [g91]; rfl
  have hb1 : 1 ≤ b.length := List.length_pos_iff.2 hbn
  have hbr : ([] : List UInt8) = [] ∨ ∃ c t, [] = c :: t ∧ ¬ Dig c := .inl rfl
  obtain ⟨m, hm⟩ : ∃ m, List.length b = m := ⟨_, rfl⟩
  have hsf1 : (rf.extract 1 rf.size).data.toList = b := by rw [extract_from, hrl]; rfl
  obtain ⟨sf, hsf⟩ : ∃ sf, rf.extract 1 rf.size = sf := ⟨_, rfl⟩
  rw [hsf] at hsf1
  have hsz := Lib.size_eq sf
  rw [hsf1] at hsz
  have HG2 := Lib.hid (fun w => q_digits sf w b [] (by omega) (by rw [hsf1]; exact (List.append_nil b).symm) hb hbr)
  have HM := Lib.hid hm
  have HSF := Lib.hid hsf
  have HS1 := Lib.hid hsf1
  have hsz1' : sf.size ≤ b.length := by omega
  have hrs1 : rf.size ≤ b.length + 1 := by omega
  have hrs2 : b.length + 1 ≤ rf.size := by omega
  have t7 : decide ((1 : Int) < (rf.size : Int)) = true := decide_eq_true (by omega)
  have t8 : ((m : Int) == (rf.size : Int) - 1) = true := by rw [beq_iff_eq]; omega
  have gr1 : 1 < rf.size := by omega
  have t48 : ((rf[1].toNat : Int) != 48) = true := by
    rw [bne_iff_ne]
    intro h
    have e : rf[1] = rf.data.toList[1]'(by rw [← Lib.size_eq]; exact gr1) := rfl
    cases hbb : b with
    | nil => exact hbn hbb
    | cons c t =>
      have e2 : rf[1] = c := by rw [e]; simp only [hrl, hbb, List.getElem_cons_succ, List.getElem_cons_zero]
      rw [e2] at h
      exact hb48 t (hbb.trans (by rw [show c = 48 from u8_48 (by omega)]))
  have hsfz : sf.size ≤ 200 := by omega
  have HBD := Lib.hid hb
  have HBC := Lib.hid hbc
  have HB48 := Lib.hid hb48
  clear g91 g92 hb1 hm hsf hsf1 hsz hrl hb hbn hbr hbc hb48
  go_wp2_with fail
  rw [HSF.out]
  refine (HG2.out _).mono ?_
  rintro e w14 ⟨rfl, hw14⟩
  subst hw14
  rw [HM.out]
  go_wp2_with fail
  rw [HSF.out]
  refine (q_ParseI sf (by omega) (by rw [HS1.out]; exact HBD.out) (by rw [HS1.out]; exact HBC.out) (L := 200) (by omega)).mono ?_
  rintro e wp ⟨s16, A16, n16, c16, rfl, h16, hxp⟩
  rw [HS1.out] at h16
  replace bz := bz.ext hxp
  replace b6 := b6.ext hxp
  replace b8 := b8.ext hxp
  replace h6 := h6.ext hxp
  replace extW := extW.trans hxp
  clear hxp h8
  have z0 := b8.cell 0 _ rfl
  have z1 := b8.cell 1 _ rfl
  have f0 := b8.frozen 0
  have f1 := b8.frozen 1
  go_upto_region 23 with (fail)
  refine at_world (fun X => Ext w X ∧ Box X w.heap.size 27 #[Value.bool false, Value.slice none 0 0, Value.bool false, Value.slice none 0 0] ∧ Box X g6 24 #[.bool s6, .slice A6 n6 c6] ∧ Box X g8 24 #[.bool s16, .slice A16 n16 c16] ∧ NI X (dv a : Int) n s6 A6 n6 c6 ∧ NI X (dv b : Int) 200 s16 A16 n16 c16) ?_ ?_
  · have q1 := fin_dual (s := s16) (A := A16) (n := n16) (c := c16) b8
    exact ⟨q1.2.2.1 _ extW (by omega), q1.2.2.2 _ _ _ (by omega) bz, q1.2.2.2 _ _ _ hne68 b6, q1.1, q1.2.1 _ _ _ _ _ _ h6, q1.2.1 _ _ _ _ _ _ h16⟩
  clear extW bz b6 b8 h6 h16 z0 z1 f0 f1
  rintro X ⟨extW, bz, b6, b8, h6, h8⟩
  have b60 := b6.cell 0 (.bool s6) rfl
  have b61 := b6.cell 1 (.slice A6 n6 c6) rfl
  have b80 := b8.cell 0 (.bool s16) rfl
  have b81 := b8.cell 1 (.slice A16 n16 c16) rfl
  go_wp2_with fail
  refine (q_one h8).mono ?_
  rintro e X2 ⟨rfl, hxo⟩
  rw [decide_eq_false HQ1.out]
  replace bz := bz.ext hxo
  replace b6 := b6.ext hxo
  replace b8 := b8.ext hxo
  replace h6 := h6.ext hxo
  replace h8 := h8.ext hxo
  replace extW := extW.trans hxo
  clear hxo b60 b61 b80 b81
  have b60 := b6.cell 0 (.bool s6) rfl
  have b61 := b6.cell 1 (.slice A6 n6 c6) rfl
  have b80 := b8.cell 0 (.bool s16) rfl
  have b81 := b8.cell 1 (.slice A16 n16 c16) rfl
  go_wp2_with fail
  refine (q_GCD h6 h8 (by omega) (by omega)).mono ?_
  rintro e X3 ⟨s15, A15, n15, c15, rfl, hg, hxo⟩
  rw [Int.natAbs_natCast, Int.natAbs_natCast] at hg
  replace bz := bz.ext hxo
  replace b6 := b6.ext hxo
  replace b8 := b8.ext hxo
  replace h6 := h6.ext hxo
  replace h8 := h8.ext hxo
  replace extW := extW.trans hxo
  clear hxo b60 b61 b80 b81
  go_wp2_with fail
  refine (q_one hg).mono ?_
  rintro e X4 ⟨rfl, hxo⟩
  rw [decide_eq_true (show (((Nat.gcd (dv a) (dv b) : Nat) : Int) = 1) by have := HQ2.out; omega)]
  replace bz := bz.ext hxo
  replace b6 := b6.ext hxo
  replace b8 := b8.ext hxo
  replace h6 := h6.ext hxo
  replace h8 := h8.ext hxo
  replace extW := extW.trans hxo
  clear hxo hg
  have HY := Lib.hid (show (dv b : Int) ≠ 0 by
    intro h0
    have h1 := HQ2.out
    rw [show dv b = 0 by omega, Nat.gcd_zero_right] at h1
    have h2 := dv_zero_canon HBD.out HBC.out (by omega)
    have h3 := HS1.out
    exact HB48.out _ h2)
  replace h6 := h6.le (L' := 200) (by omega)
  have hz0 : ((n6 : Int) == 0) = false := by rw [beq_eq_false_iff_ne]; intro h0; exact HZ.out (h6.zero.1 (by omega))
  have b60 := b6.cell 0 (.bool s6) rfl
  have b61 := b6.cell 1 (.slice A6 n6 c6) rfl
  go_wp2_with fail
  refine (q_Neg h6 (by omega)).mono ?_
  rintro e wn ⟨s9, A9, n9, c9, rfl, h9, hxn⟩
  replace bz := bz.ext hxn
  replace b6 := b6.ext hxn
  replace b8 := b8.ext hxn
  replace h8 := h8.ext hxn
  replace extW := extW.trans hxn
  clear b60 b61 h6 hxn hz0
  have z0 := b6.cell 0 _ rfl
  have z1 := b6.cell 1 _ rfl
  have f0 := b6.frozen 0
  have f1 := b6.frozen 1
  go_upto_region 29 with (fail)
  refine at_world (fun Y => Ext w Y ∧ Box Y w.heap.size 27 #[Value.bool false, Value.slice none 0 0, Value.bool false, Value.slice none 0 0] ∧ Box Y g6 24 #[.bool s9, .slice A9 n9 c9] ∧ Box Y g8 24 #[.bool s16, .slice A16 n16 c16] ∧ NI Y (-((dv a : Int))) 200 s9 A9 n9 c9 ∧ NI Y ((dv b : Int)) 200 s16 A16 n16 c16) ?_ ?_
  · have q1 := fin_dual (s := s9) (A := A9) (n := n9) (c := c9) b6
    exact ⟨q1.2.2.1 _ extW (by omega), q1.2.2.2 _ _ _ (by omega) bz, q1.1, q1.2.2.2 _ _ _ (Ne.symm hne68) b8, q1.2.1 _ _ _ _ _ _ h9, q1.2.1 _ _ _ _ _ _ h8⟩
  clear extW bz b6 b8 h8 h9 z0 z1 f0 f1
  rintro Y ⟨extW, bz, b6, b8, h6, h8⟩
  have b60 := b6.cell 0 (.bool s9) rfl
  have b61 := b6.cell 1 (.slice A9 n9 c9) rfl
  have b80 := b8.cell 0 (.bool s16) rfl
  have b81 := b8.cell 1 (.slice A16 n16 c16) rfl
  go_wp2_with fail
  refine (q_Make_nz h6 h8 (by omega) (by omega) HY.out).mono ?_
  rintro e wm ⟨s7, A7, n7, c7, t7, B7, m7, d7, rfl, hr, hE⟩
  replace hr := hr.le (L' := 1000) (by omega)
  skip
  clear b60 b61 b80 b81
  have z0 := (bz.ext hE).cell 0 _ rfl
  have z1 := (bz.ext hE).cell 1 _ rfl
  have z2 := (bz.ext hE).cell 2 _ rfl
  have z3 := (bz.ext hE).cell 3 _ rfl
  have f0 := (bz.ext hE).frozen 0
  have f1 := (bz.ext hE).frozen 1
  have f2 := (bz.ext hE).frozen 2
  have f3 := (bz.ext hE).frozen 3
  go_wp2_with fail
  obtain ⟨b1, b2, b3, b4⟩ := fin_quad (s := s7) (A := A7) (n := n7) (c := c7) (t := t7) (B := B7) (m := m7) (d := d7) (bz.ext hE)
  have r0 := b1.cell 0 (.bool s7) rfl
  have r1 := b1.cell 1 (.slice A7 n7 c7) rfl
  have r2 := b1.cell 2 (.bool t7) rfl
  have r3 := b1.cell 3 (.slice B7 m7 d7) rfl
  unfold set4 at r0 r1 r2 r3
  refine bodyPost_ret (v := .tuple #[.agg #[.bool s7, .slice A7 n7 c7, .bool t7, .slice B7 m7 d7], .int .i64 0]) (by simp [results, Tryz.results50, go_sem, r0, r1, r2, r3]) rfl ⟨s7, A7, n7, c7, t7, B7, m7, d7, rfl, ⟨b2 _ _ _ _ _ _ hr.num, b2 _ _ _ _ _ _ hr.den⟩, b3 _ (extW.trans hE) (by omega)⟩
set_option maxHeartbeats 16000000 in
set_option maxRecDepth 100000 in
theorem qp_quo_neg1 (s u : ByteArray) (n : Nat) (a r : List UInt8) (hs : s.size ≤ 200) (h45 : s.data.toList = 45 :: u.data.toList) (hl : u.data.toList = a ++ r) (hn : a.length = n) (ha : Digs a) (hr : r = [] ∨ ∃ c b, r = c :: b ∧ ¬ Dig c) (hc : Canon a) (b : List UInt8) (h0 : r = 47 :: b) (hb : Digs b) (hbn : b ≠ []) (hbc : Canon b) (hb48 : ∀ t, b ≠ 48 :: t) (hq1 : (dv b : Int) = 1) :
    Calls Tryz.prog 50 #[.string s] w (RetZE 2 w) := by
  have HQ1 := Lib.hid hq1
  clear hq1
  obtain ⟨g0, g1, g2⟩ := get0 h45
  clear g2
  obtain ⟨c1, c2, c3⟩ := cut_neg (w := w) (s := s) (by omega) h45
  clear c3
  have hu : s.extract 1 s.size = u := bytes_ext c1
  have hne : s.toList.isEmpty = false := by rw [Lib.toList_data, h45]; rfl
  have t9 : ((s[0].toNat : Int) == 45) = true := by rw [g1]; rfl
  have hz : u.size ≤ 200 := by rw [← hu, c2]; have := Lib.size_eq s; rw [h45, List.length_cons] at this; have h2 := Lib.size_eq u; omega
  have HU := Lib.hid hu
  clear g1 c1 c2 hu h45
  have hsz := Lib.size_eq u
  rw [hl, List.length_append, hn] at hsz
  have hsz1 : u.size ≤ n + r.length := by omega
  have hsz2 : n + r.length ≤ u.size := by omega
  clear hsz
  have HG := Lib.hid (fun w => q_digits u w a r (by omega) hl ha hr)
  have HL := Lib.hid hl
  have HN := Lib.hid hn
  have HA := Lib.hid ha
  clear hl ha hr hn
  go_enter Tryz.func50, Tryz.ntmps50
  go_upto_region 1 with (fail)
  obtain ⟨W, hW, extW, bz, hzz⟩ := box1 w 27 #[Value.bool false, Value.slice none 0 0, Value.bool false, Value.slice none 0 0]
  rw [← hW]
  clear hW
  have t1 : decide ((65536 : Int) < (s.size : Int)) = false := decide_eq_false (by omega)
  go_wp2_with fail
  rw [HU.out]
  refine (HG.out _).mono ?_
  rintro e w0 ⟨rfl, hw0⟩
  subst hw0
  rw [HN.out]
  have HCA := Lib.hid hc
  have hn1 : 1 ≤ n := by
    rw [← HN.out]
    rcases hc with h | ⟨c, t, h, _⟩ <;> rw [h] <;> simp
  have hn0 : ((n : Int) == 0) = false := by rw [beq_eq_false_iff_ne]; omega
  have H48 := Lib.hid (fun (h1 : 1 < n) => show ((u[0]'(by omega)).toNat : Int) ≠ 48 from by
    rcases HCA.out with h | ⟨c, t, h, h2⟩
    · have := HN.out
      rw [h] at this
      simp at this
      omega
    · have hlc : u.data.toList = c :: (t ++ r) := by rw [HL.out, h]; rfl
      obtain ⟨_, g1, _⟩ := get0 hlc
      rw [g1]
      intro h3
      exact h2 (u8_48 (by omega)))
  clear hc
  go_upto_region 7 with (fail)
  go_cut [38] (fun p V => p = .bool false ∧ W = V)
  case first =>
    by_cases h1 : 1 < n
    · have h2 := H48.out h1
      have t2 : decide ((1 : Int) < (n : Int)) = true := decide_eq_true (by omega)
      have t3 : ((u[0].toNat : Int) == 48) = false := beq_eq_false_iff_ne.2 h2
      have g3 : 0 < u.size := by omega
      clear h2
      go_wp2_with fail
      go_meet
      exact ⟨rfl, rfl⟩
    · have t2 : decide ((1 : Int) < (n : Int)) = false := decide_eq_false (by omega)
      go_wp2_with fail
      go_meet
      exact ⟨rfl, rfl⟩
  case rest =>
  obtain ⟨rfl, rfl⟩ := hcut
  have c1 : (0 : Int) ≤ (n : Int) := by omega
  have c2 : (n : Int) ≤ (u.size : Int) := by omega
  have c3 : n ≤ u.size := by omega
  have hbf1 : (u.extract 0 n).data.toList = a := by rw [extract_to _ _ c3, HL.out, ← HN.out, List.take_left]
  have hrf1 : (u.extract n u.size).data.toList = r := by rw [extract_from, HL.out, ← HN.out, List.drop_left]
  obtain ⟨bf, hbf⟩ : ∃ bf, u.extract 0 n = bf := ⟨_, rfl⟩
  obtain ⟨rf, hrf⟩ : ∃ rf, u.extract n u.size = rf := ⟨_, rfl⟩
  rw [hbf] at hbf1
  rw [hrf] at hrf1
  have hbz : bf.size ≤ n := by rw [Lib.size_eq, hbf1, HN.out]; exact Nat.le_refl _
  have hrz := Lib.size_eq rf
  rw [hrf1] at hrz
  have hrz1 : rf.size ≤ r.length := by omega
  have hrz2 : r.length ≤ rf.size := by omega
  clear hrz
  have HBF := Lib.hid hbf
  have HRF := Lib.hid hrf
  have HB := Lib.hid hbf1
  have HR := Lib.hid hrf1
  clear hbf hrf hbf1 hrf1
  go_wp2_with fail
  rw [HBF.out]
  refine (q_ParseI bf (by omega) (by rw [HB.out]; exact HA.out) (by rw [HB.out]; exact HCA.out) (L := n) (by omega)).mono ?_
  rintro e wa ⟨s6, A6, n6, c6, rfl, h6, hxa⟩
  rw [HB.out] at h6
  go_upto_region 10 with (fail)
  refine at_world (fun V => Ext W V ∧ Box V wa.heap.size 24 #[.bool s6, .slice A6 n6 c6] ∧ NI V (dv a : Int) n s6 A6 n6 c6) ⟨hxa.alloc _, Box.new wa _ _, h6.ext ((Ext.refl wa).alloc _)⟩ ?_
  have hg6 : w.heap.size + 1 ≤ wa.heap.size := by have := hxa.size; omega
  generalize wa.heap.size = g6 at *
  clear hxa h6
  rintro V ⟨EV, b6, h6⟩
  replace bz := bz.ext EV
  replace extW := extW.trans EV
  clear EV
  go_wp2_with fail
  refine (q_FromInt 1 (by omega) (by omega)).mono ?_
  rintro e wb ⟨s8, A8, n8, c8, rfl, h8, hxb⟩
  go_upto_region 11 with (fail)
  refine at_world (fun U => Ext V U ∧ Box U wb.heap.size 24 #[.bool s8, .slice A8 n8 c8] ∧ NI U 1 2 s8 A8 n8 c8) ⟨hxb.alloc _, Box.new wb _ _, h8.ext ((Ext.refl wb).alloc _)⟩ ?_
  have hsz6 := hxb.size
  generalize wb.heap.size = g8 at *
  clear hxb h8
  rintro U ⟨EU, b8, h8⟩
  have hlt6 := b6.lt
  have hne68 : g6 ≠ g8 := by omega
  replace bz := bz.ext EU
  replace b6 := b6.ext EU
  replace h6 := h6.ext EU
  replace extW := extW.trans EU
  clear EU
  go_upto_region 13 with (fail)
  rw [HRF.out]
  have hrl : rf.data.toList = 47 :: b := by rw [HR.out, h0]
  have hre : rf.toList.isEmpty = false := by rw [Lib.toList_data, hrl]; rfl
  obtain ⟨g9, g91, g92⟩ := get0 hrl
  have t46 : ((rf[0].toNat : Int) == 46) = false := by rw [g91]; rfl
  have t47 : ((rf[0].toNat : Int) == 47) = true := by rw [g91]; rfl
  have hb1 : 1 ≤ b.length := List.length_pos_iff.2 hbn
  have hbr : ([] : List UInt8) = [] ∨ ∃ c t, [] = c :: t ∧ ¬ Dig c := .inl rfl
  obtain ⟨m, hm⟩ : ∃ m, List.length b = m := ⟨_, rfl⟩
  have hsf1 : (rf.extract 1 rf.size).data.toList = b := by rw [extract_from, hrl]; rfl
  obtain ⟨sf, hsf⟩ : ∃ sf, rf.extract 1 rf.size = sf := ⟨_, rfl⟩
  rw [hsf] at hsf1
  have hsz := Lib.size_eq sf
  rw [hsf1] at hsz
  have HG2 := Lib.hid (fun w => q_digits sf w b [] (by omega) (by rw [hsf1]; exact (List.append_nil b).symm) hb hbr)
  have HM := Lib.hid hm
  have HSF := Lib.hid hsf
  have HS1 := Lib.hid hsf1
  have hsz1' : sf.size ≤ b.length := by omega
  have hrs1 : rf.size ≤ b.length + 1 := by omega
  have hrs2 : b.length + 1 ≤ rf.size := by omega
  have t7 : decide ((1 : Int) < (rf.size : Int)) = true := decide_eq_true (by omega)
  have t8 : ((m : Int) == (rf.size : Int) - 1) = true := by rw [beq_iff_eq]; omega
  have gr1 : 1 < rf.size := by omega
  have t48 : ((rf[1].toNat : Int) != 48) = true := by
    rw [bne_iff_ne]
    intro h
    have e : rf[1] = rf.data.toList[1]'(by rw [← Lib.size_eq]; exact gr1) := rfl
    cases hbb : b with
    | nil => exact hbn hbb
    | cons c t =>
      have e2 : rf[1] = c := by rw [e]; simp only [hrl, hbb, List.getElem_cons_succ, List.getElem_cons_zero]
      rw [e2] at h
      exact hb48 t (hbb.trans (by rw [show c = 48 from u8_48 (by omega)]))
  have hsfz : sf.size ≤ 200 := by omega
  have HBD := Lib.hid hb
  have HBC := Lib.hid hbc
  have HB48 := Lib.hid hb48
  clear g91 g92 hb1 hm hsf hsf1 hsz hrl hb hbn hbr hbc hb48
  go_wp2_with fail
  rw [HSF.out]
  refine (HG2.out _).mono ?_
  rintro e w14 ⟨rfl, hw14⟩
  subst hw14
  rw [HM.out]
  go_wp2_with fail
  rw [HSF.out]
  refine (q_ParseI sf (by omega) (by rw [HS1.out]; exact HBD.out) (by rw [HS1.out]; exact HBC.out) (L := 200) (by omega)).mono ?_
  rintro e wp ⟨s16, A16, n16, c16, rfl, h16, hxp⟩
  rw [HS1.out] at h16
  replace bz := bz.ext hxp
  replace b6 := b6.ext hxp
  replace b8 := b8.ext hxp
  replace h6 := h6.ext hxp
  replace extW := extW.trans hxp
  clear hxp h8
  have z0 := b8.cell 0 _ rfl
  have z1 := b8.cell 1 _ rfl
  have f0 := b8.frozen 0
  have f1 := b8.frozen 1
  go_upto_region 23 with (fail)
  refine at_world (fun X => Ext w X ∧ Box X w.heap.size 27 #[Value.bool false, Value.slice none 0 0, Value.bool false, Value.slice none 0 0] ∧ Box X g6 24 #[.bool s6, .slice A6 n6 c6] ∧ Box X g8 24 #[.bool s16, .slice A16 n16 c16] ∧ NI X (dv a : Int) n s6 A6 n6 c6 ∧ NI X (dv b : Int) 200 s16 A16 n16 c16) ?_ ?_
  · have q1 := fin_dual (s := s16) (A := A16) (n := n16) (c := c16) b8
    exact ⟨q1.2.2.1 _ extW (by omega), q1.2.2.2 _ _ _ (by omega) bz, q1.2.2.2 _ _ _ hne68 b6, q1.1, q1.2.1 _ _ _ _ _ _ h6, q1.2.1 _ _ _ _ _ _ h16⟩
  clear extW bz b6 b8 h6 h16 z0 z1 f0 f1
  rintro X ⟨extW, bz, b6, b8, h6, h8⟩
  have b60 := b6.cell 0 (.bool s6) rfl
  have b61 := b6.cell 1 (.slice A6 n6 c6) rfl
  have b80 := b8.cell 0 (.bool s16) rfl
  have b81 := b8.cell 1 (.slice A16 n16 c16) rfl
  go_wp2_with fail
  refine (q_one h8).mono ?_
  rintro e X2 ⟨rfl, hxo⟩
  rw [decide_eq_true HQ1.out]
  replace bz := bz.ext hxo
  replace b6 := b6.ext hxo
  replace b8 := b8.ext hxo
  replace h6 := h6.ext hxo
  replace h8 := h8.ext hxo
  replace extW := extW.trans hxo
  clear hxo b60 b61 b80 b81
  have hE := Ext.refl X2
  have z0 := (bz.ext hE).cell 0 _ rfl
  have z1 := (bz.ext hE).cell 1 _ rfl
  have z2 := (bz.ext hE).cell 2 _ rfl
  have z3 := (bz.ext hE).cell 3 _ rfl
  have f0 := (bz.ext hE).frozen 0
  have f1 := (bz.ext hE).frozen 1
  have f2 := (bz.ext hE).frozen 2
  have f3 := (bz.ext hE).frozen 3
  go_wp2_with fail
  obtain ⟨b1, b2, b3, b4⟩ := fin_quad (s := false) (A := none) (n := 0) (c := 0) (t := false) (B := none) (m := 0) (d := 0) (bz.ext hE)
  have r0 := b1.cell 0 (.bool false) rfl
  have r1 := b1.cell 1 (.slice none 0 0) rfl
  have r2 := b1.cell 2 (.bool false) rfl
  have r3 := b1.cell 3 (.slice none 0 0) rfl
  unfold set4 at r0 r1 r2 r3
  refine bodyPost_ret (v := .tuple #[.agg #[.bool false, .slice none 0 0, .bool false, .slice none 0 0], .int .i64 2]) (by simp [results, Tryz.results50, go_sem, r0, r1, r2, r3]) rfl ⟨rfl, b3 _ (extW.trans hE) (by omega)⟩
set_option maxHeartbeats 16000000 in
set_option maxRecDepth 100000 in
theorem qp_quo_neg2 (s u : ByteArray) (n : Nat) (a r : List UInt8) (hs : s.size ≤ 200) (h45 : s.data.toList = 45 :: u.data.toList) (hl : u.data.toList = a ++ r) (hn : a.length = n) (ha : Digs a) (hr : r = [] ∨ ∃ c b, r = c :: b ∧ ¬ Dig c) (hc : Canon a) (b : List UInt8) (h0 : r = 47 :: b) (hb : Digs b) (hbn : b ≠ []) (hbc : Canon b) (hb48 : ∀ t, b ≠ 48 :: t) (hq1 : (dv b : Int) ≠ 1) (hq2 : Nat.gcd (dv a) (dv b) ≠ 1) :
    Calls Tryz.prog 50 #[.string s] w (RetZE 2 w) := by
  have HQ1 := Lib.hid hq1
  clear hq1
  have HQ2 := Lib.hid hq2
  clear hq2
  obtain ⟨g0, g1, g2⟩ := get0 h45
  clear g2
  obtain ⟨c1, c2, c3⟩ := cut_neg (w := w) (s := s) (by omega) h45
  clear c3
  have hu : s.extract 1 s.size = u := bytes_ext c1
  have hne : s.toList.isEmpty = false := by rw [Lib.toList_data, h45]; rfl
  have t9 : ((s[0].toNat : Int) == 45) = true := by rw [g1]; rfl
  have hz : u.size ≤ 200 := by rw [← hu, c2]; have := Lib.size_eq s; rw [h45, List.length_cons] at this; have h2 := Lib.size_eq u; omega
  have HU := Lib.hid hu
  clear g1 c1 c2 hu h45
  have hsz := Lib.size_eq u
  rw [hl, List.length_append, hn] at hsz
  have hsz1 : u.size ≤ n + r.length := by omega
  have hsz2 : n + r.length ≤ u.size := by omega
  clear hsz
  have HG := Lib.hid (fun w => q_digits u w a r (by omega) hl ha hr)
  have HL := Lib.hid hl
  have HN := Lib.hid hn
  have HA := Lib.hid ha
  clear hl ha hr hn
  go_enter Tryz.func50, Tryz.ntmps50
  go_upto_region 1 with (fail)
  obtain ⟨W, hW, extW, bz, hzz⟩ := box1 w 27 #[Value.bool false, Value.slice none 0 0, Value.bool false, Value.slice none 0 0]
  rw [← hW]
  clear hW
  have t1 : decide ((65536 : Int) < (s.size : Int)) = false := decide_eq_false (by omega)
  go_wp2_with fail
  rw [HU.out]
  refine (HG.out _).mono ?_
  rintro e w0 ⟨rfl, hw0⟩
  subst hw0
  rw [HN.out]
  have HCA := Lib.hid hc
  have hn1 : 1 ≤ n := by
    rw [← HN.out]
    rcases hc with h | ⟨c, t, h, _⟩ <;> rw [h] <;> simp
  have hn0 : ((n : Int) == 0) = false := by rw [beq_eq_false_iff_ne]; omega
  have H48 := Lib.hid (fun (h1 : 1 < n) => show ((u[0]'(by omega)).toNat : Int) ≠ 48 from by
    rcases HCA.out with h | ⟨c, t, h, h2⟩
    · have := HN.out
      rw [h] at this
      simp at this
      omega
    · have hlc : u.data.toList = c :: (t ++ r) := by rw [HL.out, h]; rfl
      obtain ⟨_, g1, _⟩ := get0 hlc
      rw [g1]
      intro h3
      exact h2 (u8_48 (by omega)))
  clear hc
  go_upto_region 7 with (fail)
  go_cut [38] (fun p V => p = .bool false ∧ W = V)
  case first =>
    by_cases h1 : 1 < n
    · have h2 := H48.out h1
      have t2 : decide ((1 : Int) < (n : Int)) = true := decide_eq_true (by omega)
      have t3 : ((u[0].toNat : Int) == 48) = false := beq_eq_false_iff_ne.2 h2
      have g3 : 0 < u.size := by omega
      clear h2
      go_wp2_with fail
      go_meet
      exact ⟨rfl, rfl⟩
    · have t2 : decide ((1 : Int) < (n : Int)) = false := decide_eq_false (by omega)
      go_wp2_with fail
      go_meet
      exact ⟨rfl, rfl⟩
  case rest =>
  obtain ⟨rfl, rfl⟩ := hcut
  have c1 : (0 : Int) ≤ (n : Int) := by omega
  have c2 : (n : Int) ≤ (u.size : Int) := by omega
  have c3 : n ≤ u.size := by omega
  have hbf1 : (u.extract 0 n).data.toList = a := by rw [extract_to _ _ c3, HL.out, ← HN.out, List.take_left]
  have hrf1 : (u.extract n u.size).data.toList = r := by rw [extract_from, HL.out, ← HN.out, List.drop_left]
  obtain ⟨bf, hbf⟩ : ∃ bf, u.extract 0 n = bf := ⟨_, rfl⟩
  obtain ⟨rf, hrf⟩ : ∃ rf, u.extract n u.size = rf := ⟨_, rfl⟩
  rw [hbf] at hbf1
  rw [hrf] at hrf1
  have hbz : bf.size ≤ n := by rw [Lib.size_eq, hbf1, HN.out]; exact Nat.le_refl _
  have hrz := Lib.size_eq rf
  rw [hrf1] at hrz
  have hrz1 : rf.size ≤ r.length := by omega
  have hrz2 : r.length ≤ rf.size := by omega
  clear hrz
  have HBF := Lib.hid hbf
  have HRF := Lib.hid hrf
  have HB := Lib.hid hbf1
  have HR := Lib.hid hrf1
  clear hbf hrf hbf1 hrf1
  go_wp2_with fail
  rw [HBF.out]
  refine (q_ParseI bf (by omega) (by rw [HB.out]; exact HA.out) (by rw [HB.out]; exact HCA.out) (L := n) (by omega)).mono ?_
  rintro e wa ⟨s6, A6, n6, c6, rfl, h6, hxa⟩
  rw [HB.out] at h6
  go_upto_region 10 with (fail)
  refine at_world (fun V => Ext W V ∧ Box V wa.heap.size 24 #[.bool s6, .slice A6 n6 c6] ∧ NI V (dv a : Int) n s6 A6 n6 c6) ⟨hxa.alloc _, Box.new wa _ _, h6.ext ((Ext.refl wa).alloc _)⟩ ?_
  have hg6 : w.heap.size + 1 ≤ wa.heap.size := by have := hxa.size; omega
  generalize wa.heap.size = g6 at *
  clear hxa h6
  rintro V ⟨EV, b6, h6⟩
  replace bz := bz.ext EV
  replace extW := extW.trans EV
  clear EV
  go_wp2_with fail
  refine (q_FromInt 1 (by omega) (by omega)).mono ?_
  rintro e wb ⟨s8, A8, n8, c8, rfl, h8, hxb⟩
  go_upto_region 11 with (fail)
  refine at_world (fun U => Ext V U ∧ Box U wb.heap.size 24 #[.bool s8, .slice A8 n8 c8] ∧ NI U 1 2 s8 A8 n8 c8) ⟨hxb.alloc _, Box.new wb _ _, h8.ext ((Ext.refl wb).alloc _)⟩ ?_
  have hsz6 := hxb.size
  generalize wb.heap.size = g8 at *
  clear hxb h8
  rintro U ⟨EU, b8, h8⟩
  have hlt6 := b6.lt
  have hne68 : g6 ≠ g8 := by omega
  replace bz := bz.ext EU
  replace b6 := b6.ext EU
  replace h6 := h6.ext EU
  replace extW := extW.trans EU
  clear EU
  go_upto_region 13 with (fail)
  rw [HRF.out]
  have hrl : rf.data.toList = 47 :: b := by rw [HR.out, h0]
  have hre : rf.toList.isEmpty = false := by rw [Lib.toList_data, hrl]; rfl
  obtain ⟨g9, g91, g92⟩ := get0 hrl
  have t46 : ((rf[0].toNat : Int) == 46) = false := by rw [g91]; rfl
  have t47 : ((rf[0].toNat : Int) == 47) = true := by rw [g91]; rfl
  have hb1 : 1 ≤ b.length := List.length_pos_iff.2 hbn
  have hbr : ([] : List UInt8) = [] ∨ ∃ c t, [] = c :: t ∧ ¬ Dig c := .inl rfl
  obtain ⟨m, hm⟩ : ∃ m, List.length b = m := ⟨_, rfl⟩
  have hsf1 : (rf.extract 1 rf.size).data.toList = b := by rw [extract_from, hrl]; rfl
  obtain ⟨sf, hsf⟩ : ∃ sf, rf.extract 1 rf.size = sf := ⟨_, rfl⟩
  rw [hsf] at hsf1
  have hsz := Lib.size_eq sf
  rw [hsf1] at hsz
  have HG2 := Lib.hid (fun w => q_digits sf w b [] (by omega) (by rw [hsf1]; exact (List.append_nil b).symm) hb hbr)
  have HM := Lib.hid hm
  have HSF := Lib.hid hsf
  have HS1 := Lib.hid hsf1
  have hsz1' : sf.size ≤ b.length := by omega
  have hrs1 : rf.size ≤ b.length + 1 := by omega
  have hrs2 : b.length + 1 ≤ rf.size := by omega
  have t7 : decide ((1 : Int) < (rf.size : Int)) = true := decide_eq_true (by omega)
  have t8 : ((m : Int) == (rf.size : Int) - 1) = true := by rw [beq_iff_eq]; omega
  have gr1 : 1 < rf.size := by omega
  have t48 : ((rf[1].toNat : Int) != 48) = true := by
    rw [bne_iff_ne]
    intro h
    have e : rf[1] = rf.data.toList[1]'(by rw [← Lib.size_eq]; exact gr1) := rfl
    cases hbb : b with
    | nil => exact hbn hbb
    | cons c t =>
      have e2 : rf[1] = c := by rw [e]; simp only [hrl, hbb, List.getElem_cons_succ, List.getElem_cons_zero]
      rw [e2] at h
      exact hb48 t (hbb.trans (by rw [show c = 48 from u8_48 (by omega)]))
  have hsfz : sf.size ≤ 200 := by omega
  have HBD := Lib.hid hb
  have HBC := Lib.hid hbc
  have HB48 := Lib.hid hb48
  clear g91 g92 hb1 hm hsf hsf1 hsz hrl hb hbn hbr hbc hb48
  go_wp2_with fail
  rw [HSF.out]
  refine (HG2.out _).mono ?_
  rintro e w14 ⟨rfl, hw14⟩
  subst hw14
  rw [HM.out]
  go_wp2_with fail
  rw [HSF.out]
  refine (q_ParseI sf (by omega) (by rw [HS1.out]; exact HBD.out) (by rw [HS1.out]; exact HBC.out) (L := 200) (by omega)).mono ?_
  rintro e wp ⟨s16, A16, n16, c16, rfl, h16, hxp⟩
  rw [HS1.out] at h16
  replace bz := bz.ext hxp
  replace b6 := b6.ext hxp
  replace b8 := b8.ext hxp
  replace h6 := h6.ext hxp
  replace extW := extW.trans hxp
  clear hxp h8
  have z0 := b8.cell 0 _ rfl
  have z1 := b8.cell 1 _ rfl
  have f0 := b8.frozen 0
  have f1 := b8.frozen 1
  go_upto_region 23 with (fail)
  refine at_world (fun X => Ext w X ∧ Box X w.heap.size 27 #[Value.bool false, Value.slice none 0 0, Value.bool false, Value.slice none 0 0] ∧ Box X g6 24 #[.bool s6, .slice A6 n6 c6] ∧ Box X g8 24 #[.bool s16, .slice A16 n16 c16] ∧ NI X (dv a : Int) n s6 A6 n6 c6 ∧ NI X (dv b : Int) 200 s16 A16 n16 c16) ?_ ?_
  · have q1 := fin_dual (s := s16) (A := A16) (n := n16) (c := c16) b8
    exact ⟨q1.2.2.1 _ extW (by omega), q1.2.2.2 _ _ _ (by omega) bz, q1.2.2.2 _ _ _ hne68 b6, q1.1, q1.2.1 _ _ _ _ _ _ h6, q1.2.1 _ _ _ _ _ _ h16⟩
  clear extW bz b6 b8 h6 h16 z0 z1 f0 f1
  rintro X ⟨extW, bz, b6, b8, h6, h8⟩
  have b60 := b6.cell 0 (.bool s6) rfl
  have b61 := b6.cell 1 (.slice A6 n6 c6) rfl
  have b80 := b8.cell 0 (.bool s16) rfl
  have b81 := b8.cell 1 (.slice A16 n16 c16) rfl
  go_wp2_with fail
  refine (q_one h8).mono ?_
  rintro e X2 ⟨rfl, hxo⟩
  rw [decide_eq_false HQ1.out]
  replace bz := bz.ext hxo
  replace b6 := b6.ext hxo
  replace b8 := b8.ext hxo
  replace h6 := h6.ext hxo
  replace h8 := h8.ext hxo
  replace extW := extW.trans hxo
  clear hxo b60 b61 b80 b81
  have b60 := b6.cell 0 (.bool s6) rfl
  have b61 := b6.cell 1 (.slice A6 n6 c6) rfl
  have b80 := b8.cell 0 (.bool s16) rfl
  have b81 := b8.cell 1 (.slice A16 n16 c16) rfl
  go_wp2_with fail
  refine (q_GCD h6 h8 (by omega) (by omega)).mono ?_
  rintro e X3 ⟨s15, A15, n15, c15, rfl, hg, hxo⟩
  rw [Int.natAbs_natCast, Int.natAbs_natCast] at hg
  replace bz := bz.ext hxo
  replace b6 := b6.ext hxo
  replace b8 := b8.ext hxo
  replace h6 := h6.ext hxo
  replace h8 := h8.ext hxo
  replace extW := extW.trans hxo
  clear hxo b60 b61 b80 b81
  go_wp2_with fail
  refine (q_one hg).mono ?_
  rintro e X4 ⟨rfl, hxo⟩
  rw [decide_eq_false (show ¬ (((Nat.gcd (dv a) (dv b) : Nat) : Int) = 1) by have := HQ2.out; omega)]
  replace bz := bz.ext hxo
  replace b6 := b6.ext hxo
  replace b8 := b8.ext hxo
  replace h6 := h6.ext hxo
  replace h8 := h8.ext hxo
  replace extW := extW.trans hxo
  clear hxo hg
  have hE := Ext.refl X4
  have z0 := (bz.ext hE).cell 0 _ rfl
  have z1 := (bz.ext hE).cell 1 _ rfl
  have z2 := (bz.ext hE).cell 2 _ rfl
  have z3 := (bz.ext hE).cell 3 _ rfl
  have f0 := (bz.ext hE).frozen 0
  have f1 := (bz.ext hE).frozen 1
  have f2 := (bz.ext hE).frozen 2
  have f3 := (bz.ext hE).frozen 3
  go_wp2_with fail
  obtain ⟨b1, b2, b3, b4⟩ := fin_quad (s := false) (A := none) (n := 0) (c := 0) (t := false) (B := none) (m := 0) (d := 0) (bz.ext hE)
  have r0 := b1.cell 0 (.bool false) rfl
  have r1 := b1.cell 1 (.slice none 0 0) rfl
  have r2 := b1.cell 2 (.bool false) rfl
  have r3 := b1.cell 3 (.slice none 0 0) rfl
  unfold set4 at r0 r1 r2 r3
  refine bodyPost_ret (v := .tuple #[.agg #[.bool false, .slice none 0 0, .bool false, .slice none 0 0], .int .i64 2]) (by simp [results, Tryz.results50, go_sem, r0, r1, r2, r3]) rfl ⟨rfl, b3 _ (extW.trans hE) (by omega)⟩
end
end Go.Proofs.YtiioodgpkdbndaaGreatDoor
namespace Go.Proofs.YtiioodgpkdbndaaGreatDoor
open Go.RowKit
attribute [local go_sem ↓] Go.wp_at_zero Go.wp_at_succ
section
variable {w : World} {L : Nat}
set_option maxHeartbeats 16000000 in
set_option maxRecDepth 100000 in
theorem qp_d1_pos (u : ByteArray) (n : Nat) (a r : List UInt8) (hs : u.size ≤ 200) (hp : ∀ t, u.data.toList ≠ 45 :: t) (hl : u.data.toList = a ++ r) (hn : a.length = n) (ha : Digs a) (hr : r = [] ∨ ∃ c b, r = c :: b ∧ ¬ Dig c) (hu0 : u.data.toList ≠ []) (hc : Canon a) (b : List UInt8) (h0 : r = 46 :: b) (hb0 : b = []) :
    Calls Tryz.prog 50 #[.string u] w (RetZE 2 w) := by
  have hz : u.size ≤ 200 := hs
  have hne : u.toList.isEmpty = false := by
    rw [Lib.toList_data]
    cases h : u.data.toList with
    | nil => exact absurd h hu0
    | cons c t => rfl
  have g0 : 0 < u.size := by rw [Lib.size_eq]; exact List.length_pos_iff.2 hu0
  have t9 : ((u[0].toNat : Int) == 45) = false := by
    rw [beq_eq_false_iff_ne]
    intro h
    cases h2 : u.data.toList with
    | nil => exact hu0 h2
    | cons c t =>
      obtain ⟨_, g1, _⟩ := get0 h2
      rw [g1] at h
      exact hp t (by rw [h2]; congr 1; exact UInt8.toNat_inj.1 (by have : (45 : UInt8).toNat = 45 := rfl; omega))
  clear hp
  have hsz := Lib.size_eq u
  rw [hl, List.length_append, hn] at hsz
  have hsz1 : u.size ≤ n + r.length := by omega
  have hsz2 : n + r.length ≤ u.size := by omega
  clear hsz
  have HG := Lib.hid (fun w => q_digits u w a r (by omega) hl ha hr)
  have HL := Lib.hid hl
  have HN := Lib.hid hn
  have HA := Lib.hid ha
  clear hl ha hr hn
  go_enter Tryz.func50, Tryz.ntmps50
  go_upto_region 1 with (fail)
  obtain ⟨W, hW, extW, bz, hzz⟩ := box1 w 27 #[Value.bool false, Value.slice none 0 0, Value.bool false, Value.slice none 0 0]
  rw [← hW]
  clear hW
  have t1 : decide ((65536 : Int) < (u.size : Int)) = false := decide_eq_false (by omega)
  go_wp2_with fail
  refine (HG.out _).mono ?_
  rintro e w0 ⟨rfl, hw0⟩
  subst hw0
  rw [HN.out]
  have HCA := Lib.hid hc
  have hn1 : 1 ≤ n := by
    rw [← HN.out]
    rcases hc with h | ⟨c, t, h, _⟩ <;> rw [h] <;> simp
  have hn0 : ((n : Int) == 0) = false := by rw [beq_eq_false_iff_ne]; omega
  have H48 := Lib.hid (fun (h1 : 1 < n) => show ((u[0]'(by omega)).toNat : Int) ≠ 48 from by
    rcases HCA.out with h | ⟨c, t, h, h2⟩
    · have := HN.out
      rw [h] at this
      simp at this
      omega
    · have hlc : u.data.toList = c :: (t ++ r) := by rw [HL.out, h]; rfl
      obtain ⟨_, g1, _⟩ := get0 hlc
      rw [g1]
      intro h3
      exact h2 (u8_48 (by omega)))
  clear hc
  go_upto_region 7 with (fail)
  go_cut [38] (fun p V => p = .bool false ∧ W = V)
  case first =>
    by_cases h1 : 1 < n
    · have h2 := H48.out h1
      have t2 : decide ((1 : Int) < (n : Int)) = true := decide_eq_true (by omega)
      have t3 : ((u[0].toNat : Int) == 48) = false := beq_eq_false_iff_ne.2 h2
      have g3 : 0 < u.size := by omega
      clear h2
      go_wp2_with fail
      go_meet
      exact ⟨rfl, rfl⟩
    · have t2 : decide ((1 : Int) < (n : Int)) = false := decide_eq_false (by omega)
      go_wp2_with fail
      go_meet
      exact ⟨rfl, rfl⟩
  case rest =>
  obtain ⟨rfl, rfl⟩ := hcut
  have c1 : (0 : Int) ≤ (n : Int) := by omega
  have c2 : (n : Int) ≤ (u.size : Int) := by omega
  have c3 : n ≤ u.size := by omega
  have hbf1 : (u.extract 0 n).data.toList = a := by rw [extract_to _ _ c3, HL.out, ← HN.out, List.take_left]
  have hrf1 : (u.extract n u.size).data.toList = r := by rw [extract_from, HL.out, ← HN.out, List.drop_left]
  obtain ⟨bf, hbf⟩ : ∃ bf, u.extract 0 n = bf := ⟨_, rfl⟩
  obtain ⟨rf, hrf⟩ : ∃ rf, u.extract n u.size = rf := ⟨_, rfl⟩
  rw [hbf] at hbf1
  rw [hrf] at hrf1
  have hbz : bf.size ≤ n := by rw [Lib.size_eq, hbf1, HN.out]; exact Nat.le_refl _
  have hrz := Lib.size_eq rf
  rw [hrf1] at hrz
  have hrz1 : rf.size ≤ r.length := by omega
  have hrz2 : r.length ≤ rf.size := by omega
  clear hrz
  have HBF := Lib.hid hbf
  have HRF := Lib.hid hrf
  have HB := Lib.hid hbf1
  have HR := Lib.hid hrf1
  clear hbf hrf hbf1 hrf1
  go_wp2_with fail
  rw [HBF.out]
  refine (q_ParseI bf (by omega) (by rw [HB.out]; exact HA.out) (by rw [HB.out]; exact HCA.out) (L := n) (by omega)).mono ?_
  rintro e wa ⟨s6, A6, n6, c6, rfl, h6, hxa⟩
  rw [HB.out] at h6
  go_upto_region 10 with (fail)
  refine at_world (fun V => Ext W V ∧ Box V wa.heap.size 24 #[.bool s6, .slice A6 n6 c6] ∧ NI V (dv a : Int) n s6 A6 n6 c6) ⟨hxa.alloc _, Box.new wa _ _, h6.ext ((Ext.refl wa).alloc _)⟩ ?_
  have hg6 : w.heap.size + 1 ≤ wa.heap.size := by have := hxa.size; omega
  generalize wa.heap.size = g6 at *
  clear hxa h6
  rintro V ⟨EV, b6, h6⟩
  replace bz := bz.ext EV
  replace extW := extW.trans EV
  clear EV
  go_wp2_with fail
  refine (q_FromInt 1 (by omega) (by omega)).mono ?_
  rintro e wb ⟨s8, A8, n8, c8, rfl, h8, hxb⟩
  go_upto_region 11 with (fail)
  refine at_world (fun U => Ext V U ∧ Box U wb.heap.size 24 #[.bool s8, .slice A8 n8 c8] ∧ NI U 1 2 s8 A8 n8 c8) ⟨hxb.alloc _, Box.new wb _ _, h8.ext ((Ext.refl wb).alloc _)⟩ ?_
  have hsz6 := hxb.size
  generalize wb.heap.size = g8 at *
  clear hxb h8
  rintro U ⟨EU, b8, h8⟩
  have hlt6 := b6.lt
  have hne68 : g6 ≠ g8 := by omega
  replace bz := bz.ext EU
  replace b6 := b6.ext EU
  replace h6 := h6.ext EU
  replace extW := extW.trans EU
  clear EU
  go_upto_region 13 with (fail)
  rw [HRF.out]
  have hrl : rf.data.toList = 46 :: b := by rw [HR.out, h0]
  have hre : rf.toList.isEmpty = false := by rw [Lib.toList_data, hrl]; rfl
  obtain ⟨g9, g91, g92⟩ := get0 hrl
  have t46 : ((rf[0].toNat : Int) == 46) = true := by rw [g91]; rfl
  have t47 : ((rf[0].toNat : Int) == 47) = false := by rw [g91]; rfl
  rw [hb0] at g92
  have t7 : decide ((1 : Int) < (rf.size : Int)) = false := decide_eq_false (by simp at g92; omega)
  clear g91 g92 hrl
  have hE := Ext.refl U
  have z0 := (bz.ext hE).cell 0 _ rfl
  have z1 := (bz.ext hE).cell 1 _ rfl
  have z2 := (bz.ext hE).cell 2 _ rfl
  have z3 := (bz.ext hE).cell 3 _ rfl
  have f0 := (bz.ext hE).frozen 0
  have f1 := (bz.ext hE).frozen 1
  have f2 := (bz.ext hE).frozen 2
  have f3 := (bz.ext hE).frozen 3
  go_wp2_with fail
  obtain ⟨b1, b2, b3, b4⟩ := fin_quad (s := false) (A := none) (n := 0) (c := 0) (t := false) (B := none) (m := 0) (d := 0) (bz.ext hE)
  have r0 := b1.cell 0 (.bool false) rfl
  have r1 := b1.cell 1 (.slice none 0 0) rfl
  have r2 := b1.cell 2 (.bool false) rfl
  have r3 := b1.cell 3 (.slice none 0 0) rfl
  unfold set4 at r0 r1 r2 r3
  refine bodyPost_ret (v := .tuple #[.agg #[.bool false, .slice none 0 0, .bool false, .slice none 0 0], .int .i64 2]) (by simp [results, Tryz.results50, go_sem, r0, r1, r2, r3]) rfl ⟨rfl, b3 _ (extW.trans hE) (by omega)⟩
set_option maxHeartbeats 16000000 in
set_option maxRecDepth 100000 in
theorem qp_d2_pos (u : ByteArray) (n : Nat) (a r : List UInt8) (hs : u.size ≤ 200) (hp : ∀ t, u.data.toList ≠ 45 :: t) (hl : u.data.toList = a ++ r) (hn : a.length = n) (ha : Digs a) (hr : r = [] ∨ ∃ c b, r = c :: b ∧ ¬ Dig c) (hu0 : u.data.toList ≠ []) (hc : Canon a) (b : List UInt8) (h0 : r = 46 :: b) (a' r' : List UInt8) (hbe : b = a' ++ r') (hb : Digs a') (hbr : r' = [] ∨ ∃ c t, r' = c :: t ∧ ¬ Dig c) (hr0 : r' ≠ []) :
    Calls Tryz.prog 50 #[.string u] w (RetZE 2 w) := by
  have hz : u.size ≤ 200 := hs
  have hne : u.toList.isEmpty = false := by
    rw [Lib.toList_data]
    cases h : u.data.toList with
    | nil => exact absurd h hu0
    | cons c t => rfl
  have g0 : 0 < u.size := by rw [Lib.size_eq]; exact List.length_pos_iff.2 hu0
  have t9 : ((u[0].toNat : Int) == 45) = false := by
    rw [beq_eq_false_iff_ne]
    intro h
    cases h2 : u.data.toList with
    | nil => exact hu0 h2
    | cons c t =>
      obtain ⟨_, g1, _⟩ := get0 h2
      rw [g1] at h
      exact hp t (by rw [h2]; congr 1; exact UInt8.toNat_inj.1 (by have : (45 : UInt8).toNat = 45 := rfl; omega))
  clear hp
  have hsz := Lib.size_eq u
  rw [hl, List.length_append, hn] at hsz
  have hsz1 : u.size ≤ n + r.length := by omega
  have hsz2 : n + r.length ≤ u.size := by omega
  clear hsz
  have HG := Lib.hid (fun w => q_digits u w a r (by omega) hl ha hr)
  have HL := Lib.hid hl
  have HN := Lib.hid hn
  have HA := Lib.hid ha
  clear hl ha hr hn
  go_enter Tryz.func50, Tryz.ntmps50
  go_upto_region 1 with (fail)
  obtain ⟨W, hW, extW, bz, hzz⟩ := box1 w 27 #[Value.bool false, Value.slice none 0 0, Value.bool false, Value.slice none 0 0]
  rw [← hW]
  clear hW
  have t1 : decide ((65536 : Int) < (u.size : Int)) = false := decide_eq_false (by omega)
  go_wp2_with fail
  refine (HG.out _).mono ?_
  rintro e w0 ⟨rfl, hw0⟩
  subst hw0
  rw [HN.out]
  have HCA := Lib.hid hc
  have hn1 : 1 ≤ n := by
    rw [← HN.out]
    rcases hc with h | ⟨c, t, h, _⟩ <;> rw [h] <;> simp
  have hn0 : ((n : Int) == 0) = false := by rw [beq_eq_false_iff_ne]; omega
  have H48 := Lib.hid (fun (h1 : 1 < n) => show ((u[0]'(by omega)).toNat : Int) ≠ 48 from by
    rcases HCA.out with h | ⟨c, t, h, h2⟩
    · have := HN.out
      rw [h] at this
      simp at this
      omega
    · have hlc : u.data.toList = c :: (t ++ r) := by rw [HL.out, h]; rfl
      obtain ⟨_, g1, _⟩ := get0 hlc
      rw [g1]
      intro h3
      exact h2 (u8_48 (by omega)))
  clear hc
  go_upto_region 7 with (fail)
  go_cut [38] (fun p V => p = .bool false ∧ W = V)
  case first =>
    by_cases h1 : 1 < n
    · have h2 := H48.out h1
      have t2 : decide ((1 : Int) < (n : Int)) = true := decide_eq_true (by omega)
      have t3 : ((u[0].toNat : Int) == 48) = false := beq_eq_false_iff_ne.2 h2
      have g3 : 0 < u.size := by omega
      clear h2
      go_wp2_with fail
      go_meet
      exact ⟨rfl, rfl⟩
    · have t2 : decide ((1 : Int) < (n : Int)) = false := decide_eq_false (by omega)
      go_wp2_with fail
      go_meet
      exact ⟨rfl, rfl⟩
  case rest =>
  obtain ⟨rfl, rfl⟩ := hcut
  have c1 : (0 : Int) ≤ (n : Int) := by omega
  have c2 : (n : Int) ≤ (u.size : Int) := by omega
  have c3 : n ≤ u.size := by omega
  have hbf1 : (u.extract 0 n).data.toList = a := by rw [extract_to _ _ c3, HL.out, ← HN.out, List.take_left]
  have hrf1 : (u.extract n u.size).data.toList = r := by rw [extract_from, HL.out, ← HN.out, List.drop_left]
  obtain ⟨bf, hbf⟩ : ∃ bf, u.extract 0 n = bf := ⟨_, rfl⟩
  obtain ⟨rf, hrf⟩ : ∃ rf, u.extract n u.size = rf := ⟨_, rfl⟩
  rw [hbf] at hbf1
  rw [hrf] at hrf1
  have hbz : bf.size ≤ n := by rw [Lib.size_eq, hbf1, HN.out]; exact Nat.le_refl _
  have hrz := Lib.size_eq rf
  rw [hrf1] at hrz
  have hrz1 : rf.size ≤ r.length := by omega
  have hrz2 : r.length ≤ rf.size := by omega
  clear hrz
  have HBF := Lib.hid hbf
  have HRF := Lib.hid hrf
  have HB := Lib.hid hbf1
  have HR := Lib.hid hrf1
  clear hbf hrf hbf1 hrf1
  go_wp2_with fail
  rw [HBF.out]
  refine (q_ParseI bf (by omega) (by rw [HB.out]; exact HA.out) (by rw [HB.out]; exact HCA.out) (L := n) (by omega)).mono ?_
  rintro e wa ⟨s6, A6, n6, c6, rfl, h6, hxa⟩
  rw [HB.out] at h6
  go_upto_region 10 with (fail)
  refine at_world (fun V => Ext W V ∧ Box V wa.heap.size 24 #[.bool s6, .slice A6 n6 c6] ∧ NI V (dv a : Int) n s6 A6 n6 c6) ⟨hxa.alloc _, Box.new wa _ _, h6.ext ((Ext.refl wa).alloc _)⟩ ?_
  have hg6 : w.heap.size + 1 ≤ wa.heap.size := by have := hxa.size; omega
  generalize wa.heap.size = g6 at *
  clear hxa h6
  rintro V ⟨EV, b6, h6⟩
  replace bz := bz.ext EV
  replace extW := extW.trans EV
  clear EV
  go_wp2_with fail
  refine (q_FromInt 1 (by omega) (by omega)).mono ?_
  rintro e wb ⟨s8, A8, n8, c8, rfl, h8, hxb⟩
  go_upto_region 11 with (fail)
  refine at_world (fun U => Ext V U ∧ Box U wb.heap.size 24 #[.bool s8, .slice A8 n8 c8] ∧ NI U 1 2 s8 A8 n8 c8) ⟨hxb.alloc _, Box.new wb _ _, h8.ext ((Ext.refl wb).alloc _)⟩ ?_
  have hsz6 := hxb.size
  generalize wb.heap.size = g8 at *
  clear hxb h8
  rintro U ⟨EU, b8, h8⟩
  have hlt6 := b6.lt
  have hne68 : g6 ≠ g8 := by omega
  replace bz := bz.ext EU
  replace b6 := b6.ext EU
  replace h6 := h6.ext EU
  replace extW := extW.trans EU
  clear EU
  go_upto_region 13 with (fail)
  rw [HRF.out]
  have hrl : rf.data.toList = 46 :: b := by rw [HR.out, h0]
  have hre : rf.toList.isEmpty = false := by rw [Lib.toList_data, hrl]; rfl
  obtain ⟨g9, g91, g92⟩ := get0 hrl
  have t46 : ((rf[0].toNat : Int) == 46) = true := by rw [g91]; rfl
  have t47 : ((rf[0].toNat : Int) == 47) = false := by rw [g91]; rfl
  have hr1 : 1 ≤ r'.length := List.length_pos_iff.2 hr0
  obtain ⟨m, hm⟩ : ∃ m, List.length a' = m := ⟨_, rfl⟩
  have hsf1 : (rf.extract 1 rf.size).data.toList = b := by rw [extract_from, hrl]; rfl
  obtain ⟨sf, hsf⟩ : ∃ sf, rf.extract 1 rf.size = sf := ⟨_, rfl⟩
  rw [hsf] at hsf1
  have hsz := Lib.size_eq sf
  rw [hsf1] at hsz
  have HG2 := Lib.hid (fun w => q_digits sf w a' r' (by omega) (by rw [hsf1]; exact hbe) hb hbr)
  have HM := Lib.hid hm
  have HSF := Lib.hid hsf
  have HS1 := Lib.hid hsf1
  have hsz1' : sf.size ≤ b.length := by omega
  have hrs1 : rf.size ≤ b.length + 1 := by omega
  have hrs2 : b.length + 1 ≤ rf.size := by omega
  have hbl : b.length = a'.length + r'.length := by rw [hbe, List.length_append]
  have t7 : decide ((1 : Int) < (rf.size : Int)) = true := decide_eq_true (by omega)
  have t8 : ((m : Int) == (rf.size : Int) - 1) = false := by rw [beq_eq_false_iff_ne]; omega
  have gr1 : 1 < rf.size := by omega
  clear g91 g92 hm hsf hsf1 hsz hrl hb hbr hbl hbe
  go_wp2_with fail
  rw [HSF.out]
  refine (HG2.out _).mono ?_
  rintro e w14 ⟨rfl, hw14⟩
  subst hw14
  rw [HM.out]
  have hE := Ext.refl U
  have z0 := (bz.ext hE).cell 0 _ rfl
  have z1 := (bz.ext hE).cell 1 _ rfl
  have z2 := (bz.ext hE).cell 2 _ rfl
  have z3 := (bz.ext hE).cell 3 _ rfl
  have f0 := (bz.ext hE).frozen 0
  have f1 := (bz.ext hE).frozen 1
  have f2 := (bz.ext hE).frozen 2
  have f3 := (bz.ext hE).frozen 3
  go_wp2_with fail
  obtain ⟨b1, b2, b3, b4⟩ := fin_quad (s := false) (A := none) (n := 0) (c := 0) (t := false) (B := none) (m := 0) (d := 0) (bz.ext hE)
  have r0 := b1.cell 0 (.bool false) rfl
  have r1 := b1.cell 1 (.slice none 0 0) rfl
  have r2 := b1.cell 2 (.bool false) rfl
  have r3 := b1.cell 3 (.slice none 0 0) rfl
  unfold set4 at r0 r1 r2 r3
  refine bodyPost_ret (v := .tuple #[.agg #[.bool false, .slice none 0 0, .bool false, .slice none 0 0], .int .i64 2]) (by simp [results, Tryz.results50, go_sem, r0, r1, r2, r3]) rfl ⟨rfl, b3 _ (extW.trans hE) (by omega)⟩
set_option maxHeartbeats 16000000 in
set_option maxRecDepth 100000 in
theorem qp_d3_pos (u : ByteArray) (n : Nat) (a r : List UInt8) (hs : u.size ≤ 200) (hp : ∀ t, u.data.toList ≠ 45 :: t) (hl : u.data.toList = a ++ r) (hn : a.length = n) (ha : Digs a) (hr : r = [] ∨ ∃ c b, r = c :: b ∧ ¬ Dig c) (hu0 : u.data.toList ≠ []) (hc : Canon a) (b : List UInt8) (h0 : r = 47 :: b) (hb0 : b = []) :
    Calls Tryz.prog 50 #[.string u] w (RetZE 2 w) := by
  have hz : u.size ≤ 200 := hs
  have hne : u.toList.isEmpty = false := by
    rw [Lib.toList_data]
    cases h : u.data.toList with
    | nil => exact absurd h hu0
    | cons c t => rfl
  have g0 : 0 < u.size := by rw [Lib.size_eq]; exact List.length_pos_iff.2 hu0
  have t9 : ((u[0].toNat : Int) == 45) = false := by
    rw [beq_eq_false_iff_ne]
    intro h
    cases h2 : u.data.toList with
    | nil => exact hu0 h2
    | cons c t =>
      obtain ⟨_, g1, _⟩ := get0 h2
      rw [g1] at h
      exact hp t (by rw [h2]; congr 1; exact UInt8.toNat_inj.1 (by have : (45 : UInt8).toNat = 45 := rfl; omega))
  clear hp
  have hsz := Lib.size_eq u
  rw [hl, List.length_append, hn] at hsz
  have hsz1 : u.size ≤ n + r.length := by omega
  have hsz2 : n + r.length ≤ u.size := by omega
  clear hsz
  have HG := Lib.hid (fun w => q_digits u w a r (by omega) hl ha hr)
  have HL := Lib.hid hl
  have HN := Lib.hid hn
  have HA := Lib.hid ha
  clear hl ha hr hn
  go_enter Tryz.func50, Tryz.ntmps50
  go_upto_region 1 with (fail)
  obtain ⟨W, hW, extW, bz, hzz⟩ := box1 w 27 #[Value.bool false, Value.slice none 0 0, Value.bool false, Value.slice none 0 0]
  rw [← hW]
  clear hW
  have t1 : decide ((65536 : Int) < (u.size : Int)) = false := decide_eq_false (by omega)
  go_wp2_with fail
  refine (HG.out _).mono ?_
  rintro e w0 ⟨rfl, hw0⟩
  subst hw0
  rw [HN.out]
  have HCA := Lib.hid hc
  have hn1 : 1 ≤ n := by
    rw [← HN.out]
    rcases hc with h | ⟨c, t, h, _⟩ <;> rw [h] <;> simp
  have hn0 : ((n : Int) == 0) = false := by rw [beq_eq_false_iff_ne]; omega
  have H48 := Lib.hid (fun (h1 : 1 < n) => show ((u[0]'(by omega)).toNat : Int) ≠ 48 from by
    rcases HCA.out with h | ⟨c, t, h, h2⟩
    · have := HN.out
      rw [h] at this
      simp at this
      omega
    · have hlc : u.data.toList = c :: (t ++ r) := by rw [HL.out, h]; rfl
      obtain ⟨_, g1, _⟩ := get0 hlc
      rw [g1]
      intro h3
      exact h2 (u8_48 (by omega)))
  clear hc
  go_upto_region 7 with (fail)
  go_cut [38] (fun p V => p = .bool false ∧ W = V)
  case first =>
    by_cases h1 : 1 < n
    · have h2 := H48.out h1
      have t2 : decide ((1 : Int) < (n : Int)) = true := decide_eq_true (by omega)
      have t3 : ((u[0].toNat : Int) == 48) = false := beq_eq_false_iff_ne.2 h2
      have g3 : 0 < u.size := by omega
      clear h2
      go_wp2_with fail
      go_meet
      exact ⟨rfl, rfl⟩
    · have t2 : decide ((1 : Int) < (n : Int)) = false := decide_eq_false (by omega)
      go_wp2_with fail
      go_meet
      exact ⟨rfl, rfl⟩
  case rest =>
  obtain ⟨rfl, rfl⟩ := hcut
  have c1 : (0 : Int) ≤ (n : Int) := by omega
  have c2 : (n : Int) ≤ (u.size : Int) := by omega
  have c3 : n ≤ u.size := by omega
  have hbf1 : (u.extract 0 n).data.toList = a := by rw [extract_to _ _ c3, HL.out, ← HN.out, List.take_left]
  have hrf1 : (u.extract n u.size).data.toList = r := by rw [extract_from, HL.out, ← HN.out, List.drop_left]
  obtain ⟨bf, hbf⟩ : ∃ bf, u.extract 0 n = bf := ⟨_, rfl⟩
  obtain ⟨rf, hrf⟩ : ∃ rf, u.extract n u.size = rf := ⟨_, rfl⟩
  rw [hbf] at hbf1
  rw [hrf] at hrf1
  have hbz : bf.size ≤ n := by rw [Lib.size_eq, hbf1, HN.out]; exact Nat.le_refl _
  have hrz := Lib.size_eq rf
  rw [hrf1] at hrz
  have hrz1 : rf.size ≤ r.length := by omega
  have hrz2 : r.length ≤ rf.size := by omega
  clear hrz
  have HBF := Lib.hid hbf
  have HRF := Lib.hid hrf
  have HB := Lib.hid hbf1
  have HR := Lib.hid hrf1
  clear hbf hrf hbf1 hrf1
  go_wp2_with fail
  rw [HBF.out]
  refine (q_ParseI bf (by omega) (by rw [HB.out]; exact HA.out) (by rw [HB.out]; exact HCA.out) (L := n) (by omega)).mono ?_
  rintro e wa ⟨s6, A6, n6, c6, rfl, h6, hxa⟩
  rw [HB.out] at h6
  go_upto_region 10 with (fail)
  refine at_world (fun V => Ext W V ∧ Box V wa.heap.size 24 #[.bool s6, .slice A6 n6 c6] ∧ NI V (dv a : Int) n s6 A6 n6 c6) ⟨hxa.alloc _, Box.new wa _ _, h6.ext ((Ext.refl wa).alloc _)⟩ ?_
  have hg6 : w.heap.size + 1 ≤ wa.heap.size := by have := hxa.size; omega
  generalize wa.heap.size = g6 at *
  clear hxa h6
  rintro V ⟨EV, b6, h6⟩
  replace bz := bz.ext EV
  replace extW := extW.trans EV
  clear EV
  go_wp2_with fail
  refine (q_FromInt 1 (by omega) (by omega)).mono ?_
  rintro e wb ⟨s8, A8, n8, c8, rfl, h8, hxb⟩
  go_upto_region 11 with (fail)
  refine at_world (fun U => Ext V U ∧ Box U wb.heap.size 24 #[.bool s8, .slice A8 n8 c8] ∧ NI U 1 2 s8 A8 n8 c8) ⟨hxb.alloc _, Box.new wb _ _, h8.ext ((Ext.refl wb).alloc _)⟩ ?_
  have hsz6 := hxb.size
  generalize wb.heap.size = g8 at *
  clear hxb h8
  rintro U ⟨EU, b8, h8⟩
  have hlt6 := b6.lt
  have hne68 : g6 ≠ g8 := by omega
  replace bz := bz.ext EU
  replace b6 := b6.ext EU
  replace h6 := h6.ext EU
  replace extW := extW.trans EU
  clear EU
  go_upto_region 13 with (fail)
  rw [HRF.out]
  have hrl : rf.data.toList = 47 :: b := by rw [HR.out, h0]
  have hre : rf.toList.isEmpty = false := by rw [Lib.toList_data, hrl]; rfl
  obtain ⟨g9, g91, g92⟩ := get0 hrl
  have t46 : ((rf[0].toNat : Int) == 46) = false := by rw [g91]; rfl
  have t47 : ((rf[0].toNat : Int) == 47) = true := by rw [g91]; rfl
  rw [hb0] at g92
  have t7 : decide ((1 : Int) < (rf.size : Int)) = false := decide_eq_false (by simp at g92; omega)
  clear g91 g92 hrl
  have hE := Ext.refl U
  have z0 := (bz.ext hE).cell 0 _ rfl
  have z1 := (bz.ext hE).cell 1 _ rfl
  have z2 := (bz.ext hE).cell 2 _ rfl
  have z3 := (bz.ext hE).cell 3 _ rfl
  have f0 := (bz.ext hE).frozen 0
  have f1 := (bz.ext hE).frozen 1
  have f2 := (bz.ext hE).frozen 2
  have f3 := (bz.ext hE).frozen 3
  go_wp2_with fail
  obtain ⟨b1, b2, b3, b4⟩ := fin_quad (s := false) (A := none) (n := 0) (c := 0) (t := false) (B := none) (m := 0) (d := 0) (bz.ext hE)
  have r0 := b1.cell 0 (.bool false) rfl
  have r1 := b1.cell 1 (.slice none 0 0) rfl
  have r2 := b1.cell 2 (.bool false) rfl
  have r3 := b1.cell 3 (.slice none 0 0) rfl
  unfold set4 at r0 r1 r2 r3
  refine bodyPost_ret (v := .tuple #[.agg #[.bool false, .slice none 0 0, .bool false, .slice none 0 0], .int .i64 2]) (by simp [results, Tryz.results50, go_sem, r0, r1, r2, r3]) rfl ⟨rfl, b3 _ (extW.trans hE) (by omega)⟩
set_option maxHeartbeats 16000000 in
set_option maxRecDepth 100000 in
theorem qp_d4_pos (u : ByteArray) (n : Nat) (a r : List UInt8) (hs : u.size ≤ 200) (hp : ∀ t, u.data.toList ≠ 45 :: t) (hl : u.data.toList = a ++ r) (hn : a.length = n) (ha : Digs a) (hr : r = [] ∨ ∃ c b, r = c :: b ∧ ¬ Dig c) (hu0 : u.data.toList ≠ []) (hc : Canon a) (b : List UInt8) (h0 : r = 47 :: b) (a' r' : List UInt8) (hbe : b = a' ++ r') (hb : Digs a') (hbr : r' = [] ∨ ∃ c t, r' = c :: t ∧ ¬ Dig c) (hr0 : r' ≠ []) :
    Calls Tryz.prog 50 #[.string u] w (RetZE 2 w) := by
  have hz : u.size ≤ 200 := hs
  have hne : u.toList.isEmpty = false := by
    rw [Lib.toList_data]
    cases h : u.data.toList with
    | nil => exact absurd h hu0
    | cons c t => rfl
  have g0 : 0 < u.size := by rw [Lib.size_eq]; exact List.length_pos_iff.2 hu0
  have t9 : ((u[0].toNat : Int) == 45) = false := by
    rw [beq_eq_false_iff_ne]
    intro h
    cases h2 : u.data.toList with
    | nil => exact hu0 h2
    | cons c t =>
      obtain ⟨_, g1, _⟩ := get0 h2
      rw [g1] at h
      exact hp t (by rw [h2]; congr 1; exact UInt8.toNat_inj.1 (by have : (45 : UInt8).toNat = 45 := rfl; omega))
  clear hp
  have hsz := Lib.size_eq u
  rw [hl, List.length_append, hn] at hsz
  have hsz1 : u.size ≤ n + r.length := by omega
  have hsz2 : n + r.length ≤ u.size := by omega
  clear hsz
  have HG := Lib.hid (fun w => q_digits u w a r (by omega) hl ha hr)
  have HL := Lib.hid hl
  have HN := Lib.hid hn
  have HA := Lib.hid ha
  clear hl ha hr hn
  go_enter Tryz.func50, Tryz.ntmps50
  go_upto_region 1 with (fail)
  obtain ⟨W, hW, extW, bz, hzz⟩ := box1 w 27 #[Value.bool false, Value.slice none 0 0, Value.bool false, Value.slice none 0 0]
  rw [← hW]
  clear hW
  have t1 : decide ((65536 : Int) < (u.size : Int)) = false := decide_eq_false (by omega)
  go_wp2_with fail
  refine (HG.out _).mono ?_
  rintro e w0 ⟨rfl, hw0⟩
  subst hw0
  rw [HN.out]
  have HCA := Lib.hid hc
  have hn1 : 1 ≤ n := by
    rw [← HN.out]
    rcases hc with h | ⟨c, t, h, _⟩ <;> rw [h] <;> simp
  have hn0 : ((n : Int) == 0) = false := by rw [beq_eq_false_iff_ne]; omega
  have H48 := Lib.hid (fun (h1 : 1 < n) => show ((u[0]'(by omega)).toNat : Int) ≠ 48 from by
    rcases HCA.out with h | ⟨c, t, h, h2⟩
    · have := HN.out
      rw [h] at this
      simp at this
      omega
    · have hlc : u.data.toList = c :: (t ++ r) := by rw [HL.out, h]; rfl
      obtain ⟨_, g1, _⟩ := get0 hlc
      rw [g1]
      intro h3
      exact h2 (u8_48 (by omega)))
  clear hc
  go_upto_region 7 with (fail)
  go_cut [38] (fun p V => p = .bool false ∧ W = V)
  case first =>
    by_cases h1 : 1 < n
    · have h2 := H48.out h1
      have t2 : decide ((1 : Int) < (n : Int)) = true := decide_eq_true (by omega)
      have t3 : ((u[0].toNat : Int) == 48) = false := beq_eq_false_iff_ne.2 h2
      have g3 : 0 < u.size := by omega
      clear h2
      go_wp2_with fail
      go_meet
      exact ⟨rfl, rfl⟩
    · have t2 : decide ((1 : Int) < (n : Int)) = false := decide_eq_false (by omega)
      go_wp2_with fail
      go_meet
      exact ⟨rfl, rfl⟩
  case rest =>
  obtain ⟨rfl, rfl⟩ := hcut
  have c1 : (0 : Int) ≤ (n : Int) := by omega
  have c2 : (n : Int) ≤ (u.size : Int) := by omega
  have c3 : n ≤ u.size := by omega
  have hbf1 : (u.extract 0 n).data.toList = a := by rw [extract_to _ _ c3, HL.out, ← HN.out, List.take_left]
  have hrf1 : (u.extract n u.size).data.toList = r := by rw [extract_from, HL.out, ← HN.out, List.drop_left]
  obtain ⟨bf, hbf⟩ : ∃ bf, u.extract 0 n = bf := ⟨_, rfl⟩
  obtain ⟨rf, hrf⟩ : ∃ rf, u.extract n u.size = rf := ⟨_, rfl⟩
  rw [hbf] at hbf1
  rw [hrf] at hrf1
  have hbz : bf.size ≤ n := by rw [Lib.size_eq, hbf1, HN.out]; exact Nat.le_refl _
  have hrz := Lib.size_eq rf
  rw [hrf1] at hrz
  have hrz1 : rf.size ≤ r.length := by omega
  have hrz2 : r.length ≤ rf.size := by omega
  clear hrz
  have HBF := Lib.hid hbf
  have HRF := Lib.hid hrf
  have HB := Lib.hid hbf1
  have HR := Lib.hid hrf1
  clear hbf hrf hbf1 hrf1
  go_wp2_with fail
  rw [HBF.out]
  refine (q_ParseI bf (by omega) (by rw [HB.out]; exact HA.out) (by rw [HB.out]; exact HCA.out) (L := n) (by omega)).mono ?_
  rintro e wa ⟨s6, A6, n6, c6, rfl, h6, hxa⟩
  rw [HB.out] at h6
  go_upto_region 10 with (fail)
  refine at_world (fun V => Ext W V ∧ Box V wa.heap.size 24 #[.bool s6, .slice A6 n6 c6] ∧ NI V (dv a : Int) n s6 A6 n6 c6) ⟨hxa.alloc _, Box.new wa _ _, h6.ext ((Ext.refl wa).alloc _)⟩ ?_
  have hg6 : w.heap.size + 1 ≤ wa.heap.size := by have := hxa.size; omega
  generalize wa.heap.size = g6 at *
  clear hxa h6
  rintro V ⟨EV, b6, h6⟩
  replace bz := bz.ext EV
  replace extW := extW.trans EV
  clear EV
  go_wp2_with fail
  refine (q_FromInt 1 (by omega) (by omega)).mono ?_
  rintro e wb ⟨s8, A8, n8, c8, rfl, h8, hxb⟩
  go_upto_region 11 with (fail)
  refine at_world (fun U => Ext V U ∧ Box U wb.heap.size 24 #[.bool s8, .slice A8 n8 c8] ∧ NI U 1 2 s8 A8 n8 c8) ⟨hxb.alloc _, Box.new wb _ _, h8.ext ((Ext.refl wb).alloc _)⟩ ?_
  have hsz6 := hxb.size
  generalize wb.heap.size = g8 at *
  clear hxb h8
  rintro U ⟨EU, b8, h8⟩
  have hlt6 := b6.lt
  have hne68 : g6 ≠ g8 := by omega
  replace bz := bz.ext EU
  replace b6 := b6.ext EU
  replace h6 := h6.ext EU
  replace extW := extW.trans EU
  clear EU
  go_upto_region 13 with (fail)
  rw [HRF.out]
  have hrl : rf.data.toList = 47 :: b := by rw [HR.out, h0]
  have hre : rf.toList.isEmpty = false := by rw [Lib.toList_data, hrl]; rfl
  obtain ⟨g9, g91, g92⟩ := get0 hrl
  have t46 : ((rf[0].toNat : Int) == 46) = false := by rw [g91]; rfl
  have t47 : ((rf[0].toNat : Int) == 47) = true := by rw [g91]; rfl
  have hr1 : 1 ≤ r'.length := List.length_pos_iff.2 hr0
  obtain ⟨m, hm⟩ : ∃ m, List.length a' = m := ⟨_, rfl⟩
  have hsf1 : (rf.extract 1 rf.size).data.toList = b := by rw [extract_from, hrl]; rfl
  obtain ⟨sf, hsf⟩ : ∃ sf, rf.extract 1 rf.size = sf := ⟨_, rfl⟩
  rw [hsf] at hsf1
  have hsz := Lib.size_eq sf
  rw [hsf1] at hsz
  have HG2 := Lib.hid (fun w => q_digits sf w a' r' (by omega) (by rw [hsf1]; exact hbe) hb hbr)
  have HM := Lib.hid hm
  have HSF := Lib.hid hsf
  have HS1 := Lib.hid hsf1
  have hsz1' : sf.size ≤ b.length := by omega
  have hrs1 : rf.size ≤ b.length + 1 := by omega
  have hrs2 : b.length + 1 ≤ rf.size := by omega
  have hbl : b.length = a'.length + r'.length := by rw [hbe, List.length_append]
  have t7 : decide ((1 : Int) < (rf.size : Int)) = true := decide_eq_true (by omega)
  have t8 : ((m : Int) == (rf.size : Int) - 1) = false := by rw [beq_eq_false_iff_ne]; omega
  have gr1 : 1 < rf.size := by omega
  clear g91 g92 hm hsf hsf1 hsz hrl hb hbr hbl hbe
  go_wp2_with fail
  rw [HSF.out]
  refine (HG2.out _).mono ?_
  rintro e w14 ⟨rfl, hw14⟩
  subst hw14
  rw [HM.out]
  have hE := Ext.refl U
  have z0 := (bz.ext hE).cell 0 _ rfl
  have z1 := (bz.ext hE).cell 1 _ rfl
  have z2 := (bz.ext hE).cell 2 _ rfl
  have z3 := (bz.ext hE).cell 3 _ rfl
  have f0 := (bz.ext hE).frozen 0
  have f1 := (bz.ext hE).frozen 1
  have f2 := (bz.ext hE).frozen 2
  have f3 := (bz.ext hE).frozen 3
  go_wp2_with fail
  obtain ⟨b1, b2, b3, b4⟩ := fin_quad (s := false) (A := none) (n := 0) (c := 0) (t := false) (B := none) (m := 0) (d := 0) (bz.ext hE)
  have r0 := b1.cell 0 (.bool false) rfl
  have r1 := b1.cell 1 (.slice none 0 0) rfl
  have r2 := b1.cell 2 (.bool false) rfl
  have r3 := b1.cell 3 (.slice none 0 0) rfl
  unfold set4 at r0 r1 r2 r3
  refine bodyPost_ret (v := .tuple #[.agg #[.bool false, .slice none 0 0, .bool false, .slice none 0 0], .int .i64 2]) (by simp [results, Tryz.results50, go_sem, r0, r1, r2, r3]) rfl ⟨rfl, b3 _ (extW.trans hE) (by omega)⟩
set_option maxHeartbeats 16000000 in
set_option maxRecDepth 100000 in
theorem qp_d5_pos (u : ByteArray) (n : Nat) (a r : List UInt8) (hs : u.size ≤ 200) (hp : ∀ t, u.data.toList ≠ 45 :: t) (hl : u.data.toList = a ++ r) (hn : a.length = n) (ha : Digs a) (hr : r = [] ∨ ∃ c b, r = c :: b ∧ ¬ Dig c) (hu0 : u.data.toList ≠ []) (hc : Canon a) (b : List UInt8) (h0 : r = 47 :: b) (hb : Digs b) (t : List UInt8) (hbt : b = 48 :: t) :
    Calls Tryz.prog 50 #[.string u] w (RetZE 2 w) := by
  have hz : u.size ≤ 200 := hs
  have hne : u.toList.isEmpty = false := by
    rw [Lib.toList_data]
    cases h : u.data.toList with
    | nil => exact absurd h hu0
    | cons c t => rfl
  have g0 : 0 < u.size := by rw [Lib.size_eq]; exact List.length_pos_iff.2 hu0
  have t9 : ((u[0].toNat : Int) == 45) = false := by
    rw [beq_eq_false_iff_ne]
    intro h
    cases h2 : u.data.toList with
    | nil => exact hu0 h2
    | cons c t =>
      obtain ⟨_, g1, _⟩ := get0 h2
      rw [g1] at h
      exact hp t (by rw [h2]; congr 1; exact UInt8.toNat_inj.1 (by have : (45 : UInt8).toNat = 45 := rfl; omega))
  clear hp
  have hsz := Lib.size_eq u
  rw [hl, List.length_append, hn] at hsz
  have hsz1 : u.size ≤ n + r.length := by omega
  have hsz2 : n + r.length ≤ u.size := by omega
  clear hsz
  have HG := Lib.hid (fun w => q_digits u w a r (by omega) hl ha hr)
  have HL := Lib.hid hl
  have HN := Lib.hid hn
  have HA := Lib.hid ha
  clear hl ha hr hn
  go_enter Tryz.func50, Tryz.ntmps50
  go_upto_region 1 with (fail)
  obtain ⟨W, hW, extW, bz, hzz⟩ := box1 w 27 #[Value.bool false, Value.slice none 0 0, Value.bool false, Value.slice none 0 0]
  rw [← hW]
  clear hW
  have t1 : decide ((65536 : Int) < (u.size : Int)) = false := decide_eq_false (by omega)
  go_wp2_with fail
  refine (HG.out _).mono ?_
  rintro e w0 ⟨rfl, hw0⟩
  subst hw0
  rw [HN.out]
  have HCA := Lib.hid hc
  have hn1 : 1 ≤ n := by
    rw [← HN.out]
    rcases hc with h | ⟨c, t, h, _⟩ <;> rw [h] <;> simp
  have hn0 : ((n : Int) == 0) = false := by rw [beq_eq_false_iff_ne]; omega
  have H48 := Lib.hid (fun (h1 : 1 < n) => show ((u[0]'(by omega)).toNat : Int) ≠ 48 from by
    rcases HCA.out with h | ⟨c, t, h, h2⟩
    · have := HN.out
      rw [h] at this
      simp at this
      omega
    · have hlc : u.data.toList = c :: (t ++ r) := by rw [HL.out, h]; rfl
      obtain ⟨_, g1, _⟩ := get0 hlc
      rw [g1]
      intro h3
      exact h2 (u8_48 (by omega)))
  clear hc
  go_upto_region 7 with (fail)
  go_cut [38] (fun p V => p = .bool false ∧ W = V)
  case first =>
    by_cases h1 : 1 < n
    · have h2 := H48.out h1
      have t2 : decide ((1 : Int) < (n : Int)) = true := decide_eq_true (by omega)
      have t3 : ((u[0].toNat : Int) == 48) = false := beq_eq_false_iff_ne.2 h2
      have g3 : 0 < u.size := by omega
      clear h2
      go_wp2_with fail
      go_meet
      exact ⟨rfl, rfl⟩
    · have t2 : decide ((1 : Int) < (n : Int)) = false := decide_eq_false (by omega)
      go_wp2_with fail
      go_meet
      exact ⟨rfl, rfl⟩
  case rest =>
  obtain ⟨rfl, rfl⟩ := hcut
  have c1 : (0 : Int) ≤ (n : Int) := by omega
  have c2 : (n : Int) ≤ (u.size : Int) := by omega
  have c3 : n ≤ u.size := by omega
  have hbf1 : (u.extract 0 n).data.toList = a := by rw [extract_to _ _ c3, HL.out, ← HN.out, List.take_left]
  have hrf1 : (u.extract n u.size).data.toList = r := by rw [extract_from, HL.out, ← HN.out, List.drop_left]
  obtain ⟨bf, hbf⟩ : ∃ bf, u.extract 0 n = bf := ⟨_, rfl⟩
  obtain ⟨rf, hrf⟩ : ∃ rf, u.extract n u.size = rf := ⟨_, rfl⟩
  rw [hbf] at hbf1
  rw [hrf] at hrf1
  have hbz : bf.size ≤ n := by rw [Lib.size_eq, hbf1, HN.out]; exact Nat.le_refl _
  have hrz := Lib.size_eq rf
  rw [hrf1] at hrz
  have hrz1 : rf.size ≤ r.length := by omega
  have hrz2 : r.length ≤ rf.size := by omega
  clear hrz
  have HBF := Lib.hid hbf
  have HRF := Lib.hid hrf
  have HB := Lib.hid hbf1
  have HR := Lib.hid hrf1
  clear hbf hrf hbf1 hrf1
  go_wp2_with fail
  rw [HBF.out]
  refine (q_ParseI bf (by omega) (by rw [HB.out]; exact HA.out) (by rw [HB.out]; exact HCA.out) (L := n) (by omega)).mono ?_
  rintro e wa ⟨s6, A6, n6, c6, rfl, h6, hxa⟩
  rw [HB.out] at h6
  go_upto_region 10 with (fail)
  refine at_world (fun V => Ext W V ∧ Box V wa.heap.size 24 #[.bool s6, .slice A6 n6 c6] ∧ NI V (dv a : Int) n s6 A6 n6 c6) ⟨hxa.alloc _, Box.new wa _ _, h6.ext ((Ext.refl wa).alloc _)⟩ ?_
  have hg6 : w.heap.size + 1 ≤ wa.heap.size := by have := hxa.size; omega
  generalize wa.heap.size = g6 at *
  clear hxa h6
  rintro V ⟨EV, b6, h6⟩
  replace bz := bz.ext EV
  replace extW := extW.trans EV
  clear EV
  go_wp2_with fail
  refine (q_FromInt 1 (by omega) (by omega)).mono ?_
  rintro e wb ⟨s8, A8, n8, c8, rfl, h8, hxb⟩
  go_upto_region 11 with (fail)
  refine at_world (fun U => Ext V U ∧ Box U wb.heap.size 24 #[.bool s8, .slice A8 n8 c8] ∧ NI U 1 2 s8 A8 n8 c8) ⟨hxb.alloc _, Box.new wb _ _, h8.ext ((Ext.refl wb).alloc _)⟩ ?_
  have hsz6 := hxb.size
  generalize wb.heap.size = g8 at *
  clear hxb h8
  rintro U ⟨EU, b8, h8⟩
  have hlt6 := b6.lt
  have hne68 : g6 ≠ g8 := by omega
  replace bz := bz.ext EU
  replace b6 := b6.ext EU
  replace h6 := h6.ext EU
  replace extW := extW.trans EU
  clear EU
  go_upto_region 13 with (fail)
  rw [HRF.out]
  have hrl : rf.data.toList = 47 :: b := by rw [HR.out, h0]
  have hre : rf.toList.isEmpty = false := by rw [Lib.toList_data, hrl]; rfl
  obtain ⟨g9, g91, g92⟩ := get0 hrl
  have t46 : ((rf[0].toNat : Int) == 46) = false := by rw [g91]; rfl
  have t47 : ((rf[0].toNat : Int) == 47) = true := by rw [g91]; rfl
  have hb1 : 1 ≤ b.length := by rw [hbt]; simp
  have hbr : ([] : List UInt8) = [] ∨ ∃ c t, [] = c :: t ∧ ¬ Dig c := .inl rfl
  obtain ⟨m, hm⟩ : ∃ m, List.length b = m := ⟨_, rfl⟩
  have hsf1 : (rf.extract 1 rf.size).data.toList = b := by rw [extract_from, hrl]; rfl
  obtain ⟨sf, hsf⟩ : ∃ sf, rf.extract 1 rf.size = sf := ⟨_, rfl⟩
  rw [hsf] at hsf1
  have hsz := Lib.size_eq sf
  rw [hsf1] at hsz
  have HG2 := Lib.hid (fun w => q_digits sf w b [] (by omega) (by rw [hsf1]; exact (List.append_nil b).symm) hb hbr)
  have HM := Lib.hid hm
  have HSF := Lib.hid hsf
  have HS1 := Lib.hid hsf1
  have hsz1' : sf.size ≤ b.length := by omega
  have hrs1 : rf.size ≤ b.length + 1 := by omega
  have hrs2 : b.length + 1 ≤ rf.size := by omega
  have t7 : decide ((1 : Int) < (rf.size : Int)) = true := decide_eq_true (by omega)
  have t8 : ((m : Int) == (rf.size : Int) - 1) = true := by rw [beq_iff_eq]; omega
  have gr1 : 1 < rf.size := by omega
  have t48 : ((rf[1].toNat : Int) != 48) = false := by
    have e : rf[1] = rf.data.toList[1]'(by rw [← Lib.size_eq]; exact gr1) := rfl
    have e2 : rf[1] = 48 := by rw [e]; simp only [hrl, hbt, List.getElem_cons_succ, List.getElem_cons_zero]
    rw [e2]; rfl
  clear g91 g92 hb1 hm hsf hsf1 hsz hrl hb hbr hbt
  go_wp2_with fail
  rw [HSF.out]
  refine (HG2.out _).mono ?_
  rintro e w14 ⟨rfl, hw14⟩
  subst hw14
  rw [HM.out]
  have hE := Ext.refl U
  have z0 := (bz.ext hE).cell 0 _ rfl
  have z1 := (bz.ext hE).cell 1 _ rfl
  have z2 := (bz.ext hE).cell 2 _ rfl
  have z3 := (bz.ext hE).cell 3 _ rfl
  have f0 := (bz.ext hE).frozen 0
  have f1 := (bz.ext hE).frozen 1
  have f2 := (bz.ext hE).frozen 2
  have f3 := (bz.ext hE).frozen 3
  go_wp2_with fail
  obtain ⟨b1, b2, b3, b4⟩ := fin_quad (s := false) (A := none) (n := 0) (c := 0) (t := false) (B := none) (m := 0) (d := 0) (bz.ext hE)
  have r0 := b1.cell 0 (.bool false) rfl
  have r1 := b1.cell 1 (.slice none 0 0) rfl
  have r2 := b1.cell 2 (.bool false) rfl
  have r3 := b1.cell 3 (.slice none 0 0) rfl
  unfold set4 at r0 r1 r2 r3
  refine bodyPost_ret (v := .tuple #[.agg #[.bool false, .slice none 0 0, .bool false, .slice none 0 0], .int .i64 2]) (by simp [results, Tryz.results50, go_sem, r0, r1, r2, r3]) rfl ⟨rfl, b3 _ (extW.trans hE) (by omega)⟩
set_option maxHeartbeats 16000000 in
set_option maxRecDepth 100000 in
theorem qp_d6_pos (u : ByteArray) (n : Nat) (a r : List UInt8) (hs : u.size ≤ 200) (hp : ∀ t, u.data.toList ≠ 45 :: t) (hl : u.data.toList = a ++ r) (hn : a.length = n) (ha : Digs a) (hr : r = [] ∨ ∃ c b, r = c :: b ∧ ¬ Dig c) (hu0 : u.data.toList ≠ []) (hc : Canon a) (b : List UInt8) (c : UInt8) (h0 : r = c :: b) (h46 : c ≠ 46) (h47 : c ≠ 47) :
    Calls Tryz.prog 50 #[.string u] w (RetZE 2 w) := by
  have hz : u.size ≤ 200 := hs
  have hne : u.toList.isEmpty = false := by
    rw [Lib.toList_data]
    cases h : u.data.toList with
    | nil => exact absurd h hu0
    | cons c t => rfl
  have g0 : 0 < u.size := by rw [Lib.size_eq]; exact List.length_pos_iff.2 hu0
  have t9 : ((u[0].toNat : Int) == 45) = false := by
    rw [beq_eq_false_iff_ne]
    intro h
    cases h2 : u.data.toList with
    | nil => exact hu0 h2
    | cons c t =>
      obtain ⟨_, g1, _⟩ := get0 h2
      rw [g1] at h
      exact hp t (by rw [h2]; congr 1; exact UInt8.toNat_inj.1 (by have : (45 : UInt8).toNat = 45 := rfl; omega))
  clear hp
  have hsz := Lib.size_eq u
  rw [hl, List.length_append, hn] at hsz
  have hsz1 : u.size ≤ n + r.length := by omega
  have hsz2 : n + r.length ≤ u.size := by omega
  clear hsz
  have HG := Lib.hid (fun w => q_digits u w a r (by omega) hl ha hr)
  have HL := Lib.hid hl
  have HN := Lib.hid hn
  have HA := Lib.hid ha
  clear hl ha hr hn
  go_enter Tryz.func50, Tryz.ntmps50
  go_upto_region 1 with (fail)
  obtain ⟨W, hW, extW, bz, hzz⟩ := box1 w 27 #[Value.bool false, Value.slice none 0 0, Value.bool false, Value.slice none 0 0]
  rw [← hW]
  clear hW
  have t1 : decide ((65536 : Int) < (u.size : Int)) = false := decide_eq_false (by omega)
  go_wp2_with fail
  refine (HG.out _).mono ?_
  rintro e w0 ⟨rfl, hw0⟩
  subst hw0
  rw [HN.out]
  have HCA := Lib.hid hc
  have hn1 : 1 ≤ n := by
    rw [← HN.out]
    rcases hc with h | ⟨c, t, h, _⟩ <;> rw [h] <;> simp
  have hn0 : ((n : Int) == 0) = false := by rw [beq_eq_false_iff_ne]; omega
  have H48 := Lib.hid (fun (h1 : 1 < n) => show ((u[0]'(by omega)).toNat : Int) ≠ 48 from by
    rcases HCA.out with h | ⟨c, t, h, h2⟩
    · have := HN.out
      rw [h] at this
      simp at this
      omega
    · have hlc : u.data.toList = c :: (t ++ r) := by rw [HL.out, h]; rfl
      obtain ⟨_, g1, _⟩ := get0 hlc
      rw [g1]
      intro h3
      exact h2 (u8_48 (by omega)))
  clear hc
  go_upto_region 7 with (fail)
  go_cut [38] (fun p V => p = .bool false ∧ W = V)
  case first =>
    by_cases h1 : 1 < n
    · have h2 := H48.out h1
      have t2 : decide ((1 : Int) < (n : Int)) = true := decide_eq_true (by omega)
      have t3 : ((u[0].toNat : Int) == 48) = false := beq_eq_false_iff_ne.2 h2
      have g3 : 0 < u.size := by omega
      clear h2
      go_wp2_with fail
      go_meet
      exact ⟨rfl, rfl⟩
    · have t2 : decide ((1 : Int) < (n : Int)) = false := decide_eq_false (by omega)
      go_wp2_with fail
      go_meet
      exact ⟨rfl, rfl⟩
  case rest =>
  obtain ⟨rfl, rfl⟩ := hcut
  have c1 : (0 : Int) ≤ (n : Int) := by omega
  have c2 : (n : Int) ≤ (u.size : Int) := by omega
  have c3 : n ≤ u.size := by omega
  have hbf1 : (u.extract 0 n).data.toList = a := by rw [extract_to _ _ c3, HL.out, ← HN.out, List.take_left]
  have hrf1 : (u.extract n u.size).data.toList = r := by rw [extract_from, HL.out, ← HN.out, List.drop_left]
  obtain ⟨bf, hbf⟩ : ∃ bf, u.extract 0 n = bf := ⟨_, rfl⟩
  obtain ⟨rf, hrf⟩ : ∃ rf, u.extract n u.size = rf := ⟨_, rfl⟩
  rw [hbf] at hbf1
  rw [hrf] at hrf1
  have hbz : bf.size ≤ n := by rw [Lib.size_eq, hbf1, HN.out]; exact Nat.le_refl _
  have hrz := Lib.size_eq rf
  rw [hrf1] at hrz
  have hrz1 : rf.size ≤ r.length := by omega
  have hrz2 : r.length ≤ rf.size := by omega
  clear hrz
  have HBF := Lib.hid hbf
  have HRF := Lib.hid hrf
  have HB := Lib.hid hbf1
  have HR := Lib.hid hrf1
  clear hbf hrf hbf1 hrf1
  go_wp2_with fail
  rw [HBF.out]
  refine (q_ParseI bf (by omega) (by rw [HB.out]; exact HA.out) (by rw [HB.out]; exact HCA.out) (L := n) (by omega)).mono ?_
  rintro e wa ⟨s6, A6, n6, c6, rfl, h6, hxa⟩
  rw [HB.out] at h6
  go_upto_region 10 with (fail)
  refine at_world (fun V => Ext W V ∧ Box V wa.heap.size 24 #[.bool s6, .slice A6 n6 c6] ∧ NI V (dv a : Int) n s6 A6 n6 c6) ⟨hxa.alloc _, Box.new wa _ _, h6.ext ((Ext.refl wa).alloc _)⟩ ?_
  have hg6 : w.heap.size + 1 ≤ wa.heap.size := by have := hxa.size; omega
  generalize wa.heap.size = g6 at *
  clear hxa h6
  rintro V ⟨EV, b6, h6⟩
  replace bz := bz.ext EV
  replace extW := extW.trans EV
  clear EV
  go_wp2_with fail
  refine (q_FromInt 1 (by omega) (by omega)).mono ?_
  rintro e wb ⟨s8, A8, n8, c8, rfl, h8, hxb⟩
  go_upto_region 11 with (fail)
  refine at_world (fun U => Ext V U ∧ Box U wb.heap.size 24 #[.bool s8, .slice A8 n8 c8] ∧ NI U 1 2 s8 A8 n8 c8) ⟨hxb.alloc _, Box.new wb _ _, h8.ext ((Ext.refl wb).alloc _)⟩ ?_
  have hsz6 := hxb.size
  generalize wb.heap.size = g8 at *
  clear hxb h8
  rintro U ⟨EU, b8, h8⟩
  have hlt6 := b6.lt
  have hne68 : g6 ≠ g8 := by omega
  replace bz := bz.ext EU
  replace b6 := b6.ext EU
  replace h6 := h6.ext EU
  replace extW := extW.trans EU
  clear EU
  go_upto_region 13 with (fail)
  rw [HRF.out]
  have hrl : rf.data.toList = c :: b := by rw [HR.out, h0]
  have hre : rf.toList.isEmpty = false := by rw [Lib.toList_data, hrl]; rfl
  obtain ⟨g9, g91, g92⟩ := get0 hrl
  have t46 : ((rf[0].toNat : Int) == 46) = false := by
    rw [beq_eq_false_iff_ne, g91]
    intro h
    exact h46 (UInt8.toNat_inj.1 (by have : (46 : UInt8).toNat = 46 := rfl; omega))
  have t47 : ((rf[0].toNat : Int) == 47) = false := by
    rw [beq_eq_false_iff_ne, g91]
    intro h
    exact h47 (UInt8.toNat_inj.1 (by have : (47 : UInt8).toNat = 47 := rfl; omega))
  clear g91 g92 hrl
  have hE := Ext.refl U
  have z0 := (bz.ext hE).cell 0 _ rfl
  have z1 := (bz.ext hE).cell 1 _ rfl
  have z2 := (bz.ext hE).cell 2 _ rfl
  have z3 := (bz.ext hE).cell 3 _ rfl
  have f0 := (bz.ext hE).frozen 0
  have f1 := (bz.ext hE).frozen 1
  have f2 := (bz.ext hE).frozen 2
  have f3 := (bz.ext hE).frozen 3
  go_wp2_with fail
  obtain ⟨b1, b2, b3, b4⟩ := fin_quad (s := false) (A := none) (n := 0) (c := 0) (t := false) (B := none) (m := 0) (d := 0) (bz.ext hE)
  have r0 := b1.cell 0 (.bool false) rfl
  have r1 := b1.cell 1 (.slice none 0 0) rfl
  have r2 := b1.cell 2 (.bool false) rfl
  have r3 := b1.cell 3 (.slice none 0 0) rfl
  unfold set4 at r0 r1 r2 r3
  refine bodyPost_ret (v := .tuple #[.agg #[.bool false, .slice none 0 0, .bool false, .slice none 0 0], .int .i64 2]) (by simp [results, Tryz.results50, go_sem, r0, r1, r2, r3]) rfl ⟨rfl, b3 _ (extW.trans hE) (by omega)⟩
set_option maxHeartbeats 16000000 in
set_option maxRecDepth 100000 in
theorem qp_d1_neg (s u : ByteArray) (n : Nat) (a r : List UInt8) (hs : s.size ≤ 200) (h45 : s.data.toList = 45 :: u.data.toList) (hl : u.data.toList = a ++ r) (hn : a.length = n) (ha : Digs a) (hr : r = [] ∨ ∃ c b, r = c :: b ∧ ¬ Dig c) (hc : Canon a) (b : List UInt8) (h0 : r = 46 :: b) (hb0 : b = []) :
    Calls Tryz.prog 50 #[.string s] w (RetZE 2 w) := by
  obtain ⟨g0, g1, g2⟩ := get0 h45
  clear g2
  obtain ⟨c1, c2, c3⟩ := cut_neg (w := w) (s := s) (by omega) h45
  clear c3
  have hu : s.extract 1 s.size = u := bytes_ext c1
  have hne : s.toList.isEmpty = false := by rw [Lib.toList_data, h45]; rfl
  have t9 : ((s[0].toNat : Int) == 45) = true := by rw [g1]; rfl
  have hz : u.size ≤ 200 := by rw [← hu, c2]; have := Lib.size_eq s; rw [h45, List.length_cons] at this; have h2 := Lib.size_eq u; omega
  have HU := Lib.hid hu
  clear g1 c1 c2 hu h45
  have hsz := Lib.size_eq u
  rw [hl, List.length_append, hn] at hsz
  have hsz1 : u.size ≤ n + r.length := by omega
  have hsz2 : n + r.length ≤ u.size := by omega
  clear hsz
  have HG := Lib.hid (fun w => q_digits u w a r (by omega) hl ha hr)
  have HL := Lib.hid hl
  have HN := Lib.hid hn
  have HA := Lib.hid ha
  clear hl ha hr hn
  go_enter Tryz.func50, Tryz.ntmps50
  go_upto_region 1 with (fail)
  obtain ⟨W, hW, extW, bz, hzz⟩ := box1 w 27 #[Value.bool false, Value.slice none 0 0, Value.bool false, Value.slice none 0 0]
  rw [← hW]
  clear hW
  have t1 : decide ((65536 : Int) < (s.size : Int)) = false := decide_eq_false (by omega)
  go_wp2_with fail
  rw [HU.out]
  refine (HG.out _).mono ?_
  rintro e w0 ⟨rfl, hw0⟩
  subst hw0
  rw [HN.out]
  have HCA := Lib.hid hc
  have hn1 : 1 ≤ n := by
    rw [← HN.out]
    rcases hc with h | ⟨c, t, h, _⟩ <;> rw [h] <;> simp
  have hn0 : ((n : Int) == 0) = false := by rw [beq_eq_false_iff_ne]; omega
  have H48 := Lib.hid (fun (h1 : 1 < n) => show ((u[0]'(by omega)).toNat : Int) ≠ 48 from by
    rcases HCA.out with h | ⟨c, t, h, h2⟩
    · have := HN.out
      rw [h] at this
      simp at this
      omega
    · have hlc : u.data.toList = c :: (t ++ r) := by rw [HL.out, h]; rfl
      obtain ⟨_, g1, _⟩ := get0 hlc
      rw [g1]
      intro h3
      exact h2 (u8_48 (by omega)))
  clear hc
  go_upto_region 7 with (fail)
  go_cut [38] (fun p V => p = .bool false ∧ W = V)
  case first =>
    by_cases h1 : 1 < n
    · have h2 := H48.out h1
      have t2 : decide ((1 : Int) < (n : Int)) = true := decide_eq_true (by omega)
      have t3 : ((u[0].toNat : Int) == 48) = false := beq_eq_false_iff_ne.2 h2
      have g3 : 0 < u.size := by omega
      clear h2
      go_wp2_with fail
      go_meet
      exact ⟨rfl, rfl⟩
    · have t2 : decide ((1 : Int) < (n : Int)) = false := decide_eq_false (by omega)
      go_wp2_with fail
      go_meet
      exact ⟨rfl, rfl⟩
  case rest =>
  obtain ⟨rfl, rfl⟩ := hcut
  have c1 : (0 : Int) ≤ (n : Int) := by omega
  have c2 : (n : Int) ≤ (u.size : Int) := by omega
  have c3 : n ≤ u.size := by omega
  have hbf1 : (u.extract 0 n).data.toList = a := by rw [extract_to _ _ c3, HL.out, ← HN.out, List.take_left]
  have hrf1 : (u.extract n u.size).data.toList = r := by rw [extract_from, HL.out, ← HN.out, List.drop_left]
  obtain ⟨bf, hbf⟩ : ∃ bf, u.extract 0 n = bf := ⟨_, rfl⟩
  obtain ⟨rf, hrf⟩ : ∃ rf, u.extract n u.size = rf := ⟨_, rfl⟩
  rw [hbf] at hbf1
  rw [hrf] at hrf1
  have hbz : bf.size ≤ n := by rw [Lib.size_eq, hbf1, HN.out]; exact Nat.le_refl _
  have hrz := Lib.size_eq rf
  rw [hrf1] at hrz
  have hrz1 : rf.size ≤ r.length := by omega
  have hrz2 : r.length ≤ rf.size := by omega
  clear hrz
  have HBF := Lib.hid hbf
  have HRF := Lib.hid hrf
  have HB := Lib.hid hbf1
  have HR := Lib.hid hrf1
  clear hbf hrf hbf1 hrf1
  go_wp2_with fail
  rw [HBF.out]
  refine (q_ParseI bf (by omega) (by rw [HB.out]; exact HA.out) (by rw [HB.out]; exact HCA.out) (L := n) (by omega)).mono ?_
  rintro e wa ⟨s6, A6, n6, c6, rfl, h6, hxa⟩
  rw [HB.out] at h6
  go_upto_region 10 with (fail)
  refine at_world (fun V => Ext W V ∧ Box V wa.heap.size 24 #[.bool s6, .slice A6 n6 c6] ∧ NI V (dv a : Int) n s6 A6 n6 c6) ⟨hxa.alloc _, Box.new wa _ _, h6.ext ((Ext.refl wa).alloc _)⟩ ?_
  have hg6 : w.heap.size + 1 ≤ wa.heap.size := by have := hxa.size; omega
  generalize wa.heap.size = g6 at *
  clear hxa h6
  rintro V ⟨EV, b6, h6⟩
  replace bz := bz.ext EV
  replace extW := extW.trans EV
  clear EV
  go_wp2_with fail
  refine (q_FromInt 1 (by omega) (by omega)).mono ?_
  rintro e wb ⟨s8, A8, n8, c8, rfl, h8, hxb⟩
  go_upto_region 11 with (fail)
  refine at_world (fun U => Ext V U ∧ Box U wb.heap.size 24 #[.bool s8, .slice A8 n8 c8] ∧ NI U 1 2 s8 A8 n8 c8) ⟨hxb.alloc _, Box.new wb _ _, h8.ext ((Ext.refl wb).alloc _)⟩ ?_
  have hsz6 := hxb.size
  generalize wb.heap.size = g8 at *
  clear hxb h8
  rintro U ⟨EU, b8, h8⟩
  have hlt6 := b6.lt
  have hne68 : g6 ≠ g8 := by omega
  replace bz := bz.ext EU
  replace b6 := b6.ext EU
  replace h6 := h6.ext EU
  replace extW := extW.trans EU
  clear EU
  go_upto_region 13 with (fail)
  rw [HRF.out]
  have hrl : rf.data.toList = 46 :: b := by rw [HR.out, h0]
  have hre : rf.toList.isEmpty = false := by rw [Lib.toList_data, hrl]; rfl
  obtain ⟨g9, g91, g92⟩ := get0 hrl
  have t46 : ((rf[0].toNat : Int) == 46) = true := by rw [g91]; rfl
  have t47 : ((rf[0].toNat : Int) == 47) = false := by rw [g91]; rfl
  rw [hb0] at g92
  have t7 : decide ((1 : Int) < (rf.size : Int)) = false := decide_eq_false (by simp at g92; omega)
  clear g91 g92 hrl
  have hE := Ext.refl U
  have z0 := (bz.ext hE).cell 0 _ rfl
  have z1 := (bz.ext hE).cell 1 _ rfl
  have z2 := (bz.ext hE).cell 2 _ rfl
  have z3 := (bz.ext hE).cell 3 _ rfl
  have f0 := (bz.ext hE).frozen 0
  have f1 := (bz.ext hE).frozen 1
  have f2 := (bz.ext hE).frozen 2
  have f3 := (bz.ext hE).frozen 3
  go_wp2_with fail
  obtain ⟨b1, b2, b3, b4⟩ := fin_quad (s := false) (A := none) (n := 0) (c := 0) (t := false) (B := none) (m := 0) (d := 0) (bz.ext hE)
  have r0 := b1.cell 0 (.bool false) rfl
  have r1 := b1.cell 1 (.slice none 0 0) rfl
  have r2 := b1.cell 2 (.bool false) rfl
  have r3 := b1.cell 3 (.slice none 0 0) rfl
  unfold set4 at r0 r1 r2 r3
  refine bodyPost_ret (v := .tuple #[.agg #[.bool false, .slice none 0 0, .bool false, .slice none 0 0], .int .i64 2]) (by simp [results, Tryz.results50, go_sem, r0, r1, r2, r3]) rfl ⟨rfl, b3 _ (extW.trans hE) (by omega)⟩
set_option maxHeartbeats 16000000 in
set_option maxRecDepth 100000 in
theorem qp_d2_neg (s u : ByteArray) (n : Nat) (a r : List UInt8) (hs : s.size ≤ 200) (h45 : s.data.toList = 45 :: u.data.toList) (hl : u.data.toList = a ++ r) (hn : a.length = n) (ha : Digs a) (hr : r = [] ∨ ∃ c b, r = c :: b ∧ ¬ Dig c) (hc : Canon a) (b : List UInt8) (h0 : r = 46 :: b) (a' r' : List UInt8) (hbe : b = a' ++ r') (hb : Digs a') (hbr : r' = [] ∨ ∃ c t, r' = c :: t ∧ ¬ Dig c) (hr0 : r' ≠ []) :
    Calls Tryz.prog 50 #[.string s] w (RetZE 2 w) := by
  obtain ⟨g0, g1, g2⟩ := get0 h45
  clear g2
  obtain ⟨c1, c2, c3⟩ := cut_neg (w := w) (s := s) (by omega) h45
  clear c3
  have hu : s.extract 1 s.size = u := bytes_ext c1
  have hne : s.toList.isEmpty = false := by rw [Lib.toList_data, h45]; rfl
  have t9 : ((s[0].toNat : Int) == 45) = true := by rw [g1]; rfl
  have hz : u.size ≤ 200 := by rw [← hu, c2]; have := Lib.size_eq s; rw [h45, List.length_cons] at this; have h2 := Lib.size_eq u; omega
  have HU := Lib.hid hu
  clear g1 c1 c2 hu h45
  have hsz := Lib.size_eq u
  rw [hl, List.length_append, hn] at hsz
  have hsz1 : u.size ≤ n + r.length := by omega
  have hsz2 : n + r.length ≤ u.size := by omega
  clear hsz
  have HG := Lib.hid (fun w => q_digits u w a r (by omega) hl ha hr)
  have HL := Lib.hid hl
  have HN := Lib.hid hn
  have HA := Lib.hid ha
  clear hl ha hr hn
  go_enter Tryz.func50, Tryz.ntmps50
  go_upto_region 1 with (fail)
  obtain ⟨W, hW, extW, bz, hzz⟩ := box1 w 27 #[Value.bool false, Value.slice none 0 0, Value.bool false, Value.slice none 0 0]
  rw [← hW]
  clear hW
  have t1 : decide ((65536 : Int) < (s.size : Int)) = false := decide_eq_false (by omega)
  go_wp2_with fail
  rw [HU.out]
  refine (HG.out _).mono ?_
  rintro e w0 ⟨rfl, hw0⟩
  subst hw0
  rw [HN.out]
  have HCA := Lib.hid hc
  have hn1 : 1 ≤ n := by
    rw [← HN.out]
    rcases hc with h | ⟨c, t, h, _⟩ <;> rw [h] <;> simp
  have hn0 : ((n : Int) == 0) = false := by rw [beq_eq_false_iff_ne]; omega
  have H48 := Lib.hid (fun (h1 : 1 < n) => show ((u[0]'(by omega)).toNat : Int) ≠ 48 from by
    rcases HCA.out with h | ⟨c, t, h, h2⟩
    · have := HN.out
      rw [h] at this
      simp at this
      omega
    · have hlc : u.data.toList = c :: (t ++ r) := by rw [HL.out, h]; rfl
      obtain ⟨_, g1, _⟩ := get0 hlc
      rw [g1]
      intro h3
      exact h2 (u8_48 (by omega)))
  clear hc
  go_upto_region 7 with (fail)
  go_cut [38] (fun p V => p = .bool false ∧ W = V)
  case first =>
    by_cases h1 : 1 < n
    · have h2 := H48.out h1
      have t2 : decide ((1 : Int) < (n : Int)) = true := decide_eq_true (by omega)
      have t3 : ((u[0].toNat : Int) == 48) = false := beq_eq_false_iff_ne.2 h2
      have g3 : 0 < u.size := by omega
      clear h2
      go_wp2_with fail
      go_meet
      exact ⟨rfl, rfl⟩
    · have t2 : decide ((1 : Int) < (n : Int)) = false := decide_eq_false (by omega)
      go_wp2_with fail
      go_meet
      exact ⟨rfl, rfl⟩
  case rest =>
  obtain ⟨rfl, rfl⟩ := hcut
  have c1 : (0 : Int) ≤ (n : Int) := by omega
  have c2 : (n : Int) ≤ (u.size : Int) := by omega
  have c3 : n ≤ u.size := by omega
  have hbf1 : (u.extract 0 n).data.toList = a := by rw [extract_to _ _ c3, HL.out, ← HN.out, List.take_left]
  have hrf1 : (u.extract n u.size).data.toList = r := by rw [extract_from, HL.out, ← HN.out, List.drop_left]
  obtain ⟨bf, hbf⟩ : ∃ bf, u.extract 0 n = bf := ⟨_, rfl⟩
  obtain ⟨rf, hrf⟩ : ∃ rf, u.extract n u.size = rf := ⟨_, rfl⟩
  rw [hbf] at hbf1
  rw [hrf] at hrf1
  have hbz : bf.size ≤ n := by rw [Lib.size_eq, hbf1, HN.out]; exact Nat.le_refl _
  have hrz := Lib.size_eq rf
  rw [hrf1] at hrz
  have hrz1 : rf.size ≤ r.length := by omega
  have hrz2 : r.length ≤ rf.size := by omega
  clear hrz
  have HBF := Lib.hid hbf
  have HRF := Lib.hid hrf
  have HB := Lib.hid hbf1
  have HR := Lib.hid hrf1
  clear hbf hrf hbf1 hrf1
  go_wp2_with fail
  rw [HBF.out]
  refine (q_ParseI bf (by omega) (by rw [HB.out]; exact HA.out) (by rw [HB.out]; exact HCA.out) (L := n) (by omega)).mono ?_
  rintro e wa ⟨s6, A6, n6, c6, rfl, h6, hxa⟩
  rw [HB.out] at h6
  go_upto_region 10 with (fail)
  refine at_world (fun V => Ext W V ∧ Box V wa.heap.size 24 #[.bool s6, .slice A6 n6 c6] ∧ NI V (dv a : Int) n s6 A6 n6 c6) ⟨hxa.alloc _, Box.new wa _ _, h6.ext ((Ext.refl wa).alloc _)⟩ ?_
  have hg6 : w.heap.size + 1 ≤ wa.heap.size := by have := hxa.size; omega
  generalize wa.heap.size = g6 at *
  clear hxa h6
  rintro V ⟨EV, b6, h6⟩
  replace bz := bz.ext EV
  replace extW := extW.trans EV
  clear EV
  go_wp2_with fail
  refine (q_FromInt 1 (by omega) (by omega)).mono ?_
  rintro e wb ⟨s8, A8, n8, c8, rfl, h8, hxb⟩
  go_upto_region 11 with (fail)
  refine at_world (fun U => Ext V U ∧ Box U wb.heap.size 24 #[.bool s8, .slice A8 n8 c8] ∧ NI U 1 2 s8 A8 n8 c8) ⟨hxb.alloc _, Box.new wb _ _, h8.ext ((Ext.refl wb).alloc _)⟩ ?_
  have hsz6 := hxb.size
  generalize wb.heap.size = g8 at *
  clear hxb h8
  rintro U ⟨EU, b8, h8⟩
  have hlt6 := b6.lt
  have hne68 : g6 ≠ g8 := by omega
  replace bz := bz.ext EU
  replace b6 := b6.ext EU
  replace h6 := h6.ext EU
  replace extW := extW.trans EU
  clear EU
  go_upto_region 13 with (fail)
  rw [HRF.out]
  have hrl : rf.data.toList = 46 :: b := by rw [HR.out, h0]
  have hre : rf.toList.isEmpty = false := by rw [Lib.toList_data, hrl]; rfl
  obtain ⟨g9, g91, g92⟩ := get0 hrl
  have t46 : ((rf[0].toNat : Int) == 46) = true := by rw [g91]; rfl
  have t47 : ((rf[0].toNat : Int) == 47) = false := by rw [g91]; rfl
  have hr1 : 1 ≤ r'.length := List.length_pos_iff.2 hr0
  obtain ⟨m, hm⟩ : ∃ m, List.length a' = m := ⟨_, rfl⟩
  have hsf1 : (rf.extract 1 rf.size).data.toList = b := by rw [extract_from, hrl]; rfl
  obtain ⟨sf, hsf⟩ : ∃ sf, rf.extract 1 rf.size = sf := ⟨_, rfl⟩
  rw [hsf] at hsf1
  have hsz := Lib.size_eq sf
  rw [hsf1] at hsz
  have HG2 := Lib.hid (fun w => q_digits sf w a' r' (by omega) (by rw [hsf1]; exact hbe) hb hbr)
  have HM := Lib.hid hm
  have HSF := Lib.hid hsf
  have HS1 := Lib.hid hsf1
  have hsz1' : sf.size ≤ b.length := by omega
  have hrs1 : rf.size ≤ b.length + 1 := by omega
  have hrs2 : b.length + 1 ≤ rf.size := by omega
  have hbl : b.length = a'.length + r'.length := by rw [hbe, List.length_append]
  have t7 : decide ((1 : Int) < (rf.size : Int)) = true := decide_eq_true (by omega)
  have t8 : ((m : Int) == (rf.size : Int) - 1) = false := by rw [beq_eq_false_iff_ne]; omega
  have gr1 : 1 < rf.size := by omega
  clear g91 g92 hm hsf hsf1 hsz hrl hb hbr hbl hbe
  go_wp2_with fail
  rw [HSF.out]
  refine (HG2.out _).mono ?_
  rintro e w14 ⟨rfl, hw14⟩
  subst hw14
  rw [HM.out]
  have hE := Ext.refl U
  have z0 := (bz.ext hE).cell 0 _ rfl
  have z1 := (bz.ext hE).cell 1 _ rfl
  have z2 := (bz.ext hE).cell 2 _ rfl
  have z3 := (bz.ext hE).cell 3 _ rfl
  have f0 := (bz.ext hE).frozen 0
  have f1 := (bz.ext hE).frozen 1
  have f2 := (bz.ext hE).frozen 2
  have f3 := (bz.ext hE).frozen 3
  go_wp2_with fail
  obtain ⟨b1, b2, b3, b4⟩ := fin_quad (s := false) (A := none) (n := 0) (c := 0) (t := false) (B := none) (m := 0) (d := 0) (bz.ext hE)
  have r0 := b1.cell 0 (.bool false) rfl
  have r1 := b1.cell 1 (.slice none 0 0) rfl
  have r2 := b1.cell 2 (.bool false) rfl
  have r3 := b1.cell 3 (.slice none 0 0) rfl
  unfold set4 at r0 r1 r2 r3
  refine bodyPost_ret (v := .tuple #[.agg #[.bool false, .slice none 0 0, .bool false, .slice none 0 0], .int .i64 2]) (by simp [results, Tryz.results50, go_sem, r0, r1, r2, r3]) rfl ⟨rfl, b3 _ (extW.trans hE) (by omega)⟩
set_option maxHeartbeats 16000000 in
set_option maxRecDepth 100000 in
theorem qp_d3_neg (s u : ByteArray) (n : Nat) (a r : List UInt8) (hs : s.size ≤ 200) (h45 : s.data.toList = 45 :: u.data.toList) (hl : u.data.toList = a ++ r) (hn : a.length = n) (ha : Digs a) (hr : r = [] ∨ ∃ c b, r = c :: b ∧ ¬ Dig c) (hc : Canon a) (b : List UInt8) (h0 : r = 47 :: b) (hb0 : b = []) :
    Calls Tryz.prog 50 #[.string s] w (RetZE 2 w) := by
  obtain ⟨g0, g1, g2⟩ := get0 h45
  clear g2
  obtain ⟨c1, c2, c3⟩ := cut_neg (w := w) (s := s) (by omega) h45
  clear c3
  have hu : s.extract 1 s.size = u := bytes_ext c1
  have hne : s.toList.isEmpty = false := by rw [Lib.toList_data, h45]; rfl
  have t9 : ((s[0].toNat : Int) == 45) = true := by rw [g1]; rfl
  have hz : u.size ≤ 200 := by rw [← hu, c2]; have := Lib.size_eq s; rw [h45, List.length_cons] at this; have h2 := Lib.size_eq u; omega
  have HU := Lib.hid hu
  clear g1 c1 c2 hu h45
  have hsz := Lib.size_eq u
  rw [hl, List.length_append, hn] at hsz
  have hsz1 : u.size ≤ n + r.length := by omega
  have hsz2 : n + r.length ≤ u.size := by omega
  clear hsz
  have HG := Lib.hid (fun w => q_digits u w a r (by omega) hl ha hr)
  have HL := Lib.hid hl
  have HN := Lib.hid hn
  have HA := Lib.hid ha
  clear hl ha hr hn
  go_enter Tryz.func50, Tryz.ntmps50
  go_upto_region 1 with (fail)
  obtain ⟨W, hW, extW, bz, hzz⟩ := box1 w 27 #[Value.bool false, Value.slice none 0 0, Value.bool false, Value.slice none 0 0]
  rw [← hW]
  clear hW
  have t1 : decide ((65536 : Int) < (s.size : Int)) = false := decide_eq_false (by omega)
  go_wp2_with fail
  rw [HU.out]
  refine (HG.out _).mono ?_
  rintro e w0 ⟨rfl, hw0⟩
  subst hw0
  rw [HN.out]
  have HCA := Lib.hid hc
  have hn1 : 1 ≤ n := by
    rw [← HN.out]
    rcases hc with h | ⟨c, t, h, _⟩ <;> rw [h] <;> simp
  have hn0 : ((n : Int) == 0) = false := by rw [beq_eq_false_iff_ne]; omega
  have H48 := Lib.hid (fun (h1 : 1 < n) => show ((u[0]'(by omega)).toNat : Int) ≠ 48 from by
    rcases HCA.out with h | ⟨c, t, h, h2⟩
    · have := HN.out
      rw [h] at this
      simp at this
      omega
    · have hlc : u.data.toList = c :: (t ++ r) := by rw [HL.out, h]; rfl
      obtain ⟨_, g1, _⟩ := get0 hlc
      rw [g1]
      intro h3
      exact h2 (u8_48 (by omega)))
  clear hc
  go_upto_region 7 with (fail)
  go_cut [38] (fun p V => p = .bool false ∧ W = V)
  case first =>
    by_cases h1 : 1 < n
    · have h2 := H48.out h1
      have t2 : decide ((1 : Int) < (n : Int)) = true := decide_eq_true (by omega)
      have t3 : ((u[0].toNat : Int) == 48) = false := beq_eq_false_iff_ne.2 h2
      have g3 : 0 < u.size := by omega
      clear h2
      go_wp2_with fail
      go_meet
      exact ⟨rfl, rfl⟩
    · have t2 : decide ((1 : Int) < (n : Int)) = false := decide_eq_false (by omega)
      go_wp2_with fail
      go_meet
      exact ⟨rfl, rfl⟩
  case rest =>
  obtain ⟨rfl, rfl⟩ := hcut
  have c1 : (0 : Int) ≤ (n : Int) := by omega
  have c2 : (n : Int) ≤ (u.size : Int) := by omega
  have c3 : n ≤ u.size := by omega
  have hbf1 : (u.extract 0 n).data.toList = a := by rw [extract_to _ _ c3, HL.out, ← HN.out, List.take_left]
  have hrf1 : (u.extract n u.size).data.toList = r := by rw [extract_from, HL.out, ← HN.out, List.drop_left]
  obtain ⟨bf, hbf⟩ : ∃ bf, u.extract 0 n = bf := ⟨_, rfl⟩
  obtain ⟨rf, hrf⟩ : ∃ rf, u.extract n u.size = rf := ⟨_, rfl⟩
  rw [hbf] at hbf1
  rw [hrf] at hrf1
  have hbz : bf.size ≤ n := by rw [Lib.size_eq, hbf1, HN.out]; exact Nat.le_refl _
  have hrz := Lib.size_eq rf
  rw [hrf1] at hrz
  have hrz1 : rf.size ≤ r.length := by omega
  have hrz2 : r.length ≤ rf.size := by omega
  clear hrz
  have HBF := Lib.hid hbf
  have HRF := Lib.hid hrf
  have HB := Lib.hid hbf1
  have HR := Lib.hid hrf1
  clear hbf hrf hbf1 hrf1
  go_wp2_with fail
  rw [HBF.out]
  refine (q_ParseI bf (by omega) (by rw [HB.out]; exact HA.out) (by rw [HB.out]; exact HCA.out) (L := n) (by omega)).mono ?_
  rintro e wa ⟨s6, A6, n6, c6, rfl, h6, hxa⟩
  rw [HB.out] at h6
  go_upto_region 10 with (fail)
  refine at_world (fun V => Ext W V ∧ Box V wa.heap.size 24 #[.bool s6, .slice A6 n6 c6] ∧ NI V (dv a : Int) n s6 A6 n6 c6) ⟨hxa.alloc _, Box.new wa _ _, h6.ext ((Ext.refl wa).alloc _)⟩ ?_
  have hg6 : w.heap.size + 1 ≤ wa.heap.size := by have := hxa.size; omega
  generalize wa.heap.size = g6 at *
  clear hxa h6
  rintro V ⟨EV, b6, h6⟩
  replace bz := bz.ext EV
  replace extW := extW.trans EV
  clear EV
  go_wp2_with fail
  refine (q_FromInt 1 (by omega) (by omega)).mono ?_
  rintro e wb ⟨s8, A8, n8, c8, rfl, h8, hxb⟩
  go_upto_region 11 with (fail)
  refine at_world (fun U => Ext V U ∧ Box U wb.heap.size 24 #[.bool s8, .slice A8 n8 c8] ∧ NI U 1 2 s8 A8 n8 c8) ⟨hxb.alloc _, Box.new wb _ _, h8.ext ((Ext.refl wb).alloc _)⟩ ?_
  have hsz6 := hxb.size
  generalize wb.heap.size = g8 at *
  clear hxb h8
  rintro U ⟨EU, b8, h8⟩
  have hlt6 := b6.lt
  have hne68 : g6 ≠ g8 := by omega
  replace bz := bz.ext EU
  replace b6 := b6.ext EU
  replace h6 := h6.ext EU
  replace extW := extW.trans EU
  clear EU
  go_upto_region 13 with (fail)
  rw [HRF.out]
  have hrl : rf.data.toList = 47 :: b := by rw [HR.out, h0]
  have hre : rf.toList.isEmpty = false := by rw [Lib.toList_data, hrl]; rfl
  obtain ⟨g9, g91, g92⟩ := get0 hrl
  have t46 : ((rf[0].toNat : Int) == 46) = false := by rw [g91]; rfl
  have t47 : ((rf[0].toNat : Int) == 47) = true := by rw [g91]; rfl
  rw [hb0] at g92
  have t7 : decide ((1 : Int) < (rf.size : Int)) = false := decide_eq_false (by simp at g92; omega)
  clear g91 g92 hrl
  have hE := Ext.refl U
  have z0 := (bz.ext hE).cell 0 _ rfl
  have z1 := (bz.ext hE).cell 1 _ rfl
  have z2 := (bz.ext hE).cell 2 _ rfl
  have z3 := (bz.ext hE).cell 3 _ rfl
  have f0 := (bz.ext hE).frozen 0
  have f1 := (bz.ext hE).frozen 1
  have f2 := (bz.ext hE).frozen 2
  have f3 := (bz.ext hE).frozen 3
  go_wp2_with fail
  obtain ⟨b1, b2, b3, b4⟩ := fin_quad (s := false) (A := none) (n := 0) (c := 0) (t := false) (B := none) (m := 0) (d := 0) (bz.ext hE)
  have r0 := b1.cell 0 (.bool false) rfl
  have r1 := b1.cell 1 (.slice none 0 0) rfl
  have r2 := b1.cell 2 (.bool false) rfl
  have r3 := b1.cell 3 (.slice none 0 0) rfl
  unfold set4 at r0 r1 r2 r3
  refine bodyPost_ret (v := .tuple #[.agg #[.bool false, .slice none 0 0, .bool false, .slice none 0 0], .int .i64 2]) (by simp [results, Tryz.results50, go_sem, r0, r1, r2, r3]) rfl ⟨rfl, b3 _ (extW.trans hE) (by omega)⟩
set_option maxHeartbeats 16000000 in
set_option maxRecDepth 100000 in
theorem qp_d4_neg (s u : ByteArray) (n : Nat) (a r : List UInt8) (hs : s.size ≤ 200) (h45 : s.data.toList = 45 :: u.data.toList) (hl : u.data.toList = a ++ r) (hn : a.length = n) (ha : Digs a) (hr : r = [] ∨ ∃ c b, r = c :: b ∧ ¬ Dig c) (hc : Canon a) (b : List UInt8) (h0 : r = 47 :: b) (a' r' : List UInt8) (hbe : b = a' ++ r') (hb : Digs a') (hbr : r' = [] ∨ ∃ c t, r' = c :: t ∧ ¬ Dig c) (hr0 : r' ≠ []) :
    Calls Tryz.prog 50 #[.string s] w (RetZE 2 w) := by
  obtain ⟨g0, g1, g2⟩ := get0 h45
  clear g2
  obtain ⟨c1, c2, c3⟩ := cut_neg (w := w) (s := s) (by omega) h45
  clear c3
  have hu : s.extract 1 s.size = u := bytes_ext c1
  have hne : s.toList.isEmpty = false := by rw [Lib.toList_data, h45]; rfl
  have t9 : ((s[0].toNat : Int) == 45) = true := by rw [g1]; rfl
  have hz : u.size ≤ 200 := by rw [← hu, c2]; have := Lib.size_eq s; rw [h45, List.length_cons] at this; have h2 := Lib.size_eq u; omega
  have HU := Lib.hid hu
  clear g1 c1 c2 hu h45
  have hsz := Lib.size_eq u
  rw [hl, List.length_append, hn] at hsz
  have hsz1 : u.size ≤ n + r.length := by omega
  have hsz2 : n + r.length ≤ u.size := by omega
  clear hsz
  have HG := Lib.hid (fun w => q_digits u w a r (by omega) hl ha hr)
  have HL := Lib.hid hl
  have HN := Lib.hid hn
  have HA := Lib.hid ha
  clear hl ha hr hn
  go_enter Tryz.func50, Tryz.ntmps50
  go_upto_region 1 with (fail)
  obtain ⟨W, hW, extW, bz, hzz⟩ := box1 w 27 #[Value.bool false, Value.slice none 0 0, Value.bool false, Value.slice none 0 0]
  rw [← hW]
  clear hW
  have t1 : decide ((65536 : Int) < (s.size : Int)) = false := decide_eq_false (by omega)
  go_wp2_with fail
  rw [HU.out]
  refine (HG.out _).mono ?_
  rintro e w0 ⟨rfl, hw0⟩
  subst hw0
  rw [HN.out]
  have HCA := Lib.hid hc
  have hn1 : 1 ≤ n := by
    rw [← HN.out]
    rcases hc with h | ⟨c, t, h, _⟩ <;> rw [h] <;> simp
  have hn0 : ((n : Int) == 0) = false := by rw [beq_eq_false_iff_ne]; omega
  have H48 := Lib.hid (fun (h1 : 1 < n) => show ((u[0]'(by omega)).toNat : Int) ≠ 48 from by
    rcases HCA.out with h | ⟨c, t, h, h2⟩
    · have := HN.out
      rw [h] at this
      simp at this
      omega
    · have hlc : u.data.toList = c :: (t ++ r) := by rw [HL.out, h]; rfl
      obtain ⟨_, g1, _⟩ := get0 hlc
      rw [g1]
      intro h3
      exact h2 (u8_48 (by omega)))
  clear hc
  go_upto_region 7 with (fail)
  go_cut [38] (fun p V => p = .bool false ∧ W = V)
  case first =>
    by_cases h1 : 1 < n
    · have h2 := H48.out h1
      have t2 : decide ((1 : Int) < (n : Int)) = true := decide_eq_true (by omega)
      have t3 : ((u[0].toNat : Int) == 48) = false := beq_eq_false_iff_ne.2 h2
      have g3 : 0 < u.size := by omega
      clear h2
      go_wp2_with fail
      go_meet
      exact ⟨rfl, rfl⟩
    · have t2 : decide ((1 : Int) < (n : Int)) = false := decide_eq_false (by omega)
      go_wp2_with fail
      go_meet
      exact ⟨rfl, rfl⟩
  case rest =>
  obtain ⟨rfl, rfl⟩ := hcut
  have c1 : (0 : Int) ≤ (n : Int) := by omega
  have c2 : (n : Int) ≤ (u.size : Int) := by omega
  have c3 : n ≤ u.size := by omega
  have hbf1 : (u.extract 0 n).data.toList = a := by rw [extract_to _ _ c3, HL.out, ← HN.out, List.take_left]
  have hrf1 : (u.extract n u.size).data.toList = r := by rw [extract_from, HL.out, ← HN.out, List.drop_left]
  obtain ⟨bf, hbf⟩ : ∃ bf, u.extract 0 n = bf := ⟨_, rfl⟩
  obtain ⟨rf, hrf⟩ : ∃ rf, u.extract n u.size = rf := ⟨_, rfl⟩
  rw [hbf] at hbf1
  rw [hrf] at hrf1
  have hbz : bf.size ≤ n := by rw [Lib.size_eq, hbf1, HN.out]; exact Nat.le_refl _
  have hrz := Lib.size_eq rf
  rw [hrf1] at hrz
  have hrz1 : rf.size ≤ r.length := by omega
  have hrz2 : r.length ≤ rf.size := by omega
  clear hrz
  have HBF := Lib.hid hbf
  have HRF := Lib.hid hrf
  have HB := Lib.hid hbf1
  have HR := Lib.hid hrf1
  clear hbf hrf hbf1 hrf1
  go_wp2_with fail
  rw [HBF.out]
  refine (q_ParseI bf (by omega) (by rw [HB.out]; exact HA.out) (by rw [HB.out]; exact HCA.out) (L := n) (by omega)).mono ?_
  rintro e wa ⟨s6, A6, n6, c6, rfl, h6, hxa⟩
  rw [HB.out] at h6
  go_upto_region 10 with (fail)
  refine at_world (fun V => Ext W V ∧ Box V wa.heap.size 24 #[.bool s6, .slice A6 n6 c6] ∧ NI V (dv a : Int) n s6 A6 n6 c6) ⟨hxa.alloc _, Box.new wa _ _, h6.ext ((Ext.refl wa).alloc _)⟩ ?_
  have hg6 : w.heap.size + 1 ≤ wa.heap.size := by have := hxa.size; omega
  generalize wa.heap.size = g6 at *
  clear hxa h6
  rintro V ⟨EV, b6, h6⟩
  replace bz := bz.ext EV
  replace extW := extW.trans EV
  clear EV
  go_wp2_with fail
  refine (q_FromInt 1 (by omega) (by omega)).mono ?_
  rintro e wb ⟨s8, A8, n8, c8, rfl, h8, hxb⟩
  go_upto_region 11 with (fail)
  refine at_world (fun U => Ext V U ∧ Box U wb.heap.size 24 #[.bool s8, .slice A8 n8 c8] ∧ NI U 1 2 s8 A8 n8 c8) ⟨hxb.alloc _, Box.new wb _ _, h8.ext ((Ext.refl wb).alloc _)⟩ ?_
  have hsz6 := hxb.size
  generalize wb.heap.size = g8 at *
  clear hxb h8
  rintro U ⟨EU, b8, h8⟩
  have hlt6 := b6.lt
  have hne68 : g6 ≠ g8 := by omega
  replace bz := bz.ext EU
  replace b6 := b6.ext EU
  replace h6 := h6.ext EU
  replace extW := extW.trans EU
  clear EU
  go_upto_region 13 with (fail)
  rw [HRF.out]
  have hrl : rf.data.toList = 47 :: b := by rw [HR.out, h0]
  have hre : rf.toList.isEmpty = false := by rw [Lib.toList_data, hrl]; rfl
  obtain ⟨g9, g91, g92⟩ := get0 hrl
  have t46 : ((rf[0].toNat : Int) == 46) = false := by rw [g91]; rfl
  have t47 : ((rf[0].toNat : Int) == 47) = true := by rw [g91]; rfl
  have hr1 : 1 ≤ r'.length := List.length_pos_iff.2 hr0
  obtain ⟨m, hm⟩ : ∃ m, List.length a' = m := ⟨_, rfl⟩
  have hsf1 : (rf.extract 1 rf.size).data.toList = b := by rw [extract_from, hrl]; rfl
  obtain ⟨sf, hsf⟩ : ∃ sf, rf.extract 1 rf.size = sf := ⟨_, rfl⟩
  rw [hsf] at hsf1
  have hsz := Lib.size_eq sf
  rw [hsf1] at hsz
  have HG2 := Lib.hid (fun w => q_digits sf w a' r' (by omega) (by rw [hsf1]; exact hbe) hb hbr)
  have HM := Lib.hid hm
  have HSF := Lib.hid hsf
  have HS1 := Lib.hid hsf1
  have hsz1' : sf.size ≤ b.length := by omega
  have hrs1 : rf.size ≤ b.length + 1 := by omega
  have hrs2 : b.length + 1 ≤ rf.size := by omega
  have hbl : b.length = a'.length + r'.length := by rw [hbe, List.length_append]
  have t7 : decide ((1 : Int) < (rf.size : Int)) = true := decide_eq_true (by omega)
  have t8 : ((m : Int) == (rf.size : Int) - 1) = false := by rw [beq_eq_false_iff_ne]; omega
  have gr1 : 1 < rf.size := by omega
  clear g91 g92 hm hsf hsf1 hsz hrl hb hbr hbl hbe
  go_wp2_with fail
  rw [HSF.out]
  refine (HG2.out _).mono ?_
  rintro e w14 ⟨rfl, hw14⟩
  subst hw14
  rw [HM.out]
  have hE := Ext.refl U
  have z0 := (bz.ext hE).cell 0 _ rfl
  have z1 := (bz.ext hE).cell 1 _ rfl
  have z2 := (bz.ext hE).cell 2 _ rfl
  have z3 := (bz.ext hE).cell 3 _ rfl
  have f0 := (bz.ext hE).frozen 0
  have f1 := (bz.ext hE).frozen 1
  have f2 := (bz.ext hE).frozen 2
  have f3 := (bz.ext hE).frozen 3
  go_wp2_with fail
  obtain ⟨b1, b2, b3, b4⟩ := fin_quad (s := false) (A := none) (n := 0) (c := 0) (t := false) (B := none) (m := 0) (d := 0) (bz.ext hE)
  have r0 := b1.cell 0 (.bool false) rfl
  have r1 := b1.cell 1 (.slice none 0 0) rfl
  have r2 := b1.cell 2 (.bool false) rfl
  have r3 := b1.cell 3 (.slice none 0 0) rfl
  unfold set4 at r0 r1 r2 r3
  refine bodyPost_ret (v := .tuple #[.agg #[.bool false, .slice none 0 0, .bool false, .slice none 0 0], .int .i64 2]) (by simp [results, Tryz.results50, go_sem, r0, r1, r2, r3]) rfl ⟨rfl, b3 _ (extW.trans hE) (by omega)⟩
set_option maxHeartbeats 16000000 in
set_option maxRecDepth 100000 in
theorem qp_d5_neg (s u : ByteArray) (n : Nat) (a r : List UInt8) (hs : s.size ≤ 200) (h45 : s.data.toList = 45 :: u.data.toList) (hl : u.data.toList = a ++ r) (hn : a.length = n) (ha : Digs a) (hr : r = [] ∨ ∃ c b, r = c :: b ∧ ¬ Dig c) (hc : Canon a) (b : List UInt8) (h0 : r = 47 :: b) (hb : Digs b) (t : List UInt8) (hbt : b = 48 :: t) :
    Calls Tryz.prog 50 #[.string s] w (RetZE 2 w) := by
  obtain ⟨g0, g1, g2⟩ := get0 h45
  clear g2
  obtain ⟨c1, c2, c3⟩ := cut_neg (w := w) (s := s) (by omega) h45
  clear c3
  have hu : s.extract 1 s.size = u := bytes_ext c1
  have hne : s.toList.isEmpty = false := by rw [Lib.toList_data, h45]; rfl
  have t9 : ((s[0].toNat : Int) == 45) = true := by rw [g1]; rfl
  have hz : u.size ≤ 200 := by rw [← hu, c2]; have := Lib.size_eq s; rw [h45, List.length_cons] at this; have h2 := Lib.size_eq u; omega
  have HU := Lib.hid hu
  clear g1 c1 c2 hu h45
  have hsz := Lib.size_eq u
  rw [hl, List.length_append, hn] at hsz
  have hsz1 : u.size ≤ n + r.length := by omega
  have hsz2 : n + r.length ≤ u.size := by omega
  clear hsz
  have HG := Lib.hid (fun w => q_digits u w a r (by omega) hl ha hr)
  have HL := Lib.hid hl
  have HN := Lib.hid hn
  have HA := Lib.hid ha
  clear hl ha hr hn
  go_enter Tryz.func50, Tryz.ntmps50
  go_upto_region 1 with (fail)
  obtain ⟨W, hW, extW, bz, hzz⟩ := box1 w 27 #[Value.bool false, Value.slice none 0 0, Value.bool false, Value.slice none 0 0]
  rw [← hW]
  clear hW
  have t1 : decide ((65536 : Int) < (s.size : Int)) = false := decide_eq_false (by omega)
  go_wp2_with fail
  rw [HU.out]
  refine (HG.out _).mono ?_
  rintro e w0 ⟨rfl, hw0⟩
  subst hw0
  rw [HN.out]
  have HCA := Lib.hid hc
  have hn1 : 1 ≤ n := by
    rw [← HN.out]
    rcases hc with h | ⟨c, t, h, _⟩ <;> rw [h] <;> simp
  have hn0 : ((n : Int) == 0) = false := by rw [beq_eq_false_iff_ne]; omega
  have H48 := Lib.hid (fun (h1 : 1 < n) => show ((u[0]'(by omega)).toNat : Int) ≠ 48 from by
    rcases HCA.out with h | ⟨c, t, h, h2⟩
    · have := HN.out
      rw [h] at this
      simp at this
      omega
    · have hlc : u.data.toList = c :: (t ++ r) := by rw [HL.out, h]; rfl
      obtain ⟨_, g1, _⟩ := get0 hlc
      rw [g1]
      intro h3
      exact h2 (u8_48 (by omega)))
  clear hc
  go_upto_region 7 with (fail)
  go_cut [38] (fun p V => p = .bool false ∧ W = V)
  case first =>
    by_cases h1 : 1 < n
    · have h2 := H48.out h1
      have t2 : decide ((1 : Int) < (n : Int)) = true := decide_eq_true (by omega)
      have t3 : ((u[0].toNat : Int) == 48) = false := beq_eq_false_iff_ne.2 h2
      have g3 : 0 < u.size := by omega
      clear h2
      go_wp2_with fail
      go_meet
      exact ⟨rfl, rfl⟩
    · have t2 : decide ((1 : Int) < (n : Int)) = false := decide_eq_false (by omega)
      go_wp2_with fail
      go_meet
      exact ⟨rfl, rfl⟩
  case rest =>
  obtain ⟨rfl, rfl⟩ := hcut
  have c1 : (0 : Int) ≤ (n : Int) := by omega
  have c2 : (n : Int) ≤ (u.size : Int) := by omega
  have c3 : n ≤ u.size := by omega
  have hbf1 : (u.extract 0 n).data.toList = a := by rw [extract_to _ _ c3, HL.out, ← HN.out, List.take_left]
  have hrf1 : (u.extract n u.size).data.toList = r := by rw [extract_from, HL.out, ← HN.out, List.drop_left]
  obtain ⟨bf, hbf⟩ : ∃ bf, u.extract 0 n = bf := ⟨_, rfl⟩
  obtain ⟨rf, hrf⟩ : ∃ rf, u.extract n u.size = rf := ⟨_, rfl⟩
  rw [hbf] at hbf1
  rw [hrf] at hrf1
  have hbz : bf.size ≤ n := by rw [Lib.size_eq, hbf1, HN.out]; exact Nat.le_refl _
  have hrz := Lib.size_eq rf
  rw [hrf1] at hrz
  have hrz1 : rf.size ≤ r.length := by omega
  have hrz2 : r.length ≤ rf.size := by omega
  clear hrz
  have HBF := Lib.hid hbf
  have HRF := Lib.hid hrf
  have HB := Lib.hid hbf1
  have HR := Lib.hid hrf1
  clear hbf hrf hbf1 hrf1
  go_wp2_with fail
  rw [HBF.out]
  refine (q_ParseI bf (by omega) (by rw [HB.out]; exact HA.out) (by rw [HB.out]; exact HCA.out) (L := n) (by omega)).mono ?_
  rintro e wa ⟨s6, A6, n6, c6, rfl, h6, hxa⟩
  rw [HB.out] at h6
  go_upto_region 10 with (fail)
  refine at_world (fun V => Ext W V ∧ Box V wa.heap.size 24 #[.bool s6, .slice A6 n6 c6] ∧ NI V (dv a : Int) n s6 A6 n6 c6) ⟨hxa.alloc _, Box.new wa _ _, h6.ext ((Ext.refl wa).alloc _)⟩ ?_
  have hg6 : w.heap.size + 1 ≤ wa.heap.size := by have := hxa.size; omega
  generalize wa.heap.size = g6 at *
  clear hxa h6
  rintro V ⟨EV, b6, h6⟩
  replace bz := bz.ext EV
  replace extW := extW.trans EV
  clear EV
  go_wp2_with fail
  refine (q_FromInt 1 (by omega) (by omega)).mono ?_
  rintro e wb ⟨s8, A8, n8, c8, rfl, h8, hxb⟩
  go_upto_region 11 with (fail)
  refine at_world (fun U => Ext V U ∧ Box U wb.heap.size 24 #[.bool s8, .slice A8 n8 c8] ∧ NI U 1 2 s8 A8 n8 c8) ⟨hxb.alloc _, Box.new wb _ _, h8.ext ((Ext.refl wb).alloc _)⟩ ?_
  have hsz6 := hxb.size
  generalize wb.heap.size = g8 at *
  clear hxb h8
  rintro U ⟨EU, b8, h8⟩
  have hlt6 := b6.lt
  have hne68 : g6 ≠ g8 := by omega
  replace bz := bz.ext EU
  replace b6 := b6.ext EU
  replace h6 := h6.ext EU
  replace extW := extW.trans EU
  clear EU
  go_upto_region 13 with (fail)
  rw [HRF.out]
  have hrl : rf.data.toList = 47 :: b := by rw [HR.out, h0]
  have hre : rf.toList.isEmpty = false := by rw [Lib.toList_data, hrl]; rfl
  obtain ⟨g9, g91, g92⟩ := get0 hrl
  have t46 : ((rf[0].toNat : Int) == 46) = false := by rw [g91]; rfl
  have t47 : ((rf[0].toNat : Int) == 47) = true := by rw [g91]; rfl
  have hb1 : 1 ≤ b.length := by rw [hbt]; simp
  have hbr : ([] : List UInt8) = [] ∨ ∃ c t, [] = c :: t ∧ ¬ Dig c := .inl rfl
  obtain ⟨m, hm⟩ : ∃ m, List.length b = m := ⟨_, rfl⟩
  have hsf1 : (rf.extract 1 rf.size).data.toList = b := by rw [extract_from, hrl]; rfl
  obtain ⟨sf, hsf⟩ : ∃ sf, rf.extract 1 rf.size = sf := ⟨_, rfl⟩
  rw [hsf] at hsf1
  have hsz := Lib.size_eq sf
  rw [hsf1] at hsz
  have HG2 := Lib.hid (fun w => q_digits sf w b [] (by omega) (by rw [hsf1]; exact (List.append_nil b).symm) hb hbr)
  have HM := Lib.hid hm
  have HSF := Lib.hid hsf
  have HS1 := Lib.hid hsf1
  have hsz1' : sf.size ≤ b.length := by omega
  have hrs1 : rf.size ≤ b.length + 1 := by omega
  have hrs2 : b.length + 1 ≤ rf.size := by omega
  have t7 : decide ((1 : Int) < (rf.size : Int)) = true := decide_eq_true (by omega)
  have t8 : ((m : Int) == (rf.size : Int) - 1) = true := by rw [beq_iff_eq]; omega
  have gr1 : 1 < rf.size := by omega
  have t48 : ((rf[1].toNat : Int) != 48) = false := by
    have e : rf[1] = rf.data.toList[1]'(by rw [← Lib.size_eq]; exact gr1) := rfl
    have e2 : rf[1] = 48 := by rw [e]; simp only [hrl, hbt, List.getElem_cons_succ, List.getElem_cons_zero]
    rw [e2]; rfl
  clear g91 g92 hb1 hm hsf hsf1 hsz hrl hb hbr hbt
  go_wp2_with fail
  rw [HSF.out]
  refine (HG2.out _).mono ?_
  rintro e w14 ⟨rfl, hw14⟩
  subst hw14
  rw [HM.out]
  have hE := Ext.refl U
  have z0 := (bz.ext hE).cell 0 _ rfl
  have z1 := (bz.ext hE).cell 1 _ rfl
  have z2 := (bz.ext hE).cell 2 _ rfl
  have z3 := (bz.ext hE).cell 3 _ rfl
  have f0 := (bz.ext hE).frozen 0
  have f1 := (bz.ext hE).frozen 1
  have f2 := (bz.ext hE).frozen 2
  have f3 := (bz.ext hE).frozen 3
  go_wp2_with fail
  obtain ⟨b1, b2, b3, b4⟩ := fin_quad (s := false) (A := none) (n := 0) (c := 0) (t := false) (B := none) (m := 0) (d := 0) (bz.ext hE)
  have r0 := b1.cell 0 (.bool false) rfl
  have r1 := b1.cell 1 (.slice none 0 0) rfl
  have r2 := b1.cell 2 (.bool false) rfl
  have r3 := b1.cell 3 (.slice none 0 0) rfl
  unfold set4 at r0 r1 r2 r3
  refine bodyPost_ret (v := .tuple #[.agg #[.bool false, .slice none 0 0, .bool false, .slice none 0 0], .int .i64 2]) (by simp [results, Tryz.results50, go_sem, r0, r1, r2, r3]) rfl ⟨rfl, b3 _ (extW.trans hE) (by omega)⟩
set_option maxHeartbeats 16000000 in
set_option maxRecDepth 100000 in
theorem qp_d6_neg (s u : ByteArray) (n : Nat) (a r : List UInt8) (hs : s.size ≤ 200) (h45 : s.data.toList = 45 :: u.data.toList) (hl : u.data.toList = a ++ r) (hn : a.length = n) (ha : Digs a) (hr : r = [] ∨ ∃ c b, r = c :: b ∧ ¬ Dig c) (hc : Canon a) (b : List UInt8) (c : UInt8) (h0 : r = c :: b) (h46 : c ≠ 46) (h47 : c ≠ 47) :
    Calls Tryz.prog 50 #[.string s] w (RetZE 2 w) := by
  obtain ⟨g0, g1, g2⟩ := get0 h45
  clear g2
  obtain ⟨c1, c2, c3⟩ := cut_neg (w := w) (s := s) (by omega) h45
  clear c3
  have hu : s.extract 1 s.size = u := bytes_ext c1
  have hne : s.toList.isEmpty = false := by rw [Lib.toList_data, h45]; rfl
  have t9 : ((s[0].toNat : Int) == 45) = true := by rw [g1]; rfl
  have hz : u.size ≤ 200 := by rw [← hu, c2]; have := Lib.size_eq s; rw [h45, List.length_cons] at this; have h2 := Lib.size_eq u; omega
  have HU := Lib.hid hu
  clear g1 c1 c2 hu h45
  have hsz := Lib.size_eq u
  rw [hl, List.length_append, hn] at hsz
  have hsz1 : u.size ≤ n + r.length := by omega
  have hsz2 : n + r.length ≤ u.size := by omega
  clear hsz
  have HG := Lib.hid (fun w => q_digits u w a r (by omega) hl ha hr)
  have HL := Lib.hid hl
  have HN := Lib.hid hn
  have HA := Lib.hid ha
  clear hl ha hr hn
  go_enter Tryz.func50, Tryz.ntmps50
  go_upto_region 1 with (fail)
  obtain ⟨W, hW, extW, bz, hzz⟩ := box1 w 27 #[Value.bool false, Value.slice none 0 0, Value.bool false, Value.slice none 0 0]
  rw [← hW]
  clear hW
  have t1 : decide ((65536 : Int) < (s.size : Int)) = false := decide_eq_false (by omega)
  go_wp2_with fail
  rw [HU.out]
  refine (HG.out _).mono ?_
  rintro e w0 ⟨rfl, hw0⟩
  subst hw0
  rw [HN.out]
  have HCA := Lib.hid hc
  have hn1 : 1 ≤ n := by
    rw [← HN.out]
    rcases hc with h | ⟨c, t, h, _⟩ <;> rw [h] <;> simp
  have hn0 : ((n : Int) == 0) = false := by rw [beq_eq_false_iff_ne]; omega
  have H48 := Lib.hid (fun (h1 : 1 < n) => show ((u[0]'(by omega)).toNat : Int) ≠ 48 from by
    rcases HCA.out with h | ⟨c, t, h, h2⟩
    · have := HN.out
      rw [h] at this
      simp at this
      omega
    · have hlc : u.data.toList = c :: (t ++ r) := by rw [HL.out, h]; rfl
      obtain ⟨_, g1, _⟩ := get0 hlc
      rw [g1]
      intro h3
      exact h2 (u8_48 (by omega)))
  clear hc
  go_upto_region 7 with (fail)
  go_cut [38] (fun p V => p = .bool false ∧ W = V)
  case first =>
    by_cases h1 : 1 < n
    · have h2 := H48.out h1
      have t2 : decide ((1 : Int) < (n : Int)) = true := decide_eq_true (by omega)
      have t3 : ((u[0].toNat : Int) == 48) = false := beq_eq_false_iff_ne.2 h2
      have g3 : 0 < u.size := by omega
      clear h2
      go_wp2_with fail
      go_meet
      exact ⟨rfl, rfl⟩
    · have t2 : decide ((1 : Int) < (n : Int)) = false := decide_eq_false (by omega)
      go_wp2_with fail
      go_meet
      exact ⟨rfl, rfl⟩
  case rest =>
  obtain ⟨rfl, rfl⟩ := hcut
  have c1 : (0 : Int) ≤ (n : Int) := by omega
  have c2 : (n : Int) ≤ (u.size : Int) := by omega
  have c3 : n ≤ u.size := by omega
  have hbf1 : (u.extract 0 n).data.toList = a := by rw [extract_to _ _ c3, HL.out, ← HN.out, List.take_left]
  have hrf1 : (u.extract n u.size).data.toList = r := by rw [extract_from, HL.out, ← HN.out, List.drop_left]
  obtain ⟨bf, hbf⟩ : ∃ bf, u.extract 0 n = bf := ⟨_, rfl⟩
  obtain ⟨rf, hrf⟩ : ∃ rf, u.extract n u.size = rf := ⟨_, rfl⟩
  rw [hbf] at hbf1
  rw [hrf] at hrf1
  have hbz : bf.size ≤ n := by rw [Lib.size_eq, hbf1, HN.out]; exact Nat.le_refl _
  have hrz := Lib.size_eq rf
  rw [hrf1] at hrz
  have hrz1 : rf.size ≤ r.length := by omega
  have hrz2 : r.length ≤ rf.size := by omega
  clear hrz
  have HBF := Lib.hid hbf
  have HRF := Lib.hid hrf
  have HB := Lib.hid hbf1
  have HR := Lib.hid hrf1
  clear hbf hrf hbf1 hrf1
  go_wp2_with fail
  rw [HBF.out]
  refine (q_ParseI bf (by omega) (by rw [HB.out]; exact HA.out) (by rw [HB.out]; exact HCA.out) (L := n) (by omega)).mono ?_
  rintro e wa ⟨s6, A6, n6, c6, rfl, h6, hxa⟩
  rw [HB.out] at h6
  go_upto_region 10 with (fail)
  refine at_world (fun V => Ext W V ∧ Box V wa.heap.size 24 #[.bool s6, .slice A6 n6 c6] ∧ NI V (dv a : Int) n s6 A6 n6 c6) ⟨hxa.alloc _, Box.new wa _ _, h6.ext ((Ext.refl wa).alloc _)⟩ ?_
  have hg6 : w.heap.size + 1 ≤ wa.heap.size := by have := hxa.size; omega
  generalize wa.heap.size = g6 at *
  clear hxa h6
  rintro V ⟨EV, b6, h6⟩
  replace bz := bz.ext EV
  replace extW := extW.trans EV
  clear EV
  go_wp2_with fail
  refine (q_FromInt 1 (by omega) (by omega)).mono ?_
  rintro e wb ⟨s8, A8, n8, c8, rfl, h8, hxb⟩
  go_upto_region 11 with (fail)
  refine at_world (fun U => Ext V U ∧ Box U wb.heap.size 24 #[.bool s8, .slice A8 n8 c8] ∧ NI U 1 2 s8 A8 n8 c8) ⟨hxb.alloc _, Box.new wb _ _, h8.ext ((Ext.refl wb).alloc _)⟩ ?_
  have hsz6 := hxb.size
  generalize wb.heap.size = g8 at *
  clear hxb h8
  rintro U ⟨EU, b8, h8⟩
  have hlt6 := b6.lt
  have hne68 : g6 ≠ g8 := by omega
  replace bz := bz.ext EU
  replace b6 := b6.ext EU
  replace h6 := h6.ext EU
  replace extW := extW.trans EU
  clear EU
  go_upto_region 13 with (fail)
  rw [HRF.out]
  have hrl : rf.data.toList = c :: b := by rw [HR.out, h0]
  have hre : rf.toList.isEmpty = false := by rw [Lib.toList_data, hrl]; rfl
  obtain ⟨g9, g91, g92⟩ := get0 hrl
  have t46 : ((rf[0].toNat : Int) == 46) = false := by
    rw [beq_eq_false_iff_ne, g91]
    intro h
    exact h46 (UInt8.toNat_inj.1 (by have : (46 : UInt8).toNat = 46 := rfl; omega))
  have t47 : ((rf[0].toNat : Int) == 47) = false := by
    rw [beq_eq_false_iff_ne, g91]
    intro h
    exact h47 (UInt8.toNat_inj.1 (by have : (47 : UInt8).toNat = 47 := rfl; omega))
  clear g91 g92 hrl
  have hE := Ext.refl U
  have z0 := (bz.ext hE).cell 0 _ rfl
  have z1 := (bz.ext hE).cell 1 _ rfl
  have z2 := (bz.ext hE).cell 2 _ rfl
  have z3 := (bz.ext hE).cell 3 _ rfl
  have f0 := (bz.ext hE).frozen 0
  have f1 := (bz.ext hE).frozen 1
  have f2 := (bz.ext hE).frozen 2
  have f3 := (bz.ext hE).frozen 3
  go_wp2_with fail
  obtain ⟨b1, b2, b3, b4⟩ := fin_quad (s := false) (A := none) (n := 0) (c := 0) (t := false) (B := none) (m := 0) (d := 0) (bz.ext hE)
  have r0 := b1.cell 0 (.bool false) rfl
  have r1 := b1.cell 1 (.slice none 0 0) rfl
  have r2 := b1.cell 2 (.bool false) rfl
  have r3 := b1.cell 3 (.slice none 0 0) rfl
  unfold set4 at r0 r1 r2 r3
  refine bodyPost_ret (v := .tuple #[.agg #[.bool false, .slice none 0 0, .bool false, .slice none 0 0], .int .i64 2]) (by simp [results, Tryz.results50, go_sem, r0, r1, r2, r3]) rfl ⟨rfl, b3 _ (extW.trans hE) (by omega)⟩
end
end Go.Proofs.YtiioodgpkdbndaaGreatDoor
