/- For every two intervals the law IntervalSums returns true: Add, Sub and Width return the specified results, the arguments keep their values, and the examples of the chapter hold. Condition: the table math/bits.deBruijn64tab holds what its initialiser lays (tied by the given card). -/
import Derived.Test.YtoabhnofppledaaGreatDoorM0
import Derived.Test.YtoabhnofppledaaGreatDoorM1
import Derived.Test.YtoabhnofppledaaGreatDoorM2
import Derived.Test.YtoabhnofppledaaGreatDoorM3
import Derived.Test.YtoabhnofppledaaGreatDoorM4
import Derived.Test.YtoabhnofppledaaGreatDoorM5
import Derived.Test.YtoabhnofppledaaGreatDoorM6
import Derived.Test.YtoabhnofppledaaGreatDoorM7
import Derived.Test.YtoabhnofppledaaGreatDoorM8
import Derived.Test.YtoabhnofppledaaGreatDoorM9
import Derived.Test.YtoabhnofppledaaGreatDoorMd0
import Derived.Test.YtoabhnofppledaaGreatDoorMd1
namespace Go.Proofs.YtoabhnofppledaaGreatDoor
theorem mem_ends {lo hi x : Rat} : x ∈ endsOf lo hi ↔ x = lo ∨ x = hi := by
  unfold endsOf
  split
  · rename_i h; subst h; simp
  · simp
theorem mem_prods {F : Rat → Rat → Rat} {l l' : List Rat} {z : Rat} : z ∈ prods F l l' ↔ ∃ x ∈ l, ∃ y ∈ l', F x y = z := by
  unfold prods
  rw [List.mem_flatMap]
  constructor
  · rintro ⟨x, hx, h⟩
    obtain ⟨y, hy, e⟩ := List.mem_map.1 h
    exact ⟨x, hx, y, hy, e⟩
  · rintro ⟨x, hx, y, hy, e⟩
    exact ⟨x, hx, List.mem_map.2 ⟨y, hy, e⟩⟩
theorem prods_four (F : Rat → Rat → Rat) (lo hi lo' hi' z : Rat) : z ∈ prods F (endsOf lo hi) (endsOf lo' hi') ↔ z ∈ [F lo lo', F lo hi', F hi lo', F hi hi'] := by
  rw [mem_prods]
  simp only [List.mem_cons, List.not_mem_nil, or_false, mem_ends]
  constructor
  · rintro ⟨x, rfl | rfl, y, rfl | rfl, rfl⟩ <;> simp
  · rintro (rfl | rfl | rfl | rfl)
    · exact ⟨lo, .inl rfl, lo', .inl rfl, rfl⟩
    · exact ⟨lo, .inl rfl, hi', .inr rfl, rfl⟩
    · exact ⟨hi, .inr rfl, lo', .inl rfl, rfl⟩
    · exact ⟨hi, .inr rfl, hi', .inr rfl, rfl⟩
end Go.Proofs.YtoabhnofppledaaGreatDoor
namespace Go.Proofs.YtoabhnofppledaaGreatDoor
open Go.RowKit
attribute [local go_sem ↓] Go.wp_at_zero Go.wp_at_succ
section
variable {w w' : World} {q p lo hi : Rat} {L M : Nat} {s t s' t' : Bool} {A B A' B' : Option Addr} {n c m d n' c' m' d' : Nat} {qs : List Rat}
set_option maxHeartbeats 16000000 in
set_option maxRecDepth 100000 in
theorem q_Hull {b : Nat} (hqs : RatsAt w b 0 qs L) (hn : qs.length = n) (hp : 0 < n) (hL : L ≤ 60) (hn9 : n ≤ 1000) : Calls Tryz.prog 57 #[.slice (some ⟨b, 0, none⟩) n c] w (RetHull qs L w) := by
  have Hn := Lib.hid hn
  clear hn
  go_enter Tryz.func57, Tryz.ntmps57
  go_upto_region 1 with (fail)
  obtain ⟨W, hW, ext, bz, hz⟩ := box1 w 28 #[Value.bool false, Value.slice none 0 0, Value.bool false, Value.slice none 0 0, Value.bool false, Value.slice none 0 0, Value.bool false, Value.slice none 0 0]
  rw [← hW]
  clear hW hz
  have hk0 : 0 < qs.length := by rw [Hn.out]; exact hp
  obtain ⟨sx, Ax, nx, cx, tx, Bx, mx, dx, e0, e1, e2, e3, hx⟩ := (hqs.ext ext).at_ 0 hk0
  have HT := Lib.hid (show qs.take 1 = [qs[0]] by rw [List.take_succ_eq_append_getElem hk0]; rfl)
  generalize qs[0] = x at hx HT
  simp only [Nat.mul_zero, Nat.zero_add] at e0 e1 e2 e3
  go_wp2_with fail
  refine (q_PointV hx).mono ?_
  rintro e V ⟨s5, A5, n5, c5, t5, B5, m5, d5, s6, A6, n6, c6, t6, B6, m6, d6, rfl, hP, extP⟩
  go_upto_region 2 with (fail)
  obtain ⟨W2, hW2, ext2, b3, hz2⟩ := box1 V 28 #[.bool s5, .slice A5 n5 c5, .bool t5, .slice B5 m5 d5, .bool s6, .slice A6 n6 c6, .bool t6, .slice B6 m6 d6]
  rw [← hW2]
  clear hW2 hz2
  have hg3 : w.heap.size < V.heap.size := (bz.ext extP).lt
  replace bz := (bz.ext extP).ext ext2
  replace hP := hP.ext ext2
  replace ext := (ext.trans extP).trans ext2
  clear e0 e1 e2 e3 hx extP ext2
  obtain ⟨g3, hg3e⟩ : ∃ g, V.heap.size = g := ⟨_, rfl⟩
  rw [hg3e] at b3 hg3 ⊢
  clear hg3e
  have hp1 : 1 ≤ n := hp
  have hh0 : IsHull x x (qs.take 1) := by rw [HT.out]; exact IsHull.one x
  clear HT
  go_wp2_with fail
  go_loopw [4] (fun i wr => ∃ (a1 : Nat) (lo hi : Rat) (s3 : Bool) (A3 : Option Addr) (n3 c3 : Nat) (t3 : Bool) (B3 : Option Addr) (m3 d3 : Nat) (s4 : Bool) (A4 : Option Addr) (n4 c4 : Nat) (t4 : Bool) (B4 : Option Addr) (m4 d4 : Nat), 1 ≤ a1 ∧ a1 ≤ n ∧ i = .int .i64 (a1 : Int) ∧ Ext w wr ∧ Box wr w.heap.size 28 #[Value.bool false, Value.slice none 0 0, Value.bool false, Value.slice none 0 0, Value.bool false, Value.slice none 0 0, Value.bool false, Value.slice none 0 0] ∧ Box wr g3 28 #[.bool s3, .slice A3 n3 c3, .bool t3, .slice B3 m3 d3, .bool s4, .slice A4 n4 c4, .bool t4, .slice B4 m4 d4] ∧ IsHull lo hi (qs.take a1) ∧ NR wr lo L s3 A3 n3 c3 t3 B3 m3 d3 ∧ NR wr hi L s4 A4 n4 c4 t4 B4 m4 d4) (fun i _ => n - (intOf i).toNat)
  case atStart => exact ⟨1, x, x, s5, A5, n5, c5, t5, B5, m5, d5, s6, A6, n6, c6, t6, B6, m6, d6, Nat.le_refl _, hp1, rfl, ext, bz, b3, hh0, hP.low, hP.high⟩
  case round =>
    clear ext bz b3 hh0 hP
    obtain ⟨a1, lo, hi, s3, A3, n3, c3, t3, B3, m3, d3, s4, A4, n4, c4, t4, B4, m4, d4, hk1, hk, rfl, ext6, bz, b3, hu, hlo, hhi⟩ := hrel
    have HU := Lib.hid hu
    clear hu
    by_cases hlt : a1 < n
    · have hkq : a1 < qs.length := by rw [Hn.out]; exact hlt
      obtain ⟨sx, Ax, nx, cx, tx, Bx, mx, dx, e0, e1, e2, e3, hx⟩ := hqs.at_ a1 hkq
      have HT := Lib.hid (show qs.take (a1 + 1) = qs.take a1 ++ [qs[a1]] from List.take_succ_eq_append_getElem hkq)
      generalize qs[a1] = x at hx HT
      rw [Nat.zero_add] at e0 e1 e2 e3
      have e0' : w.cell? ⟨b, a1 * 4, none⟩ = some (.bool sx) := by rw [Nat.mul_comm]; exact e0
      have e1' : w.cell? ⟨b, a1 * 4 + 1, none⟩ = some (.slice Ax nx cx) := by rw [Nat.mul_comm]; exact e1
      have e2' : w.cell? ⟨b, a1 * 4 + 2, none⟩ = some (.bool tx) := by rw [Nat.mul_comm]; exact e2
      have e3' : w.cell? ⟨b, a1 * 4 + 3, none⟩ = some (.slice Bx mx dx) := by rw [Nat.mul_comm]; exact e3
      go_upto_region 5 with (fail)
      have ES0 := Ext.refl wr
      refine wp_region_held_drew (S := Ext wr) (by kernel_rfl) ES0.drew (fun ES => ?_)
      clear ES0
      refine Late.start0 (fun _ _ _ _ _ => ⟨fun h => h, fun h => h⟩) ES (fun hAl hQ => ?_)
      refine Late.take (i := 0) (d := some 15) (v := ?v0_50) rfl rfl (by kernel_rfl) (by kernel_rfl) (by kernel_rfl) (by kernel_rfl) hQ (Or.inl ⟨by rfl, ?y0_50⟩) ?r0_50
      case y0_50 =>
        intro w' hSw
        have j0 := (ext6.trans hSw).cellv e0'
        have j1 := (ext6.trans hSw).cellv e1'
        have j2 := (ext6.trans hSw).cellv e2'
        have j3 := (ext6.trans hSw).cellv e3'
        have k00 := (b3.ext hSw).c8
        go_simp
        try with_reducible rfl
      try simp only [Act.put]
      try simp only [List.setIfInBounds_toArray]
      try simp only [List.set_cons_succ]
      try simp only [List.set_cons_zero]
      refine Late.take (i := 1) (d := some 16) (v := ?v1_51) rfl rfl (by kernel_rfl) (by kernel_rfl) (by kernel_rfl) (by kernel_rfl) hQ (Or.inl ⟨by rfl, ?y1_51⟩) ?r1_51
      case y1_51 =>
        intro w' hSw
        have j0 := (ext6.trans hSw).cellv e0'
        have j1 := (ext6.trans hSw).cellv e1'
        have j2 := (ext6.trans hSw).cellv e2'
        have j3 := (ext6.trans hSw).cellv e3'
        have k00 := (b3.ext hSw).c8
        go_simp
        try with_reducible rfl
      try simp only [Act.put]
      try simp only [List.setIfInBounds_toArray]
      try simp only [List.set_cons_succ]
      try simp only [List.set_cons_zero]
      refine Late.take (i := 4) (d := some 19) (v := ?v4_52) rfl rfl (by kernel_rfl) (by kernel_rfl) (by kernel_rfl) (by kernel_rfl) hQ (Or.inl ⟨by rfl, ?y4_52⟩) ?r4_52
      case y4_52 =>
        intro w' hSw
        have j0 := (ext6.trans hSw).cellv e0'
        have j1 := (ext6.trans hSw).cellv e1'
        have j2 := (ext6.trans hSw).cellv e2'
        have j3 := (ext6.trans hSw).cellv e3'
        have k00 := (b3.ext hSw).c8
        go_simp
        try with_reducible rfl
      try simp only [Act.put]
      try simp only [List.setIfInBounds_toArray]
      try simp only [List.set_cons_succ]
      try simp only [List.set_cons_zero]
      refine Late.take (i := 2) (d := some 17) (v := ?v2_53) rfl rfl (by kernel_rfl) (by kernel_rfl) (by kernel_rfl) (by kernel_rfl) hQ (Or.inl ⟨by rfl, ?y2_53⟩) ?r2_53
      case y2_53 =>
        intro w' hSw
        have j0 := (ext6.trans hSw).cellv e0'
        have j1 := (ext6.trans hSw).cellv e1'
        have j2 := (ext6.trans hSw).cellv e2'
        have j3 := (ext6.trans hSw).cellv e3'
        have k00 := (b3.ext hSw).c8
        go_simp
        try with_reducible rfl
      try simp only [Act.put]
      try simp only [List.setIfInBounds_toArray]
      try simp only [List.set_cons_succ]
      try simp only [List.set_cons_zero]
      refine Late.take (i := 5) (d := some 20) (v := ?v5_54) rfl rfl (by kernel_rfl) (by kernel_rfl) (by kernel_rfl) (by kernel_rfl) hQ (Or.inl ⟨by rfl, ?y5_54⟩) ?r5_54
      case y5_54 =>
        intro w' hSw
        have j0 := (ext6.trans hSw).cellv e0'
        have j1 := (ext6.trans hSw).cellv e1'
        have j2 := (ext6.trans hSw).cellv e2'
        have j3 := (ext6.trans hSw).cellv e3'
        have k00 := (b3.ext hSw).c8
        go_simp
        try with_reducible rfl
      try simp only [Act.put]
      try simp only [List.setIfInBounds_toArray]
      try simp only [List.set_cons_succ]
      try simp only [List.set_cons_zero]
      refine Late.take (i := 3) (d := some 18) (v := ?v3_55) rfl rfl (by kernel_rfl) (by kernel_rfl) (by kernel_rfl) (by kernel_rfl) hQ (Or.inl ⟨by rfl, ?y3_55⟩) ?r3_55
      case y3_55 =>
        intro w' hSw
        have j0 := (ext6.trans hSw).cellv e0'
        have j1 := (ext6.trans hSw).cellv e1'
        have j2 := (ext6.trans hSw).cellv e2'
        have j3 := (ext6.trans hSw).cellv e3'
        have k00 := (b3.ext hSw).c8
        go_simp
        try with_reducible rfl
      try simp only [Act.put]
      try simp only [List.setIfInBounds_toArray]
      try simp only [List.set_cons_succ]
      try simp only [List.set_cons_zero]
      refine Late.call (i := 6) rfl (by kernel_rfl) hAl (by kernel_rfl) (by kernel_rfl) (by kernel_rfl) hQ (fun w6 e6 E6 K hK => ?_)
      go_simp
      (go_at_call 53; refine (q_CmpR (hx.ext (ext6.trans E6)) (hlo.ext E6) (by omega) (by omega)).mono ?_; rintro e wk6 ⟨rfl, hx6⟩)
      refine hK.out _ _ hx6 ?_
      clear hK K
      try simp only [Act.put]
      try simp only [List.setIfInBounds_toArray]
      try simp only [List.set_cons_succ]
      try simp only [List.set_cons_zero]
      refine Late.take (i := 7) (d := some 22) (v := ?v7_56) rfl rfl (by kernel_rfl) (by kernel_rfl) (by kernel_rfl) (by kernel_rfl) hQ (Or.inl ⟨by rfl, ?y7_56⟩) ?r7_56
      case y7_56 =>
        intro w' hSw
        have j0 := (ext6.trans hSw).cellv e0'
        have j1 := (ext6.trans hSw).cellv e1'
        have j2 := (ext6.trans hSw).cellv e2'
        have j3 := (ext6.trans hSw).cellv e3'
        have k00 := (b3.ext hSw).c8
        go_simp
        try with_reducible rfl
      try simp only [Act.put]
      try simp only [List.setIfInBounds_toArray]
      try simp only [List.set_cons_succ]
      try simp only [List.set_cons_zero]
      refine Late.done0 (by kernel_rfl) (fun wz ez Ez => ?_)
      clear hAl hQ ES
      replace bz := bz.ext Ez
      replace b3 := b3.ext Ez
      replace hlo := hlo.ext Ez
      replace hhi := hhi.ext Ez
      replace ext6 := ext6.trans Ez
      clear Ez ez
      by_cases h3 : x < lo
      · have d3 : decide (ratCmp x lo < 0) = true := decide_eq_true (ratCmp_lt.2 h3)
        have H3 := Lib.hid h3
        clear h3
        rw [d3]
        have j0 := ext6.cellv e0'
        have j1 := ext6.cellv e1'
        have j2 := ext6.cellv e2'
        have j3 := ext6.cellv e3'
        have y0 := b3.cell 0 _ rfl
        have y1 := b3.cell 1 _ rfl
        have y2 := b3.cell 2 _ rfl
        have y3 := b3.cell 3 _ rfl
        have f0 := b3.frozen 0
        have f1 := b3.frozen 1
        have f2 := b3.frozen 2
        have f3 := b3.frozen 3
        go_upto_region 7 with (fail)
        have F := (((((FinOK.refl (T := 28) b3 NoWord.oct).step 0 (v := .bool sx) (by intro k h; cases h)).step 1 (v := .slice Ax nx cx) (by intro k h; cases h)).step 2 (v := .bool tx) (by intro k h; cases h)).step 3 (v := .slice Bx mx dx) (by intro k h; cases h))
        simp only [List.setIfInBounds_toArray, List.set_cons_succ, List.set_cons_zero] at F
        refine at_world (fun Y3 => Ext w Y3 ∧ Box Y3 w.heap.size 28 #[Value.bool false, Value.slice none 0 0, Value.bool false, Value.slice none 0 0, Value.bool false, Value.slice none 0 0, Value.bool false, Value.slice none 0 0] ∧ Box Y3 g3 28 #[.bool sx, .slice Ax nx cx, .bool tx, .slice Bx mx dx, .bool s4, .slice A4 n4 c4, .bool t4, .slice B4 m4 d4] ∧ NR Y3 hi L s4 A4 n4 c4 t4 B4 m4 d4) ⟨F.ext _ ext6 (by omega), F.far _ _ _ (by omega) bz, F.box, ⟨F.ni _ _ _ _ _ _ hhi.num, F.ni _ _ _ _ _ _ hhi.den⟩⟩ ?_
        clear F j0 j1 j2 j3 y0 y1 y2 y3 f0 f1 f2 f3 bz b3 hlo hhi ext6
        rintro Y3 ⟨ext6, bz, b3, hhi⟩
        have hlo := hx.ext ext6
        clear d3
        have ES0 := Ext.refl Y3
        refine wp_region_held_drew (S := Ext Y3) (by kernel_rfl) ES0.drew (fun ES => ?_)
        clear ES0
        refine Late.start0 (fun _ _ _ _ _ => ⟨fun h => h, fun h => h⟩) ES (fun hAl hQ => ?_)
        refine Late.take (i := 0) (d := some 28) (v := ?v0_57) rfl rfl (by kernel_rfl) (by kernel_rfl) (by kernel_rfl) (by kernel_rfl) hQ (Or.inl ⟨by rfl, ?y0_57⟩) ?r0_57
        case y0_57 =>
          intro w' hSw
          have j0 := (ext6.trans hSw).cellv e0'
          have j1 := (ext6.trans hSw).cellv e1'
          have j2 := (ext6.trans hSw).cellv e2'
          have j3 := (ext6.trans hSw).cellv e3'
          have k00 := (b3.ext hSw).c8
          go_simp
          try with_reducible rfl
        try simp only [Act.put]
        try simp only [List.setIfInBounds_toArray]
        try simp only [List.set_cons_succ]
        try simp only [List.set_cons_zero]
        refine Late.take (i := 1) (d := some 29) (v := ?v1_58) rfl rfl (by kernel_rfl) (by kernel_rfl) (by kernel_rfl) (by kernel_rfl) hQ (Or.inl ⟨by rfl, ?y1_58⟩) ?r1_58
        case y1_58 =>
          intro w' hSw
          have j0 := (ext6.trans hSw).cellv e0'
          have j1 := (ext6.trans hSw).cellv e1'
          have j2 := (ext6.trans hSw).cellv e2'
          have j3 := (ext6.trans hSw).cellv e3'
          have k00 := (b3.ext hSw).c8
          go_simp
          try with_reducible rfl
        try simp only [Act.put]
        try simp only [List.setIfInBounds_toArray]
        try simp only [List.set_cons_succ]
        try simp only [List.set_cons_zero]
        refine Late.take (i := 4) (d := some 32) (v := ?v4_59) rfl rfl (by kernel_rfl) (by kernel_rfl) (by kernel_rfl) (by kernel_rfl) hQ (Or.inl ⟨by rfl, ?y4_59⟩) ?r4_59
        case y4_59 =>
          intro w' hSw
          have j0 := (ext6.trans hSw).cellv e0'
          have j1 := (ext6.trans hSw).cellv e1'
          have j2 := (ext6.trans hSw).cellv e2'
          have j3 := (ext6.trans hSw).cellv e3'
          have k00 := (b3.ext hSw).c8
          go_simp
          try with_reducible rfl
        try simp only [Act.put]
        try simp only [List.setIfInBounds_toArray]
        try simp only [List.set_cons_succ]
        try simp only [List.set_cons_zero]
        refine Late.take (i := 2) (d := some 30) (v := ?v2_60) rfl rfl (by kernel_rfl) (by kernel_rfl) (by kernel_rfl) (by kernel_rfl) hQ (Or.inl ⟨by rfl, ?y2_60⟩) ?r2_60
        case y2_60 =>
          intro w' hSw
          have j0 := (ext6.trans hSw).cellv e0'
          have j1 := (ext6.trans hSw).cellv e1'
          have j2 := (ext6.trans hSw).cellv e2'
          have j3 := (ext6.trans hSw).cellv e3'
          have k00 := (b3.ext hSw).c8
          go_simp
          try with_reducible rfl
        try simp only [Act.put]
        try simp only [List.setIfInBounds_toArray]
        try simp only [List.set_cons_succ]
        try simp only [List.set_cons_zero]
        refine Late.take (i := 5) (d := some 33) (v := ?v5_61) rfl rfl (by kernel_rfl) (by kernel_rfl) (by kernel_rfl) (by kernel_rfl) hQ (Or.inl ⟨by rfl, ?y5_61⟩) ?r5_61
        case y5_61 =>
          intro w' hSw
          have j0 := (ext6.trans hSw).cellv e0'
          have j1 := (ext6.trans hSw).cellv e1'
          have j2 := (ext6.trans hSw).cellv e2'
          have j3 := (ext6.trans hSw).cellv e3'
          have k00 := (b3.ext hSw).c8
          go_simp
          try with_reducible rfl
        try simp only [Act.put]
        try simp only [List.setIfInBounds_toArray]
        try simp only [List.set_cons_succ]
        try simp only [List.set_cons_zero]
        refine Late.take (i := 3) (d := some 31) (v := ?v3_62) rfl rfl (by kernel_rfl) (by kernel_rfl) (by kernel_rfl) (by kernel_rfl) hQ (Or.inl ⟨by rfl, ?y3_62⟩) ?r3_62
        case y3_62 =>
          intro w' hSw
          have j0 := (ext6.trans hSw).cellv e0'
          have j1 := (ext6.trans hSw).cellv e1'
          have j2 := (ext6.trans hSw).cellv e2'
          have j3 := (ext6.trans hSw).cellv e3'
          have k00 := (b3.ext hSw).c8
          go_simp
          try with_reducible rfl
        try simp only [Act.put]
        try simp only [List.setIfInBounds_toArray]
        try simp only [List.set_cons_succ]
        try simp only [List.set_cons_zero]
        refine Late.call (i := 6) rfl (by kernel_rfl) hAl (by kernel_rfl) (by kernel_rfl) (by kernel_rfl) hQ (fun w6 e6 E6 K hK => ?_)
        go_simp
        (go_at_call 53; refine (q_CmpR (hx.ext (ext6.trans E6)) (hhi.ext E6) (by omega) (by omega)).mono ?_; rintro e wk6 ⟨rfl, hx6⟩)
        refine hK.out _ _ hx6 ?_
        clear hK K
        try simp only [Act.put]
        try simp only [List.setIfInBounds_toArray]
        try simp only [List.set_cons_succ]
        try simp only [List.set_cons_zero]
        refine Late.take (i := 7) (d := some 35) (v := ?v7_63) rfl rfl (by kernel_rfl) (by kernel_rfl) (by kernel_rfl) (by kernel_rfl) hQ (Or.inl ⟨by rfl, ?y7_63⟩) ?r7_63
        case y7_63 =>
          intro w' hSw
          have j0 := (ext6.trans hSw).cellv e0'
          have j1 := (ext6.trans hSw).cellv e1'
          have j2 := (ext6.trans hSw).cellv e2'
          have j3 := (ext6.trans hSw).cellv e3'
          have k00 := (b3.ext hSw).c8
          go_simp
          try with_reducible rfl
        try simp only [Act.put]
        try simp only [List.setIfInBounds_toArray]
        try simp only [List.set_cons_succ]
        try simp only [List.set_cons_zero]
        refine Late.done0 (by kernel_rfl) (fun wz ez Ez => ?_)
        clear hAl hQ ES
        replace bz := bz.ext Ez
        replace b3 := b3.ext Ez
        replace hlo := hlo.ext Ez
        replace hhi := hhi.ext Ez
        replace ext6 := ext6.trans Ez
        clear Ez ez
        by_cases h4 : hi < x
        · have d4 : decide (0 < ratCmp x hi) = true := decide_eq_true (ratCmp_gt.2 h4)
          have H4 := Lib.hid h4
          clear h4
          rw [d4]
          have j0 := ext6.cellv e0'
          have j1 := ext6.cellv e1'
          have j2 := ext6.cellv e2'
          have j3 := ext6.cellv e3'
          have y0 := b3.cell 4 _ rfl
          have y1 := b3.cell 5 _ rfl
          have y2 := b3.cell 6 _ rfl
          have y3 := b3.cell 7 _ rfl
          have f0 := b3.frozen 4
          have f1 := b3.frozen 5
          have f2 := b3.frozen 6
          have f3 := b3.frozen 7
          go_upto_region 4 with (fail)
          have F := (((((FinOK.refl (T := 28) b3 NoWord.oct).step 4 (v := .bool sx) (by intro k h; cases h)).step 5 (v := .slice Ax nx cx) (by intro k h; cases h)).step 6 (v := .bool tx) (by intro k h; cases h)).step 7 (v := .slice Bx mx dx) (by intro k h; cases h))
          simp only [List.setIfInBounds_toArray, List.set_cons_succ, List.set_cons_zero] at F
          refine at_world (fun Y4y => Ext w Y4y ∧ Box Y4y w.heap.size 28 #[Value.bool false, Value.slice none 0 0, Value.bool false, Value.slice none 0 0, Value.bool false, Value.slice none 0 0, Value.bool false, Value.slice none 0 0] ∧ Box Y4y g3 28 #[.bool sx, .slice Ax nx cx, .bool tx, .slice Bx mx dx, .bool sx, .slice Ax nx cx, .bool tx, .slice Bx mx dx] ∧ NR Y4y x L sx Ax nx cx tx Bx mx dx) ⟨F.ext _ ext6 (by omega), F.far _ _ _ (by omega) bz, F.box, ⟨F.ni _ _ _ _ _ _ hlo.num, F.ni _ _ _ _ _ _ hlo.den⟩⟩ ?_
          clear F j0 j1 j2 j3 y0 y1 y2 y3 f0 f1 f2 f3 bz b3 hlo hhi ext6
          rintro Y4y ⟨ext6, bz, b3, hlo⟩
          have hhi := hx.ext ext6
          clear d4
          go_wp2_with fail
          go_roundw
          case rel => exact ⟨a1 + 1, x, x, sx, Ax, nx, cx, tx, Bx, mx, dx, sx, Ax, nx, cx, tx, Bx, mx, dx, by omega, by omega, by go_num, ext6, bz, b3, by rw [HT.out]; exact hull_yy HU.out H3.out H4.out, hlo, hhi⟩
          case measure => simp [intOf]; omega
        · have d4 : decide (0 < ratCmp x hi) = false := decide_eq_false (fun h => h4 (ratCmp_gt.1 h))
          have H4 := Lib.hid h4
          clear h4
          rw [d4]
          go_upto_region 4 with (fail)
          clear d4
          go_wp2_with fail
          go_roundw
          case rel => exact ⟨a1 + 1, x, hi, sx, Ax, nx, cx, tx, Bx, mx, dx, s4, A4, n4, c4, t4, B4, m4, d4, by omega, by omega, by go_num, ext6, bz, b3, by rw [HT.out]; exact hull_yn HU.out H3.out H4.out, hlo, hhi⟩
          case measure => simp [intOf]; omega
      · have d3 : decide (ratCmp x lo < 0) = false := decide_eq_false (fun h => h3 (ratCmp_lt.1 h))
        have H3 := Lib.hid h3
        clear h3
        rw [d3]
        go_upto_region 7 with (fail)
        clear d3
        have ES0 := Ext.refl wz
        refine wp_region_held_drew (S := Ext wz) (by kernel_rfl) ES0.drew (fun ES => ?_)
        clear ES0
        refine Late.start0 (fun _ _ _ _ _ => ⟨fun h => h, fun h => h⟩) ES (fun hAl hQ => ?_)
        refine Late.take (i := 0) (d := some 28) (v := ?v0_64) rfl rfl (by kernel_rfl) (by kernel_rfl) (by kernel_rfl) (by kernel_rfl) hQ (Or.inl ⟨by rfl, ?y0_64⟩) ?r0_64
        case y0_64 =>
          intro w' hSw
          have j0 := (ext6.trans hSw).cellv e0'
          have j1 := (ext6.trans hSw).cellv e1'
          have j2 := (ext6.trans hSw).cellv e2'
          have j3 := (ext6.trans hSw).cellv e3'
          have k00 := (b3.ext hSw).c8
          go_simp
          try with_reducible rfl
        try simp only [Act.put]
        try simp only [List.setIfInBounds_toArray]
        try simp only [List.set_cons_succ]
        try simp only [List.set_cons_zero]
        refine Late.take (i := 1) (d := some 29) (v := ?v1_65) rfl rfl (by kernel_rfl) (by kernel_rfl) (by kernel_rfl) (by kernel_rfl) hQ (Or.inl ⟨by rfl, ?y1_65⟩) ?r1_65
        case y1_65 =>
          intro w' hSw
          have j0 := (ext6.trans hSw).cellv e0'
          have j1 := (ext6.trans hSw).cellv e1'
          have j2 := (ext6.trans hSw).cellv e2'
          have j3 := (ext6.trans hSw).cellv e3'
          have k00 := (b3.ext hSw).c8
          go_simp
          try with_reducible rfl
        try simp only [Act.put]
        try simp only [List.setIfInBounds_toArray]
        try simp only [List.set_cons_succ]
        try simp only [List.set_cons_zero]
        refine Late.take (i := 4) (d := some 32) (v := ?v4_66) rfl rfl (by kernel_rfl) (by kernel_rfl) (by kernel_rfl) (by kernel_rfl) hQ (Or.inl ⟨by rfl, ?y4_66⟩) ?r4_66
        case y4_66 =>
          intro w' hSw
          have j0 := (ext6.trans hSw).cellv e0'
          have j1 := (ext6.trans hSw).cellv e1'
          have j2 := (ext6.trans hSw).cellv e2'
          have j3 := (ext6.trans hSw).cellv e3'
          have k00 := (b3.ext hSw).c8
          go_simp
          try with_reducible rfl
        try simp only [Act.put]
        try simp only [List.setIfInBounds_toArray]
        try simp only [List.set_cons_succ]
        try simp only [List.set_cons_zero]
        refine Late.take (i := 2) (d := some 30) (v := ?v2_67) rfl rfl (by kernel_rfl) (by kernel_rfl) (by kernel_rfl) (by kernel_rfl) hQ (Or.inl ⟨by rfl, ?y2_67⟩) ?r2_67
        case y2_67 =>
          intro w' hSw
          have j0 := (ext6.trans hSw).cellv e0'
          have j1 := (ext6.trans hSw).cellv e1'
          have j2 := (ext6.trans hSw).cellv e2'
          have j3 := (ext6.trans hSw).cellv e3'
          have k00 := (b3.ext hSw).c8
          go_simp
          try with_reducible rfl
        try simp only [Act.put]
        try simp only [List.setIfInBounds_toArray]
        try simp only [List.set_cons_succ]
        try simp only [List.set_cons_zero]
        refine Late.take (i := 5) (d := some 33) (v := ?v5_68) rfl rfl (by kernel_rfl) (by kernel_rfl) (by kernel_rfl) (by kernel_rfl) hQ (Or.inl ⟨by rfl, ?y5_68⟩) ?r5_68
        case y5_68 =>
          intro w' hSw
          have j0 := (ext6.trans hSw).cellv e0'
          have j1 := (ext6.trans hSw).cellv e1'
          have j2 := (ext6.trans hSw).cellv e2'
          have j3 := (ext6.trans hSw).cellv e3'
          have k00 := (b3.ext hSw).c8
          go_simp
          try with_reducible rfl
        try simp only [Act.put]
        try simp only [List.setIfInBounds_toArray]
        try simp only [List.set_cons_succ]
        try simp only [List.set_cons_zero]
        refine Late.take (i := 3) (d := some 31) (v := ?v3_69) rfl rfl (by kernel_rfl) (by kernel_rfl) (by kernel_rfl) (by kernel_rfl) hQ (Or.inl ⟨by rfl, ?y3_69⟩) ?r3_69
        case y3_69 =>
          intro w' hSw
          have j0 := (ext6.trans hSw).cellv e0'
          have j1 := (ext6.trans hSw).cellv e1'
          have j2 := (ext6.trans hSw).cellv e2'
          have j3 := (ext6.trans hSw).cellv e3'
          have k00 := (b3.ext hSw).c8
          go_simp
          try with_reducible rfl
        try simp only [Act.put]
        try simp only [List.setIfInBounds_toArray]
        try simp only [List.set_cons_succ]
        try simp only [List.set_cons_zero]
        refine Late.call (i := 6) rfl (by kernel_rfl) hAl (by kernel_rfl) (by kernel_rfl) (by kernel_rfl) hQ (fun w6 e6 E6 K hK => ?_)
        go_simp
        (go_at_call 53; refine (q_CmpR (hx.ext (ext6.trans E6)) (hhi.ext E6) (by omega) (by omega)).mono ?_; rintro e wk6 ⟨rfl, hx6⟩)
        refine hK.out _ _ hx6 ?_
        clear hK K
        try simp only [Act.put]
        try simp only [List.setIfInBounds_toArray]
        try simp only [List.set_cons_succ]
        try simp only [List.set_cons_zero]
        refine Late.take (i := 7) (d := some 35) (v := ?v7_70) rfl rfl (by kernel_rfl) (by kernel_rfl) (by kernel_rfl) (by kernel_rfl) hQ (Or.inl ⟨by rfl, ?y7_70⟩) ?r7_70
        case y7_70 =>
          intro w' hSw
          have j0 := (ext6.trans hSw).cellv e0'
          have j1 := (ext6.trans hSw).cellv e1'
          have j2 := (ext6.trans hSw).cellv e2'
          have j3 := (ext6.trans hSw).cellv e3'
          have k00 := (b3.ext hSw).c8
          go_simp
          try with_reducible rfl
        try simp only [Act.put]
        try simp only [List.setIfInBounds_toArray]
        try simp only [List.set_cons_succ]
        try simp only [List.set_cons_zero]
        refine Late.done0 (by kernel_rfl) (fun wz ez Ez => ?_)
        clear hAl hQ ES
        replace bz := bz.ext Ez
        replace b3 := b3.ext Ez
        replace hlo := hlo.ext Ez
        replace hhi := hhi.ext Ez
        replace ext6 := ext6.trans Ez
        clear Ez ez
        by_cases h4 : hi < x
        · have d4 : decide (0 < ratCmp x hi) = true := decide_eq_true (ratCmp_gt.2 h4)
          have H4 := Lib.hid h4
          clear h4
          rw [d4]
          have j0 := ext6.cellv e0'
          have j1 := ext6.cellv e1'
          have j2 := ext6.cellv e2'
          have j3 := ext6.cellv e3'
          have y0 := b3.cell 4 _ rfl
          have y1 := b3.cell 5 _ rfl
          have y2 := b3.cell 6 _ rfl
          have y3 := b3.cell 7 _ rfl
          have f0 := b3.frozen 4
          have f1 := b3.frozen 5
          have f2 := b3.frozen 6
          have f3 := b3.frozen 7
          go_upto_region 4 with (fail)
          have F := (((((FinOK.refl (T := 28) b3 NoWord.oct).step 4 (v := .bool sx) (by intro k h; cases h)).step 5 (v := .slice Ax nx cx) (by intro k h; cases h)).step 6 (v := .bool tx) (by intro k h; cases h)).step 7 (v := .slice Bx mx dx) (by intro k h; cases h))
          simp only [List.setIfInBounds_toArray, List.set_cons_succ, List.set_cons_zero] at F
          refine at_world (fun Y4n => Ext w Y4n ∧ Box Y4n w.heap.size 28 #[Value.bool false, Value.slice none 0 0, Value.bool false, Value.slice none 0 0, Value.bool false, Value.slice none 0 0, Value.bool false, Value.slice none 0 0] ∧ Box Y4n g3 28 #[.bool s3, .slice A3 n3 c3, .bool t3, .slice B3 m3 d3, .bool sx, .slice Ax nx cx, .bool tx, .slice Bx mx dx] ∧ NR Y4n lo L s3 A3 n3 c3 t3 B3 m3 d3) ⟨F.ext _ ext6 (by omega), F.far _ _ _ (by omega) bz, F.box, ⟨F.ni _ _ _ _ _ _ hlo.num, F.ni _ _ _ _ _ _ hlo.den⟩⟩ ?_
          clear F j0 j1 j2 j3 y0 y1 y2 y3 f0 f1 f2 f3 bz b3 hlo hhi ext6
          rintro Y4n ⟨ext6, bz, b3, hlo⟩
          have hhi := hx.ext ext6
          clear d4
          go_wp2_with fail
          go_roundw
          case rel => exact ⟨a1 + 1, lo, x, s3, A3, n3, c3, t3, B3, m3, d3, sx, Ax, nx, cx, tx, Bx, mx, dx, by omega, by omega, by go_num, ext6, bz, b3, by rw [HT.out]; exact hull_ny HU.out H3.out H4.out, hlo, hhi⟩
          case measure => simp [intOf]; omega
        · have d4 : decide (0 < ratCmp x hi) = false := decide_eq_false (fun h => h4 (ratCmp_gt.1 h))
          have H4 := Lib.hid h4
          clear h4
          rw [d4]
          go_upto_region 4 with (fail)
          clear d4
          go_wp2_with fail
          go_roundw
          case rel => exact ⟨a1 + 1, lo, hi, s3, A3, n3, c3, t3, B3, m3, d3, s4, A4, n4, c4, t4, B4, m4, d4, by omega, by omega, by go_num, ext6, bz, b3, by rw [HT.out]; exact hull_nn HU.out H3.out H4.out, hlo, hhi⟩
          case measure => simp [intOf]; omega
    · have hkn : a1 = n := by omega
      have hu := HU.out
      clear HU
      rw [hkn, List.take_of_length_le (Nat.le_of_eq Hn.out)] at hu
      have HU := Lib.hid hu
      clear hu
      have hx1 := Ext.refl wr
      have k0 := b3.cell 0 (.bool s3) rfl
      have k1 := b3.cell 1 (.slice A3 n3 c3) rfl
      have k2 := b3.cell 2 (.bool t3) rfl
      have k3 := b3.cell 3 (.slice B3 m3 d3) rfl
      have k4 := b3.cell 4 (.bool s4) rfl
      have k5 := b3.cell 5 (.slice A4 n4 c4) rfl
      have k6 := b3.cell 6 (.bool t4) rfl
      have k7 := b3.cell 7 (.slice B4 m4 d4) rfl
      have z0 := (bz.ext hx1).cell 0 _ rfl
      have f0 := (bz.ext hx1).frozen 0
      have z1 := (bz.ext hx1).cell 1 _ rfl
      have f1 := (bz.ext hx1).frozen 1
      have z2 := (bz.ext hx1).cell 2 _ rfl
      have f2 := (bz.ext hx1).frozen 2
      have z3 := (bz.ext hx1).cell 3 _ rfl
      have f3 := (bz.ext hx1).frozen 3
      have z4 := (bz.ext hx1).cell 4 _ rfl
      have f4 := (bz.ext hx1).frozen 4
      have z5 := (bz.ext hx1).cell 5 _ rfl
      have f5 := (bz.ext hx1).frozen 5
      have z6 := (bz.ext hx1).cell 6 _ rfl
      have f6 := (bz.ext hx1).frozen 6
      have z7 := (bz.ext hx1).cell 7 _ rfl
      have f7 := (bz.ext hx1).frozen 7
      go_wp2_with fail
      obtain ⟨b1, b2, b3, b4⟩ := fin_oct (v0 := (.bool s3)) (v1 := (.slice A3 n3 c3)) (v2 := (.bool t3)) (v3 := (.slice B3 m3 d3)) (v4 := (.bool s4)) (v5 := (.slice A4 n4 c4)) (v6 := (.bool t4)) (v7 := (.slice B4 m4 d4)) (bz.ext hx1)
      have r0 := b1.cell 0 (.bool s3) rfl
      have r1 := b1.cell 1 (.slice A3 n3 c3) rfl
      have r2 := b1.cell 2 (.bool t3) rfl
      have r3 := b1.cell 3 (.slice B3 m3 d3) rfl
      have r4 := b1.cell 4 (.bool s4) rfl
      have r5 := b1.cell 5 (.slice A4 n4 c4) rfl
      have r6 := b1.cell 6 (.bool t4) rfl
      have r7 := b1.cell 7 (.slice B4 m4 d4) rfl
      unfold set8 at r0 r1 r2 r3 r4 r5 r6 r7
      refine bodyPost_ret (v := .agg #[.bool s3, .slice A3 n3 c3, .bool t3, .slice B3 m3 d3, .bool s4, .slice A4 n4 c4, .bool t4, .slice B4 m4 d4]) (by simp [results, Tryz.results57, go_sem, r0, r1, r2, r3, r4, r5, r6, r7]) rfl ⟨lo, hi, HU.out, s3, A3, n3, c3, t3, B3, m3, d3, s4, A4, n4, c4, t4, B4, m4, d4, rfl, ⟨⟨?_, ?_⟩, ⟨?_, ?_⟩⟩, b3 _ (ext6.trans hx1) (by omega)⟩
      · exact b2 _ _ _ _ _ _ hlo.num
      · exact b2 _ _ _ _ _ _ hlo.den
      · exact b2 _ _ _ _ _ _ hhi.num
      · exact b2 _ _ _ _ _ _ hhi.den
end
end Go.Proofs.YtoabhnofppledaaGreatDoor
namespace Go.Proofs.YtoabhnofppledaaGreatDoor
open Go.RowKit
attribute [local go_sem ↓] Go.wp_at_zero Go.wp_at_succ
theorem IsHull.same {lo hi : Rat} {qs qs' : List Rat} (h : IsHull lo hi qs) (hm : ∀ x, x ∈ qs ↔ x ∈ qs') : IsHull lo hi qs' := ⟨(hm _).1 h.1, (hm _).1 h.2.1, fun q hq => h.2.2 q ((hm _).2 hq)⟩
theorem prods_ends (F : Rat → Rat → Rat) (lo hi lo' hi' z : Rat) : z ∈ prods F [lo, hi] [lo', hi'] ↔ z ∈ prods F (endsOf lo hi) (endsOf lo' hi') := by
  rw [prods_four]
  simp [prods]
theorem RetHull.same {qs qs' : List Rat} {L M : Nat} {w w' : World} {e : Ending} (h : RetHull qs L w e w') (hm : ∀ x, x ∈ qs ↔ x ∈ qs') (hl : L ≤ M) : RetHull qs' M w e w' := by
  obtain ⟨lo, hi, hu, s, A, n, c, t, B, m, d, s', A', n', c', t', B', m', d', he, hv, hx⟩ := h
  exact ⟨lo, hi, hu.same hm, s, A, n, c, t, B, m, d, s', A', n', c', t', B', m', d', he, ⟨hv.low.le hl, hv.high.le hl⟩, hx⟩
section
variable {w w' : World} {q p lo hi lo' hi' x : Rat} {L M : Nat} {s t s' t' sx tx u v u' v' : Bool} {A B A' B' Ax Bx C D C' D' : Option Addr} {n c m d n' c' m' d' nx cx mx dx i j k l i' j' k' l' : Nat} {qs : List Rat}
set_option maxHeartbeats 4000000 in
theorem q_AddV (h : IV w lo hi L s A n c t B m d s' A' n' c' t' B' m' d') (h' : IV w lo' hi' M u C i j v D k l u' C' i' j' v' D' k' l') (hL : L ≤ 20) (hM : M ≤ 20) : Calls Tryz.prog 18 #[.agg #[.bool s, .slice A n c, .bool t, .slice B m d, .bool s', .slice A' n' c', .bool t', .slice B' m' d'], .agg #[.bool u, .slice C i j, .bool v, .slice D k l, .bool u', .slice C' i' j', .bool v', .slice D' k' l']] w (RetHull (prods (fun x y => x + y) (endsOf lo hi) (endsOf lo' hi')) (L + M + 1) w) := by
  go_enter Tryz.func18, Tryz.ntmps18
  go_upto_region 1 with (fail)
  obtain ⟨W, hW, ext, bx, by_, bz, hz⟩ := box3 w 28 28 28 #[.bool s, .slice A n c, .bool t, .slice B m d, .bool s', .slice A' n' c', .bool t', .slice B' m' d'] #[.bool u, .slice C i j, .bool v, .slice D k l, .bool u', .slice C' i' j', .bool v', .slice D' k' l'] #[Value.bool false, Value.slice none 0 0, Value.bool false, Value.slice none 0 0, Value.bool false, Value.slice none 0 0, Value.bool false, Value.slice none 0 0]
  rw [← hW]
  clear hW hz
  have k0 := bx.cell 0 (.bool s) rfl
  have k1 := bx.cell 1 (.slice A n c) rfl
  have k2 := bx.cell 2 (.bool t) rfl
  have k3 := bx.cell 3 (.slice B m d) rfl
  have k4 := bx.cell 4 (.bool s') rfl
  have k5 := bx.cell 5 (.slice A' n' c') rfl
  have k6 := bx.cell 6 (.bool t') rfl
  have k7 := bx.cell 7 (.slice B' m' d') rfl
  have x0 := by_.cell 0 (.bool u) rfl
  have x1 := by_.cell 1 (.slice C i j) rfl
  have x2 := by_.cell 2 (.bool v) rfl
  have x3 := by_.cell 3 (.slice D k l) rfl
  have x4 := by_.cell 4 (.bool u') rfl
  have x5 := by_.cell 5 (.slice C' i' j') rfl
  have x6 := by_.cell 6 (.bool v') rfl
  have x7 := by_.cell 7 (.slice D' k' l') rfl
  go_wp2_with fail
  refine (q_ends_Add (h.ext ext) (h'.ext ext) hL hM).mono ?_
  rintro e W1 ⟨g, cap, rfl, hr, hx0⟩
  clear k0 k1 k2 k3 k4 k5 k6 k7 x0 x1 x2 x3 x4 x5 x6 x7
  go_wp2_with fail
  refine (q_Hull hr (n := 4) (by rfl) (by omega) (by omega) (by omega)).mono ?_
  rintro e V ⟨lo3, hi3, hu, s1, A1, n1, c1, t1, B1, m1, d1, s2, A2, n2, c2, t2, B2, m2, d2, rfl, h1, hx⟩
  have HU := Lib.hid (hu.same (prods_ends (fun x y => x + y) lo hi lo' hi'))
  have hx1 := hx0.trans hx
  clear hu hr
  have z0 := (bz.ext hx1).cell 0 _ rfl
  have f0 := (bz.ext hx1).frozen 0
  have z1 := (bz.ext hx1).cell 1 _ rfl
  have f1 := (bz.ext hx1).frozen 1
  have z2 := (bz.ext hx1).cell 2 _ rfl
  have f2 := (bz.ext hx1).frozen 2
  have z3 := (bz.ext hx1).cell 3 _ rfl
  have f3 := (bz.ext hx1).frozen 3
  have z4 := (bz.ext hx1).cell 4 _ rfl
  have f4 := (bz.ext hx1).frozen 4
  have z5 := (bz.ext hx1).cell 5 _ rfl
  have f5 := (bz.ext hx1).frozen 5
  have z6 := (bz.ext hx1).cell 6 _ rfl
  have f6 := (bz.ext hx1).frozen 6
  have z7 := (bz.ext hx1).cell 7 _ rfl
  have f7 := (bz.ext hx1).frozen 7
  go_wp2_with fail
  obtain ⟨b1, b2, b3, b4⟩ := fin_oct (v0 := (.bool s1)) (v1 := (.slice A1 n1 c1)) (v2 := (.bool t1)) (v3 := (.slice B1 m1 d1)) (v4 := (.bool s2)) (v5 := (.slice A2 n2 c2)) (v6 := (.bool t2)) (v7 := (.slice B2 m2 d2)) (bz.ext hx1)
  have r0 := b1.cell 0 (.bool s1) rfl
  have r1 := b1.cell 1 (.slice A1 n1 c1) rfl
  have r2 := b1.cell 2 (.bool t1) rfl
  have r3 := b1.cell 3 (.slice B1 m1 d1) rfl
  have r4 := b1.cell 4 (.bool s2) rfl
  have r5 := b1.cell 5 (.slice A2 n2 c2) rfl
  have r6 := b1.cell 6 (.bool t2) rfl
  have r7 := b1.cell 7 (.slice B2 m2 d2) rfl
  unfold set8 at r0 r1 r2 r3 r4 r5 r6 r7
  refine bodyPost_ret (v := .agg #[.bool s1, .slice A1 n1 c1, .bool t1, .slice B1 m1 d1, .bool s2, .slice A2 n2 c2, .bool t2, .slice B2 m2 d2]) (by simp [results, Tryz.results18, go_sem, r0, r1, r2, r3, r4, r5, r6, r7]) rfl ⟨lo3, hi3, HU.out, s1, A1, n1, c1, t1, B1, m1, d1, s2, A2, n2, c2, t2, B2, m2, d2, rfl, ⟨⟨?_, ?_⟩, ⟨?_, ?_⟩⟩, b3 _ (ext.trans hx1) (by omega)⟩
  · exact b2 _ _ _ _ _ _ h1.low.num
  · exact b2 _ _ _ _ _ _ h1.low.den
  · exact b2 _ _ _ _ _ _ h1.high.num
  · exact b2 _ _ _ _ _ _ h1.high.den
set_option maxHeartbeats 4000000 in
theorem q_SubV (h : IV w lo hi L s A n c t B m d s' A' n' c' t' B' m' d') (h' : IV w lo' hi' M u C i j v D k l u' C' i' j' v' D' k' l') (hL : L ≤ 20) (hM : M ≤ 20) : Calls Tryz.prog 20 #[.agg #[.bool s, .slice A n c, .bool t, .slice B m d, .bool s', .slice A' n' c', .bool t', .slice B' m' d'], .agg #[.bool u, .slice C i j, .bool v, .slice D k l, .bool u', .slice C' i' j', .bool v', .slice D' k' l']] w (RetHull (prods (fun x y => x - y) (endsOf lo hi) (endsOf lo' hi')) (L + M + 1) w) := by
  go_enter Tryz.func20, Tryz.ntmps20
  go_upto_region 1 with (fail)
  obtain ⟨W, hW, ext, bx, by_, bz, hz⟩ := box3 w 28 28 28 #[.bool s, .slice A n c, .bool t, .slice B m d, .bool s', .slice A' n' c', .bool t', .slice B' m' d'] #[.bool u, .slice C i j, .bool v, .slice D k l, .bool u', .slice C' i' j', .bool v', .slice D' k' l'] #[Value.bool false, Value.slice none 0 0, Value.bool false, Value.slice none 0 0, Value.bool false, Value.slice none 0 0, Value.bool false, Value.slice none 0 0]
  rw [← hW]
  clear hW hz
  have k0 := bx.cell 0 (.bool s) rfl
  have k1 := bx.cell 1 (.slice A n c) rfl
  have k2 := bx.cell 2 (.bool t) rfl
  have k3 := bx.cell 3 (.slice B m d) rfl
  have k4 := bx.cell 4 (.bool s') rfl
  have k5 := bx.cell 5 (.slice A' n' c') rfl
  have k6 := bx.cell 6 (.bool t') rfl
  have k7 := bx.cell 7 (.slice B' m' d') rfl
  have x0 := by_.cell 0 (.bool u) rfl
  have x1 := by_.cell 1 (.slice C i j) rfl
  have x2 := by_.cell 2 (.bool v) rfl
  have x3 := by_.cell 3 (.slice D k l) rfl
  have x4 := by_.cell 4 (.bool u') rfl
  have x5 := by_.cell 5 (.slice C' i' j') rfl
  have x6 := by_.cell 6 (.bool v') rfl
  have x7 := by_.cell 7 (.slice D' k' l') rfl
  go_wp2_with fail
  refine (q_ends_Sub (h.ext ext) (h'.ext ext) hL hM).mono ?_
  rintro e W1 ⟨g, cap, rfl, hr, hx0⟩
  clear k0 k1 k2 k3 k4 k5 k6 k7 x0 x1 x2 x3 x4 x5 x6 x7
  go_wp2_with fail
  refine (q_Hull hr (n := 4) (by rfl) (by omega) (by omega) (by omega)).mono ?_
  rintro e V ⟨lo3, hi3, hu, s1, A1, n1, c1, t1, B1, m1, d1, s2, A2, n2, c2, t2, B2, m2, d2, rfl, h1, hx⟩
  have HU := Lib.hid (hu.same (prods_ends (fun x y => x - y) lo hi lo' hi'))
  have hx1 := hx0.trans hx
  clear hu hr
  have z0 := (bz.ext hx1).cell 0 _ rfl
  have f0 := (bz.ext hx1).frozen 0
  have z1 := (bz.ext hx1).cell 1 _ rfl
  have f1 := (bz.ext hx1).frozen 1
  have z2 := (bz.ext hx1).cell 2 _ rfl
  have f2 := (bz.ext hx1).frozen 2
  have z3 := (bz.ext hx1).cell 3 _ rfl
  have f3 := (bz.ext hx1).frozen 3
  have z4 := (bz.ext hx1).cell 4 _ rfl
  have f4 := (bz.ext hx1).frozen 4
  have z5 := (bz.ext hx1).cell 5 _ rfl
  have f5 := (bz.ext hx1).frozen 5
  have z6 := (bz.ext hx1).cell 6 _ rfl
  have f6 := (bz.ext hx1).frozen 6
  have z7 := (bz.ext hx1).cell 7 _ rfl
  have f7 := (bz.ext hx1).frozen 7
  go_wp2_with fail
  obtain ⟨b1, b2, b3, b4⟩ := fin_oct (v0 := (.bool s1)) (v1 := (.slice A1 n1 c1)) (v2 := (.bool t1)) (v3 := (.slice B1 m1 d1)) (v4 := (.bool s2)) (v5 := (.slice A2 n2 c2)) (v6 := (.bool t2)) (v7 := (.slice B2 m2 d2)) (bz.ext hx1)
  have r0 := b1.cell 0 (.bool s1) rfl
  have r1 := b1.cell 1 (.slice A1 n1 c1) rfl
  have r2 := b1.cell 2 (.bool t1) rfl
  have r3 := b1.cell 3 (.slice B1 m1 d1) rfl
  have r4 := b1.cell 4 (.bool s2) rfl
  have r5 := b1.cell 5 (.slice A2 n2 c2) rfl
  have r6 := b1.cell 6 (.bool t2) rfl
  have r7 := b1.cell 7 (.slice B2 m2 d2) rfl
  unfold set8 at r0 r1 r2 r3 r4 r5 r6 r7
  refine bodyPost_ret (v := .agg #[.bool s1, .slice A1 n1 c1, .bool t1, .slice B1 m1 d1, .bool s2, .slice A2 n2 c2, .bool t2, .slice B2 m2 d2]) (by simp [results, Tryz.results20, go_sem, r0, r1, r2, r3, r4, r5, r6, r7]) rfl ⟨lo3, hi3, HU.out, s1, A1, n1, c1, t1, B1, m1, d1, s2, A2, n2, c2, t2, B2, m2, d2, rfl, ⟨⟨?_, ?_⟩, ⟨?_, ?_⟩⟩, b3 _ (ext.trans hx1) (by omega)⟩
  · exact b2 _ _ _ _ _ _ h1.low.num
  · exact b2 _ _ _ _ _ _ h1.low.den
  · exact b2 _ _ _ _ _ _ h1.high.num
  · exact b2 _ _ _ _ _ _ h1.high.den
end
end Go.Proofs.YtoabhnofppledaaGreatDoor
namespace Go.Proofs.YtoabhnofppledaaGreatDoor
open Go.RowKit
attribute [local go_sem ↓] Go.wp_at_zero Go.wp_at_succ
set_option maxHeartbeats 16000000 in
set_option maxRecDepth 100000 in
theorem sums3_yes' {w : World} {sa1 ta1 sa2 ta2 : Bool} {Aa1 Ba1 Aa2 Ba2 : Option Addr} {na1 ca1 ma1 da1 na2 ca2 ma2 da2 : Nat} {xa1 ya1 xa2 ya2 : List Nat} {sb1 tb1 sb2 tb2 : Bool} {Ab1 Bb1 Ab2 Bb2 : Option Addr} {nb1 cb1 mb1 db1 nb2 cb2 mb2 db2 : Nat} {xb1 yb1 xb2 yb2 : List Nat} {lo0 hi0 lo1 hi1 : Rat} (hA : Awake3) (hT : Tab w) (hr0 : RawV w Aa1 na1 ca1 xa1 Ba1 ma1 da1 ya1 Aa2 na2 ca2 xa2 Ba2 ma2 da2 ya2) (hr1 : RawV w Ab1 nb1 cb1 xb1 Bb1 mb1 db1 yb1 Ab2 nb2 cb2 xb2 Bb2 mb2 db2 yb2) (h0 : IV w lo0 hi0 10 sa1 Aa1 na1 ca1 ta1 Ba1 ma1 da1 sa2 Aa2 na2 ca2 ta2 Ba2 ma2 da2) (h1 : IV w lo1 hi1 10 sb1 Ab1 nb1 cb1 tb1 Bb1 mb1 db1 sb2 Ab2 nb2 cb2 tb2 Bb2 mb2 db2) (hf0 : (fewV na1 ma1 na2 ma2 sa1 xa1 ta1 ya1 sa2 xa2 ta2 ya2 && (fewV nb1 mb1 nb2 mb2 sb1 xb1 tb1 yb1 sb2 xb2 tb2 yb2)) = true) :
    Calls Tryz.prog 4 #[.agg #[.bool sa1, .slice Aa1 na1 ca1, .bool ta1, .slice Ba1 ma1 da1, .bool sa2, .slice Aa2 na2 ca2, .bool ta2, .slice Ba2 ma2 da2], .agg #[.bool sb1, .slice Ab1 nb1 cb1, .bool tb1, .slice Bb1 mb1 db1, .bool sb2, .slice Ab2 nb2 cb2, .bool tb2, .slice Bb2 mb2 db2]] w fun e w' => e = .returned (.bool true) ∧ Ext w w' := by
  have HF0 := Lib.hid hf0
  clear hf0
  have HA := Lib.hid hA
  clear hA
  go_enter Tryz.func4, Tryz.ntmps4
  go_upto_region 1 with (fail)
  obtain ⟨W0, hW, extW, bx, by_, hzz⟩ := box2 w 28 28 #[.bool sa1, .slice Aa1 na1 ca1, .bool ta1, .slice Ba1 ma1 da1, .bool sa2, .slice Aa2 na2 ca2, .bool ta2, .slice Ba2 ma2 da2] #[.bool sb1, .slice Ab1 nb1 cb1, .bool tb1, .slice Bb1 mb1 db1, .bool sb2, .slice Ab2 nb2 cb2, .bool tb2, .slice Bb2 mb2 db2]
  rw [← hW]
  clear hW hzz
  go_wp2_with fail
  refine (HA.out _ (hT.ext extW)).mono ?_
  rintro e W ⟨rfl, hxt⟩
  replace bx := bx.ext hxt
  replace by_ := by_.ext hxt
  replace extW := extW.trans hxt
  clear hxt
  have k0 := bx.cell 0 (.bool sa1) rfl
  have k1 := bx.cell 1 (.slice Aa1 na1 ca1) rfl
  have k2 := bx.cell 2 (.bool ta1) rfl
  have k3 := bx.cell 3 (.slice Ba1 ma1 da1) rfl
  have k4 := bx.cell 4 (.bool sa2) rfl
  have k5 := bx.cell 5 (.slice Aa2 na2 ca2) rfl
  have k6 := bx.cell 6 (.bool ta2) rfl
  have k7 := bx.cell 7 (.slice Ba2 ma2 da2) rfl
  have x0 := by_.cell 0 (.bool sb1) rfl
  have x1 := by_.cell 1 (.slice Ab1 nb1 cb1) rfl
  have x2 := by_.cell 2 (.bool tb1) rfl
  have x3 := by_.cell 3 (.slice Bb1 mb1 db1) rfl
  have x4 := by_.cell 4 (.bool sb2) rfl
  have x5 := by_.cell 5 (.slice Ab2 nb2 cb2) rfl
  have x6 := by_.cell 6 (.bool tb2) rfl
  have x7 := by_.cell 7 (.slice Bb2 mb2 db2) rfl
  have hnb := Box.new W 28 #[.bool sa1, .slice Aa1 na1 ca1, .bool ta1, .slice Ba1 ma1 da1, .bool sa2, .slice Aa2 na2 ca2, .bool ta2, .slice Ba2 ma2 da2, .bool sb1, .slice Ab1 nb1 cb1, .bool tb1, .slice Bb1 mb1 db1, .bool sb2, .slice Ab2 nb2 cb2, .bool tb2, .slice Bb2 mb2 db2]
  have e1 := (Ext.refl W).alloc (.cells #[.bool sa1, .slice Aa1 na1 ca1, .bool ta1, .slice Ba1 ma1 da1, .bool sa2, .slice Aa2 na2 ca2, .bool ta2, .slice Ba2 ma2 da2, .bool sb1, .slice Ab1 nb1 cb1, .bool tb1, .slice Bb1 mb1 db1, .bool sb2, .slice Ab2 nb2 cb2, .bool tb2, .slice Bb2 mb2 db2] 28)
  go_wp2_with fail
  refine (fewI2 hnb (hr0.ext (extW.trans e1)) (hr1.ext (extW.trans e1))).mono ?_
  rintro e W1 ⟨rfl, hxt⟩
  rw [HF0.out]
  have ES := e1.trans hxt
  clear hnb e1 hxt
  clear k0 k1 k2 k3 k4 k5 k6 k7 x0 x1 x2 x3 x4 x5 x6 x7
  replace bx := bx.ext ES
  replace by_ := by_.ext ES
  replace extW := extW.trans ES
  clear ES
  go_upto_region 3 with (fail)
  have ES0 := Ext.refl W1
  refine wp_region_held_drew (S := Ext W1) (by kernel_rfl) ES0.drew (fun ES => ?_)
  clear ES0
  refine Late.start0 (fun _ _ _ _ _ => ⟨fun h => h, fun h => h⟩) ES (fun hAl hQ => ?_)
  refine Late.take (i := 0) (d := some 15) (v := ?v0_106) rfl rfl (by kernel_rfl) (by kernel_rfl) (by kernel_rfl) (by kernel_rfl) hQ (Or.inl ⟨by rfl, ?y0_106⟩) ?r0_106
  case y0_106 =>
    intro w' hSw
    have k00 := (bx.ext hSw).c8
    have k10 := (by_.ext hSw).c8
    go_simp
    try with_reducible rfl
  try simp only [Act.put]
  try simp only [List.setIfInBounds_toArray]
  try simp only [List.set_cons_succ]
  try simp only [List.set_cons_zero]
  refine Late.take (i := 1) (d := some 16) (v := ?v1_107) rfl rfl (by kernel_rfl) (by kernel_rfl) (by kernel_rfl) (by kernel_rfl) hQ (Or.inl ⟨by rfl, ?y1_107⟩) ?r1_107
  case y1_107 =>
    intro w' hSw
    have k00 := (bx.ext hSw).c8
    have k10 := (by_.ext hSw).c8
    go_simp
    try with_reducible rfl
  try simp only [Act.put]
  try simp only [List.setIfInBounds_toArray]
  try simp only [List.set_cons_succ]
  try simp only [List.set_cons_zero]
  refine Late.take (i := 3) (d := some 18) (v := ?v3_108) rfl rfl (by kernel_rfl) (by kernel_rfl) (by kernel_rfl) (by kernel_rfl) hQ (Or.inl ⟨by rfl, ?y3_108⟩) ?r3_108
  case y3_108 =>
    intro w' hSw
    have k00 := (bx.ext hSw).c8
    have k10 := (by_.ext hSw).c8
    go_simp
    try with_reducible rfl
  try simp only [Act.put]
  try simp only [List.setIfInBounds_toArray]
  try simp only [List.set_cons_succ]
  try simp only [List.set_cons_zero]
  refine Late.take (i := 4) (d := some 19) (v := ?v4_109) rfl rfl (by kernel_rfl) (by kernel_rfl) (by kernel_rfl) (by kernel_rfl) hQ (Or.inl ⟨by rfl, ?y4_109⟩) ?r4_109
  case y4_109 =>
    intro w' hSw
    have k00 := (bx.ext hSw).c8
    have k10 := (by_.ext hSw).c8
    go_simp
    try with_reducible rfl
  try simp only [Act.put]
  try simp only [List.setIfInBounds_toArray]
  try simp only [List.set_cons_succ]
  try simp only [List.set_cons_zero]
  refine Late.call (i := 2) rfl (by kernel_rfl) hAl (by kernel_rfl) (by kernel_rfl) (by kernel_rfl) hQ (fun w2 e2 E2 K hK => ?_)
  go_simp
  (go_at_call 17; refine (p_AddV (h0.ext (extW.trans E2)) (h1.ext (extW.trans E2)) (by omega) (by omega) (hT.ext (extW.trans E2))).mono ?_; rintro e wk2 ⟨la1, ha1, hu1, s1_, A1_, n1_, c1_, t1_, B1_, m1_, d1_, s1', A1', n1', c1', t1', B1', m1', d1', rfl, y1, hx2⟩; have HU1 := Lib.hid hu1; clear hu1)
  refine hK.out _ _ hx2 ?_
  clear hK K
  try simp only [Act.put]
  try simp only [List.setIfInBounds_toArray]
  try simp only [List.set_cons_succ]
  try simp only [List.set_cons_zero]
  refine Late.call (i := 5) rfl (by kernel_rfl) hAl (by kernel_rfl) (by kernel_rfl) (by kernel_rfl) hQ (fun w5 e5 E5 K hK => ?_)
  go_simp
  (replace y1 := y1.ext e5; go_at_call 18; refine (q_AddV (h0.ext (extW.trans E5)) (h1.ext (extW.trans E5)) (by omega) (by omega)).mono ?_; rintro e wk5 ⟨la2, ha2, hu2, s2_, A2_, n2_, c2_, t2_, B2_, m2_, d2_, s2', A2', n2', c2', t2', B2', m2', d2', rfl, y2, hx5⟩; replace y1 := y1.ext hx5; obtain ⟨rfl, rfl⟩ := HU1.out.unique hu2 (fun _ => Iff.rfl); clear hu2)
  refine hK.out _ _ hx5 ?_
  clear hK K
  try simp only [Act.put]
  try simp only [List.setIfInBounds_toArray]
  try simp only [List.set_cons_succ]
  try simp only [List.set_cons_zero]
  refine Late.call (i := 6) rfl (by kernel_rfl) hAl (by kernel_rfl) (by kernel_rfl) (by kernel_rfl) hQ (fun w6 e6 E6 K hK => ?_)
  go_simp
  (replace y1 := y1.ext e6; replace y2 := y2.ext e6; go_at_call 16; refine (q_SameV y1 y2).mono ?_; rintro e wk6 ⟨rfl, hx6⟩; replace y1 := y1.ext hx6; replace y2 := y2.ext hx6)
  refine hK.out _ _ hx6 ?_
  clear hK K
  try simp only [Act.put]
  try simp only [List.setIfInBounds_toArray]
  try simp only [List.set_cons_succ]
  try simp only [List.set_cons_zero]
  refine Late.take (i := 7) (d := some 22) (v := ?v7_110) rfl rfl (by kernel_rfl) (by kernel_rfl) (by kernel_rfl) (by kernel_rfl) hQ (Or.inl ⟨by rfl, ?y7_110⟩) ?r7_110
  case y7_110 =>
    intro w' hSw
    have k00 := (bx.ext hSw).c8
    have k10 := (by_.ext hSw).c8
    go_simp
    try with_reducible rfl
  try simp only [Act.put]
  try simp only [List.setIfInBounds_toArray]
  try simp only [List.set_cons_succ]
  try simp only [List.set_cons_zero]
  refine Late.take (i := 8) (d := some 23) (v := ?v8_111) rfl rfl (by kernel_rfl) (by kernel_rfl) (by kernel_rfl) (by kernel_rfl) hQ (Or.inl ⟨by rfl, ?y8_111⟩) ?r8_111
  case y8_111 =>
    intro w' hSw
    have k00 := (bx.ext hSw).c8
    have k10 := (by_.ext hSw).c8
    go_simp
    try with_reducible rfl
  try simp only [Act.put]
  try simp only [List.setIfInBounds_toArray]
  try simp only [List.set_cons_succ]
  try simp only [List.set_cons_zero]
  refine Late.take (i := 9) (d := some 24) (v := ?v9_112) rfl rfl (by kernel_rfl) (by kernel_rfl) (by kernel_rfl) (by kernel_rfl) hQ (Or.inl ⟨by rfl, ?y9_112⟩) ?r9_112
  case y9_112 =>
    intro w' hSw
    have k00 := (bx.ext hSw).c8
    have k10 := (by_.ext hSw).c8
    go_simp
    try with_reducible rfl
  try simp only [Act.put]
  try simp only [List.setIfInBounds_toArray]
  try simp only [List.set_cons_succ]
  try simp only [List.set_cons_zero]
  refine Late.take (i := 11) (d := some 26) (v := ?v11_113) rfl rfl (by kernel_rfl) (by kernel_rfl) (by kernel_rfl) (by kernel_rfl) hQ (Or.inl ⟨by rfl, ?y11_113⟩) ?r11_113
  case y11_113 =>
    intro w' hSw
    have k00 := (bx.ext hSw).c8
    have k10 := (by_.ext hSw).c8
    go_simp
    try with_reducible rfl
  try simp only [Act.put]
  try simp only [List.setIfInBounds_toArray]
  try simp only [List.set_cons_succ]
  try simp only [List.set_cons_zero]
  refine Late.take (i := 12) (d := some 27) (v := ?v12_114) rfl rfl (by kernel_rfl) (by kernel_rfl) (by kernel_rfl) (by kernel_rfl) hQ (Or.inl ⟨by rfl, ?y12_114⟩) ?r12_114
  case y12_114 =>
    intro w' hSw
    have k00 := (bx.ext hSw).c8
    have k10 := (by_.ext hSw).c8
    go_simp
    try with_reducible rfl
  try simp only [Act.put]
  try simp only [List.setIfInBounds_toArray]
  try simp only [List.set_cons_succ]
  try simp only [List.set_cons_zero]
  refine Late.call (i := 10) rfl (by kernel_rfl) hAl (by kernel_rfl) (by kernel_rfl) (by kernel_rfl) hQ (fun w10 e10 E10 K hK => ?_)
  go_simp
  (replace y1 := y1.ext e10; replace y2 := y2.ext e10; go_at_call 19; refine (p_SubV (h0.ext (extW.trans E10)) (h1.ext (extW.trans E10)) (by omega) (by omega) (hT.ext (extW.trans E10))).mono ?_; rintro e wk10 ⟨la3, ha3, hu3, s3_, A3_, n3_, c3_, t3_, B3_, m3_, d3_, s3', A3', n3', c3', t3', B3', m3', d3', rfl, y3, hx10⟩; replace y1 := y1.ext hx10; replace y2 := y2.ext hx10; have HU3 := Lib.hid hu3; clear hu3)
  refine hK.out _ _ hx10 ?_
  clear hK K
  try simp only [Act.put]
  try simp only [List.setIfInBounds_toArray]
  try simp only [List.set_cons_succ]
  try simp only [List.set_cons_zero]
  refine Late.call (i := 13) rfl (by kernel_rfl) hAl (by kernel_rfl) (by kernel_rfl) (by kernel_rfl) hQ (fun w13 e13 E13 K hK => ?_)
  go_simp
  (replace y1 := y1.ext e13; replace y2 := y2.ext e13; replace y3 := y3.ext e13; go_at_call 20; refine (q_SubV (h0.ext (extW.trans E13)) (h1.ext (extW.trans E13)) (by omega) (by omega)).mono ?_; rintro e wk13 ⟨la4, ha4, hu4, s4_, A4_, n4_, c4_, t4_, B4_, m4_, d4_, s4', A4', n4', c4', t4', B4', m4', d4', rfl, y4, hx13⟩; replace y1 := y1.ext hx13; replace y2 := y2.ext hx13; replace y3 := y3.ext hx13; obtain ⟨rfl, rfl⟩ := HU3.out.unique hu4 (fun _ => Iff.rfl); clear hu4)
  refine hK.out _ _ hx13 ?_
  clear hK K
  try simp only [Act.put]
  try simp only [List.setIfInBounds_toArray]
  try simp only [List.set_cons_succ]
  try simp only [List.set_cons_zero]
  refine Late.call (i := 14) rfl (by kernel_rfl) hAl (by kernel_rfl) (by kernel_rfl) (by kernel_rfl) hQ (fun w14 e14 E14 K hK => ?_)
  go_simp
  (replace y1 := y1.ext e14; replace y2 := y2.ext e14; replace y3 := y3.ext e14; replace y4 := y4.ext e14; go_at_call 16; refine (q_SameV y3 y4).mono ?_; rintro e wk14 ⟨rfl, hx14⟩; replace y1 := y1.ext hx14; replace y2 := y2.ext hx14; replace y3 := y3.ext hx14; replace y4 := y4.ext hx14)
  refine hK.out _ _ hx14 ?_
  clear hK K
  try simp only [Act.put]
  try simp only [List.setIfInBounds_toArray]
  try simp only [List.set_cons_succ]
  try simp only [List.set_cons_zero]
  refine Late.take (i := 15) (d := some 30) (v := ?v15_115) rfl rfl (by kernel_rfl) (by kernel_rfl) (by kernel_rfl) (by kernel_rfl) hQ (Or.inl ⟨by rfl, ?y15_115⟩) ?r15_115
  case y15_115 =>
    intro w' hSw
    have k00 := (bx.ext hSw).c8
    have k10 := (by_.ext hSw).c8
    go_simp
    try with_reducible rfl
  try simp only [Act.put]
  try simp only [List.setIfInBounds_toArray]
  try simp only [List.set_cons_succ]
  try simp only [List.set_cons_zero]
  refine Late.take (i := 16) (d := some 31) (v := ?v16_116) rfl rfl (by kernel_rfl) (by kernel_rfl) (by kernel_rfl) (by kernel_rfl) hQ (Or.inl ⟨by rfl, ?y16_116⟩) ?r16_116
  case y16_116 =>
    intro w' hSw
    have k00 := (bx.ext hSw).c8
    have k10 := (by_.ext hSw).c8
    go_simp
    try with_reducible rfl
  try simp only [Act.put]
  try simp only [List.setIfInBounds_toArray]
  try simp only [List.set_cons_succ]
  try simp only [List.set_cons_zero]
  refine Late.take (i := 17) (d := some 32) (v := ?v17_117) rfl rfl (by kernel_rfl) (by kernel_rfl) (by kernel_rfl) (by kernel_rfl) hQ (Or.inl ⟨by rfl, ?y17_117⟩) ?r17_117
  case y17_117 =>
    intro w' hSw
    have k00 := (bx.ext hSw).c8
    have k10 := (by_.ext hSw).c8
    go_simp
    try with_reducible rfl
  try simp only [Act.put]
  try simp only [List.setIfInBounds_toArray]
  try simp only [List.set_cons_succ]
  try simp only [List.set_cons_zero]
  refine Late.take (i := 19) (d := some 34) (v := ?v19_118) rfl rfl (by kernel_rfl) (by kernel_rfl) (by kernel_rfl) (by kernel_rfl) hQ (Or.inl ⟨by rfl, ?y19_118⟩) ?r19_118
  case y19_118 =>
    intro w' hSw
    have k00 := (bx.ext hSw).c8
    have k10 := (by_.ext hSw).c8
    go_simp
    try with_reducible rfl
  try simp only [Act.put]
  try simp only [List.setIfInBounds_toArray]
  try simp only [List.set_cons_succ]
  try simp only [List.set_cons_zero]
  refine Late.take (i := 21) (d := some 36) (v := ?v21_119) rfl rfl (by kernel_rfl) (by kernel_rfl) (by kernel_rfl) (by kernel_rfl) hQ (Or.inl ⟨by rfl, ?y21_119⟩) ?r21_119
  case y21_119 =>
    intro w' hSw
    have k00 := (bx.ext hSw).c8
    have k10 := (by_.ext hSw).c8
    go_simp
    try with_reducible rfl
  try simp only [Act.put]
  try simp only [List.setIfInBounds_toArray]
  try simp only [List.set_cons_succ]
  try simp only [List.set_cons_zero]
  refine Late.take (i := 20) (d := some 35) (v := ?v20_120) rfl rfl (by kernel_rfl) (by kernel_rfl) (by kernel_rfl) (by kernel_rfl) hQ (Or.inl ⟨by rfl, ?y20_120⟩) ?r20_120
  case y20_120 =>
    intro w' hSw
    have k00 := (bx.ext hSw).c8
    have k10 := (by_.ext hSw).c8
    go_simp
    try with_reducible rfl
  try simp only [Act.put]
  try simp only [List.setIfInBounds_toArray]
  try simp only [List.set_cons_succ]
  try simp only [List.set_cons_zero]
  refine Late.take (i := 22) (d := some 37) (v := ?v22_121) rfl rfl (by kernel_rfl) (by kernel_rfl) (by kernel_rfl) (by kernel_rfl) hQ (Or.inl ⟨by rfl, ?y22_121⟩) ?r22_121
  case y22_121 =>
    intro w' hSw
    have k00 := (bx.ext hSw).c8
    have k10 := (by_.ext hSw).c8
    go_simp
    try with_reducible rfl
  try simp only [Act.put]
  try simp only [List.setIfInBounds_toArray]
  try simp only [List.set_cons_succ]
  try simp only [List.set_cons_zero]
  refine Late.call (i := 18) rfl (by kernel_rfl) hAl (by kernel_rfl) (by kernel_rfl) (by kernel_rfl) hQ (fun w18 e18 E18 K hK => ?_)
  go_simp
  (replace y1 := y1.ext e18; replace y2 := y2.ext e18; replace y3 := y3.ext e18; replace y4 := y4.ext e18; go_at_call 22; refine (p_Width (h0.ext (extW.trans E18)) (by omega) (hT.ext (extW.trans E18))).mono ?_; rintro e wk18 ⟨s1_, A1_, n1_, c1_, t1_, B1_, m1_, d1_, rfl, r1, hx18⟩; replace y1 := y1.ext hx18; replace y2 := y2.ext hx18; replace y3 := y3.ext hx18; replace y4 := y4.ext hx18)
  refine hK.out _ _ hx18 ?_
  clear hK K
  try simp only [Act.put]
  try simp only [List.setIfInBounds_toArray]
  try simp only [List.set_cons_succ]
  try simp only [List.set_cons_zero]
  refine Late.call (i := 23) rfl (by kernel_rfl) hAl (by kernel_rfl) (by kernel_rfl) (by kernel_rfl) hQ (fun w23 e23 E23 K hK => ?_)
  go_simp
  (replace y1 := y1.ext e23; replace y2 := y2.ext e23; replace y3 := y3.ext e23; replace y4 := y4.ext e23; replace r1 := r1.ext e23; go_at_call 23; refine (q_SubR (h0.high.ext (extW.trans E23)) (h0.low.ext (extW.trans E23)) (by omega) (by omega)).mono ?_; rintro e wk23 ⟨s2_, A2_, n2_, c2_, t2_, B2_, m2_, d2_, rfl, r2, hx23⟩; replace y1 := y1.ext hx23; replace y2 := y2.ext hx23; replace y3 := y3.ext hx23; replace y4 := y4.ext hx23; replace r1 := r1.ext hx23)
  refine hK.out _ _ hx23 ?_
  clear hK K
  try simp only [Act.put]
  try simp only [List.setIfInBounds_toArray]
  try simp only [List.set_cons_succ]
  try simp only [List.set_cons_zero]
  refine Late.call (i := 24) rfl (by kernel_rfl) hAl (by kernel_rfl) (by kernel_rfl) (by kernel_rfl) hQ (fun w24 e24 E24 K hK => ?_)
  go_simp
  (replace y1 := y1.ext e24; replace y2 := y2.ext e24; replace y3 := y3.ext e24; replace y4 := y4.ext e24; replace r1 := r1.ext e24; replace r2 := r2.ext e24; go_at_call 21; refine (q_Same r1 r2).mono ?_; rintro e wk24 ⟨rfl, hx24⟩; replace y1 := y1.ext hx24; replace y2 := y2.ext hx24; replace y3 := y3.ext hx24; replace y4 := y4.ext hx24; replace r1 := r1.ext hx24; replace r2 := r2.ext hx24)
  refine hK.out _ _ hx24 ?_
  clear hK K
  try simp only [Act.put]
  try simp only [List.setIfInBounds_toArray]
  try simp only [List.set_cons_succ]
  try simp only [List.set_cons_zero]
  refine Late.take (i := 25) (d := some 40) (v := ?v25_122) rfl rfl (by kernel_rfl) (by kernel_rfl) (by kernel_rfl) (by kernel_rfl) hQ (Or.inl ⟨by rfl, ?y25_122⟩) ?r25_122
  case y25_122 =>
    intro w' hSw
    have k00 := (bx.ext hSw).c8
    have k10 := (by_.ext hSw).c8
    go_simp
    try with_reducible rfl
  try simp only [Act.put]
  try simp only [List.setIfInBounds_toArray]
  try simp only [List.set_cons_succ]
  try simp only [List.set_cons_zero]
  refine Late.take (i := 26) (d := some 4) (v := ?v26_123) rfl rfl (by kernel_rfl) (by kernel_rfl) (by kernel_rfl) (by kernel_rfl) hQ (Or.inl ⟨by rfl, ?y26_123⟩) ?r26_123
  case y26_123 =>
    intro w' hSw
    have k00 := (bx.ext hSw).c8
    have k10 := (by_.ext hSw).c8
    go_simp
    try with_reducible rfl
  try simp only [Act.put]
  try simp only [List.setIfInBounds_toArray]
  try simp only [List.set_cons_succ]
  try simp only [List.set_cons_zero]
  refine Late.done0 (by kernel_rfl) (fun wz ez Ez => ?_)
  clear hAl hQ ES
  go_wp2_with fail
  go_ret
  exact ⟨rfl, extW.trans Ez⟩
set_option maxHeartbeats 4000000 in
theorem sums3_no0 {w : World} {sa1 ta1 sa2 ta2 : Bool} {Aa1 Ba1 Aa2 Ba2 : Option Addr} {na1 ca1 ma1 da1 na2 ca2 ma2 da2 : Nat} {xa1 ya1 xa2 ya2 : List Nat} {sb1 tb1 sb2 tb2 : Bool} {Ab1 Bb1 Ab2 Bb2 : Option Addr} {nb1 cb1 mb1 db1 nb2 cb2 mb2 db2 : Nat} {xb1 yb1 xb2 yb2 : List Nat} (hA : Awake3) (hT : Tab w) (hr0 : RawV w Aa1 na1 ca1 xa1 Ba1 ma1 da1 ya1 Aa2 na2 ca2 xa2 Ba2 ma2 da2 ya2) (hr1 : RawV w Ab1 nb1 cb1 xb1 Bb1 mb1 db1 yb1 Ab2 nb2 cb2 xb2 Bb2 mb2 db2 yb2) (hf0 : (fewV na1 ma1 na2 ma2 sa1 xa1 ta1 ya1 sa2 xa2 ta2 ya2 && (fewV nb1 mb1 nb2 mb2 sb1 xb1 tb1 yb1 sb2 xb2 tb2 yb2)) = false) :
    Calls Tryz.prog 4 #[.agg #[.bool sa1, .slice Aa1 na1 ca1, .bool ta1, .slice Ba1 ma1 da1, .bool sa2, .slice Aa2 na2 ca2, .bool ta2, .slice Ba2 ma2 da2], .agg #[.bool sb1, .slice Ab1 nb1 cb1, .bool tb1, .slice Bb1 mb1 db1, .bool sb2, .slice Ab2 nb2 cb2, .bool tb2, .slice Bb2 mb2 db2]] w fun e w' => e = .returned (.bool true) ∧ Ext w w' := by
  have HF0 := Lib.hid hf0
  clear hf0
  have HA := Lib.hid hA
  clear hA
  go_enter Tryz.func4, Tryz.ntmps4
  go_upto_region 1 with (fail)
  obtain ⟨W0, hW, extW, bx, by_, hzz⟩ := box2 w 28 28 #[.bool sa1, .slice Aa1 na1 ca1, .bool ta1, .slice Ba1 ma1 da1, .bool sa2, .slice Aa2 na2 ca2, .bool ta2, .slice Ba2 ma2 da2] #[.bool sb1, .slice Ab1 nb1 cb1, .bool tb1, .slice Bb1 mb1 db1, .bool sb2, .slice Ab2 nb2 cb2, .bool tb2, .slice Bb2 mb2 db2]
  rw [← hW]
  clear hW hzz
  go_wp2_with fail
  refine (HA.out _ (hT.ext extW)).mono ?_
  rintro e W ⟨rfl, hxt⟩
  replace bx := bx.ext hxt
  replace by_ := by_.ext hxt
  replace extW := extW.trans hxt
  clear hxt
  have k0 := bx.cell 0 (.bool sa1) rfl
  have k1 := bx.cell 1 (.slice Aa1 na1 ca1) rfl
  have k2 := bx.cell 2 (.bool ta1) rfl
  have k3 := bx.cell 3 (.slice Ba1 ma1 da1) rfl
  have k4 := bx.cell 4 (.bool sa2) rfl
  have k5 := bx.cell 5 (.slice Aa2 na2 ca2) rfl
  have k6 := bx.cell 6 (.bool ta2) rfl
  have k7 := bx.cell 7 (.slice Ba2 ma2 da2) rfl
  have x0 := by_.cell 0 (.bool sb1) rfl
  have x1 := by_.cell 1 (.slice Ab1 nb1 cb1) rfl
  have x2 := by_.cell 2 (.bool tb1) rfl
  have x3 := by_.cell 3 (.slice Bb1 mb1 db1) rfl
  have x4 := by_.cell 4 (.bool sb2) rfl
  have x5 := by_.cell 5 (.slice Ab2 nb2 cb2) rfl
  have x6 := by_.cell 6 (.bool tb2) rfl
  have x7 := by_.cell 7 (.slice Bb2 mb2 db2) rfl
  have hnb := Box.new W 28 #[.bool sa1, .slice Aa1 na1 ca1, .bool ta1, .slice Ba1 ma1 da1, .bool sa2, .slice Aa2 na2 ca2, .bool ta2, .slice Ba2 ma2 da2, .bool sb1, .slice Ab1 nb1 cb1, .bool tb1, .slice Bb1 mb1 db1, .bool sb2, .slice Ab2 nb2 cb2, .bool tb2, .slice Bb2 mb2 db2]
  have e1 := (Ext.refl W).alloc (.cells #[.bool sa1, .slice Aa1 na1 ca1, .bool ta1, .slice Ba1 ma1 da1, .bool sa2, .slice Aa2 na2 ca2, .bool ta2, .slice Ba2 ma2 da2, .bool sb1, .slice Ab1 nb1 cb1, .bool tb1, .slice Bb1 mb1 db1, .bool sb2, .slice Ab2 nb2 cb2, .bool tb2, .slice Bb2 mb2 db2] 28)
  go_wp2_with fail
  refine (fewI2 hnb (hr0.ext (extW.trans e1)) (hr1.ext (extW.trans e1))).mono ?_
  rintro e W1 ⟨rfl, hxt⟩
  rw [HF0.out]
  have ES := e1.trans hxt
  clear hnb e1 hxt
  clear k0 k1 k2 k3 k4 k5 k6 k7 x0 x1 x2 x3 x4 x5 x6 x7
  replace bx := bx.ext ES
  replace by_ := by_.ext ES
  replace extW := extW.trans ES
  clear ES
  go_wp2_with fail
  refine (HA.out _ (hT.ext extW)).mono ?_
  rintro e W9 ⟨rfl, hxt⟩
  go_wp2_with fail
  go_ret
  exact ⟨rfl, extW.trans hxt⟩
theorem sums3_yes {w : World} {sa1 ta1 sa2 ta2 : Bool} {Aa1 Ba1 Aa2 Ba2 : Option Addr} {na1 ca1 ma1 da1 na2 ca2 ma2 da2 : Nat} {xa1 ya1 xa2 ya2 : List Nat} {sb1 tb1 sb2 tb2 : Bool} {Ab1 Bb1 Ab2 Bb2 : Option Addr} {nb1 cb1 mb1 db1 nb2 cb2 mb2 db2 : Nat} {xb1 yb1 xb2 yb2 : List Nat} (hA : Awake3) (hT : Tab w) (hr0 : RawV w Aa1 na1 ca1 xa1 Ba1 ma1 da1 ya1 Aa2 na2 ca2 xa2 Ba2 ma2 da2 ya2) (hr1 : RawV w Ab1 nb1 cb1 xb1 Bb1 mb1 db1 yb1 Ab2 nb2 cb2 xb2 Bb2 mb2 db2 yb2) (hf0 : (fewV na1 ma1 na2 ma2 sa1 xa1 ta1 ya1 sa2 xa2 ta2 ya2 && (fewV nb1 mb1 nb2 mb2 sb1 xb1 tb1 yb1 sb2 xb2 tb2 yb2)) = true) :
    Calls Tryz.prog 4 #[.agg #[.bool sa1, .slice Aa1 na1 ca1, .bool ta1, .slice Ba1 ma1 da1, .bool sa2, .slice Aa2 na2 ca2, .bool ta2, .slice Ba2 ma2 da2], .agg #[.bool sb1, .slice Ab1 nb1 cb1, .bool tb1, .slice Bb1 mb1 db1, .bool sb2, .slice Ab2 nb2 cb2, .bool tb2, .slice Bb2 mb2 db2]] w fun e w' => e = .returned (.bool true) ∧ Ext w w' := by
  have hf' := hf0
  simp only [Bool.and_eq_true] at hf'
  obtain ⟨g0, g1⟩ := hf'
  obtain ⟨h0, _⟩ := few_iv hr0.1 hr0.2.1 hr0.2.2.1 hr0.2.2.2 g0
  generalize rawQ sa1 xa1 ta1 ya1 = lo0 at h0
  generalize rawQ sa2 xa2 ta2 ya2 = hi0 at h0
  obtain ⟨h1, _⟩ := few_iv hr1.1 hr1.2.1 hr1.2.2.1 hr1.2.2.2 g1
  generalize rawQ sb1 xb1 tb1 yb1 = lo1 at h1
  generalize rawQ sb2 xb2 tb2 yb2 = hi1 at h1
  clear g0 g1
  have HF0 := Lib.hid hf0
  clear hf0
  exact sums3_yes' hA hT hr0 hr1 h0 h1 HF0.out
theorem sums3_any {w : World} {sa1 ta1 sa2 ta2 : Bool} {Aa1 Ba1 Aa2 Ba2 : Option Addr} {na1 ca1 ma1 da1 na2 ca2 ma2 da2 : Nat} {xa1 ya1 xa2 ya2 : List Nat} {sb1 tb1 sb2 tb2 : Bool} {Ab1 Bb1 Ab2 Bb2 : Option Addr} {nb1 cb1 mb1 db1 nb2 cb2 mb2 db2 : Nat} {xb1 yb1 xb2 yb2 : List Nat} (hA : Awake3) (hT : Tab w) (hr0 : RawV w Aa1 na1 ca1 xa1 Ba1 ma1 da1 ya1 Aa2 na2 ca2 xa2 Ba2 ma2 da2 ya2) (hr1 : RawV w Ab1 nb1 cb1 xb1 Bb1 mb1 db1 yb1 Ab2 nb2 cb2 xb2 Bb2 mb2 db2 yb2) :
    Calls Tryz.prog 4 #[.agg #[.bool sa1, .slice Aa1 na1 ca1, .bool ta1, .slice Ba1 ma1 da1, .bool sa2, .slice Aa2 na2 ca2, .bool ta2, .slice Ba2 ma2 da2], .agg #[.bool sb1, .slice Ab1 nb1 cb1, .bool tb1, .slice Bb1 mb1 db1, .bool sb2, .slice Ab2 nb2 cb2, .bool tb2, .slice Bb2 mb2 db2]] w fun e w' => e = .returned (.bool true) ∧ Ext w w' := by
  cases hf0 : (fewV na1 ma1 na2 ma2 sa1 xa1 ta1 ya1 sa2 xa2 ta2 ya2 && (fewV nb1 mb1 nb2 mb2 sb1 xb1 tb1 yb1 sb2 xb2 tb2 yb2)) with
  | false => exact sums3_no0 hA hT hr0 hr1 hf0
  | true =>
    exact sums3_yes hA hT hr0 hr1 hf0
end Go.Proofs.YtoabhnofppledaaGreatDoor
namespace Go.Proofs.YtoabhnofppledaaGreatDoor
open Go.ChangeShapes Go.WideShapes Go.ChangeAt Go.RowKit Go.Joins
set_option maxRecDepth 100000
theorem sums3_lifted (os : Os) (started : os.Started) (H : Type) (enc : TypeId × Value → H) :
    ReturnsInHanded {} Tryz.checked os 4 .any (fun w args => (Rows.intervalSumsSpec.pre enc Tryz.prog Tryz.f4 [] false w args ∧ laidMetH Tryz.prog laidI w) ∧ sizedMet enc Tryz.prog Tryz.f4 (OpenSpec.ofChange Rows.intervalSumsSpec) false w args)
      (Rows.intervalSumsSpec.post enc Tryz.prog Tryz.f4 false true false false) := by
  refine returnsInHanded_of_change_and (C := Tryz.checked) (X := fun w _ => laidMetH Tryz.prog laidI w) (fun _ _ _ hh h => h.of_heap hh) Tryz.own started (by kernel_rfl) Tryz.func4
    (ChangeSpec.witness_shaped (enc := enc) (C := Tryz.checked) (os := os) (X := fun w _ => laidMetH Tryz.prog laidI w) false (World.doorLaid Tryz.prog 400 os) #[Value.agg #[.bool false, .slice none 0 0, .bool false, .slice none 0 0, .bool false, .slice none 0 0, .bool false, .slice none 0 0], Value.agg #[.bool false, .slice none 0 0, .bool false, .slice none 0 0, .bool false, .slice none 0 0, .bool false, .slice none 0 0]] 8 rfl (World.shaped_of_RefB (by kernel_rfl) (by kernel_rfl)) (by kernel_rfl) (by kernel_rfl) (by kernel_rfl) (doorI_met os _)) ?_
  intro W base args ds gs before hval0 hW _ _ hL _
  have hval : ∀ (j : Nat) t v, Tryz.f4.params[j]? = some t → args[j]? = some v → Value.okWide Tryz.prog W .any base t v := hval0
  have hW' := hW
  have hlt : ∀ p ∈ before, p.block < W.heap.size := fun p hp => hW.lt p hp
  obtain ⟨p, q, hA0, hV, rfl, _, _⟩ := hW
  have hA : DataW.TrodAll enc Tryz.prog W 0 (fun _ => true) true Tryz.f4.params.toList args.toList ds p := hA0
  rw [Tryz.params4] at hA hval
  obtain ⟨v0, v1, d0, d1, p0, p1, rfl, rfl, rfl, h0, h1⟩ := trodAll_two hA
  obtain ⟨rfl, rfl⟩ := trodVars_none hV
  simp only [List.append_nil] at hW' hlt
  obtain ⟨sa1, Aa1, na1, ca1, ta1, Ba1, ma1, da1, sa2, Aa2, na2, ca2, ta2, Ba2, ma2, da2, xa1, ya1, xa2, ya2, rfl, hr0⟩ := open_iv (hval 0 28 v0 rfl rfl) h0
  obtain ⟨sb1, Ab1, nb1, cb1, tb1, Bb1, mb1, db1, sb2, Ab2, nb2, cb2, tb2, Bb2, mb2, db2, xb1, yb1, xb2, yb2, rfl, hr1⟩ := open_iv (hval 1 28 v1 rfl rfl) h1
  clear hA0 hval0
  have hT := tab_of_laidH hL
  refine (sums3_any awake3 hT hr0 hr1).mono fun e W' ⟨he, hext⟩ => ?_
  subst he
  have hb : Below W.heap.size W W' := hext
  have g0 := Below.trod Tryz.laidOut (by kernel_rfl) (of_decide_eq_true (by kernel_rfl)) h0 hb (fun p hp => hlt p (List.mem_append.2 (.inl hp)))
  have g1 := Below.trod Tryz.laidOut (by kernel_rfl) (of_decide_eq_true (by kernel_rfl)) h1 hb (fun p hp => hlt p (List.mem_append.2 (.inr hp)))
  exact ⟨_, rfl, _, _, _, [], (p0 ++ p1), [], hW', trodAll_mk1 (shut_bool Tryz.underlying4 true), trodAll_mk2 g0 g1, rfl, Below.frame hb _, fun h => by cases h⟩
theorem sums3_row_holds : Rows.IntervalSumsSaid :=
  OpenClaim.holds_of_wide 4 Tryz.f4 rfl rfl rfl rfl rfl rfl rfl ⟨rfl, rfl, rfl, rfl, rfl⟩ rfl rfl rfl rfl rfl (by kernel_rfl) Tryz.func4 (by kernel_rfl)
    (of_decide_eq_true (by kernel_rfl)) (by unfold Func.isWrapper; first | (rw [if_neg (of_decide_eq_false (by kernel_rfl))]; exact ⟨rfl, rfl⟩) | (rw [if_pos (by decide +kernel)]; kernel_rfl))
    (fun os started H enc _ => sums3_lifted os started H enc)
theorem sums3_holds : Rows.IntervalSumsCardSaid :=
  Claim7.holds_tied_plain_at .later [] [.data] true Rows.intervalSumsCard.stood.harness false
    sums3_row_holds (fun _ h => by cases h) (by kernel_rfl) (fun _ h => by cases h) intervalSums_row_tie rfl ⟨rfl, rfl⟩ (by kernel_rfl) rfl
    (fun f fn hf hfn => by
      obtain rfl : f = 4 := Option.some.inj ((show Tryz.prog.funcNamed "setsquare/setsquarelaw03.IntervalSums" = some 4 by kernel_rfl).symm.trans hf) |>.symm
      obtain rfl : fn = Tryz.f4 := (Option.some.inj (Tryz.func4.symm.trans hfn)).symm
      exact ⟨by kernel_rfl, fun j t ht => by
        rw [Tryz.params4] at ht
        have hm : t ∈ [28, 28] := by simpa using Array.mem_of_getElem? ht
        have hall : ([28, 28].all fun u => !Tryz.prog.wantsStandIn u) = true := by kernel_rfl
        exact (show Tryz.prog.wantsStandIn t = false by simpa using List.all_eq_true.1 hall t hm)⟩)
    (by kernel_rfl)
end Go.Proofs.YtoabhnofppledaaGreatDoor
