/- Walks and laws, part 7. -/
import Derived.Test.YtmjmcinnbmjpdaaDoorMt2
import Derived.Test.YtmjmcinnbmjpdaaDoorMt3
import Derived.Test.YtmjmcinnbmjpdaaDoorMt5
import Derived.Test.YtmjmcinnbmjpdaaDoorMt6
namespace Go.Proofs.YtmjmcinnbmjpdaaDoor
open Go.RowKit
def Bd (b : UInt8) : Value := .int .u8 (b.toNat : Int)
/-- block g holds just these bytes. -/
def BlkB (w : World) (g : Nat) (bs : List UInt8) : Prop := w.heap[g]? = some (.cells (bs.map Bd).toArray 5 (0, 0))
section
variable {w w' : World} {g g' : Nat} {bs : List UInt8}
theorem BlkB.lt (h : BlkB w g bs) : g < w.heap.size := by
  rcases Nat.lt_or_ge g w.heap.size with hlt | hge
  · exact hlt
  · unfold BlkB at h; rw [Array.getElem?_eq_none hge] at h; cases h
theorem BlkB.cell (h : BlkB w g bs) {i : Nat} (hi : i < bs.length) : w.cell? ⟨g, i, none⟩ = some (.int .u8 (bs[i].toNat : Int)) := by
  rw [cell_of_row w g i _ _ (0, 0) h]
  simp [hi, Bd]
theorem BlkB.frozen (h : BlkB w g bs) (i : Nat) : w.frozen? ⟨g, i, none⟩ = false := by
  unfold BlkB at h
  simp [World.frozen?, h]
theorem BlkB.ext (h : BlkB w g bs) (e : Ext w w') : BlkB w' g bs := by
  have hb : Below w.heap.size w w' := e
  exact (hb.block g h.lt).trans h
theorem BlkB.mod (h : BlkB w g bs) (e : Mod w w' g') (hn : g ≠ g') : BlkB w' g bs := (e.block g h.lt (fun e => hn (by injection e))).trans h
theorem BlkB.set (h : BlkB w g bs) (i : Nat) {v : Int} {b : UInt8} (hv : v = (b.toNat : Int)) : BlkB (w.setCell ⟨g, i, none⟩ (.int .u8 v)) g (bs.set i b) := by
  subst hv
  unfold BlkB at h ⊢
  simp [World.setCell, Array.getElem?_modify, h, Bd]
theorem BlkB.new (w : World) (n : Nat) : BlkB (w.alloc (.cells (madeCells #[.int .u8 0] n) 5)) w.heap.size (List.replicate n 0) := by
  unfold BlkB
  rw [heap_alloc_new w _]
  congr 2
  apply Array.toList_inj.1
  rw [toList_madeCells_one]
  simp [Bd]
end
theorem owns_ext {w w' : World} {base : Nat} {e : TypeId} {size : Nat} {v : Value} {n : Nat} {xs : List Value} (h : w.ownsRow base e size v n xs) (k : Ext w w') : w'.ownsRow base e size v n xs := by
  refine ⟨h.1, h.2.imp id ?_⟩
  rintro ⟨g, cap, cur, hv, hb, hh, h1⟩
  have hb' : Below w.heap.size w w' := k
  have hlt : g < w.heap.size := by
    rcases Nat.lt_or_ge g w.heap.size with hlt | hge
    · exact hlt
    · rw [Array.getElem?_eq_none hge] at hh; cases hh
  exact ⟨g, cap, cur, hv, hb, (hb'.block g hlt).trans hh, h1⟩
theorem owns_base {w : World} {base base' : Nat} {e : TypeId} {size : Nat} {v : Value} {n : Nat} {xs : List Value} (h : w.ownsRow base e size v n xs) (k : base' ≤ base) : w.ownsRow base' e size v n xs :=
  ⟨h.1, h.2.imp id fun ⟨g, cap, cur, hv, hb, h1⟩ => ⟨g, cap, cur, hv, Nat.le_trans k hb, h1⟩⟩
theorem owns_nil (w : World) (base : Nat) (e : TypeId) (size : Nat) : w.ownsRow base e size (.slice none 0 0) 0 [] := ⟨by simp, .inl ⟨rfl, rfl⟩⟩
theorem owns_block {w : World} {base : Nat} {e : TypeId} {size : Nat} {v : Value} {n : Nat} {xs : List Value} (h : w.ownsRow base e size v n xs) : ∀ k, v.ownBlock = some k → base ≤ k := by
  intro k hk
  rcases h.2 with ⟨rfl, _⟩ | ⟨g, cap, cur, rfl, hb, _⟩
  · cases hk
  · injection hk with hk
    subst hk
    exact hb
theorem Tryd.infoB : (Tryd.prog.info? 5).map (fun i => (i.zero, i.size, i.bytes)) = some (some (.int .u8 0), 1, 1) := by kernel_rfl
theorem info_partsB {P : Program} {e : TypeId} {z : Value} {a b : Nat} (h : (P.info? e).map (fun i => (i.zero, i.size, i.bytes)) = some (some z, a, b)) : ∃ i, P.info? e = some i ∧ i.zero = some z ∧ i.size = a ∧ i.bytes = b := by
  cases hi : P.info? e with
  | none => rw [hi] at h; cases h
  | some i =>
    rw [hi] at h
    simp only [Option.map_some, Option.some.injEq, Prod.mk.injEq] at h
    exact ⟨i, rfl, h.1, h.2.1, h.2.2⟩
theorem mk_bytes (n : Nat) (hn : n ≤ 1000000) (W : World) :
    (Instr.makeSlice 63 (.int .i64 (n : Int)) (.int .i64 (n : Int))).run Tryd.prog W = .ok (.slice (some ⟨W.heap.size, 0, none⟩) n n) (W.alloc (.cells (madeCells #[.int .u8 0] n) 5)) := by
  obtain ⟨i0, hi, hz0, hz1, hz2⟩ := info_partsB Tryd.infoB
  have h := run_make_rowN (P := Tryd.prog) 63 5 i0 (.int .u8 0) Tryd.underlying63 hi hz0 .i64 .i64 n n (Nat.le_refl _) (by rw [hz2]; omega) (by omega) W
  rw [hz1] at h
  simpa only [Nat.mul_one, Value.cells] using h
theorem oneCell_bytes (bs : List UInt8) : ∀ u ∈ bs.map Bd, u.oneCell' = true := by
  intro u hu
  obtain ⟨n, _, rfl⟩ := List.mem_map.1 hu
  rfl
theorem cells_of_blkB {w : World} {g : Nat} {bs : List UInt8} (h : BlkB w g bs) : ∀ j u, (bs.map Bd)[j]? = some u → w.cell? ((⟨g, 0, none⟩ : Addr).add j) = some u := by
  intro j u hu
  rw [List.getElem?_map] at hu
  by_cases hj : j < bs.length
  · rw [List.getElem?_eq_getElem hj] at hu
    simp only [Option.map_some, Option.some.injEq] at hu
    subst hu
    refine Eq.trans ?_ (h.cell hj)
    congr 1
    unfold Addr.add
    split <;> simp_all
  · rw [List.getElem?_eq_none (by omega)] at hu
    cases hu
/-- a digit below the ninth of the nine lowest. -/
theorem low_digit (x t : Nat) (ht : t < 9) : x % 1000000000 / 10 ^ t % 10 = x / 10 ^ t % 10 := by
  have h : t = 0 ∨ t = 1 ∨ t = 2 ∨ t = 3 ∨ t = 4 ∨ t = 5 ∨ t = 6 ∨ t = 7 ∨ t = 8 := by omega
  rcases h with rfl | rfl | rfl | rfl | rfl | rfl | rfl | rfl | rfl <;> simp <;> omega
/-- one digit more is laid ahead. -/
theorem digit_step {v0 k t G : Nat} {bs : List UInt8} (hl : bs.length = 144) (hk : k + t + 1 ≤ 144) (ht : t < 9) (hd : bs.drop (144 - (k + t)) = pd (k + t) v0) (hG : G = v0 / 10 ^ k % 1000000000 / 10 ^ t) :
    (bs.set (144 - (k + t) - 1) (UInt8.ofNat (48 + G % 10))).drop (144 - (k + (t + 1))) = pd (k + (t + 1)) v0 := by
  have e1 : 144 - (k + (t + 1)) = 144 - (k + t) - 1 := by omega
  have e2 : 144 - (k + t) = (144 - (k + t) - 1) + 1 := by omega
  have hlt : 144 - (k + t) - 1 < bs.length := by omega
  rw [e1]
  generalize 144 - (k + t) - 1 = p at *
  rw [e2] at hd
  rw [List.drop_eq_getElem_cons (by rw [List.length_set]; exact hlt), List.getElem_set_self, List.drop_set_of_lt (by omega), hd]
  show _ = pd (k + t + 1) v0
  rw [pd_cons, hG, low_digit _ _ ht, Nat.div_div_eq_div_mul, ← Nat.pow_add]
section
variable {A : Option Addr} {c n : Nat} {xs : List Nat} {w : World}
theorem div_word_nil {v : Nat} (hv0 : 0 < v) : Calls Tryd.prog 56 #[.slice A 0 c, .int .u32 (v : Int)] w fun e w' => e = .returned (.int .u32 0) ∧ w = w' := by
  have hz0 : ((v : Int) == 0) = false := by rw [beq_eq_false_iff_ne]; omega
  go_enter Tryd.func56, Tryd.ntmps56
  go_wp2
  go_loopw [5, 6] (fun r i wr => r = .int .u64 0 ∧ i = .int .i64 (-1) ∧ w = wr) (fun _ _ _ => 0)
  case atStart => exact ⟨rfl, rfl, rfl⟩
  case round =>
    obtain ⟨rfl, rfl, rfl⟩ := hrel
    go_wp2
    go_ret
    exact ⟨rfl, rfl⟩
/-- division by a word in place, of any list of the call's own. -/
theorem div_word {lo v : Nat} (ho : Own w lo A xs) (hn : xs.length = n) (hv0 : 0 < v) (hv : v < 4294967296) (h1 : n ≤ 1000000) :
    Calls Tryd.prog 56 #[.slice A n c, .int .u32 (v : Int)] w fun e w' => ∃ zs, e = .returned (.int .u32 ((val xs % v : Nat) : Int)) ∧ zs.length = n ∧ Own w' lo A zs ∧ val zs = val xs / v ∧ (∀ w0, w0.heap.size ≤ lo → Ext w0 w → Ext w0 w') ∧ (∀ g bs, g < lo → BlkB w g bs → BlkB w' g bs) := by

  obtain ⟨hw32, rfl | ⟨g, rfl, hg, hb⟩⟩ := ho
  · simp at hn
    subst hn
    refine (div_word_nil hv0).mono ?_
    rintro e w' ⟨rfl, rfl⟩
    exact ⟨[], by simp [val], rfl, ⟨hw32, .inl rfl⟩, by simp [val], fun _ _ h => h, fun _ _ _ h => h⟩
  · refine (int_divideByWord hb hn hw32 hv0 hv h1).mono ?_
    rintro e w' ⟨zs, rfl, hzl, hzw, hzb, hzv, hm⟩
    exact ⟨zs, rfl, hzl, ⟨hzw, .inr ⟨g, rfl, hg, hzb⟩⟩, hzv, fun w0 h0 h => hm.ext h (by omega), fun g' bs hl h => h.mod hm (by omega)⟩
theorem div_bil {lo : Nat} (ho : Own w lo A xs) (hn : xs.length = n) (h1 : n ≤ 1000000) :
    Calls Tryd.prog 56 #[.slice A n c, .int .u32 1000000000] w fun e w' => ∃ zs, e = .returned (.int .u32 ((val xs % 1000000000 : Nat) : Int)) ∧ zs.length = n ∧ Own w' lo A zs ∧ val zs = val xs / 1000000000 ∧ (∀ w0, w0.heap.size ≤ lo → Ext w0 w → Ext w0 w') ∧ (∀ g bs, g < lo → BlkB w g bs → BlkB w' g bs) :=
  div_word (v := 1000000000) ho hn (by omega) (by omega) h1
end
end Go.Proofs.YtmjmcinnbmjpdaaDoor
namespace Go.Proofs.YtmjmcinnbmjpdaaDoor
open Go.RowKit
attribute [local go_sem ↓] Go.wp_at_zero Go.wp_at_succ
theorem Own.setFar {w : World} {lo g i : Nat} {A : Option Addr} {ys : List Nat} {v : Value} (h : Own w lo A ys) (hg : g < lo) : Own (w.setCell ⟨g, i, none⟩ v) lo A ys :=
  ⟨h.1, h.2.imp id fun ⟨_, a, b, c⟩ => ⟨_, a, b, c.mod ((Mod.refl w g).setCell i v) (by omega)⟩⟩
theorem dig_cast (G : Nat) : (48 + (G : Int) % 10) = ((UInt8.ofNat (48 + G % 10)).toNat : Int) := by
  have h : (UInt8.ofNat (48 + G % 10)).toNat = 48 + G % 10 := by
    rw [UInt8.toNat_ofNat']
    exact Nat.mod_eq_of_lt (by omega)
  rw [h]
  omega
section
variable {A : Option Addr} {c n : Nat} {xs : List Nat} {w : World}
set_option maxHeartbeats 4000000 in
set_option maxRecDepth 100000 in
theorem int_appendBlock {w0 : World} {text : Value} {tn : Nat} {cs : List Value} (he : Ext w0 w) (hown : w.ownsRow w0.heap.size 5 1 text tn cs) (htn : tn ≤ 10000) (hn : xs.length = n) (hx : Rd w A xs) (h1 : n ≤ 1000) :
    Calls Tryd.prog 87 #[text, .slice A n c] w fun e w' => ∃ text', e = .returned text' ∧ w'.ownsRow w0.heap.size 5 1 text' (tn + 144) (cs ++ (pd 144 (val xs)).map Bd) ∧ Ext w0 w' := by
  have Hn := Lib.hid hn
  clear hn
  have hmk : ∀ W : World, (Instr.makeSlice 63 (.int .i64 144) (.int .i64 144)).run Tryd.prog W = .ok (.slice (some ⟨W.heap.size, 0, none⟩) 144 144) (W.alloc (.cells (madeCells #[.int .u8 0] 144) 5)) := mk_bytes 144 (by omega)
  obtain ⟨v0, hv0⟩ : ∃ v0, val xs = v0 := ⟨_, rfl⟩
  have HV0 := Lib.hid hv0
  rw [hv0]
  clear hv0
  obtain ⟨P, hP⟩ : ∃ P : Nat → List UInt8, ∀ k, P k = pd k v0 := ⟨_, fun _ => rfl⟩
  rw [← hP 144]
  have HP := Lib.hid hP
  clear hP
  go_enter Tryd.func87, Tryd.ntmps87
  go_wp2_with fail
  have hb0 := BlkB.new w 144
  have e0 := (Ext.refl w).alloc (.cells (madeCells #[.int .u8 0] 144) 5)
  have hsz : w.heap.size + 1 ≤ (w.alloc (.cells (madeCells #[.int .u8 0] 144) 5)).heap.size := by simp
  refine (clone Hn.out (hx.ext e0) (by omega)).mono ?_
  rintro e W2 ⟨A2, c2, zs0, rfl, ho2, hc2, hm2, rfl, hext2⟩
  replace ho2 : Own W2 (w.heap.size + 1) A2 zs0 := ho2.mono hsz
  have hb := hb0.ext hext2
  have eW := e0.trans hext2
  clear hext2 hmk hb0 e0 hsz
  generalize hgB : w.heap.size = gB at hb ho2 ⊢
  have hlz := Hn.out
  go_wp2
  go_loopw [6, 7] (fun m e V => ∃ (j : Nat) (A' : Option Addr) (c' : Nat) (zs : List Nat) (bs : List UInt8), j ≤ 16 ∧ e = .int .i64 ((9 * j : Nat) : Int) ∧ m = .slice A' (List.length zs) c' ∧ Own V (gB + 1) A' zs ∧ zs.length ≤ c' ∧ c' ≤ maxLen ∧ zs.length ≤ 1000 ∧ BlkB V gB bs ∧ bs.length = 144 ∧ bs.drop (144 - (144 - 9 * j)) = P (144 - 9 * j) ∧ val zs = v0 / 10 ^ (144 - 9 * j) ∧ Ext w V) (fun _ e _ => (intOf e).toNat)
  case atStart => exact ⟨16, A2, c2, zs0, List.replicate 144 0, by omega, rfl, by rw [hlz], ho2, by omega, hm2, by omega, hb, by simp, by rw [HP.out]; rfl, by rw [HV0.out]; simp, eW⟩
  case round =>
    clear ho2 hb eW
    obtain ⟨j, A', c', zs, bs, hj, rfl, rfl, ho, hc', hm', hl', hbb, hbl, hdr, hval, hext⟩ := hrel
    rcases j with _ | j
    · have Hown := Lib.hid hown
      clear hown
      obtain ⟨i0, hi, hz0, hz1, hz2⟩ := info_partsB Tryd.infoB
      have hdd : bs = P 144 := by simpa using hdr
      go_wp2_with (at_builtin; refine wpList_append_own _ rfl _ _ 63 rfl w0.heap.size 5 i0 (.int .u8 0) 1 1 Tryd.underlying63 hi hz0 hz1 hz2 rfl (by decide) _ tn _ rfl (owns_ext Hown.out hext) ⟨gB, 0, none⟩ 144 144 (bs.map Bd) rfl (by simp [hbl]) (cells_of_blkB hbb) (oneCell_bytes bs) (by unfold maxLen; omega) (by omega) (he.trans hext).size ?_; intro v' w1 hown' hgr _)
      go_ret
      subst hdd
      exact ⟨_, rfl, hown', Below.grown (he.trans hext) hgr (he.trans hext).size (owns_block Hown.out)⟩
    · have hlo : w.heap.size ≤ gB + 1 := by omega
      obtain ⟨E, hE⟩ : ∃ E, 9 * (j + 1) = E := ⟨_, rfl⟩
      rw [hE] at hdr hval
      rw [hE]
      have hE9 : 9 ≤ E := by omega
      have hE144 : E ≤ 144 := by omega
      have HE := Lib.hid hE
      clear hE hj
      have Hdr := Lib.hid hdr
      have Hval := Lib.hid hval
      have Hown := Lib.hid hown
      clear hdr hval hown
      go_wp2_with fail
      refine (div_bil ho rfl (by omega)).mono ?_
      rintro e W3 ⟨ys, rfl, hyl, hoy, hyv, hx3, hb3⟩
      have hext3 := hx3 w hlo hext
      have hbb3 := hb3 gB bs (by omega) hbb
      clear hx3 hb3 ho hbb hext
      obtain ⟨G0, hG0⟩ : ∃ G0, val zs % 1000000000 = G0 := ⟨_, rfl⟩
      rw [hG0]
      have hG9 : G0 < 1000000000 := by rw [← hG0]; exact Nat.mod_lt _ (by omega)
      have HG0 := Lib.hid hG0
      have Hyv := Lib.hid hyv
      clear hG0 hyv
      go_wp2_with fail
      refine (int_trimN hyl hoy.rd hc' hm').mono ?_
      rintro e W4 ⟨rfl, rfl⟩
      go_wp2
      go_loopw [8, 9] (fun g i V => ∃ (t G : Nat) (bs : List UInt8), t ≤ 9 ∧ g = .int .u32 (G : Int) ∧ i = .int .i64 ((E : Int) - 1 - (t : Int)) ∧ Own V (gB + 1) A' ys ∧ BlkB V gB bs ∧ bs.length = 144 ∧ bs.drop (144 - (144 - E + t)) = P (144 - E + t) ∧ G = v0 / 10 ^ (144 - E) % 1000000000 / 10 ^ t ∧ Ext w V) (fun _ i _ => (intOf i + 1).toNat)
      case atStart => exact ⟨0, G0, bs, by omega, rfl, by simp, hoy, hbb3, hbl, Hdr.out, by rw [← Hval.out, HG0.out]; simp, hext3⟩
      case round =>
        clear hoy hbb3 hext3 Hdr
        obtain ⟨t, G, bs, ht, rfl, rfl, hoy, hbb, hbl, hdr, hG, hext⟩ := hrel
        have HG := Lib.hid hG
        have Hdr := Lib.hid hdr
        have hG2 : G < 1000000000 := by
          rw [hG]
          exact Nat.lt_of_le_of_lt (Nat.div_le_self _ _) (Nat.mod_lt _ (by omega))
        clear hG hdr
        by_cases ht9 : t < 9
        · obtain ⟨p, hp⟩ : ∃ p, E = p + 1 + t := ⟨E - 1 - t, by omega⟩
          have hpi : (E : Int) - 1 - (t : Int) = (p : Int) := by omega
          rw [hpi]
          have hcl := hbb.cell (i := p) (by omega)
          have hfr := hbb.frozen p
          clear hpi
          go_wp2
          go_roundw
          case rel =>
            have hd := Hdr.out
            rw [HP.out] at hd
            have hst := digit_step hbl (by omega) ht9 hd HG.out
            rw [show 144 - (144 - E + t) - 1 = p by omega] at hst
            refine ⟨t + 1, G / 10, bs.set p (UInt8.ofNat (48 + G % 10)), by omega, by simp, ?_, hoy.setFar (by omega), hbb.set p (dig_cast G), by simp [hbl], ?_, ?_, hext.setCell (by show w.heap.size ≤ gB; omega) _⟩
            · congr 1
              omega
            · rw [HP.out]
              exact hst
            · rw [HG.out, Nat.div_div_eq_div_mul, ← Nat.pow_succ]
          case measure =>
            simp only [intOf]
            omega
        · obtain rfl : t = 9 := by omega
          go_wp2
          have hk : 144 - E + 9 = 144 - 9 * j := by have := HE.out; omega
          refine ⟨⟨j, A', c', trimL ys, bs, by have := HE.out; omega, ?_, rfl, ?_, ?_, hm', ?_, hbb, hbl, ?_, ?_, hext⟩, ?_⟩
          · have := HE.out
            congr 1
            omega
          · rw [trimL_take]
            exact hoy.take _
          · have := trimL_len ys
            omega
          · have := trimL_len ys
            omega
          · rw [← hk]
            exact Hdr.out
          · rw [val_trimL, Hyv.out, Hval.out, Nat.div_div_eq_div_mul, ← hk, Nat.pow_add]
          · simp only [intOf]
            omega
end
end Go.Proofs.YtmjmcinnbmjpdaaDoor
namespace Go.Proofs.YtmjmcinnbmjpdaaDoor
open Go.RowKit
theorem Mod.alloc {a w : World} {g : Nat} (h : Mod a w g) (o : Obj) : Mod a (w.alloc o) g := h.trans (((Ext.refl w).alloc o).mod g)
theorem Mod.ext' {a b c : World} {g : Nat} (h : Mod a b g) (k : Ext b c) : Mod a c g := h.trans (k.mod g)
theorem split_mid (pre zs post : List Nat) (m : Nat) : pre ++ zs ++ post = (pre ++ zs.take m) ++ zs.drop m ++ post := by
  rw [List.append_assoc pre (zs.take m), List.take_append_drop]
section
variable {A B : Option Addr} {c d m : Nat} {xs ys : List Nat} {w : World}
set_option maxHeartbeats 1000000 in
theorem int_addMultiple {g off n cz : Nat} {pre zs0 post : List Nat} {q : Nat} (hblk0 : BlkN w g (pre ++ zs0 ++ post)) (hoff : pre.length = off) (hn : zs0.length = n) (hw : W32 zs0) (hx : Rd w A xs) (hm : xs.length = m) (hap : Apart A xs g)
    (hl : m ≤ n) (hq : q < 4294967296) (hf : val zs0 + val xs * q < 4294967296 ^ n) (h1 : n ≤ 1000000) (hcz : n ≤ cz) (hczm : cz ≤ maxLen) :
    Calls Tryd.prog 97 #[.slice (some ⟨g, off, none⟩) n cz, .slice A m c, .int .u32 (q : Int)] w (Turned w g pre n post fun zs => val zs = val zs0 + val xs * q) := by
  unfold maxLen at hczm
  have Hoff := Lib.hid hoff
  have Hn := Lib.hid hn
  have Hm := Lib.hid hm
  have Hf := Lib.hid hf
  clear hoff hn hm hf
  go_enter Tryd.func97, Tryd.ntmps97
  go_wp2
  go_loopw [6, 16] (fun cr i wr => ∃ (k : Nat) (zs : List Nat) (cy : Nat), k ≤ m ∧ i = .int .i64 (k : Int) ∧ cr = .int .u64 (cy : Int) ∧ MulInv zs0 xs q k zs cy ∧ BlkN wr g (pre ++ zs ++ post) ∧ Mod w wr g) (fun _ i _ => m - (intOf i).toNat)
  case atStart => exact ⟨0, zs0, 0, by omega, rfl, rfl, MulInv.start hw, hblk0, Mod.refl _ _⟩
  case round =>
    obtain ⟨k, zs, cy, hk, rfl, rfl, hinv, hblk, hmod⟩ := hrel
    have hcy := hinv.hcy
    have hzl : n ≤ zs.length := by rw [hinv.len, Hn.out]; omega
    have hzl2 : zs.length ≤ n := by rw [hinv.len, Hn.out]; omega
    have hxl : m ≤ xs.length := by rw [Hm.out]; omega
    have hxl2 : xs.length ≤ m := by rw [Hm.out]; omega
    by_cases hlt : k < m
    · obtain ⟨b, off', rfl, hb, hc1⟩ := (hx.mod hmod hap).at_ (i := k) (by omega)
      have hxk := hx.1.get (k := k) (by omega)
      obtain ⟨b2, off2, he, hb2, hc2⟩ := (hblk.mid hinv.w32 Hoff.out).at_ (i := k) (by omega)
      injection he with he
      injection he with he1 he2
      subst he1; subst he2
      have hzk := hinv.w32.get (k := k) (by omega)
      have hfz := hblk.frozen (off + k)
      have hmi := (mul_word_int hxk hq).1
      have hmj := (mul_word_int hxk hq).2
      go_wp2
      go_roundw
      case rel => exact ⟨k + 1, _, (cy + (xs[k] * q + zs[k])) / 4294967296, by omega, by go_num, u64_div _ (cast_mac _ _ _ _), hinv.step hx.1 hq (by omega) (by omega) (s := cy + (xs[k] * q + zs[k])) rfl, hblk.setMid Hoff.out (by omega) (u32_mod _ (cast_mac _ _ _ _)), hmod.setCell _ _⟩
      case measure => simp [intOf]; omega
    · have hk' : k = xs.length := by omega
      have hmx : xs.length ≤ zs.length := by omega
      subst hk'
      have Hd := Lib.hid (hinv.done hmx)
      by_cases hc0 : cy = 0
      · subst hc0
        go_wp2
        go_end0
        exact ⟨zs, rfl, by omega, hinv.w32, hblk, by have h := Hd.out; rw [Nat.mul_zero, Nat.add_zero] at h; exact h, hmod⟩
      · have hmn : m < n := by
          rcases Nat.lt_or_ge m n with h | h
          · exact h
          · exact absurd (no_carry (n := n) (by omega) Hd.out (by omega) Hf.out) hc0
        have hc1 : (((cy : Nat) : Int) == 0) = false := by rw [beq_eq_false_iff_ne]; omega
        have hc2 : (((cy : Nat) : Int) != 0) = true := by rw [bne_iff_ne]; omega
        have hcm : m < cz := by omega
        have hcm' : ¬ cz = m := by omega
        have hb1 := hblk.ext ((Ext.refl wr).alloc (.cells #[.int .u32 (cy : Int)] 43))
        have hsp := split_mid pre zs post m
        rw [hsp] at hb1
        have hnew := BlkN.lit wr [cy] #[.int .u32 (cy : Int)] rfl
        have hrd := hnew.rd0 (W32.one hcy)
        have hap2 : Apart (some ⟨wr.heap.size, 0, none⟩) [cy] g := by
          intro _ a ha
          injection ha with ha
          subst ha
          have := hblk.lt
          show wr.heap.size ≠ g
          omega
        have hmod1 := hmod.alloc (.cells #[.int .u32 (cy : Int)] 43)
        have Hsp := Lib.hid hsp
        clear hsp
        go_wp2_with (go_at_call 58; refine (int_addTo (n := n - m) (pre := pre ++ zs.take m) (zs0 := zs.drop m) (post := post) _ _ [cy] _ hb1 (by rw [List.length_append, Hoff.out, List.length_take]; omega) (by rw [List.length_drop]; omega) (hinv.w32.drop m) hrd rfl hap2 (by simp; omega) (by omega)).mono ?_; rintro e w2 ⟨zt, rfl, hzl, hzw, hzb, ⟨c2, hc2, hval⟩, hmod2⟩)
        go_end0
        have hm := Hm.out
        subst hm
        refine ⟨zs.take xs.length ++ zt, rfl, by rw [List.length_append, List.length_take, hzl]; omega, (hinv.w32.take _).append hzw, by rw [← List.append_assoc pre]; exact hzb, ?_, hmod1.trans hmod2⟩
        exact mul_tail (n := n) (c2 := c2) (by omega) Hd.out hl (by rw [hval, val_one]) Hf.out
set_option maxHeartbeats 1000000 in
theorem int_addProduct1 {g off n cz p : Nat} {pre zs0 post : List Nat} (hblk0 : BlkN w g (pre ++ zs0 ++ post)) (hoff : pre.length = off) (hn : zs0.length = n) (hw : W32 zs0) (hx : Rd w A xs) (hm : xs.length = m) (hap : Apart A xs g)
    (hy : Rd w B ys) (hp : ys.length = p) (hbp : Apart B ys g) (hpm : p ≤ m) (hp64 : p < 64) (hl : m + p ≤ n) (hf : val zs0 + val xs * val ys < 4294967296 ^ n) (h1 : n ≤ 1000000) (hcz : n ≤ cz) (hczm : cz ≤ maxLen) :
    Calls Tryd.prog 82 #[.slice (some ⟨g, off, none⟩) n cz, .slice A m c, .slice B p d] w (Turned w g pre n post fun zs => val zs = val zs0 + val xs * val ys) := by
  have Hczm := Lib.hid hczm
  unfold maxLen at hczm
  have Hoff := Lib.hid hoff
  have Hn := Lib.hid hn
  have Hm := Lib.hid hm
  have Hp := Lib.hid hp
  have Hf := Lib.hid hf
  clear hoff hn hm hp hf
  have ht1 : decide ((p : Int) < 64) = true := decide_eq_true (by omega)
  have ht2 : decide ((m : Int) < (p : Int)) = false := decide_eq_false (by omega)
  have ht3 : decide (m < p) = false := decide_eq_false (by omega)
  go_enter Tryd.func82, Tryd.ntmps82
  go_wp2
  go_loopw [26] (fun i wr => ∃ (k : Nat) (zs : List Nat), k ≤ p ∧ i = .int .i64 (k : Int) ∧ zs.length = n ∧ W32 zs ∧ val zs = val zs0 + val xs * val (ys.take k) ∧ BlkN wr g (pre ++ zs ++ post) ∧ Mod w wr g) (fun i _ => p - (intOf i).toNat)
  case atStart => exact ⟨0, zs0, by omega, rfl, Hn.out, hw, by simp [val], hblk0, Mod.refl _ _⟩
  case round =>
    obtain ⟨k, zs, hk, rfl, hzl, hzw, hzv, hblk, hmod⟩ := hrel
    have Hzl := Lib.hid hzl
    have Hzv := Lib.hid hzv
    clear hzl hzv
    have hyl : p ≤ ys.length := by rw [Hp.out]; omega
    have hyl2 : ys.length ≤ p := by rw [Hp.out]; omega
    by_cases hlt : k < p
    · obtain ⟨b, off', rfl, hb, hc1⟩ := (hy.mod hmod hbp).at_ (i := k) (by omega)
      have hyk := hy.1.get (k := k) (by omega)
      have hkc : k < cz := by omega
      have hkc' : ¬ cz = k := by omega
      have hb1 : BlkN wr g ((pre ++ zs.take k) ++ zs.drop k ++ post) := by rw [← split_mid]; exact hblk
      go_wp2_with (go_at_call 97; refine (int_addMultiple (n := n - k) (m := m) (pre := pre ++ zs.take k) (zs0 := zs.drop k) (post := post) (q := ys[k]) hb1 (by rw [List.length_append, Hoff.out, List.length_take, Hzl.out]; omega) (by rw [List.length_drop, Hzl.out]) (hzw.drop k) (hx.mod hmod hap) Hm.out hap (by omega) hyk (prod_fits (by omega) (by omega) Hzl.out Hzv.out Hf.out) (by omega) (by omega) (Nat.le_trans (Nat.sub_le _ _) Hczm.out)).mono ?_; rintro e w2 ⟨zt, rfl, hztl, hztw, hztb, hztv, hmod2⟩)
      go_roundw
      case rel =>
        refine ⟨k + 1, zs.take k ++ zt, by omega, by go_num, ?_, (hzw.take k).append hztw, prod_step (by omega) (by omega) Hzl.out Hzv.out hztv, by rw [← List.append_assoc pre]; exact hztb, hmod.trans hmod2⟩
        have := Hzl.out
        rw [List.length_append, List.length_take, hztl]; omega
      case measure => simp [intOf]; omega
    · have Hfin := Lib.hid (by rw [Hzv.out, List.take_of_length_le (by omega)] : val zs = val zs0 + val xs * val ys)
      go_wp2
      go_end0
      exact ⟨zs, rfl, Hzl.out, hzw, hblk, Hfin.out, hmod⟩
set_option maxHeartbeats 1000000 in
theorem int_addProduct2 {g off n cz p : Nat} {pre zs0 post : List Nat} (hblk0 : BlkN w g (pre ++ zs0 ++ post)) (hoff : pre.length = off) (hn : zs0.length = n) (hw : W32 zs0) (hx : Rd w A xs) (hm : xs.length = m) (hap : Apart A xs g)
    (hy : Rd w B ys) (hp : ys.length = p) (hbp : Apart B ys g) (hpm : m < p) (hp64 : m < 64) (hl : m + p ≤ n) (hf : val zs0 + val xs * val ys < 4294967296 ^ n) (h1 : n ≤ 1000000) (hcz : n ≤ cz) (hczm : cz ≤ maxLen) :
    Calls Tryd.prog 82 #[.slice (some ⟨g, off, none⟩) n cz, .slice A m c, .slice B p d] w (Turned w g pre n post fun zs => val zs = val zs0 + val xs * val ys) := by
  have Hczm := Lib.hid hczm
  unfold maxLen at hczm
  have Hoff := Lib.hid hoff
  have Hn := Lib.hid hn
  have Hm := Lib.hid hm
  have Hp := Lib.hid hp
  have Hf := Lib.hid hf
  clear hoff hn hm hp hf
  have ht1 : decide ((m : Int) < 64) = true := decide_eq_true (by omega)
  have ht2 : decide ((m : Int) < (p : Int)) = true := decide_eq_true (by omega)
  have ht3 : decide (m < p) = true := decide_eq_true (by omega)
  go_enter Tryd.func82, Tryd.ntmps82
  go_wp2
  go_loopw [26] (fun i wr => ∃ (k : Nat) (zs : List Nat), k ≤ m ∧ i = .int .i64 (k : Int) ∧ zs.length = n ∧ W32 zs ∧ val zs = val zs0 + val ys * val (xs.take k) ∧ BlkN wr g (pre ++ zs ++ post) ∧ Mod w wr g) (fun i _ => m - (intOf i).toNat)
  case atStart => exact ⟨0, zs0, by omega, rfl, Hn.out, hw, by simp [val], hblk0, Mod.refl _ _⟩
  case round =>
    obtain ⟨k, zs, hk, rfl, hzl, hzw, hzv, hblk, hmod⟩ := hrel
    have Hzl := Lib.hid hzl
    have Hzv := Lib.hid hzv
    clear hzl hzv
    have hyl : m ≤ xs.length := by rw [Hm.out]; omega
    have hyl2 : xs.length ≤ m := by rw [Hm.out]; omega
    by_cases hlt : k < m
    · obtain ⟨b, off', rfl, hb, hc1⟩ := (hx.mod hmod hap).at_ (i := k) (by omega)
      have hyk := hx.1.get (k := k) (by omega)
      have hkc : k < cz := by omega
      have hkc' : ¬ cz = k := by omega
      have hb1 : BlkN wr g ((pre ++ zs.take k) ++ zs.drop k ++ post) := by rw [← split_mid]; exact hblk
      go_wp2_with (go_at_call 97; refine (int_addMultiple (n := n - k) (m := p) (pre := pre ++ zs.take k) (zs0 := zs.drop k) (post := post) (q := xs[k]) hb1 (by rw [List.length_append, Hoff.out, List.length_take, Hzl.out]; omega) (by rw [List.length_drop, Hzl.out]) (hzw.drop k) (hy.mod hmod hbp) Hp.out hbp (by omega) hyk (prod_fits (by omega) (by omega) Hzl.out Hzv.out (by rw [Nat.mul_comm]; exact Hf.out)) (by omega) (by omega) (Nat.le_trans (Nat.sub_le _ _) Hczm.out)).mono ?_; rintro e w2 ⟨zt, rfl, hztl, hztw, hztb, hztv, hmod2⟩)
      go_roundw
      case rel =>
        refine ⟨k + 1, zs.take k ++ zt, by omega, by go_num, ?_, (hzw.take k).append hztw, prod_step (by omega) (by omega) Hzl.out Hzv.out hztv, by rw [← List.append_assoc pre]; exact hztb, hmod.trans hmod2⟩
        have := Hzl.out
        rw [List.length_append, List.length_take, hztl]; omega
      case measure => simp [intOf]; omega
    · have Hfin := Lib.hid (by rw [Hzv.out, List.take_of_length_le (by omega), Nat.mul_comm] : val zs = val zs0 + val xs * val ys)
      go_wp2
      go_end0
      exact ⟨zs, rfl, Hzl.out, hzw, hblk, Hfin.out, hmod⟩
theorem int_addProduct_s {g off n cz p : Nat} {pre zs0 post : List Nat} (hblk0 : BlkN w g (pre ++ zs0 ++ post)) (hoff : pre.length = off) (hn : zs0.length = n) (hw : W32 zs0) (hx : Rd w A xs) (hm : xs.length = m) (hap : Apart A xs g)
    (hy : Rd w B ys) (hp : ys.length = p) (hbp : Apart B ys g) (h64 : min m p < 64) (hl : m + p ≤ n) (hf : val zs0 + val xs * val ys < 4294967296 ^ n) (h1 : n ≤ 1000000) (hcz : n ≤ cz) (hczm : cz ≤ maxLen) :
    Calls Tryd.prog 82 #[.slice (some ⟨g, off, none⟩) n cz, .slice A m c, .slice B p d] w (Turned w g pre n post fun zs => val zs = val zs0 + val xs * val ys) := by
  by_cases h : p ≤ m
  · exact int_addProduct1 hblk0 hoff hn hw hx hm hap hy hp hbp h (by omega) hl hf h1 hcz hczm
  · exact int_addProduct2 hblk0 hoff hn hw hx hm hap hy hp hbp (by omega) (by omega) hl hf h1 hcz hczm
end
end Go.Proofs.YtmjmcinnbmjpdaaDoor
