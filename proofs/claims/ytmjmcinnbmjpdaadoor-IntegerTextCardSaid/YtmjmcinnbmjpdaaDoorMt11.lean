/- Walks and laws, part 11. -/
import Derived.Test.YtmjmcinnbmjpdaaDoorMt0
import Derived.Test.YtmjmcinnbmjpdaaDoorMt4
import Derived.Test.YtmjmcinnbmjpdaaDoorMt7
import Derived.Test.YtmjmcinnbmjpdaaDoorMt9
import Derived.Test.YtmjmcinnbmjpdaaDoorMt10
import Derived.Shelf.Strings.Trim
import Derived.Shelf.Strconv.Itoa0
import Derived.Shelf.Strconv.Itoa1
import Derived.Shelf.LaysM
import Derived.Shelf.Strconv.Itoa2
import Derived.Test.YtmjmcinnbmjpdaaDoorProg
import Derived.Lib.ItoaMem
namespace Go.Proofs.YtmjmcinnbmjpdaaDoor
open Go.RowKit
attribute [local go_sem ↓] Go.wp_at_zero Go.wp_at_succ
section
variable {A B Q : Option Addr} {c d n m q : Nat} {xs ys : List Nat} {w : World}
set_option maxHeartbeats 4000000 in
theorem digits_0 {w0 : World} {text : Value} {tn : Nat} {cs : List Value} (he : Ext w0 w) (hown : w.ownsRow w0.heap.size 5 1 text tn cs) (htn : tn ≤ 10000) (hn : xs.length = n) (hx : Rd w A xs) (h1 : n ≤ 1000) :
    Calls Tryd.prog 63 #[text, .slice A n c, .slice Q 0 q] w fun e w' => ∃ text' D, e = .returned text' ∧ w'.ownsRow w0.heap.size 5 1 text' (tn + 144) (cs ++ D.map Bd) ∧ D = pd 144 (val xs) ∧ Ext w0 w' := by
  go_enter Tryd.func63, Tryd.ntmps63
  have Hown := Lib.hid hown
  clear hown
  go_wp2_with (go_at_call 87; refine (int_appendBlock he Hown.out htn hn hx h1).mono ?_; rintro e w' ⟨text', rfl, ho, hx'⟩)
  go_ret
  exact ⟨_, _, rfl, ho, rfl, hx'⟩
set_option maxHeartbeats 4000000 in
theorem digits_1 {T : Nat} (hT : T = 10 ^ 144) (hn : xs.length = n) (hx : Rd w A xs) (hc : n ≤ c) (hcm : c ≤ maxLen) (h1 : n ≤ 1000) (hnx : Nrm xs) {b : Nat} (hcell : w.cell? ⟨b, 0, none⟩ = some (.slice B m d)) (hm : ys.length = m) (hy : Rd w B ys) (hd : m ≤ d) (hdm : d ≤ maxLen) (hny : Nrm ys) (h2 : m ≤ 1000) (h0 : 0 < m) (hv : val ys = T) :
    Calls Tryd.prog 63 #[.slice none 0 0, .slice A n c, .slice (some ⟨b, 0, none⟩) 1 q] w fun e w' => ∃ text' D, e = .returned text' ∧ w'.ownsRow w.heap.size 5 1 text' 288 (D.map Bd) ∧ D = pd (144 + 144) (val xs) ∧ Ext w w' := by
  go_enter Tryd.func63, Tryd.ntmps63
  have Hv := Lib.hid hv
  have HT := Lib.hid hT
  clear hv hT
  go_wp2_with fail
  refine (divide_ok A B c d n m xs ys w hn hm hx hy hc hcm hd hdm hnx hny h0 (by omega) (by omega)).mono ?_
  rintro e W1 ⟨Aq, cq, qs, Ar, cr, rs, rfl, hoq, hor, hcq, hmq, hcr, hmr, ⟨hq, hr, hnq, hnr, hlq, hlr⟩, ext1⟩
  have Hq := Lib.hid hq
  have Hr := Lib.hid hr
  clear hq hr
  go_wp2_with fail
  refine (digits_0 (Ext.refl W1) (owns_nil W1 W1.heap.size 5 1) (by omega) rfl hoq.rd (by omega)).mono ?_
  rintro e W2 ⟨text2, D1, rfl, ho2, hD1, ext2⟩
  have HD1 := Lib.hid hD1
  have ho2' := owns_base ho2 ext1.size
  have HO := Lib.hid ho2'
  clear hD1 ho2 ho2'
  go_wp2_with fail
  refine (digits_0 (ext1.trans ext2) HO.out (by omega) rfl (hor.rd.ext ext2) (by omega)).mono ?_
  rintro e W3 ⟨text3, D2, rfl, ho3, hD2, ext3⟩
  go_wp2
  go_ret
  refine ⟨text3, D1 ++ D2, rfl, by rw [List.map_append]; exact ho3, ?_, ext3⟩
  rw [HD1.out, hD2, ← pd_add 144 (val qs) 144 (val rs) ?_]
  · rw [← HT.out, Hq.out, Hr.out, Hv.out, Nat.mul_comm, Nat.div_add_mod]
  · rw [Hr.out, Hv.out, ← HT.out]
    refine Nat.mod_lt _ ?_
    have := hny.ge (by rintro rfl; simp at hm; omega)
    have h5 : 0 < 4294967296 ^ (ys.length - 1) := Nat.pow_pos (by omega)
    rw [Hv.out] at this
    omega
end
end Go.Proofs.YtmjmcinnbmjpdaaDoor
namespace Go.Proofs
open Go.Shelf
def Tryd.lays161_ren : Go.Shelf.Ren := ⟨fun | 161 => 62 | 231 => 83 | 227 => 84 | 233 => 85 | 235 => 86 | 228 => 99 | 197 => 100 | 151 => 101 | 260 => 106 | 152 => 107 | 137 => 109 | 119 => 110 | 224 => 111 | 225 => 112 | 217 => 113 | 266 => 114 | n => n, fun | 9 => 9 | 4 => 4 | 3 => 3 | 5 => 5 | 117 => 104 | 116 => 103 | 0 => 0 | 124 => 107 | 105 => 120 | 21 => 21 | 119 => 128 | 46 => 68 | 139 => 131 | 138 => 130 | n => n, fun | 3 => 2 | 4 => 3 | n => n⟩
theorem Tryd.lays161 : Go.Proofs.Lays.n161 Tryd.prog Tryd.lays161_ren := {
  mixed := by kernel_rfl
  f119 := Tryd.func110.trans (congrArg some (by kernel_rfl))
  f137 := Tryd.func109.trans (congrArg some (by kernel_rfl))
  f151 := Tryd.func101.trans (congrArg some (by kernel_rfl))
  f152 := Tryd.func107.trans (congrArg some (by kernel_rfl))
  f161 := Tryd.func62.trans (congrArg some (by kernel_rfl))
  f197 := Tryd.func100.trans (congrArg some (by kernel_rfl))
  f217 := Tryd.func113.trans (congrArg some (by kernel_rfl))
  f224 := Tryd.func111.trans (congrArg some (by kernel_rfl))
  f225 := Tryd.func112.trans (congrArg some (by kernel_rfl))
  f227 := Tryd.func84.trans (congrArg some (by kernel_rfl))
  f228 := Tryd.func99.trans (congrArg some (by kernel_rfl))
  f231 := Tryd.func83.trans (congrArg some (by kernel_rfl))
  f233 := Tryd.func85.trans (congrArg some (by kernel_rfl))
  f235 := Tryd.func86.trans (congrArg some (by kernel_rfl))
  f260 := Tryd.func106.trans (congrArg some (by kernel_rfl))
  f266 := Tryd.func114.trans (congrArg some (by kernel_rfl))
  t0 := Tryd.underlying0
  a0 := Tryd.isAgg0
  z0 := Tryd.sizeOf0
  v0 := Tryd.zeroValue0
  t3 := Tryd.underlying3
  a3 := Tryd.isAgg3
  z3 := Tryd.sizeOf3
  v3 := Tryd.zeroValue3
  t4 := Tryd.underlying4
  a4 := Tryd.isAgg4
  z4 := Tryd.sizeOf4
  v4 := Tryd.zeroValue4
  t5 := Tryd.underlying5
  a5 := Tryd.isAgg5
  z5 := Tryd.sizeOf5
  v5 := Tryd.zeroValue5
  t9 := Tryd.underlying9
  a9 := Tryd.isAgg9
  z9 := Tryd.sizeOf9
  v9 := Tryd.zeroValue9
  t21 := Tryd.underlying21
  a21 := Tryd.isAgg21
  z21 := Tryd.sizeOf21
  v21 := Tryd.zeroValue21
  t46 := Tryd.underlying68
  a46 := Tryd.isAgg68
  z46 := Tryd.sizeOf68
  v46 := Tryd.zeroValue68
  t105 := Tryd.underlying120
  a105 := Tryd.isAgg120
  z105 := Tryd.sizeOf120
  v105 := Tryd.zeroValue120
  t116 := Tryd.underlying103
  a116 := Tryd.isAgg103
  z116 := Tryd.sizeOf103
  t117 := Tryd.underlying104
  a117 := Tryd.isAgg104
  z117 := Tryd.sizeOf104
  v117 := Tryd.zeroValue104
  t119 := Tryd.underlying128
  a119 := Tryd.isAgg128
  z119 := Tryd.sizeOf128
  t124 := Tryd.underlying107
  a124 := Tryd.isAgg107
  z124 := Tryd.sizeOf107
  v124 := Tryd.zeroValue107
  t138 := Tryd.underlying130
  a138 := Tryd.isAgg130
  z138 := Tryd.sizeOf130
  v138 := Tryd.zeroValue130
  t139 := Tryd.underlying131
  a139 := Tryd.isAgg131
  z139 := Tryd.sizeOf131
  v139 := Tryd.zeroValue131
  g3 := by kernel_rfl
  g4 := by kernel_rfl }
open Go.RowKit in
/-- strings.TrimLeft: "TrimLeft returns a slice of the string s with all leading Unicode code points contained in cutset removed.": AT A cutset OF ONE ASCII BYTE. The world is as it was. (LAID: no walk: one application.) -/
theorem Tryd.strings_TrimLeft_one (s : ByteArray) (c : UInt8) (hc : c.toNat < 128) (w : World) :
    Calls Tryd.prog 62 #[.string s, .string ⟨#[c]⟩] w fun e w' => e = .returned (.string ⟨(Lib.trimLeftB s.data.toList c).toArray⟩) ∧ w' = w := Any.strings_TrimLeft_one Tryd.lays161 s c hc w
def Tryd.lays283_ren : Go.Shelf.Ren := ⟨fun | 283 => 93 | n => n, fun | 3 => 3 | 9 => 9 | 4 => 4 | n => n, fun | n => n⟩
theorem Tryd.lays283 : Go.Proofs.Lays.n283 Tryd.prog Tryd.lays283_ren := {
  mixed := by kernel_rfl
  f283 := Tryd.func93.trans (congrArg some (by kernel_rfl))
  t3 := Tryd.underlying3
  a3 := Tryd.isAgg3
  z3 := Tryd.sizeOf3
  v3 := Tryd.zeroValue3
  t4 := Tryd.underlying4
  a4 := Tryd.isAgg4
  z4 := Tryd.sizeOf4
  v4 := Tryd.zeroValue4
  t9 := Tryd.underlying9
  a9 := Tryd.isAgg9
  z9 := Tryd.sizeOf9
  v9 := Tryd.zeroValue9 }
open Go.Lib in
/-- internal/strconv.small: "small returns the string for an i with 0 <= i < nSmalls.": i's decimal numeral. The world is as it was. (LAID: no walk: one application.) -/
theorem Tryd.internal_strconv_small (i : Nat) (h : i < 100) (w : World) :
    Calls Tryd.prog 93 #[.int .i64 i] w fun e w' => e = .returned (.string ⟨(Lib.decDigits i).toArray⟩) ∧ w' = w := Any.internal_strconv_small Tryd.lays283 i h w
def Tryd.laysM284_ren : Go.Shelf.Ren := ⟨fun | 284 => 94 | 129 => 90 | 317 => 102 | 318 => 103 | n => n, fun | 53 => 65 | 3 => 3 | 212 => 125 | 0 => 0 | 4 => 4 | 46 => 68 | 5 => 5 | 9 => 9 | n => n, fun | 17 => 1 | n => n⟩
theorem Tryd.laysM284 : Go.Proofs.LaysM.n284 Tryd.prog Tryd.laysM284_ren := {
  mixed := by kernel_rfl
  f129 := Tryd.func90.trans (congrArg some (by kernel_rfl))
  f284 := Tryd.func94.trans (congrArg some (by kernel_rfl))
  f317 := Tryd.func102.trans (congrArg some (by kernel_rfl))
  f318 := Tryd.func103.trans (congrArg some (by kernel_rfl))
  t0 := Tryd.underlying0
  a0 := Tryd.isAgg0
  z0 := Tryd.sizeOf0
  v0 := Tryd.zeroValue0
  t3 := Tryd.underlying3
  a3 := Tryd.isAgg3
  z3 := Tryd.sizeOf3
  v3 := Tryd.zeroValue3
  t4 := Tryd.underlying4
  a4 := Tryd.isAgg4
  z4 := Tryd.sizeOf4
  v4 := Tryd.zeroValue4
  t5 := Tryd.underlying5
  a5 := Tryd.isAgg5
  z5 := Tryd.sizeOf5
  v5 := Tryd.zeroValue5
  t9 := Tryd.underlying9
  a9 := Tryd.isAgg9
  z9 := Tryd.sizeOf9
  v9 := Tryd.zeroValue9
  t46 := Tryd.underlying68
  a46 := Tryd.isAgg68
  z46 := Tryd.sizeOf68
  v46 := Tryd.zeroValue68
  t53 := Tryd.underlying65
  a53 := Tryd.isAgg65
  z53 := Tryd.sizeOf65
  v53 := Tryd.zeroValue65
  t212 := Tryd.underlying125
  a212 := Tryd.isAgg125
  z212 := Tryd.sizeOf125
  v212 := Tryd.zeroValue125
  g17 := by kernel_rfl
  i0 := by kernel_rfl
  i3 := by kernel_rfl
  i4 := by kernel_rfl
  i5 := by kernel_rfl
  i9 := by kernel_rfl
  i46 := by kernel_rfl
  i53 := by kernel_rfl
  i212 := by kernel_rfl
  m17 := by kernel_rfl }
open Go.Lib in
/-- internal/strconv.numDigits, at a d that is not 0: THE NUMBER OF d's DECIMAL DIGITS. The world is as it was. (LAID: no walk: one application.) -/
theorem Tryd.internal_strconv_numDigits (u : Nat) (h1 : 1 ≤ u) (h2 : u < 18446744073709551616) (w : World) (htab : Lib.TabIs Tryd.prog w "internal/strconv.uint64pow10" .u64 Lib.pow10Tab) :
    Calls Tryd.prog 94 #[.int .u64 u] w fun e w' => e = .returned (.int .i64 (Lib.nDigits u)) ∧ w' = w := Any.internal_strconv_numDigits Tryd.laysM284 u h1 h2 w htab
def Tryd.lays285_ren : Go.Shelf.Ren := ⟨fun | 285 => 95 | n => n, fun | 37 => 63 | 53 => 65 | 3 => 3 | 4 => 4 | 51 => 43 | 9 => 9 | 5 => 5 | 0 => 0 | n => n, fun | n => n⟩
theorem Tryd.lays285 : Go.Proofs.Lays.n285 Tryd.prog Tryd.lays285_ren := {
  mixed := by kernel_rfl
  f285 := Tryd.func95.trans (congrArg some (by kernel_rfl))
  t0 := Tryd.underlying0
  a0 := Tryd.isAgg0
  z0 := Tryd.sizeOf0
  v0 := Tryd.zeroValue0
  t3 := Tryd.underlying3
  a3 := Tryd.isAgg3
  z3 := Tryd.sizeOf3
  v3 := Tryd.zeroValue3
  t4 := Tryd.underlying4
  a4 := Tryd.isAgg4
  z4 := Tryd.sizeOf4
  v4 := Tryd.zeroValue4
  t5 := Tryd.underlying5
  a5 := Tryd.isAgg5
  z5 := Tryd.sizeOf5
  v5 := Tryd.zeroValue5
  t9 := Tryd.underlying9
  a9 := Tryd.isAgg9
  z9 := Tryd.sizeOf9
  v9 := Tryd.zeroValue9
  t37 := Tryd.underlying63
  a37 := Tryd.isAgg63
  z37 := Tryd.sizeOf63
  v37 := Tryd.zeroValue63
  t51 := Tryd.underlying43
  a51 := Tryd.isAgg43
  z51 := Tryd.sizeOf43
  v51 := Tryd.zeroValue43
  t53 := Tryd.underlying65
  a53 := Tryd.isAgg65
  z53 := Tryd.sizeOf65
  v53 := Tryd.zeroValue65 }
open Go.RowKit Go.Sort Go.Lib in
/-- internal/strconv.formatBase10: "formatBase10 formats the decimal representation of u into a. The caller is responsible for ensuring that a is big enough to hold u. If a is too big, leading zeros will be filled in as needed.": THE ROW HOLDS u's DIGITS ('FmtInv .. 0 ..': every place t holds 'dg u (len - 1 - t)'); all else is as it was but for the count of draws. (LAID: no walk: one application.) -/
theorem Tryd.internal_strconv_formatBase10 (blk off cap : Nat) (u : Nat) (d : Array UInt8) (w : World) (hH : Holds (fun (b : UInt8) => Value.int .u8 (b.toNat : Int)) w blk off d) (hu : u < 10 ^ d.size) (hu64 : u < 18446744073709551616) (hsz : d.size < 4611686018427387904) :
    Calls Tryd.prog 95 #[.slice (some ⟨blk, off, none⟩) d.size cap, .int .u64 u] w fun e w' =>
      e = .returned (.tuple #[]) ∧ ∃ (n v' : Nat) (dk : Array UInt8), w' = (putRow (fun (b : UInt8) => Value.int .u8 (b.toNat : Int)) w blk off dk).drewN n ∧ FmtInv d.size u 0 v' dk := Any.internal_strconv_formatBase10 Tryd.lays285 blk off cap u d w hH hu hu64 hsz
end Go.Proofs
namespace Go.Proofs.YtmjmcinnbmjpdaaDoor
open Go.RowKit Go.Sort Go.Lib
theorem holds_zero20 (w : World) (T : TypeId) (nd : Nat) (hs : nd ≤ 20) : Holds (fun (b : UInt8) => Value.int .u8 (b.toNat : Int)) (w.alloc (.cells Lib.zeros24 T)) w.heap.size 0 (Array.replicate nd (0 : UInt8)) := fun j hj => by
  rw [Array.size_replicate] at hj
  rw [World.cell?_alloc_new, Nat.zero_add, Lib.zeros24_at _ (by omega), getElem!_pos _ j (by rw [Array.size_replicate]; exact hj)]
  simp
abbrev TabP (w : World) : Prop := Lib.TabIs Tryd.prog w "internal/strconv.uint64pow10" .u64 Lib.pow10Tab
theorem ext_grow (w : World) (k : Nat) (os : Array Obj) : Ext w (grow (w.drewN k) os) :=
  ⟨rfl, rfl, rfl, by simp [grow, World.drewN], fun i hi => heap_grow_old (w.drewN k) os hi⟩
section
variable {w : World}
set_option maxHeartbeats 6400000 in
set_option maxRecDepth 100000 in
theorem fmt_uint (u : Nat) (hu64 : u < 18446744073709551616) (htab : TabP w) :
    Calls Tryd.prog 81 #[.int .u64 (u : Int), .int .i64 10] w fun e w' => e = .returned (.string ⟨(Lib.decDigits u).toArray⟩) ∧ Ext w w' := by
  by_cases hs : u < 100
  · have t1 : decide ((u : Int) < 100) = true := decide_eq_true (by omega)
    have t2 : decide (u < 100) = true := decide_eq_true (by omega)
    go_enter Tryd.func81, Tryd.ntmps81
    go_wp2_with (go_at_call 93; refine (Tryd.internal_strconv_small u hs _).mono ?_; rintro e w' ⟨rfl, rfl⟩)
    go_ret
    exact ⟨rfl, Ext.refl _⟩
  · have t1 : decide ((u : Int) < 100) = false := decide_eq_false (by omega)
    have t2 : decide (u < 100) = false := decide_eq_false (by omega)
    have hu1 : 1 ≤ u := by omega
    have hnd20 : Lib.nDigits u ≤ 20 := by have := Lib.numDigits_eq u hu1 hu64; split at this <;> omega
    have hal : Tryd.prog.arrayLen 114 = 24 := by kernel_rfl
    have hsl : ∀ W, (Instr.sliceAt 114 (.pointer (some ⟨w.heap.size, 0, none⟩)) none (some (.int .i64 (Lib.nDigits u : Int))) none).run Tryd.prog W = .ok (.slice (some ⟨w.heap.size, 0, none⟩) (Lib.nDigits u) 24) W := fun W => by
      rw [run_sliceAt_array_h W 114 ⟨w.heap.size, 0, none⟩ (by kernel_rfl) .i64 (Lib.nDigits u : Int) (by omega) (by rw [hal]; omega)]
      go_simp
    have hH0 := holds_zero20 w 114 (Lib.nDigits u) hnd20
    have hfmt := Tryd.internal_strconv_formatBase10 w.heap.size 0 24 u (Array.replicate (Lib.nDigits u) 0) (w.alloc (.cells Lib.zeros24 114)) hH0 (by rw [Array.size_replicate]; exact Lib.lt_pow_nDigits u) hu64 (by rw [Array.size_replicate]; omega)
    rw [Array.size_replicate] at hfmt
    have HH0 := Lib.hid hH0
    clear hH0 hal
    go_enter Tryd.func81, Tryd.ntmps81
    go_wp2_with (go_at_call 94; refine (Tryd.internal_strconv_numDigits u hu1 hu64 _ (Lib.tabIs_alloc htab _)).mono ?_; rintro e w' ⟨rfl, rfl⟩)
    refine hfmt.mono ?_
    rintro e w' ⟨rfl, k, v', dk, rfl, hF⟩
    have hcv : (convert 63 9 (.slice (some ⟨w.heap.size, 0, none⟩) (Lib.nDigits u) 24)).run Tryd.prog ((putRow (fun (b : UInt8) => Value.int .u8 (b.toNat : Int)) (w.alloc (.cells Lib.zeros24 114)) w.heap.size 0 dk).drewN k) = .ok (.string ⟨(Lib.decDigits u).toArray⟩) ((putRow (fun (b : UInt8) => Value.int .u8 (b.toNat : Int)) (w.alloc (.cells Lib.zeros24 114)) w.heap.size 0 dk).drewN k) := by
      have h := run_convert_bytes_back (P := Tryd.prog) ((putRow (fun (b : UInt8) => Value.int .u8 (b.toNat : Int)) (w.alloc (.cells Lib.zeros24 114)) w.heap.size 0 dk).drewN k) 63 9 5 ⟨w.heap.size, 0, none⟩ 24 (Lib.decDigits u) Tryd.underlying63 Tryd.underlying5 Tryd.underlying9 (fun j hj => by
        rw [Lib.row_is_numeral hF j hj, Lib.add_plain, World.cell?_drewN]
        exact cell?_putRow (fun (b : UInt8) => Value.int .u8 (b.toNat : Int)) _ w.heap.size 0 _ dk HH0.out (by rw [hF.size, Array.size_replicate]) j (by rw [hF.size]; rw [Lib.decDigits_length] at hj; exact hj))
      rw [Lib.decDigits_length] at h
      exact h
    go_wp2
    go_ret
    refine ⟨rfl, ?_⟩
    rw [alloc_eq_grow]
    obtain ⟨os', _, e⟩ := putRow_grow_new (fun (b : UInt8) => Value.int .u8 (b.toNat : Int)) w #[.cells Lib.zeros24 114] w.heap.size 0 dk (Nat.le_refl _)
    rw [e]
    exact ext_grow w k os'
theorem fmt_uint' (u : Nat) (hu64 : u < 18446744073709551616) (htab : TabP w) :
    Calls Tryd.prog 60 #[.int .u64 (u : Int), .int .i64 10] w fun e w' => e = .returned (.string ⟨(Lib.decDigits u).toArray⟩) ∧ Ext w w' := by
  go_enter Tryd.func60, Tryd.ntmps60
  go_wp2_with (go_at_call 81; refine (fmt_uint u hu64 htab).mono ?_; rintro e w' ⟨rfl, hx⟩)
  go_ret
  exact ⟨rfl, hx⟩
end
end Go.Proofs.YtmjmcinnbmjpdaaDoor
namespace Go.Proofs.YtmjmcinnbmjpdaaDoor
open Go.RowKit
/-- multiply is right where the two lengths together are at most L. -/
def MultiplyOK (L : Nat) : Prop := ∀ (A B : Option Addr) (c d n m : Nat) (xs ys : List Nat) (w : World), xs.length = n → ys.length = m → Rd w A xs → Rd w B ys → n + m ≤ L → (min n m < 64 ∨ (n = m ∧ 0 < val xs ∧ 0 < val ys ∧ n ≤ c ∧ c ≤ maxLen ∧ m ≤ d ∧ d ≤ maxLen)) →
    Calls Tryd.prog 61 #[.slice A n c, .slice B m d] w (RetN (fun zs => val zs = val xs * val ys ∧ Nrm zs ∧ zs.length ≤ xs.length + ys.length) w)
theorem multiply_127 : MultiplyOK 127 := fun _ _ _ _ _ _ _ _ _ hn hm hx hy h _ => int_multiply_s hn hm hx hy (by omega) (by omega)
theorem sq_side {zs : List Nat} {c : Nat} (hn : Nrm zs) (hc : zs.length ≤ c) (hcm : c ≤ maxLen) : min zs.length zs.length < 64 ∨ (zs.length = zs.length ∧ 0 < val zs ∧ 0 < val zs ∧ zs.length ≤ c ∧ c ≤ maxLen ∧ zs.length ≤ c ∧ c ≤ maxLen) := by
  by_cases h0 : zs = []
  · left; subst h0; simp
  · right
    have h1 : val zs ≠ 0 := fun h => h0 (hn.zero.1 h)
    exact ⟨rfl, by omega, by omega, hc, hcm, hc, hcm⟩
theorem bl_lt (k : Nat) (hk : k < 18446744073709551616) : k < 2 ^ Lib.bitLen k := by
  have key : ∀ (f x : Nat), x < 2 ^ f → x < 2 ^ Lib.bitLenAux f x := by
    intro f
    induction f with
    | zero => intro x hx; simpa [Lib.bitLenAux] using hx
    | succ f ih =>
      intro x hx
      unfold Lib.bitLenAux
      split
      · rename_i h0; subst h0; simp
      · have := ih (x / 2) (by rw [Nat.pow_succ] at hx; omega)
        rw [Nat.add_comm, Nat.pow_succ]
        omega
  exact key 64 k hk
theorem and_one {a : Nat} (ha : a < 9223372036854775808) : bits .and .i64 (a : Int) 1 = ((a % 2 : Nat) : Int) := by
  have e : BitVec.ofInt 64 (a : Int) = BitVec.ofNat 64 a := by rw [BitVec.ofInt_natCast]
  have h : a % 18446744073709551616 = a := Nat.mod_eq_of_lt (by omega)
  show IntKind.i64.wrap ((BitVec.ofInt 64 (a : Int) &&& BitVec.ofInt 64 1).toNat : Int) = _
  rw [e, BitVec.toNat_and, BitVec.toNat_ofNat]
  have e1 : (BitVec.ofInt 64 1).toNat = 1 := by decide
  rw [e1, show (2 : Nat) ^ 64 = 18446744073709551616 from rfl, h, Nat.and_one_is_mod]
  exact IntWalk.i64_in _ (by omega)
theorem bit_int (k i : Nat) : (k : Int) / 2 ^ i = ((k / 2 ^ i : Nat) : Int) := by
  rw [Int.natCast_ediv, Int.natCast_pow]; rfl
theorem bit_yes {k i : Nat} (hk : k ≤ 4096) (h : k / 2 ^ i % 2 = 1) : (bits BinOp.and IntKind.i64 ((k : Int) / 2 ^ i) 1 == 1) = true := by
  have := Nat.div_le_self k (2 ^ i)
  rw [bit_int, and_one (by omega), h]; rfl
theorem bit_no {k i : Nat} (hk : k ≤ 4096) (h : ¬ k / 2 ^ i % 2 = 1) : (bits BinOp.and IntKind.i64 ((k : Int) / 2 ^ i) 1 == 1) = false := by
  have := Nat.div_le_self k (2 ^ i)
  have h0 : k / 2 ^ i % 2 = 0 := by omega
  rw [bit_int, and_one (by omega), h0]; rfl
theorem pow_even (x f : Nat) : x ^ f * x ^ f = x ^ (2 * f) := by rw [← Nat.pow_add, Nat.two_mul]
theorem pow_odd (x f : Nat) : x ^ f * x ^ f * x = x ^ (2 * f + 1) := by rw [pow_even, Nat.pow_succ]
theorem half_step (k i : Nat) : k / 2 ^ (i + 1) = k / 2 ^ i / 2 := by rw [Nat.pow_succ, Nat.div_div_eq_div_mul]
theorem pow_len {xs zs : List Nat} {e : Nat} (hx : W32 xs) (hn : Nrm zs) (h : val zs = val xs ^ e) : zs.length ≤ max 1 (e * xs.length) := by
  rcases Nat.lt_or_ge (max 1 (e * xs.length)) zs.length with hl | hl
  · exfalso
    have hne : zs ≠ [] := by rintro rfl; simp at hl
    have h1 := hn.ge hne
    rw [h] at h1
    have h2 : val xs ^ e ≤ (4294967296 ^ xs.length) ^ e := Nat.pow_le_pow_left (Nat.le_of_lt (val_lt hx)) e
    rw [← Nat.pow_mul] at h2
    rcases Nat.eq_zero_or_pos e with he | he
    · subst he
      have h3 : 4294967296 ^ 1 ≤ 4294967296 ^ (zs.length - 1) := Nat.pow_le_pow_right (by omega) (by omega)
      simp only [Nat.pow_zero] at h1
      omega
    · have h4 : val xs ^ e < (4294967296 ^ xs.length) ^ e := Nat.pow_lt_pow_left (val_lt hx) (by omega)
      rw [← Nat.pow_mul] at h4
      have h5 : 4294967296 ^ (xs.length * e) ≤ 4294967296 ^ (zs.length - 1) := Nat.pow_le_pow_right (by omega) (by rw [Nat.mul_comm]; omega)
      omega
  · exact hl
section
variable {A B : Option Addr} {c d n m L : Nat} {xs ys : List Nat} {w : World} {s t : Bool}
set_option maxHeartbeats 1000000 in
theorem int_power {k : Nat} (hM : MultiplyOK L) (hn : xs.length = n) (hx : Rd w A xs) (hk : k ≤ 4096) (hL : k * n + 2 ≤ L) (hn64 : n < 64) :
    Calls Tryd.prog 39 #[.slice A n c, .int .i64 (k : Int)] w (RetL (fun zs => val zs = val xs ^ k ∧ Nrm zs ∧ zs.length ≤ max 1 (k * xs.length)) w) := by
  have Hn := Lib.hid hn
  have HM := Lib.hid hM
  have HL := Lib.hid hL
  clear hn hM hL
  go_enter Tryd.func39, Tryd.ntmps39
  go_wp2_with fail
  refine (lenU _ _ (by omega) (by omega)).mono ?_
  rintro e w' ⟨rfl, rfl⟩
  rw [Int.toNat_natCast]
  have hb64 := Lib.bitLen_le k 64 (by omega) (by omega)
  have hz0 : k / 2 ^ Lib.bitLen k = 0 := Nat.div_eq_of_lt (bl_lt k (by omega))
  have Hz0 := Lib.hid hz0
  clear hz0
  go_wp2_with fail
  go_loopw [5, 6] (fun p i wr => ∃ (j : Nat) (A' : Option Addr) (c' : Nat) (zs : List Nat), j ≤ Lib.bitLen k ∧ i = .int .i64 ((j : Int) - 1) ∧ p = .slice A' zs.length c' ∧ zs.length ≤ c' ∧ c' ≤ maxLen ∧ Rd wr A' zs ∧ Nrm zs ∧ val zs = val xs ^ (k / 2 ^ j) ∧ Ext w wr) (fun _ i _ => (intOf i + 1).toNat)
  case atStart =>
    exact ⟨Lib.bitLen k, _, _, [1], Nat.le_refl _, rfl, rfl, Nat.le_refl _, by simp [maxLen], (BlkN.lit w [1] #[.int .u32 1] rfl).rd0 (W32.one (by omega)), Nrm.one (by omega), by rw [Hz0.out]; rfl, (Ext.refl w).alloc _⟩
  case round =>
    obtain ⟨j, A', c', zs, hj, rfl, rfl, hc, hcm, hr, hnr, hv, hext⟩ := hrel
    have Hv := Lib.hid hv
    clear hv
    by_cases hj0 : j = 0
    · subst hj0
      go_wp2_with fail
      go_ret
      have hv := Hv.out
      rw [Nat.pow_zero, Nat.div_one] at hv
      exact ⟨A', c', zs, rfl, hr, hc, hcm, ⟨hv, hnr, pow_len hx.1 hnr hv⟩, hext⟩
    · obtain ⟨i, rfl⟩ : ∃ i, j = i + 1 := ⟨j - 1, by omega⟩
      rw [show (((i + 1 : Nat) : Int) - 1) = (i : Int) by omega]
      have hlen := pow_len hx.1 hnr Hv.out
      have hstep := half_step k i
      have hki := Nat.div_le_self k (2 ^ i)
      have hsz : 2 * (k / 2 ^ (i + 1) * xs.length) ≤ k * n ∧ (k / 2 ^ i % 2 = 1 → 2 * (k / 2 ^ (i + 1) * xs.length) + n ≤ k * n) := by
        rw [Hn.out]
        generalize k / 2 ^ i = e at *
        generalize k / 2 ^ (i + 1) = f at *
        have h1 : 2 * (f * n) = (2 * f) * n := by rw [Nat.mul_assoc]
        rw [h1]
        refine ⟨Nat.mul_le_mul_right _ (by omega), fun h => ?_⟩
        have : (2 * f + 1) * n ≤ k * n := Nat.mul_le_mul_right _ (by omega)
        rw [Nat.add_mul, Nat.one_mul] at this
        exact this
      have Hsz := Lib.hid hsz
      have Hstep := Lib.hid hstep
      clear hsz hstep
      by_cases hbit : k / 2 ^ i % 2 = 1
      · have ht := bit_yes hk hbit
        have Hbit := Lib.hid hbit
        clear hbit
        go_wp2_with fail
        refine (HM.out A' A' c' c' _ _ zs zs _ rfl rfl hr hr (by have := Hsz.out.1; have := HL.out; omega) (sq_side hnr hc hcm)).mono ?_
        rintro e w2 ⟨A2, c2, z2, rfl, ho2, hc2, hm2, ⟨hv2, hn2, hl2⟩, hext2⟩
        have Hv2 := Lib.hid hv2
        clear hv2
        go_wp2_with fail
        refine (HM.out A2 A c2 c _ _ z2 xs _ rfl Hn.out ho2.rd ((hx.ext hext).ext hext2) (by have := Hsz.out.2 Hbit.out; have := HL.out; omega) (Or.inl (by omega))).mono ?_
        rintro e w3 ⟨A3, c3, z3, rfl, ho3, hc3, hm3, ⟨hv3, hn3, hl3⟩, hext3⟩
        have Hv3 := Lib.hid hv3
        clear hv3
        go_wp2_with fail
        go_roundw
        case rel =>
          refine ⟨i, A3, c3, z3, by omega, rfl, rfl, hc3, hm3, ho3.rd, hn3, ?_, (hext.trans hext2).trans hext3⟩
          have e : k / 2 ^ i = 2 * (k / 2 ^ (i + 1)) + 1 := by have := Hstep.out; have := Hbit.out; omega
          rw [Hv3.out, Hv2.out, Hv.out, e]
          exact pow_odd _ _
        case measure => simp [intOf]
      · have ht := bit_no hk hbit
        have Hbit := Lib.hid hbit
        clear hbit
        go_wp2_with fail
        refine (HM.out A' A' c' c' _ _ zs zs _ rfl rfl hr hr (by have := Hsz.out.1; have := HL.out; omega) (sq_side hnr hc hcm)).mono ?_
        rintro e w2 ⟨A2, c2, z2, rfl, ho2, hc2, hm2, ⟨hv2, hn2, hl2⟩, hext2⟩
        have Hv2 := Lib.hid hv2
        clear hv2
        go_wp2_with fail
        go_roundw
        case rel =>
          refine ⟨i, A2, c2, z2, by omega, rfl, rfl, hc2, hm2, ho2.rd, hn2, ?_, hext.trans hext2⟩
          have e : k / 2 ^ i = 2 * (k / 2 ^ (i + 1)) := by have := Hstep.out; have := Hbit.out; omega
          rw [Hv2.out, Hv.out, e]
          exact pow_even _ _
        case measure => simp [intOf]
end
end Go.Proofs.YtmjmcinnbmjpdaaDoor
