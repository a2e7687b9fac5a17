/- Walks and laws, a part. -/
import Derived.Test.YtiioodgpkdbndaaGreatDoorM7
import Derived.Test.YtiioodgpkdbndaaGreatDoorM3
import Derived.Test.YtiioodgpkdbndaaGreatDoorM0
import Derived.Test.YtiioodgpkdbndaaGreatDoorM2
import Derived.Test.YtiioodgpkdbndaaGreatDoorM4
import Derived.Test.YtiioodgpkdbndaaGreatDoorM5
import Derived.Test.YtiioodgpkdbndaaGreatDoorM1
import Derived.Shelf.Strings.Trim
import Derived.Shelf.Strconv.Itoa0
import Derived.Shelf.Strconv.Itoa1
import Derived.Shelf.LaysM
import Derived.Shelf.Strconv.Itoa2
import Derived.Shelf.Strings.Search2
import Derived.Shelf.Strings.Repeat
import Derived.Test.YtiioodgpkdbndaaGreatDoorProg
import Derived.Lib.ItoaMem
import Derived.Laws.BytesArg
import Derived.Test.YtiioodgpkdbndaaGreatDoorRows
import Derived.ProofKit
import Derived.Lib.SmallJoins
namespace Go.Proofs.YtiioodgpkdbndaaGreatDoor
open Go.RowKit
attribute [local go_sem ↓] Go.wp_at_zero Go.wp_at_succ
section
variable {A B Q : Option Addr} {c d n m q : Nat} {xs ys : List Nat} {w : World}
set_option maxHeartbeats 4000000 in
theorem digits_0 {w0 : World} {text : Value} {tn : Nat} {cs : List Value} (he : Ext w0 w) (hown : w.ownsRow w0.heap.size 5 1 text tn cs) (htn : tn ≤ 10000) (hn : xs.length = n) (hx : Rd w A xs) (h1 : n ≤ 1000) :
    Calls Tryz.prog 138 #[text, .slice A n c, .slice Q 0 q] w fun e w' => ∃ text' D, e = .returned text' ∧ w'.ownsRow w0.heap.size 5 1 text' (tn + 144) (cs ++ D.map Bd) ∧ D = pd 144 (val xs) ∧ Ext w0 w' := by
  go_enter Tryz.func138, Tryz.ntmps138
  have Hown := Lib.hid hown
  clear hown
  go_wp2_with (go_at_call 166; refine (int_appendBlock he Hown.out htn hn hx h1).mono ?_; rintro e w' ⟨text', rfl, ho, hx'⟩)
  go_ret
  exact ⟨_, _, rfl, ho, rfl, hx'⟩
set_option maxHeartbeats 4000000 in
theorem digits_1 {T : Nat} (hT : T = 10 ^ 144) (hn : xs.length = n) (hx : Rd w A xs) (hc : n ≤ c) (hcm : c ≤ maxLen) (h1 : n ≤ 1000) (hnx : Nrm xs) {b : Nat} (hcell : w.cell? ⟨b, 0, none⟩ = some (.slice B m d)) (hm : ys.length = m) (hy : Rd w B ys) (hd : m ≤ d) (hdm : d ≤ maxLen) (hny : Nrm ys) (h2 : m ≤ 1000) (h0 : 0 < m) (hv : val ys = T) :
    Calls Tryz.prog 138 #[.slice none 0 0, .slice A n c, .slice (some ⟨b, 0, none⟩) 1 q] w fun e w' => ∃ text' D, e = .returned text' ∧ w'.ownsRow w.heap.size 5 1 text' 288 (D.map Bd) ∧ D = pd (144 + 144) (val xs) ∧ Ext w w' := by
  go_enter Tryz.func138, Tryz.ntmps138
  have Hv := Lib.hid hv
  have HT := Lib.hid hT
  clear hv hT
  go_wp2_with fail
  refine (divide_ok A B c d n m xs ys w hn hm hx hy hc hcm hd hdm hnx hny h0 (by omega) (by omega)).mono ?_
  rintro e W1 ⟨Aq, cq, qs, Ar, cr, rs, rfl, hoq, hor, hcq, hmq, hcr, hmr, ⟨hq, hr, hnq, hnr, hlq, hlr⟩, ext1⟩
  have Hq := Lib.hid hq
  have Hr := Lib.hid hr
  clear hq hr
  go_wp2_with fail
  refine (digits_0 (Ext.refl W1) (owns_nil W1 W1.heap.size 5 1) (by omega) rfl hoq.rd (by omega)).mono ?_
  rintro e W2 ⟨text2, D1, rfl, ho2, hD1, ext2⟩
  have HD1 := Lib.hid hD1
  have ho2' := owns_base ho2 ext1.size
  have HO := Lib.hid ho2'
  clear hD1 ho2 ho2'
  go_wp2_with fail
  refine (digits_0 (ext1.trans ext2) HO.out (by omega) rfl (hor.rd.ext ext2) (by omega)).mono ?_
  rintro e W3 ⟨text3, D2, rfl, ho3, hD2, ext3⟩
  go_wp2
  go_ret
  refine ⟨text3, D1 ++ D2, rfl, by rw [List.map_append]; exact ho3, ?_, ext3⟩
  rw [HD1.out, hD2, ← pd_add 144 (val qs) 144 (val rs) ?_]
  · rw [← HT.out, Hq.out, Hr.out, Hv.out, Nat.mul_comm, Nat.div_add_mod]
  · rw [Hr.out, Hv.out, ← HT.out]
    refine Nat.mod_lt _ ?_
    have := hny.ge (by rintro rfl; simp at hm; omega)
    have h5 : 0 < 4294967296 ^ (ys.length - 1) := Nat.pow_pos (by omega)
    rw [Hv.out] at this
    omega
end
end Go.Proofs.YtiioodgpkdbndaaGreatDoor
namespace Go.Proofs
open Go.Shelf
def Tryz.lays161_ren : Go.Shelf.Ren := ⟨fun | 161 => 137 | 231 => 162 | 227 => 163 | 233 => 164 | 235 => 165 | 228 => 182 | 197 => 183 | 151 => 184 | 260 => 198 | 152 => 199 | 137 => 205 | 119 => 206 | 224 => 187 | 225 => 186 | 217 => 185 | 266 => 200 | n => n, fun | 9 => 9 | 4 => 4 | 3 => 3 | 5 => 5 | 117 => 146 | 116 => 145 | 0 => 0 | 124 => 149 | 105 => 172 | 21 => 21 | 119 => 191 | 46 => 100 | 139 => 194 | 138 => 193 | n => n, fun | 3 => 3 | 4 => 4 | n => n⟩
theorem Tryz.lays161 : Go.Proofs.Lays.n161 Tryz.prog Tryz.lays161_ren := {
  mixed := by kernel_rfl
  f119 := Tryz.func206.trans (congrArg some (by kernel_rfl))
  f137 := Tryz.func205.trans (congrArg some (by kernel_rfl))
  f151 := Tryz.func184.trans (congrArg some (by kernel_rfl))
  f152 := Tryz.func199.trans (congrArg some (by kernel_rfl))
  f161 := Tryz.func137.trans (congrArg some (by kernel_rfl))
  f197 := Tryz.func183.trans (congrArg some (by kernel_rfl))
  f217 := Tryz.func185.trans (congrArg some (by kernel_rfl))
  f224 := Tryz.func187.trans (congrArg some (by kernel_rfl))
  f225 := Tryz.func186.trans (congrArg some (by kernel_rfl))
  f227 := Tryz.func163.trans (congrArg some (by kernel_rfl))
  f228 := Tryz.func182.trans (congrArg some (by kernel_rfl))
  f231 := Tryz.func162.trans (congrArg some (by kernel_rfl))
  f233 := Tryz.func164.trans (congrArg some (by kernel_rfl))
  f235 := Tryz.func165.trans (congrArg some (by kernel_rfl))
  f260 := Tryz.func198.trans (congrArg some (by kernel_rfl))
  f266 := Tryz.func200.trans (congrArg some (by kernel_rfl))
  t0 := Tryz.underlying0
  a0 := Tryz.isAgg0
  z0 := Tryz.sizeOf0
  v0 := Tryz.zeroValue0
  t3 := Tryz.underlying3
  a3 := Tryz.isAgg3
  z3 := Tryz.sizeOf3
  v3 := Tryz.zeroValue3
  t4 := Tryz.underlying4
  a4 := Tryz.isAgg4
  z4 := Tryz.sizeOf4
  v4 := Tryz.zeroValue4
  t5 := Tryz.underlying5
  a5 := Tryz.isAgg5
  z5 := Tryz.sizeOf5
  v5 := Tryz.zeroValue5
  t9 := Tryz.underlying9
  a9 := Tryz.isAgg9
  z9 := Tryz.sizeOf9
  v9 := Tryz.zeroValue9
  t21 := Tryz.underlying21
  a21 := Tryz.isAgg21
  z21 := Tryz.sizeOf21
  v21 := Tryz.zeroValue21
  t46 := Tryz.underlying100
  a46 := Tryz.isAgg100
  z46 := Tryz.sizeOf100
  v46 := Tryz.zeroValue100
  t105 := Tryz.underlying172
  a105 := Tryz.isAgg172
  z105 := Tryz.sizeOf172
  v105 := Tryz.zeroValue172
  t116 := Tryz.underlying145
  a116 := Tryz.isAgg145
  z116 := Tryz.sizeOf145
  t117 := Tryz.underlying146
  a117 := Tryz.isAgg146
  z117 := Tryz.sizeOf146
  v117 := Tryz.zeroValue146
  t119 := Tryz.underlying191
  a119 := Tryz.isAgg191
  z119 := Tryz.sizeOf191
  t124 := Tryz.underlying149
  a124 := Tryz.isAgg149
  z124 := Tryz.sizeOf149
  v124 := Tryz.zeroValue149
  t138 := Tryz.underlying193
  a138 := Tryz.isAgg193
  z138 := Tryz.sizeOf193
  v138 := Tryz.zeroValue193
  t139 := Tryz.underlying194
  a139 := Tryz.isAgg194
  z139 := Tryz.sizeOf194
  v139 := Tryz.zeroValue194
  g3 := by kernel_rfl
  g4 := by kernel_rfl }
open Go.RowKit in
/-- strings.TrimLeft: "TrimLeft returns a slice of the string s with all leading Unicode code points contained in cutset removed.": AT A cutset OF ONE ASCII BYTE. The world is as it was. (LAID: no walk: one application.) -/
theorem Tryz.strings_TrimLeft_one (s : ByteArray) (c : UInt8) (hc : c.toNat < 128) (w : World) :
    Calls Tryz.prog 137 #[.string s, .string ⟨#[c]⟩] w fun e w' => e = .returned (.string ⟨(Lib.trimLeftB s.data.toList c).toArray⟩) ∧ w' = w := Any.strings_TrimLeft_one Tryz.lays161 s c hc w
def Tryz.lays283_ren : Go.Shelf.Ren := ⟨fun | 283 => 178 | n => n, fun | 3 => 3 | 9 => 9 | 4 => 4 | n => n, fun | n => n⟩
theorem Tryz.lays283 : Go.Proofs.Lays.n283 Tryz.prog Tryz.lays283_ren := {
  mixed := by kernel_rfl
  f283 := Tryz.func178.trans (congrArg some (by kernel_rfl))
  t3 := Tryz.underlying3
  a3 := Tryz.isAgg3
  z3 := Tryz.sizeOf3
  v3 := Tryz.zeroValue3
  t4 := Tryz.underlying4
  a4 := Tryz.isAgg4
  z4 := Tryz.sizeOf4
  v4 := Tryz.zeroValue4
  t9 := Tryz.underlying9
  a9 := Tryz.isAgg9
  z9 := Tryz.sizeOf9
  v9 := Tryz.zeroValue9 }
open Go.Lib in
/-- internal/strconv.small: "small returns the string for an i with 0 <= i < nSmalls.": i's decimal numeral. The world is as it was. (LAID: no walk: one application.) -/
theorem Tryz.internal_strconv_small (i : Nat) (h : i < 100) (w : World) :
    Calls Tryz.prog 178 #[.int .i64 i] w fun e w' => e = .returned (.string ⟨(Lib.decDigits i).toArray⟩) ∧ w' = w := Any.internal_strconv_small Tryz.lays283 i h w
def Tryz.laysM284_ren : Go.Shelf.Ren := ⟨fun | 284 => 179 | 129 => 177 | 317 => 194 | 318 => 195 | n => n, fun | 53 => 73 | 3 => 3 | 212 => 184 | 0 => 0 | 4 => 4 | 46 => 100 | 5 => 5 | 9 => 9 | n => n, fun | 17 => 2 | n => n⟩
theorem Tryz.laysM284 : Go.Proofs.LaysM.n284 Tryz.prog Tryz.laysM284_ren := {
  mixed := by kernel_rfl
  f129 := Tryz.func177.trans (congrArg some (by kernel_rfl))
  f284 := Tryz.func179.trans (congrArg some (by kernel_rfl))
  f317 := Tryz.func194.trans (congrArg some (by kernel_rfl))
  f318 := Tryz.func195.trans (congrArg some (by kernel_rfl))
  t0 := Tryz.underlying0
  a0 := Tryz.isAgg0
  z0 := Tryz.sizeOf0
  v0 := Tryz.zeroValue0
  t3 := Tryz.underlying3
  a3 := Tryz.isAgg3
  z3 := Tryz.sizeOf3
  v3 := Tryz.zeroValue3
  t4 := Tryz.underlying4
  a4 := Tryz.isAgg4
  z4 := Tryz.sizeOf4
  v4 := Tryz.zeroValue4
  t5 := Tryz.underlying5
  a5 := Tryz.isAgg5
  z5 := Tryz.sizeOf5
  v5 := Tryz.zeroValue5
  t9 := Tryz.underlying9
  a9 := Tryz.isAgg9
  z9 := Tryz.sizeOf9
  v9 := Tryz.zeroValue9
  t46 := Tryz.underlying100
  a46 := Tryz.isAgg100
  z46 := Tryz.sizeOf100
  v46 := Tryz.zeroValue100
  t53 := Tryz.underlying73
  a53 := Tryz.isAgg73
  z53 := Tryz.sizeOf73
  v53 := Tryz.zeroValue73
  t212 := Tryz.underlying184
  a212 := Tryz.isAgg184
  z212 := Tryz.sizeOf184
  v212 := Tryz.zeroValue184
  g17 := by kernel_rfl
  i0 := by kernel_rfl
  i3 := by kernel_rfl
  i4 := by kernel_rfl
  i5 := by kernel_rfl
  i9 := by kernel_rfl
  i46 := by kernel_rfl
  i53 := by kernel_rfl
  i212 := by kernel_rfl
  m17 := by kernel_rfl }
open Go.Lib in
/-- internal/strconv.numDigits, at a d that is not 0: THE NUMBER OF d's DECIMAL DIGITS. The world is as it was. (LAID: no walk: one application.) -/
theorem Tryz.internal_strconv_numDigits (u : Nat) (h1 : 1 ≤ u) (h2 : u < 18446744073709551616) (w : World) (htab : Lib.TabIs Tryz.prog w "internal/strconv.uint64pow10" .u64 Lib.pow10Tab) :
    Calls Tryz.prog 179 #[.int .u64 u] w fun e w' => e = .returned (.int .i64 (Lib.nDigits u)) ∧ w' = w := Any.internal_strconv_numDigits Tryz.laysM284 u h1 h2 w htab
def Tryz.lays285_ren : Go.Shelf.Ren := ⟨fun | 285 => 180 | n => n, fun | 37 => 108 | 53 => 73 | 3 => 3 | 4 => 4 | 51 => 71 | 9 => 9 | 5 => 5 | 0 => 0 | n => n, fun | n => n⟩
theorem Tryz.lays285 : Go.Proofs.Lays.n285 Tryz.prog Tryz.lays285_ren := {
  mixed := by kernel_rfl
  f285 := Tryz.func180.trans (congrArg some (by kernel_rfl))
  t0 := Tryz.underlying0
  a0 := Tryz.isAgg0
  z0 := Tryz.sizeOf0
  v0 := Tryz.zeroValue0
  t3 := Tryz.underlying3
  a3 := Tryz.isAgg3
  z3 := Tryz.sizeOf3
  v3 := Tryz.zeroValue3
  t4 := Tryz.underlying4
  a4 := Tryz.isAgg4
  z4 := Tryz.sizeOf4
  v4 := Tryz.zeroValue4
  t5 := Tryz.underlying5
  a5 := Tryz.isAgg5
  z5 := Tryz.sizeOf5
  v5 := Tryz.zeroValue5
  t9 := Tryz.underlying9
  a9 := Tryz.isAgg9
  z9 := Tryz.sizeOf9
  v9 := Tryz.zeroValue9
  t37 := Tryz.underlying108
  a37 := Tryz.isAgg108
  z37 := Tryz.sizeOf108
  v37 := Tryz.zeroValue108
  t51 := Tryz.underlying71
  a51 := Tryz.isAgg71
  z51 := Tryz.sizeOf71
  v51 := Tryz.zeroValue71
  t53 := Tryz.underlying73
  a53 := Tryz.isAgg73
  z53 := Tryz.sizeOf73
  v53 := Tryz.zeroValue73 }
open Go.RowKit Go.Sort Go.Lib in
/-- internal/strconv.formatBase10: "formatBase10 formats the decimal representation of u into a. The caller is responsible for ensuring that a is big enough to hold u. If a is too big, leading zeros will be filled in as needed.": THE ROW HOLDS u's DIGITS ('FmtInv .. 0 ..': every place t holds 'dg u (len - 1 - t)'); all else is as it was but for the count of draws. (LAID: no walk: one application.) -/
theorem Tryz.internal_strconv_formatBase10 (blk off cap : Nat) (u : Nat) (d : Array UInt8) (w : World) (hH : Holds (fun (b : UInt8) => Value.int .u8 (b.toNat : Int)) w blk off d) (hu : u < 10 ^ d.size) (hu64 : u < 18446744073709551616) (hsz : d.size < 4611686018427387904) :
    Calls Tryz.prog 180 #[.slice (some ⟨blk, off, none⟩) d.size cap, .int .u64 u] w fun e w' =>
      e = .returned (.tuple #[]) ∧ ∃ (n v' : Nat) (dk : Array UInt8), w' = (putRow (fun (b : UInt8) => Value.int .u8 (b.toNat : Int)) w blk off dk).drewN n ∧ FmtInv d.size u 0 v' dk := Any.internal_strconv_formatBase10 Tryz.lays285 blk off cap u d w hH hu hu64 hsz
def Tryz.lays219_ren : Go.Shelf.Ren := ⟨fun | 219 => 167 | 217 => 185 | 225 => 186 | 224 => 187 | 267 => 188 | 266 => 200 | 314 => 201 | n => n, fun | 9 => 9 | 3 => 3 | 4 => 4 | 5 => 5 | 46 => 100 | 146 => 177 | 51 => 71 | n => n, fun | 1 => 1 | n => n⟩
theorem Tryz.lays219 : Go.Proofs.Lays.n219 Tryz.prog Tryz.lays219_ren := {
  mixed := by kernel_rfl
  f217 := Tryz.func185.trans (congrArg some (by kernel_rfl))
  f219 := Tryz.func167.trans (congrArg some (by kernel_rfl))
  f224 := Tryz.func187.trans (congrArg some (by kernel_rfl))
  f225 := Tryz.func186.trans (congrArg some (by kernel_rfl))
  f266 := Tryz.func200.trans (congrArg some (by kernel_rfl))
  f267 := Tryz.func188.trans (congrArg some (by kernel_rfl))
  f314 := Tryz.func201.trans (congrArg some (by kernel_rfl))
  t3 := Tryz.underlying3
  a3 := Tryz.isAgg3
  z3 := Tryz.sizeOf3
  v3 := Tryz.zeroValue3
  t4 := Tryz.underlying4
  a4 := Tryz.isAgg4
  z4 := Tryz.sizeOf4
  v4 := Tryz.zeroValue4
  t5 := Tryz.underlying5
  a5 := Tryz.isAgg5
  z5 := Tryz.sizeOf5
  v5 := Tryz.zeroValue5
  t9 := Tryz.underlying9
  a9 := Tryz.isAgg9
  z9 := Tryz.sizeOf9
  v9 := Tryz.zeroValue9
  t46 := Tryz.underlying100
  a46 := Tryz.isAgg100
  z46 := Tryz.sizeOf100
  v46 := Tryz.zeroValue100
  t51 := Tryz.underlying71
  a51 := Tryz.isAgg71
  z51 := Tryz.sizeOf71
  v51 := Tryz.zeroValue71
  t146 := Tryz.underlying177
  a146 := Tryz.isAgg177
  z146 := Tryz.sizeOf177
  v146 := Tryz.zeroValue177
  g1 := by kernel_rfl }
open Go.RowKit Go.Lib in
/-- internal/stringslite.Index (what strings.Index calls) AT A substr OF ONE BYTE c: IT RETURNS 'Lib.indexByte s c'; the world is as it was. (LAID: no walk: one application.) -/
theorem Tryz.stringslite_Index_one (s : ByteArray) (c : UInt8) (w : World) :
    Calls Tryz.prog 167 #[.string s, .string ⟨#[c]⟩] w fun e w' => e = .returned (.int .i64 (Lib.indexByte s.data.toList c)) ∧ w' = w := Any.stringslite_Index_one Tryz.lays219 s c w
open Go.RowKit Go.Lib in
def Tryz.lays105_ren : Go.Shelf.Ren := ⟨fun | 105 => 142 | 212 => 168 | 99 => 169 | 165 => 170 | 166 => 171 | 170 => 172 | 169 => 173 | 263 => 189 | 264 => 190 | 206 => 139 | 240 => 191 | 241 => 192 | 276 => 202 | 277 => 203 | n => n, fun | 9 => 9 | 3 => 3 | 4 => 4 | 20 => 20 | 0 => 0 | 46 => 100 | 109 => 152 | 5 => 5 | 72 => 156 | 76 => 160 | 51 => 71 | 146 => 177 | 53 => 73 | 148 => 179 | 70 => 154 | 37 => 108 | 75 => 159 | 127 => 181 | 164 => 188 | 80 => 163 | n => n, fun | n => n⟩
theorem Tryz.lays105 : Go.Proofs.Lays.n105 Tryz.prog Tryz.lays105_ren := {
  mixed := by kernel_rfl
  f99 := Tryz.func169.trans (congrArg some (by kernel_rfl))
  f105 := Tryz.func142.trans (congrArg some (by kernel_rfl))
  f165 := Tryz.func170.trans (congrArg some (by kernel_rfl))
  f166 := Tryz.func171.trans (congrArg some (by kernel_rfl))
  f169 := Tryz.func173.trans (congrArg some (by kernel_rfl))
  f170 := Tryz.func172.trans (congrArg some (by kernel_rfl))
  f206 := Tryz.func139.trans (congrArg some (by kernel_rfl))
  f212 := Tryz.func168.trans (congrArg some (by kernel_rfl))
  f240 := Tryz.func191.trans (congrArg some (by kernel_rfl))
  f241 := Tryz.func192.trans (congrArg some (by kernel_rfl))
  f263 := Tryz.func189.trans (congrArg some (by kernel_rfl))
  f264 := Tryz.func190.trans (congrArg some (by kernel_rfl))
  f276 := Tryz.func202.trans (congrArg some (by kernel_rfl))
  f277 := Tryz.func203.trans (congrArg some (by kernel_rfl))
  t0 := Tryz.underlying0
  a0 := Tryz.isAgg0
  z0 := Tryz.sizeOf0
  v0 := Tryz.zeroValue0
  t3 := Tryz.underlying3
  a3 := Tryz.isAgg3
  z3 := Tryz.sizeOf3
  v3 := Tryz.zeroValue3
  t4 := Tryz.underlying4
  a4 := Tryz.isAgg4
  z4 := Tryz.sizeOf4
  v4 := Tryz.zeroValue4
  t5 := Tryz.underlying5
  a5 := Tryz.isAgg5
  z5 := Tryz.sizeOf5
  v5 := Tryz.zeroValue5
  t9 := Tryz.underlying9
  a9 := Tryz.isAgg9
  z9 := Tryz.sizeOf9
  v9 := Tryz.zeroValue9
  t20 := Tryz.underlying20
  a20 := Tryz.isAgg20
  z20 := Tryz.sizeOf20
  v20 := Tryz.zeroValue20
  t37 := Tryz.underlying108
  a37 := Tryz.isAgg108
  z37 := Tryz.sizeOf108
  v37 := Tryz.zeroValue108
  t46 := Tryz.underlying100
  a46 := Tryz.isAgg100
  z46 := Tryz.sizeOf100
  v46 := Tryz.zeroValue100
  t51 := Tryz.underlying71
  a51 := Tryz.isAgg71
  z51 := Tryz.sizeOf71
  v51 := Tryz.zeroValue71
  t53 := Tryz.underlying73
  a53 := Tryz.isAgg73
  z53 := Tryz.sizeOf73
  v53 := Tryz.zeroValue73
  t70 := Tryz.underlying154
  a70 := Tryz.isAgg154
  z70 := Tryz.sizeOf154
  v70 := Tryz.zeroValue154
  t72 := Tryz.underlying156
  a72 := Tryz.isAgg156
  z72 := Tryz.sizeOf156
  v72 := Tryz.zeroValue156
  t75 := Tryz.underlying159
  a75 := Tryz.isAgg159
  z75 := Tryz.sizeOf159
  v75 := Tryz.zeroValue159
  t76 := Tryz.underlying160
  a76 := Tryz.isAgg160
  z76 := Tryz.sizeOf160
  v76 := Tryz.zeroValue160
  t109 := Tryz.underlying152
  a109 := Tryz.isAgg152
  z109 := Tryz.sizeOf152
  v109 := Tryz.zeroValue152
  t127 := Tryz.underlying181
  a127 := Tryz.isAgg181
  z127 := Tryz.sizeOf181
  v127 := Tryz.zeroValue181
  t146 := Tryz.underlying177
  a146 := Tryz.isAgg177
  z146 := Tryz.sizeOf177
  v146 := Tryz.zeroValue177
  t148 := Tryz.underlying179
  a148 := Tryz.isAgg179
  z148 := Tryz.sizeOf179
  v148 := Tryz.zeroValue179
  t164 := Tryz.underlying188
  a164 := Tryz.isAgg188
  z164 := Tryz.sizeOf188
  v164 := Tryz.zeroValue188 }
theorem Tryz.Builder_Extra_105 : Builder.Extra Tryz.prog Tryz.lays105_ren := {
  sizeBuilder := by kernel_rfl
  liesBuilder := by kernel_rfl
  t5 := Tryz.underlying5
  a5 := Tryz.isAgg5
  z5 := Tryz.sizeOf5
  v5 := Tryz.zeroValue5
  infoByte := by kernel_rfl
  cellsByte := by kernel_rfl
  sizeByte := by kernel_rfl
  neB5 := by decide }
open Go.RowKit Go.Lib in
open Go.RowKit Go.Lib in
open Go.RowKit Go.Lib in
open Go.RowKit Go.Lib in
open Go.RowKit Go.Lib in
open Go.RowKit Go.Lib in
open Go.RowKit Go.Lib in
/-- **strings.Repeat: count ≥ 0, the result within one allocation: count copies of s.** (LAID: no walk: one application.) -/
theorem Tryz.strings_Repeat (s : ByteArray) (c : Nat) (w : World) (hc : c ≤ 9223372036854775807) (hlen : s.size * c ≤ 140737488355328) :
    Calls Tryz.prog 142 #[.string s, .int .i64 c] w fun e w' => e = .returned (.string ⟨(Lib.repeatL s.data.toList c).toArray⟩) ∧ Below w.heap.size w w' := Any.strings_Repeat Tryz.lays105 Tryz.Builder_Extra_105 s c w hc hlen
end Go.Proofs
namespace Go.Proofs.YtiioodgpkdbndaaGreatDoor
open Go.RowKit Go.Sort Go.Lib
theorem holds_zero20 (w : World) (T : TypeId) (nd : Nat) (hs : nd ≤ 20) : Holds (fun (b : UInt8) => Value.int .u8 (b.toNat : Int)) (w.alloc (.cells Lib.zeros24 T)) w.heap.size 0 (Array.replicate nd (0 : UInt8)) := fun j hj => by
  rw [Array.size_replicate] at hj
  rw [World.cell?_alloc_new, Nat.zero_add, Lib.zeros24_at _ (by omega), getElem!_pos _ j (by rw [Array.size_replicate]; exact hj)]
  simp
abbrev TabP (w : World) : Prop := Lib.TabIs Tryz.prog w "internal/strconv.uint64pow10" .u64 Lib.pow10Tab
theorem ext_grow (w : World) (k : Nat) (os : Array Obj) : Ext w (grow (w.drewN k) os) :=
  ⟨rfl, rfl, rfl, by simp [grow, World.drewN], fun i hi => heap_grow_old (w.drewN k) os hi⟩
section
variable {w : World}
set_option maxHeartbeats 6400000 in
set_option maxRecDepth 100000 in
theorem fmt_uint (u : Nat) (hu64 : u < 18446744073709551616) (htab : TabP w) :
    Calls Tryz.prog 161 #[.int .u64 (u : Int), .int .i64 10] w fun e w' => e = .returned (.string ⟨(Lib.decDigits u).toArray⟩) ∧ Ext w w' := by
  by_cases hs : u < 100
  · have t1 : decide ((u : Int) < 100) = true := decide_eq_true (by omega)
    have t2 : decide (u < 100) = true := decide_eq_true (by omega)
    go_enter Tryz.func161, Tryz.ntmps161
    go_wp2_with (go_at_call 178; refine (Tryz.internal_strconv_small u hs _).mono ?_; rintro e w' ⟨rfl, rfl⟩)
    go_ret
    exact ⟨rfl, Ext.refl _⟩
  · have t1 : decide ((u : Int) < 100) = false := decide_eq_false (by omega)
    have t2 : decide (u < 100) = false := decide_eq_false (by omega)
    have hu1 : 1 ≤ u := by omega
    have hnd20 : Lib.nDigits u ≤ 20 := by have := Lib.numDigits_eq u hu1 hu64; split at this <;> omega
    have hal : Tryz.prog.arrayLen 167 = 24 := by kernel_rfl
    have hsl : ∀ W, (Instr.sliceAt 167 (.pointer (some ⟨w.heap.size, 0, none⟩)) none (some (.int .i64 (Lib.nDigits u : Int))) none).run Tryz.prog W = .ok (.slice (some ⟨w.heap.size, 0, none⟩) (Lib.nDigits u) 24) W := fun W => by
      rw [run_sliceAt_array_h W 167 ⟨w.heap.size, 0, none⟩ (by kernel_rfl) .i64 (Lib.nDigits u : Int) (by omega) (by rw [hal]; omega)]
      go_simp
    have hH0 := holds_zero20 w 167 (Lib.nDigits u) hnd20
    have hfmt := Tryz.internal_strconv_formatBase10 w.heap.size 0 24 u (Array.replicate (Lib.nDigits u) 0) (w.alloc (.cells Lib.zeros24 167)) hH0 (by rw [Array.size_replicate]; exact Lib.lt_pow_nDigits u) hu64 (by rw [Array.size_replicate]; omega)
    rw [Array.size_replicate] at hfmt
    have HH0 := Lib.hid hH0
    clear hH0 hal
    go_enter Tryz.func161, Tryz.ntmps161
    go_wp2_with (go_at_call 179; refine (Tryz.internal_strconv_numDigits u hu1 hu64 _ (Lib.tabIs_alloc htab _)).mono ?_; rintro e w' ⟨rfl, rfl⟩)
    refine hfmt.mono ?_
    rintro e w' ⟨rfl, k, v', dk, rfl, hF⟩
    have hcv : (convert 108 9 (.slice (some ⟨w.heap.size, 0, none⟩) (Lib.nDigits u) 24)).run Tryz.prog ((putRow (fun (b : UInt8) => Value.int .u8 (b.toNat : Int)) (w.alloc (.cells Lib.zeros24 167)) w.heap.size 0 dk).drewN k) = .ok (.string ⟨(Lib.decDigits u).toArray⟩) ((putRow (fun (b : UInt8) => Value.int .u8 (b.toNat : Int)) (w.alloc (.cells Lib.zeros24 167)) w.heap.size 0 dk).drewN k) := by
      have h := run_convert_bytes_back (P := Tryz.prog) ((putRow (fun (b : UInt8) => Value.int .u8 (b.toNat : Int)) (w.alloc (.cells Lib.zeros24 167)) w.heap.size 0 dk).drewN k) 108 9 5 ⟨w.heap.size, 0, none⟩ 24 (Lib.decDigits u) Tryz.underlying108 Tryz.underlying5 Tryz.underlying9 (fun j hj => by
        rw [Lib.row_is_numeral hF j hj, Lib.add_plain, World.cell?_drewN]
        exact cell?_putRow (fun (b : UInt8) => Value.int .u8 (b.toNat : Int)) _ w.heap.size 0 _ dk HH0.out (by rw [hF.size, Array.size_replicate]) j (by rw [hF.size]; rw [Lib.decDigits_length] at hj; exact hj))
      rw [Lib.decDigits_length] at h
      exact h
    go_wp2
    go_ret
    refine ⟨rfl, ?_⟩
    rw [alloc_eq_grow]
    obtain ⟨os', _, e⟩ := putRow_grow_new (fun (b : UInt8) => Value.int .u8 (b.toNat : Int)) w #[.cells Lib.zeros24 167] w.heap.size 0 dk (Nat.le_refl _)
    rw [e]
    exact ext_grow w k os'
theorem fmt_uint' (u : Nat) (hu64 : u < 18446744073709551616) (htab : TabP w) :
    Calls Tryz.prog 135 #[.int .u64 (u : Int), .int .i64 10] w fun e w' => e = .returned (.string ⟨(Lib.decDigits u).toArray⟩) ∧ Ext w w' := by
  go_enter Tryz.func135, Tryz.ntmps135
  go_wp2_with (go_at_call 161; refine (fmt_uint u hu64 htab).mono ?_; rintro e w' ⟨rfl, hx⟩)
  go_ret
  exact ⟨rfl, hx⟩
end
end Go.Proofs.YtiioodgpkdbndaaGreatDoor
namespace Go.Proofs.YtiioodgpkdbndaaGreatDoor
open Go.RowKit
theorem multiply_162 : MultiplyOK 162 := fun _ _ _ _ n m _ _ _ hn hm hx hy h hs => by
  by_cases h64 : min n m < 64
  · exact int_multiply_s hn hm hx hy h64 (by omega)
  · rcases hs with hs | ⟨rfl, hpx, hpy, hc, hcm, hd, hdm⟩
    · exact absurd hs h64
    · exact int_multiply_k hn hm hx hy (by omega) (by omega) hpx hpy hc hcm hd hdm
end Go.Proofs.YtiioodgpkdbndaaGreatDoor
namespace Go.Proofs.YtiioodgpkdbndaaGreatDoor
open Go.RowKit
attribute [local go_sem ↓] Go.wp_at_zero Go.wp_at_succ
theorem conv_row {w : World} {base N : Nat} {text : Value} {D : List UInt8} (h : w.ownsRow base 5 1 text N (D.map Bd)) (h0 : 0 < N) :
    ∃ g cap, text = .slice (some ⟨g, 0, none⟩) N cap ∧ (convert 108 9 (.slice (some ⟨g, 0, none⟩) N cap)).run Tryz.prog w = .ok (.string ⟨D.toArray⟩) w := by
  have hl : D.length = N := by simpa using h.1
  rcases h.2 with ⟨_, h1⟩ | ⟨g, cap, cur, rfl, _, hh, _, _, _, ht⟩
  · omega
  · refine ⟨g, cap, rfl, ?_⟩
    subst hl
    refine run_convert_bytes_back (P := Tryz.prog) w 108 9 5 ⟨g, 0, none⟩ cap D Tryz.underlying108 Tryz.underlying5 Tryz.underlying9 (fun j hj => ?_)
    rw [Lib.add_plain, cell_of_row w g (0 + j) cur _ (0, 0) hh, Nat.zero_add, ← Array.getElem?_toList]
    have := congrArg (fun l => l[j]?) ht
    simp only [Nat.mul_one, List.getElem?_take, hj, if_true, List.getElem?_map, List.getElem?_eq_getElem hj, Option.map_some] at this
    exact this
theorem pow_288 : 4294967296 ^ 20 ≤ 10 ^ 288 := by decide +kernel
section
variable {A : Option Addr} {c n : Nat} {xs : List Nat} {w : World}
set_option maxHeartbeats 4000000 in
theorem decimal_2 (hn : xs.length = n) (hx : Rd w A xs) (h2 : n ≤ 2) (htab : TabP w) :
    Calls Tryz.prog 111 #[.slice A n c] w fun e w' => ∃ s : ByteArray, e = .returned (.string s) ∧ s.data.toList = Lib.decDigits (val xs) ∧ Ext w w' := by
  have t1 : decide ((n : Int) ≤ 2) = true := decide_eq_true (by omega)
  have hlt : val xs < 18446744073709551616 := val_lt_two hx.1 (by omega)
  go_enter Tryz.func111, Tryz.ntmps111
  go_wp2_with fail
  refine (int_toUint hn hx h2).mono ?_
  rintro e w1 ⟨rfl, rfl⟩
  go_wp2_with fail
  refine (fmt_uint' (val xs) hlt htab).mono ?_
  rintro e w2 ⟨rfl, hxt⟩
  go_wp2
  go_ret
  exact ⟨_, rfl, rfl, hxt⟩
theorem Tryz.infoM : (Tryz.prog.info? 84).map (fun i => (i.zero, i.size, i.bytes)) = some (some (.slice none 0 0), 1, 24) := by kernel_rfl
def sliceLen : Value → Nat | .slice _ n _ => n | _ => 0
theorem cmp_le {qs xs : List Nat} (hq : W32 qs) (hx : W32 xs) (nq : Nrm qs) (nx : Nrm xs) (h : val qs ≤ val xs) : ∃ r : Int, cmpL qs xs = r ∧ decide (r ≤ 0) = true := by
  refine ⟨_, rfl, ?_⟩
  rw [cmpL_nrm hq hx nq nx]
  rcases Nat.lt_or_ge (val qs) (val xs) with h1 | h1
  · rw [cmpI_of_lt h1]; rfl
  · rw [cmpI_of_eq (by omega)]; rfl
theorem cmp_gt {qs xs : List Nat} (hq : W32 qs) (hx : W32 xs) (nq : Nrm qs) (nx : Nrm xs) (h : val xs < val qs) : ∃ r : Int, cmpL qs xs = r ∧ decide (r ≤ 0) = false := by
  refine ⟨_, rfl, ?_⟩
  rw [cmpL_nrm hq hx nq nx, cmpI_of_gt h]; rfl
theorem pow_144 : 10 ^ 144 < 4294967296 ^ 15 := by decide +kernel
theorem pow_144' : 10 ^ 144 * 10 ^ 144 = 10 ^ 288 := by decide +kernel
theorem len_144 {ps : List Nat} (hn : Nrm ps) (h : val ps = 10 ^ 144) : ps.length ≤ 15 := by
  refine Decidable.byContradiction fun hc => ?_
  have h1 := hn.ge (by rintro rfl; simp at hc)
  rw [h] at h1
  have h2 : 4294967296 ^ 15 ≤ 4294967296 ^ (ps.length - 1) := Nat.pow_le_pow_right (by omega) (by omega)
  have h3 := pow_144
  generalize 4294967296 ^ (ps.length - 1) = a at *
  generalize 4294967296 ^ 15 = b at *
  generalize 10 ^ 144 = d at *
  omega
theorem int_compareN {A B : Option Addr} {c d n m : Nat} {xs ys : List Nat} {w : World} {r : Int} (hn : xs.length = n) (hm : ys.length = m) (hx : Rd w A xs) (hy : Rd w B ys) (h1 : n ≤ 1000) (h2 : m ≤ 1000) (hr : cmpL xs ys = r) :
    Calls Tryz.prog 100 #[.slice A n c, .slice B m d] w fun e w' => e = .returned (.int .i64 r) ∧ Ext w w' := by
  subst hn
  subst hm
  subst hr
  exact int_compare _ _ _ _ _ _ _ hx hy (by unfold maxLen; omega) (by unfold maxLen; omega)
theorem new_news (w : World) (v : Value) (t : TypeId) : ∀ j u, ([v] : List Value)[j]? = some u → (w.alloc (.cells #[v] t)).cell? ((⟨w.heap.size, 0, none⟩ : Addr).add j) = some u := by
  intro j u hu
  rcases j with _ | j
  · simp at hu
    subst hu
    exact new_cell w #[v] t 0
  · simp at hu
theorem row_one {w : World} {base : Nat} {v x : Value} (h : w.ownsRow base 84 1 v (0 + 1) ([] ++ [x])) : ∃ b q, base ≤ b ∧ v = .slice (some ⟨b, 0, none⟩) 1 q ∧ w.cell? ⟨b, 0, none⟩ = some x := by
  rcases h.2 with ⟨_, h0⟩ | ⟨g, cap, cur, hv, hb, hh, _, _, _, ht⟩
  · omega
  · refine ⟨g, cap, hb, hv, ?_⟩
    rw [cell_of_row w g 0 cur _ (0, 0) hh, ← Array.getElem?_toList]
    have := congrArg (fun l => l[0]?) ht
    simpa [List.getElem?_take] using this
theorem oneTen (w : World) : Rd (w.alloc (.cells #[.int .u32 10] 71)) (some ⟨w.heap.size, 0, none⟩) [10] := (BlkN.lit w [10] _ rfl).rd0 (W32.one (by omega))
set_option maxHeartbeats 4000000 in
theorem decimal_long (hn : xs.length = n) (hx : Rd w A xs) (hc : n ≤ c) (hcm : c ≤ maxLen) (h20 : n ≤ 20) (h2 : 2 < n) (hnx : Nrm xs) :
    Calls Tryz.prog 111 #[.slice A n c] w fun e w' => ∃ s : ByteArray, e = .returned (.string s) ∧ s.data.toList = Lib.decDigits (val xs) ∧ Ext w w' := by
  have t1 : decide ((n : Int) ≤ 2) = false := decide_eq_false (by omega)
  have Hn := Lib.hid hn
  clear hn
  go_enter Tryz.func111, Tryz.ntmps111
  go_wp2_with fail
  refine (int_power (k := 144) multiply_162 (by rfl) (oneTen w) (by omega) (by omega) (by omega)).mono ?_
  rintro e w1 ⟨A1, c1, ps, rfl, hr1, hc1, hm1, ⟨hv1, hn1, hl1⟩, hxt⟩
  have hps : val ps = 10 ^ 144 := hv1
  have hpl := len_144 hn1 hps
  have hp0 : 0 < ps.length := by
    rcases Nat.eq_zero_or_pos ps.length with h | h
    · rw [List.length_eq_zero_iff.1 h] at hps
      have h4 : 0 < 10 ^ 144 := Nat.pow_pos (by omega)
      rw [← hps] at h4
      simp [val] at h4
    · exact h
  have hxb : val xs < 10 ^ 288 := by
    have h5 := val_lt hx.1
    have h6 : 4294967296 ^ xs.length ≤ 4294967296 ^ 20 := Nat.pow_le_pow_right (by omega) (by have := Hn.out; omega)
    exact Nat.lt_of_lt_of_le h5 (Nat.le_trans h6 pow_288)
  rw [← pow_144'] at hxb
  obtain ⟨T, hT⟩ : ∃ T : Nat, T = 10 ^ 144 := ⟨_, rfl⟩
  rw [← hT] at hps hxb
  have hv0 : val xs ≠ 0 := fun h => by
    have h1 := hnx.zero.1 h
    rw [h1] at Hn
    have := Hn.out
    simp at this
    omega
  have Hv0 := Lib.hid hv0
  clear hv0
  have HT := Lib.hid hT
  have Hxb := Lib.hid hxb
  clear hv1 hl1 hT hxb
  have hex : Ext w w1 := by first | exact hxt | exact ((Ext.refl w).alloc _).trans hxt
  go_wp2
  go_loopw [3, 4] (fun z p V => ∃ (k : Nat) (A2 : Option Addr) (c2 : Nat) (qs : List Nat), p = .slice A2 (List.length qs) c2 ∧ Rd V A2 qs ∧ Nrm qs ∧ qs.length ≤ c2 ∧ c2 ≤ maxLen ∧ qs.length ≤ 200 ∧ Ext w V ∧ ((k = 0 ∧ z = .slice none 0 0 ∧ val qs = T ∧ qs.length ≤ 15 ∧ 0 < qs.length) ∨ (k = 1 ∧ ∃ b q B m d ys, z = .slice (some ⟨b, 0, none⟩) 1 q ∧ V.cell? ⟨b, 0, none⟩ = some (.slice B m d) ∧ List.length ys = m ∧ Rd V B ys ∧ m ≤ d ∧ d ≤ maxLen ∧ Nrm ys ∧ val ys = T ∧ 0 < m ∧ m ≤ 100 ∧ val qs = T * T ∧ T ≤ val xs))) (fun z _ _ => 1 - sliceLen z)
  case atStart => exact ⟨0, A1, c1, ps, rfl, hr1, hn1, hc1, hm1, by omega, hex, .inl ⟨rfl, rfl, hps, hpl, hp0⟩⟩
  case round =>
    clear hr1 hn1 hc1 hm1 hps hpl hp0 hex hxt
    obtain ⟨k, A2, c2, qs, rfl, hr, hnq, hcq, hmq, hlq, hext, hk⟩ := hrel
    rcases hk with ⟨rfl, rfl, hval, hl15, hl0⟩ | ⟨rfl, b, q, B, m, d, ys, rfl, hcell, hym, hry, hmd, hdm, hny, hvy, hm0, hm100, hval, hTx⟩
    · by_cases hle : T ≤ val xs
      · obtain ⟨r, hr1, hr2⟩ := cmp_le hr.1 hx.1 hnq hnx (by omega)
        have HR := Lib.hid hr1
        clear hr1
        go_wp2_with (first | (at_builtin; refine wpList_append_own _ rfl _ _ 122 rfl w2.heap.size 84 i0 (.slice none 0 0) 1 24 Tryz.underlying122 hi hz0 hz1 hz2 rfl (by decide) _ 0 [] rfl (owns_nil _ _ _ _) ⟨w2.heap.size, 0, none⟩ 1 1 [.slice A2 qs.length c2] rfl rfl (new_news w2 _ _) (by simp [Value.oneCell']) (by unfold maxLen; omega) (by omega) (by simp) ?_; intro v' w3 hown' hgr _; obtain ⟨b, q, hbq, rfl, hcl⟩ := row_one hown'; have e3 : Ext w2 w3 := Below.grown ((Ext.refl w2).alloc _) hgr (by simp) (fun k hk => nomatch (show (none : Option Nat) = some k from hk)); have e23 := (hext.trans hx2).trans e3; have hr3 := hr.ext (hx2.trans e3); clear hown' hgr) | (go_at_call 102; refine (int_multiply_s rfl rfl hr3 hr3 (by omega) (by omega)).mono ?_; rintro e w4 ⟨A4, c4, zs, rfl, ho4, hc4, hm4, ⟨hv4, hn4, hl4⟩, hx4⟩) | (go_at_call 100; refine (int_compareN rfl Hn.out hr (hx.ext hext) (by omega) (by omega) HR.out).mono ?_; rintro e w2 ⟨rfl, hx2⟩; obtain ⟨i0, hi, hz0, hz1, hz2⟩ := info_partsB Tryz.infoM))
        refine ⟨⟨1, A4, c4, zs, rfl, ho4.rd, hn4, hc4, hm4, by omega, e23.trans hx4, .inr ⟨rfl, b, q, A2, qs.length, c2, qs, rfl, hx4.cellv hcl, rfl, hr3.ext hx4, hcq, hmq, hnq, hval, hl0, by omega, by rw [hv4, hval], hle⟩⟩, ?_⟩
        simp [sliceLen]
      · obtain ⟨r, hr1, hr2⟩ := cmp_gt hr.1 hx.1 hnq hnx (by omega)
        have HR := Lib.hid hr1
        clear hr1
        go_wp2_with (first | (go_at_call 100; refine (int_compareN rfl Hn.out hr (hx.ext hext) (by omega) (by omega) HR.out).mono ?_; rintro e w2 ⟨rfl, hx2⟩) | (go_at_call 138; refine (digits_0 (Ext.refl w2) (owns_nil w2 w2.heap.size 5 1) (by omega) Hn.out (hx.ext (hext.trans hx2)) (by omega)).mono ?_; rintro e w3 ⟨text, D, rfl, ho3, hD, hx3⟩; have ho4 : w3.ownsRow w2.heap.size 5 1 text 144 (D.map Bd) := ho3; obtain ⟨g, cap, rfl, hcv⟩ := conv_row ho4 (by omega); have HD := Lib.hid hD; clear ho3 ho4 hD) | (go_at_call 137; refine (Tryz.strings_TrimLeft_one _ 48 (by decide) _).mono ?_; rintro e w4 ⟨rfl, rfl⟩))
        go_ret
        refine ⟨_, rfl, ?_, (hext.trans hx2).trans hx3⟩
        show Lib.trimLeftB D 48 = _
        rw [HD.out, trim_pd (k := 144) (by rw [← HT.out]; omega)]
        unfold fd
        rw [if_neg Hv0.out]
    · obtain ⟨r, hr1, hr2⟩ := cmp_gt hr.1 hx.1 hnq hnx (by rw [hval]; exact Hxb.out)
      have HR := Lib.hid hr1
      clear hr1
      go_wp2_with (first | (go_at_call 100; refine (int_compareN rfl Hn.out hr (hx.ext hext) (by omega) (by omega) HR.out).mono ?_; rintro e w2 ⟨rfl, hx2⟩) | (go_at_call 138; refine (digits_1 HT.out Hn.out (hx.ext (hext.trans hx2)) hc hcm (by omega) hnx (hx2.cellv hcell) hym (hry.ext hx2) hmd hdm hny (by omega) hm0 hvy).mono ?_; rintro e w3 ⟨text, D, rfl, ho3, hD, hx3⟩; have ho4 : w3.ownsRow w2.heap.size 5 1 text 288 (D.map Bd) := ho3; obtain ⟨g, cap, rfl, hcv⟩ := conv_row ho4 (by omega); have HD := Lib.hid hD; clear ho3 ho4 hD) | (go_at_call 137; refine (Tryz.strings_TrimLeft_one _ 48 (by decide) _).mono ?_; rintro e w4 ⟨rfl, rfl⟩))
      go_ret
      refine ⟨_, rfl, ?_, (hext.trans hx2).trans hx3⟩
      show Lib.trimLeftB D 48 = _
      rw [HD.out, trim_pd (k := 288) (by rw [← pow_144', ← HT.out]; exact Hxb.out)]
      unfold fd
      rw [if_neg Hv0.out]
end
end Go.Proofs.YtiioodgpkdbndaaGreatDoor
namespace Go.Proofs.YtiioodgpkdbndaaGreatDoor
open Go.RowKit
attribute [local go_sem ↓] Go.wp_at_zero Go.wp_at_succ
theorem TabP.ext {w w' : World} (h : TabP w) (e : Ext w w') : TabP w' := by
  unfold TabP Lib.TabIs World.var? at *
  cases hg : Tryz.prog.globalNamed "internal/strconv.uint64pow10" with
  | none => simp [hg] at h
  | some g =>
    simp only [hg, Option.bind_some] at h ⊢
    have hlt : g < w.heap.size := by
      rcases Nat.lt_or_ge g w.heap.size with h' | h'
      · exact h'
      · rw [Array.getElem?_eq_none h'] at h; simp at h
    have hb : Below w.heap.size w w' := e
    rw [hb.block g hlt]
    exact h
section
variable {A : Option Addr} {c n : Nat} {xs : List Nat} {w : World} {s : Bool}
theorem int_decimalDigits (hn : xs.length = n) (hx : Rd w A xs) (hc : n ≤ c) (hcm : c ≤ maxLen) (h20 : n ≤ 20) (hnx : Nrm xs) (htab : TabP w) :
    Calls Tryz.prog 111 #[.slice A n c] w fun e w' => ∃ s : ByteArray, e = .returned (.string s) ∧ s.data.toList = Lib.decDigits (val xs) ∧ Ext w w' := by
  by_cases h2 : n ≤ 2
  · exact decimal_2 hn hx h2 htab
  · exact decimal_long hn hx hc hcm h20 (by omega) hnx
set_option maxHeartbeats 2000000 in
theorem int_Format (hn : xs.length = n) (hx : Rd w A xs) (hc : n ≤ c) (hcm : c ≤ maxLen) (h20 : n ≤ 20) (htab : TabP w) :
    Calls Tryz.prog 83 #[.agg #[.bool s, .slice A n c]] w fun e w' => ∃ str : ByteArray, e = .returned (.string str) ∧ str.data.toList = Lib.itoa (ival s xs) ∧ Ext w w' := by
  have Hn := Lib.hid hn
  clear hn
  have lx := trimL_len xs
  have hxt : Rd w A (trimL xs) := by rw [trimL_take]; exact hx.take _
  go_enter Tryz.func83, Tryz.ntmps83
  go_upto_region 1 with (fail)
  obtain ⟨W, hW, extW, bx, hz⟩ := box1 w 24 #[.bool s, .slice A n c]
  rw [← hW]
  clear hW
  have x0 := bx.cell 0 (.bool s) rfl
  have x1 := bx.cell 1 (.slice A n c) rfl
  go_wp2_with fail
  refine (int_trimN Hn.out (hx.ext extW) hc hcm).mono ?_
  rintro e w1 ⟨rfl, rfl⟩
  have hz1 := itoa_fd (ival s xs)
  by_cases h0 : trimL xs = []
  · have hl0 : (trimL xs).length = 0 := by rw [h0]; rfl
    have hv : ival s xs = 0 := by
      have : val xs = 0 := by rw [← val_trimL, h0]; rfl
      unfold ival; rw [this]; cases s <;> rfl
    rw [if_pos hv] at hz1
    have Hz1 := Lib.hid hz1
    clear hz1
    rw [hl0]
    go_wp2_with fail
    go_ret
    exact ⟨_, rfl, Hz1.out.symm, extW⟩
  · have hl0 : 0 < (trimL xs).length := List.length_pos_iff.2 h0
    have hvp : val (trimL xs) ≠ 0 := fun h => h0 ((Nrm.trimL xs).zero.1 h)
    have hv : val xs ≠ 0 := by rw [← val_trimL]; exact hvp
    have hfd : fd (val xs) = Lib.decDigits (val (trimL xs)) := by rw [val_trimL]; unfold fd; rw [if_neg hv]
    have hne : ((( trimL xs).length : Int) == 0) = false := by rw [beq_eq_false_iff_ne]; omega
    have hl20 : (trimL xs).length ≤ 20 := by have := Hn.out; omega
    have hlc : (trimL xs).length ≤ c := by have := Hn.out; omega
    have Hz1 := Lib.hid hz1
    have Hfd := Lib.hid hfd
    clear hz1 hfd
    generalize hL : (trimL xs).length = L at *
    cases s
    · go_wp2_with (go_at_call 111; refine (int_decimalDigits hL (hxt.ext extW) hlc hcm hl20 (Nrm.trimL xs) (htab.ext extW)).mono ?_; rintro e w2 ⟨str, rfl, hs, hx2⟩; have hsz : str.size ≤ 1000 := (by rw [Lib.size_eq, hs, ← Hfd.out]; have := fd_len_words hx.1; have := Hn.out; omega); have y0 := (bx.ext hx2).cell 0 _ rfl; have Hs := Lib.hid hs; clear hs)
      go_ret
      refine ⟨_, rfl, ?_, extW.trans hx2⟩
      have hpos : 0 < ival false xs := by unfold ival; simp; omega
      rw [Hs.out, Hz1.out, if_neg (by omega), if_neg (by omega), ← Hfd.out]
      congr 1
    · go_wp2_with (go_at_call 111; refine (int_decimalDigits hL (hxt.ext extW) hlc hcm hl20 (Nrm.trimL xs) (htab.ext extW)).mono ?_; rintro e w2 ⟨str, rfl, hs, hx2⟩; have hsz : str.size ≤ 1000 := (by rw [Lib.size_eq, hs, ← Hfd.out]; have := fd_len_words hx.1; have := Hn.out; omega); have y0 := (bx.ext hx2).cell 0 _ rfl; have Hs := Lib.hid hs; clear hs)
      go_ret
      refine ⟨_, rfl, ?_, extW.trans hx2⟩
      have hneg : ival true xs < 0 := by unfold ival; simp; omega
      have habs : (ival true xs).natAbs = val xs := by unfold ival; simp
      rw [append_toList, Hs.out, Hz1.out, if_neg (by omega), if_pos hneg, habs, Hfd.out]
      rfl
end
end Go.Proofs.YtiioodgpkdbndaaGreatDoor
namespace Go.Proofs.YtiioodgpkdbndaaGreatDoor
open Go.RowKit
attribute [local go_sem ↓] Go.wp_at_zero Go.wp_at_succ
section
variable {w w' : World} {z y : Int} {q p : Rat} {L M : Nat} {s t s' t' : Bool} {A B A' B' : Option Addr} {n c m d n' c' m' d' : Nat} {xs ys xs' ys' : List Nat}
/-- the square root of a number, or none. -/
def RetSq (q : Rat) (L : Nat) (w : World) (e : Ending) (w' : World) : Prop :=
  ((∃ a b : Int, 0 ≤ a ∧ 0 ≤ b ∧ a * a = q.num ∧ b * b = (q.den : Int) ∧ ∃ s A n c t B m d, e = .returned (.tuple #[.agg #[.bool s, .slice A n c, .bool t, .slice B m d], .bool true]) ∧ NI w' a L s A n c ∧ NI w' b L t B m d) ∨
    ((¬ ∃ a b : Int, 0 ≤ a ∧ 0 ≤ b ∧ a * a = q.num ∧ b * b = (q.den : Int)) ∧ e = .returned (.tuple #[.agg #[.bool false, .slice none 0 0, .bool false, .slice none 0 0], .bool false]))) ∧ Ext w w'
theorem sq_unique {a r z : Int} (ha : 0 ≤ a) (hr : 0 ≤ r) (h : a * a = z) (h1 : r * r ≤ z) (h2 : z < (r + 1) * (r + 1)) : a = r := by
  have e1 : ¬ a < r := fun hlt => by
    have := Int.mul_le_mul (show a + 1 ≤ r by omega) (show a + 1 ≤ r by omega) (by omega) hr
    have h3 : (a + 1) * (a + 1) = a * a + 2 * a + 1 := by
      rw [Int.add_mul, Int.mul_add]; omega
    omega
  have e2 : ¬ r < a := fun hlt => by
    have := Int.mul_le_mul (show r + 1 ≤ a by omega) (show r + 1 ≤ a by omega) (by omega) ha
    omega
  omega
set_option maxHeartbeats 4000000 in
theorem p_Sqrt_pos (h : NR w q L s A n c t B m d) (hL : L ≤ 50) (hq : 0 ≤ q.num) : Calls Tryz.prog 45 #[.agg #[.bool s, .slice A n c, .bool t, .slice B m d]] w (RetSq q (L + 1) w) := by
  have hd0 : (0 : Int) ≤ (q.den : Int) := by omega
  go_enter Tryz.func45, Tryz.ntmps45
  go_upto_region 1 with (fail)
  obtain ⟨W, hW, extW, bx, bz, hz⟩ := box2 w 27 27 #[.bool s, .slice A n c, .bool t, .slice B m d] #[Value.bool false, Value.slice none 0 0, Value.bool false, Value.slice none 0 0]
  rw [← hW]
  clear hW
  replace h := h.ext extW
  have x0 := bx.cell 0 (.bool s) rfl
  have x1 := bx.cell 1 (.slice A n c) rfl
  have x2 := bx.cell 2 (.bool t) rfl
  have x3 := bx.cell 3 (.slice B m d) rfl
  go_wp2_with fail
  refine (p_root h.num hL hq).mono ?_
  rintro e wa ⟨u1, hr0, hr1, hr2, s1, A1, n1, c1, rfl, hn1, hxa⟩
  obtain ⟨ok1, hok1⟩ : ∃ b, decide (u1 * u1 = q.num) = b := ⟨_, rfl⟩
  rw [hok1]
  have HN1 := Lib.hid hok1
  have HR := Lib.hid (And.intro hr0 (And.intro hr1 hr2))
  clear hok1 hr0 hr1 hr2
  clear x0 x1 x2 x3
  go_upto_region 2 with (fail)
  refine at_world (fun V => Ext W V ∧ Box V wa.heap.size 24 #[.bool s1, .slice A1 n1 c1] ∧ NI V u1 (L + 1) s1 A1 n1 c1) ⟨hxa.alloc _, Box.new wa _ _, hn1.ext ((Ext.refl wa).alloc _)⟩ ?_
  generalize wa.heap.size = g8
  clear hxa hn1
  rintro V ⟨EV, b8, hn1⟩
  replace bx := bx.ext EV
  replace bz := bz.ext EV
  replace h := h.ext EV
  replace extW := extW.trans EV
  clear EV
  cases ok1 with
  | false =>
    have hE := Ext.refl V
    have z0 := (bz.ext hE).cell 0 _ rfl
    have z1 := (bz.ext hE).cell 1 _ rfl
    have z2 := (bz.ext hE).cell 2 _ rfl
    have z3 := (bz.ext hE).cell 3 _ rfl
    have f0 := (bz.ext hE).frozen 0
    have f1 := (bz.ext hE).frozen 1
    have f2 := (bz.ext hE).frozen 2
    have f3 := (bz.ext hE).frozen 3
    go_wp2_with fail
    obtain ⟨b1, b2, b3, b4⟩ := fin_quad (s := false) (A := none) (n := 0) (c := 0) (t := false) (B := none) (m := 0) (d := 0) (bz.ext hE)
    have r0 := b1.cell 0 (.bool false) rfl
    have r1 := b1.cell 1 (.slice none 0 0) rfl
    have r2 := b1.cell 2 (.bool false) rfl
    have r3 := b1.cell 3 (.slice none 0 0) rfl
    unfold set4 at r0 r1 r2 r3
    refine bodyPost_ret (v := .tuple #[.agg #[.bool false, .slice none 0 0, .bool false, .slice none 0 0], .bool false]) (by simp [results, Tryz.results45, go_sem, r0, r1, r2, r3]) rfl ⟨Or.inr ⟨fun ⟨a, b, ha, _, hab, _⟩ => by have := sq_unique ha HR.out.1 hab HR.out.2.1 HR.out.2.2; subst this; exact of_decide_eq_false HN1.out hab, rfl⟩, b3 _ (extW.trans hE) (by omega)⟩
  | true =>
    have x0 := bx.cell 0 (.bool s) rfl
    have x1 := bx.cell 1 (.slice A n c) rfl
    have x2 := bx.cell 2 (.bool t) rfl
    have x3 := bx.cell 3 (.slice B m d) rfl
    go_wp2_with fail
    refine (p_root h.den hL hd0).mono ?_
    rintro e wb ⟨u2, hr0, hr1, hr2, s2, A2, n2, c2, rfl, hn2, hxb⟩
    obtain ⟨ok2, hok2⟩ : ∃ b, decide (u2 * u2 = (q.den : Int)) = b := ⟨_, rfl⟩
    rw [hok2]
    have HN2 := Lib.hid hok2
    have HR2 := Lib.hid (And.intro hr0 (And.intro hr1 hr2))
    clear hok2 hr0 hr1 hr2
    clear x0 x1 x2 x3
    go_upto_region 5 with (fail)
    refine at_world (fun U => Ext V U ∧ Box U wb.heap.size 24 #[.bool s2, .slice A2 n2 c2] ∧ NI U u2 (L + 1) s2 A2 n2 c2) ⟨hxb.alloc _, Box.new wb _ _, hn2.ext ((Ext.refl wb).alloc _)⟩ ?_
    generalize wb.heap.size = g9
    clear hxb hn2
    rintro U ⟨EV, b9, hn2⟩
    replace bx := bx.ext EV
    replace bz := bz.ext EV
    replace b8 := b8.ext EV
    replace h := h.ext EV
    replace hn1 := hn1.ext EV
    replace extW := extW.trans EV
    clear EV
    have hE := Ext.refl U
    cases ok2 with
    | false =>
      have z0 := (bz.ext hE).cell 0 _ rfl
      have z1 := (bz.ext hE).cell 1 _ rfl
      have z2 := (bz.ext hE).cell 2 _ rfl
      have z3 := (bz.ext hE).cell 3 _ rfl
      have f0 := (bz.ext hE).frozen 0
      have f1 := (bz.ext hE).frozen 1
      have f2 := (bz.ext hE).frozen 2
      have f3 := (bz.ext hE).frozen 3
      go_wp2_with fail
      obtain ⟨b1, b2, b3, b4⟩ := fin_quad (s := false) (A := none) (n := 0) (c := 0) (t := false) (B := none) (m := 0) (d := 0) (bz.ext hE)
      have r0 := b1.cell 0 (.bool false) rfl
      have r1 := b1.cell 1 (.slice none 0 0) rfl
      have r2 := b1.cell 2 (.bool false) rfl
      have r3 := b1.cell 3 (.slice none 0 0) rfl
      unfold set4 at r0 r1 r2 r3
      refine bodyPost_ret (v := .tuple #[.agg #[.bool false, .slice none 0 0, .bool false, .slice none 0 0], .bool false]) (by simp [results, Tryz.results45, go_sem, r0, r1, r2, r3]) rfl ⟨Or.inr ⟨fun ⟨a, b, _, hb, _, hab⟩ => by have := sq_unique hb HR2.out.1 hab HR2.out.2.1 HR2.out.2.2; subst this; exact of_decide_eq_false HN2.out hab, rfl⟩, b3 _ (extW.trans hE) (by omega)⟩
    | true =>
      have x0 := b8.cell 0 (.bool s1) rfl
      have x1 := b8.cell 1 (.slice A1 n1 c1) rfl
      have y0 := b9.cell 0 (.bool s2) rfl
      have y1 := b9.cell 1 (.slice A2 n2 c2) rfl
      have z0 := (bz.ext hE).cell 0 _ rfl
      have z1 := (bz.ext hE).cell 1 _ rfl
      have z2 := (bz.ext hE).cell 2 _ rfl
      have z3 := (bz.ext hE).cell 3 _ rfl
      have f0 := (bz.ext hE).frozen 0
      have f1 := (bz.ext hE).frozen 1
      have f2 := (bz.ext hE).frozen 2
      have f3 := (bz.ext hE).frozen 3
      go_wp2_with fail
      obtain ⟨b1, b2, b3, b4⟩ := fin_quad (s := s1) (A := A1) (n := n1) (c := c1) (t := s2) (B := A2) (m := n2) (d := c2) (bz.ext hE)
      have r0 := b1.cell 0 (.bool s1) rfl
      have r1 := b1.cell 1 (.slice A1 n1 c1) rfl
      have r2 := b1.cell 2 (.bool s2) rfl
      have r3 := b1.cell 3 (.slice A2 n2 c2) rfl
      unfold set4 at r0 r1 r2 r3
      refine bodyPost_ret (v := .tuple #[.agg #[.bool s1, .slice A1 n1 c1, .bool s2, .slice A2 n2 c2], .bool true]) (by simp [results, Tryz.results45, go_sem, r0, r1, r2, r3]) rfl ⟨Or.inl ⟨u1, u2, HR.out.1, HR2.out.1, of_decide_eq_true HN1.out, of_decide_eq_true HN2.out, s1, A1, n1, c1, s2, A2, n2, c2, rfl, b2 _ _ _ _ _ _ hn1, b2 _ _ _ _ _ _ hn2⟩, b3 _ (extW.trans hE) (by omega)⟩
/-- the text of a number. -/
def ratText (q : Rat) : List UInt8 := Lib.itoa q.num ++ (if (q.den : Int) = 1 then [] else 47 :: Lib.itoa (q.den : Int))
theorem p_FormatI (h : NI w z L s A n c) (hL : L ≤ 20) (hT : TabP w) : Calls Tryz.prog 83 #[.agg #[.bool s, .slice A n c]] w fun e w' => ∃ str : ByteArray, e = .returned (.string str) ∧ str.data.toList = Lib.itoa z ∧ str.size ≤ 1000 ∧ Ext w w' := by
  obtain ⟨xs, hn, hx, hc, hcm, hi, hl⟩ := h.out
  refine (int_Format hn hx hc hcm (by omega) hT).mono ?_
  rintro e w' ⟨str, rfl, hs, hxt⟩
  rw [hi.eq] at hs
  refine ⟨str, rfl, hs, ?_, hxt⟩
  rw [Lib.size_eq, hs, ← hi.eq, itoa_fd]
  have h1 := fd_len_words hx.1
  rw [ival_ab]
  split
  · simp
  · split
    · rw [List.length_cons]; omega
    · omega
set_option maxHeartbeats 2000000 in
theorem p_FormatR (h : NR w q L s A n c t B m d) (hL : L ≤ 20) (hT : TabP w) : Calls Tryz.prog 47 #[.agg #[.bool s, .slice A n c, .bool t, .slice B m d]] w fun e w' => ∃ str : ByteArray, e = .returned (.string str) ∧ str.data.toList = ratText q ∧ Ext w w' := by
  go_enter Tryz.func47, Tryz.ntmps47
  go_upto_region 1 with (fail)
  obtain ⟨W, hW, extW, bx, hz⟩ := box1 w 27 #[.bool s, .slice A n c, .bool t, .slice B m d]
  rw [← hW]
  clear hW
  replace h := h.ext extW
  have x0 := bx.cell 0 (.bool s) rfl
  have x1 := bx.cell 1 (.slice A n c) rfl
  have x2 := bx.cell 2 (.bool t) rfl
  have x3 := bx.cell 3 (.slice B m d) rfl
  go_wp2_with fail
  refine (p_FormatI h.num hL (hT.ext extW)).mono ?_
  rintro e wa ⟨str, rfl, hs, hsz, hxa⟩
  replace bx := bx.ext hxa
  replace h := h.ext hxa
  replace extW := extW.trans hxa
  clear hxa
  clear x0 x1 x2 x3
  have x0 := bx.cell 0 (.bool s) rfl
  have x1 := bx.cell 1 (.slice A n c) rfl
  have x2 := bx.cell 2 (.bool t) rfl
  have x3 := bx.cell 3 (.slice B m d) rfl
  go_wp2_with fail
  refine (p_isOne h.den).mono ?_
  rintro e wb ⟨rfl, hxb⟩
  replace bx := bx.ext hxb
  replace h := h.ext hxb
  replace extW := extW.trans hxb
  clear hxb
  clear x0 x1 x2 x3
  have HS := Lib.hid hs
  clear hs
  by_cases h1 : (q.den : Int) = 1
  · rw [decide_eq_true h1]
    have H1 := Lib.hid h1
    clear h1
    go_wp2_with fail
    go_ret
    exact ⟨str, rfl, by unfold ratText; rw [if_pos H1.out, List.append_nil]; exact HS.out, extW⟩
  · rw [decide_eq_false h1]
    have H1 := Lib.hid h1
    clear h1
    have x0 := bx.cell 0 (.bool s) rfl
    have x1 := bx.cell 1 (.slice A n c) rfl
    have x2 := bx.cell 2 (.bool t) rfl
    have x3 := bx.cell 3 (.slice B m d) rfl
    go_wp2_with fail
    refine (p_FormatI h.den hL (hT.ext extW)).mono ?_
    rintro e wc ⟨str2, rfl, hs2, hsz2, hxc⟩
    have HS2 := Lib.hid hs2
    have hsa : (⟨#[47]⟩ ++ str2 : ByteArray).size = 1 + str2.size := ByteArray.size_append
    clear hs2
    go_wp2_with fail
    go_ret
    exact ⟨_, rfl, by unfold ratText; rw [if_neg H1.out, append_toList, append_toList, HS.out, HS2.out]; rfl, extW.trans hxc⟩
end
end Go.Proofs.YtiioodgpkdbndaaGreatDoor
namespace Go.Proofs.YtiioodgpkdbndaaGreatDoor
open Go.RowKit
attribute [local go_sem ↓] Go.wp_at_zero Go.wp_at_succ
section
variable {w w' : World} {q p r : Rat} {L : Nat} {s t s' t' u u' : Bool} {A B A' B' C D : Option Addr} {n c m d n' c' m' d' l e0 l' e' : Nat} {xs ys xs' ys' zs zs' : List Nat}
variable {z y : Int} {M : Nat}
set_option maxHeartbeats 4000000 in
theorem p_root_neg (h : NI w z L s A n c) (hL : L ≤ 50) (hz : z < 0) : Calls Tryz.prog 81 #[.agg #[.bool s, .slice A n c]] w fun e w' => ∃ s' A' n' c', e = .returned (.tuple #[.agg #[.bool s', .slice A' n' c'], .bool false]) ∧ Ext w w' := by
  go_enter Tryz.func81, Tryz.ntmps81
  go_upto_region 1 with (fail)
  obtain ⟨W, hW, extW, bx, bz, hzz⟩ := box2 w 24 24 #[.bool s, .slice A n c] #[Value.bool false, Value.slice none 0 0]
  rw [← hW]
  clear hW
  replace h := h.ext extW
  have x0 := bx.cell 0 (.bool s) rfl
  have x1 := bx.cell 1 (.slice A n c) rfl
  go_wp2_with fail
  obtain ⟨xs, hn, hx, hc, hcm, hi, hl⟩ := h.out
  refine (int_Sqrt_neg hn hx hc hcm (by omega) (by rw [hi.eq]; exact hz)).mono ?_
  rintro e wa ⟨s1, A1, c1, rs, rfl, g1, g2, g3, g4, g5, hxa⟩
  obtain ⟨n1, hn1⟩ : ∃ n1, rs.length = n1 := ⟨_, rfl⟩
  rw [hn1]
  clear hn hx hc hcm hi hl g1 g2 g3 g4 g5 hn1 x0 x1
  go_upto_region 2 with (fail)
  refine at_world (fun V => Ext W V ∧ Box V wa.heap.size 24 #[.bool s1, .slice A1 n1 c1]) ⟨hxa.alloc _, Box.new wa _ _⟩ ?_
  generalize wa.heap.size = g8
  clear hxa
  rintro V ⟨EV, b8⟩
  have x0 := b8.cell 0 (.bool s1) rfl
  have x1 := b8.cell 1 (.slice A1 n1 c1) rfl
  have z0 := (bz.ext EV).cell 0 _ rfl
  have z1 := (bz.ext EV).cell 1 _ rfl
  have f0 := (bz.ext EV).frozen 0
  have f1 := (bz.ext EV).frozen 1
  go_wp2_with fail
  go_region
  go_wp2_with fail
  obtain ⟨b1, b2, b3, b4⟩ := fin_dual (s := s1) (A := A1) (n := n1) (c := c1) (bz.ext EV)
  have r0 := b1.cell 0 (.bool s1) rfl
  have r1 := b1.cell 1 (.slice A1 n1 c1) rfl
  unfold set2 at r0 r1
  refine bodyPost_ret (v := .tuple #[.agg #[.bool s1, .slice A1 n1 c1], .bool false]) (by simp [results, Tryz.results81, go_sem, r0, r1]) rfl ⟨s1, A1, n1, c1, rfl, (b3 _ (extW.trans EV) (by omega)).drew⟩
set_option maxHeartbeats 4000000 in
theorem p_Sqrt_neg (h : NR w q L s A n c t B m d) (hL : L ≤ 50) (hq : q.num < 0) : Calls Tryz.prog 45 #[.agg #[.bool s, .slice A n c, .bool t, .slice B m d]] w (RetSq q (L + 1) w) := by
  go_enter Tryz.func45, Tryz.ntmps45
  go_upto_region 1 with (fail)
  obtain ⟨W, hW, extW, bx, bz, hz⟩ := box2 w 27 27 #[.bool s, .slice A n c, .bool t, .slice B m d] #[Value.bool false, Value.slice none 0 0, Value.bool false, Value.slice none 0 0]
  rw [← hW]
  clear hW
  replace h := h.ext extW
  have x0 := bx.cell 0 (.bool s) rfl
  have x1 := bx.cell 1 (.slice A n c) rfl
  have x2 := bx.cell 2 (.bool t) rfl
  have x3 := bx.cell 3 (.slice B m d) rfl
  go_wp2_with fail
  refine (p_root_neg h.num hL hq).mono ?_
  rintro e wa ⟨s1, A1, n1, c1, rfl, hxa⟩
  have HQ := Lib.hid hq
  clear hq
  clear x0 x1 x2 x3
  go_upto_region 2 with (fail)
  refine at_world (fun V => Ext W V) (hxa.alloc _) ?_
  clear hxa
  rintro V hE
  have z0 := (bz.ext hE).cell 0 _ rfl
  have z1 := (bz.ext hE).cell 1 _ rfl
  have z2 := (bz.ext hE).cell 2 _ rfl
  have z3 := (bz.ext hE).cell 3 _ rfl
  have f0 := (bz.ext hE).frozen 0
  have f1 := (bz.ext hE).frozen 1
  have f2 := (bz.ext hE).frozen 2
  have f3 := (bz.ext hE).frozen 3
  go_wp2_with fail
  obtain ⟨b1, b2, b3, b4⟩ := fin_quad (s := false) (A := none) (n := 0) (c := 0) (t := false) (B := none) (m := 0) (d := 0) (bz.ext hE)
  have r0 := b1.cell 0 (.bool false) rfl
  have r1 := b1.cell 1 (.slice none 0 0) rfl
  have r2 := b1.cell 2 (.bool false) rfl
  have r3 := b1.cell 3 (.slice none 0 0) rfl
  unfold set4 at r0 r1 r2 r3
  refine bodyPost_ret (v := .tuple #[.agg #[.bool false, .slice none 0 0, .bool false, .slice none 0 0], .bool false]) (by simp [results, Tryz.results45, go_sem, r0, r1, r2, r3]) rfl ⟨Or.inr ⟨fun ⟨a, b, ha, _, hab, _⟩ => by have h1 := Int.mul_nonneg ha ha; have h2 := HQ.out; omega, rfl⟩, b3 _ (extW.trans hE) (by omega)⟩
theorem p_Sqrt_any (h : NR w q L s A n c t B m d) (hL : L ≤ 50) : Calls Tryz.prog 45 #[.agg #[.bool s, .slice A n c, .bool t, .slice B m d]] w (RetSq q (L + 1) w) := by
  by_cases hq : 0 ≤ q.num
  · exact p_Sqrt_pos h hL hq
  · exact p_Sqrt_neg h hL (by omega)
end
end Go.Proofs.YtiioodgpkdbndaaGreatDoor
namespace Go.Proofs.YtiioodgpkdbndaaGreatDoor
/-- the examples of the document hold. -/
def Awake2 : Prop := ∀ w : World, Tab w → TabP w → Calls Tryz.prog 12 #[] w fun e w' => e = .returned (.bool true) ∧ Ext w w'
end Go.Proofs.YtiioodgpkdbndaaGreatDoor
namespace Go.Proofs.YtiioodgpkdbndaaGreatDoor
open Go.ChangeShapes Go.WideShapes Go.ChangeAt Go.RowKit Go.Joins
theorem Tryz.own : ownKnob Tryz.prog.godebug = none := by kernel_rfl
theorem Tryz.laidOut : laidOutB Tryz.prog = true := by kernel_rfl
section
variable {H : Type} {enc : TypeId × Value → H} {W : World} {base : Nat} {held : Bool}
end
end Go.Proofs.YtiioodgpkdbndaaGreatDoor
namespace Go.Proofs.YtiioodgpkdbndaaGreatDoor
open Go.RowKit
section
variable (s : ByteArray) (w : World)
theorem digs_at {s : ByteArray} (h : Digs s.data.toList) (k : Nat) (hk : k < s.size) : Dig s[k] := by
  refine h _ ?_
  have : s[k] = s.data.toList[k]'(by rw [← Lib.size_eq]; exact hk) := rfl
  rw [this]
  exact List.getElem_mem _
theorem digs_of {s : ByteArray} (h : ∀ k (hk : k < s.size), Dig s[k]) : Digs s.data.toList := by
  intro c hc
  obtain ⟨k, hk, rfl⟩ := List.getElem_of_mem hc
  exact h k (by rw [Lib.size_eq]; exact hk)
theorem dv_take (s : ByteArray) (k : Nat) (h : k < s.size) : dv (s.data.toList.take (k + 1)) = 10 * dv (s.data.toList.take k) + (s[k].toNat - 48) := by
  rw [List.take_succ_eq_append_getElem (by simpa using h), dv_snoc]; rfl
set_option maxHeartbeats 1000000 in
theorem dec_nd (f : Nat) (hf : f < s.size) (hs : s.size ≤ 100000000) (hd : ∀ k (hk : k < s.size), k < f → Dig s[k]) (hn : ¬ Dig s[f]) :
    Calls Tryz.prog 174 #[.string s] w fun e w' => e = .returned (.bool false) ∧ w = w' := by
  have HD := Lib.hid hd
  have HN := Lib.hid hn
  clear hd hn
  go_enter Tryz.func174, Tryz.ntmps174
  go_wp2
  go_loop [6] (fun i => ∃ k : Nat, k ≤ f ∧ i = .int .i64 (k : Int)) (fun i => f - (intOf i).toNat)
  case atStart => exact ⟨0, Nat.zero_le _, rfl⟩
  case round =>
    obtain ⟨k, hk, rfl⟩ := hrel
    by_cases hlt : k < f
    · obtain ⟨h1, h2⟩ := HD.out k (by omega) hlt
      have t1 : decide ((s[k].toNat : Int) < 48) = false := decide_eq_false (by omega)
      have t2 : decide ((57 : Int) < (s[k].toNat : Int)) = false := decide_eq_false (by omega)
      have hks : k < s.size := by omega
      go_wp2
      go_round
      case rel => exact ⟨k + 1, by omega, by go_num⟩
      case measure => simp [intOf]; omega
    · obtain rfl : f = k := by omega
      by_cases h48 : s[f].toNat < 48
      · have t1 : decide ((s[f].toNat : Int) < 48) = true := decide_eq_true (by omega)
        go_wp2
        go_ret
        exact ⟨rfl, rfl⟩
      · have t1 : decide ((s[f].toNat : Int) < 48) = false := decide_eq_false (by omega)
        have h57 : 57 < s[f].toNat := Nat.lt_of_not_le fun h => HN.out ⟨by omega, h⟩
        have t2 : decide ((57 : Int) < (s[f].toNat : Int)) = true := decide_eq_true (by omega)
        go_wp2
        go_ret
        exact ⟨rfl, rfl⟩
set_option maxHeartbeats 1000000 in
theorem dec_y (hs : s.size ≤ 100000000) (hd : Digs s.data.toList) (h1 : 1 ≤ s.size) (h0 : s[0].toNat ≠ 48) :
    Calls Tryz.prog 174 #[.string s] w fun e w' => e = .returned (.bool true) ∧ w = w' := by
  have HD := Lib.hid hd
  have e0 : s.data.toList = s[0] :: s.data.toList.drop 1 := by
    have hl : 0 < s.data.toList.length := by rw [← Lib.size_eq]; omega
    exact List.drop_eq_getElem_cons hl
  have b1 : (s.toList == [48]) = false := by
    rw [beq_eq_false_iff_ne, Lib.toList_data, e0]
    intro e
    injection e with e _
    exact h0 (by rw [e]; rfl)
  have b2 : s.toList.isEmpty = false := by rw [Lib.toList_data, e0]; rfl
  have b3 : ((s[0].toNat : Int) == 48) = false := by rw [beq_eq_false_iff_ne]; omega
  have b4 : ((s[0].toNat : Int) != 48) = true := by rw [bne_iff_ne]; omega
  have B1 := Lib.hid b1
  have B2 := Lib.hid b2
  have B3 := Lib.hid b3
  have B4 := Lib.hid b4
  clear b1 b2 b3 b4 e0 h0
  clear hd
  go_enter Tryz.func174, Tryz.ntmps174
  go_wp2
  go_loop [6] (fun i => ∃ k : Nat, k ≤ s.size ∧ i = .int .i64 (k : Int)) (fun i => s.size - (intOf i).toNat)
  case atStart => exact ⟨0, Nat.zero_le _, rfl⟩
  case round =>
    obtain ⟨k, hk, rfl⟩ := hrel
    by_cases hlt : k < s.size
    · obtain ⟨h1, h2⟩ := digs_at HD.out k hlt
      have t1 : decide ((s[k].toNat : Int) < 48) = false := decide_eq_false (by omega)
      have t2 : decide ((57 : Int) < (s[k].toNat : Int)) = false := decide_eq_false (by omega)
      go_wp2
      go_round
      case rel => exact ⟨k + 1, by omega, by go_num⟩
      case measure => simp [intOf]; omega
    · obtain rfl : k = s.size := by omega
      have b1 := B1.out
      have b2 := B2.out
      have b3 := B3.out
      have b4 := B4.out
      go_wp2
      go_ret
      exact ⟨rfl, rfl⟩
set_option maxHeartbeats 1000000 in
theorem dec_z (hs : s.size ≤ 100000000) (hd : Digs s.data.toList) (h1 : 2 ≤ s.size) (h0 : s[0].toNat = 48) :
    Calls Tryz.prog 174 #[.string s] w fun e w' => e = .returned (.bool false) ∧ w = w' := by
  have HD := Lib.hid hd
  have e0 : s.data.toList = s[0] :: s.data.toList.drop 1 := by
    have hl : 0 < s.data.toList.length := by rw [← Lib.size_eq]; omega
    exact List.drop_eq_getElem_cons hl
  have b1 : (s.toList == [48]) = false := by
    rw [beq_eq_false_iff_ne, Lib.toList_data, e0]
    intro e
    injection e with _ e
    have := congrArg List.length e
    rw [List.length_drop, ← Lib.size_eq] at this
    simp at this
    omega
  have b2 : s.toList.isEmpty = false := by rw [Lib.toList_data, e0]; rfl
  have b3 : ((s[0].toNat : Int) == 48) = true := by rw [beq_iff_eq]; omega
  have b4 : ((s[0].toNat : Int) != 48) = false := by rw [bne_eq_false_iff_eq]; omega
  have B1 := Lib.hid b1
  have B2 := Lib.hid b2
  have B3 := Lib.hid b3
  have B4 := Lib.hid b4
  clear b1 b2 b3 b4 e0 h0
  clear hd
  go_enter Tryz.func174, Tryz.ntmps174
  go_wp2
  go_loop [6] (fun i => ∃ k : Nat, k ≤ s.size ∧ i = .int .i64 (k : Int)) (fun i => s.size - (intOf i).toNat)
  case atStart => exact ⟨0, Nat.zero_le _, rfl⟩
  case round =>
    obtain ⟨k, hk, rfl⟩ := hrel
    by_cases hlt : k < s.size
    · obtain ⟨h1, h2⟩ := digs_at HD.out k hlt
      have t1 : decide ((s[k].toNat : Int) < 48) = false := decide_eq_false (by omega)
      have t2 : decide ((57 : Int) < (s[k].toNat : Int)) = false := decide_eq_false (by omega)
      go_wp2
      go_round
      case rel => exact ⟨k + 1, by omega, by go_num⟩
      case measure => simp [intOf]; omega
    · obtain rfl : k = s.size := by omega
      have b1 := B1.out
      have b2 := B2.out
      have b3 := B3.out
      have b4 := B4.out
      go_wp2
      go_ret
      exact ⟨rfl, rfl⟩
set_option maxHeartbeats 1000000 in
theorem dec_e (hs : s.size ≤ 100000000) (hd : Digs s.data.toList) (h1 : s.size = 0) :
    Calls Tryz.prog 174 #[.string s] w fun e w' => e = .returned (.bool false) ∧ w = w' := by
  have HD := Lib.hid hd
  have hl : s.data.toList = [] := List.eq_nil_of_length_eq_zero (by rw [← Lib.size_eq]; exact h1)
  have b1 : (s.toList == [48]) = false := by rw [beq_eq_false_iff_ne, Lib.toList_data, hl]; intro e; cases e
  have b2 : s.toList.isEmpty = true := by rw [Lib.toList_data, hl]; rfl
  have B1 := Lib.hid b1
  have B2 := Lib.hid b2
  have h2 : s.size ≤ 0 := by omega
  clear b1 b2 hl h1
  clear hd
  go_enter Tryz.func174, Tryz.ntmps174
  go_wp2
  go_loop [6] (fun i => ∃ k : Nat, k ≤ s.size ∧ i = .int .i64 (k : Int)) (fun i => s.size - (intOf i).toNat)
  case atStart => exact ⟨0, Nat.zero_le _, rfl⟩
  case round =>
    obtain ⟨k, hk, rfl⟩ := hrel
    by_cases hlt : k < s.size
    · obtain ⟨h1, h2⟩ := digs_at HD.out k hlt
      have t1 : decide ((s[k].toNat : Int) < 48) = false := decide_eq_false (by omega)
      have t2 : decide ((57 : Int) < (s[k].toNat : Int)) = false := decide_eq_false (by omega)
      go_wp2
      go_round
      case rel => exact ⟨k + 1, by omega, by go_num⟩
      case measure => simp [intOf]; omega
    · obtain rfl : k = s.size := by omega
      have b1 := B1.out
      have b2 := B2.out
      go_wp2
      go_ret
      exact ⟨rfl, rfl⟩
end
end Go.Proofs.YtiioodgpkdbndaaGreatDoor
namespace Go.Proofs.YtiioodgpkdbndaaGreatDoor
open Go.RowKit
/-- a row of words of the call's own, with room. -/
def Row (w : World) (base : Nat) (A : Option Addr) (c : Nat) (ns : List Nat) : Prop := W32 ns ∧ w.ownsRow base 71 1 (.slice A ns.length c) ns.length (ns.map Wd)
section
variable {A : Option Addr} {c n base : Nat} {xs ns : List Nat} {w : World}
theorem Row.own (h : Row w base A c ns) : Own w base A ns := (Own.of_row h.2 h.1).1
theorem Row.cap (h : Row w base A c ns) : ns.length ≤ c ∧ c ≤ maxLen := by
  rcases h.2.2 with ⟨hv, h0⟩ | ⟨g, cap, cur, hv, _, _, hcap, hm, _⟩
  · injection hv with _ _ h3
    subst h3
    exact ⟨by omega, by unfold maxLen; omega⟩
  · injection hv with _ _ h3
    subst h3
    exact ⟨hcap, hm⟩
theorem Row.parts (h : Row w base A c ns) (hn : 0 < ns.length) : ∃ g, A = some ⟨g, 0, none⟩ ∧ base ≤ g ∧ ns.length ≤ c ∧ c ≤ maxLen ∧ (∀ i (hi : i < ns.length), w.cell? ⟨g, i, none⟩ = some (.int .u32 (ns[i] : Nat))) ∧ (∀ i, w.frozen? ⟨g, i, none⟩ = false) ∧
    ∀ i (v : Int) (k : Nat), v = k → k < 4294967296 → Row (w.setCell ⟨g, i, none⟩ (.int .u32 v)) base A c (ns.set i k) := by
  obtain ⟨hw, hl, hr⟩ := h
  rcases hr with ⟨_, h0⟩ | ⟨g, cap, cur, hv, hb, hh, hcap, hm, hs, ht⟩
  · omega
  · injection hv with h1 _ h3
    subst h1
    subst h3
    rw [Nat.mul_one] at ht hs
    refine ⟨g, rfl, hb, hcap, hm, fun i hi => ?_, fun i => ?_, fun i v k hv hk => ?_⟩
    · have e : cur[i]? = some (Wd ns[i]) := by
        rw [← Array.getElem?_toList]
        have := congrArg (fun l => l[i]?) ht
        simp only [List.getElem?_take, hi, if_true, List.getElem?_map, List.getElem?_eq_getElem hi, Option.map_some] at this
        exact this
      exact (cell_of_row w g i cur _ (0, 0) hh).trans e
    · simp [World.frozen?, hh]
    · subst hv
      refine ⟨hw.set i hk, by simp, .inr ⟨g, c, cur.setIfInBounds i (Wd k), by rw [List.length_set], hb, ?_, by rw [List.length_set]; exact hcap, hm, by simp [hs], ?_⟩⟩
      · simp [World.setCell, Array.getElem?_modify, hh, Wd]
      · rw [List.length_set, Nat.mul_one, Array.toList_setIfInBounds, List.take_set, ht, List.map_set]
/-- the rounds of appendGroup. -/
structure GInv (xs : List Nat) (wt c0 k : Nat) (zs : List Nat) (cy : Nat) : Prop where
  len : zs.length = xs.length
  w32 : W32 zs
  hcy : cy ≤ 1000000000
  rest : zs.drop k = xs.drop k
  eq : val (zs.take k) + 4294967296 ^ k * cy = val (xs.take k) * wt + c0
theorem GInv.at_ {xs zs : List Nat} {wt c0 k cy : Nat} (h : GInv xs wt c0 k zs cy) (hk : k < zs.length) : zs[k] = xs[k]'(by rw [← h.len]; exact hk) := by
  have := congrArg (fun l => l[0]?) h.rest
  simp only [List.getElem?_drop, Nat.add_zero] at this
  rw [List.getElem?_eq_getElem hk, List.getElem?_eq_getElem (by rw [← h.len]; exact hk)] at this
  injection this
theorem GInv.step {xs zs : List Nat} {wt c0 k cy : Nat} (h : GInv xs wt c0 k zs cy) (hwt : wt ≤ 1000000000) (hk : k < zs.length) {s : Nat} (hs : s = cy + zs[k] * wt) : GInv xs wt c0 (k + 1) (zs.set k (s % 4294967296)) (s / 4294967296) := by
  have hz := h.w32.get hk
  have hcy := h.hcy
  have hm : zs[k] * wt ≤ 4294967295 * 1000000000 := Nat.mul_le_mul (by omega) hwt
  refine ⟨by rw [List.length_set]; exact h.len, h.w32.set k (Nat.mod_lt _ (by omega)), by omega, ?_, ?_⟩
  · rw [drop_set_succ]
    have := congrArg (List.drop 1) h.rest
    simpa [List.drop_drop] using this
  · rw [val_take_set _ hk, val_take_succ xs k (by rw [← h.len]; exact hk), Nat.add_mul, Nat.add_assoc, pow_carry, ← h.at_ hk]
    have e := h.eq
    rw [hs, Nat.mul_add, Nat.mul_assoc]
    omega
theorem GInv.done {xs zs : List Nat} {wt c0 cy : Nat} (h : GInv xs wt c0 xs.length zs cy) : val zs + 4294967296 ^ xs.length * cy = val xs * wt + c0 := by
  have := h.eq
  rwa [List.take_of_length_le (by rw [h.len]; omega), List.take_of_length_le (by omega)] at this
theorem Nrm.of_ge {zs : List Nat} (hw : W32 zs) (h : zs ≠ [] → 4294967296 ^ (zs.length - 1) ≤ val zs) : Nrm zs := by
  refine Nrm.of_last fun hn h0 => ?_
  have h1 := h (by intro e; rw [e] at hn; simp at hn)
  have h2 := val_split zs (zs.length - 1) (by omega)
  have h3 : zs.drop (zs.length - 1) = [zs[zs.length - 1]'(by omega)] := by
    rw [List.drop_eq_getElem_cons (by omega)]
    congr 1
    exact List.drop_of_length_le (by omega)
  rw [h3, h0] at h2
  have h4 := val_lt (hw.take (zs.length - 1))
  rw [List.length_take, Nat.min_eq_left (by omega)] at h4
  simp [val] at h2
  omega
theorem GInv.nrm {xs zs : List Nat} {wt c0 : Nat} (h : GInv xs wt c0 xs.length zs 0) (hwt : 1 ≤ wt) (hn : Nrm xs) : Nrm zs := by
  refine Nrm.of_ge h.w32 fun hne => ?_
  have e := h.done
  rw [Nat.mul_zero, Nat.add_zero] at e
  have hx : xs ≠ [] := by
    rintro rfl
    exact hne (List.eq_nil_of_length_eq_zero h.len)
  have h1 := hn.ge hx
  have h2 : val xs * 1 ≤ val xs * wt := Nat.mul_le_mul_left _ hwt
  rw [h.len, e]
  omega
theorem wt_int {x wt : Nat} (hx : x < 4294967296) (hw : wt ≤ 1000000000) : (x : Int) * (wt : Int) ≤ 4294967295000000000 ∧ 0 ≤ (x : Int) * (wt : Int) := by
  have h : x * wt ≤ 4294967295 * 1000000000 := Nat.mul_le_mul (by omega) hw
  have h2 : ((x * wt : Nat) : Int) ≤ 4294967295000000000 := by omega
  rw [Int.natCast_mul] at h2
  exact ⟨h2, Int.mul_nonneg (Int.natCast_nonneg _) (Int.natCast_nonneg _)⟩
theorem cast_ga (cy x wt : Nat) : (cy : Int) + (x : Int) * (wt : Int) = ((cy + x * wt : Nat) : Int) := by rw [Int.natCast_add, Int.natCast_mul]
set_option maxHeartbeats 2000000 in
theorem app_group {wt c0 : Nat} (hr : Row w base A c xs) (hb : base ≤ w.heap.size) (hn : xs.length = n) (hw1 : 1 ≤ wt) (hwt : wt ≤ 1000000000) (hc0 : c0 ≤ 1000000000) (h1 : n ≤ 100000) :
    Calls Tryz.prog 193 #[.slice A n c, .int .u64 (wt : Int), .int .u64 (c0 : Int)] w fun e w' => ∃ A' c' zs, e = .returned (.slice A' (List.length zs) c') ∧ Row w' base A' c' zs ∧ val zs = val xs * wt + c0 ∧ (Nrm xs → Nrm zs) ∧ zs.length ≤ n + 1 ∧ Below base w w' ∧ base ≤ w'.heap.size := by
  have Hn := Lib.hid hn
  clear hn
  go_enter Tryz.func193, Tryz.ntmps193
  go_wp2
  go_loopw [2, 11] (fun cr i wr => ∃ (k : Nat) (zs : List Nat) (cy : Nat), k ≤ n ∧ i = .int .i64 (k : Int) ∧ cr = .int .u64 (cy : Int) ∧ GInv xs wt c0 k zs cy ∧ Row wr base A c zs ∧ Below base w wr ∧ base ≤ wr.heap.size) (fun _ i _ => n - (intOf i).toNat)
  case atStart => exact ⟨0, xs, c0, by omega, rfl, rfl, ⟨rfl, hr.1, hc0, rfl, by simp [val]⟩, hr, Below.refl _ _, hb⟩
  case round =>
    obtain ⟨k, zs, cy, hk, rfl, rfl, hinv, hrow, hbel, hbs⟩ := hrel
    have hcy := hinv.hcy
    have hzl : n ≤ zs.length := by rw [hinv.len, Hn.out]; omega
    have hzl2 : zs.length ≤ n := by rw [hinv.len, Hn.out]; omega
    by_cases hlt : k < n
    · obtain ⟨g, rfl, hg, hcap, hm, hcell, hfz, hset⟩ := hrow.parts (by omega)
      have hc1 := hcell k (by omega)
      have hfk := hfz k
      have hzk := hinv.w32.get (k := k) (by omega)
      have hmi := (wt_int hzk hwt).1
      have hmj := (wt_int hzk hwt).2
      have HS := Lib.hid hset
      have hlc : n ≤ c := by omega
      clear hcell hfz hset hrow
      go_wp2
      go_roundw
      case rel => exact ⟨k + 1, _, (cy + zs[k] * wt) / 4294967296, by omega, by go_num, u64_div _ (cast_ga _ _ _), hinv.step hwt (by omega) rfl, HS.out k _ _ (u32_mod _ (cast_ga _ _ _)) (Nat.mod_lt _ (by omega)), hbel.setCell hg _, by simpa [World.setCell] using hbs⟩
      case measure => simp [intOf]; omega
    · have hk' : k = xs.length := by have := Hn.out; omega
      subst hk'
      have Hd := Lib.hid hinv.done
      by_cases hc0 : cy = 0
      · subst hc0
        have HN := Lib.hid (fun h => hinv.nrm hw1 h)
        have HL := Lib.hid hinv.len
        clear hinv
        go_wp2
        go_ret
        have hd := Hd.out
        rw [Nat.mul_zero, Nat.add_zero] at hd
        exact ⟨A, c, zs, ret_slice' (by have := HL.out; have := Hn.out; omega), hrow, hd, HN.out, by omega, hbel, hbs⟩
      · have t1 : (((cy : Nat) : Int) == 0) = false := by rw [beq_eq_false_iff_ne]; omega
        have t2 : (((cy : Nat) : Int) != 0) = true := by rw [bne_iff_ne]; omega
        obtain ⟨i0, hi, hz0, hz1, hz2⟩ := info_parts Tryz.infoW
        have hlz : zs.length = n := by omega
        have hown : wr.ownsRow base 71 1 (.slice A n c) n (zs.map Wd) := by have := hrow.2; rwa [hlz] at this
        have hw1' := hrow.1.append (W32.one (x := cy) (by omega))
        have hrd := (BlkN.lit wr [cy] #[.int .u32 (cy : Int)] rfl).rd0 (W32.one (by omega))
        have hnews := cells_of_rd hrd
        have Hlz := Lib.hid hlz
        have HNw := Lib.hid hnews
        have Hcy := Lib.hid hc0
        clear hinv hrow hlz hrd hnews hc0 hzl hzl2
        go_wp2_with (at_builtin; refine wpList_append_own _ rfl _ _ 84 rfl base 71 i0 (.int .u32 0) 1 4 Tryz.underlying84 hi hz0 hz1 hz2 rfl (by decide) _ n _ rfl (hown.alloc _) ⟨wr.heap.size, 0, none⟩ 1 1 ([cy].map Wd) rfl rfl HNw.out (oneCell_words [cy]) (by unfold maxLen; omega) (by omega) (by simp; omega) ?_; intro v' w1 hown' hgr _)
        go_ret
        have hlz := Hlz.out
        have hd := Hd.out
        have hv : val (zs ++ [cy]) = val xs * wt + c0 := by rw [val_append, val_one, Hlz.out]; rw [Hn.out] at hd; exact hd
        have hnr : Nrm (zs ++ [cy]) := Nrm.snoc zs Hcy.out
        rw [← List.map_append] at hown'
        have hln : (zs ++ [cy]).length = n + 1 := by simp [hlz]
        have hbl := Below.grown (hbel.alloc hbs (.cells #[.int .u32 (cy : Int)] 71)) hgr (by simp; omega) (fun j hj => (hown.lt j hj).1)
        rcases hown'.2 with ⟨rfl, h0⟩ | ⟨g', cap', cur', rfl, _⟩
        · omega
        · refine ⟨some ⟨g', 0, none⟩, cap', zs ++ [cy], ret_slice' hln.symm, ⟨hw1', by rw [hln]; exact hown'⟩, hv, fun _ => hnr, by omega, hbl, Nat.le_trans (by simp; omega) hgr.size⟩
end
end Go.Proofs.YtiioodgpkdbndaaGreatDoor
namespace Go.Proofs.YtiioodgpkdbndaaGreatDoor
open Go.RowKit
section
variable (s : ByteArray) (w : World)
theorem ten_pow {r : Nat} (h : r ≤ 8) : 10 ^ r ≤ 100000000 := Nat.le_trans (Nat.pow_le_pow_right (by omega) h) (by decide)
theorem made0 {w : World} {c : Nat} (hc : c ≤ maxLen) : Row (w.alloc (.cells (madeCells #[.int .u32 0] c) 71)) w.heap.size (some ⟨w.heap.size, 0, none⟩) c [] := by
  refine ⟨W32.nil, World.ownsRow_made w _ c (Nat.le_refl _) hc ?_⟩
  rw [madeCells_words]
  simp
/-- the state of the groups behind k of n digits. -/
structure PInv (l : List UInt8) (n k : Nat) (zs : List Nat) (gr r : Nat) : Prop where
  len : zs.length ≤ k
  nrm : Nrm zs
  glt : gr < 10 ^ r
  eq : val zs * 10 ^ r + gr = dv (l.take k)
  pos : r = 0 ∨ r + (n - k) % 9 ≤ 9 ∧ (n - k) % 9 ≠ 0
theorem PInv.r8 {l : List UInt8} {n k gr r : Nat} {zs : List Nat} (h : PInv l n k zs gr r) : r ≤ 8 := by
  rcases h.pos with h | ⟨h1, h2⟩ <;> omega
/-- a digit joins the group. -/
theorem PInv.dig {s : ByteArray} {n k gr r : Nat} {zs : List Nat} (h : PInv s.data.toList n k zs gr r) (hk : k < s.size) (hd : Dig s[k]) :
    10 * gr + (s[k].toNat - 48) < 10 ^ (r + 1) ∧ val zs * 10 ^ (r + 1) + (10 * gr + (s[k].toNat - 48)) = dv (s.data.toList.take (k + 1)) := by
  obtain ⟨h1, h2⟩ := hd
  have h3 := h.glt
  have h4 := h.eq
  rw [dv_take s k hk, ← h4, Nat.pow_succ]
  refine ⟨by omega, ?_⟩
  rw [Nat.mul_comm (10 ^ r) 10, ← Nat.mul_assoc, Nat.mul_comm (val zs) 10, Nat.mul_assoc]
  omega
theorem PInv.stay {s : ByteArray} {n k gr r : Nat} {zs : List Nat} (h : PInv s.data.toList n k zs gr r) (hk : k < s.size) (hn : s.size = n) (hd : Dig s[k]) (hm : (n - 1 - k) % 9 ≠ 0) :
    PInv s.data.toList n (k + 1) zs (10 * gr + (s[k].toNat - 48)) (r + 1) := by
  obtain ⟨h1, h2⟩ := h.dig hk hd
  refine ⟨by have := h.len; omega, h.nrm, h1, h2, .inr ?_⟩
  have hp := h.pos
  omega
theorem PInv.flush {s : ByteArray} {n k gr r : Nat} {zs zt : List Nat} (h : PInv s.data.toList n k zs gr r) (hk : k < s.size) (hd : Dig s[k]) (hv : val zt = val zs * 10 ^ (r + 1) + (10 * gr + (s[k].toNat - 48))) (hn : Nrm zt) (hl : zt.length ≤ zs.length + 1) :
    PInv s.data.toList n (k + 1) zt 0 0 := by
  obtain ⟨h1, h2⟩ := h.dig hk hd
  refine ⟨by have := h.len; omega, hn, by simp, ?_, .inl rfl⟩
  rw [hv, h2]; simp
theorem PInv.end_ {s : ByteArray} {n gr r : Nat} {zs : List Nat} (h : PInv s.data.toList n n zs gr r) (hn : s.size = n) : val zs = dv s.data.toList := by
  have hp := h.pos
  rw [Nat.sub_self] at hp
  have hr : r = 0 := by omega
  subst hr
  have h1 := h.glt
  have h2 := h.eq
  rw [List.take_of_length_le (by rw [← Lib.size_eq]; omega)] at h2
  simp at h1 h2
  omega
theorem mk_digits (n : Nat) (hn : n ≤ 100000) (W : World) :
    (Instr.makeSlice 84 (.int .i64 0) (.int .i64 ((n : Int) / 9 + 1))).run Tryz.prog W = .ok (.slice (some ⟨W.heap.size, 0, none⟩) 0 (n / 9 + 1)) (W.alloc (.cells (madeCells #[.int .u32 0] (n / 9 + 1)) 71)) := by
  obtain ⟨i0, hi, hz0, hz1, hz2⟩ := info_parts Tryz.infoW
  have := run_make_rowN (P := Tryz.prog) 84 71 i0 (.int .u32 0) Tryz.underlying84 hi hz0 .i64 .i64 0 (n / 9 + 1) (by omega) (by rw [hz2]; omega) (by omega) W
  rw [hz1, Nat.mul_one] at this
  exact this
set_option maxHeartbeats 2000000 in
theorem parse_digits (hd : Digs s.data.toList) (hs : s.size ≤ 100000) :
    Calls Tryz.prog 175 #[.string s] w (RetL (fun zs => val zs = dv s.data.toList ∧ Nrm zs ∧ zs.length ≤ s.size) w) := by
  have hmk := mk_digits s.size hs
  have HD := Lib.hid hd
  clear hd
  go_enter Tryz.func175, Tryz.ntmps175
  go_wp2
  go_loopw [3, 4, 5, 14] (fun ws gr wt i wr => ∃ (k r p g : Nat) (zs : List Nat) (A : Option Addr) (c : Nat), k ≤ s.size ∧ i = .int .i64 (k : Int) ∧ ws = .slice A zs.length c ∧ gr = .int .u64 (g : Int) ∧ wt = .int .u64 (p : Int) ∧ p = 10 ^ r ∧ PInv s.data.toList s.size k zs g r ∧ Row wr w.heap.size A c zs ∧ Below w.heap.size w wr ∧ w.heap.size ≤ wr.heap.size) (fun _ _ _ i _ => s.size - (intOf i).toNat)
  case atStart => exact ⟨0, 0, 1, 0, [], _, _, by omega, rfl, rfl, rfl, rfl, rfl, ⟨by simp, Nrm.nil, by simp, rfl, .inl rfl⟩, made0 (by unfold maxLen; omega), (Below.refl _ _).alloc (Nat.le_refl _) _, by simp⟩
  case round =>
    obtain ⟨k, r, p, g, zs, A, c, hk, rfl, rfl, rfl, rfl, hp, hinv, hrow, hbel, hbs⟩ := hrel
    have hr8 := hinv.r8
    have hp10 := ten_pow hr8
    have hp0 : 0 < 10 ^ r := Nat.pow_pos (by omega)
    have hgp := hinv.glt
    have hgb : (g : Int) ≤ 100000000 := by omega
    have hpb : (p : Int) ≤ 100000000 := by rw [hp]; omega
    have hp1 : 1 ≤ p := by rw [hp]; omega
    have hzk := hinv.len
    have Hp := Lib.hid hp
    have HI := Lib.hid hinv
    clear hp hinv hp10 hp0 hgp hr8
    by_cases hlt : k < s.size
    · have hdig := digs_at HD.out k hlt
      obtain ⟨h1, h2⟩ := hdig
      have hi1 : (48 : Int) ≤ (s[k].toNat : Int) := by omega
      have hi2 : (s[k].toNat : Int) ≤ 57 := by omega
      have E1 := Lib.hid (show (10 : Int) * (p : Int) = ((10 * p : Nat) : Int) by omega)
      have E2 := Lib.hid (show (10 : Int) * (g : Int) + ((s[k].toNat : Int) - 48) = ((10 * g + (s[k].toNat - 48) : Nat) : Int) by omega)
      by_cases hm : (s.size - 1 - k) % 9 = 0
      · have t1 : (((s.size : Int) - 1 - (k : Int)) % 9 == 0) = true := by rw [beq_iff_eq]; omega
        have Hm := Lib.hid hm
        clear hm
        go_wp2_with fail
        rw [E1.out, E2.out]
        have hk9 := HI.out.r8
        have h10 := ten_pow hk9
        have hdg := HI.out.dig hlt ⟨h1, h2⟩
        have hgl : 10 * g + (s[k].toNat - 48) ≤ 1000000000 := by omega
        refine (app_group hrow hbs rfl (by omega) (by omega) hgl (by omega)).mono ?_
        rintro e w2 ⟨A2, c2, zt, rfl, hrow2, hv2, hn2, hl2, hbel2, hbs2⟩
        have hfl := HI.out.flush hlt ⟨h1, h2⟩ (zt := zt) (by rw [hv2, Hp.out, Nat.pow_succ, Nat.mul_comm 10]) (hn2 HI.out.nrm) hl2
        have HF := Lib.hid hfl
        clear hfl hv2 hn2 hdg h10 hk9
        go_wp2_with fail
        go_roundw
        case rel => exact ⟨k + 1, 0, 1, 0, zt, A2, c2, by omega, by go_num, rfl, rfl, rfl, rfl, HF.out, hrow2, hbel.trans hbel2, hbs2⟩
        case measure => simp [intOf]; omega
      · have t1 : (((s.size : Int) - 1 - (k : Int)) % 9 == 0) = false := by rw [beq_eq_false_iff_ne]; omega
        have Hm := Lib.hid hm
        clear hm
        go_wp2_with fail
        go_roundw
        case rel => exact ⟨k + 1, r + 1, 10 * p, 10 * g + (s[k].toNat - 48), zs, A, c, by omega, by go_num, rfl, congrArg (Value.int .u64) E2.out, congrArg (Value.int .u64) E1.out, by rw [Hp.out, Nat.pow_succ, Nat.mul_comm], HI.out.stay hlt rfl ⟨h1, h2⟩ Hm.out, hrow, hbel, hbs⟩
        case measure => simp [intOf]; omega
    · obtain rfl : k = s.size := by omega
      go_wp2_with fail
      go_ret
      have hc := hrow.cap
      exact ⟨A, c, zs, rfl, hrow.own.rd, hc.1, hc.2, ⟨HI.out.end_ rfl, HI.out.nrm, hzk⟩, hbel⟩
end
end Go.Proofs.YtiioodgpkdbndaaGreatDoor
namespace Go.Proofs.YtiioodgpkdbndaaGreatDoor
open Go.RowKit
theorem first_of {P : Nat → Prop} : ∀ (n k : Nat), k < n → P k → ∃ f, f ≤ k ∧ P f ∧ ∀ j, j < f → ¬ P j := by
  intro n
  induction n with
  | zero => intro k hk; omega
  | succ n ih =>
    intro k hk hp
    by_cases h : ∃ j, j < k ∧ P j
    · obtain ⟨j, hj, hpj⟩ := h
      obtain ⟨f, hf, h1, h2⟩ := ih j (by omega) hpj
      exact ⟨f, by omega, h1, h2⟩
    · exact ⟨k, Nat.le_refl _, hp, fun j hj hpj => h ⟨j, hj, hpj⟩⟩
theorem bytes_ext {a b : ByteArray} (h : a.data.toList = b.data.toList) : a = b := congrArg ByteArray.mk (Array.toList_inj.1 h)
section
variable {s : ByteArray} {w : World}
theorem get0 {c : UInt8} {t : List UInt8} (h : s.data.toList = c :: t) : ∃ hk : 0 < s.size, s[0] = c ∧ s.size = t.length + 1 := by
  have hl : s.size = t.length + 1 := by rw [Lib.size_eq, h]; rfl
  refine ⟨by omega, ?_, hl⟩
  have e : s[0]'(by omega) = s.data.toList[0]'(by rw [h]; simp) := rfl
  rw [e]
  simp [h]
theorem dec_true (hs : s.size ≤ 100000000) (hd : Digs s.data.toList) (hc : Canon s.data.toList) : Calls Tryz.prog 174 #[.string s] w fun e w' => e = .returned (.bool true) ∧ w = w' := by
  rcases hc with h | ⟨c, t, h, hc⟩
  · obtain rfl : s = ⟨#[48]⟩ := bytes_ext h
    exact dec_0 w
  · obtain ⟨hk, h0, hl⟩ := get0 h
    exact dec_y s w hs hd (by omega) (by rw [h0]; exact fun e => hc (u8_48 e))
theorem dec_false (hs : s.size ≤ 100000000) (h : ¬ (Digs s.data.toList ∧ Canon s.data.toList)) : Calls Tryz.prog 174 #[.string s] w fun e w' => e = .returned (.bool false) ∧ w = w' := by
  by_cases hd : Digs s.data.toList
  · have hc : ¬ Canon s.data.toList := fun hc => h ⟨hd, hc⟩
    match hl : s.data.toList with
    | [] => exact dec_e s w hs hd (by rw [Lib.size_eq, hl]; rfl)
    | c :: t =>
      obtain ⟨hk, h0, hsz⟩ := get0 hl
      by_cases hc48 : c = 48
      · subst hc48
        have ht : t ≠ [] := by rintro rfl; exact hc (.inl hl)
        have := List.length_pos_iff.2 ht
        exact dec_z s w hs hd (by omega) (by rw [h0]; rfl)
      · exact absurd (.inr ⟨c, t, hl, hc48⟩) hc
  · have hex : ∃ k, ∃ hk : k < s.size, ¬ Dig s[k] := by
      refine Classical.byContradiction fun hno => hd (digs_of fun k hk => Classical.byContradiction fun hn => hno ⟨k, hk, hn⟩)
    obtain ⟨k, hk, hn⟩ := hex
    obtain ⟨f, hf, h1, h2⟩ := first_of (P := fun k => ∃ hk : k < s.size, ¬ Dig s[k]) (k + 1) k (by omega) ⟨hk, hn⟩
    obtain ⟨hfs, hfn⟩ := h1
    exact dec_nd s w f hfs hs (fun j hj hjf => Classical.byContradiction fun hn => h2 j hjf ⟨hj, hn⟩) hfn
theorem cut_neg {t : List UInt8} (hs : s.size ≤ 100000000) (h : s.data.toList = 45 :: t) : (s.extract 1 s.size).data.toList = t ∧ (s.extract 1 s.size).size = t.length ∧
    Calls Tryz.prog 84 #[.string s, .string ⟨#[45]⟩] w fun e w' => e = .returned (.tuple #[.string (s.extract 1 s.size), .bool true]) ∧ w = w' := by
  have hl : s.size = t.length + 1 := by rw [Lib.size_eq, h]; rfl
  have he : (s.extract 1 s.size).data.toList = t := by
    rw [Lib.extract_data, h, hl]
    simp
  refine ⟨he, by rw [Lib.size_eq, he], cut_t s w (by omega) hs ?_⟩
  rw [Lib.extract_toList, h]
  rfl
theorem cut_pos (hs : s.size ≤ 100000000) (h : ∀ t, s.data.toList ≠ 45 :: t) : Calls Tryz.prog 84 #[.string s, .string ⟨#[45]⟩] w fun e w' => e = .returned (.tuple #[.string s, .bool false]) ∧ w = w' := by
  refine cut_f s w ?_
  match hl : s.data.toList with
  | [] => exact .inl (by rw [Lib.size_eq, hl]; rfl)
  | c :: t =>
    have hsz : s.size = t.length + 1 := by rw [Lib.size_eq, hl]; rfl
    refine .inr ⟨by omega, hs, ?_⟩
    rw [Lib.extract_toList, hl, beq_eq_false_iff_ne]
    intro e
    simp at e
    exact h t (by rw [hl, e])
set_option maxHeartbeats 1000000 in
theorem parse_pe (hs : s.size ≤ 60000) (hp : ∀ t, s.data.toList ≠ 45 :: t) (hn : ¬ (Digs s.data.toList ∧ Canon s.data.toList)) : Calls Tryz.prog 143 #[.string s] w (RetIE 0 0 2 w) := by
  have HC := Lib.hid (fun w => cut_pos (w := w) (s := s) (by omega) hp)
  have HN := Lib.hid hn
  clear hp hn
  have hz := Box.new w 24 #[.bool false, .slice none 0 0]
  have z0 := hz.cell 0 (.bool false) rfl
  have z1 := hz.cell 1 (.slice none 0 0) rfl
  have f0 := hz.frozen 0
  have f1 := hz.frozen 1
  have e1 := (Ext.refl w).alloc (.cells #[.bool false, .slice none 0 0] 24)
  clear hz
  go_enter Tryz.func143, Tryz.ntmps143
  go_wp2_with fail
  refine (HC.out _).mono ?_
  rintro e w1 ⟨rfl, rfl⟩
  go_wp2_with fail
  refine (dec_false (by omega) HN.out).mono ?_
  rintro e w1 ⟨rfl, rfl⟩
  go_wp2_with fail
  exact bodyPost_ret (v := .tuple #[.agg #[.bool false, .slice none 0 0], .int .i64 2]) (by simp [results, Tryz.results143, go_sem, z0, z1]) rfl ⟨false, none, 0, [], rfl, Rd.nil _ _, by simp, by unfold maxLen; omega, IsInt.nil false, by simp, e1⟩
set_option maxHeartbeats 1000000 in
theorem parse_p (hs : s.size ≤ 60000) (hp : ∀ t, s.data.toList ≠ 45 :: t) (hd : Digs s.data.toList) (hc : Canon s.data.toList) {z : Int} (hzz : z = (dv s.data.toList : Int)) : Calls Tryz.prog 143 #[.string s] w (RetIE z s.size 0 w) := by
  have HC := Lib.hid (fun w => cut_pos (w := w) (s := s) (by omega) hp)
  have HD := Lib.hid (And.intro hd hc)
  have Hz := Lib.hid hzz
  have hsz : s.size ≤ 60000 := hs
  clear hp hd hc hzz
  have hz := Box.new w 24 #[.bool false, .slice none 0 0]
  have z0 := hz.cell 0 (.bool false) rfl
  have z1 := hz.cell 1 (.slice none 0 0) rfl
  have f0 := hz.frozen 0
  have f1 := hz.frozen 1
  have e1 := (Ext.refl w).alloc (.cells #[.bool false, .slice none 0 0] 24)
  have hg0 : w.heap.size ≤ w.heap.size := Nat.le_refl _
  go_enter Tryz.func143, Tryz.ntmps143
  go_wp2_with fail
  refine (HC.out _).mono ?_
  rintro e w1 ⟨rfl, rfl⟩
  go_wp2_with fail
  refine (dec_true (by omega) HD.out.1 HD.out.2).mono ?_
  rintro e w1 ⟨rfl, rfl⟩
  go_wp2_with fail
  refine (parse_digits s _ HD.out.1 (by omega)).mono ?_
  rintro e w2 ⟨A2, c2, zs, rfl, hr2, hc2, hm2, ⟨hv2, hn2, hl2⟩, hext2⟩
  have Hv2 := Lib.hid hv2
  clear hv2
  go_wp2_with fail
  refine (int_signed rfl hr2 hc2 hm2 hn2).mono ?_
  rintro e w3 ⟨b3, A3, c3, rs, rfl, hr3, hc3, hm3, hi3, hl3, hext3⟩
  have ext3 := hext2.trans hext3
  have bz3 := hz.ext ext3
  clear z0 z1 f0 f1
  have z0 := bz3.cell 0 (.bool false) rfl
  have z1 := bz3.cell 1 (.slice none 0 0) rfl
  have f0 := bz3.frozen 0
  have f1 := bz3.frozen 1
  go_wp2_with fail
  obtain ⟨r1, r2, r3, r4⟩ := fin_pair (b := b3) (n := rs.length) (c := c3) (e1.trans ext3) (Nat.le_refl _) bz3 hr3
  exact bodyPost_ret (v := .tuple #[.agg #[.bool b3, .slice A3 rs.length c3], .int .i64 0]) (by simp [results, Tryz.results143, go_sem, r3, r4]) rfl ⟨b3, A3, c3, rs, rfl, r1, hc3, hm3, by have h := hi3; rw [show ival false zs = z by rw [Hz.out, ← Hv2.out]; rfl] at h; exact h, by omega, r2⟩
end
end Go.Proofs.YtiioodgpkdbndaaGreatDoor
namespace Go.Proofs.YtiioodgpkdbndaaGreatDoor
open Go.RowKit
attribute [local go_sem ↓] Go.wp_at_zero Go.wp_at_succ
theorem cutl_miss (s : ByteArray) (c : UInt8) (w : World) (hi : Lib.indexByte s.data.toList c = -1) :
    Calls Tryz.prog 140 #[.string s, .string ⟨#[c]⟩] w fun e w' => e = .returned (.tuple #[.string s, .string ⟨#[]⟩, .bool false]) ∧ Ext w w' := by
  have HI := Lib.hid hi
  clear hi
  go_enter Tryz.func140, Tryz.ntmps140
  go_wp2_with (go_at_call 167; refine (Tryz.stringslite_Index_one s c _).mono ?_; rintro e w' ⟨rfl, rfl⟩; rw [HI.out])
  go_ret3
  exact ⟨rfl, Ext.refl _⟩
theorem cutl_hit (s : ByteArray) (c : UInt8) (w : World) (i : Nat) (hs : s.size ≤ 100000) (hi : Lib.indexByte s.data.toList c = (i : Int)) (hlt : i < s.size) :
    Calls Tryz.prog 140 #[.string s, .string ⟨#[c]⟩] w fun e w' => e = .returned (.tuple #[.string (s.extract 0 i), .string (s.extract (i + 1) s.size), .bool true]) ∧ Ext w w' := by
  have HI := Lib.hid hi
  clear hi
  have c1 : (0 : Int) ≤ (i : Int) := by omega
  have c2 : (i : Int) ≤ (s.size : Int) := by omega
  have c3 : (0 : Int) ≤ (i : Int) + 1 := by omega
  have c4 : (i : Int) + 1 ≤ (s.size : Int) := by omega
  have hsz : (⟨#[c]⟩ : ByteArray).size = 1 := rfl
  go_enter Tryz.func140, Tryz.ntmps140
  go_wp2_with (go_at_call 167; refine (Tryz.stringslite_Index_one s c _).mono ?_; rintro e w' ⟨rfl, rfl⟩; rw [HI.out])
  go_quiet (fail)
  go_wp2
  go_ret3
  exact ⟨rfl, (Ext.refl _).drewN _⟩
theorem cut_miss (s : ByteArray) (c : UInt8) (w : World) (hi : Lib.indexByte s.data.toList c = -1) :
    Calls Tryz.prog 113 #[.string s, .string ⟨#[c]⟩] w fun e w' => e = .returned (.tuple #[.string s, .string ⟨#[]⟩, .bool false]) ∧ Ext w w' := by
  have HI := Lib.hid hi
  clear hi
  go_enter Tryz.func113, Tryz.ntmps113
  go_wp2_with (go_at_call 140; refine (cutl_miss s c _ HI.out).mono ?_; rintro e w' ⟨rfl, hx⟩)
  go_ret3
  exact ⟨rfl, hx⟩
theorem cut_hit (s : ByteArray) (c : UInt8) (w : World) (i : Nat) (hs : s.size ≤ 100000) (hi : Lib.indexByte s.data.toList c = (i : Int)) (hlt : i < s.size) :
    Calls Tryz.prog 113 #[.string s, .string ⟨#[c]⟩] w fun e w' => e = .returned (.tuple #[.string (s.extract 0 i), .string (s.extract (i + 1) s.size), .bool true]) ∧ Ext w w' := by
  have HI := Lib.hid hi
  clear hi
  go_enter Tryz.func113, Tryz.ntmps113
  go_wp2_with (go_at_call 140; refine (cutl_hit s c _ i hs HI.out hlt).mono ?_; rintro e w' ⟨rfl, hx⟩)
  go_ret3
  exact ⟨rfl, hx⟩
set_option maxHeartbeats 1000000 in
theorem dig_t (s : ByteArray) (w : World) (hs : s.size ≤ 100000000) (hd : Digs s.data.toList) (h1 : 1 ≤ s.size) :
    Calls Tryz.prog 141 #[.string s] w fun e w' => e = .returned (.bool true) ∧ w = w' := by
  have HD := Lib.hid hd
  have e0 : s.data.toList = s[0] :: s.data.toList.drop 1 := by
    have hl : 0 < s.data.toList.length := by rw [← Lib.size_eq]; omega
    exact List.drop_eq_getElem_cons hl
  have b2 : s.toList.isEmpty = false := by rw [Lib.toList_data, e0]; rfl
  have B2 := Lib.hid b2
  clear b2 e0 hd
  go_enter Tryz.func141, Tryz.ntmps141
  go_wp2
  go_loop [6] (fun i => ∃ k : Nat, k ≤ s.size ∧ i = .int .i64 (k : Int)) (fun i => s.size - (intOf i).toNat)
  case atStart => exact ⟨0, Nat.zero_le _, rfl⟩
  case round =>
    obtain ⟨k, hk, rfl⟩ := hrel
    by_cases hlt : k < s.size
    · obtain ⟨h1, h2⟩ := digs_at HD.out k hlt
      have t1 : decide ((s[k].toNat : Int) < 48) = false := decide_eq_false (by omega)
      have t2 : decide ((57 : Int) < (s[k].toNat : Int)) = false := decide_eq_false (by omega)
      go_wp2
      go_round
      case rel => exact ⟨k + 1, by omega, by go_num⟩
      case measure => simp [intOf]; omega
    · obtain rfl : k = s.size := by omega
      have b2 := B2.out
      go_wp2
      go_ret
      exact ⟨rfl, rfl⟩
set_option maxHeartbeats 1000000 in
theorem nat_t (s : ByteArray) (w : World) (hs : s.size ≤ 100000000) (hd : Digs s.data.toList) (hc : Canon s.data.toList) :
    Calls Tryz.prog 116 #[.string s] w fun e w' => e = .returned (.bool true) ∧ w = w' := by
  rcases hc with h | ⟨c, t, h, hc⟩
  · obtain rfl : s = ⟨#[48]⟩ := bytes_ext h
    go_enter Tryz.func116, Tryz.ntmps116
    go_wp2_with (go_at_call 141; refine (dig_t ⟨#[48]⟩ _ hs hd (by decide)).mono ?_; rintro e w' ⟨rfl, rfl⟩)
    go_ret
    exact ⟨rfl, rfl⟩
  · obtain ⟨hk, h0, hl⟩ := get0 h
    have hne : s[0].toNat ≠ 48 := by rw [h0]; exact fun e => hc (u8_48 e)
    have h1 : 1 ≤ s.size := by omega
    have b1 : (s.toList == [48]) = false := by
      rw [beq_eq_false_iff_ne, Lib.toList_data, h]
      intro e
      injection e with e _
      exact hc e
    have b4 : ((s[0].toNat : Int) != 48) = true := by rw [bne_iff_ne]; omega
    clear h0 hl hne h hc
    go_enter Tryz.func116, Tryz.ntmps116
    go_wp2_with (go_at_call 141; refine (dig_t s _ hs hd h1).mono ?_; rintro e w' ⟨rfl, rfl⟩)
    go_ret
    exact ⟨rfl, rfl⟩
theorem dv_zero_cons (l : List UInt8) : dv (48 :: l) = dv l := by simp [dv]
theorem trim_zeros (l : List UInt8) : dv (Lib.trimLeftB l 48) = dv l ∧ (Lib.trimLeftB l 48).length ≤ l.length ∧ (Digs l → Digs (Lib.trimLeftB l 48)) ∧ (Lib.trimLeftB l 48 = [] ∨ ∃ c t, Lib.trimLeftB l 48 = c :: t ∧ c ≠ 48) := by
  unfold Lib.trimLeftB
  induction l with
  | nil => exact ⟨rfl, Nat.le_refl _, fun h => h, .inl rfl⟩
  | cons c t ih =>
    by_cases hc : c = 48
    · subst hc
      rw [show List.dropWhile (· == (48 : UInt8)) (48 :: t) = List.dropWhile (· == 48) t from by simp [List.dropWhile], dv_zero_cons]
      exact ⟨ih.1, by rw [List.length_cons]; omega, fun h => ih.2.2.1 (fun x hx => h x (List.mem_cons_of_mem _ hx)), ih.2.2.2⟩
    · have : List.dropWhile (· == (48 : UInt8)) (c :: t) = c :: t := List.dropWhile_cons_of_neg (by simpa using hc)
      rw [this]
      exact ⟨rfl, Nat.le_refl _, fun h => h, .inr ⟨c, t, rfl, hc⟩⟩
set_option maxHeartbeats 2000000 in
theorem p_natural (s : ByteArray) (w : World) {L : Nat} (hs : s.size ≤ 60000) (hd : Digs s.data.toList) (hL : s.size ≤ L) :
    Calls Tryz.prog 117 #[.string s] w (RetNI (dv s.data.toList : Int) L w) := by
  obtain ⟨t1, t2, t3, t4⟩ := trim_zeros s.data.toList
  obtain ⟨S, hS⟩ : ∃ S : ByteArray, S = ⟨(Lib.trimLeftB s.data.toList 48).toArray⟩ := ⟨_, rfl⟩
  have hSl : S.data.toList = Lib.trimLeftB s.data.toList 48 := by rw [hS]
  have hSz : S.size ≤ s.size := by rw [Lib.size_eq, hSl, Lib.size_eq]; exact t2
  have hp : ∀ w, Calls Tryz.prog 143 #[.string S] w fun e w' => ∃ er, RetIE (dv s.data.toList : Int) s.size er w e w' := by
    intro w
    rcases t4 with h0 | ⟨c, t, h0, hc⟩
    · have hz : dv s.data.toList = 0 := by rw [← t1, h0]; rfl
      rw [hz]
      refine (parse_pe (s := S) (by omega) (fun t ht => by rw [hSl, h0] at ht; cases ht) (fun h => ?_)).mono ?_
      · rw [hSl, h0] at h
        rcases h.2 with h | ⟨c, t, h, _⟩ <;> cases h
      · rintro e w' ⟨b, A, c, ys, rfl, g1, g2, g3, g4, g5, g6⟩
        exact ⟨2, b, A, c, ys, rfl, g1, g2, g3, g4, by omega, g6⟩
    · have hds := t3 hd
      refine (parse_p (s := S) (z := (dv s.data.toList : Int)) (by omega) (fun t' ht => ?_) (by rw [hSl]; exact hds) (.inr ⟨c, t, by rw [hSl, h0], hc⟩) (by rw [hSl, t1])).mono ?_
      · rw [hSl, h0] at ht
        injection ht with ht _
        subst ht
        have := hds 45 (by rw [h0]; exact List.mem_cons_self ..)
        exact absurd this.1 (by decide)
      · rintro e w' ⟨b, A, c, ys, rfl, g1, g2, g3, g4, g5, g6⟩
        exact ⟨0, b, A, c, ys, rfl, g1, g2, g3, g4, by omega, g6⟩
  have HP := Lib.hid hp
  have HS := Lib.hid hS
  clear t1 t2 t3 t4 hSl hp hS
  go_enter Tryz.func117, Tryz.ntmps117
  go_upto_region 1 with (fail)
  obtain ⟨W, hW, extW, bz, hz⟩ := box1 w 24 #[Value.bool false, Value.slice none 0 0]
  rw [← hW]
  clear hW
  go_wp2_with fail
  refine (Tryz.strings_TrimLeft_one s 48 (by decide) _).mono ?_
  rintro e w1 ⟨rfl, rfl⟩
  rw [← HS.out]
  go_wp2_with fail
  refine (HP.out _).mono ?_
  rintro e wb ⟨er, s1, A1, c1, ys, rfl, g1, g2, g3, g4, g5, hx1⟩
  have hq : NI wb (dv s.data.toList : Int) L s1 A1 ys.length c1 := ⟨ys, rfl, g1, g2, g3, g4, by omega⟩
  obtain ⟨n1, hn1⟩ : ∃ n1, ys.length = n1 := ⟨_, rfl⟩
  rw [hn1] at hq ⊢
  clear g1 g2 g3 g4 g5 hn1 HP HS
  go_upto_region 2 with (fail)
  refine at_world (fun V => Ext w1 V ∧ Box V wb.heap.size 24 #[.bool s1, .slice A1 n1 c1] ∧ NI V (dv s.data.toList : Int) L s1 A1 n1 c1) ⟨hx1.alloc _, Box.new wb _ _, hq.ext ((Ext.refl wb).alloc _)⟩ ?_
  generalize wb.heap.size = g5
  clear hq hx1
  rintro V ⟨EV, b5, hqV⟩
  have x0 := b5.cell 0 _ rfl
  have x1 := b5.cell 1 _ rfl
  have z0 := (bz.ext EV).cell 0 _ rfl
  have z1 := (bz.ext EV).cell 1 _ rfl
  have f0 := (bz.ext EV).frozen 0
  have f1 := (bz.ext EV).frozen 1
  go_wp2_with fail
  obtain ⟨b1, b2, b3, b4⟩ := fin_dual (s := s1) (A := A1) (n := n1) (c := c1) (bz.ext EV)
  have r0 := b1.cell 0 (.bool s1) rfl
  have r1 := b1.cell 1 (.slice A1 n1 c1) rfl
  unfold set2 at r0 r1
  refine bodyPost_ret (v := .agg #[.bool s1, .slice A1 n1 c1]) (by simp [results, Tryz.results117, go_sem, r0, r1]) rfl ⟨s1, A1, n1, c1, rfl, ?_, b3 _ (extW.trans EV) (by omega)⟩
  exact b2 _ _ _ _ _ _ hqV
set_option maxHeartbeats 1000000 in
theorem dig_e (s : ByteArray) (w : World) (hs : s.size ≤ 100000000) (h1 : s.data.toList = []) :
    Calls Tryz.prog 141 #[.string s] w fun e w' => e = .returned (.bool false) ∧ w = w' := by
  have hsz : s.size ≤ 0 := by rw [Lib.size_eq, h1]; exact Nat.le_refl 0
  have b2 : s.toList.isEmpty = true := by rw [Lib.toList_data, h1]; rfl
  have B2 := Lib.hid b2
  clear b2 h1
  go_enter Tryz.func141, Tryz.ntmps141
  go_wp2
  go_loop [6] (fun i => ∃ k : Nat, k ≤ s.size ∧ i = .int .i64 (k : Int)) (fun i => s.size - (intOf i).toNat)
  case atStart => exact ⟨0, Nat.zero_le _, rfl⟩
  case round =>
    obtain ⟨k, hk, rfl⟩ := hrel
    obtain rfl : k = s.size := by omega
    have b2 := B2.out
    go_wp2
    go_ret
    exact ⟨rfl, rfl⟩
set_option maxHeartbeats 1000000 in
theorem dig_nd (s : ByteArray) (w : World) (f : Nat) (hf : f < s.size) (hs : s.size ≤ 100000000) (hd : ∀ k (hk : k < s.size), k < f → Dig s[k]) (hn : ¬ Dig s[f]) :
    Calls Tryz.prog 141 #[.string s] w fun e w' => e = .returned (.bool false) ∧ w = w' := by
  have HD := Lib.hid hd
  have HN := Lib.hid hn
  clear hd hn
  go_enter Tryz.func141, Tryz.ntmps141
  go_wp2
  go_loop [6] (fun i => ∃ k : Nat, k ≤ f ∧ i = .int .i64 (k : Int)) (fun i => f - (intOf i).toNat)
  case atStart => exact ⟨0, Nat.zero_le _, rfl⟩
  case round =>
    obtain ⟨k, hk, rfl⟩ := hrel
    by_cases hlt : k < f
    · obtain ⟨h1, h2⟩ := HD.out k (by omega) hlt
      have t1 : decide ((s[k].toNat : Int) < 48) = false := decide_eq_false (by omega)
      have t2 : decide ((57 : Int) < (s[k].toNat : Int)) = false := decide_eq_false (by omega)
      have hks : k < s.size := by omega
      go_wp2
      go_round
      case rel => exact ⟨k + 1, by omega, by go_num⟩
      case measure => simp [intOf]; omega
    · obtain rfl : f = k := by omega
      by_cases h48 : s[f].toNat < 48
      · have t1 : decide ((s[f].toNat : Int) < 48) = true := decide_eq_true (by omega)
        go_wp2
        go_ret
        exact ⟨rfl, rfl⟩
      · have t1 : decide ((s[f].toNat : Int) < 48) = false := decide_eq_false (by omega)
        have h57 : 57 < s[f].toNat := Nat.lt_of_not_le fun h => HN.out ⟨by omega, h⟩
        have t2 : decide ((57 : Int) < (s[f].toNat : Int)) = true := decide_eq_true (by omega)
        go_wp2
        go_ret
        exact ⟨rfl, rfl⟩
theorem dig_f (s : ByteArray) (w : World) (hs : s.size ≤ 100000000) (h : ¬ (Digs s.data.toList ∧ s.data.toList ≠ [])) :
    Calls Tryz.prog 141 #[.string s] w fun e w' => e = .returned (.bool false) ∧ w = w' := by
  by_cases h0 : s.data.toList = []
  · exact dig_e s w hs h0
  · have hd : ¬ Digs s.data.toList := fun hd => h ⟨hd, h0⟩
    have hex : ∃ k, ∃ hk : k < s.size, ¬ Dig s[k] := by
      refine Classical.byContradiction fun hno => hd (digs_of fun k hk => Classical.byContradiction fun hn => hno ⟨k, hk, hn⟩)
    obtain ⟨k, hk, hn⟩ := hex
    obtain ⟨f, hf, h1, h2⟩ := first_of (P := fun k => ∃ hk : k < s.size, ¬ Dig s[k]) (k + 1) k (by omega) ⟨hk, hn⟩
    obtain ⟨hfs, hfn⟩ := h1
    exact dig_nd s w f hfs hs (fun j hj hjf => Classical.byContradiction fun hn => h2 j hjf ⟨hj, hn⟩) hfn
set_option maxHeartbeats 1000000 in
theorem nat_f (s : ByteArray) (w : World) (hs : s.size ≤ 100000000) (h : ¬ (Digs s.data.toList ∧ Canon s.data.toList)) :
    Calls Tryz.prog 116 #[.string s] w fun e w' => e = .returned (.bool false) ∧ w = w' := by
  by_cases hd : Digs s.data.toList ∧ s.data.toList ≠ []
  · have hc : ¬ Canon s.data.toList := fun hc => h ⟨hd.1, hc⟩
    match hl : s.data.toList with
    | [] => exact absurd hl hd.2
    | c :: t =>
      by_cases hc48 : c = 48
      · subst hc48
        obtain ⟨hk, h0, hsz⟩ := get0 hl
        have ht : t ≠ [] := by rintro rfl; exact hc (.inl hl)
        have h1 : 1 ≤ s.size := by omega
        have b1 : (s.toList == [48]) = false := by
          rw [beq_eq_false_iff_ne, Lib.toList_data, hl]
          intro e
          injection e with _ e
          exact ht e
        have b4 : ((s[0].toNat : Int) != 48) = false := by rw [h0]; rfl
        have HD := Lib.hid hd.1
        clear h0 hl hd h hc ht
        go_enter Tryz.func116, Tryz.ntmps116
        go_wp2_with (go_at_call 141; refine (dig_t s _ hs HD.out h1).mono ?_; rintro e w' ⟨rfl, rfl⟩)
        go_ret
        exact ⟨rfl, rfl⟩
      · exact absurd (.inr ⟨c, t, hl, hc48⟩) hc
  · have HD := Lib.hid hd
    clear hd h
    go_enter Tryz.func116, Tryz.ntmps116
    go_wp2_with (go_at_call 141; refine (dig_f s _ hs HD.out).mono ?_; rintro e w' ⟨rfl, rfl⟩)
    go_ret
    exact ⟨rfl, rfl⟩
end Go.Proofs.YtiioodgpkdbndaaGreatDoor
