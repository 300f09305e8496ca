import Derived.Shelf.Strings.IndexAnyAll
import Derived.Shelf.Strings.SlTrimAscii
import Derived.Shelf.Strings.Cut
import Derived.Shelf.Strings.Prefix
import Derived.Shelf.Strings.Split
import Derived.Shelf.Small.Strs
import Derived.Shelf.Small.Utf8
import Derived.Shelf.Bytes.SlIndexWhole
import Derived.Shelf.Bytes.SlSmallAll
import Derived.Shelf.Bytes.BufferK
import Derived.Shelf.Bytes.Bytes
import Derived.Shelf.Strconv.Itoa3
import Derived.Test.YtkfmfjlapkpeaaaGreatDoorProg
import Derived.WalkKit
import Derived.WalkSpells
import Derived.WalkLawsBesides
import Derived.Lib.Hide
import Derived.Lib.SlTrimSet
import Derived.OwnWalk
import Derived.Below
import Derived.Maps.AppendAt
/- The contracts of the library functions that the program calls, laid at this program by the kit's own command, in plain declarations. -/
namespace Go.Proofs
open Go.Shelf
def Tryz.lays160_ren : Go.Shelf.Ren := ⟨fun | 160 => 117 | 232 => 134 | 231 => 133 | 227 => 110 | 234 => 136 | 233 => 135 | 236 => 138 | 235 => 137 | 228 => 111 | 271 => 149 | 151 => 148 | 197 => 126 | 120 => 152 | 152 => 108 | 260 => 145 | 137 => 128 | 119 => 129 | 224 => 82 | 225 => 130 | 217 => 131 | 266 => 146 | n => n, fun | 9 => 9 | 4 => 4 | 3 => 3 | 5 => 5 | 117 => 139 | 116 => 138 | 0 => 0 | 124 => 154 | 21 => 21 | 105 => 150 | 46 => 123 | 119 => 164 | 139 => 167 | 138 => 166 | n => n, fun | 3 => 3 | 4 => 4 | n => n⟩
theorem Tryz.lays160 : Go.Proofs.Lays.n160 Tryz.prog Tryz.lays160_ren := {
  mixed := by kernel_rfl
  f119 := Tryz.func129.trans (congrArg some (by kernel_rfl))
  f120 := Tryz.func152.trans (congrArg some (by kernel_rfl))
  f137 := Tryz.func128.trans (congrArg some (by kernel_rfl))
  f151 := Tryz.func148.trans (congrArg some (by kernel_rfl))
  f152 := Tryz.func108.trans (congrArg some (by kernel_rfl))
  f160 := Tryz.func117.trans (congrArg some (by kernel_rfl))
  f197 := Tryz.func126.trans (congrArg some (by kernel_rfl))
  f217 := Tryz.func131.trans (congrArg some (by kernel_rfl))
  f224 := Tryz.func82.trans (congrArg some (by kernel_rfl))
  f225 := Tryz.func130.trans (congrArg some (by kernel_rfl))
  f227 := Tryz.func110.trans (congrArg some (by kernel_rfl))
  f228 := Tryz.func111.trans (congrArg some (by kernel_rfl))
  f231 := Tryz.func133.trans (congrArg some (by kernel_rfl))
  f232 := Tryz.func134.trans (congrArg some (by kernel_rfl))
  f233 := Tryz.func135.trans (congrArg some (by kernel_rfl))
  f234 := Tryz.func136.trans (congrArg some (by kernel_rfl))
  f235 := Tryz.func137.trans (congrArg some (by kernel_rfl))
  f236 := Tryz.func138.trans (congrArg some (by kernel_rfl))
  f260 := Tryz.func145.trans (congrArg some (by kernel_rfl))
  f266 := Tryz.func146.trans (congrArg some (by kernel_rfl))
  f271 := Tryz.func149.trans (congrArg some (by kernel_rfl))
  t0 := Tryz.underlying0
  a0 := Tryz.isAgg0
  z0 := Tryz.sizeOf0
  v0 := Tryz.zeroValue0
  t3 := Tryz.underlying3
  a3 := Tryz.isAgg3
  z3 := Tryz.sizeOf3
  v3 := Tryz.zeroValue3
  t4 := Tryz.underlying4
  a4 := Tryz.isAgg4
  z4 := Tryz.sizeOf4
  v4 := Tryz.zeroValue4
  t5 := Tryz.underlying5
  a5 := Tryz.isAgg5
  z5 := Tryz.sizeOf5
  v5 := Tryz.zeroValue5
  t9 := Tryz.underlying9
  a9 := Tryz.isAgg9
  z9 := Tryz.sizeOf9
  v9 := Tryz.zeroValue9
  t21 := Tryz.underlying21
  a21 := Tryz.isAgg21
  z21 := Tryz.sizeOf21
  v21 := Tryz.zeroValue21
  t46 := Tryz.underlying123
  a46 := Tryz.isAgg123
  z46 := Tryz.sizeOf123
  v46 := Tryz.zeroValue123
  t105 := Tryz.underlying150
  a105 := Tryz.isAgg150
  z105 := Tryz.sizeOf150
  v105 := Tryz.zeroValue150
  t116 := Tryz.underlying138
  a116 := Tryz.isAgg138
  z116 := Tryz.sizeOf138
  t117 := Tryz.underlying139
  a117 := Tryz.isAgg139
  z117 := Tryz.sizeOf139
  v117 := Tryz.zeroValue139
  t119 := Tryz.underlying164
  a119 := Tryz.isAgg164
  z119 := Tryz.sizeOf164
  t124 := Tryz.underlying154
  a124 := Tryz.isAgg154
  z124 := Tryz.sizeOf154
  v124 := Tryz.zeroValue154
  t138 := Tryz.underlying166
  a138 := Tryz.isAgg166
  z138 := Tryz.sizeOf166
  v138 := Tryz.zeroValue166
  t139 := Tryz.underlying167
  a139 := Tryz.isAgg167
  z139 := Tryz.sizeOf167
  v139 := Tryz.zeroValue167
  g3 := by kernel_rfl
  g4 := by kernel_rfl }
def Tryz.lays119_ren : Go.Shelf.Ren := ⟨fun | 119 => 129 | n => n, fun | 21 => 21 | 4 => 4 | n => n, fun | n => n⟩
theorem Tryz.lays119 : Go.Proofs.Lays.n119 Tryz.prog Tryz.lays119_ren := {
  mixed := by kernel_rfl
  f119 := Tryz.func129.trans (congrArg some (by kernel_rfl))
  t4 := Tryz.underlying4
  a4 := Tryz.isAgg4
  z4 := Tryz.sizeOf4
  v4 := Tryz.zeroValue4
  t21 := Tryz.underlying21
  a21 := Tryz.isAgg21
  z21 := Tryz.sizeOf21
  v21 := Tryz.zeroValue21 }
theorem Tryz.utf8_ValidRune (r : Int) (w : World) :
    Calls Tryz.prog 129 #[.int .i32 r] w fun e w' => e = .returned (.bool (Lib.validRune r)) ∧ w' = w := Any.utf8_ValidRune Tryz.lays119 r w
def Tryz.lays137_ren : Go.Shelf.Ren := ⟨fun | 137 => 128 | 217 => 131 | 266 => 146 | n => n, fun | 9 => 9 | 5 => 5 | 3 => 3 | n => n, fun | n => n⟩
theorem Tryz.lays137 : Go.Proofs.Lays.n137 Tryz.prog Tryz.lays137_ren := {
  mixed := by kernel_rfl
  f137 := Tryz.func128.trans (congrArg some (by kernel_rfl))
  f217 := Tryz.func131.trans (congrArg some (by kernel_rfl))
  f266 := Tryz.func146.trans (congrArg some (by kernel_rfl))
  t3 := Tryz.underlying3
  a3 := Tryz.isAgg3
  z3 := Tryz.sizeOf3
  v3 := Tryz.zeroValue3
  t5 := Tryz.underlying5
  a5 := Tryz.isAgg5
  z5 := Tryz.sizeOf5
  v5 := Tryz.zeroValue5
  t9 := Tryz.underlying9
  a9 := Tryz.isAgg9
  z9 := Tryz.sizeOf9
  v9 := Tryz.zeroValue9 }
open Go.RowKit in
theorem Tryz.strings_IndexByte (s : ByteArray) (c : Int) (w : World) :
    Calls Tryz.prog 128 #[.string s, .int .u8 c] w fun e w' => e = .returned (.int .i64 (Lib.indexByte s.data.toList c.toNat.toUInt8)) ∧ w' = w := Any.strings_IndexByte Tryz.lays137 s c w
def Tryz.laysM171_ren : Go.Shelf.Ren := ⟨fun | 171 => 49 | 243 => 78 | 246 => 102 | 283 => 121 | 284 => 122 | 285 => 123 | 286 => 124 | 129 => 141 | 317 => 140 | 318 => 142 | 319 => 143 | 320 => 144 | 337 => 150 | 338 => 151 | n => n, fun | 3 => 3 | 9 => 9 | 2 => 2 | 4 => 4 | 171 => 144 | 0 => 0 | 53 => 145 | 37 => 23 | 5 => 5 | 173 => 148 | 212 => 158 | 51 => 132 | 20 => 20 | 213 => 159 | 46 => 123 | 232 => 168 | 233 => 169 | n => n, fun | 17 => 2 | 18 => 5 | 19 => 6 | n => n⟩
theorem Tryz.laysM171 : Go.Proofs.LaysM.n171 Tryz.prog Tryz.laysM171_ren := {
  mixed := by kernel_rfl
  f129 := Tryz.func141.trans (congrArg some (by kernel_rfl))
  f171 := Tryz.func49.trans (congrArg some (by kernel_rfl))
  f243 := Tryz.func78.trans (congrArg some (by kernel_rfl))
  f246 := Tryz.func102.trans (congrArg some (by kernel_rfl))
  f283 := Tryz.func121.trans (congrArg some (by kernel_rfl))
  f284 := Tryz.func122.trans (congrArg some (by kernel_rfl))
  f285 := Tryz.func123.trans (congrArg some (by kernel_rfl))
  f286 := Tryz.func124.trans (congrArg some (by kernel_rfl))
  f317 := Tryz.func140.trans (congrArg some (by kernel_rfl))
  f318 := Tryz.func142.trans (congrArg some (by kernel_rfl))
  f319 := Tryz.func143.trans (congrArg some (by kernel_rfl))
  f320 := Tryz.func144.trans (congrArg some (by kernel_rfl))
  f337 := Tryz.func150.trans (congrArg some (by kernel_rfl))
  f338 := Tryz.func151.trans (congrArg some (by kernel_rfl))
  t0 := Tryz.underlying0
  a0 := Tryz.isAgg0
  z0 := Tryz.sizeOf0
  v0 := Tryz.zeroValue0
  t2 := Tryz.underlying2
  a2 := Tryz.isAgg2
  z2 := Tryz.sizeOf2
  v2 := Tryz.zeroValue2
  t3 := Tryz.underlying3
  a3 := Tryz.isAgg3
  z3 := Tryz.sizeOf3
  v3 := Tryz.zeroValue3
  t4 := Tryz.underlying4
  a4 := Tryz.isAgg4
  z4 := Tryz.sizeOf4
  v4 := Tryz.zeroValue4
  t5 := Tryz.underlying5
  a5 := Tryz.isAgg5
  z5 := Tryz.sizeOf5
  v5 := Tryz.zeroValue5
  t9 := Tryz.underlying9
  a9 := Tryz.isAgg9
  z9 := Tryz.sizeOf9
  v9 := Tryz.zeroValue9
  t20 := Tryz.underlying20
  a20 := Tryz.isAgg20
  z20 := Tryz.sizeOf20
  v20 := Tryz.zeroValue20
  t37 := Tryz.underlying23
  a37 := Tryz.isAgg23
  z37 := Tryz.sizeOf23
  v37 := Tryz.zeroValue23
  t46 := Tryz.underlying123
  a46 := Tryz.isAgg123
  z46 := Tryz.sizeOf123
  v46 := Tryz.zeroValue123
  t51 := Tryz.underlying132
  a51 := Tryz.isAgg132
  z51 := Tryz.sizeOf132
  v51 := Tryz.zeroValue132
  t53 := Tryz.underlying145
  a53 := Tryz.isAgg145
  z53 := Tryz.sizeOf145
  v53 := Tryz.zeroValue145
  t171 := Tryz.underlying144
  a171 := Tryz.isAgg144
  z171 := Tryz.sizeOf144
  v171 := Tryz.zeroValue144
  t173 := Tryz.underlying148
  a173 := Tryz.isAgg148
  z173 := Tryz.sizeOf148
  v173 := Tryz.zeroValue148
  t212 := Tryz.underlying158
  a212 := Tryz.isAgg158
  z212 := Tryz.sizeOf158
  v212 := Tryz.zeroValue158
  t213 := Tryz.underlying159
  a213 := Tryz.isAgg159
  z213 := Tryz.sizeOf159
  t232 := Tryz.underlying168
  a232 := Tryz.isAgg168
  z232 := Tryz.sizeOf168
  v232 := Tryz.zeroValue168
  t233 := Tryz.underlying169
  a233 := Tryz.isAgg169
  z233 := Tryz.sizeOf169
  v233 := Tryz.zeroValue169
  g17 := by kernel_rfl
  g18 := by kernel_rfl
  g19 := by kernel_rfl
  i0 := by kernel_rfl
  i2 := by kernel_rfl
  i3 := by kernel_rfl
  i4 := by kernel_rfl
  i5 := by kernel_rfl
  i9 := by kernel_rfl
  i20 := by kernel_rfl
  i37 := by kernel_rfl
  i46 := by kernel_rfl
  i51 := by kernel_rfl
  i53 := by kernel_rfl
  i171 := by kernel_rfl
  i173 := by kernel_rfl
  i212 := by kernel_rfl
  i232 := by kernel_rfl
  i233 := by kernel_rfl
  m17 := by kernel_rfl
  m18 := by kernel_rfl
  m19 := by kernel_rfl }
open Go.RowKit Go.Sort Go.Lib in
theorem Tryz.strconv_Itoa (n : Int) (h0 : -9223372036854775808 ≤ n) (h1 : n ≤ 9223372036854775807) (w : World) (htab : Lib.TabIs Tryz.prog w "internal/strconv.uint64pow10" .u64 Lib.pow10Tab) :
    Calls Tryz.prog 49 #[.int .i64 n] w fun e w' => e = .returned (.string ⟨(Lib.itoa n).toArray⟩) ∧ ∃ k os, w' = grow (w.drewN k) os := Any.strconv_Itoa Tryz.laysM171 n h0 h1 w htab
def Tryz.lays171_ren : Go.Shelf.Ren := ⟨fun | 171 => 49 | 243 => 78 | 246 => 102 | 283 => 121 | 284 => 122 | 285 => 123 | 286 => 124 | 129 => 141 | 317 => 140 | 318 => 142 | 319 => 143 | 320 => 144 | 337 => 150 | 338 => 151 | n => n, fun | 3 => 3 | 9 => 9 | 2 => 2 | 4 => 4 | 171 => 144 | 0 => 0 | 53 => 145 | 37 => 23 | 5 => 5 | 173 => 148 | 212 => 158 | 51 => 132 | 20 => 20 | 213 => 159 | 46 => 123 | 232 => 168 | 233 => 169 | n => n, fun | 17 => 2 | 18 => 5 | 19 => 6 | n => n⟩
theorem Tryz.lays171 : Go.Proofs.Lays.n171 Tryz.prog Tryz.lays171_ren := {
  mixed := by kernel_rfl
  f129 := Tryz.func141.trans (congrArg some (by kernel_rfl))
  f171 := Tryz.func49.trans (congrArg some (by kernel_rfl))
  f243 := Tryz.func78.trans (congrArg some (by kernel_rfl))
  f246 := Tryz.func102.trans (congrArg some (by kernel_rfl))
  f283 := Tryz.func121.trans (congrArg some (by kernel_rfl))
  f284 := Tryz.func122.trans (congrArg some (by kernel_rfl))
  f285 := Tryz.func123.trans (congrArg some (by kernel_rfl))
  f286 := Tryz.func124.trans (congrArg some (by kernel_rfl))
  f317 := Tryz.func140.trans (congrArg some (by kernel_rfl))
  f318 := Tryz.func142.trans (congrArg some (by kernel_rfl))
  f319 := Tryz.func143.trans (congrArg some (by kernel_rfl))
  f320 := Tryz.func144.trans (congrArg some (by kernel_rfl))
  f337 := Tryz.func150.trans (congrArg some (by kernel_rfl))
  f338 := Tryz.func151.trans (congrArg some (by kernel_rfl))
  t0 := Tryz.underlying0
  a0 := Tryz.isAgg0
  z0 := Tryz.sizeOf0
  v0 := Tryz.zeroValue0
  t2 := Tryz.underlying2
  a2 := Tryz.isAgg2
  z2 := Tryz.sizeOf2
  v2 := Tryz.zeroValue2
  t3 := Tryz.underlying3
  a3 := Tryz.isAgg3
  z3 := Tryz.sizeOf3
  v3 := Tryz.zeroValue3
  t4 := Tryz.underlying4
  a4 := Tryz.isAgg4
  z4 := Tryz.sizeOf4
  v4 := Tryz.zeroValue4
  t5 := Tryz.underlying5
  a5 := Tryz.isAgg5
  z5 := Tryz.sizeOf5
  v5 := Tryz.zeroValue5
  t9 := Tryz.underlying9
  a9 := Tryz.isAgg9
  z9 := Tryz.sizeOf9
  v9 := Tryz.zeroValue9
  t20 := Tryz.underlying20
  a20 := Tryz.isAgg20
  z20 := Tryz.sizeOf20
  v20 := Tryz.zeroValue20
  t37 := Tryz.underlying23
  a37 := Tryz.isAgg23
  z37 := Tryz.sizeOf23
  v37 := Tryz.zeroValue23
  t46 := Tryz.underlying123
  a46 := Tryz.isAgg123
  z46 := Tryz.sizeOf123
  v46 := Tryz.zeroValue123
  t51 := Tryz.underlying132
  a51 := Tryz.isAgg132
  z51 := Tryz.sizeOf132
  v51 := Tryz.zeroValue132
  t53 := Tryz.underlying145
  a53 := Tryz.isAgg145
  z53 := Tryz.sizeOf145
  v53 := Tryz.zeroValue145
  t171 := Tryz.underlying144
  a171 := Tryz.isAgg144
  z171 := Tryz.sizeOf144
  v171 := Tryz.zeroValue144
  t173 := Tryz.underlying148
  a173 := Tryz.isAgg148
  z173 := Tryz.sizeOf148
  v173 := Tryz.zeroValue148
  t212 := Tryz.underlying158
  a212 := Tryz.isAgg158
  z212 := Tryz.sizeOf158
  v212 := Tryz.zeroValue158
  t213 := Tryz.underlying159
  a213 := Tryz.isAgg159
  z213 := Tryz.sizeOf159
  t232 := Tryz.underlying168
  a232 := Tryz.isAgg168
  z232 := Tryz.sizeOf168
  v232 := Tryz.zeroValue168
  t233 := Tryz.underlying169
  a233 := Tryz.isAgg169
  z233 := Tryz.sizeOf169
  v233 := Tryz.zeroValue169
  g17 := by kernel_rfl
  g18 := by kernel_rfl
  g19 := by kernel_rfl }
open Go.RowKit Go.Sort Go.Lib in
theorem Tryz.strconv_Itoa_small (i : Nat) (hi : i < 100) (w : World) :
    Calls Tryz.prog 49 #[.int .i64 i] w fun e w' => e = .returned (.string ⟨(Lib.decDigits i).toArray⟩) ∧ w' = w := Any.strconv_Itoa_small Tryz.lays171 i hi w
def Tryz.laysM183_ren : Go.Shelf.Ren := ⟨fun | 183 => 76 | n => n, fun | 130 => 128 | 37 => 23 | 0 => 0 | 93 => 119 | 3 => 3 | 5 => 5 | 91 => 117 | n => n, fun | n => n⟩
theorem Tryz.laysM183 : Go.Proofs.LaysM.n183 Tryz.prog Tryz.laysM183_ren := {
  mixed := by kernel_rfl
  f183 := Tryz.func76.trans (congrArg some (by kernel_rfl))
  t0 := Tryz.underlying0
  a0 := Tryz.isAgg0
  z0 := Tryz.sizeOf0
  v0 := Tryz.zeroValue0
  t3 := Tryz.underlying3
  a3 := Tryz.isAgg3
  z3 := Tryz.sizeOf3
  v3 := Tryz.zeroValue3
  t37 := Tryz.underlying23
  a37 := Tryz.isAgg23
  z37 := Tryz.sizeOf23
  v37 := Tryz.zeroValue23
  t93 := Tryz.underlying119
  a93 := Tryz.isAgg119
  z93 := Tryz.sizeOf119
  v93 := Tryz.zeroValue119
  t130 := Tryz.underlying128
  a130 := Tryz.isAgg128
  z130 := Tryz.sizeOf128
  v130 := Tryz.zeroValue128
  t5 := Tryz.underlying5
  a5 := Tryz.isAgg5
  z5 := Tryz.sizeOf5
  v5 := Tryz.zeroValue5
  t91 := Tryz.underlying117
  a91 := Tryz.isAgg117
  z91 := Tryz.sizeOf117
  v91 := Tryz.zeroValue117
  i0 := by kernel_rfl
  i3 := by kernel_rfl
  i5 := by kernel_rfl
  i37 := by kernel_rfl
  i91 := by kernel_rfl
  i93 := by kernel_rfl
  i130 := by kernel_rfl }
open Go.RowKit in
theorem Tryz.Buffer_Bytes (B b : Nat) (bs : List Value) (w : World) (h : Lib.IsBuffer 119 5 B b bs w) :
    Calls Tryz.prog 76 #[.pointer (some ⟨b, 0, none⟩)] w fun e w' => ∃ v, e = .returned v ∧ w'.ownsRow B 5 1 v bs.length bs ∧ ∃ n, w' = w.drewN n := Any.Buffer_Bytes Tryz.laysM183 B b bs w h
def Tryz.lays145_ren : Go.Shelf.Ren := ⟨fun | 145 => 54 | 220 => 86 | 219 => 112 | 217 => 131 | 225 => 130 | 224 => 82 | 267 => 132 | 266 => 146 | 314 => 147 | n => n, fun | 9 => 9 | 4 => 4 | 59 => 81 | 3 => 3 | 5 => 5 | 46 => 123 | 146 => 133 | 51 => 132 | n => n, fun | 1 => 0 | n => n⟩
theorem Tryz.lays145 : Go.Proofs.Lays.n145 Tryz.prog Tryz.lays145_ren := {
  mixed := by kernel_rfl
  f145 := Tryz.func54.trans (congrArg some (by kernel_rfl))
  f217 := Tryz.func131.trans (congrArg some (by kernel_rfl))
  f219 := Tryz.func112.trans (congrArg some (by kernel_rfl))
  f220 := Tryz.func86.trans (congrArg some (by kernel_rfl))
  f224 := Tryz.func82.trans (congrArg some (by kernel_rfl))
  f225 := Tryz.func130.trans (congrArg some (by kernel_rfl))
  f266 := Tryz.func146.trans (congrArg some (by kernel_rfl))
  f267 := Tryz.func132.trans (congrArg some (by kernel_rfl))
  f314 := Tryz.func147.trans (congrArg some (by kernel_rfl))
  t3 := Tryz.underlying3
  a3 := Tryz.isAgg3
  z3 := Tryz.sizeOf3
  v3 := Tryz.zeroValue3
  t4 := Tryz.underlying4
  a4 := Tryz.isAgg4
  z4 := Tryz.sizeOf4
  v4 := Tryz.zeroValue4
  t5 := Tryz.underlying5
  a5 := Tryz.isAgg5
  z5 := Tryz.sizeOf5
  v5 := Tryz.zeroValue5
  t9 := Tryz.underlying9
  a9 := Tryz.isAgg9
  z9 := Tryz.sizeOf9
  v9 := Tryz.zeroValue9
  t46 := Tryz.underlying123
  a46 := Tryz.isAgg123
  z46 := Tryz.sizeOf123
  v46 := Tryz.zeroValue123
  t51 := Tryz.underlying132
  a51 := Tryz.isAgg132
  z51 := Tryz.sizeOf132
  v51 := Tryz.zeroValue132
  t59 := Tryz.underlying81
  a59 := Tryz.isAgg81
  z59 := Tryz.sizeOf81
  v59 := Tryz.zeroValue81
  t146 := Tryz.underlying133
  a146 := Tryz.isAgg133
  z146 := Tryz.sizeOf133
  v146 := Tryz.zeroValue133
  g1 := by kernel_rfl }
open Go.RowKit Go.Lib in
theorem Tryz.strings_Cut (s sep : ByteArray) (m : Int) (w : World) (hs : s.size < 4294967281) (hm : w.cell? ⟨0, 0, none⟩ = some (.int .i64 m)) :
    Calls Tryz.prog 54 #[.string s, .string sep] w fun e w' => e = .returned (.tuple #[.string ⟨(Lib.cut s.data.toList sep.data.toList).1.toArray⟩, .string ⟨(Lib.cut s.data.toList sep.data.toList).2.1.toArray⟩, .bool (Lib.cut s.data.toList sep.data.toList).2.2]) ∧ ∃ n, w' = w.drewN n := Any.strings_Cut Tryz.lays145 s sep m w hs hm
def Tryz.laysM178_ren : Go.Shelf.Ren := ⟨fun | 178 => 75 | 251 => 100 | 252 => 101 | 181 => 118 | 184 => 119 | 290 => 120 | 324 => 139 | n => n, fun | 130 => 128 | 9 => 9 | 3 => 3 | 75 => 29 | 0 => 0 | 93 => 119 | 91 => 117 | 131 => 129 | 4 => 4 | 37 => 23 | 20 => 20 | 80 => 126 | 5 => 5 | n => n, fun | 14 => 1 | n => n⟩
theorem Tryz.laysM178 : Go.Proofs.LaysM.n178 Tryz.prog Tryz.laysM178_ren := {
  mixed := by kernel_rfl
  f178 := Tryz.func75.trans (congrArg some (by kernel_rfl))
  f181 := Tryz.func118.trans (congrArg some (by kernel_rfl))
  f184 := Tryz.func119.trans (congrArg some (by kernel_rfl))
  f251 := Tryz.func100.trans (congrArg some (by kernel_rfl))
  f252 := Tryz.func101.trans (congrArg some (by kernel_rfl))
  f290 := Tryz.func120.trans (congrArg some (by kernel_rfl))
  f324 := Tryz.func139.trans (congrArg some (by kernel_rfl))
  t0 := Tryz.underlying0
  a0 := Tryz.isAgg0
  z0 := Tryz.sizeOf0
  v0 := Tryz.zeroValue0
  t3 := Tryz.underlying3
  a3 := Tryz.isAgg3
  z3 := Tryz.sizeOf3
  v3 := Tryz.zeroValue3
  t4 := Tryz.underlying4
  a4 := Tryz.isAgg4
  z4 := Tryz.sizeOf4
  v4 := Tryz.zeroValue4
  t9 := Tryz.underlying9
  a9 := Tryz.isAgg9
  z9 := Tryz.sizeOf9
  v9 := Tryz.zeroValue9
  t20 := Tryz.underlying20
  a20 := Tryz.isAgg20
  z20 := Tryz.sizeOf20
  v20 := Tryz.zeroValue20
  t37 := Tryz.underlying23
  a37 := Tryz.isAgg23
  z37 := Tryz.sizeOf23
  v37 := Tryz.zeroValue23
  t75 := Tryz.underlying29
  a75 := Tryz.isAgg29
  z75 := Tryz.sizeOf29
  v75 := Tryz.zeroValue29
  t91 := Tryz.underlying117
  a91 := Tryz.isAgg117
  z91 := Tryz.sizeOf117
  v91 := Tryz.zeroValue117
  t93 := Tryz.underlying119
  a93 := Tryz.isAgg119
  z93 := Tryz.sizeOf119
  v93 := Tryz.zeroValue119
  t130 := Tryz.underlying128
  a130 := Tryz.isAgg128
  z130 := Tryz.sizeOf128
  v130 := Tryz.zeroValue128
  t131 := Tryz.underlying129
  a131 := Tryz.isAgg129
  z131 := Tryz.sizeOf129
  v131 := Tryz.zeroValue129
  g14 := by kernel_rfl
  t5 := Tryz.underlying5
  a5 := Tryz.isAgg5
  z5 := Tryz.sizeOf5
  v5 := Tryz.zeroValue5
  t80 := Tryz.underlying126
  a80 := Tryz.isAgg126
  z80 := Tryz.sizeOf126
  v80 := Tryz.zeroValue126
  i0 := by kernel_rfl
  i3 := by kernel_rfl
  i4 := by kernel_rfl
  i5 := by kernel_rfl
  i9 := by kernel_rfl
  i20 := by kernel_rfl
  i37 := by kernel_rfl
  i75 := by kernel_rfl
  i80 := by kernel_rfl
  i91 := by kernel_rfl
  i93 := by kernel_rfl
  i130 := by kernel_rfl
  i131 := by kernel_rfl
  m14 := by kernel_rfl }
open Go.RowKit in
theorem Tryz.Buffer_WriteString_k (B b : Nat) (bs : List Value) (s : ByteArray) (w : World) (h : Lib.IsBuffer 119 5 B b bs w) (hBw : B ≤ w.heap.size) (h1 : ∀ v ∈ bs, v.oneCell' = true) (hlim : bs.length + s.size ≤ 140737488355328) :
    Calls Tryz.prog 75 #[.pointer (some ⟨b, 0, none⟩), .string s] w fun e w' => e = .returned (.tuple #[.int .i64 s.size, .nilIface]) ∧ Lib.IsBuffer 119 5 B b (bs ++ Lib.byteCells s.data.toList) w' ∧ Below B w w' ∧ Lib.OthersKept 5 (some b) w w' := Any.Buffer_WriteString_k Tryz.laysM178 B b bs s w h hBw h1 hlim
def Tryz.lays99_ren : Go.Shelf.Ren := ⟨fun | 99 => 97 | 206 => 115 | n => n, fun | 9 => 9 | 4 => 4 | 3 => 3 | n => n, fun | n => n⟩
theorem Tryz.lays99 : Go.Proofs.Lays.n99 Tryz.prog Tryz.lays99_ren := {
  mixed := by kernel_rfl
  f99 := Tryz.func97.trans (congrArg some (by kernel_rfl))
  f206 := Tryz.func115.trans (congrArg some (by kernel_rfl))
  t3 := Tryz.underlying3
  a3 := Tryz.isAgg3
  z3 := Tryz.sizeOf3
  v3 := Tryz.zeroValue3
  t4 := Tryz.underlying4
  a4 := Tryz.isAgg4
  z4 := Tryz.sizeOf4
  v4 := Tryz.zeroValue4
  t9 := Tryz.underlying9
  a9 := Tryz.isAgg9
  z9 := Tryz.sizeOf9
  v9 := Tryz.zeroValue9 }
open Go.RowKit Go.Lib in
theorem Tryz.strings_HasPrefix (s p : ByteArray) (w : World) :
    Calls Tryz.prog 97 #[.string s, .string p] w fun e w' => e = .returned (.bool (Lib.hasPrefix s.data.toList p.data.toList)) ∧ w' = w := Any.strings_HasPrefix Tryz.lays99 s p w
open Go.RowKit Go.Lib in
def Tryz.lays146_ren : Go.Shelf.Ren := ⟨fun | 146 => 52 | 221 => 84 | 268 => 105 | 138 => 106 | 143 => 107 | 195 => 125 | 197 => 126 | 218 => 127 | 219 => 112 | 260 => 145 | 217 => 131 | 225 => 130 | 224 => 82 | 267 => 132 | 266 => 146 | 314 => 147 | n => n, fun | 9 => 9 | 31 => 71 | 3 => 3 | 4 => 4 | 0 => 0 | 105 => 150 | 21 => 21 | 5 => 5 | 46 => 123 | 119 => 164 | 139 => 167 | 138 => 166 | 146 => 133 | 51 => 132 | n => n, fun | 1 => 0 | 3 => 3 | 4 => 4 | n => n⟩
theorem Tryz.lays146 : Go.Proofs.Lays.n146 Tryz.prog Tryz.lays146_ren := {
  mixed := by kernel_rfl
  f138 := Tryz.func106.trans (congrArg some (by kernel_rfl))
  f143 := Tryz.func107.trans (congrArg some (by kernel_rfl))
  f146 := Tryz.func52.trans (congrArg some (by kernel_rfl))
  f195 := Tryz.func125.trans (congrArg some (by kernel_rfl))
  f197 := Tryz.func126.trans (congrArg some (by kernel_rfl))
  f217 := Tryz.func131.trans (congrArg some (by kernel_rfl))
  f218 := Tryz.func127.trans (congrArg some (by kernel_rfl))
  f219 := Tryz.func112.trans (congrArg some (by kernel_rfl))
  f221 := Tryz.func84.trans (congrArg some (by kernel_rfl))
  f224 := Tryz.func82.trans (congrArg some (by kernel_rfl))
  f225 := Tryz.func130.trans (congrArg some (by kernel_rfl))
  f260 := Tryz.func145.trans (congrArg some (by kernel_rfl))
  f266 := Tryz.func146.trans (congrArg some (by kernel_rfl))
  f267 := Tryz.func132.trans (congrArg some (by kernel_rfl))
  f268 := Tryz.func105.trans (congrArg some (by kernel_rfl))
  f314 := Tryz.func147.trans (congrArg some (by kernel_rfl))
  t0 := Tryz.underlying0
  a0 := Tryz.isAgg0
  z0 := Tryz.sizeOf0
  v0 := Tryz.zeroValue0
  t3 := Tryz.underlying3
  a3 := Tryz.isAgg3
  z3 := Tryz.sizeOf3
  v3 := Tryz.zeroValue3
  t4 := Tryz.underlying4
  a4 := Tryz.isAgg4
  z4 := Tryz.sizeOf4
  v4 := Tryz.zeroValue4
  t5 := Tryz.underlying5
  a5 := Tryz.isAgg5
  z5 := Tryz.sizeOf5
  v5 := Tryz.zeroValue5
  t9 := Tryz.underlying9
  a9 := Tryz.isAgg9
  z9 := Tryz.sizeOf9
  v9 := Tryz.zeroValue9
  t21 := Tryz.underlying21
  a21 := Tryz.isAgg21
  z21 := Tryz.sizeOf21
  v21 := Tryz.zeroValue21
  t31 := Tryz.underlying71
  a31 := Tryz.isAgg71
  z31 := Tryz.sizeOf71
  v31 := Tryz.zeroValue71
  t46 := Tryz.underlying123
  a46 := Tryz.isAgg123
  z46 := Tryz.sizeOf123
  v46 := Tryz.zeroValue123
  t51 := Tryz.underlying132
  a51 := Tryz.isAgg132
  z51 := Tryz.sizeOf132
  v51 := Tryz.zeroValue132
  t105 := Tryz.underlying150
  a105 := Tryz.isAgg150
  z105 := Tryz.sizeOf150
  v105 := Tryz.zeroValue150
  t119 := Tryz.underlying164
  a119 := Tryz.isAgg164
  z119 := Tryz.sizeOf164
  t138 := Tryz.underlying166
  a138 := Tryz.isAgg166
  z138 := Tryz.sizeOf166
  v138 := Tryz.zeroValue166
  t139 := Tryz.underlying167
  a139 := Tryz.isAgg167
  z139 := Tryz.sizeOf167
  v139 := Tryz.zeroValue167
  t146 := Tryz.underlying133
  a146 := Tryz.isAgg133
  z146 := Tryz.sizeOf133
  v146 := Tryz.zeroValue133
  g1 := by kernel_rfl
  g3 := by kernel_rfl
  g4 := by kernel_rfl }
open Go.RowKit Go.Lib in
theorem Tryz.strings_Split (s sep : ByteArray) (m : Int) (w : World) (hs : s.size < 4294967281) (hm : w.cell? ⟨0, 0, none⟩ = some (.int .i64 m)) (h1 : 1 ≤ sep.size) :
    Calls Tryz.prog 52 #[.string s, .string sep] w fun e w' =>
      e = .returned (.slice (some ⟨w.heap.size, 0, none⟩) (Lib.countB s sep + 1) (Lib.countB s sep + 1)) ∧ w' = w.alloc (.cells ((Lib.splitB sep 0 (Lib.countB s sep) s).map Value.string).toArray 9) := Any.strings_Split Tryz.lays146 (by kernel_rfl) s sep m w hs hm h1
def Tryz.lays152_ren : Go.Shelf.Ren := ⟨fun | 152 => 108 | 137 => 128 | 119 => 129 | 224 => 82 | 225 => 130 | 217 => 131 | 266 => 146 | n => n, fun | 9 => 9 | 21 => 21 | 3 => 3 | 4 => 4 | 5 => 5 | 0 => 0 | 46 => 123 | n => n, fun | n => n⟩
theorem Tryz.lays152 : Go.Proofs.Lays.n152 Tryz.prog Tryz.lays152_ren := {
  mixed := by kernel_rfl
  f119 := Tryz.func129.trans (congrArg some (by kernel_rfl))
  f137 := Tryz.func128.trans (congrArg some (by kernel_rfl))
  f152 := Tryz.func108.trans (congrArg some (by kernel_rfl))
  f217 := Tryz.func131.trans (congrArg some (by kernel_rfl))
  f224 := Tryz.func82.trans (congrArg some (by kernel_rfl))
  f225 := Tryz.func130.trans (congrArg some (by kernel_rfl))
  f266 := Tryz.func146.trans (congrArg some (by kernel_rfl))
  t0 := Tryz.underlying0
  a0 := Tryz.isAgg0
  z0 := Tryz.sizeOf0
  v0 := Tryz.zeroValue0
  t3 := Tryz.underlying3
  a3 := Tryz.isAgg3
  z3 := Tryz.sizeOf3
  v3 := Tryz.zeroValue3
  t4 := Tryz.underlying4
  a4 := Tryz.isAgg4
  z4 := Tryz.sizeOf4
  v4 := Tryz.zeroValue4
  t5 := Tryz.underlying5
  a5 := Tryz.isAgg5
  z5 := Tryz.sizeOf5
  v5 := Tryz.zeroValue5
  t9 := Tryz.underlying9
  a9 := Tryz.isAgg9
  z9 := Tryz.sizeOf9
  v9 := Tryz.zeroValue9
  t21 := Tryz.underlying21
  a21 := Tryz.isAgg21
  z21 := Tryz.sizeOf21
  v21 := Tryz.zeroValue21
  t46 := Tryz.underlying123
  a46 := Tryz.isAgg123
  z46 := Tryz.sizeOf123
  v46 := Tryz.zeroValue123 }
open Go.RowKit Go.Lib in
theorem Tryz.strings_IndexRune_ascii (s : ByteArray) (r : Int) (w : World) (h0 : 0 ≤ r) (h1 : r < 128) :
    Calls Tryz.prog 108 #[.string s, .int .i32 r] w fun e w' => e = .returned (.int .i64 (Lib.indexByte s.data.toList r.toNat.toUInt8)) ∧ w' = w := Any.strings_IndexRune_ascii Tryz.lays152 s r w h0 h1
def Tryz.lays226_ren : Go.Shelf.Ren := ⟨fun | 226 => 109 | n => n, fun | 3 => 3 | 4 => 4 | n => n, fun | n => n⟩
theorem Tryz.lays226 : Go.Proofs.Lays.n226 Tryz.prog Tryz.lays226_ren := {
  mixed := by kernel_rfl
  f226 := Tryz.func109.trans (congrArg some (by kernel_rfl))
  t3 := Tryz.underlying3
  a3 := Tryz.isAgg3
  z3 := Tryz.sizeOf3
  v3 := Tryz.zeroValue3
  t4 := Tryz.underlying4
  a4 := Tryz.isAgg4
  z4 := Tryz.sizeOf4
  v4 := Tryz.zeroValue4 }
open Go.RowKit Go.Lib in
theorem Tryz.strings_shouldUseASCIISet (n : Int) (w : World) :
    Calls Tryz.prog 109 #[.int .i64 n] w fun e w' => e = .returned (.bool (decide (8 < n))) ∧ w' = w := Any.strings_shouldUseASCIISet Tryz.lays226 n w
def Tryz.lays153_ren : Go.Shelf.Ren := ⟨fun | 153 => 85 | 152 => 108 | 226 => 109 | 227 => 110 | 228 => 111 | 137 => 128 | 119 => 129 | 224 => 82 | 225 => 130 | 217 => 131 | 266 => 146 | n => n, fun | 9 => 9 | 3 => 3 | 4 => 4 | 5 => 5 | 21 => 21 | 117 => 139 | 116 => 138 | 0 => 0 | 46 => 123 | 124 => 154 | n => n, fun | n => n⟩
theorem Tryz.lays153 : Go.Proofs.Lays.n153 Tryz.prog Tryz.lays153_ren := {
  mixed := by kernel_rfl
  f119 := Tryz.func129.trans (congrArg some (by kernel_rfl))
  f137 := Tryz.func128.trans (congrArg some (by kernel_rfl))
  f152 := Tryz.func108.trans (congrArg some (by kernel_rfl))
  f153 := Tryz.func85.trans (congrArg some (by kernel_rfl))
  f217 := Tryz.func131.trans (congrArg some (by kernel_rfl))
  f224 := Tryz.func82.trans (congrArg some (by kernel_rfl))
  f225 := Tryz.func130.trans (congrArg some (by kernel_rfl))
  f226 := Tryz.func109.trans (congrArg some (by kernel_rfl))
  f227 := Tryz.func110.trans (congrArg some (by kernel_rfl))
  f228 := Tryz.func111.trans (congrArg some (by kernel_rfl))
  f266 := Tryz.func146.trans (congrArg some (by kernel_rfl))
  t0 := Tryz.underlying0
  a0 := Tryz.isAgg0
  z0 := Tryz.sizeOf0
  v0 := Tryz.zeroValue0
  t3 := Tryz.underlying3
  a3 := Tryz.isAgg3
  z3 := Tryz.sizeOf3
  v3 := Tryz.zeroValue3
  t4 := Tryz.underlying4
  a4 := Tryz.isAgg4
  z4 := Tryz.sizeOf4
  v4 := Tryz.zeroValue4
  t5 := Tryz.underlying5
  a5 := Tryz.isAgg5
  z5 := Tryz.sizeOf5
  v5 := Tryz.zeroValue5
  t9 := Tryz.underlying9
  a9 := Tryz.isAgg9
  z9 := Tryz.sizeOf9
  v9 := Tryz.zeroValue9
  t21 := Tryz.underlying21
  a21 := Tryz.isAgg21
  z21 := Tryz.sizeOf21
  v21 := Tryz.zeroValue21
  t46 := Tryz.underlying123
  a46 := Tryz.isAgg123
  z46 := Tryz.sizeOf123
  v46 := Tryz.zeroValue123
  t116 := Tryz.underlying138
  a116 := Tryz.isAgg138
  z116 := Tryz.sizeOf138
  t117 := Tryz.underlying139
  a117 := Tryz.isAgg139
  z117 := Tryz.sizeOf139
  v117 := Tryz.zeroValue139
  t124 := Tryz.underlying154
  a124 := Tryz.isAgg154
  z124 := Tryz.sizeOf154
  v124 := Tryz.zeroValue154 }
open Go.RowKit Go.Lib in
def Tryz.lays228_ren : Go.Shelf.Ren := ⟨fun | 228 => 111 | n => n, fun | 124 => 154 | 5 => 5 | 4 => 4 | 0 => 0 | 116 => 138 | n => n, fun | n => n⟩
theorem Tryz.lays228 : Go.Proofs.Lays.n228 Tryz.prog Tryz.lays228_ren := {
  mixed := by kernel_rfl
  f228 := Tryz.func111.trans (congrArg some (by kernel_rfl))
  t0 := Tryz.underlying0
  a0 := Tryz.isAgg0
  z0 := Tryz.sizeOf0
  v0 := Tryz.zeroValue0
  t4 := Tryz.underlying4
  a4 := Tryz.isAgg4
  z4 := Tryz.sizeOf4
  v4 := Tryz.zeroValue4
  t5 := Tryz.underlying5
  a5 := Tryz.isAgg5
  z5 := Tryz.sizeOf5
  v5 := Tryz.zeroValue5
  t116 := Tryz.underlying138
  a116 := Tryz.isAgg138
  z116 := Tryz.sizeOf138
  t124 := Tryz.underlying154
  a124 := Tryz.isAgg154
  z124 := Tryz.sizeOf154
  v124 := Tryz.zeroValue154 }
open Go.RowKit Go.Lib in
def Tryz.lays185_ren : Go.Shelf.Ren := ⟨fun | 185 => 51 | 187 => 80 | 115 => 79 | 253 => 81 | 224 => 82 | 254 => 83 | 255 => 103 | 291 => 104 | n => n, fun | 37 => 23 | 3 => 3 | 4 => 4 | 0 => 0 | 5 => 5 | 46 => 123 | 9 => 9 | 146 => 133 | 51 => 132 | n => n, fun | 1 => 0 | n => n⟩
theorem Tryz.lays185 : Go.Proofs.Lays.n185 Tryz.prog Tryz.lays185_ren := {
  mixed := by kernel_rfl
  f115 := Tryz.func79.trans (congrArg some (by kernel_rfl))
  f185 := Tryz.func51.trans (congrArg some (by kernel_rfl))
  f187 := Tryz.func80.trans (congrArg some (by kernel_rfl))
  f224 := Tryz.func82.trans (congrArg some (by kernel_rfl))
  f253 := Tryz.func81.trans (congrArg some (by kernel_rfl))
  f254 := Tryz.func83.trans (congrArg some (by kernel_rfl))
  f255 := Tryz.func103.trans (congrArg some (by kernel_rfl))
  f291 := Tryz.func104.trans (congrArg some (by kernel_rfl))
  t0 := Tryz.underlying0
  a0 := Tryz.isAgg0
  z0 := Tryz.sizeOf0
  v0 := Tryz.zeroValue0
  t3 := Tryz.underlying3
  a3 := Tryz.isAgg3
  z3 := Tryz.sizeOf3
  v3 := Tryz.zeroValue3
  t4 := Tryz.underlying4
  a4 := Tryz.isAgg4
  z4 := Tryz.sizeOf4
  v4 := Tryz.zeroValue4
  t5 := Tryz.underlying5
  a5 := Tryz.isAgg5
  z5 := Tryz.sizeOf5
  v5 := Tryz.zeroValue5
  t9 := Tryz.underlying9
  a9 := Tryz.isAgg9
  z9 := Tryz.sizeOf9
  v9 := Tryz.zeroValue9
  t37 := Tryz.underlying23
  a37 := Tryz.isAgg23
  z37 := Tryz.sizeOf23
  v37 := Tryz.zeroValue23
  t46 := Tryz.underlying123
  a46 := Tryz.isAgg123
  z46 := Tryz.sizeOf123
  v46 := Tryz.zeroValue123
  t51 := Tryz.underlying132
  a51 := Tryz.isAgg132
  z51 := Tryz.sizeOf132
  v51 := Tryz.zeroValue132
  t146 := Tryz.underlying133
  a146 := Tryz.isAgg133
  z146 := Tryz.sizeOf133
  v146 := Tryz.zeroValue133
  g1 := by kernel_rfl }
open Go.RowKit Go.Lib in
theorem Tryz.bytes_Index_at (a1 a2 : Addr) (n c1 k c2 : Nat) (xs ys : List Int) (m : Int) (w : World) (hx : xs.length = n) (hy : ys.length = k) (hr1 : ∀ x ∈ xs, 0 ≤ x ∧ x < 256) (hr2 : ∀ y ∈ ys, 0 ≤ y ∧ y < 256) (hc1 : ∀ i, i < n → w.cell? (a1.add i) = some (.int .u8 (xs.getD i 0))) (hc2 : ∀ i, i < k → w.cell? (a2.add i) = some (.int .u8 (ys.getD i 0))) (hcap : n ≤ c1) (hs : n < 4294967281) (hk : k ≤ 9223372036854775807) (hm : w.cell? ⟨0, 0, none⟩ = some (.int .i64 m)) :
    Calls Tryz.prog 51 #[.slice (some a1) n c1, .slice (some a2) k c2] w fun e w' => e = .returned (.int .i64 (Lib.index (Lib.bytesOf xs) (Lib.bytesOf ys))) ∧ ∃ q, w' = w.drewN q := Any.bytes_Index_at Tryz.lays185 a1 a2 n c1 k c2 xs ys m w hx hy hr1 hr2 hc1 hc2 hcap hs hk hm
open Go.Proofs Go.RowKit Go.Lib in
theorem Tryz.bytes_Index_nil (p2 : Option Addr) (k c2 : Nat) (w : World) (hk : k ≤ 9223372036854775807) (h1 : k = 1 → ∃ b2 o2 cv, p2 = some ⟨b2, o2, none⟩ ∧ w.cell? ⟨b2, o2, none⟩ = some (.int .u8 cv)) :
    Calls Tryz.prog 51 #[.slice none 0 0, .slice p2 k c2] w fun e w' => e = .returned (.int .i64 (if k = 0 then 0 else -1)) ∧ w' = w := Any.bytes_Index_nil Tryz.lays185 p2 k c2 w hk h1
def Tryz.laysnb116_ren : Go.Shelf.Ren := ⟨fun | 116 => 50 | 115 => 79 | n => n, fun | 37 => 23 | 4 => 4 | 3 => 3 | 9 => 9 | 5 => 5 | n => n, fun | n => n⟩
theorem Tryz.laysnb116 : Go.Proofs.Lays.nb116 Tryz.prog Tryz.laysnb116_ren := {
  mixed := by kernel_rfl
  f115 := Tryz.func79.trans (congrArg some (by kernel_rfl))
  f116 := Tryz.func50.trans (congrArg some (by kernel_rfl))
  t3 := Tryz.underlying3
  a3 := Tryz.isAgg3
  z3 := Tryz.sizeOf3
  v3 := Tryz.zeroValue3
  t4 := Tryz.underlying4
  a4 := Tryz.isAgg4
  z4 := Tryz.sizeOf4
  v4 := Tryz.zeroValue4
  t9 := Tryz.underlying9
  a9 := Tryz.isAgg9
  z9 := Tryz.sizeOf9
  v9 := Tryz.zeroValue9
  t37 := Tryz.underlying23
  a37 := Tryz.isAgg23
  z37 := Tryz.sizeOf23
  v37 := Tryz.zeroValue23
  t5 := Tryz.underlying5
  a5 := Tryz.isAgg5
  z5 := Tryz.sizeOf5
  v5 := Tryz.zeroValue5 }
theorem Tryz.bytes_HasPrefix_all (p1 p2 : Option Addr) (n c m d : Nat) (xs ys : List Int) (w : World) (hx : xs.length = n) (hy : ys.length = m) (hnc : n ≤ c) (h1 : Lib.BytesIn w p1 n xs) (h2 : Lib.BytesIn w p2 m ys) :
    Calls Tryz.prog 50 #[.slice p1 n c, .slice p2 m d] w fun e w' => e = .returned (.bool (Lib.hasPrefix (Lib.bytesOf xs) (Lib.bytesOf ys))) ∧ w' = w := Any.bytes_HasPrefix_all Tryz.laysnb116 p1 p2 n c m d xs ys w hx hy hnc h1 h2
end Go.Proofs

/- What all texts of a seat share: strings as lists of bytes, slices of strings that a call makes or reads, worlds that leave old blocks as they were. -/
namespace Go.Proofs.YtkfmfjlapkpeaaaGreatDoor
open Go.RowKit

theorem ret_bool {a b : Bool} (h : a = b) : Ending.returned (.bool a) = .returned (.bool b) := by rw [h]

theorem take_snoc (s : ByteArray) (k : Nat) (h : k < s.size) : s.data.toList.take (k + 1) = s.data.toList.take k ++ [s[k]] := by
  rw [List.take_succ_eq_append_getElem (by simpa using h)]; rfl
theorem get_mem (s : ByteArray) (k : Nat) (h : k < s.size) : s[k] ∈ s.data.toList := by
  have : s[k] = s.data.toList[k]'(by simpa using h) := rfl
  rw [this]; exact List.getElem_mem _
theorem take_all (s : ByteArray) (k : Nat) (h : s.size ≤ k) : s.data.toList.take k = s.data.toList := List.take_of_length_le (by simpa using h)
theorem Tryz.infoS : (Tryz.prog.info? 9).map (fun i => (i.zero, i.size, i.bytes)) = some (some (.string ByteArray.empty), 1, 16) := by kernel_rfl

def strB (l : List UInt8) : ByteArray := ⟨l.toArray⟩
abbrev strV (l : List UInt8) : Value := .string (strB l)
/-- The value v is a slice of the call's own (its cells lie in blocks from B on) that holds these strings. -/
def OwnsS (B : Nat) (w : World) (v : Value) (ls : List (List UInt8)) : Prop :=
  w.ownsRow B 9 1 v ls.length (ls.map strV)

theorem seg_list (s : ByteArray) (x k : Nat) : (s.extract x k).data.toList = (s.data.toList.drop x).take (k - x) := by
  exact Lib.extract_data s x k
theorem below_drewN {B : Nat} {a w : World} (h : Below B a w) (n : Nat) : Below B a (w.drewN n) := ⟨h.os, h.tape, h.output, h.size, h.block⟩
theorem grown_of_below {a w : World} (h : Below a.heap.size a w) (row : Option Nat) : a.grownBy w row := ⟨h.os, h.tape, h.output, h.size, fun i hi _ => h.block i hi⟩
theorem OwnsS.below {B : Nat} {w w' : World} {v : Value} {ls : List (List UInt8)} (h : OwnsS B w v ls) (hb : Below w.heap.size w w') : OwnsS B w' v ls :=
  World.ownsRow.kept h (grown_of_below hb none) (by cases hv : v.ownBlock <;> simp)

theorem OwnsS.snoc {B : Nat} {w : World} {v : Value} {ls : List (List UInt8)} {l : List UInt8} (h : w.ownsRow B 9 1 v (ls.length + 1) (ls.map strV ++ [strV l])) : OwnsS B w v (ls ++ [l]) := by
  unfold OwnsS; rw [List.length_append, List.map_append]; exact h
theorem below_append {B : Nat} {a w w1 w2 : World} {v : Value} {ls : List (List UInt8)} {o : Obj} (hB : Below B a w) (hBs : B ≤ w.heap.size) (hb1 : Below w.heap.size w w1) (hown : OwnsS B w v ls)
    (hgrow : (w1.alloc o).grownBy w2 v.ownBlock) : Below B a w2 :=
  ((hB.trans (hb1.mono hBs)).alloc (by have := hb1.size; omega) o).grown hgrow (by have := hb1.size; simp; omega) (fun q hq => (World.ownsRow.lt hown q hq).1)

theorem below_new (w : World) (o : Obj) : Below w.heap.size w (w.alloc o) := (Below.refl _ _).alloc (Nat.le_refl _) o
theorem nat_of_u8 {a b : UInt8} (h : a.toNat = b.toNat) : a = b := UInt8.toNat_inj.mp h

theorem strB_size (l : List UInt8) : (strB l).size = l.length := by show l.toArray.size = _; simp
theorem strB_list (l : List UInt8) : (strB l).data.toList = l := by simp [strB]
theorem strB_of (s : ByteArray) : strB s.data.toList = s := by apply ByteArray.ext; simp [strB]
theorem strB_ext {s : ByteArray} {l : List UInt8} (h : s.data.toList = l) : s = strB l := by rw [← h, strB_of]
theorem strB_snoc (l : List UInt8) (c : UInt8) : strB l ++ ⟨#[c]⟩ = strB (l ++ [c]) := by apply ByteArray.ext; simp [strB]
theorem strB_app (l : List UInt8) (s : ByteArray) : strB l ++ s = strB (l ++ s.data.toList) := by apply ByteArray.ext; simp [strB]
theorem one_byte (s : ByteArray) (k : Nat) (h : k < s.size) : (s.extract k (k + 1)).data.toList = [s[k]] := by
  rw [seg_list, show k + 1 - k = 1 by omega, List.drop_eq_getElem_cons (by simpa using h)]; rfl
/-- A slice of the call's own, opened: nil and empty, or a block with its cells. -/
theorem OwnsS.open' {B : Nat} {w : World} {v : Value} {ls : List (List UInt8)} (h : OwnsS B w v ls) :
    (v = .slice none 0 0 ∧ ls = []) ∨ ∃ g cap, v = .slice (some ⟨g, 0, none⟩) ls.length cap ∧ B ≤ g ∧ g < w.heap.size ∧ (∀ j l, ls[j]? = some l → w.cell? ⟨g, j, none⟩ = some (.string (strB l))) := by
  have h0 := h
  rcases h with ⟨hl, ⟨hv, hn⟩ | ⟨g, cap, cur, hv, hb, hg, hn, hm, hs, ht⟩⟩
  · exact .inl ⟨hv, List.eq_nil_of_length_eq_zero hn⟩
  · refine .inr ⟨g, cap, hv, hb, ?_, ?_⟩
    · have := World.ownsRow.lt h0 g (by rw [hv]; rfl)
      exact this.2
    · intro j l hj
      subst hv
      have hj' : j < ls.length := (List.getElem?_eq_some_iff.mp hj).1
      have := World.ownsRow.cellAt h0 j (by omega)
      rw [this, List.getElem?_map, hj]; rfl

theorem OwnsS.mono {B C : Nat} {w : World} {v : Value} {ls : List (List UInt8)} (hBC : B ≤ C) (h : OwnsS C w v ls) : OwnsS B w v ls := by
  rcases h with ⟨hl, hv | ⟨g, cap, cur, hv, hb, hg, hn, hm, hs, ht⟩⟩
  · exact ⟨hl, .inl hv⟩
  · exact ⟨hl, .inr ⟨g, cap, cur, hv, Nat.le_trans hBC hb, hg, hn, hm, hs, ht⟩⟩
theorem empty_yes {l : List UInt8} (h : l = []) : (strB l).toList.isEmpty = true := by subst h; rw [ByteArray.toList_eq]; rfl
theorem empty_no {l : List UInt8} (h : l ≠ []) : (strB l).toList.isEmpty = false := by
  rw [ByteArray.toList_eq]
  cases l with
  | nil => exact absurd rfl h
  | cons a t => rfl

/-- The value v is a slice of strings that reads as ls in the world w. -/
def ReadsS (w : World) (v : Value) (ls : List (List UInt8)) : Prop :=
  ∃ ao cap, v = .slice ao ls.length cap ∧ ∀ j l, ls[j]? = some l → ∃ g off, ao = some ⟨g, off, none⟩ ∧ g < w.heap.size ∧ w.cell? ⟨g, off + j, none⟩ = some (.string (strB l))
theorem OwnsS.reads {B : Nat} {w : World} {v : Value} {ls : List (List UInt8)} (h : OwnsS B w v ls) : ReadsS w v ls := by
  rcases h.open' with ⟨rfl, rfl⟩ | ⟨g, cap, rfl, _, hg, hc⟩
  · exact ⟨none, 0, rfl, fun j l h => by simp at h⟩
  · exact ⟨_, cap, rfl, fun j l hj => ⟨g, 0, rfl, hg, by rw [Nat.zero_add]; exact hc j l hj⟩⟩
theorem ReadsS.below {w w' : World} {v : Value} {ls : List (List UInt8)} (h : ReadsS w v ls) (hb : Below w.heap.size w w') : ReadsS w' v ls := by
  obtain ⟨ao, cap, rfl, hc⟩ := h
  refine ⟨ao, cap, rfl, fun j l hj => ?_⟩
  obtain ⟨g, off, h1, h2, h3⟩ := hc j l hj
  exact ⟨g, off, h1, Nat.lt_of_lt_of_le h2 hb.size, (hb.cell (p := ⟨g, off + j, none⟩) h2).trans h3⟩
theorem strB_inj {a b : List UInt8} (h : strB a = strB b) : a = b := by
  have := congrArg (fun s : ByteArray => s.data.toList) h
  simpa [strB] using this

end Go.Proofs.YtkfmfjlapkpeaaaGreatDoor

/- Lower case; what the code's lower returns. -/
namespace Go.Proofs.YtkfmfjlapkpeaaaGreatDoor
open Go.RowKit

def lowB (c : UInt8) : UInt8 := if 65 ≤ c.toNat ∧ c.toNat ≤ 90 then c + 32 else c
def lowS (l : List UInt8) : List UInt8 := l.map lowB
theorem lowB_up {c : UInt8} (h1 : 65 ≤ c.toNat) (h2 : c.toNat ≤ 90) : (lowB c).toNat = c.toNat + 32 := by
  unfold lowB; rw [if_pos ⟨h1, h2⟩, UInt8.toNat_add]; simp; omega
theorem lowB_not {c : UInt8} (h : ¬ (65 ≤ c.toNat ∧ c.toNat ≤ 90)) : lowB c = c := by unfold lowB; rw [if_neg h]
theorem lowS_take (s : ByteArray) (k : Nat) (h : k < s.size) : lowS (s.data.toList.take (k + 1)) = lowS (s.data.toList.take k) ++ [lowB s[k]] := by
  rw [take_snoc s k h]; simp [lowS]
theorem lowS_len (l : List UInt8) : (lowS l).length = l.length := by simp [lowS]
theorem conv_one (z : Int) (c : UInt8) (hz : z = (c.toNat : Int)) (W : World) :
    (convert 23 9 (.slice (some ⟨W.heap.size, 0, none⟩) 1 1)).run Tryz.prog (W.alloc (.cells #[.int .u8 z] 5)) = .ok (.string ⟨#[c]⟩) (W.alloc (.cells #[.int .u8 z] 5)) :=
  run_convert_bytes_back _ _ _ 5 ⟨W.heap.size, 0, none⟩ 1 [c] Tryz.underlying23 Tryz.underlying5 Tryz.underlying9 (fun j hj => by
    have : j = 0 := by simp at hj; omega
    subst this
    subst hz
    simp [Addr.add])
/-- The bytes after k rounds: those before k in lower case. -/
def lowTo (l : List UInt8) (k j : Nat) : Int := if j < k then ((lowB (l.getD j 0)).toNat : Int) else ((l.getD j 0).toNat : Int)
def LowC (s : ByteArray) (w : World) (i : Value) (wr : World) : Prop :=
  ∃ k : Nat, i = .int .i64 k ∧ k ≤ s.size ∧ (∀ j, j < s.size → wr.cell? ⟨w.heap.size, j, none⟩ = some (.int .u8 (lowTo s.data.toList k j)) ∧ wr.frozen? ⟨w.heap.size, j, none⟩ = false) ∧ Below w.heap.size w wr
theorem getD_list (s : ByteArray) (j : Nat) (h : j < s.size) : s.data.toList.getD j 0 = s[j] := by
  have h' : j < s.data.toList.length := by simpa using h
  rw [List.getD, List.getElem?_eq_getElem h']; rfl
theorem lowTo_at {s : ByteArray} {k : Nat} (h : k < s.size) : lowTo s.data.toList k k = (s[k].toNat : Int) := by
  unfold lowTo; rw [if_neg (by omega), getD_list s k h]
theorem row_at (s : ByteArray) (cap j : Nat) (h : j < s.size) : (bytesRow s cap)[j]? = some (.int .u8 (s[j].toNat : Int)) := by
  have h' : j < s.data.size := h
  unfold bytesRow
  rw [Array.getElem?_append_left (by simpa using h')]
  rw [Array.getElem?_map, Array.getElem?_eq_getElem h']; rfl
theorem LowC0 (s : ByteArray) (w : World) (cap : Nat) : LowC s w (.int .i64 0) (w.alloc (.cells (bytesRow s cap) 5 ((bytesRow s cap).size, (bytesRow s cap).size + 1))).drew := by
  refine ⟨0, rfl, Nat.zero_le _, fun j hj => ⟨?_, ?_⟩, ((Below.refl _ _).alloc (Nat.le_refl _) _).drew⟩
  · show (w.alloc _).cell? _ = _
    rw [World.cell?_alloc_mark, row_at s cap j hj]
    unfold lowTo; rw [if_neg (by omega), getD_list s j hj]
  · have hz : s.size ≤ (bytesRow s cap).size := by unfold bytesRow; simp
    have e : (w.alloc (.cells (bytesRow s cap) 5 ((bytesRow s cap).size, (bytesRow s cap).size + 1))).drew.heap[w.heap.size]? = some (.cells (bytesRow s cap) 5 ((bytesRow s cap).size, (bytesRow s cap).size + 1)) := by
      show (w.heap.push _)[w.heap.size]? = _
      simp
    unfold World.frozen?
    rw [e]
    simp
    omega
theorem LowC_up {s : ByteArray} {w wr : World} {k : Nat} (h : k < s.size) (h1 : 65 ≤ s[k].toNat) (h2 : s[k].toNat ≤ 90)
    (hc : ∀ j, j < s.size → wr.cell? ⟨w.heap.size, j, none⟩ = some (.int .u8 (lowTo s.data.toList k j)) ∧ wr.frozen? ⟨w.heap.size, j, none⟩ = false)
    (hk : wr.cell? ⟨w.heap.size, k, none⟩ = some (.int .u8 (s[k].toNat : Int))) :
    ∀ j, j < s.size → (wr.setCell ⟨w.heap.size, k, none⟩ (.int .u8 ((s[k].toNat : Int) - 65 + 97))).cell? ⟨w.heap.size, j, none⟩ = some (.int .u8 (lowTo s.data.toList (k + 1) j)) ∧
      (wr.setCell ⟨w.heap.size, k, none⟩ (.int .u8 ((s[k].toNat : Int) - 65 + 97))).frozen? ⟨w.heap.size, j, none⟩ = false := by
  intro j hj
  refine ⟨?_, (World.frozen?_setCell _ _ _ _).trans (hc j hj).2⟩
  by_cases e : j = k
  · subst e
    rw [World.cell?_setCell_same _ _ _ hk]
    unfold lowTo
    rw [if_pos (by omega), getD_list s j hj, lowB_up h1 h2]
    congr 2; omega
  · rw [World.cell?_setCell_other _ _ _ _ (by first | (simp; done) | (simp; exact fun h => e h.symm)), (hc j hj).1]
    unfold lowTo
    by_cases hjk : j < k
    · rw [if_pos hjk, if_pos (by omega)]
    · rw [if_neg hjk, if_neg (by omega)]
theorem LowC_not {s : ByteArray} {w wr : World} {k : Nat} (h : k < s.size) (hn : ¬ (65 ≤ s[k].toNat ∧ s[k].toNat ≤ 90))
    (hc : ∀ j, j < s.size → wr.cell? ⟨w.heap.size, j, none⟩ = some (.int .u8 (lowTo s.data.toList k j)) ∧ wr.frozen? ⟨w.heap.size, j, none⟩ = false) :
    ∀ j, j < s.size → wr.cell? ⟨w.heap.size, j, none⟩ = some (.int .u8 (lowTo s.data.toList (k + 1) j)) ∧ wr.frozen? ⟨w.heap.size, j, none⟩ = false := by
  intro j hj
  refine ⟨?_, (hc j hj).2⟩
  rw [(hc j hj).1]
  unfold lowTo
  by_cases hjk : j < k
  · rw [if_pos hjk, if_pos (by omega)]
  · rw [if_neg hjk]
    by_cases e : j = k
    · subst e; rw [if_pos (by omega), getD_list s j hj, lowB_not hn]
    · rw [if_neg (by omega)]
theorem low_conv (s : ByteArray) (w wr : World) (cap : Nat)
    (hc : ∀ j, j < s.size → wr.cell? ⟨w.heap.size, j, none⟩ = some (.int .u8 (lowTo s.data.toList s.size j)) ∧ wr.frozen? ⟨w.heap.size, j, none⟩ = false) :
    (convert 23 9 (.slice (some ⟨w.heap.size, 0, none⟩) s.size cap)).run Tryz.prog wr = .ok (.string (strB (lowS s.data.toList))) wr := by
  have hl : (lowS s.data.toList).length = s.size := by rw [lowS_len]; simp
  have := run_convert_bytes_back wr 23 9 5 ⟨w.heap.size, 0, none⟩ cap (lowS s.data.toList) Tryz.underlying23 Tryz.underlying5 Tryz.underlying9 (fun j hj => by
    rw [Addr.add_lit, Nat.zero_add, (hc j (by omega)).1]
    unfold lowTo
    rw [if_pos (by omega)]
    have hj' : j < s.data.toList.length := by rw [lowS_len] at hj; exact hj
    rw [List.getD, List.getElem?_eq_getElem hj']
    simp [lowS])
  rw [hl] at this
  exact this
set_option maxHeartbeats 2000000 in
set_option maxRecDepth 100000 in
theorem lower_any (s : ByteArray) (w : World) (hs : s.size ≤ 1000000000) :
    Calls Tryz.prog 87 #[.string s] w fun e w' => e = .returned (.string (strB (lowS s.data.toList))) ∧ Below w.heap.size w w' := by
  have hcb := fun W : World => run_bytes_of_string (P := Tryz.prog) W 9 23 5 s Tryz.underlying9 Tryz.underlying23 Tryz.underlying5
  go_enter Tryz.func87, Tryz.ntmps87
  go_wp2
  have HCB := Lib.hid hcb
  clear hcb
  go_loopw [10] (fun i wr => LowC s w i wr) (fun i _ => s.size - (intOf i).toNat)
  case atStart => exact LowC0 s w _
  case round =>
    obtain ⟨k, rfl, hk, hc, hB⟩ := hrel
    have HC := Lib.hid hc
    clear hc
    have hsz := hB.size
    by_cases hlt : k < s.size
    · have hcell : wr.cell? ⟨w.heap.size, k, none⟩ = some (.int .u8 (s[k].toNat : Int)) := by rw [(HC.out k hlt).1, lowTo_at hlt]
      have hfz := (HC.out k hlt).2
      by_cases h1 : 65 ≤ s[k].toNat
      · by_cases h2 : s[k].toNat ≤ 90
        · go_wp2
          go_roundw
          case rel => exact ⟨k + 1, by go_num, by omega, LowC_up hlt h1 h2 HC.out hcell, hB.setCell (p := ⟨w.heap.size, k, none⟩) (Nat.le_refl _) _⟩
          case measure => simp [intOf]; omega
        · go_wp2
          go_roundw
          case rel => exact ⟨k + 1, by go_num, by omega, LowC_not hlt (by omega) HC.out, hB⟩
          case measure => simp [intOf]; omega
      · go_wp2
        go_roundw
        case rel => exact ⟨k + 1, by go_num, by omega, LowC_not hlt (by omega) HC.out, hB⟩
        case measure => simp [intOf]; omega
    · obtain rfl : k = s.size := by omega
      have hcv := low_conv s w wr (grownCap w s.size 0 5) HC.out
      go_wp2
      go_ret
      exact ⟨rfl, hB⟩
end Go.Proofs.YtkfmfjlapkpeaaaGreatDoor

/- Addresses in plain words, without the program: hosts, canonical forms, dot segments; a canonical address stays as it is. -/
namespace Go.Proofs.YtkfmfjlapkpeaaaGreatDoor

def alnB (c : UInt8) : Bool := (decide (48 ≤ c.toNat) && decide (c.toNat ≤ 57)) || (decide (97 ≤ c.toNat) && decide (c.toNat ≤ 122)) || (decide (65 ≤ c.toNat) && decide (c.toNat ≤ 90))
def unrB (c : UInt8) : Bool := alnB c || [45, 46, 95, 126].contains c.toNat
def pathB (c : UInt8) : Bool := unrB c || [33, 36, 38, 39, 40, 41, 42, 43, 44, 59, 61, 58, 64, 47].contains c.toNat
def queB (c : UInt8) : Bool := c.toNat == 63 || pathB c
/-- The bytes that stand for themselves in a path, or (q) in a query. -/
def plnB (q : Bool) (c : UInt8) : Bool := (q && c.toNat == 63) || pathB c
/-- The value of a hexadecimal digit; -1 if it is none. -/
def hexI (c : UInt8) : Int :=
  if 48 ≤ c.toNat ∧ c.toNat ≤ 57 then (c.toNat : Int) - 48
  else if 97 ≤ c.toNat ∧ c.toNat ≤ 102 then (c.toNat : Int) - 87
  else if 65 ≤ c.toNat ∧ c.toNat ≤ 70 then (c.toNat : Int) - 55 else -1
def valN (a b : UInt8) : Nat := (16 * hexI a + hexI b).toNat
/-- Two hexadecimal digits that stand for a permitted byte. -/
def okB (a b : UInt8) : Bool := decide (0 ≤ hexI a) && decide (0 ≤ hexI b) && decide (32 ≤ valN a b) && decide (valN a b ≠ 127)
def hexD (n : Nat) : UInt8 := if n < 10 then UInt8.ofNat (48 + n) else UInt8.ofNat (55 + n)
def encB (n : Nat) : List UInt8 := if unrB (UInt8.ofNat n) then [UInt8.ofNat n] else [37, hexD (n / 16), hexD (n % 16)]
/-- The canonical form of a path or (q) of a query. -/
def canO (q : Bool) : List UInt8 → Option (List UInt8)
  | [] => some []
  | c :: t =>
    if c = 37 then
      match t with
      | a :: b :: r => if okB a b then (canO q r).map (encB (valN a b) ++ ·) else none
      | _ => none
    else if plnB q c then (canO q t).map (c :: ·) else none
/-- The parts of a string between separators. -/
def cutL (c : UInt8) : List UInt8 → List (List UInt8)
  | [] => [[]]
  | x :: t => if x = c then [] :: cutL c t else match cutL c t with
    | [] => [[x]]
    | p :: r => (x :: p) :: r
def lblC (c : UInt8) : Bool := alnB c || c == 45
def lblB (l : List UInt8) : Bool := !l.isEmpty && decide (l.length ≤ 63) && l.head? != some 45 && l.getLast? != some 45 && l.all lblC
def hostO (l : List UInt8) : Option (List UInt8) := if l.length ≤ 100 ∧ (cutL 46 l).all lblB then some (lowS l) else none
def dotB (s : List UInt8) : Bool := s == [46] || s == [46, 46]
/-- Segments without dot segments: those left so far, the rest. -/
def dotsF : List (List UInt8) → List (List UInt8) → Option (List (List UInt8))
  | [], out => some out
  | s :: r, out =>
    if s = [46] then dotsF r (if r = [] then out ++ [[]] else out)
    else if s = [46, 46] then (if out = [] then none else dotsF r (if r = [] then out.dropLast ++ [[]] else out.dropLast))
    else dotsF r (out ++ [s])
def slashed (ls : List (List UInt8)) : List UInt8 := ls.flatMap (47 :: ·)
def pathO (l : List UInt8) : Option (List UInt8) :=
  match l with
  | 47 :: _ => (canO false l).bind fun p => (dotsF (cutL 47 p.tail) []).map slashed
  | _ => none
/-- What stands before the first separator, what behind it, and whether there is one. -/
def cutC (c : UInt8) : List UInt8 → List UInt8 × List UInt8 × Bool
  | [] => ([], [], false)
  | x :: t => if x = c then ([], t, true) else ((x :: (cutC c t).1), (cutC c t).2)
/-- The segments of a path: none if it has no slash. -/
def segL (l : List UInt8) : List (List UInt8) := if (cutC 47 l).2.2 then cutL 47 (cutC 47 l).2.1 else []
structure Adr where
  h : List UInt8
  p : List UInt8
  q : List UInt8
  b : Bool
deriving DecidableEq
def Adr.zero : Adr := ⟨[], [], [], false⟩
def Adr.target (a : Adr) : List UInt8 := if a.b then a.p ++ 63 :: a.q else a.p
def Adr.text (a : Adr) : List UInt8 := a.h ++ a.target
/-- The code of the error (0: none), and the address. -/
def parseA (h t : List UInt8) : Nat × Adr :=
  match hostO h with
  | none => (8, .zero)
  | some h' =>
    match pathO (cutC 63 t).1, canO true (cutC 63 t).2.1 with
    | some p, some q => if (Adr.text ⟨h', p, q, (cutC 63 t).2.2⟩).length ≤ 1024 then (0, ⟨h', p, q, (cutC 63 t).2.2⟩) else (5, .zero)
    | _, _ => (27, .zero)
def validA (a : Adr) : Bool := (a.b || a.q.isEmpty) && decide (parseA a.h a.target = (0, a))
def readO (l : List UInt8) : Option Adr :=
  let h := l.takeWhile (· ≠ 47)
  let r := parseA h (l.drop h.length)
  if r.1 = 0 ∧ r.2.text = l then some r.2 else none
theorem hexI_le (c : UInt8) : hexI c ≤ 15 ∧ -1 ≤ hexI c := by
  unfold hexI; repeat' split
  all_goals omega
theorem valN_lt {a b : UInt8} (ha : 0 ≤ hexI a) (hb : 0 ≤ hexI b) : valN a b < 256 ∧ (valN a b : Int) = 16 * hexI a + hexI b := by
  have h1 := hexI_le a; have h2 := hexI_le b
  unfold valN; omega
theorem okB_iff {a b : UInt8} : okB a b = true ↔ 0 ≤ hexI a ∧ 0 ≤ hexI b ∧ 32 ≤ valN a b ∧ valN a b ≠ 127 := by
  unfold okB; simp [and_assoc]
theorem enc_fin : ∀ n : Fin 256, 32 ≤ n.val → n.val ≠ 127 → unrB (UInt8.ofNat n.val) = false →
    okB (hexD (n.val / 16)) (hexD (n.val % 16)) = true ∧ valN (hexD (n.val / 16)) (hexD (n.val % 16)) = n.val := by decide +kernel
theorem unr_fin : ∀ n : Fin 256, unrB (UInt8.ofNat n.val) = true → UInt8.ofNat n.val ≠ 37 ∧ UInt8.ofNat n.val ≠ 63 ∧ pathB (UInt8.ofNat n.val) = true := by decide +kernel
theorem hexD_fin : ∀ n : Fin 16, hexD n.val ≠ 63 := by decide +kernel
theorem plnB_of_path {q : Bool} {c : UInt8} (h : pathB c = true) : plnB q c = true := by unfold plnB; rw [h, Bool.or_true]
theorem pathB_ne : ∀ n : Fin 256, pathB (UInt8.ofNat n.val) = true → UInt8.ofNat n.val ≠ 63 := by decide +kernel
theorem plnB_pct (q : Bool) : plnB q 37 = false := by cases q <;> decide
theorem plnB_false {c : UInt8} (h : plnB false c = true) : c ≠ 63 := by
  have := pathB_ne ⟨c.toNat, UInt8.toNat_lt c⟩
  simp only [UInt8.ofNat_toNat] at this
  exact this (by simpa [plnB] using h)
theorem canO_pct (q : Bool) (a b : UInt8) (r : List UInt8) : canO q (37 :: a :: b :: r) = if okB a b then (canO q r).map (encB (valN a b) ++ ·) else none := by
  rw [canO]; simp
theorem canO_pct1 (q : Bool) (a : UInt8) : canO q [37, a] = none := by simp [canO]
theorem canO_pct0 (q : Bool) : canO q [37] = none := by simp [canO]
theorem canO_plain (q : Bool) {c : UInt8} (h : plnB q c = true) (t : List UInt8) : canO q (c :: t) = (canO q t).map (c :: ·) := by
  have hc : ¬ c = 37 := by rintro rfl; rw [plnB_pct] at h; cases h
  rw [canO.eq_def]; simp [hc, h]
theorem canO_bad (q : Bool) {c : UInt8} (h : plnB q c = false) (hc : c ≠ 37) (t : List UInt8) : canO q (c :: t) = none := by
  rw [canO.eq_def]; simp [hc, h]
/-- The induction along canO. -/
theorem canO_rec (q : Bool) (P : List UInt8 → Prop) (h0 : P []) (hp : ∀ a b r, okB a b = true → P r → P (37 :: a :: b :: r)) (hc : ∀ c t, plnB q c = true → P t → P (c :: t))
    : ∀ (n : Nat) (l x : List UInt8), l.length ≤ n → canO q l = some x → P l := by
  intro n
  induction n with
  | zero => intro l x hl _; cases l with
    | nil => exact h0
    | cons => simp at hl
  | succ n ih =>
    intro l x hl hx
    match l with
    | [] => exact h0
    | c :: t =>
      by_cases h37 : c = 37
      · subst h37
        match t with
        | [] => rw [canO_pct0] at hx; cases hx
        | [a] => rw [canO_pct1] at hx; cases hx
        | a :: b :: r =>
          rw [canO_pct] at hx
          by_cases hok : okB a b = true
          · rw [if_pos hok] at hx
            cases hr : canO q r with
            | none => rw [hr] at hx; cases hx
            | some y => exact hp a b r hok (ih r y (by simp at hl; omega) hr)
          · rw [if_neg hok] at hx; cases hx
      · by_cases hpl : plnB q c = true
        · rw [canO_plain q hpl] at hx
          cases hr : canO q t with
          | none => rw [hr] at hx; cases hx
          | some y => exact hc c t hpl (ih t y (by simpa using hl) hr)
        · rw [canO_bad q (by simpa using hpl) h37] at hx; cases hx
theorem canO_app {q : Bool} {a x : List UInt8} (h : canO q a = some x) (b : List UInt8) : canO q (a ++ b) = (canO q b).map (x ++ ·) := by
  have key := canO_rec q (fun l => ∀ x, canO q l = some x → canO q (l ++ b) = (canO q b).map (x ++ ·)) (fun x hx => ?_) (fun c d r hok ih x hx => ?_) (fun c t hpl ih x hx => ?_) a.length a x (Nat.le_refl _) h
  · exact key x h
  · simp [canO] at hx; subst hx; simp
  · rw [canO_pct, if_pos hok] at hx
    cases hr : canO q r with
    | none => rw [hr] at hx; cases hx
    | some y =>
      rw [hr] at hx; simp only [Option.map_some, Option.some.injEq] at hx; subst hx
      rw [List.cons_append, List.cons_append, List.cons_append, canO_pct, if_pos hok, ih y hr]
      cases canO q b <;> simp
  · rw [canO_plain q hpl] at hx
    cases hr : canO q t with
    | none => rw [hr] at hx; cases hx
    | some y =>
      rw [hr] at hx; simp only [Option.map_some, Option.some.injEq] at hx; subst hx
      rw [List.cons_append, canO_plain q hpl, ih y hr]
      cases canO q b <;> simp
theorem canO_app_plain {q : Bool} : ∀ (a : List UInt8), 37 ∉ a → ∀ b, canO q (a ++ b) = if a.all (plnB q) then (canO q b).map (a ++ ·) else none := by
  intro a
  induction a with
  | nil => intro _ b; simp
  | cons c t ih =>
    intro h b
    have hc : c ≠ 37 := fun e => h (by simp [e])
    have ht : 37 ∉ t := fun e => h (by simp [e])
    by_cases hp : plnB q c = true
    · rw [List.cons_append, canO_plain q hp, ih ht b]
      by_cases ha : t.all (plnB q) = true
      · rw [if_pos ha, if_pos (by simp [hp]; simpa using ha)]
        cases canO q b <;> rfl
      · rw [if_neg ha, if_neg (by simp [hp]; simpa using ha)]; rfl
    · rw [List.cons_append, canO_bad q (by simpa using hp) hc, if_neg (by simp [hp])]
theorem enc_self (q : Bool) (n : Nat) (h : n < 256) (h1 : 32 ≤ n) (h2 : n ≠ 127) (t : List UInt8) : canO q (encB n ++ t) = (canO q t).map (encB n ++ ·) := by
  unfold encB
  by_cases hu : unrB (UInt8.ofNat n) = true
  · rw [if_pos hu]
    have := (unr_fin ⟨n, h⟩ hu).2.2
    rw [List.singleton_append, canO_plain q (plnB_of_path this)]
    cases canO q t <;> rfl
  · rw [if_neg hu]
    obtain ⟨e1, e2⟩ := enc_fin ⟨n, h⟩ h1 h2 (by simpa using hu)
    simp only at e1 e2
    have : ([37, hexD (n / 16), hexD (n % 16)] : List UInt8) ++ t = 37 :: hexD (n / 16) :: hexD (n % 16) :: t := rfl
    rw [this, canO_pct, if_pos e1, e2]
    unfold encB; rw [if_neg hu]
theorem canO_idem {q : Bool} {l x : List UInt8} (h : canO q l = some x) : canO q x = some x := by
  have key := canO_rec q (fun l => ∀ x, canO q l = some x → canO q x = some x) (fun x hx => ?_) (fun c d r hok ih x hx => ?_) (fun c t hpl ih x hx => ?_) l.length l x (Nat.le_refl _) h
  · exact key x h
  · simp [canO] at hx; subst hx; rfl
  · rw [canO_pct, if_pos hok] at hx
    cases hr : canO q r with
    | none => rw [hr] at hx; cases hx
    | some y =>
      rw [hr] at hx; simp only [Option.map_some, Option.some.injEq] at hx; subst hx
      obtain ⟨h1, h2, h3, h4⟩ := okB_iff.mp hok
      rw [enc_self q _ (valN_lt h1 h2).1 h3 h4, ih y hr]; rfl
  · rw [canO_plain q hpl] at hx
    cases hr : canO q t with
    | none => rw [hr] at hx; cases hx
    | some y =>
      rw [hr] at hx; simp only [Option.map_some, Option.some.injEq] at hx; subst hx
      rw [canO_plain q hpl, ih y hr]; rfl
theorem enc_noq (n : Nat) (h : n < 256) : 63 ∉ encB n := by
  unfold encB
  by_cases hu : unrB (UInt8.ofNat n) = true
  · rw [if_pos hu]
    have := (unr_fin ⟨n, h⟩ hu).2.1
    simp only at this
    simpa using fun e => this e.symm
  · rw [if_neg hu]
    have a1 := hexD_fin ⟨n / 16, by omega⟩
    have a2 := hexD_fin ⟨n % 16, by omega⟩
    simp only at a1 a2
    simp only [List.mem_cons, List.not_mem_nil, or_false, not_or]
    exact ⟨by decide, fun e => a1 e.symm, fun e => a2 e.symm⟩
theorem canO_noq {l x : List UInt8} (h : canO false l = some x) : 63 ∉ x := by
  have key := canO_rec false (fun l => ∀ x, canO false l = some x → 63 ∉ x) (fun x hx => ?_) (fun c d r hok ih x hx => ?_) (fun c t hpl ih x hx => ?_) l.length l x (Nat.le_refl _) h
  · exact key x h
  · simp [canO] at hx; subst hx; simp
  · rw [canO_pct, if_pos hok] at hx
    cases hr : canO false r with
    | none => rw [hr] at hx; cases hx
    | some y =>
      rw [hr] at hx; simp only [Option.map_some, Option.some.injEq] at hx; subst hx
      obtain ⟨h1, h2, h3, h4⟩ := okB_iff.mp hok
      rw [List.mem_append, not_or]
      exact ⟨enc_noq _ (valN_lt h1 h2).1, ih y hr⟩
  · rw [canO_plain false hpl] at hx
    cases hr : canO false t with
    | none => rw [hr] at hx; cases hx
    | some y =>
      rw [hr] at hx; simp only [Option.map_some, Option.some.injEq] at hx; subst hx
      rw [List.mem_cons, not_or]
      exact ⟨fun e => plnB_false hpl e.symm, ih y hr⟩
theorem enc_len (n : Nat) : 1 ≤ (encB n).length ∧ (encB n).length ≤ 3 := by unfold encB; split <;> simp
theorem canO_len {q : Bool} {l x : List UInt8} (h : canO q l = some x) : x.length ≤ l.length := by
  have key := canO_rec q (fun l => ∀ x, canO q l = some x → x.length ≤ l.length) (fun x hx => ?_) (fun c d r hok ih x hx => ?_) (fun c t hpl ih x hx => ?_) l.length l x (Nat.le_refl _) h
  · exact key x h
  · simp [canO] at hx; subst hx; simp
  · rw [canO_pct, if_pos hok] at hx
    cases hr : canO q r with
    | none => rw [hr] at hx; cases hx
    | some y =>
      rw [hr] at hx; simp only [Option.map_some, Option.some.injEq] at hx; subst hx
      have := ih y hr; have := enc_len (valN c d)
      simp; omega
  · rw [canO_plain q hpl] at hx
    cases hr : canO q t with
    | none => rw [hr] at hx; cases hx
    | some y =>
      rw [hr] at hx; simp only [Option.map_some, Option.some.injEq] at hx; subst hx
      have := ih y hr; simp; omega
/-- The first byte stays, if it is a slash. -/
theorem canO_slash {q : Bool} {t x : List UInt8} (h : canO q (47 :: t) = some x) : ∃ y, canO q t = some y ∧ x = 47 :: y := by
  rw [canO_plain q (by cases q <;> decide)] at h
  cases hr : canO q t with
  | none => rw [hr] at h; cases h
  | some y => rw [hr] at h; simp only [Option.map_some, Option.some.injEq] at h; exact ⟨y, rfl, h.symm⟩
theorem cutL_ne (c : UInt8) (l : List UInt8) : cutL c l ≠ [] := by
  cases l with
  | nil => simp [cutL]
  | cons x t =>
    unfold cutL; split
    · simp
    · split <;> simp
theorem cutL_sep (c : UInt8) (t : List UInt8) : cutL c (c :: t) = [] :: cutL c t := by rw [cutL]; simp
theorem cutL_cons {c x : UInt8} (h : x ≠ c) {t p : List UInt8} {r : List (List UInt8)} (e : cutL c t = p :: r) : cutL c (x :: t) = (x :: p) :: r := by
  rw [cutL, if_neg h, e]
/-- A part without separators in front. -/
theorem cutL_part {c : UInt8} : ∀ {a : List UInt8}, c ∉ a → ∀ {t p : List UInt8} {r : List (List UInt8)}, cutL c t = p :: r → cutL c (a ++ t) = (a ++ p) :: r := by
  intro a
  induction a with
  | nil => intro _ t p r e; exact e
  | cons x a ih =>
    intro h t p r e
    exact cutL_cons (fun h' => h (by simp [h'])) (ih (fun h' => h (by simp [h'])) e)
theorem cutL_none {c : UInt8} {a : List UInt8} (h : c ∉ a) : cutL c a = [a] := by
  have := cutL_part h (t := []) (p := []) (r := []) rfl
  simpa using this
theorem cutL_app (c : UInt8) : ∀ (a b : List UInt8), cutL c (a ++ c :: b) = cutL c a ++ cutL c b := by
  intro a
  induction a with
  | nil => intro b; simp [cutL_sep, cutL]
  | cons x t ih =>
    intro b
    by_cases hx : x = c
    · subst hx; rw [List.cons_append, cutL_sep, cutL_sep, ih]; rfl
    · cases e : cutL c t with
      | nil => exact absurd e (cutL_ne c t)
      | cons p r =>
        rw [List.cons_append, cutL_cons hx e, cutL_cons (p := p) (r := r ++ cutL c b) hx (by rw [ih, e]; rfl)]; rfl
theorem cutL_noc (c : UInt8) : ∀ (l s : List UInt8), s ∈ cutL c l → c ∉ s := by
  intro l
  induction l with
  | nil => intro s h; simp [cutL] at h; subst h; simp
  | cons x t ih =>
    intro s h
    by_cases hx : x = c
    · subst hx; rw [cutL_sep] at h
      rcases List.mem_cons.mp h with rfl | h
      · simp
      · exact ih s h
    · cases e : cutL c t with
      | nil => exact absurd e (cutL_ne c t)
      | cons p r =>
        rw [cutL_cons hx e] at h
        rcases List.mem_cons.mp h with rfl | h
        · have := ih p (by rw [e]; simp)
          rw [List.mem_cons, not_or]; exact ⟨fun e => hx e.symm, this⟩
        · exact ih s (by rw [e]; exact List.mem_cons_of_mem _ h)
theorem slashed_cutL (l : List UInt8) : slashed (cutL 47 l) = 47 :: l := by
  induction l with
  | nil => rfl
  | cons x t ih =>
    by_cases hx : x = 47
    · subst hx; rw [cutL_sep]
      show 47 :: ([] ++ slashed (cutL 47 t)) = _
      rw [ih]; rfl
    · cases e : cutL 47 t with
      | nil => exact absurd e (cutL_ne 47 t)
      | cons p r =>
        rw [cutL_cons hx e]; rw [e] at ih
        have : slashed (p :: r) = 47 :: (p ++ slashed r) := by simp [slashed]
        rw [this] at ih
        have : slashed ((x :: p) :: r) = 47 :: x :: (p ++ slashed r) := by simp [slashed]
        rw [this, (List.cons.inj ih).2]
theorem slashed_cons (s : List UInt8) (r : List (List UInt8)) : slashed (s :: r) = 47 :: (s ++ slashed r) := by simp [slashed]
theorem slashed_app (a b : List (List UInt8)) : slashed (a ++ b) = slashed a ++ slashed b := by simp [slashed]
theorem cutL_slashed : ∀ (ls : List (List UInt8)), ls ≠ [] → (∀ s ∈ ls, 47 ∉ s) → cutL 47 (slashed ls).tail = ls := by
  intro ls
  induction ls with
  | nil => intro h; exact absurd rfl h
  | cons s r ih =>
    intro _ h
    rw [slashed_cons, List.tail_cons]
    have hs := h s (by simp)
    cases r with
    | nil => simp [slashed, cutL_none hs]
    | cons s' r' =>
      have := ih (by simp) (fun u hu => h u (by simp [hu]))
      rw [slashed_cons] at this ⊢
      rw [cutL_app, cutL_none hs]
      rw [List.tail_cons] at this
      rw [this]; rfl
theorem cutL_len (c : UInt8) (l : List UInt8) : (cutL c l).length ≤ l.length + 1 := by
  induction l with
  | nil => simp [cutL]
  | cons x t ih =>
    by_cases hx : x = c
    · subst hx; rw [cutL_sep]; simp; omega
    · cases e : cutL c t with
      | nil => exact absurd e (cutL_ne c t)
      | cons p r => rw [cutL_cons hx e]; rw [e] at ih; simp at *; omega

theorem cutL_part_le (c : UInt8) : ∀ (l s : List UInt8), s ∈ cutL c l → s.length ≤ l.length := by
  intro l
  induction l with
  | nil => intro s h; simp [cutL] at h; subst h; simp
  | cons x t ih =>
    intro s h
    by_cases hx : x = c
    · subst hx; rw [cutL_sep] at h
      rcases List.mem_cons.mp h with rfl | h
      · simp
      · have := ih s h; simp; omega
    · cases e : cutL c t with
      | nil => exact absurd e (cutL_ne c t)
      | cons p r =>
        rw [cutL_cons hx e] at h
        rcases List.mem_cons.mp h with rfl | h
        · have := ih p (by rw [e]; simp); simp; omega
        · have := ih s (by rw [e]; exact List.mem_cons_of_mem _ h); simp; omega
theorem dotsF_plain : ∀ (l out : List (List UInt8)), (∀ s ∈ l, dotB s = false) → dotsF l out = some (out ++ l) := by
  intro l
  induction l with
  | nil => intro out _; simp [dotsF]
  | cons s r ih =>
    intro out h
    have hs := h s (by simp)
    simp only [dotB, Bool.or_eq_false_iff, beq_eq_false_iff_ne] at hs
    rw [dotsF, if_neg hs.1, if_neg hs.2, ih _ (fun u hu => h u (by simp [hu]))]
    simp
/-- What the left segments have in common. -/
theorem dotsF_all (P : List UInt8 → Prop) (h0 : P []) : ∀ (l out x : List (List UInt8)), (∀ s ∈ out, P s) → (∀ s ∈ l, dotB s = false → P s) → dotsF l out = some x → ∀ s ∈ x, P s := by
  intro l
  induction l with
  | nil => intro out x ho _ hx; simp [dotsF] at hx; subst hx; exact ho
  | cons s r ih =>
    intro out x ho hl hx
    have hr : ∀ s ∈ r, dotB s = false → P s := fun u hu => hl u (by simp [hu])
    rw [dotsF] at hx
    by_cases h1 : s = [46]
    · rw [if_pos h1] at hx
      refine ih _ x ?_ hr hx
      split
      · intro u hu; rcases List.mem_append.mp hu with hu | hu
        · exact ho u hu
        · simp at hu; subst hu; exact h0
      · exact ho
    · rw [if_neg h1] at hx
      by_cases h2 : s = [46, 46]
      · rw [if_pos h2] at hx
        by_cases h3 : out = []
        · rw [if_pos h3] at hx; cases hx
        · rw [if_neg h3] at hx
          refine ih _ x ?_ hr hx
          split
          · intro u hu; rcases List.mem_append.mp hu with hu | hu
            · exact ho u ((List.dropLast_sublist _).mem hu)
            · simp at hu; subst hu; exact h0
          · intro u hu; exact ho u ((List.dropLast_sublist _).mem hu)
      · rw [if_neg h2] at hx
        refine ih _ x ?_ hr hx
        intro u hu; rcases List.mem_append.mp hu with hu | hu
        · exact ho u hu
        · simp at hu; subst hu; exact hl _ (by simp) (by simp [dotB, h1, h2])
/-- The last segment leaves one at the end. -/
theorem dotsF_ne : ∀ (l out x : List (List UInt8)), (l ≠ [] ∨ out ≠ []) → dotsF l out = some x → x ≠ [] := by
  intro l
  induction l with
  | nil => intro out x h hx; simp [dotsF] at hx; subst hx; simpa using h
  | cons s r ih =>
    intro out x _ hx
    rw [dotsF] at hx
    by_cases hr : r = []
    · subst hr
      split at hx
      · exact ih _ x (Or.inr (by simp)) hx
      · split at hx
        · split at hx
          · cases hx
          · exact ih _ x (Or.inr (by simp)) hx
        · exact ih _ x (Or.inr (by simp)) hx
    · split at hx
      · exact ih _ x (Or.inl hr) hx
      · split at hx
        · split at hx
          · cases hx
          · exact ih _ x (Or.inl hr) hx
        · exact ih _ x (Or.inl hr) hx
theorem dotsF_idem {l x : List (List UInt8)} (h : dotsF l [] = some x) : dotsF x [] = some x := by
  have := dotsF_all (fun s => dotB s = false) (by decide) l [] x (by simp) (fun s _ h => h) h
  simpa using dotsF_plain x [] this
theorem dotsF_dot {r : List (List UInt8)} (h : r ≠ []) (out : List (List UInt8)) : dotsF ([46] :: r) out = dotsF r out := by
  rw [dotsF, if_pos rfl, if_neg h]
theorem dotsF_back {r : List (List UInt8)} (h : r ≠ []) (s : List UInt8) (hs : dotB s = false) (out : List (List UInt8)) : dotsF (s :: [46, 46] :: r) out = dotsF r out := by
  simp only [dotB, Bool.or_eq_false_iff, beq_eq_false_iff_ne] at hs
  rw [dotsF, if_neg hs.1, if_neg hs.2, dotsF, if_neg (by decide), if_pos rfl, if_neg (by simp), if_neg h]
  simp
/-- Two tails that agree for all segments left so far agree behind any beginning, if both or none are empty. -/
theorem dotsF_congr {a b : List (List UInt8)} (hab : a = [] ↔ b = []) (h : ∀ out, dotsF a out = dotsF b out) : ∀ (l out : List (List UInt8)), dotsF (l ++ a) out = dotsF (l ++ b) out := by
  intro l
  induction l with
  | nil => exact h
  | cons s r ih =>
    intro out
    have e : (r ++ a = []) ↔ (r ++ b = []) := by simp only [List.append_eq_nil_iff, hab]
    rw [List.cons_append, List.cons_append, dotsF, dotsF]
    simp only [e, ih]

theorem lowB_fin : ∀ n : Fin 256, lowB (lowB (UInt8.ofNat n.val)) = lowB (UInt8.ofNat n.val) ∧ alnB (lowB (UInt8.ofNat n.val)) = alnB (UInt8.ofNat n.val) ∧ (lowB (UInt8.ofNat n.val) = 46 ↔ UInt8.ofNat n.val = 46) ∧ (lowB (UInt8.ofNat n.val) = 45 ↔ UInt8.ofNat n.val = 45) ∧ (lowB (UInt8.ofNat n.val) = 47 ↔ UInt8.ofNat n.val = 47) := by decide +kernel
theorem lowB_facts (c : UInt8) : lowB (lowB c) = lowB c ∧ alnB (lowB c) = alnB c ∧ (lowB c = 46 ↔ c = 46) ∧ (lowB c = 45 ↔ c = 45) ∧ (lowB c = 47 ↔ c = 47) := by
  have := lowB_fin ⟨c.toNat, UInt8.toNat_lt c⟩
  simpa only [UInt8.ofNat_toNat] using this
theorem lowS_idem (l : List UInt8) : lowS (lowS l) = lowS l := by
  unfold lowS; rw [List.map_map]; congr 1; funext c; exact (lowB_facts c).1
theorem cutL_low (l : List UInt8) : cutL 46 (lowS l) = (cutL 46 l).map lowS := by
  induction l with
  | nil => rfl
  | cons x t ih =>
    by_cases hx : x = 46
    · subst hx
      show cutL 46 (lowB 46 :: lowS t) = _
      rw [show lowB 46 = 46 by decide, cutL_sep, cutL_sep, ih]; rfl
    · cases e : cutL 46 t with
      | nil => exact absurd e (cutL_ne 46 t)
      | cons p r =>
        rw [e] at ih
        show cutL 46 (lowB x :: lowS t) = _
        rw [cutL_cons hx e, cutL_cons (p := lowS p) (r := r.map lowS) (fun h => hx ((lowB_facts x).2.2.1.mp h)) ih]; rfl
theorem lblB_low (l : List UInt8) : lblB (lowS l) = lblB l := by
  have e1 : (lowS l).isEmpty = l.isEmpty := by cases l <;> rfl
  have e2 : (lowS l).length = l.length := by simp [lowS]
  have h45 : ∀ o : Option UInt8, (o.map lowB != some 45) = (o != some 45) := by
    intro o; cases o with
    | none => rfl
    | some c =>
      rw [Bool.eq_iff_iff]; simp only [Option.map_some, bne_iff_ne, ne_eq, Option.some.injEq]
      rw [(lowB_facts c).2.2.2.1]
  have e3 : (lowS l).head? = l.head?.map lowB := by simp [lowS]
  have e4 : (lowS l).getLast? = l.getLast?.map lowB := by simp [lowS]
  have e5 : ((lowS l).all lblC) = l.all lblC := by
    unfold lowS; rw [List.all_map]; congr 1; funext c
    simp only [Function.comp, lblC]
    rw [(lowB_facts c).2.1]
    congr 1; rw [Bool.eq_iff_iff]; simp only [beq_iff_eq]; exact (lowB_facts c).2.2.2.1
  unfold lblB; rw [e1, e2, e3, e4, e5, h45, h45]
theorem hostO_low (l : List UInt8) : hostO (lowS l) = hostO l := by
  unfold hostO
  rw [cutL_low, lowS_idem, show (lowS l).length = l.length by simp [lowS], List.all_map]
  have : (lblB ∘ lowS) = lblB := by funext s; exact lblB_low s
  rw [this]
theorem hostO_some {l h : List UInt8} (e : hostO l = some h) : h = lowS l ∧ l.length ≤ 100 ∧ (cutL 46 l).all lblB = true := by
  unfold hostO at e; split at e
  · rename_i h'; exact ⟨by simpa using e.symm, h'⟩
  · cases e
theorem hostO_idem {l h : List UInt8} (e : hostO l = some h) : hostO h = some h := by
  rw [(hostO_some e).1, hostO_low, ← (hostO_some e).1]; exact e
theorem cutL_mem (c : UInt8) : ∀ (l : List UInt8) (x : UInt8), x ∈ l → x ≠ c → ∃ s ∈ cutL c l, x ∈ s := by
  intro l
  induction l with
  | nil => intro x h; cases h
  | cons y t ih =>
    intro x h hx
    by_cases hy : y = c
    · subst hy; rw [cutL_sep]
      rcases List.mem_cons.mp h with rfl | h
      · exact absurd rfl hx
      · obtain ⟨s, hs, hxs⟩ := ih x h hx; exact ⟨s, by simp [hs], hxs⟩
    · cases e : cutL c t with
      | nil => exact absurd e (cutL_ne c t)
      | cons p r =>
        rw [cutL_cons hy e]
        rcases List.mem_cons.mp h with rfl | h
        · exact ⟨x :: p, List.mem_cons_self, List.mem_cons_self⟩
        · obtain ⟨s, hs, hxs⟩ := ih x h hx
          rw [e] at hs
          rcases List.mem_cons.mp hs with rfl | hs
          · exact ⟨y :: s, List.mem_cons_self, List.mem_cons_of_mem _ hxs⟩
          · exact ⟨s, by simp [hs], hxs⟩
theorem host_noslash {l h : List UInt8} (e : hostO l = some h) : 47 ∉ h := by
  have e' := (hostO_some (hostO_idem e)).2.2
  intro hm
  obtain ⟨s, hs, hxs⟩ := cutL_mem 46 h 47 hm (by decide)
  have := List.all_eq_true.mp e' s hs
  simp only [lblB, Bool.and_eq_true, List.all_eq_true] at this
  exact absurd (this.2 47 hxs) (by decide)

theorem pathO_some {l x : List UInt8} (h : pathO l = some x) : ∃ t y out, l = 47 :: t ∧ canO false t = some y ∧ dotsF (cutL 47 y) [] = some out ∧ x = slashed out := by
  unfold pathO at h
  split at h
  · rename_i t
    cases hc : canO false (47 :: t) with
    | none => rw [hc] at h; cases h
    | some p =>
      obtain ⟨y, hy, rfl⟩ := canO_slash hc
      rw [hc] at h
      simp only [Option.bind_some, List.tail_cons] at h
      cases hd : dotsF (cutL 47 y) [] with
      | none => rw [hd] at h; cases h
      | some out => rw [hd] at h; exact ⟨t, y, out, rfl, hy, hd, by simpa using h.symm⟩
  · cases h
theorem pathO_mk {t y : List UInt8} {out : List (List UInt8)} (h1 : canO false t = some y) (h2 : dotsF (cutL 47 y) [] = some out) : pathO (47 :: t) = some (slashed out) := by
  unfold pathO
  rw [canO_plain false (by decide), h1]
  simp [h2]
/-- The bytes of a path without dot segments are bytes of the path, or slashes. -/
theorem mem_slashed {ls : List (List UInt8)} {c : UInt8} (h : c ∈ slashed ls) : c = 47 ∨ ∃ s ∈ ls, c ∈ s := by
  unfold slashed at h
  rw [List.mem_flatMap] at h
  obtain ⟨s, hs, hc⟩ := h
  rcases List.mem_cons.mp hc with rfl | hc
  · exact Or.inl rfl
  · exact Or.inr ⟨s, hs, hc⟩
theorem canO_plainAll {q : Bool} {l : List UInt8} (h : ∀ c ∈ l, plnB q c = true) : canO q l = some l := by
  induction l with
  | nil => rfl
  | cons c t ih => rw [canO_plain q (h c (by simp)), ih (fun u hu => h u (by simp [hu]))]; rfl
/-- Canonical parts joined by slashes are canonical. -/
theorem canO_slashed {ls : List (List UInt8)} (h : ∀ s ∈ ls, canO false s = some s) : canO false (slashed ls) = some (slashed ls) := by
  induction ls with
  | nil => rfl
  | cons s r ih =>
    rw [slashed_cons, canO_plain false (by decide), canO_app (h s (by simp)), ih (fun u hu => h u (by simp [hu]))]; rfl
/-- Each part of a canonical text is canonical: no encoded byte is cut, as a slash is none of its bytes. -/
theorem canO_parts : ∀ (n : Nat) (l : List UInt8), l.length ≤ n → canO false l = some l → ∀ s ∈ cutL 47 l, canO false s = some s := by
  intro n
  induction n with
  | zero => intro l hl _ s hs; cases l with
    | nil => simp [cutL] at hs; subst hs; rfl
    | cons => simp at hl
  | succ n ih =>
    intro l hl hc s hs
    match l with
    | [] => simp [cutL] at hs; subst hs; rfl
    | c :: t =>
      by_cases h37 : c = 37
      · subst h37
        match t with
        | [] => rw [canO_pct0] at hc; cases hc
        | [a] => rw [canO_pct1] at hc; cases hc
        | a :: b :: r =>
          rw [canO_pct] at hc
          by_cases hok : okB a b = true
          · rw [if_pos hok] at hc
            cases hr : canO false r with
            | none => rw [hr] at hc; cases hc
            | some y =>
              rw [hr] at hc; simp only [Option.map_some, Option.some.injEq] at hc
              obtain ⟨h1, h2, h3, h4⟩ := okB_iff.mp hok
              have hv := (valN_lt h1 h2).1
              have hlen := canO_len hr
              -- the encoded byte is written with three bytes
              have h3l : (encB (valN a b)).length = 3 := by
                have := congrArg List.length hc
                have := enc_len (valN a b)
                simp at *; omega
              have he : encB (valN a b) = [37, a, b] ∧ y = r := by
                have hcc : encB (valN a b) ++ y = [37, a, b] ++ r := hc
                exact List.append_inj hcc (by rw [h3l]; rfl)
              obtain ⟨he, rfl⟩ := he
              have ha : a ≠ 47 := by rintro rfl; exact absurd h1 (by decide)
              have hb : b ≠ 47 := by rintro rfl; exact absurd h2 (by decide)
              cases e : cutL 47 y with
              | nil => exact absurd e (cutL_ne 47 y)
              | cons p q =>
                have hcut : cutL 47 (37 :: a :: b :: y) = ([37, a, b] ++ p) :: q := cutL_part (a := [37, a, b]) (by simp; exact ⟨fun e => ha e.symm, fun e => hb e.symm⟩) e
                rw [hcut] at hs
                have ihy := ih y (by simp at hl; omega) hr
                rcases List.mem_cons.mp hs with rfl | hs
                · have hp := ihy p (by rw [e]; simp)
                  show canO false (37 :: a :: b :: p) = _
                  rw [canO_pct, if_pos hok, hp, he]; rfl
                · exact ihy s (by rw [e]; exact List.mem_cons_of_mem _ hs)
          · rw [if_neg hok] at hc; cases hc
      · by_cases hpl : plnB false c = true
        · rw [canO_plain false hpl] at hc
          cases hr : canO false t with
          | none => rw [hr] at hc; cases hc
          | some y =>
            rw [hr] at hc; simp only [Option.map_some, Option.some.injEq, List.cons.injEq, true_and] at hc; subst hc
            have iht := ih y (by simpa using hl) hr
            by_cases hcs : c = 47
            · subst hcs
              rw [cutL_sep] at hs
              rcases List.mem_cons.mp hs with rfl | hs
              · rfl
              · exact iht s hs
            · cases e : cutL 47 y with
              | nil => exact absurd e (cutL_ne 47 y)
              | cons p q =>
                rw [cutL_cons hcs e] at hs
                rcases List.mem_cons.mp hs with rfl | hs
                · rw [canO_plain false hpl, iht p (by rw [e]; simp)]; rfl
                · exact iht s (by rw [e]; exact List.mem_cons_of_mem _ hs)
        · rw [canO_bad false (by simpa using hpl) h37] at hc; cases hc
theorem pathO_facts {l x : List UInt8} (h : pathO l = some x) : pathO x = some x ∧ 63 ∉ x ∧ ∃ t, x = 47 :: t := by
  obtain ⟨t, y, out, rfl, hy, hd, rfl⟩ := pathO_some h
  have hyy := canO_idem hy
  have hparts := canO_parts y.length y (Nat.le_refl _) hyy
  have hcan := dotsF_all (fun s => canO false s = some s) rfl (cutL 47 y) [] out (by simp) (fun s hs _ => hparts s hs) hd
  have hno := dotsF_all (fun s => 47 ∉ s) (by simp) (cutL 47 y) [] out (by simp) (fun s hs _ => cutL_noc 47 y s hs) hd
  have hne := dotsF_ne (cutL 47 y) [] out (Or.inl (cutL_ne 47 y)) hd
  obtain ⟨t', ht'⟩ : ∃ t', slashed out = 47 :: t' := by
    cases out with
    | nil => exact absurd rfl hne
    | cons s r => exact ⟨_, slashed_cons s r⟩
  have hcs := canO_slashed hcan
  refine ⟨?_, canO_noq hcs, t', ht'⟩
  have hcut := cutL_slashed out hne hno
  rw [ht'] at hcs hcut ⊢
  rw [List.tail_cons] at hcut
  obtain ⟨y', hy', he⟩ := canO_slash hcs
  obtain rfl : t' = y' := (List.cons.inj he).2
  rw [pathO_mk hy' (by rw [hcut]; exact dotsF_idem hd), ← ht']
theorem cutC_no {c : UInt8} {l : List UInt8} (h : c ∉ l) : cutC c l = (l, [], false) := by
  induction l with
  | nil => rfl
  | cons x t ih =>
    have hc : x ≠ c := fun e => h (by simp [e])
    rw [cutC, if_neg hc, ih (fun e => h (by simp [e]))]
theorem cutC_at {c : UInt8} {l : List UInt8} (h : c ∉ l) (r : List UInt8) : cutC c (l ++ c :: r) = (l, r, true) := by
  induction l with
  | nil => simp [cutC]
  | cons x t ih =>
    have hc : x ≠ c := fun e => h (by simp [e])
    rw [List.cons_append, cutC, if_neg hc, ih (fun e => h (by simp [e]))]
theorem cutC_len (c : UInt8) (l : List UInt8) : (cutC c l).1.length ≤ l.length ∧ (cutC c l).2.1.length ≤ l.length := by
  induction l with
  | nil => simp [cutC]
  | cons x t ih => rw [cutC]; split <;> simp <;> omega
theorem cutC_off {c : UInt8} {l : List UInt8} (h : (cutC c l).2.2 = false) : (cutC c l).2.1 = [] := by
  induction l with
  | nil => rfl
  | cons x t ih =>
    rw [cutC] at h ⊢; split
    · rename_i hc; rw [if_pos hc] at h; cases h
    · rename_i hc; rw [if_neg hc] at h; exact ih h
theorem segL_slash (t : List UInt8) : segL (47 :: t) = cutL 47 t := by simp [segL, cutC]
theorem segL_len (l : List UInt8) : (segL l).length ≤ l.length + 1 := by
  unfold segL; split
  · have := cutL_len 47 (cutC 47 l).2.1; have := (cutC_len 47 l).2; omega
  · simp
theorem parseA_ok {h t : List UInt8} {a : Adr} (e : parseA h t = (0, a)) :
    hostO h = some a.h ∧ pathO (cutC 63 t).1 = some a.p ∧ canO true (cutC 63 t).2.1 = some a.q ∧ a.b = (cutC 63 t).2.2 ∧ a.text.length ≤ 1024 := by
  unfold parseA at e
  split at e
  · simp at e
  · rename_i h' hh
    split at e
    · rename_i p q hp hq
      split at e
      · rename_i hl
        simp only [Prod.mk.injEq, true_and] at e
        subst e
        exact ⟨hh, hp, hq, rfl, hl⟩
      · simp at e
    · simp at e
theorem parseA_mk {h t : List UInt8} {a : Adr} (h1 : hostO h = some a.h) (h2 : pathO (cutC 63 t).1 = some a.p) (h3 : canO true (cutC 63 t).2.1 = some a.q) (h4 : a.b = (cutC 63 t).2.2) (h5 : a.text.length ≤ 1024) : parseA h t = (0, a) := by
  obtain ⟨ah, ap, aq, ab⟩ := a
  simp only at h1 h2 h3 h4
  subst h4
  unfold parseA
  rw [h1, h2, h3]
  simp only
  rw [if_pos h5]
theorem parseA_zero {h t : List UInt8} (e : (parseA h t).1 ≠ 0) : (parseA h t).2 = .zero := by
  unfold parseA at *
  split
  · rfl
  · split
    · split
      · rename_i h' hh _ _ p q hp hq hl
        rw [hh, hp, hq] at e
        simp only at e
        rw [if_pos hl] at e
        exact absurd rfl e
      · rfl
    · rfl
theorem target_cut {a : Adr} (hp : 63 ∉ a.p) (hq : a.b = false → a.q = []) : cutC 63 a.target = (a.p, a.q, a.b) := by
  unfold Adr.target
  cases hb : a.b with
  | false => rw [if_neg (by simp), cutC_no hp, hq hb]
  | true => rw [if_pos rfl, cutC_at hp]
/-- The address that is parsed again is the same. -/
theorem parseA_again {h t : List UInt8} {a : Adr} (e : parseA h t = (0, a)) : parseA a.h a.target = (0, a) := by
  obtain ⟨h1, h2, h3, h4, h5⟩ := parseA_ok e
  obtain ⟨p1, p2, _⟩ := pathO_facts h2
  have hq : a.b = false → a.q = [] := by
    intro hb
    rw [h4] at hb
    rw [cutC_off hb] at h3
    simpa [canO] using h3.symm
  have hc := target_cut p2 hq
  exact parseA_mk (hostO_idem h1) (by rw [hc]; exact p1) (by rw [hc]; exact canO_idem h3) (by rw [hc]) h5
theorem validA_of {h t : List UInt8} {a : Adr} (e : parseA h t = (0, a)) : validA a = true := by
  unfold validA
  rw [parseA_again e]
  obtain ⟨h1, h2, h3, h4, h5⟩ := parseA_ok e
  cases hb : a.b with
  | true => simp
  | false =>
    rw [h4] at hb
    rw [cutC_off hb] at h3
    have : a.q = [] := by simpa [canO] using h3.symm
    simp [this]
theorem takeWhile_host {h : List UInt8} (hh : 47 ∉ h) (t : List UInt8) : (h ++ 47 :: t).takeWhile (· ≠ 47) = h := by
  rw [List.takeWhile_append_of_pos (by intro c hc; simp; rintro rfl; exact hh hc)]
  simp
theorem readO_of {h t : List UInt8} {a : Adr} (e : parseA h t = (0, a)) : readO a.text = some a := by
  obtain ⟨h1, h2, h3, h4, h5⟩ := parseA_ok e
  obtain ⟨_, _, t', ht'⟩ := pathO_facts h2
  have hno := host_noslash h1
  have hx : ∃ u, a.target = 47 :: u := by unfold Adr.target; rw [ht']; split <;> exact ⟨_, rfl⟩
  obtain ⟨u, hu⟩ := hx
  have htk : a.text.takeWhile (· ≠ 47) = a.h := by unfold Adr.text; rw [hu]; exact takeWhile_host hno u
  have hag := parseA_again e
  unfold readO
  simp only [htk]
  have hd : a.text.drop a.h.length = a.target := by unfold Adr.text; simp
  rw [hd, hag]; simp
theorem readO_some {l : List UInt8} {a : Adr} (h : readO l = some a) : validA a = true ∧ a.text = l := by
  unfold readO at h
  simp only at h
  split at h
  · rename_i hc
    simp only [Option.some.injEq] at h
    subst h
    refine ⟨validA_of (h := l.takeWhile (· ≠ 47)) (t := l.drop (l.takeWhile (· ≠ 47)).length) (Prod.ext hc.1 rfl), hc.2⟩
  · cases h
end Go.Proofs.YtkfmfjlapkpeaaaGreatDoor
