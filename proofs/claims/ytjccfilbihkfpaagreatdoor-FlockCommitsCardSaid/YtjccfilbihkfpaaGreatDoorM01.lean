import Derived.Shelf.Strings.Builder1
import Derived.Shelf.Strings.Builder2
import Derived.Shelf.Strings.OnBuilder
import Derived.Shelf.Small.Strs
import Derived.Shelf.Small.Wraps
import Derived.Shelf.Strings.Builder2Cap
import Derived.Shelf.Strconv.Atoi
import Derived.Shelf.Strconv.Itoa0
import Derived.Shelf.Strconv.Itoa1
import Derived.Shelf.LaysM
import Derived.Shelf.Strconv.Itoa2
import Derived.Shelf.Strconv.Itoa3
import Derived.Shelf.Strconv.AtoiErrFast
import Derived.Shelf.Strconv.ParseIntEmpty
import Derived.Shelf.Strconv.AtoiFail
import Derived.Shelf.Strconv.Clone
import Derived.Shelf.Strconv.SyntaxError
import Derived.Shelf.LaysC
import Derived.Shelf.Strconv.ToError
import Derived.Shelf.Strconv.Lower
import Derived.Shelf.Strconv.ParseUint10
import Derived.Shelf.Strconv.ParseUint10Empty
import Derived.Shelf.Strconv.ParseUint10Any
import Derived.Shelf.Strconv.ParseInt10
import Derived.Shelf.Strconv.AtoiLong
import Derived.Shelf.Strconv.AtoiInnerAll
import Derived.Shelf.Strconv.RangeError
import Derived.Shelf.Strconv.ToErrorRange
import Derived.Shelf.Strconv.AtoiAll
import Derived.Shelf.Strconv.ErrVarAll
import Derived.Shelf.Strings.Search1
import Derived.Shelf.Strings.Search2
import Derived.Shelf.Strings.Cut
import Derived.Shelf.Strings.Shaped
import Derived.Shelf.Strings.Prefix
import Derived.Ground.Names2Prog
import Derived.Shelf.Slices.Clone
import Derived.Shelf.Slices.SearchI
import Derived.Ground.SlgnProg
import Derived.Shelf.SlicesE.Clone
import Derived.Test.YtjccfilbihkfpaaGreatDoorProg
import Derived.Test.YtjccfilbihkfpaaGreatDoorM00
import Derived.WalkKit
import Derived.WalkSpells
import Derived.WalkLawsBesides
import Derived.Handy
import Derived.Outline
import Derived.Lib.IndexBytes
import Derived.Lib.ItoaLen
import Derived.Lib.CutLaws
import Derived.ScopeJumps

/- The library's contracts at this translation, as the kit's own command lays them: those that the proofs call. -/
namespace Go.Proofs
open Go.Shelf
def Tryz.lays156_ren : Go.Shelf.Ren := ⟨fun | 156 => 89 | 165 => 100 | 166 => 101 | 169 => 102 | 240 => 110 | 241 => 111 | 276 => 122 | 277 => 123 | n => n, fun | 31 => 41 | 9 => 9 | 3 => 3 | 4 => 4 | 0 => 0 | 20 => 20 | 72 => 134 | 76 => 138 | 70 => 132 | 37 => 131 | 75 => 137 | 127 => 142 | 164 => 152 | 5 => 5 | 80 => 140 | n => n, fun | n => n⟩
theorem Tryz.lays156 : Go.Proofs.Lays.n156 Tryz.prog Tryz.lays156_ren := {
  mixed := by kernel_rfl
  f156 := Tryz.func89.trans (congrArg some (by kernel_rfl))
  f165 := Tryz.func100.trans (congrArg some (by kernel_rfl))
  f166 := Tryz.func101.trans (congrArg some (by kernel_rfl))
  f169 := Tryz.func102.trans (congrArg some (by kernel_rfl))
  f240 := Tryz.func110.trans (congrArg some (by kernel_rfl))
  f241 := Tryz.func111.trans (congrArg some (by kernel_rfl))
  f276 := Tryz.func122.trans (congrArg some (by kernel_rfl))
  f277 := Tryz.func123.trans (congrArg some (by kernel_rfl))
  t0 := Tryz.underlying0
  a0 := Tryz.isAgg0
  z0 := Tryz.sizeOf0
  v0 := Tryz.zeroValue0
  t3 := Tryz.underlying3
  a3 := Tryz.isAgg3
  z3 := Tryz.sizeOf3
  v3 := Tryz.zeroValue3
  t4 := Tryz.underlying4
  a4 := Tryz.isAgg4
  z4 := Tryz.sizeOf4
  v4 := Tryz.zeroValue4
  t9 := Tryz.underlying9
  a9 := Tryz.isAgg9
  z9 := Tryz.sizeOf9
  v9 := Tryz.zeroValue9
  t20 := Tryz.underlying20
  a20 := Tryz.isAgg20
  z20 := Tryz.sizeOf20
  v20 := Tryz.zeroValue20
  t31 := Tryz.underlying41
  a31 := Tryz.isAgg41
  z31 := Tryz.sizeOf41
  v31 := Tryz.zeroValue41
  t37 := Tryz.underlying131
  a37 := Tryz.isAgg131
  z37 := Tryz.sizeOf131
  v37 := Tryz.zeroValue131
  t70 := Tryz.underlying132
  a70 := Tryz.isAgg132
  z70 := Tryz.sizeOf132
  v70 := Tryz.zeroValue132
  t72 := Tryz.underlying134
  a72 := Tryz.isAgg134
  z72 := Tryz.sizeOf134
  v72 := Tryz.zeroValue134
  t75 := Tryz.underlying137
  a75 := Tryz.isAgg137
  z75 := Tryz.sizeOf137
  v75 := Tryz.zeroValue137
  t76 := Tryz.underlying138
  a76 := Tryz.isAgg138
  z76 := Tryz.sizeOf138
  v76 := Tryz.zeroValue138
  t127 := Tryz.underlying142
  a127 := Tryz.isAgg142
  z127 := Tryz.sizeOf142
  v127 := Tryz.zeroValue142
  t164 := Tryz.underlying152
  a164 := Tryz.isAgg152
  z164 := Tryz.sizeOf152
  v164 := Tryz.zeroValue152 }
theorem Tryz.Builder_Extra_156 : Builder.Extra Tryz.prog Tryz.lays156_ren := {
  sizeBuilder := by kernel_rfl
  liesBuilder := by kernel_rfl
  t5 := Tryz.underlying5
  a5 := Tryz.isAgg5
  z5 := Tryz.sizeOf5
  v5 := Tryz.zeroValue5
  infoByte := by kernel_rfl
  cellsByte := by kernel_rfl
  sizeByte := by kernel_rfl
  neB5 := by decide }
def Tryz.lays106_ren : Go.Shelf.Ren := ⟨fun | 106 => 75 | 213 => 91 | 265 => 103 | n => n, fun | 9 => 9 | 3 => 3 | n => n, fun | n => n⟩
theorem Tryz.lays106 : Go.Proofs.Lays.n106 Tryz.prog Tryz.lays106_ren := {
  mixed := by kernel_rfl
  f106 := Tryz.func75.trans (congrArg some (by kernel_rfl))
  f213 := Tryz.func91.trans (congrArg some (by kernel_rfl))
  f265 := Tryz.func103.trans (congrArg some (by kernel_rfl))
  t3 := Tryz.underlying3
  a3 := Tryz.isAgg3
  z3 := Tryz.sizeOf3
  v3 := Tryz.zeroValue3
  t9 := Tryz.underlying9
  a9 := Tryz.isAgg9
  z9 := Tryz.sizeOf9
  v9 := Tryz.zeroValue9 }
open Go.RowKit in
/-- strings.Compare: "Compare returns an integer comparing two strings lexicographically. The result will be 0 if a == b, -1 if a < b, and +1 if a > b.": IT RETURNS 'Lib.compareBytes a b'; the world is as it was. (LAID: no walk: one application.) -/
theorem Tryz.strings_Compare (a b : ByteArray) (w : World) :
    Calls Tryz.prog 75 #[.string a, .string b] w fun e w' => e = .returned (.int .i64 (Lib.compareBytes a.data.toList b.data.toList)) ∧ w' = w := Any.strings_Compare Tryz.lays106 a b w
def Tryz.lays103_ren : Go.Shelf.Ren := ⟨fun | 103 => 96 | 210 => 106 | 206 => 114 | n => n, fun | 9 => 9 | 4 => 4 | 24 => 48 | 3 => 3 | n => n, fun | n => n⟩
theorem Tryz.lays103 : Go.Proofs.Lays.n103 Tryz.prog Tryz.lays103_ren := {
  mixed := by kernel_rfl
  f103 := Tryz.func96.trans (congrArg some (by kernel_rfl))
  f206 := Tryz.func114.trans (congrArg some (by kernel_rfl))
  f210 := Tryz.func106.trans (congrArg some (by kernel_rfl))
  t3 := Tryz.underlying3
  a3 := Tryz.isAgg3
  z3 := Tryz.sizeOf3
  v3 := Tryz.zeroValue3
  t4 := Tryz.underlying4
  a4 := Tryz.isAgg4
  z4 := Tryz.sizeOf4
  v4 := Tryz.zeroValue4
  t9 := Tryz.underlying9
  a9 := Tryz.isAgg9
  z9 := Tryz.sizeOf9
  v9 := Tryz.zeroValue9
  t24 := Tryz.underlying48
  a24 := Tryz.isAgg48
  z24 := Tryz.sizeOf48
  v24 := Tryz.zeroValue48 }
open Go.RowKit in
/-- strings.CutPrefix: "CutPrefix returns s without the provided leading prefix string and reports whether it found the prefix. If s doesn't start with prefix, CutPrefix returns s, false. If prefix is the empty string, CutPrefix returns s, true.": IT RETURNS '(Lib.trimPrefix s p, Lib.hasPrefix s p)'; the world is as it was. (LAID: no walk: one application.) -/
theorem Tryz.strings_CutPrefix (s p : ByteArray) (w : World) :
    Calls Tryz.prog 96 #[.string s, .string p] w fun e w' => e = .returned (.tuple #[.string ⟨(Lib.trimPrefix s.data.toList p.data.toList).toArray⟩, .bool (Lib.hasPrefix s.data.toList p.data.toList)]) ∧ w' = w := Any.strings_CutPrefix Tryz.lays103 s p w
def Tryz.laysM171_ren : Go.Shelf.Ren := ⟨fun | 171 => 88 | 243 => 99 | 246 => 109 | 283 => 118 | 284 => 119 | 285 => 120 | 286 => 121 | 129 => 134 | 317 => 133 | 318 => 135 | 319 => 136 | 320 => 137 | 337 => 143 | 338 => 144 | n => n, fun | 3 => 3 | 9 => 9 | 2 => 2 | 4 => 4 | 171 => 147 | 0 => 0 | 53 => 116 | 37 => 131 | 5 => 5 | 173 => 150 | 212 => 164 | 51 => 165 | 20 => 20 | 213 => 166 | 46 => 32 | 232 => 180 | 233 => 181 | n => n, fun | 17 => 1 | 18 => 4 | 19 => 5 | n => n⟩
theorem Tryz.laysM171 : Go.Proofs.LaysM.n171 Tryz.prog Tryz.laysM171_ren := {
  mixed := by kernel_rfl
  f129 := Tryz.func134.trans (congrArg some (by kernel_rfl))
  f171 := Tryz.func88.trans (congrArg some (by kernel_rfl))
  f243 := Tryz.func99.trans (congrArg some (by kernel_rfl))
  f246 := Tryz.func109.trans (congrArg some (by kernel_rfl))
  f283 := Tryz.func118.trans (congrArg some (by kernel_rfl))
  f284 := Tryz.func119.trans (congrArg some (by kernel_rfl))
  f285 := Tryz.func120.trans (congrArg some (by kernel_rfl))
  f286 := Tryz.func121.trans (congrArg some (by kernel_rfl))
  f317 := Tryz.func133.trans (congrArg some (by kernel_rfl))
  f318 := Tryz.func135.trans (congrArg some (by kernel_rfl))
  f319 := Tryz.func136.trans (congrArg some (by kernel_rfl))
  f320 := Tryz.func137.trans (congrArg some (by kernel_rfl))
  f337 := Tryz.func143.trans (congrArg some (by kernel_rfl))
  f338 := Tryz.func144.trans (congrArg some (by kernel_rfl))
  t0 := Tryz.underlying0
  a0 := Tryz.isAgg0
  z0 := Tryz.sizeOf0
  v0 := Tryz.zeroValue0
  t2 := Tryz.underlying2
  a2 := Tryz.isAgg2
  z2 := Tryz.sizeOf2
  v2 := Tryz.zeroValue2
  t3 := Tryz.underlying3
  a3 := Tryz.isAgg3
  z3 := Tryz.sizeOf3
  v3 := Tryz.zeroValue3
  t4 := Tryz.underlying4
  a4 := Tryz.isAgg4
  z4 := Tryz.sizeOf4
  v4 := Tryz.zeroValue4
  t5 := Tryz.underlying5
  a5 := Tryz.isAgg5
  z5 := Tryz.sizeOf5
  v5 := Tryz.zeroValue5
  t9 := Tryz.underlying9
  a9 := Tryz.isAgg9
  z9 := Tryz.sizeOf9
  v9 := Tryz.zeroValue9
  t20 := Tryz.underlying20
  a20 := Tryz.isAgg20
  z20 := Tryz.sizeOf20
  v20 := Tryz.zeroValue20
  t37 := Tryz.underlying131
  a37 := Tryz.isAgg131
  z37 := Tryz.sizeOf131
  v37 := Tryz.zeroValue131
  t46 := Tryz.underlying32
  a46 := Tryz.isAgg32
  z46 := Tryz.sizeOf32
  v46 := Tryz.zeroValue32
  t51 := Tryz.underlying165
  a51 := Tryz.isAgg165
  z51 := Tryz.sizeOf165
  v51 := Tryz.zeroValue165
  t53 := Tryz.underlying116
  a53 := Tryz.isAgg116
  z53 := Tryz.sizeOf116
  v53 := Tryz.zeroValue116
  t171 := Tryz.underlying147
  a171 := Tryz.isAgg147
  z171 := Tryz.sizeOf147
  v171 := Tryz.zeroValue147
  t173 := Tryz.underlying150
  a173 := Tryz.isAgg150
  z173 := Tryz.sizeOf150
  v173 := Tryz.zeroValue150
  t212 := Tryz.underlying164
  a212 := Tryz.isAgg164
  z212 := Tryz.sizeOf164
  v212 := Tryz.zeroValue164
  t213 := Tryz.underlying166
  a213 := Tryz.isAgg166
  z213 := Tryz.sizeOf166
  t232 := Tryz.underlying180
  a232 := Tryz.isAgg180
  z232 := Tryz.sizeOf180
  v232 := Tryz.zeroValue180
  t233 := Tryz.underlying181
  a233 := Tryz.isAgg181
  z233 := Tryz.sizeOf181
  v233 := Tryz.zeroValue181
  g17 := by kernel_rfl
  g18 := by kernel_rfl
  g19 := by kernel_rfl
  i0 := by kernel_rfl
  i2 := by kernel_rfl
  i3 := by kernel_rfl
  i4 := by kernel_rfl
  i5 := by kernel_rfl
  i9 := by kernel_rfl
  i20 := by kernel_rfl
  i37 := by kernel_rfl
  i46 := by kernel_rfl
  i51 := by kernel_rfl
  i53 := by kernel_rfl
  i171 := by kernel_rfl
  i173 := by kernel_rfl
  i212 := by kernel_rfl
  i232 := by kernel_rfl
  i233 := by kernel_rfl
  m17 := by kernel_rfl
  m18 := by kernel_rfl
  m19 := by kernel_rfl }
open Go.RowKit Go.Sort Go.Lib in
/-- strconv.Itoa: "Itoa is equivalent to FormatInt(int64(i), 10).": i's DECIMAL NUMERAL ('Lib.itoa': a '-' where i is negative, then the digits), FOR EVERY int. The world behind the call: the world before it, new blocks behind the heap (the library's 'var a [24]byte'), draws. (LAID: no walk: one application.) -/
theorem Tryz.strconv_Itoa (n : Int) (h0 : -9223372036854775808 ≤ n) (h1 : n ≤ 9223372036854775807) (w : World) (htab : Lib.TabIs Tryz.prog w "internal/strconv.uint64pow10" .u64 Lib.pow10Tab) :
    Calls Tryz.prog 88 #[.int .i64 n] w fun e w' => e = .returned (.string ⟨(Lib.itoa n).toArray⟩) ∧ ∃ k os, w' = grow (w.drewN k) os := Any.strconv_Itoa Tryz.laysM171 n h0 h1 w htab
def Tryz.laysC172_ren : Go.Shelf.Ren := ⟨fun | 172 => 108 | 244 => 116 | 245 => 117 | 247 => 128 | 279 => 129 | 280 => 130 | 281 => 131 | 282 => 132 | 287 => 140 | 316 => 141 | 171 => 88 | 205 => 142 | 321 => 145 | 322 => 146 | 243 => 99 | 246 => 109 | 283 => 118 | 284 => 119 | 285 => 120 | 286 => 121 | 129 => 134 | 317 => 133 | 318 => 135 | 319 => 136 | 320 => 137 | 337 => 143 | 338 => 144 | n => n, fun | 9 => 9 | 3 => 3 | 75 => 137 | 76 => 138 | 4 => 4 | 5 => 5 | 167 => 157 | 37 => 131 | 0 => 0 | 85 => 158 | 2 => 2 | 168 => 160 | 53 => 116 | 175 => 170 | 46 => 32 | 210 => 173 | 127 => 142 | 145 => 179 | 143 => 177 | 21 => 21 | 171 => 147 | 173 => 150 | 212 => 164 | 51 => 165 | 20 => 20 | 213 => 166 | 232 => 180 | 233 => 181 | 80 => 140 | n => n, fun | 15 => 2 | 16 => 3 | 17 => 1 | 18 => 4 | 19 => 5 | n => n⟩
theorem Tryz.laysC172 : Go.Proofs.LaysC.n172 Tryz.prog Tryz.laysC172_ren := {
  mixed := by kernel_rfl
  f129 := Tryz.func134.trans (congrArg some (by kernel_rfl))
  f171 := Tryz.func88.trans (congrArg some (by kernel_rfl))
  f172 := Tryz.func108.trans (congrArg some (by kernel_rfl))
  f205 := Tryz.func142.trans (congrArg some (by kernel_rfl))
  f243 := Tryz.func99.trans (congrArg some (by kernel_rfl))
  f244 := Tryz.func116.trans (congrArg some (by kernel_rfl))
  f245 := Tryz.func117.trans (congrArg some (by kernel_rfl))
  f246 := Tryz.func109.trans (congrArg some (by kernel_rfl))
  f247 := Tryz.func128.trans (congrArg some (by kernel_rfl))
  f279 := Tryz.func129.trans (congrArg some (by kernel_rfl))
  f280 := Tryz.func130.trans (congrArg some (by kernel_rfl))
  f281 := Tryz.func131.trans (congrArg some (by kernel_rfl))
  f282 := Tryz.func132.trans (congrArg some (by kernel_rfl))
  f283 := Tryz.func118.trans (congrArg some (by kernel_rfl))
  f284 := Tryz.func119.trans (congrArg some (by kernel_rfl))
  f285 := Tryz.func120.trans (congrArg some (by kernel_rfl))
  f286 := Tryz.func121.trans (congrArg some (by kernel_rfl))
  f287 := Tryz.func140.trans (congrArg some (by kernel_rfl))
  f316 := Tryz.func141.trans (congrArg some (by kernel_rfl))
  f317 := Tryz.func133.trans (congrArg some (by kernel_rfl))
  f318 := Tryz.func135.trans (congrArg some (by kernel_rfl))
  f319 := Tryz.func136.trans (congrArg some (by kernel_rfl))
  f320 := Tryz.func137.trans (congrArg some (by kernel_rfl))
  f321 := Tryz.func145.trans (congrArg some (by kernel_rfl))
  f322 := Tryz.func146.trans (congrArg some (by kernel_rfl))
  f337 := Tryz.func143.trans (congrArg some (by kernel_rfl))
  f338 := Tryz.func144.trans (congrArg some (by kernel_rfl))
  t0 := Tryz.underlying0
  a0 := Tryz.isAgg0
  z0 := Tryz.sizeOf0
  v0 := Tryz.zeroValue0
  t2 := Tryz.underlying2
  a2 := Tryz.isAgg2
  z2 := Tryz.sizeOf2
  v2 := Tryz.zeroValue2
  t3 := Tryz.underlying3
  a3 := Tryz.isAgg3
  z3 := Tryz.sizeOf3
  v3 := Tryz.zeroValue3
  t4 := Tryz.underlying4
  a4 := Tryz.isAgg4
  z4 := Tryz.sizeOf4
  v4 := Tryz.zeroValue4
  t5 := Tryz.underlying5
  a5 := Tryz.isAgg5
  z5 := Tryz.sizeOf5
  v5 := Tryz.zeroValue5
  t9 := Tryz.underlying9
  a9 := Tryz.isAgg9
  z9 := Tryz.sizeOf9
  v9 := Tryz.zeroValue9
  t20 := Tryz.underlying20
  a20 := Tryz.isAgg20
  z20 := Tryz.sizeOf20
  v20 := Tryz.zeroValue20
  t21 := Tryz.underlying21
  a21 := Tryz.isAgg21
  z21 := Tryz.sizeOf21
  v21 := Tryz.zeroValue21
  t37 := Tryz.underlying131
  a37 := Tryz.isAgg131
  z37 := Tryz.sizeOf131
  v37 := Tryz.zeroValue131
  t46 := Tryz.underlying32
  a46 := Tryz.isAgg32
  z46 := Tryz.sizeOf32
  v46 := Tryz.zeroValue32
  t51 := Tryz.underlying165
  a51 := Tryz.isAgg165
  z51 := Tryz.sizeOf165
  v51 := Tryz.zeroValue165
  t53 := Tryz.underlying116
  a53 := Tryz.isAgg116
  z53 := Tryz.sizeOf116
  v53 := Tryz.zeroValue116
  t75 := Tryz.underlying137
  a75 := Tryz.isAgg137
  z75 := Tryz.sizeOf137
  v75 := Tryz.zeroValue137
  t76 := Tryz.underlying138
  a76 := Tryz.isAgg138
  z76 := Tryz.sizeOf138
  v76 := Tryz.zeroValue138
  t85 := Tryz.underlying158
  a85 := Tryz.isAgg158
  z85 := Tryz.sizeOf158
  v85 := Tryz.zeroValue158
  t127 := Tryz.underlying142
  a127 := Tryz.isAgg142
  z127 := Tryz.sizeOf142
  v127 := Tryz.zeroValue142
  t143 := Tryz.underlying177
  a143 := Tryz.isAgg177
  z143 := Tryz.sizeOf177
  v143 := Tryz.zeroValue177
  t145 := Tryz.underlying179
  a145 := Tryz.isAgg179
  z145 := Tryz.sizeOf179
  v145 := Tryz.zeroValue179
  t167 := Tryz.underlying157
  a167 := Tryz.isAgg157
  z167 := Tryz.sizeOf157
  v167 := Tryz.zeroValue157
  t168 := Tryz.underlying160
  a168 := Tryz.isAgg160
  z168 := Tryz.sizeOf160
  v168 := Tryz.zeroValue160
  t171 := Tryz.underlying147
  a171 := Tryz.isAgg147
  z171 := Tryz.sizeOf147
  v171 := Tryz.zeroValue147
  t173 := Tryz.underlying150
  a173 := Tryz.isAgg150
  z173 := Tryz.sizeOf150
  v173 := Tryz.zeroValue150
  t175 := Tryz.underlying170
  a175 := Tryz.isAgg170
  z175 := Tryz.sizeOf170
  v175 := Tryz.zeroValue170
  t210 := Tryz.underlying173
  a210 := Tryz.isAgg173
  z210 := Tryz.sizeOf173
  v210 := Tryz.zeroValue173
  t212 := Tryz.underlying164
  a212 := Tryz.isAgg164
  z212 := Tryz.sizeOf164
  v212 := Tryz.zeroValue164
  t213 := Tryz.underlying166
  a213 := Tryz.isAgg166
  z213 := Tryz.sizeOf166
  t232 := Tryz.underlying180
  a232 := Tryz.isAgg180
  z232 := Tryz.sizeOf180
  v232 := Tryz.zeroValue180
  t233 := Tryz.underlying181
  a233 := Tryz.isAgg181
  z233 := Tryz.sizeOf181
  v233 := Tryz.zeroValue181
  g15 := by kernel_rfl
  g16 := by kernel_rfl
  g17 := by kernel_rfl
  g18 := by kernel_rfl
  g19 := by kernel_rfl
  t80 := Tryz.underlying140
  a80 := Tryz.isAgg140
  z80 := Tryz.sizeOf140
  v80 := Tryz.zeroValue140
  i0 := by kernel_rfl
  i2 := by kernel_rfl
  i3 := by kernel_rfl
  i4 := by kernel_rfl
  i5 := by kernel_rfl
  i9 := by kernel_rfl
  i20 := by kernel_rfl
  i21 := by kernel_rfl
  i37 := by kernel_rfl
  i46 := by kernel_rfl
  i51 := by kernel_rfl
  i53 := by kernel_rfl
  i75 := by kernel_rfl
  i76 := by kernel_rfl
  i80 := by kernel_rfl
  i85 := by kernel_rfl
  i127 := by kernel_rfl
  i143 := by kernel_rfl
  i145 := by kernel_rfl
  i167 := by kernel_rfl
  i168 := by kernel_rfl
  i171 := by kernel_rfl
  i173 := by kernel_rfl
  i175 := by kernel_rfl
  i210 := by kernel_rfl
  i212 := by kernel_rfl
  i232 := by kernel_rfl
  i233 := by kernel_rfl
  m15 := by kernel_rfl
  m16 := by kernel_rfl
  m17 := by kernel_rfl
  m18 := by kernel_rfl
  m19 := by kernel_rfl
  c0 := by kernel_rfl
  c2 := by kernel_rfl
  c3 := by kernel_rfl
  c4 := by kernel_rfl
  c5 := by kernel_rfl
  c9 := by kernel_rfl
  c20 := by kernel_rfl
  c21 := by kernel_rfl
  c37 := by kernel_rfl
  c46 := by kernel_rfl
  c51 := by kernel_rfl
  c53 := by kernel_rfl
  c75 := by kernel_rfl
  c76 := by kernel_rfl
  c80 := by kernel_rfl
  c85 := by kernel_rfl
  c127 := by kernel_rfl
  c143 := by kernel_rfl
  c145 := by kernel_rfl
  c167 := by kernel_rfl
  c168 := by kernel_rfl
  c171 := by kernel_rfl
  c173 := by kernel_rfl
  c175 := by kernel_rfl
  c210 := by kernel_rfl
  c212 := by kernel_rfl
  c213 := by kernel_rfl
  c232 := by kernel_rfl
  c233 := by kernel_rfl }
open Go.RowKit in
/-- strconv.Atoi, AT EVERY STRING THAT SPELLS AN int ('Lib.atoiAll .. = .ok v'; of whatever length: leading zeros count): v, AND NO ERROR. The world: as it was, or with the one new row that '[]byte(..)' lays. (LAID: no walk: one application.) -/
theorem Tryz.strconv_Atoi_ok (s : ByteArray) (hmax : s.size ≤ 9223372036854775806) (v : Int) (h : Lib.atoiAll s.data.toList = .ok v) (w : World) :
    Calls Tryz.prog 108 #[.string s] w fun e w' => e = .returned (.tuple #[.int .i64 v, .nilIface]) ∧ (w' = w ∨ ∃ t, w' = Lib.bytesWorld w 5 t) := Any.strconv_Atoi_ok Tryz.laysC172 s hmax v h w
open Go.RowKit in
theorem Tryz.strconv_Atoi_range_var (s : ByteArray) (hlim : s.size ≤ 281474976710656) (h : Lib.atoiAll s.data.toList = .range) (tp : TypeId) (p : Value) (w : World) (hvar : w.var? Tryz.prog "strconv.ErrRange" = some #[.iface tp p]) :
    Calls Tryz.prog 108 #[.string s] w fun e w' => ∃ N, e = .returned (.tuple #[.int .i64 (Lib.atoiSat s.data.toList), .iface 160 (.pointer (some ⟨N, 0, none⟩))]) ∧ w.heap.size ≤ N ∧ w'.heap[N]? = some (.cells #[.string ⟨#[65, 116, 111, 105]⟩, .string s, .iface tp p] 173 (0, 0)) ∧ Below w.heap.size w w' := Any.strconv_Atoi_range_var Tryz.laysC172 s hlim h tp p w hvar
def Tryz.lays219_ren : Go.Shelf.Ren := ⟨fun | 219 => 115 | 217 => 124 | 225 => 125 | 224 => 126 | 267 => 127 | 266 => 138 | 314 => 139 | n => n, fun | 9 => 9 | 3 => 3 | 4 => 4 | 5 => 5 | 46 => 32 | 146 => 168 | 51 => 165 | n => n, fun | 1 => 0 | n => n⟩
theorem Tryz.lays219 : Go.Proofs.Lays.n219 Tryz.prog Tryz.lays219_ren := {
  mixed := by kernel_rfl
  f217 := Tryz.func124.trans (congrArg some (by kernel_rfl))
  f219 := Tryz.func115.trans (congrArg some (by kernel_rfl))
  f224 := Tryz.func126.trans (congrArg some (by kernel_rfl))
  f225 := Tryz.func125.trans (congrArg some (by kernel_rfl))
  f266 := Tryz.func138.trans (congrArg some (by kernel_rfl))
  f267 := Tryz.func127.trans (congrArg some (by kernel_rfl))
  f314 := Tryz.func139.trans (congrArg some (by kernel_rfl))
  t3 := Tryz.underlying3
  a3 := Tryz.isAgg3
  z3 := Tryz.sizeOf3
  v3 := Tryz.zeroValue3
  t4 := Tryz.underlying4
  a4 := Tryz.isAgg4
  z4 := Tryz.sizeOf4
  v4 := Tryz.zeroValue4
  t5 := Tryz.underlying5
  a5 := Tryz.isAgg5
  z5 := Tryz.sizeOf5
  v5 := Tryz.zeroValue5
  t9 := Tryz.underlying9
  a9 := Tryz.isAgg9
  z9 := Tryz.sizeOf9
  v9 := Tryz.zeroValue9
  t46 := Tryz.underlying32
  a46 := Tryz.isAgg32
  z46 := Tryz.sizeOf32
  v46 := Tryz.zeroValue32
  t51 := Tryz.underlying165
  a51 := Tryz.isAgg165
  z51 := Tryz.sizeOf165
  v51 := Tryz.zeroValue165
  t146 := Tryz.underlying168
  a146 := Tryz.isAgg168
  z146 := Tryz.sizeOf168
  v146 := Tryz.zeroValue168
  g1 := by kernel_rfl }
open Go.RowKit Go.Lib in
/-- internal/stringslite.Index (what strings.Index calls) AT A substr OF ONE BYTE c: IT RETURNS 'Lib.indexByte s c'; the world is as it was. (LAID: no walk: one application.) -/
theorem Tryz.stringslite_Index_one (s : ByteArray) (c : UInt8) (w : World) :
    Calls Tryz.prog 115 #[.string s, .string ⟨#[c]⟩] w fun e w' => e = .returned (.int .i64 (Lib.indexByte s.data.toList c)) ∧ w' = w := Any.stringslite_Index_one Tryz.lays219 s c w
end Go.Proofs

/- THE CONTRACTS OF strings.Cut at one byte and of bead.decimal, at every string. -/
namespace Go.Proofs.YtjccfilbihkfpaaGreatDoor
open Go.RowKit

set_option maxHeartbeats 1000000 in
set_option maxRecDepth 100000 in
theorem cutlite1 (s : ByteArray) (c : UInt8) (w : World) (hs : s.size ≤ 9223372036854775806) :
    Calls Tryz.prog 107 #[.string s, .string ⟨#[c]⟩] w fun e w' => e = .returned (.tuple #[.string ⟨(Lib.cut s.data.toList [c]).1.toArray⟩, .string ⟨(Lib.cut s.data.toList [c]).2.1.toArray⟩, .bool (Lib.cut s.data.toList [c]).2.2]) ∧ Below w.heap.size w w' := by
  have hone := Lib.index_one s.data.toList c
  rcases Lib.indexB_cases s ⟨#[c]⟩ with hix | ⟨i, hix, hroom⟩
  · obtain ⟨e1, e2, e3⟩ := Lib.cutB_miss s ⟨#[c]⟩ hix
    have hix' : Lib.indexByte s.data.toList c = -1 := by rw [← hone]; exact hix
    rw [show (⟨(Lib.cut s.data.toList [c]).1.toArray⟩ : ByteArray) = s from e1, show (⟨(Lib.cut s.data.toList [c]).2.1.toArray⟩ : ByteArray) = ByteArray.empty from e2, show (Lib.cut s.data.toList [c]).2.2 = false from e3]
    have H := Lib.hid hix'
    clear hone hix hix' e1 e2 e3
    go_enter Tryz.func107, Tryz.ntmps107
    go_wp2_with (go_at_call 115; refine (Tryz.stringslite_Index_one _ _ _).mono ?_; rintro e w' ⟨rfl, rfl⟩; rw [H.out])
    go_ret3
    exact ⟨rfl, Below.refl _ _⟩
  · obtain ⟨e1, e2, e3⟩ := Lib.cutB_hit s ⟨#[c]⟩ i hix
    have hix' : Lib.indexByte s.data.toList c = i := by rw [← hone]; exact hix
    rw [show (⟨(Lib.cut s.data.toList [c]).1.toArray⟩ : ByteArray) = s.extract 0 i from e1, show (⟨(Lib.cut s.data.toList [c]).2.1.toArray⟩ : ByteArray) = s.extract (i + 1) s.size from e2, show (Lib.cut s.data.toList [c]).2.2 = true from e3]
    have hsz : (⟨#[c]⟩ : ByteArray).size = 1 := rfl
    have H := Lib.hid hix'
    rw [hsz] at hroom
    clear hone hix hix' e1 e2 e3 hsz
    have c1 : (0 : Int) ≤ ↑i := by omega
    have c2 : (↑i : Int) ≤ ↑s.size := by omega
    have c3 : (0 : Int) ≤ ↑i + 1 := by omega
    have c4 : (↑i + 1 : Int) ≤ ↑s.size := by omega
    go_enter Tryz.func107, Tryz.ntmps107
    go_wp2_with (go_at_call 115; refine (Tryz.stringslite_Index_one _ _ _).mono ?_; rintro e w' ⟨rfl, rfl⟩; rw [H.out])
    go_region
    go_wp2
    go_ret3
    exact ⟨rfl, (Below.refl _ _).drew⟩

set_option maxHeartbeats 1000000 in
set_option maxRecDepth 100000 in
theorem cut1 (s : ByteArray) (c : UInt8) (w : World) (hs : s.size ≤ 9223372036854775806) :
    Calls Tryz.prog 97 #[.string s, .string ⟨#[c]⟩] w fun e w' => e = .returned (.tuple #[.string ⟨(Lib.cut s.data.toList [c]).1.toArray⟩, .string ⟨(Lib.cut s.data.toList [c]).2.1.toArray⟩, .bool (Lib.cut s.data.toList [c]).2.2]) ∧ Below w.heap.size w w' := by
  go_enter Tryz.func97, Tryz.ntmps97
  go_wp2_with fail
  refine (cutlite1 s c _ hs).mono ?_
  rintro e w' ⟨rfl, hb⟩
  go_wp2
  go_ret3
  exact ⟨rfl, hb⟩

/-- strconv.Itoa. -/
theorem itoa_any (n : Int) (hn : Pl.I64 n) (w : World) (hl : Lb w) :
    Calls Tryz.prog 88 #[.int .i64 n] w fun e w' => e = .returned (.string ⟨(Lib.itoa n).toArray⟩) ∧ Below w.heap.size w w' :=
  (Tryz.strconv_Itoa n hn.1 hn.2 w hl.pow).mono fun _ _ ⟨he, k, os, hw⟩ => ⟨he, hw ▸ below_grow k os⟩

/-- bead.decimal where the digits are a number's. -/
theorem ofList_eq (s : ByteArray) (l : List UInt8) (h : l = s.data.toList) : s = ⟨l.toArray⟩ := by
  obtain ⟨⟨k⟩⟩ := s
  simp at h
  rw [h]

set_option maxHeartbeats 400000 in
set_option maxRecDepth 100000 in
theorem decimal_ok (s : ByteArray) (n : Int) (hd : Pl.dec s.data.toList = some n) (w : World) (hl : Lb w) (hs : s.size ≤ 9223372036854775806) :
    Calls Tryz.prog 98 #[.string s] w fun e w' => e = .returned (.tuple #[.int .i64 n, .bool true]) ∧ Below w.heap.size w w' := by
  obtain ⟨e1, hb⟩ := Pl.dec_some hd
  have ha : Lib.atoiAll s.data.toList = .ok n := by rw [e1]; exact Pl.atoi_itoa n hb.1 hb.2
  obtain rfl := ofList_eq s _ e1.symm
  have H := Lib.hid ha
  clear hd e1 ha
  go_enter Tryz.func98, Tryz.ntmps98
  go_wp2_with fail
  refine (Tryz.strconv_Atoi_ok _ hs n H.out _).mono ?_
  rintro e w1 ⟨rfl, hw⟩
  have hb1 : Below w.heap.size w w1 := by
    rcases hw with rfl | ⟨t, rfl⟩
    · exact Below.refl _ _
    · exact Lib.bytesWorld_below _ _ _
  clear hw H
  go_wp2_with fail
  refine (itoa_any n hb _ (hl.below hl.size hb1)).mono ?_
  rintro e w2 ⟨rfl, hb2⟩
  go_wp2
  go_ret2
  exact ⟨by simp, hb1.trans (hb2.mono hb1.size)⟩

/-- .. where they are none's: some number, and false. -/
def NoNum (w : World) (e : Ending) (w' : World) : Prop := ∃ m : Int, e = .returned (.tuple #[.int .i64 m, .bool false]) ∧ Below w.heap.size w w'

/-- strconv.Atoi where it has no number: some number, and an error that is not nil. -/
def BadNum (w : World) (e : Ending) (w' : World) : Prop := ∃ (x : Int) (T N : Nat), e = .returned (.tuple #[.int .i64 x, .iface T (.pointer (some ⟨N, 0, none⟩))]) ∧ Below w.heap.size w w'
theorem atoi_bad (s : ByteArray) (h : ∀ n, Lib.atoiAll s.data.toList ≠ .ok n) (w : World) (hl : Lb w) (hs : s.size ≤ 281474976710656) :
    Calls Tryz.prog 108 #[.string s] w (BadNum w) := by
  rcases ha : Lib.atoiAll s.data.toList with n | _ | _
  · exact absurd ha (h n)
  · obtain ⟨tp, p, hv⟩ := hl.syn
    exact (Any.strconv_Atoi_syntax_var Tryz.laysC172 s hs ha tp p w hv).mono fun _ _ ⟨N, he, _, _, hb⟩ => ⟨_, _, N, he, hb⟩
  · obtain ⟨tp, p, hv⟩ := hl.rng
    exact (Any.strconv_Atoi_range_var Tryz.laysC172 s hs ha tp p w hv).mono fun _ _ ⟨N, he, _, _, hb⟩ => ⟨_, _, N, he, hb⟩

set_option maxHeartbeats 400000 in
set_option maxRecDepth 100000 in
theorem decimal_no (s : ByteArray) (hd : Pl.dec s.data.toList = none) (w : World) (hl : Lb w) (hs : s.size ≤ 281474976710656) :
    Calls Tryz.prog 98 #[.string s] w (NoNum w) := by
  by_cases hok : ∃ n, Lib.atoiAll s.data.toList = .ok n
  · obtain ⟨n, ha⟩ := hok
    have hne : Lib.itoa n ≠ s.data.toList := by
      intro e
      unfold Pl.dec at hd
      rw [ha] at hd
      simp [e] at hd
    have hb := Lib.atoiAll_bounds ha
    have H := Lib.hid ha
    have HN := Lib.hid hne
    clear hd ha hne
    go_enter Tryz.func98, Tryz.ntmps98
    go_wp2_with fail
    refine (Tryz.strconv_Atoi_ok _ (by omega) n H.out _).mono ?_
    rintro e w1 ⟨rfl, hw⟩
    have hb1 : Below w.heap.size w w1 := by
      rcases hw with rfl | ⟨t, rfl⟩
      · exact Below.refl _ _
      · exact Lib.bytesWorld_below _ _ _
    clear hw H
    go_wp2_with fail
    refine (itoa_any n hb _ (hl.below hl.size hb1)).mono ?_
    rintro e w2 ⟨rfl, hb2⟩
    go_wp2
    go_ret2
    have h := HN.out
    rw [← Lib.toList_data] at h
    exact ⟨n, by simp [h], hb1.trans (hb2.mono hb1.size)⟩
  · have H := Lib.hid (atoi_bad s (fun n h => hok ⟨n, h⟩) w hl hs)
    clear hd hok
    go_enter Tryz.func98, Tryz.ntmps98
    go_wp2_with fail
    refine H.out.mono ?_
    rintro e w1 ⟨x, T, N, rfl, hb1⟩
    clear H
    go_wp2
    go_ret2
    exact ⟨_, rfl, hb1⟩

theorem app_mk (a b : List UInt8) : (⟨a.toArray⟩ : ByteArray) ++ ⟨b.toArray⟩ = ⟨(a ++ b).toArray⟩ := by
  apply ByteArray.ext
  simp
theorem ext_take (l : List UInt8) (k : Nat) : (⟨l.toArray⟩ : ByteArray).extract 0 k = ⟨(l.take k).toArray⟩ := by
  apply ofList_eq
  rw [Lib.extract_data]
  rfl
theorem ext_drop (l : List UInt8) (k : Nat) : (⟨l.toArray⟩ : ByteArray).extract k l.length = ⟨(l.drop k).toArray⟩ := by
  apply ofList_eq
  rw [Lib.extract_data]
  exact (List.take_of_length_le (by simp)).symm
/-- strings.CutPrefix, strings.Cut, bead.decimal once more, with names for what they answer. -/
theorem cutprev (s : ByteArray) (c : UInt8) (body : List UInt8) (f : Bool) (h1 : Lib.trimPrefix s.data.toList [c] = body) (h2 : Lib.hasPrefix s.data.toList [c] = f) (w : World) :
    Calls Tryz.prog 96 #[.string s, .string ⟨#[c]⟩] w fun e w' => e = .returned (.tuple #[.string ⟨body.toArray⟩, .bool f]) ∧ w = w' := by
  subst h1; subst h2
  exact (Tryz.strings_CutPrefix s ⟨#[c]⟩ w).mono fun _ _ ⟨he, hw⟩ => ⟨he, hw.symm⟩
theorem cut1v (s : ByteArray) (c : UInt8) (x y : List UInt8) (f : Bool) (h : Lib.cut s.data.toList [c] = (x, y, f)) (w : World) (hs : s.size ≤ 9223372036854775806) :
    Calls Tryz.prog 97 #[.string s, .string ⟨#[c]⟩] w fun e w' => e = .returned (.tuple #[.string ⟨x.toArray⟩, .string ⟨y.toArray⟩, .bool f]) ∧ Below w.heap.size w w' := by
  have := cut1 s c w hs
  rw [h] at this
  exact this
/-- Some number, and f. -/
def SomeNum (f : Bool) (w : World) (e : Ending) (w' : World) : Prop := ∃ m : Int, e = .returned (.tuple #[.int .i64 m, .bool f]) ∧ Below w.heap.size w w'
theorem decimalv (s : ByteArray) (f : Bool) (hf : (Pl.dec s.data.toList).isSome = f) (w : World) (hl : Lb w) (hs : s.size ≤ 281474976710656) :
    Calls Tryz.prog 98 #[.string s] w (SomeNum f w) := by
  cases hd : Pl.dec s.data.toList with
  | none => rw [hd] at hf; subst hf; exact (decimal_no s hd w hl hs).mono fun _ _ h => h
  | some n => rw [hd] at hf; subst hf; exact (decimal_ok s n hd w hl (by omega)).mono fun _ _ h => ⟨n, h⟩
end Go.Proofs.YtjccfilbihkfpaaGreatDoor

/- THE CONTRACTS OF (*bead.Reader).take: for each thing that it is asked for: what it takes, or that it goes wrong. -/
namespace Go.Proofs.YtjccfilbihkfpaaGreatDoor
open Go.RowKit

/-- A scope out of which the run jumps forward to one label: what stands behind the label is walked at the jump. -/
theorem wp_scope_fwd {P : Program} {a : Act} {w : World} {Q : Exit → Act → World → Prop} {c rest : Code} (l : Nat) (hf : findLabel c l = some rest)
    (first : c.wp P (Exit.jump l (fun a w => rest.wp P (Exit.noGoto Q) a w) Q) a w) : (Code.scope c).wp P Q a w :=
  wp_scope_jumps l _ (fun _ _ => 0) hf first (fun a w h => wp_mono h (by intro e a w hq; cases e <;> first | exact hq | exact hq.elim))

theorem jump_ret {l : Nat} {J : Act → World → Prop} {Q : Exit → Act → World → Prop} {a : Act} {w : World} : Exit.jump l J Q .ret a w = Q .ret a w := rfl
theorem jump_goto {l : Nat} {J : Act → World → Prop} {Q : Exit → Act → World → Prop} {a : Act} {w : World} (h : J a w) : Exit.jump l J Q (.goto l) a w := ⟨rfl, h⟩

set_option maxHeartbeats 400000 in
set_option maxRecDepth 100000 in
set_option maxRecDepth 100000 in
/-- A number stands there. -/
theorem take_int_ok (b : Nat) (s : ByteArray) (n : Int) (r : List UInt8) (hr : Pl.rInt s.data.toList = some (n, r)) (w : World) (hl : Lb w) (h : Rdr b w s false) (hs : s.size ≤ 281474976710656) :
    Calls Tryz.prog 79 #[.pointer (some ⟨b, 0, none⟩), .int .u8 105, .int .i64 0] w fun e w' =>
      e = .returned (.tuple #[.int .i64 n, .string ⟨#[]⟩]) ∧ Rdr b w' ⟨r.toArray⟩ false ∧ Kb b w w' := by
  obtain ⟨body, ds, p1, p2, p3, p4⟩ := Pl.rInt_parts hr
  have hsz : body.length ≤ s.size := by rw [← p1, Lib.size_eq]; unfold Lib.trimPrefix; split <;> simp
  have hsd : ds.length ≤ body.length := by
    have := (Pl.cut_true (s := body) (c := 101) (by rw [p3])).1
    rw [this, p3]; simp
  have C1 := Lib.hid (cutprev s 105 body true p1 p2 w)
  have C2 := Lib.hid (fun w => cut1v ⟨body.toArray⟩ 101 ds r true p3 w (by show body.toArray.size ≤ _; simp; omega))
  have C3 := Lib.hid (fun w hl => decimal_ok ⟨ds.toArray⟩ n p4 w hl (by show ds.toArray.size ≤ _; simp; omega))
  have HS := Lib.hid hs
  clear hr p1 p2 p3 p4 hsz hsd hs
  have c0 := h.rest
  have c1 := h.wrong
  go_enter Tryz.func79, Tryz.ntmps79
  go_wp2_with fail
  refine wp_scope_fwd 0 rfl ?_
  go_wp2_with fail
  refine C1.out.mono ?_
  rintro e w' ⟨rfl, rfl⟩
  go_wp2_with fail
  refine (C2.out _).mono ?_
  rintro e w1 ⟨rfl, hb1⟩
  go_wp2_with fail
  refine (C3.out _ (hl.below hl.size hb1)).mono ?_
  rintro e w2 ⟨rfl, hb2⟩
  have hb3 := hb1.trans (hb2.mono hb1.size)
  have h3 := h.same hb3
  have f0 := h3.free0
  have d0 := h3.rest
  clear hb1 hb2 c0 c1 C1 C2 C3
  go_wp2_with fail
  rw [jump_ret]
  go_ret2
  exact ⟨rfl, h3.set0 _, (Kb.of_below hb3).trans (Kb.setCell _ _)⟩

set_option maxHeartbeats 1000000 in
set_option maxRecDepth 100000 in
set_option maxRecDepth 100000 in
/-- No number stands there: it goes wrong. -/
theorem take_int_no (b : Nat) (s : ByteArray) (hr : Pl.rInt s.data.toList = none) (w : World) (hl : Lb w) (h : Rdr b w s false) (hs : s.size ≤ 281474976710656) :
    Calls Tryz.prog 79 #[.pointer (some ⟨b, 0, none⟩), .int .u8 105, .int .i64 0] w fun e w' =>
      e = .returned (.tuple #[.int .i64 0, .string ⟨#[]⟩]) ∧ Rdr b w' s true ∧ Kb b w w' := by
  obtain ⟨body, ds, bh, p, f, p1, p2, p3, p4⟩ := Pl.rInt_none hr
  have hsz : body.length ≤ s.size := by rw [← p1, Lib.size_eq]; unfold Lib.trimPrefix; split <;> simp
  have hsd : ds.length ≤ body.length := by
    by_cases hm : (101 : UInt8) ∈ body
    · obtain ⟨x, y, e, hx⟩ := Pl.split_at 101 body hm
      rw [e, Pl.cut_hit x y 101 hx] at p3
      injection p3 with p3
      rw [← p3, e]; simp
    · rw [Pl.cut_miss body 101 hm] at p3
      injection p3 with p3
      rw [← p3]; omega
  have C1 := Lib.hid (cutprev s 105 body p p1 p2 w)
  have C2 := Lib.hid (fun w => cut1v ⟨body.toArray⟩ 101 ds bh f p3 w (by show body.toArray.size ≤ _; simp; omega))
  obtain ⟨g, hg⟩ : ∃ g, (Pl.dec ds).isSome = g := ⟨_, rfl⟩
  have C3 := Lib.hid (fun w hl => decimalv ⟨ds.toArray⟩ g hg w hl (by show ds.toArray.size ≤ _; simp; omega))
  rw [hg] at p4
  have hcase : p = false ∨ (p = true ∧ f = false) ∨ (p = true ∧ f = true ∧ g = false) := by
    cases p <;> cases f <;> cases g <;> simp_all
  clear hr p1 p2 p3 p4 hsz hsd hs hg
  have c0 := h.rest
  have c1 := h.wrong
  rcases hcase with rfl | ⟨rfl, rfl⟩ | ⟨rfl, rfl, rfl⟩
  all_goals
    go_enter Tryz.func79, Tryz.ntmps79
    go_wp2_with fail
    refine wp_scope_fwd 0 rfl ?_
    go_wp2_with fail
    refine C1.out.mono ?_
    rintro e w' ⟨rfl, rfl⟩
    go_wp2_with fail
    refine (C2.out _).mono ?_
    rintro e w1 ⟨rfl, hb1⟩
    go_wp2_with fail
    refine (C3.out _ (hl.below hl.size hb1)).mono ?_
    rintro e w2 ⟨m, rfl, hb2⟩
    have hb3 := hb1.trans (hb2.mono hb1.size)
    have h3 := h.same hb3
    have f0 := h3.free1
    have d1 := h3.wrong
    clear hb1 hb2 c0 c1 C1 C2 C3
    go_wp2_with fail
    go_step3
    refine And.intro rfl ?_
    go_wp2_with fail
    rw [Exit.noGoto_ret]
    go_ret2
    exact ⟨rfl, h3.set1 _, (Kb.of_below hb3).trans (Kb.setCell _ _)⟩

set_option maxHeartbeats 1000000 in
set_option maxRecDepth 100000 in
set_option maxRecDepth 100000 in
/-- A text stands there. -/
theorem take_text_ok (b : Nat) (s : ByteArray) (most : Int) (x r : List UInt8) (hr : Pl.rText most s.data.toList = some (x, r)) (w : World) (hl : Lb w) (h : Rdr b w s false) (hs : s.size ≤ 281474976710656) :
    Calls Tryz.prog 79 #[.pointer (some ⟨b, 0, none⟩), .int .u8 58, .int .i64 most] w fun e w' =>
      e = .returned (.tuple #[.int .i64 0, .string ⟨x.toArray⟩]) ∧ Rdr b w' ⟨r.toArray⟩ false ∧ Kb b w w' := by
  obtain ⟨ds, bh, n, p3, p4, q1, q2, q3, q4, q5⟩ := Pl.rText_parts hr
  have hall := (Pl.cut_true (s := s.data.toList) (c := 58) (by rw [p3])).1
  rw [p3] at hall
  have hlen : s.size = ds.length + bh.length + 1 := by rw [Lib.size_eq, hall]; simp; omega
  have C2 := Lib.hid (fun w => cut1v s 58 ds bh true p3 w (by omega))
  have C3 := Lib.hid (fun w hl => decimal_ok ⟨ds.toArray⟩ n p4 w hl (by show ds.toArray.size ≤ _; simp; omega))
  obtain ⟨k, rfl⟩ : ∃ k : Nat, n = k := ⟨n.toNat, by omega⟩
  have hk : k ≤ bh.length := by omega
  have E := Lib.hid (show x = bh.take k ∧ r = bh.drop k by simpa using And.intro q4 q5)
  have HS := Lib.hid hs
  have HL := Lib.hid hlen
  have hbh : bh.length ≤ 281474976710656 := by omega
  clear hr p3 p4 hs hall hlen q4 q5 q3
  have c0 := h.rest
  have c1 := h.wrong
  go_enter Tryz.func79, Tryz.ntmps79
  go_wp2_with fail
  refine wp_scope_fwd 0 rfl ?_
  go_wp2_with fail
  refine (C2.out _).mono ?_
  rintro e w1 ⟨rfl, hb1⟩
  go_wp2_with fail
  refine (C3.out _ (hl.below hl.size hb1)).mono ?_
  rintro e w2 ⟨rfl, hb2⟩
  have hb3 := hb1.trans (hb2.mono hb1.size)
  have h3 := h.same hb3
  have f0 := h3.free0
  have d0 := h3.rest
  clear hb1 hb2 c0 c1 C2 C3
  go_wp2_with fail
  go_region
  go_wp2_with fail
  rw [jump_ret]
  go_ret2
  obtain ⟨rfl, rfl⟩ := E.out
  rw [ext_drop]
  exact ⟨by rw [← ext_take]; rfl, (h3.set0 _).drewN 1, ((Kb.of_below hb3).trans (Kb.setCell _ _)).drewN 1⟩

set_option maxHeartbeats 1000000 in
set_option maxRecDepth 100000 in
set_option maxRecDepth 100000 in
/-- No text stands there, or a longer one: it goes wrong. -/
theorem take_text_no (b : Nat) (s : ByteArray) (most : Int) (hr : Pl.rText most s.data.toList = none) (w : World) (hl : Lb w) (h : Rdr b w s false) (hs : s.size ≤ 281474976710656) :
    Calls Tryz.prog 79 #[.pointer (some ⟨b, 0, none⟩), .int .u8 58, .int .i64 most] w fun e w' =>
      e = .returned (.tuple #[.int .i64 0, .string ⟨#[]⟩]) ∧ Rdr b w' s true ∧ Kb b w w' := by
  obtain ⟨ds, bh, f, p3, hcase⟩ := Pl.rText_none hr
  have hsd : ds.length ≤ s.size ∧ bh.length ≤ s.size := by
    rw [Lib.size_eq]
    by_cases hm : (58 : UInt8) ∈ s.data.toList
    · obtain ⟨x, y, e, hx⟩ := Pl.split_at 58 _ hm
      rw [e, Pl.cut_hit x y 58 hx] at p3
      injection p3 with p3 p4
      injection p4 with p4
      rw [← p3, ← p4, e]; simp; omega
    · rw [Pl.cut_miss _ 58 hm] at p3
      injection p3 with p3 p4
      injection p4 with p4
      rw [← p3, ← p4]; simp
  obtain ⟨hsd, hsb⟩ := hsd
  have hbh : bh.length ≤ 281474976710656 := by omega
  have C2 := Lib.hid (fun w => cut1v s 58 ds bh f p3 w (by omega))
  have HD := Lib.hid (show (⟨ds.toArray⟩ : ByteArray).size ≤ 281474976710656 by show ds.toArray.size ≤ _; simp; omega)
  have c0 := h.rest
  have c1 := h.wrong
  clear hr p3 hs hsd hsb
  rcases hcase with hf | ⟨hf, hd⟩ | ⟨n, hf, hd, hn⟩
  · subst hf
    have C3 := Lib.hid (fun w hl => decimalv ⟨ds.toArray⟩ _ rfl w hl HD.out)
    obtain ⟨g, hg⟩ : ∃ g, (Pl.dec (⟨ds.toArray⟩ : ByteArray).data.toList).isSome = g := ⟨_, rfl⟩
    rw [hg] at C3
    clear hg
    go_enter Tryz.func79, Tryz.ntmps79
    go_wp2_with fail
    refine wp_scope_fwd 0 rfl ?_
    go_wp2_with fail
    refine (C2.out _).mono ?_
    rintro e w1 ⟨rfl, hb1⟩
    go_wp2_with fail
    refine (C3.out _ (hl.below hl.size hb1)).mono ?_
    rintro e w2 ⟨m, rfl, hb2⟩
    have hb3 := hb1.trans (hb2.mono hb1.size)
    have h3 := h.same hb3
    have f0 := h3.free1
    have d1 := h3.wrong
    clear hb1 hb2 c0 c1 C2 C3
    go_wp2_with fail
    go_step3
    refine And.intro rfl ?_
    go_wp2_with fail
    rw [Exit.noGoto_ret]
    go_ret2
    exact ⟨rfl, h3.set1 _, (Kb.of_below hb3).trans (Kb.setCell _ _)⟩
  · subst hf
    have C3 := Lib.hid (fun w hl => decimal_no ⟨ds.toArray⟩ hd w hl HD.out)
    clear hd
    go_enter Tryz.func79, Tryz.ntmps79
    go_wp2_with fail
    refine wp_scope_fwd 0 rfl ?_
    go_wp2_with fail
    refine (C2.out _).mono ?_
    rintro e w1 ⟨rfl, hb1⟩
    go_wp2_with fail
    refine (C3.out _ (hl.below hl.size hb1)).mono ?_
    rintro e w2 ⟨m, rfl, hb2⟩
    have hb3 := hb1.trans (hb2.mono hb1.size)
    have h3 := h.same hb3
    have f0 := h3.free1
    have d1 := h3.wrong
    clear hb1 hb2 c0 c1 C2 C3
    go_wp2_with fail
    go_step3
    refine And.intro rfl ?_
    go_wp2_with fail
    rw [Exit.noGoto_ret]
    go_ret2
    exact ⟨rfl, h3.set1 _, (Kb.of_below hb3).trans (Kb.setCell _ _)⟩
  · subst hf
    have C3 := Lib.hid (fun w hl => decimal_ok ⟨ds.toArray⟩ n hd w hl (by have := HD.out; omega))
    clear hd
    have hn2 : n < 0 ∨ ∃ k : Nat, n = k ∧ (most < k ∨ ((k : Int) ≤ most ∧ bh.length < k)) := by
      rcases hn with h | h | h
      · exact Or.inl h
      · exact Or.inr ⟨n.toNat, by omega, by omega⟩
      · exact Or.inr ⟨n.toNat, by omega, by omega⟩
    clear hn
    rcases hn2 with hn | ⟨k, rfl, hn⟩
    rotate_left
    rcases hn with hn | ⟨hn, hk⟩
    all_goals
      go_enter Tryz.func79, Tryz.ntmps79
      go_wp2_with fail
      refine wp_scope_fwd 0 rfl ?_
      go_wp2_with fail
      refine (C2.out _).mono ?_
      rintro e w1 ⟨rfl, hb1⟩
      go_wp2_with fail
      refine (C3.out _ (hl.below hl.size hb1)).mono ?_
      rintro e w2 ⟨rfl, hb2⟩
      have hb3 := hb1.trans (hb2.mono hb1.size)
      have h3 := h.same hb3
      have f0 := h3.free1
      have d1 := h3.wrong
      clear hb1 hb2 c0 c1 C2 C3
      go_wp2_with fail
      go_step3
      refine And.intro rfl ?_
      go_wp2_with fail
      rw [Exit.noGoto_ret]
      go_ret2
      exact ⟨rfl, h3.set1 _, (Kb.of_below hb3).trans (Kb.setCell _ _)⟩
end Go.Proofs.YtjccfilbihkfpaaGreatDoor

/- (*bead.Reader).take at a letter; at a reader that is wrong, or nil; the reader's methods; New. -/
namespace Go.Proofs.YtjccfilbihkfpaaGreatDoor
open Go.RowKit

theorem rByte_cases {c : UInt8} {s : ByteArray} (h : Pl.rByte c s.data.toList = none) : s = ⟨#[]⟩ ∨ ∃ x r, x ≠ c ∧ s = ⟨(x :: r).toArray⟩ := by
  cases hs : s.data.toList with
  | nil => exact Or.inl (ofList_eq s [] hs.symm)
  | cons x r =>
    refine Or.inr ⟨x, r, ?_, ofList_eq s _ hs.symm⟩
    intro e
    rw [hs] at h
    simp [Pl.rByte, e] at h

set_option maxHeartbeats 1000000 in
set_option maxRecDepth 100000 in
set_option maxRecDepth 100000 in
theorem take_byte_ok (b : Nat) (s : ByteArray) (c : UInt8) (hc : c = 108 ∨ c = 101) (r : List UInt8) (hr : Pl.rByte c s.data.toList = some r) (w : World) (h : Rdr b w s false) (hs : s.size ≤ 281474976710656) :
    Calls Tryz.prog 79 #[.pointer (some ⟨b, 0, none⟩), .int .u8 c.toNat, .int .i64 0] w fun e w' =>
      e = .returned (.tuple #[.int .i64 0, .string ⟨#[]⟩]) ∧ Rdr b w' ⟨r.toArray⟩ false ∧ Kb b w w' := by
  obtain rfl := ofList_eq s _ (Pl.rByte_some hr).symm
  clear hr
  have hs : r.length ≤ 281474976710656 := by
    have : (⟨(c :: r).toArray⟩ : ByteArray).size = r.length + 1 := by show (c :: r).toArray.size = _; simp
    omega
  have c0 := h.rest
  have c1 := h.wrong
  have f0 := h.free0
  rcases hc with rfl | rfl
  · go_enter Tryz.func79, Tryz.ntmps79
    go_wp2_with fail
    refine wp_scope_fwd 0 rfl ?_
    go_wp2_with fail
    · rw [jump_ret]
      go_ret2
      have ex : (⟨(108 :: r).toArray⟩ : ByteArray).extract 1 (r.length + 1) = ⟨r.toArray⟩ := ext_drop (108 :: r) 1
      rw [ex]
      exact ⟨rfl, h.set0 _, Kb.setCell _ _⟩
  · go_enter Tryz.func79, Tryz.ntmps79
    go_wp2_with fail
    refine wp_scope_fwd 0 rfl ?_
    go_wp2_with fail
    · rw [jump_ret]
      go_ret2
      have ex : (⟨(101 :: r).toArray⟩ : ByteArray).extract 1 (r.length + 1) = ⟨r.toArray⟩ := ext_drop (101 :: r) 1
      rw [ex]
      exact ⟨rfl, h.set0 _, Kb.setCell _ _⟩

set_option maxHeartbeats 1000000 in
set_option maxRecDepth 100000 in
set_option maxRecDepth 100000 in
theorem take_byte_no (b : Nat) (s : ByteArray) (c : UInt8) (hc : c = 108 ∨ c = 101) (hr : Pl.rByte c s.data.toList = none) (w : World) (h : Rdr b w s false) (hs : s.size ≤ 281474976710656) :
    Calls Tryz.prog 79 #[.pointer (some ⟨b, 0, none⟩), .int .u8 c.toNat, .int .i64 0] w fun e w' =>
      e = .returned (.tuple #[.int .i64 0, .string ⟨#[]⟩]) ∧ Rdr b w' s true ∧ Kb b w w' := by
  have c0 := h.rest
  have c1 := h.wrong
  have f1 := h.free1
  have f0 := h.free0
  rcases rByte_cases hr with rfl | ⟨x, r, hx, rfl⟩
  · clear hr hs
    rcases hc with rfl | rfl
    all_goals
      go_enter Tryz.func79, Tryz.ntmps79
      go_wp2_with fail
      refine wp_scope_fwd 0 rfl ?_
      go_wp2_with fail
      go_step3
      refine And.intro rfl ?_
      go_wp2_with fail
      rw [Exit.noGoto_ret]
      go_ret2
      exact ⟨rfl, h.set1 _, Kb.setCell _ _⟩
  · have hs : r.length ≤ 281474976710656 := by
      have : (⟨(x :: r).toArray⟩ : ByteArray).size = r.length + 1 := by show (x :: r).toArray.size = _; simp
      omega
    have hn : x.toNat ≠ c.toNat := fun e => hx (UInt8.toNat_inj.1 e)
    have hg : ((⟨(x :: r).toArray⟩ : ByteArray)[0]'(by show 0 < (x :: r).toArray.size; simp)).toNat = x.toNat := rfl
    have HN := Lib.hid hn
    have HG := Lib.hid hg
    clear hr hn hg hx
    rcases hc with rfl | rfl
    · go_enter Tryz.func79, Tryz.ntmps79
      go_wp2_with fail
      refine wp_scope_fwd 0 rfl ?_
      go_wp2_with fail
      · go_step3
        refine And.intro rfl ?_
        go_wp2_with fail
        rw [Exit.noGoto_ret]
        go_ret2
        exact ⟨rfl, h.set1 _, Kb.setCell _ _⟩
      · rename_i hh
        exfalso
        have h1 := HN.out
        have h2 := HG.out
        rw [h2] at hh
        have h3 : ((x.toNat : Nat) : Int) = 108 := by simpa using hh
        have h4 : (108 : UInt8).toNat = 108 := rfl
        omega
    · go_enter Tryz.func79, Tryz.ntmps79
      go_wp2_with fail
      refine wp_scope_fwd 0 rfl ?_
      go_wp2_with fail
      · go_step3
        refine And.intro rfl ?_
        go_wp2_with fail
        rw [Exit.noGoto_ret]
        go_ret2
        exact ⟨rfl, h.set1 _, Kb.setCell _ _⟩
      · rename_i hh
        exfalso
        have h1 := HN.out
        have h2 := HG.out
        rw [h2] at hh
        have h3 : ((x.toNat : Nat) : Int) = 101 := by simpa using hh
        have h4 : (101 : UInt8).toNat = 101 := rfl
        omega

set_option maxHeartbeats 1000000 in
set_option maxRecDepth 100000 in
set_option maxRecDepth 100000 in
/-- Of a wrong reader nothing happens. -/
theorem take_wrong (b : Nat) (s : ByteArray) (c most : Int) (w : World) (h : Rdr b w s true) :
    Calls Tryz.prog 79 #[.pointer (some ⟨b, 0, none⟩), .int .u8 c, .int .i64 most] w fun e w' =>
      e = .returned (.tuple #[.int .i64 0, .string ⟨#[]⟩]) ∧ w = w' := by
  have c1 := h.wrong
  go_enter Tryz.func79, Tryz.ntmps79
  go_wp2_with fail
  refine wp_scope_fwd 0 rfl ?_
  go_wp2_with fail
  rw [jump_ret]
  go_ret2
  exact ⟨rfl, rfl⟩

set_option maxHeartbeats 1000000 in
set_option maxRecDepth 100000 in
set_option maxRecDepth 100000 in
theorem take_nil (c most : Int) (w : World) :
    Calls Tryz.prog 79 #[.pointer none, .int .u8 c, .int .i64 most] w fun e w' =>
      e = .returned (.tuple #[.int .i64 0, .string ⟨#[]⟩]) ∧ w = w' := by
  go_enter Tryz.func79, Tryz.ntmps79
  go_wp2_with fail
  refine wp_scope_fwd 0 rfl ?_
  go_wp2_with fail
  rw [jump_ret]
  go_ret2
  exact ⟨rfl, rfl⟩
end Go.Proofs.YtjccfilbihkfpaaGreatDoor
