/- The contracts of the library that this proof uses, laid at this program by the kit's own shelf, in plain words. -/
import Derived.Shelf.LaysM
import Derived.Shelf.LaysC
import Derived.Shelf.Strconv.Itoa3
import Derived.Shelf.Strconv.Itoa4
import Derived.Shelf.Strconv.AtoiAll
import Derived.Shelf.Strings.Prefix
import Derived.Shelf.Strings.BuilderF
import Derived.Shelf.Strings.BuilderK
import Derived.Shelf.Strings.OnBuilder
import Derived.Shelf.Strings.Split
import Derived.Shelf.Strings.Cut
import Derived.Shelf.GgClosure.StringsIndexFuncTop
import Derived.Test.YtdnedbcmgkilaaaGreatDoorProg
import Derived.Lib.Split
import Derived.Lib.SplitLaws
import Derived.Lib.LastIndexByte
import Derived.Lib.IndexMore
import Derived.Lib.DecodeN
import Derived.Shelf.GgClosure.StringsIndexFunc
import Derived.WalkKit
import Derived.Lib.Hide
import Derived.Deep.MidRow
import Derived.Lib.UnsafeStr
import Derived.Below
import Derived.Laws.OwnMore
import Derived.Deep.Draws
import Derived.Maps.AppendAt
import Derived.Deep.RegionHeld3
import Derived.Shelf.Strings.Search3
import Derived.Shelf.Lay
import Derived.Shelf.Strings.LastIndex

section

namespace Go.Proofs
open Go.Shelf
def Tryz.lays169_ren : Go.Shelf.Ren := ⟨fun | 169 => 65 | n => n, fun | 70 => 80 | 9 => 9 | 0 => 0 | 72 => 83 | 37 => 81 | 127 => 129 | 3 => 3 | 5 => 5 | n => n, fun | n => n⟩
theorem Tryz.lays169 : Go.Proofs.Lays.n169 Tryz.prog Tryz.lays169_ren := {
 mixed := by kernel_rfl
 f169 := Tryz.func65.trans (congrArg some (by kernel_rfl))
 t0 := Tryz.underlying0
 a0 := Tryz.isAgg0
 z0 := Tryz.sizeOf0
 v0 := Tryz.zeroValue0
 t3 := Tryz.underlying3
 a3 := Tryz.isAgg3
 z3 := Tryz.sizeOf3
 v3 := Tryz.zeroValue3
 t9 := Tryz.underlying9
 a9 := Tryz.isAgg9
 z9 := Tryz.sizeOf9
 v9 := Tryz.zeroValue9
 t37 := Tryz.underlying81
 a37 := Tryz.isAgg81
 z37 := Tryz.sizeOf81
 v37 := Tryz.zeroValue81
 t70 := Tryz.underlying80
 a70 := Tryz.isAgg80
 z70 := Tryz.sizeOf80
 v70 := Tryz.zeroValue80
 t72 := Tryz.underlying83
 a72 := Tryz.isAgg83
 z72 := Tryz.sizeOf83
 v72 := Tryz.zeroValue83
 t127 := Tryz.underlying129
 a127 := Tryz.isAgg129
 z127 := Tryz.sizeOf129
 v127 := Tryz.zeroValue129 }
theorem Tryz.Builder_Extra_169 : Builder.Extra Tryz.prog Tryz.lays169_ren := {
 sizeBuilder := by kernel_rfl
 liesBuilder := by kernel_rfl
 t5 := Tryz.underlying5
 a5 := Tryz.isAgg5
 z5 := Tryz.sizeOf5
 v5 := Tryz.zeroValue5
 infoByte := by kernel_rfl
 cellsByte := by kernel_rfl
 sizeByte := by kernel_rfl
 neB5 := by decide }
def Tryz.lays156_ren : Go.Shelf.Ren := ⟨fun | 156 => 254 | 165 => 259 | 166 => 61 | 169 => 65 | 240 => 98 | 241 => 262 | 276 => 143 | 277 => 263 | n => n, fun | 31 => 67 | 9 => 9 | 3 => 3 | 4 => 4 | 0 => 0 | 20 => 20 | 72 => 83 | 76 => 87 | 70 => 80 | 37 => 81 | 75 => 86 | 127 => 129 | 164 => 168 | 5 => 5 | 80 => 93 | n => n, fun | n => n⟩
theorem Tryz.lays156 : Go.Proofs.Lays.n156 Tryz.prog Tryz.lays156_ren := {
 mixed := by kernel_rfl
 f156 := Tryz.func254.trans (congrArg some (by kernel_rfl))
 f165 := Tryz.func259.trans (congrArg some (by kernel_rfl))
 f166 := Tryz.func61.trans (congrArg some (by kernel_rfl))
 f169 := Tryz.func65.trans (congrArg some (by kernel_rfl))
 f240 := Tryz.func98.trans (congrArg some (by kernel_rfl))
 f241 := Tryz.func262.trans (congrArg some (by kernel_rfl))
 f276 := Tryz.func143.trans (congrArg some (by kernel_rfl))
 f277 := Tryz.func263.trans (congrArg some (by kernel_rfl))
 t0 := Tryz.underlying0
 a0 := Tryz.isAgg0
 z0 := Tryz.sizeOf0
 v0 := Tryz.zeroValue0
 t3 := Tryz.underlying3
 a3 := Tryz.isAgg3
 z3 := Tryz.sizeOf3
 v3 := Tryz.zeroValue3
 t4 := Tryz.underlying4
 a4 := Tryz.isAgg4
 z4 := Tryz.sizeOf4
 v4 := Tryz.zeroValue4
 t9 := Tryz.underlying9
 a9 := Tryz.isAgg9
 z9 := Tryz.sizeOf9
 v9 := Tryz.zeroValue9
 t20 := Tryz.underlying20
 a20 := Tryz.isAgg20
 z20 := Tryz.sizeOf20
 v20 := Tryz.zeroValue20
 t31 := Tryz.underlying67
 a31 := Tryz.isAgg67
 z31 := Tryz.sizeOf67
 v31 := Tryz.zeroValue67
 t37 := Tryz.underlying81
 a37 := Tryz.isAgg81
 z37 := Tryz.sizeOf81
 v37 := Tryz.zeroValue81
 t70 := Tryz.underlying80
 a70 := Tryz.isAgg80
 z70 := Tryz.sizeOf80
 v70 := Tryz.zeroValue80
 t72 := Tryz.underlying83
 a72 := Tryz.isAgg83
 z72 := Tryz.sizeOf83
 v72 := Tryz.zeroValue83
 t75 := Tryz.underlying86
 a75 := Tryz.isAgg86
 z75 := Tryz.sizeOf86
 v75 := Tryz.zeroValue86
 t76 := Tryz.underlying87
 a76 := Tryz.isAgg87
 z76 := Tryz.sizeOf87
 v76 := Tryz.zeroValue87
 t127 := Tryz.underlying129
 a127 := Tryz.isAgg129
 z127 := Tryz.sizeOf129
 v127 := Tryz.zeroValue129
 t164 := Tryz.underlying168
 a164 := Tryz.isAgg168
 z164 := Tryz.sizeOf168
 v164 := Tryz.zeroValue168 }
theorem Tryz.Builder_Extra_156 : Builder.Extra Tryz.prog Tryz.lays156_ren := {
 sizeBuilder := by kernel_rfl
 liesBuilder := by kernel_rfl
 t5 := Tryz.underlying5
 a5 := Tryz.isAgg5
 z5 := Tryz.sizeOf5
 v5 := Tryz.zeroValue5
 infoByte := by kernel_rfl
 cellsByte := by kernel_rfl
 sizeByte := by kernel_rfl
 neB5 := by decide }
open Go.RowKit in
theorem Tryz.strings_Join (bk o c : Nat) (xs : List ByteArray) (sep : ByteArray) (w : World) (hcells : ∀ (j : Nat) x, xs[j]? = some x -> w.cell? ⟨bk, o + j, none⟩ = some (.string x)) (hbk : bk < w.heap.size) (hN : xs.length <= 140737488355328) (hcap : xs.length <= c) (hlen : (Lib.join (xs.map (·.data.toList)) sep.data.toList).length <= 140737488355328) :
  Calls Tryz.prog 254 #[.slice (some ⟨bk, o, none⟩) xs.length c, .string sep] w fun e w' => e = .returned (.string ⟨(Lib.join (xs.map (·.data.toList)) sep.data.toList).toArray⟩) /\ Below w.heap.size w w' := Any.strings_Join Tryz.lays156 Tryz.Builder_Extra_156 bk o c xs sep w hcells hbk hN hcap hlen
open Go.RowKit in
theorem Tryz.Builder_String_any_k (B b : Nat) (l : List UInt8) (w : World) (h : Lib.IsBuilderF 83 5 B b (Lib.byteCells l) w) (hBw : B <= w.heap.size) :
  Calls Tryz.prog 65 #[.pointer (some ⟨b, 0, none⟩)] w fun e w' => e = .returned (.string ⟨l.toArray⟩) /\ (Lib.IsBuilderF 83 5 B b (Lib.byteCells l) w' /\ Below B w w' /\ Lib.OthersKept 5 (some b) w w') := Any.Builder_String_any_k Tryz.lays169 Tryz.Builder_Extra_169 B b l w h hBw
def Tryz.laysM171_ren : Go.Shelf.Ren := ⟨fun | 171 => 64 | 243 => 100 | 246 => 99 | 283 => 144 | 284 => 145 | 285 => 146 | 286 => 147 | 129 => 181 | 317 => 180 | 318 => 182 | 319 => 183 | 320 => 184 | 337 => 210 | 338 => 211 | n => n, fun | 3 => 3 | 9 => 9 | 2 => 2 | 4 => 4 | 171 => 170 | 0 => 0 | 53 => 131 | 37 => 81 | 5 => 5 | 173 => 173 | 212 => 198 | 51 => 178 | 20 => 20 | 213 => 199 | 46 => 181 | 232 => 233 | 233 => 234 | n => n, fun | 17 => 1 | 18 => 2 | 19 => 3 | n => n⟩
theorem Tryz.laysM171 : Go.Proofs.LaysM.n171 Tryz.prog Tryz.laysM171_ren := {
 mixed := by kernel_rfl
 f129 := Tryz.func181.trans (congrArg some (by kernel_rfl))
 f171 := Tryz.func64.trans (congrArg some (by kernel_rfl))
 f243 := Tryz.func100.trans (congrArg some (by kernel_rfl))
 f246 := Tryz.func99.trans (congrArg some (by kernel_rfl))
 f283 := Tryz.func144.trans (congrArg some (by kernel_rfl))
 f284 := Tryz.func145.trans (congrArg some (by kernel_rfl))
 f285 := Tryz.func146.trans (congrArg some (by kernel_rfl))
 f286 := Tryz.func147.trans (congrArg some (by kernel_rfl))
 f317 := Tryz.func180.trans (congrArg some (by kernel_rfl))
 f318 := Tryz.func182.trans (congrArg some (by kernel_rfl))
 f319 := Tryz.func183.trans (congrArg some (by kernel_rfl))
 f320 := Tryz.func184.trans (congrArg some (by kernel_rfl))
 f337 := Tryz.func210.trans (congrArg some (by kernel_rfl))
 f338 := Tryz.func211.trans (congrArg some (by kernel_rfl))
 t0 := Tryz.underlying0
 a0 := Tryz.isAgg0
 z0 := Tryz.sizeOf0
 v0 := Tryz.zeroValue0
 t2 := Tryz.underlying2
 a2 := Tryz.isAgg2
 z2 := Tryz.sizeOf2
 v2 := Tryz.zeroValue2
 t3 := Tryz.underlying3
 a3 := Tryz.isAgg3
 z3 := Tryz.sizeOf3
 v3 := Tryz.zeroValue3
 t4 := Tryz.underlying4
 a4 := Tryz.isAgg4
 z4 := Tryz.sizeOf4
 v4 := Tryz.zeroValue4
 t5 := Tryz.underlying5
 a5 := Tryz.isAgg5
 z5 := Tryz.sizeOf5
 v5 := Tryz.zeroValue5
 t9 := Tryz.underlying9
 a9 := Tryz.isAgg9
 z9 := Tryz.sizeOf9
 v9 := Tryz.zeroValue9
 t20 := Tryz.underlying20
 a20 := Tryz.isAgg20
 z20 := Tryz.sizeOf20
 v20 := Tryz.zeroValue20
 t37 := Tryz.underlying81
 a37 := Tryz.isAgg81
 z37 := Tryz.sizeOf81
 v37 := Tryz.zeroValue81
 t46 := Tryz.underlying181
 a46 := Tryz.isAgg181
 z46 := Tryz.sizeOf181
 v46 := Tryz.zeroValue181
 t51 := Tryz.underlying178
 a51 := Tryz.isAgg178
 z51 := Tryz.sizeOf178
 v51 := Tryz.zeroValue178
 t53 := Tryz.underlying131
 a53 := Tryz.isAgg131
 z53 := Tryz.sizeOf131
 v53 := Tryz.zeroValue131
 t171 := Tryz.underlying170
 a171 := Tryz.isAgg170
 z171 := Tryz.sizeOf170
 v171 := Tryz.zeroValue170
 t173 := Tryz.underlying173
 a173 := Tryz.isAgg173
 z173 := Tryz.sizeOf173
 v173 := Tryz.zeroValue173
 t212 := Tryz.underlying198
 a212 := Tryz.isAgg198
 z212 := Tryz.sizeOf198
 v212 := Tryz.zeroValue198
 t213 := Tryz.underlying199
 a213 := Tryz.isAgg199
 z213 := Tryz.sizeOf199
 t232 := Tryz.underlying233
 a232 := Tryz.isAgg233
 z232 := Tryz.sizeOf233
 v232 := Tryz.zeroValue233
 t233 := Tryz.underlying234
 a233 := Tryz.isAgg234
 z233 := Tryz.sizeOf234
 v233 := Tryz.zeroValue234
 g17 := by kernel_rfl
 g18 := by kernel_rfl
 g19 := by kernel_rfl
 i0 := by kernel_rfl
 i2 := by kernel_rfl
 i3 := by kernel_rfl
 i4 := by kernel_rfl
 i5 := by kernel_rfl
 i9 := by kernel_rfl
 i20 := by kernel_rfl
 i37 := by kernel_rfl
 i46 := by kernel_rfl
 i51 := by kernel_rfl
 i53 := by kernel_rfl
 i171 := by kernel_rfl
 i173 := by kernel_rfl
 i212 := by kernel_rfl
 i232 := by kernel_rfl
 i233 := by kernel_rfl
 m17 := by kernel_rfl
 m18 := by kernel_rfl
 m19 := by kernel_rfl }
open Go.RowKit Go.Sort Go.Lib in
theorem Tryz.strconv_Itoa (n : Int) (h0 : -9223372036854775808 <= n) (h1 : n <= 9223372036854775807) (w : World) (htab : Lib.TabIs Tryz.prog w "internal/strconv.uint64pow10" .u64 Lib.pow10Tab) :
  Calls Tryz.prog 64 #[.int .i64 n] w fun e w' => e = .returned (.string ⟨(Lib.itoa n).toArray⟩) /\ ∃ k os, w' = grow (w.drewN k) os := Any.strconv_Itoa Tryz.laysM171 n h0 h1 w htab
def Tryz.laysM173_ren : Go.Shelf.Ren := ⟨fun | 173 => 63 | 246 => 99 | 283 => 144 | 284 => 145 | 285 => 146 | 286 => 147 | 129 => 181 | 317 => 180 | 318 => 182 | 319 => 183 | 320 => 184 | 337 => 210 | 338 => 211 | n => n, fun | 2 => 2 | 3 => 3 | 9 => 9 | 4 => 4 | 171 => 170 | 0 => 0 | 53 => 131 | 37 => 81 | 5 => 5 | 173 => 173 | 212 => 198 | 51 => 178 | 20 => 20 | 213 => 199 | 46 => 181 | 232 => 233 | 233 => 234 | n => n, fun | 17 => 1 | 18 => 2 | 19 => 3 | n => n⟩
theorem Tryz.laysM173 : Go.Proofs.LaysM.n173 Tryz.prog Tryz.laysM173_ren := {
 mixed := by kernel_rfl
 f129 := Tryz.func181.trans (congrArg some (by kernel_rfl))
 f173 := Tryz.func63.trans (congrArg some (by kernel_rfl))
 f246 := Tryz.func99.trans (congrArg some (by kernel_rfl))
 f283 := Tryz.func144.trans (congrArg some (by kernel_rfl))
 f284 := Tryz.func145.trans (congrArg some (by kernel_rfl))
 f285 := Tryz.func146.trans (congrArg some (by kernel_rfl))
 f286 := Tryz.func147.trans (congrArg some (by kernel_rfl))
 f317 := Tryz.func180.trans (congrArg some (by kernel_rfl))
 f318 := Tryz.func182.trans (congrArg some (by kernel_rfl))
 f319 := Tryz.func183.trans (congrArg some (by kernel_rfl))
 f320 := Tryz.func184.trans (congrArg some (by kernel_rfl))
 f337 := Tryz.func210.trans (congrArg some (by kernel_rfl))
 f338 := Tryz.func211.trans (congrArg some (by kernel_rfl))
 t0 := Tryz.underlying0
 a0 := Tryz.isAgg0
 z0 := Tryz.sizeOf0
 v0 := Tryz.zeroValue0
 t2 := Tryz.underlying2
 a2 := Tryz.isAgg2
 z2 := Tryz.sizeOf2
 v2 := Tryz.zeroValue2
 t3 := Tryz.underlying3
 a3 := Tryz.isAgg3
 z3 := Tryz.sizeOf3
 v3 := Tryz.zeroValue3
 t4 := Tryz.underlying4
 a4 := Tryz.isAgg4
 z4 := Tryz.sizeOf4
 v4 := Tryz.zeroValue4
 t5 := Tryz.underlying5
 a5 := Tryz.isAgg5
 z5 := Tryz.sizeOf5
 v5 := Tryz.zeroValue5
 t9 := Tryz.underlying9
 a9 := Tryz.isAgg9
 z9 := Tryz.sizeOf9
 v9 := Tryz.zeroValue9
 t20 := Tryz.underlying20
 a20 := Tryz.isAgg20
 z20 := Tryz.sizeOf20
 v20 := Tryz.zeroValue20
 t37 := Tryz.underlying81
 a37 := Tryz.isAgg81
 z37 := Tryz.sizeOf81
 v37 := Tryz.zeroValue81
 t46 := Tryz.underlying181
 a46 := Tryz.isAgg181
 z46 := Tryz.sizeOf181
 v46 := Tryz.zeroValue181
 t51 := Tryz.underlying178
 a51 := Tryz.isAgg178
 z51 := Tryz.sizeOf178
 v51 := Tryz.zeroValue178
 t53 := Tryz.underlying131
 a53 := Tryz.isAgg131
 z53 := Tryz.sizeOf131
 v53 := Tryz.zeroValue131
 t171 := Tryz.underlying170
 a171 := Tryz.isAgg170
 z171 := Tryz.sizeOf170
 v171 := Tryz.zeroValue170
 t173 := Tryz.underlying173
 a173 := Tryz.isAgg173
 z173 := Tryz.sizeOf173
 v173 := Tryz.zeroValue173
 t212 := Tryz.underlying198
 a212 := Tryz.isAgg198
 z212 := Tryz.sizeOf198
 v212 := Tryz.zeroValue198
 t213 := Tryz.underlying199
 a213 := Tryz.isAgg199
 z213 := Tryz.sizeOf199
 t232 := Tryz.underlying233
 a232 := Tryz.isAgg233
 z232 := Tryz.sizeOf233
 v232 := Tryz.zeroValue233
 t233 := Tryz.underlying234
 a233 := Tryz.isAgg234
 z233 := Tryz.sizeOf234
 v233 := Tryz.zeroValue234
 g17 := by kernel_rfl
 g18 := by kernel_rfl
 g19 := by kernel_rfl
 i0 := by kernel_rfl
 i2 := by kernel_rfl
 i3 := by kernel_rfl
 i4 := by kernel_rfl
 i5 := by kernel_rfl
 i9 := by kernel_rfl
 i20 := by kernel_rfl
 i37 := by kernel_rfl
 i46 := by kernel_rfl
 i51 := by kernel_rfl
 i53 := by kernel_rfl
 i171 := by kernel_rfl
 i173 := by kernel_rfl
 i212 := by kernel_rfl
 i232 := by kernel_rfl
 i233 := by kernel_rfl
 m17 := by kernel_rfl
 m18 := by kernel_rfl
 m19 := by kernel_rfl }
open Go.RowKit Go.Sort Go.Lib in
theorem Tryz.strconv_FormatInt_10 (n : Int) (h0 : -9223372036854775808 <= n) (h1 : n <= 9223372036854775807) (w : World) (htab : Lib.TabIs Tryz.prog w "internal/strconv.uint64pow10" .u64 Lib.pow10Tab) :
  Calls Tryz.prog 63 #[.int .i64 n, .int .i64 10] w fun e w' => e = .returned (.string ⟨(Lib.itoa n).toArray⟩) /\ ∃ k os, w' = grow (w.drewN k) os := Any.strconv_FormatInt_10 Tryz.laysM173 n h0 h1 w htab
def Tryz.laysC172_ren : Go.Shelf.Ren := ⟨fun | 172 => 151 | 244 => 188 | 245 => 187 | 247 => 186 | 279 => 213 | 280 => 214 | 281 => 215 | 282 => 216 | 287 => 212 | 316 => 230 | 171 => 64 | 205 => 231 | 321 => 228 | 322 => 229 | 243 => 100 | 246 => 99 | 283 => 144 | 284 => 145 | 285 => 146 | 286 => 147 | 129 => 181 | 317 => 180 | 318 => 182 | 319 => 183 | 320 => 184 | 337 => 210 | 338 => 211 | n => n, fun | 9 => 9 | 3 => 3 | 75 => 86 | 76 => 87 | 4 => 4 | 5 => 5 | 167 => 220 | 37 => 81 | 0 => 0 | 85 => 176 | 2 => 2 | 168 => 223 | 53 => 131 | 175 => 221 | 46 => 181 | 210 => 237 | 127 => 129 | 145 => 253 | 143 => 251 | 21 => 21 | 171 => 170 | 173 => 173 | 212 => 198 | 51 => 178 | 20 => 20 | 213 => 199 | 232 => 233 | 233 => 234 | 80 => 93 | n => n, fun | 15 => 4 | 16 => 5 | 17 => 1 | 18 => 2 | 19 => 3 | n => n⟩
theorem Tryz.laysC172 : Go.Proofs.LaysC.n172 Tryz.prog Tryz.laysC172_ren := {
 mixed := by kernel_rfl
 f129 := Tryz.func181.trans (congrArg some (by kernel_rfl))
 f171 := Tryz.func64.trans (congrArg some (by kernel_rfl))
 f172 := Tryz.func151.trans (congrArg some (by kernel_rfl))
 f205 := Tryz.func231.trans (congrArg some (by kernel_rfl))
 f243 := Tryz.func100.trans (congrArg some (by kernel_rfl))
 f244 := Tryz.func188.trans (congrArg some (by kernel_rfl))
 f245 := Tryz.func187.trans (congrArg some (by kernel_rfl))
 f246 := Tryz.func99.trans (congrArg some (by kernel_rfl))
 f247 := Tryz.func186.trans (congrArg some (by kernel_rfl))
 f279 := Tryz.func213.trans (congrArg some (by kernel_rfl))
 f280 := Tryz.func214.trans (congrArg some (by kernel_rfl))
 f281 := Tryz.func215.trans (congrArg some (by kernel_rfl))
 f282 := Tryz.func216.trans (congrArg some (by kernel_rfl))
 f283 := Tryz.func144.trans (congrArg some (by kernel_rfl))
 f284 := Tryz.func145.trans (congrArg some (by kernel_rfl))
 f285 := Tryz.func146.trans (congrArg some (by kernel_rfl))
 f286 := Tryz.func147.trans (congrArg some (by kernel_rfl))
 f287 := Tryz.func212.trans (congrArg some (by kernel_rfl))
 f316 := Tryz.func230.trans (congrArg some (by kernel_rfl))
 f317 := Tryz.func180.trans (congrArg some (by kernel_rfl))
 f318 := Tryz.func182.trans (congrArg some (by kernel_rfl))
 f319 := Tryz.func183.trans (congrArg some (by kernel_rfl))
 f320 := Tryz.func184.trans (congrArg some (by kernel_rfl))
 f321 := Tryz.func228.trans (congrArg some (by kernel_rfl))
 f322 := Tryz.func229.trans (congrArg some (by kernel_rfl))
 f337 := Tryz.func210.trans (congrArg some (by kernel_rfl))
 f338 := Tryz.func211.trans (congrArg some (by kernel_rfl))
 t0 := Tryz.underlying0
 a0 := Tryz.isAgg0
 z0 := Tryz.sizeOf0
 v0 := Tryz.zeroValue0
 t2 := Tryz.underlying2
 a2 := Tryz.isAgg2
 z2 := Tryz.sizeOf2
 v2 := Tryz.zeroValue2
 t3 := Tryz.underlying3
 a3 := Tryz.isAgg3
 z3 := Tryz.sizeOf3
 v3 := Tryz.zeroValue3
 t4 := Tryz.underlying4
 a4 := Tryz.isAgg4
 z4 := Tryz.sizeOf4
 v4 := Tryz.zeroValue4
 t5 := Tryz.underlying5
 a5 := Tryz.isAgg5
 z5 := Tryz.sizeOf5
 v5 := Tryz.zeroValue5
 t9 := Tryz.underlying9
 a9 := Tryz.isAgg9
 z9 := Tryz.sizeOf9
 v9 := Tryz.zeroValue9
 t20 := Tryz.underlying20
 a20 := Tryz.isAgg20
 z20 := Tryz.sizeOf20
 v20 := Tryz.zeroValue20
 t21 := Tryz.underlying21
 a21 := Tryz.isAgg21
 z21 := Tryz.sizeOf21
 v21 := Tryz.zeroValue21
 t37 := Tryz.underlying81
 a37 := Tryz.isAgg81
 z37 := Tryz.sizeOf81
 v37 := Tryz.zeroValue81
 t46 := Tryz.underlying181
 a46 := Tryz.isAgg181
 z46 := Tryz.sizeOf181
 v46 := Tryz.zeroValue181
 t51 := Tryz.underlying178
 a51 := Tryz.isAgg178
 z51 := Tryz.sizeOf178
 v51 := Tryz.zeroValue178
 t53 := Tryz.underlying131
 a53 := Tryz.isAgg131
 z53 := Tryz.sizeOf131
 v53 := Tryz.zeroValue131
 t75 := Tryz.underlying86
 a75 := Tryz.isAgg86
 z75 := Tryz.sizeOf86
 v75 := Tryz.zeroValue86
 t76 := Tryz.underlying87
 a76 := Tryz.isAgg87
 z76 := Tryz.sizeOf87
 v76 := Tryz.zeroValue87
 t85 := Tryz.underlying176
 a85 := Tryz.isAgg176
 z85 := Tryz.sizeOf176
 v85 := Tryz.zeroValue176
 t127 := Tryz.underlying129
 a127 := Tryz.isAgg129
 z127 := Tryz.sizeOf129
 v127 := Tryz.zeroValue129
 t143 := Tryz.underlying251
 a143 := Tryz.isAgg251
 z143 := Tryz.sizeOf251
 v143 := Tryz.zeroValue251
 t145 := Tryz.underlying253
 a145 := Tryz.isAgg253
 z145 := Tryz.sizeOf253
 v145 := Tryz.zeroValue253
 t167 := Tryz.underlying220
 a167 := Tryz.isAgg220
 z167 := Tryz.sizeOf220
 v167 := Tryz.zeroValue220
 t168 := Tryz.underlying223
 a168 := Tryz.isAgg223
 z168 := Tryz.sizeOf223
 v168 := Tryz.zeroValue223
 t171 := Tryz.underlying170
 a171 := Tryz.isAgg170
 z171 := Tryz.sizeOf170
 v171 := Tryz.zeroValue170
 t173 := Tryz.underlying173
 a173 := Tryz.isAgg173
 z173 := Tryz.sizeOf173
 v173 := Tryz.zeroValue173
 t175 := Tryz.underlying221
 a175 := Tryz.isAgg221
 z175 := Tryz.sizeOf221
 v175 := Tryz.zeroValue221
 t210 := Tryz.underlying237
 a210 := Tryz.isAgg237
 z210 := Tryz.sizeOf237
 v210 := Tryz.zeroValue237
 t212 := Tryz.underlying198
 a212 := Tryz.isAgg198
 z212 := Tryz.sizeOf198
 v212 := Tryz.zeroValue198
 t213 := Tryz.underlying199
 a213 := Tryz.isAgg199
 z213 := Tryz.sizeOf199
 t232 := Tryz.underlying233
 a232 := Tryz.isAgg233
 z232 := Tryz.sizeOf233
 v232 := Tryz.zeroValue233
 t233 := Tryz.underlying234
 a233 := Tryz.isAgg234
 z233 := Tryz.sizeOf234
 v233 := Tryz.zeroValue234
 g15 := by kernel_rfl
 g16 := by kernel_rfl
 g17 := by kernel_rfl
 g18 := by kernel_rfl
 g19 := by kernel_rfl
 t80 := Tryz.underlying93
 a80 := Tryz.isAgg93
 z80 := Tryz.sizeOf93
 v80 := Tryz.zeroValue93
 i0 := by kernel_rfl
 i2 := by kernel_rfl
 i3 := by kernel_rfl
 i4 := by kernel_rfl
 i5 := by kernel_rfl
 i9 := by kernel_rfl
 i20 := by kernel_rfl
 i21 := by kernel_rfl
 i37 := by kernel_rfl
 i46 := by kernel_rfl
 i51 := by kernel_rfl
 i53 := by kernel_rfl
 i75 := by kernel_rfl
 i76 := by kernel_rfl
 i80 := by kernel_rfl
 i85 := by kernel_rfl
 i127 := by kernel_rfl
 i143 := by kernel_rfl
 i145 := by kernel_rfl
 i167 := by kernel_rfl
 i168 := by kernel_rfl
 i171 := by kernel_rfl
 i173 := by kernel_rfl
 i175 := by kernel_rfl
 i210 := by kernel_rfl
 i212 := by kernel_rfl
 i232 := by kernel_rfl
 i233 := by kernel_rfl
 m15 := by kernel_rfl
 m16 := by kernel_rfl
 m17 := by kernel_rfl
 m18 := by kernel_rfl
 m19 := by kernel_rfl
 c0 := by kernel_rfl
 c2 := by kernel_rfl
 c3 := by kernel_rfl
 c4 := by kernel_rfl
 c5 := by kernel_rfl
 c9 := by kernel_rfl
 c20 := by kernel_rfl
 c21 := by kernel_rfl
 c37 := by kernel_rfl
 c46 := by kernel_rfl
 c51 := by kernel_rfl
 c53 := by kernel_rfl
 c75 := by kernel_rfl
 c76 := by kernel_rfl
 c80 := by kernel_rfl
 c85 := by kernel_rfl
 c127 := by kernel_rfl
 c143 := by kernel_rfl
 c145 := by kernel_rfl
 c167 := by kernel_rfl
 c168 := by kernel_rfl
 c171 := by kernel_rfl
 c173 := by kernel_rfl
 c175 := by kernel_rfl
 c210 := by kernel_rfl
 c212 := by kernel_rfl
 c213 := by kernel_rfl
 c232 := by kernel_rfl
 c233 := by kernel_rfl }
open Go.RowKit in
theorem Tryz.strconv_Atoi_ok (s : ByteArray) (hmax : s.size <= 9223372036854775806) (v : Int) (h : Lib.atoiAll s.data.toList = .ok v) (w : World) :
  Calls Tryz.prog 151 #[.string s] w fun e w' => e = .returned (.tuple #[.int .i64 v, .nilIface]) /\ (w' = w ∨ ∃ t, w' = Lib.bytesWorld w 5 t) := Any.strconv_Atoi_ok Tryz.laysC172 s hmax v h w
open Go.RowKit in
theorem Tryz.strconv_Atoi_syntax (s : ByteArray) (hlim : s.size <= 281474976710656) (h : Lib.atoiAll s.data.toList ≠ .range /\ ∀ v, Lib.atoiAll s.data.toList ≠ .ok v) (ev : Value) (w : World) (hv : w.cell? ⟨4, 0, none⟩ = some ev) (hev : ev = .nilIface ∨ ∃ te pe, ev = .iface te pe) :
  Calls Tryz.prog 151 #[.string s] w fun e w' => ∃ N, e = .returned (.tuple #[.int .i64 (0), .iface 223 (.pointer (some ⟨N, 0, none⟩))]) /\ w.heap.size <= N /\ w'.heap[N]? = some (.cells #[.string ⟨#[65, 116, 111, 105]⟩, .string s, ev] 237 (0, 0)) /\ Below w.heap.size w w' := by
 refine Any.strconv_Atoi_syntax Tryz.laysC172 s hlim ?_ ev w hv hev
 rcases hh : Lib.atoiAll s.data.toList with v | _ | _
 ·exact absurd hh (h.2 v)
 ·rfl
 ·exact absurd hh h.1
open Go.RowKit in
theorem Tryz.strconv_Atoi_range (s : ByteArray) (hlim : s.size <= 281474976710656) (h : Lib.atoiAll s.data.toList = .range) (ev : Value) (w : World) (hv : w.cell? ⟨5, 0, none⟩ = some ev) (hev : ev = .nilIface ∨ ∃ te pe, ev = .iface te pe) :
  Calls Tryz.prog 151 #[.string s] w fun e w' => ∃ N, e = .returned (.tuple #[.int .i64 (Lib.atoiSat s.data.toList), .iface 223 (.pointer (some ⟨N, 0, none⟩))]) /\ w.heap.size <= N /\ w'.heap[N]? = some (.cells #[.string ⟨#[65, 116, 111, 105]⟩, .string s, ev] 237 (0, 0)) /\ Below w.heap.size w w' := Any.strconv_Atoi_range Tryz.laysC172 s hlim h ev w hv hev
def Tryz.lays145_ren : Go.Shelf.Ren := ⟨fun | 145 => 83 | 220 => 124 | 219 => 167 | 217 => 199 | 225 => 200 | 224 => 201 | 267 => 202 | 266 => 225 | 314 => 226 | n => n, fun | 9 => 9 | 4 => 4 | 59 => 116 | 3 => 3 | 5 => 5 | 46 => 181 | 146 => 179 | 51 => 178 | n => n, fun | 1 => 0 | n => n⟩
theorem Tryz.lays145 : Go.Proofs.Lays.n145 Tryz.prog Tryz.lays145_ren := {
 mixed := by kernel_rfl
 f145 := Tryz.func83.trans (congrArg some (by kernel_rfl))
 f217 := Tryz.func199.trans (congrArg some (by kernel_rfl))
 f219 := Tryz.func167.trans (congrArg some (by kernel_rfl))
 f220 := Tryz.func124.trans (congrArg some (by kernel_rfl))
 f224 := Tryz.func201.trans (congrArg some (by kernel_rfl))
 f225 := Tryz.func200.trans (congrArg some (by kernel_rfl))
 f266 := Tryz.func225.trans (congrArg some (by kernel_rfl))
 f267 := Tryz.func202.trans (congrArg some (by kernel_rfl))
 f314 := Tryz.func226.trans (congrArg some (by kernel_rfl))
 t3 := Tryz.underlying3
 a3 := Tryz.isAgg3
 z3 := Tryz.sizeOf3
 v3 := Tryz.zeroValue3
 t4 := Tryz.underlying4
 a4 := Tryz.isAgg4
 z4 := Tryz.sizeOf4
 v4 := Tryz.zeroValue4
 t5 := Tryz.underlying5
 a5 := Tryz.isAgg5
 z5 := Tryz.sizeOf5
 v5 := Tryz.zeroValue5
 t9 := Tryz.underlying9
 a9 := Tryz.isAgg9
 z9 := Tryz.sizeOf9
 v9 := Tryz.zeroValue9
 t46 := Tryz.underlying181
 a46 := Tryz.isAgg181
 z46 := Tryz.sizeOf181
 v46 := Tryz.zeroValue181
 t51 := Tryz.underlying178
 a51 := Tryz.isAgg178
 z51 := Tryz.sizeOf178
 v51 := Tryz.zeroValue178
 t59 := Tryz.underlying116
 a59 := Tryz.isAgg116
 z59 := Tryz.sizeOf116
 v59 := Tryz.zeroValue116
 t146 := Tryz.underlying179
 a146 := Tryz.isAgg179
 z146 := Tryz.sizeOf179
 v146 := Tryz.zeroValue179
 g1 := by kernel_rfl }
open Go.RowKit Go.Lib in
theorem Tryz.strings_Cut (s sep : ByteArray) (m : Int) (w : World) (hs : s.size < 4294967281) (hm : w.cell? ⟨0, 0, none⟩ = some (.int .i64 m)) :
  Calls Tryz.prog 83 #[.string s, .string sep] w fun e w' => e = .returned (.tuple #[.string ⟨(Lib.cut s.data.toList sep.data.toList).1.toArray⟩, .string ⟨(Lib.cut s.data.toList sep.data.toList).2.1.toArray⟩, .bool (Lib.cut s.data.toList sep.data.toList).2.2]) /\ ∃ n, w' = w.drewN n := Any.strings_Cut Tryz.lays145 s sep m w hs hm
def Tryz.laysGw17_ren : Go.Shelf.Ren := ⟨fun | 17 => 93 | 15 => 142 | 20 => 179 | n => n, fun | 9 => 9 | 23 => 127 | 4 => 4 | 3 => 3 | 0 => 0 | 21 => 21 | n => n, fun | n => n⟩
theorem Tryz.laysGw17 : Go.Proofs.LaysGw.n17 Tryz.prog Tryz.laysGw17_ren := {
 mixed := by kernel_rfl
 f15 := Tryz.func142.trans (congrArg some (by kernel_rfl))
 f17 := Tryz.func93.trans (congrArg some (by kernel_rfl))
 f20 := Tryz.func179.trans (congrArg some (by kernel_rfl))
 t0 := Tryz.underlying0
 a0 := Tryz.isAgg0
 z0 := Tryz.sizeOf0
 v0 := Tryz.zeroValue0
 i0 := by kernel_rfl
 t3 := Tryz.underlying3
 a3 := Tryz.isAgg3
 z3 := Tryz.sizeOf3
 v3 := Tryz.zeroValue3
 i3 := by kernel_rfl
 t4 := Tryz.underlying4
 a4 := Tryz.isAgg4
 z4 := Tryz.sizeOf4
 v4 := Tryz.zeroValue4
 i4 := by kernel_rfl
 t9 := Tryz.underlying9
 a9 := Tryz.isAgg9
 z9 := Tryz.sizeOf9
 v9 := Tryz.zeroValue9
 i9 := by kernel_rfl
 t21 := Tryz.underlying21
 a21 := Tryz.isAgg21
 z21 := Tryz.sizeOf21
 v21 := Tryz.zeroValue21
 i21 := by kernel_rfl
 t23 := Tryz.underlying127
 a23 := Tryz.isAgg127
 z23 := Tryz.sizeOf127
 v23 := Tryz.zeroValue127
 i23 := by kernel_rfl }
open Go.RowKit Go.Lib in
theorem Tryz.strings_ContainsFunc (g : Nat) (lb : Array Value) (eg : ∀ args w, (callFunc g args).run Tryz.prog w = .ok (.enter g args) w) (p : Nat -> Bool) (s : ByteArray) (w : World) (hp : PredAt Tryz.prog g lb encR p w) :
  Calls Tryz.prog 93 #[.string s, .func (.func g) #[] lb] w fun e w' => e = .returned (.bool (decide (0 <= Lib.idxFunc p true s))) /\ Below w.heap.size w w' := Any.strings_ContainsFunc Tryz.laysGw17 g lb eg p s w hp
def Tryz.lays99_ren : Go.Shelf.Ren := ⟨fun | 99 => 153 | 206 => 189 | n => n, fun | 9 => 9 | 4 => 4 | 3 => 3 | n => n, fun | n => n⟩
theorem Tryz.lays99 : Go.Proofs.Lays.n99 Tryz.prog Tryz.lays99_ren := {
 mixed := by kernel_rfl
 f99 := Tryz.func153.trans (congrArg some (by kernel_rfl))
 f206 := Tryz.func189.trans (congrArg some (by kernel_rfl))
 t3 := Tryz.underlying3
 a3 := Tryz.isAgg3
 z3 := Tryz.sizeOf3
 v3 := Tryz.zeroValue3
 t4 := Tryz.underlying4
 a4 := Tryz.isAgg4
 z4 := Tryz.sizeOf4
 v4 := Tryz.zeroValue4
 t9 := Tryz.underlying9
 a9 := Tryz.isAgg9
 z9 := Tryz.sizeOf9
 v9 := Tryz.zeroValue9 }
open Go.RowKit Go.Lib in
theorem Tryz.strings_HasPrefix (s p : ByteArray) (w : World) :
  Calls Tryz.prog 153 #[.string s, .string p] w fun e w' => e = .returned (.bool (Lib.hasPrefix s.data.toList p.data.toList)) /\ w' = w := Any.strings_HasPrefix Tryz.lays99 s p w
def Tryz.lays146_ren : Go.Shelf.Ren := ⟨fun | 146 => 92 | 221 => 141 | 268 => 176 | 138 => 177 | 143 => 178 | 195 => 207 | 197 => 208 | 218 => 209 | 219 => 167 | 260 => 227 | 217 => 199 | 225 => 200 | 224 => 201 | 267 => 202 | 266 => 225 | 314 => 226 | n => n, fun | 9 => 9 | 31 => 67 | 3 => 3 | 4 => 4 | 0 => 0 | 105 => 217 | 21 => 21 | 5 => 5 | 46 => 181 | 119 => 247 | 139 => 250 | 138 => 249 | 146 => 179 | 51 => 178 | n => n, fun | 1 => 0 | 3 => 6 | 4 => 7 | n => n⟩
theorem Tryz.lays146 : Go.Proofs.Lays.n146 Tryz.prog Tryz.lays146_ren := {
 mixed := by kernel_rfl
 f138 := Tryz.func177.trans (congrArg some (by kernel_rfl))
 f143 := Tryz.func178.trans (congrArg some (by kernel_rfl))
 f146 := Tryz.func92.trans (congrArg some (by kernel_rfl))
 f195 := Tryz.func207.trans (congrArg some (by kernel_rfl))
 f197 := Tryz.func208.trans (congrArg some (by kernel_rfl))
 f217 := Tryz.func199.trans (congrArg some (by kernel_rfl))
 f218 := Tryz.func209.trans (congrArg some (by kernel_rfl))
 f219 := Tryz.func167.trans (congrArg some (by kernel_rfl))
 f221 := Tryz.func141.trans (congrArg some (by kernel_rfl))
 f224 := Tryz.func201.trans (congrArg some (by kernel_rfl))
 f225 := Tryz.func200.trans (congrArg some (by kernel_rfl))
 f260 := Tryz.func227.trans (congrArg some (by kernel_rfl))
 f266 := Tryz.func225.trans (congrArg some (by kernel_rfl))
 f267 := Tryz.func202.trans (congrArg some (by kernel_rfl))
 f268 := Tryz.func176.trans (congrArg some (by kernel_rfl))
 f314 := Tryz.func226.trans (congrArg some (by kernel_rfl))
 t0 := Tryz.underlying0
 a0 := Tryz.isAgg0
 z0 := Tryz.sizeOf0
 v0 := Tryz.zeroValue0
 t3 := Tryz.underlying3
 a3 := Tryz.isAgg3
 z3 := Tryz.sizeOf3
 v3 := Tryz.zeroValue3
 t4 := Tryz.underlying4
 a4 := Tryz.isAgg4
 z4 := Tryz.sizeOf4
 v4 := Tryz.zeroValue4
 t5 := Tryz.underlying5
 a5 := Tryz.isAgg5
 z5 := Tryz.sizeOf5
 v5 := Tryz.zeroValue5
 t9 := Tryz.underlying9
 a9 := Tryz.isAgg9
 z9 := Tryz.sizeOf9
 v9 := Tryz.zeroValue9
 t21 := Tryz.underlying21
 a21 := Tryz.isAgg21
 z21 := Tryz.sizeOf21
 v21 := Tryz.zeroValue21
 t31 := Tryz.underlying67
 a31 := Tryz.isAgg67
 z31 := Tryz.sizeOf67
 v31 := Tryz.zeroValue67
 t46 := Tryz.underlying181
 a46 := Tryz.isAgg181
 z46 := Tryz.sizeOf181
 v46 := Tryz.zeroValue181
 t51 := Tryz.underlying178
 a51 := Tryz.isAgg178
 z51 := Tryz.sizeOf178
 v51 := Tryz.zeroValue178
 t105 := Tryz.underlying217
 a105 := Tryz.isAgg217
 z105 := Tryz.sizeOf217
 v105 := Tryz.zeroValue217
 t119 := Tryz.underlying247
 a119 := Tryz.isAgg247
 z119 := Tryz.sizeOf247
 t138 := Tryz.underlying249
 a138 := Tryz.isAgg249
 z138 := Tryz.sizeOf249
 v138 := Tryz.zeroValue249
 t139 := Tryz.underlying250
 a139 := Tryz.isAgg250
 z139 := Tryz.sizeOf250
 v139 := Tryz.zeroValue250
 t146 := Tryz.underlying179
 a146 := Tryz.isAgg179
 z146 := Tryz.sizeOf179
 v146 := Tryz.zeroValue179
 g1 := by kernel_rfl
 g3 := by kernel_rfl
 g4 := by kernel_rfl }
open Go.RowKit Go.Lib in
theorem Tryz.strings_Split (s sep : ByteArray) (m : Int) (w : World) (hs : s.size < 4294967281) (hm : w.cell? ⟨0, 0, none⟩ = some (.int .i64 m)) (h1 : 1 <= sep.size) :
  Calls Tryz.prog 92 #[.string s, .string sep] w fun e w' =>
   e = .returned (.slice (some ⟨w.heap.size, 0, none⟩) (Lib.countB s sep + 1) (Lib.countB s sep + 1)) /\ w' = w.alloc (.cells ((Lib.splitB sep 0 (Lib.countB s sep) s).map Value.string).toArray 9) := Any.strings_Split Tryz.lays146 (by kernel_rfl) s sep m w hs hm h1
end Go.Proofs

end

section

namespace Go.Proofs.YtdnedbcmgkilaaaGreatDoor.Lc
open Go.Lib
def sgnN (n : Nat) : Bool := (decide (97 <= n) && decide (n <= 122)) || (decide (65 <= n) && decide (n <= 90)) || (decide (48 <= n) && decide (n <= 57))
def sgn (c : UInt8) : Bool := sgnN c.toNat
def prtB : Bool -> List UInt8 -> Bool
 | b, [] => b
 | b, c :: r => if c = 45 then b && prtB false r else sgn c && prtB true r
def locB (l : List UInt8) : Bool := decide (l.length <= 32) && prtB false l
def z3l (l : List UInt8) : Bool := !l.isEmpty && l.all sgn
theorem z3k : ∀ (b : Bool) (l : List UInt8), (45 : UInt8) ∉ l -> prtB b l = (l.all sgn && (b || !l.isEmpty))
 | b, [], _ => by cases b <;> rfl
 | b, c :: r, h => by
  have hc : c ≠ 45 := fun e => h (by simp [e])
  rw [prtB, if_neg hc, z3k true r (fun e => h (by simp [e]))]
  simp
theorem zdw : ∀ (b : Bool) (l r : List UInt8), (45 : UInt8) ∉ l -> prtB b (l ++ 45 :: r) = (prtB b l && prtB false r)
 | b, [], r, _ => by simp [prtB]
 | b, c :: l, r, h => by
  have hc : c ≠ 45 := fun e => h (by simp [e])
  rw [List.cons_append, prtB, if_neg hc, prtB, if_neg hc, zdw true l r (fun e => h (by simp [e])), Bool.and_assoc]
theorem z4n (s : List UInt8) : (index s [45] = -1 /\ (45 : UInt8) ∉ s) ∨ ∃ i : Nat, index s [45] = i /\ i < s.length /\ (45 : UInt8) ∉ s.take i /\ s = s.take i ++ 45 :: s.drop (i + 1) := by
 induction s with
 | nil => exact .inl ⟨by simp [index], by simp⟩
 | cons c r ih =>
  by_cases hc : c = 45
  ·subst hc
   exact .inr ⟨0, by rw [index]; simp [List.isPrefixOf], by simp, by simp, by simp⟩
  ·have hp : ([45] : List UInt8).isPrefixOf (c :: r) = false := by simp [List.isPrefixOf, Ne.symm hc]
   have hix : index (c :: r) [45] = if index r [45] == -1 then -1 else index r [45] + 1 := by rw [index, hp]; simp
   rcases ih with ⟨h1, h2⟩ | ⟨i, h1, h2, h3, h4⟩
   ·exact .inl ⟨by rw [hix, h1]; rfl, by simp [h2, Ne.symm hc]⟩
   ·refine .inr ⟨i + 1, by rw [hix, if_neg (by simp; omega), h1]; rfl, by simp; omega, by simp [h3, Ne.symm hc], ?_⟩
    simpa using h4
theorem z6w : ∀ (k : Nat) (s : List UInt8), s.count 45 <= k -> (splitK [45] 0 k s).all z3l = prtB false s
 | 0, s, h => by
  have hn : (45 : UInt8) ∉ s := fun e => by have := List.count_pos_iff.2 e; omega
  rw [z3k _ _ hn]; simp [splitK, z3l, Bool.and_comm]
 | k + 1, s, h => by
  rcases z4n s with ⟨h1, h2⟩ | ⟨i, h1, h2, h3, h4⟩
  ·have e : splitK [45] 0 (k + 1) s = [s] := by rw [splitK, h1]; rfl
   rw [e]
   rw [z3k _ _ h2]; simp [z3l, Bool.and_comm]
  ·rw [splitK, h1, if_neg (by simp)]
   have hc : (s.drop (i + 1)).count 45 <= k := by
    have e := congrArg (List.count 45) h4
    rw [List.count_append, List.count_cons_self, List.count_eq_zero.2 h3] at e
    omega
   have ih := z6w k (s.drop (i + 1)) hc
   rw [List.all_cons]
   simp only [Int.toNat_natCast, List.length_cons, List.length_nil, Nat.add_zero]
   rw [ih]
   conv => rhs; rw [h4]
   rw [zdw _ _ _ h3, z3k _ _ h3]
   simp [z3l, Bool.and_comm]
theorem zah (s : ByteArray) : (splitB ⟨#[45]⟩ 0 (countB s ⟨#[45]⟩) s).all (fun p => z3l p.data.toList) = prtB false s.data.toList := by
 have h1 : (splitB ⟨#[45]⟩ 0 (countB s ⟨#[45]⟩) s).all (fun p => z3l p.data.toList) = ((splitB ⟨#[45]⟩ 0 (countB s ⟨#[45]⟩) s).map (·.data.toList)).all z3l := by rw [List.all_map]; rfl
 rw [h1, splitB_data]
 exact z6w _ _ (by
  have : countB s ⟨#[45]⟩ = s.data.toList.count 45 := count_one 45 s.data.toList
  omega)
def okAt (l : List UInt8) (i : Nat) : Bool := match l[i]? with
 | some c => sgn c || (decide (c = 45) && decide (i ≠ 0) && decide (i + 1 ≠ l.length) && decide (l[i - 1]? ≠ some 45))
 | none => true
def okR : Option UInt8 -> List UInt8 -> Bool
 | _, [] => true
 | p, c :: r => (sgn c || (decide (c = 45) && decide (p ≠ none) && decide (p ≠ some 45) && !r.isEmpty)) && okR (some c) r
theorem z96 : ∀ (r : List UInt8) (p : Option UInt8) (b : Bool), b = (decide (p ≠ none) && decide (p ≠ some 45)) -> prtB b r = (okR p r && (b || !r.isEmpty))
 | [], p, b, _ => by cases b <;> rfl
 | c :: r, p, b, hb => by
  by_cases hc : c = 45
  ·subst hc
   rw [prtB, if_pos rfl, z96 r (some 45) false rfl, okR, hb]
   have : sgn 45 = false := rfl
   rw [this]
   cases decide (p ≠ none) <;> cases decide (p ≠ some 45) <;> simp [Bool.and_comm]
  ·rw [prtB, if_neg hc, z96 r (some c) true (by simp [hc]), okR]
   simp [hc]
theorem zcx (l : List UInt8) : ∀ (r : List UInt8) (k : Nat), l.drop k = r -> ((∀ i, k <= i -> i < l.length -> okAt l i = true) ↔ okR (if k = 0 then none else l[k - 1]?) r = true)
 | [], k, h => by
  have := List.drop_eq_nil_iff.1 h
  exact ⟨fun _ => rfl, fun _ i h1 h2 => by omega⟩
 | c :: r, k, h => by
  have hk : k < l.length := Nat.lt_of_not_le (fun e => by rw [List.drop_eq_nil_of_le e] at h; cases h)
  have hc : l[k]? = some c := by
   have e := congrArg (·[0]?) h
   simpa [List.getElem?_drop] using e
  have hr : l.drop (k + 1) = r := by
   have e := congrArg (List.drop 1) h
   simpa [List.drop_drop, Nat.add_comm] using e
  have hl : r.isEmpty = decide (k + 1 = l.length) := by
   rw [<- hr]
   have e : (l.drop (k + 1)).length = l.length - (k + 1) := List.length_drop
   cases h3 : l.drop (k + 1) with
   | nil => rw [h3] at e; simp at e; simp; omega
   | cons x y => rw [h3] at e; simp at e; simp; omega
  have ih := zcx l r (k + 1) hr
  rw [if_neg (by omega), Nat.add_sub_cancel, hc] at ih
  have hA : okAt l k = (sgn c || (decide (c = 45) && decide ((if k = 0 then none else l[k - 1]?) ≠ none) && decide ((if k = 0 then none else l[k - 1]?) ≠ some 45) && !r.isEmpty)) := by
   unfold okAt; rw [hc, hl]
   by_cases h0 : k = 0
   ·subst h0; simp
   ·have : ∃ d, l[k - 1]? = some d := ⟨_, List.getElem?_eq_getElem (by omega)⟩
    obtain ⟨d, hd⟩ := this
    simp only [if_neg h0, hd]
    by_cases h1 : c = 45 <;> by_cases h2 : d = 45 <;> by_cases h3 : k + 1 = l.length <;> simp [h0, h1, h2, h3]
  rw [okR, <- hA, Bool.and_eq_true, <- ih]
  exact ⟨fun H => ⟨H k (Nat.le_refl _) hk, fun i h1 h2 => H i (by omega) h2⟩, fun H i h1 h2 => by
   rcases Nat.eq_or_lt_of_le h1 with rfl | h3
   ·exact H.1
   ·exact H.2 i (by omega) h2⟩
theorem loc_yes (l : List UInt8) (h1 : 1 <= l.length) (h2 : l.length <= 32) (h : ∀ i, i < l.length -> okAt l i = true) : locB l = true := by
 have e := (zcx l l 0 rfl).1 (fun i _ hi => h i hi)
 rw [if_pos rfl] at e
 have hl : l.isEmpty = false := by cases l with
  | nil => simp at h1
  | cons _ _ => rfl
 rw [locB, z96 l none false rfl, e, hl]; simp [h2]
theorem z82 (l : List UInt8) (h : l.length < 1 ∨ 32 < l.length ∨ ∃ i, i < l.length /\ okAt l i = false) : locB l = false := by
 rcases h with h | h | ⟨i, hi, h⟩
 ·have : l = [] := List.eq_nil_of_length_eq_zero (by omega)
  subst this; rfl
 ·rw [locB, decide_eq_false (by omega)]; rfl
 ·have e : okR none l ≠ true := fun e => by
   have := (zcx l l 0 rfl).2 (by rw [if_pos rfl]; exact e) i (Nat.zero_le _) hi
   rw [h] at this; cases this
  rw [locB, z96 l none false rfl, Bool.eq_false_iff.2 e]; simp
theorem z8s : sgn 45 = false := rfl
def langF (l : List UInt8) : List UInt8 := l.takeWhile (· != 45)
theorem cut_lang (s : List UInt8) : (cut s [45]).1 = langF s := by
 have key : ∀ (a : List UInt8), (45 : UInt8) ∉ a -> langF a = a := fun a ha => by
  induction a with
  | nil => rfl
  | cons c r ih =>
   have hc : c ≠ 45 := fun e => ha (by simp [e])
   rw [langF, List.takeWhile_cons_of_pos (by simpa using hc)]
   exact congrArg (c :: ·) (ih (fun e => ha (by simp [e])))
 rcases z4n s with ⟨h1, h2⟩ | ⟨i, h1, h2, h3, h4⟩
 ·rw [cut, if_neg (by rw [h1]; omega)]; exact (key s h2).symm
 ·rw [cut, if_pos (by rw [h1]; omega), h1]
  simp only [Int.toNat_natCast]
  conv => rhs; rw [h4]
  unfold langF
  rw [List.takeWhile_append_of_pos (fun x hx => by simp; intro e; exact h3 (e ▸ hx))]
  simp
def pre (l : List UInt8) : Nat -> List (List UInt8)
 | 0 => []
 | i + 1 => if 0 < i /\ l[i]? = some 45 then l.take i :: pre l i else pre l i
def z2d (l : List UInt8) : List (List UInt8) := (if l = [] then [] else l :: pre l l.length) ++ [[]]
def lastD (l : List UInt8) : Nat -> Nat
 | 0 => 0
 | k + 1 => if l[k]? = some 45 then k else lastD l k
theorem z9e (l : List UInt8) : ∀ k, lastD l k <= k
 | 0 => Nat.le_refl _
 | k + 1 => by have := z9e l k; unfold lastD; split <;> omega
theorem zea (l : List UInt8) : ∀ k, 0 < k -> lastD l k < k
 | 0, h => by omega
 | k + 1, _ => by have := z9e l k; unfold lastD; split <;> omega
theorem z92 (l : List UInt8) : ∀ k, pre l k = if lastD l k = 0 then [] else l.take (lastD l k) :: pre l (lastD l k)
 | 0 => rfl
 | k + 1 => by
  by_cases h : l[k]? = some 45
  ·have e : lastD l (k + 1) = k := by rw [lastD, if_pos h]
   rw [e, pre]
   by_cases hk : k = 0
   ·subst hk; simp [pre]
   ·rw [if_pos ⟨by omega, h⟩, if_neg hk]
  ·have e : lastD l (k + 1) = lastD l k := by rw [lastD, if_neg h]
   rw [e, pre, if_neg (fun e => h e.2)]
   exact z92 l k
theorem zdy (l : List UInt8) (n : Nat) : ∀ k, k <= n -> pre (l.take n) k = pre l k
 | 0, _ => rfl
 | k + 1, h => by
  rw [pre, pre, zdy l n k (by omega), List.getElem?_take_of_lt (by omega), List.take_take, Nat.min_eq_left (by omega)]
theorem z3y (s : ByteArray) : ∀ k, k <= s.size -> max 0 (lastIdx s 45 k) = (lastD s.data.toList k : Int)
 | 0, _ => rfl
 | k + 1, h => by
  have hk : k < s.data.toList.length := by rw [Array.length_toList]; exact h
  have e : s.data.toList[k]? = some s.data[k]! := by
   rw [List.getElem?_eq_getElem hk]; simp [getElem!_pos s.data k (by simpa using hk)]
  rw [lastIdx, lastD, e]
  by_cases hc : s.data[k]! = 45
  ·rw [if_pos (by rw [hc]; rfl), if_pos (by rw [hc])]; omega
  ·have hc2 : ¬ ((s.data[k]!).toNat : Int) = 45 := fun e => hc (UInt8.toNat_inj.1 (by have : (45 : UInt8).toNat = 45 := rfl; omega))
   rw [if_neg hc2, if_neg (fun e => hc (Option.some.inj e))]
   exact z3y s k (by omega)
end Go.Proofs.YtdnedbcmgkilaaaGreatDoor.Lc

end

section

namespace Go.Proofs.YtdnedbcmgkilaaaGreatDoor.Lc
open Go.Lib
theorem zex (s : ByteArray) (i : Nat) (h : (s.get! i).toNat < 128) : Utf8.decode s i = ((s.get! i).toNat, 1) := by
 rw [decode_at]; unfold decodeN; rw [if_pos h]
theorem decN_hi (n b0 b1 b2 b3 : Nat) (h : 128 <= b0) : 128 <= (decodeN n b0 b1 b2 b3).1 := by
 unfold decodeN
 rw [if_neg (by omega)]
 repeat' split
 all_goals (first | (simp only; omega) | decide)
theorem dec_hi (s : ByteArray) (i : Nat) (h : 128 <= (s.get! i).toNat) : 128 <= (Utf8.decode s i).1 := by
 rw [decode_at]; exact decN_hi _ _ _ _ _ h
theorem zgr (n : Nat) (h : 128 <= n) : sgnN n = false := by
 simp [sgnN]; omega
theorem zef (s : ByteArray) (i : Nat) (h : i < s.data.toList.length) : s.get! i = s.data.toList[i] := by
 have h2 : i < s.data.size := by simpa using h
 show s.data[i]! = _
 rw [getElem!_pos s.data i h2, Array.getElem_toList]
theorem zic (s : ByteArray) : ∀ (f pos : Nat), s.size <= pos + f -> (0 <= idxFuncFrom (fun n => !sgnN n) true s f pos ↔ (s.data.toList.drop pos).all sgn = false)
 | 0, pos, h => by
  have hl : s.data.toList.length <= pos := by rw [Array.length_toList]; exact h
  rw [List.drop_eq_nil_of_le hl, idxFuncFrom]; simp
 | f + 1, pos, h => by
  rw [idxFuncFrom]
  by_cases hp : pos < s.size
  ·have hl : pos < s.data.toList.length := by rw [Array.length_toList]; exact hp
   have hg := zef s pos hl
   rw [if_pos hp, List.drop_eq_getElem_cons hl, List.all_cons, <- hg]
   cases hs : sgn (s.get! pos) with
   | true =>
    have hlo : (s.get! pos).toNat < 128 := Nat.lt_of_not_le (fun e => by
     have := zgr _ e
     have h2 : sgnN (s.get! pos).toNat = true := hs
     rw [this] at h2; cases h2)
    rw [zex s pos hlo]
    have h2 : sgnN (s.get! pos).toNat = true := hs
    simp only [h2, Bool.not_true, Bool.false_eq_true, if_false, Bool.true_and]
    exact zic s f (pos + 1) (by omega)
   | false =>
    have h2 : sgnN (Utf8.decode s pos).1 = false := by
     by_cases hlo : (s.get! pos).toNat < 128
     ·rw [zex s pos hlo]; exact hs
     ·exact zgr _ (dec_hi s pos (by omega))
    simp only [h2, Bool.not_false, if_true, Bool.false_and]
    simp
  ·have hl : s.data.toList.length <= pos := by rw [Array.length_toList]; exact Nat.le_of_not_lt hp
   rw [if_neg hp, List.drop_eq_nil_of_le hl]; simp
theorem zbu (s : ByteArray) : decide (0 <= idxFunc (fun n => !sgnN n) true s) = !(s.data.toList.all sgn) := by
 have h := zic s s.size 0 (by omega)
 rw [List.drop_zero] at h
 unfold idxFunc
 cases hs : s.data.toList.all sgn with
 | true => rw [hs] at h; exact decide_eq_false (fun e => by cases h.1 e)
 | false => exact decide_eq_true (h.2 hs)
end Go.Proofs.YtdnedbcmgkilaaaGreatDoor.Lc

end

section

namespace Go.Proofs.YtdnedbcmgkilaaaGreatDoor.Lc
open Go.RowKit
theorem z1k (s : ByteArray) : s.data.toList.length = s.size := Array.length_toList
theorem z3a {a b : ByteArray} (h : a.data.toList = b.data.toList) : a = b := by
 cases a; cases b; congr 1; exact Array.toList_inj.1 h
theorem z01 {a b : Bool} (h : a = b) : Ending.returned (.bool a) = .returned (.bool b) := by rw [h]
theorem z90 {a b : ByteArray} (h : a = b) : Ending.returned (.string a) = .returned (.string b) := by rw [h]
abbrev str (l : List UInt8) : ByteArray := ⟨l.toArray⟩
theorem zdp (l : List UInt8) : (str l).data.toList = l := List.toList_toArray
theorem z0r {B : Nat} {a w : World} (h : Below B a w) (n : Nat) : Below B a (w.drewN n) := ⟨h.os, h.tape, h.output, h.size, h.block⟩
theorem z02 (w : World) (o : Obj) : Below w.heap.size w (w.alloc o) := (Below.refl _ w).alloc (Nat.le_refl _) o
theorem z00 {w w1 w2 : World} (h1 : Below w.heap.size w w1) (h2 : Below w1.heap.size w1 w2) : Below w.heap.size w w2 := h1.trans (h2.mono h1.size)
def Reads (w : World) (a : Option Addr) (cap : Nat) (xs : List ByteArray) : Prop :=
 xs.length <= cap /\ (xs ≠ [] -> ∃ g, a = some ⟨g, 0, none⟩ /\ g < w.heap.size /\ ∀ j (h : j < xs.length), w.cell? ⟨g, j, none⟩ = some (.string xs[j]))
theorem Reads.below {w w' : World} {a : Option Addr} {cap : Nat} {xs : List ByteArray} (h : Reads w a cap xs) (hb : Below w.heap.size w w') : Reads w' a cap xs :=
 ⟨h.1, fun hx => by
  obtain ⟨g, ha, hg, hc⟩ := h.2 hx
  exact ⟨g, ha, Nat.lt_of_lt_of_le hg hb.size, fun j hj => (hb.cell (p := ⟨g, j, none⟩) hg).trans (hc j hj)⟩⟩
abbrev strs (xs : List ByteArray) : List Value := xs.map Value.string
theorem z2g {w : World} {base : Nat} {v : Value} {xs : List ByteArray} (h : w.ownsRow base 9 1 v xs.length (strs xs)) : ∃ a cap, v = .slice a xs.length cap /\ Reads w a cap xs := by
 rcases h.2 with ⟨rfl, h0⟩ | ⟨g, cap, cur, rfl, hb, hh, hc, -, hs, ht⟩
 ·have : xs = [] := List.length_eq_zero_iff.1 h0
  subst this
  exact ⟨none, 0, rfl, Nat.le_refl _, fun h => absurd rfl h⟩
 ·refine ⟨_, cap, rfl, hc, fun _ => ⟨g, rfl, (Array.getElem?_eq_some_iff.1 hh).1, fun j hj => ?_⟩⟩
  have h1 : (cur.toList.take (xs.length * 1))[j]? = (xs.map Value.string)[j]? := by rw [ht]
  rw [List.getElem?_take, if_pos (by omega), Array.getElem?_toList] at h1
  simp only [World.cell?, hh, h1]
  simp [List.getElem?_eq_getElem hj]
theorem zh0 (w : World) (xs : List ByteArray) (t : TypeId) : Reads (w.alloc (.cells (strs xs).toArray t)) (some ⟨w.heap.size, 0, none⟩) xs.length xs :=
 ⟨Nat.le_refl _, fun _ => ⟨w.heap.size, rfl, by simp, fun j hj => by
  have hh : (w.alloc (.cells (strs xs).toArray t)).heap[w.heap.size]? = some (.cells (strs xs).toArray t (0, 0)) := by
   show (w.heap.push _)[w.heap.size]? = _
   simp
  simp only [World.cell?, hh]
  simp [hj]⟩⟩
theorem info9 : (Tryz.prog.info? 9).map (fun i => (i.zero, i.size, i.bytes)) = some (some (.string ByteArray.empty), 1, 16) := by kernel_rfl
theorem z17 {w : World} {base : Nat} {e : TypeId} {v : Value} {n : Nat} {xs : List Value} (h : w.ownsRow base e 1 v (n + 1) xs) : ∃ g cap, v = .slice (some ⟨g, 0, none⟩) (n + 1) cap := by
 rcases h.2 with ⟨-, h0⟩ | ⟨g, cap, cur, rfl, -⟩
 ·cases h0
 ·exact ⟨g, cap, rfl⟩
def MaxW (m : Int) (w : World) : Prop := w.cell? ⟨0, 0, none⟩ = some (.int .i64 m)
theorem MaxW.below {m : Int} {w w' : World} (h : MaxW m w) (h0 : 0 < w.heap.size) (hb : Below w.heap.size w w') : MaxW m w' := (hb.cell (p := ⟨0, 0, none⟩) h0).trans h
theorem MaxW.pos {m : Int} {w : World} (h : MaxW m w) : 0 < w.heap.size := by
 unfold MaxW at h
 by_cases h0 : w.heap.size = 0
 ·have : w.heap[0]? = none := Array.getElem?_eq_none (by omega)
  simp only [World.cell?, this] at h; cases h
 ·omega
theorem MaxW.next {m : Int} {w w' : World} (h : MaxW m w) (hb : Below w.heap.size w w') : MaxW m w' := h.below h.pos hb
end Go.Proofs.YtdnedbcmgkilaaaGreatDoor.Lc

end

section

namespace Go.Proofs
open Go.Shelf
def Tryz.lays144_ren : Go.Shelf.Ren := ⟨fun | 144 => 218 | 143 => 178 | 219 => 167 | 217 => 199 | 225 => 200 | 224 => 201 | 267 => 202 | 266 => 225 | 314 => 226 | n => n, fun | 9 => 9 | 4 => 4 | 3 => 3 | 5 => 5 | 46 => 181 | 146 => 179 | 51 => 178 | n => n, fun | 1 => 0 | n => n⟩
theorem Tryz.lays144 : Go.Proofs.Lays.n144 Tryz.prog Tryz.lays144_ren := {
 mixed := by kernel_rfl
 f143 := Tryz.func178.trans (congrArg some (by kernel_rfl))
 f144 := Tryz.func218.trans (congrArg some (by kernel_rfl))
 f217 := Tryz.func199.trans (congrArg some (by kernel_rfl))
 f219 := Tryz.func167.trans (congrArg some (by kernel_rfl))
 f224 := Tryz.func201.trans (congrArg some (by kernel_rfl))
 f225 := Tryz.func200.trans (congrArg some (by kernel_rfl))
 f266 := Tryz.func225.trans (congrArg some (by kernel_rfl))
 f267 := Tryz.func202.trans (congrArg some (by kernel_rfl))
 f314 := Tryz.func226.trans (congrArg some (by kernel_rfl))
 t3 := Tryz.underlying3
 a3 := Tryz.isAgg3
 z3 := Tryz.sizeOf3
 v3 := Tryz.zeroValue3
 t4 := Tryz.underlying4
 a4 := Tryz.isAgg4
 z4 := Tryz.sizeOf4
 v4 := Tryz.zeroValue4
 t5 := Tryz.underlying5
 a5 := Tryz.isAgg5
 z5 := Tryz.sizeOf5
 v5 := Tryz.zeroValue5
 t9 := Tryz.underlying9
 a9 := Tryz.isAgg9
 z9 := Tryz.sizeOf9
 v9 := Tryz.zeroValue9
 t46 := Tryz.underlying181
 a46 := Tryz.isAgg181
 z46 := Tryz.sizeOf181
 v46 := Tryz.zeroValue181
 t51 := Tryz.underlying178
 a51 := Tryz.isAgg178
 z51 := Tryz.sizeOf178
 v51 := Tryz.zeroValue178
 t146 := Tryz.underlying179
 a146 := Tryz.isAgg179
 z146 := Tryz.sizeOf179
 v146 := Tryz.zeroValue179
 g1 := by kernel_rfl }
open Go.RowKit Go.Lib in
theorem Tryz.strings_Contains_one (s : ByteArray) (c : UInt8) (w : World) :
  Calls Tryz.prog 218 #[.string s, .string ⟨#[c]⟩] w fun e w' => e = .returned (.bool (decide (0 <= Lib.indexByte s.data.toList c))) /\ w' = w := Any.strings_Contains_one Tryz.lays144 s c w
end Go.Proofs

end

section

namespace Go.Proofs
open Go.Shelf
def Tryz.lays148_ren : Go.Shelf.Ren := ⟨fun | 148 => 76 | 222 => 111 | 223 => 112 | 269 => 152 | n => n, fun | 9 => 9 | 3 => 3 | 4 => 4 | 5 => 5 | 146 => 179 | 51 => 178 | 46 => 181 | n => n, fun | n => n⟩
theorem Tryz.lays148 : Go.Proofs.Lays.n148 Tryz.prog Tryz.lays148_ren := {
 mixed := by kernel_rfl
 f148 := Tryz.func76.trans (congrArg some (by kernel_rfl))
 f222 := Tryz.func111.trans (congrArg some (by kernel_rfl))
 f223 := Tryz.func112.trans (congrArg some (by kernel_rfl))
 f269 := Tryz.func152.trans (congrArg some (by kernel_rfl))
 t3 := Tryz.underlying3
 a3 := Tryz.isAgg3
 z3 := Tryz.sizeOf3
 v3 := Tryz.zeroValue3
 t4 := Tryz.underlying4
 a4 := Tryz.isAgg4
 z4 := Tryz.sizeOf4
 v4 := Tryz.zeroValue4
 t5 := Tryz.underlying5
 a5 := Tryz.isAgg5
 z5 := Tryz.sizeOf5
 v5 := Tryz.zeroValue5
 t9 := Tryz.underlying9
 a9 := Tryz.isAgg9
 z9 := Tryz.sizeOf9
 v9 := Tryz.zeroValue9
 t46 := Tryz.underlying181
 a46 := Tryz.isAgg181
 z46 := Tryz.sizeOf181
 v46 := Tryz.zeroValue181
 t51 := Tryz.underlying178
 a51 := Tryz.isAgg178
 z51 := Tryz.sizeOf178
 v51 := Tryz.zeroValue178
 t146 := Tryz.underlying179
 a146 := Tryz.isAgg179
 z146 := Tryz.sizeOf179
 v146 := Tryz.zeroValue179 }
open Go.RowKit Go.Lib in
theorem Tryz.strings_LastIndex_one (s sub : ByteArray) (h1 : sub.size = 1) (hs : s.size < 4611686018427387904) (w : World) :
  Calls Tryz.prog 76 #[.string s, .string sub] w fun e w' => e = .returned (.int .i64 (Lib.lastIndexByte s ((sub[0]'(by omega)).toNat : Int))) /\ w' = w := Any.strings_LastIndex_one Tryz.lays148 s sub h1 hs w
end Go.Proofs

end
