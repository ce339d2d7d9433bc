/- The contracts of the library that this proof uses, laid at this program by the kit's own shelf, in plain words. -/
import Derived.Shelf.Strconv.Itoa4
import Derived.Shelf.Strconv.AtoiAll
import Derived.Shelf.Strings.Prefix
import Derived.Shelf.Strings.BuilderK
import Derived.Shelf.Strings.OnBuilder
import Derived.Shelf.Strings.Split
import Derived.Shelf.GgClosure.StringsIndexFuncTop
import Derived.Lib.LastIndexByte
import Derived.Deep.RegionHeld3
import Derived.Deep.AppendLies
import Derived.Lib.AppendIntMem
import Derived.Test.YtdkkkeoicekdgaaGreatDoorZECNum

section

namespace Go.Proofs
open Go.Shelf
def Tryz.lays170_ren : Go.Shelf.Ren := ⟨fun | 170 => 90 | n => n, fun | 70 => 114 | 3 => 3 | 0 => 0 | 72 => 117 | 37 => 115 | 5 => 5 | n => n, fun | n => n⟩
theorem Tryz.lays170 : Go.Proofs.Lays.n170 Tryz.prog Tryz.lays170_ren := {
 mixed := by kernel_rfl
 f170 := Tryz.func90.trans (congrArg some (by kernel_rfl))
 t0 := Tryz.underlying0
 a0 := Tryz.isAgg0
 z0 := Tryz.sizeOf0
 v0 := Tryz.zeroValue0
 t3 := Tryz.underlying3
 a3 := Tryz.isAgg3
 z3 := Tryz.sizeOf3
 v3 := Tryz.zeroValue3
 t37 := Tryz.underlying115
 a37 := Tryz.isAgg115
 z37 := Tryz.sizeOf115
 v37 := Tryz.zeroValue115
 t70 := Tryz.underlying114
 a70 := Tryz.isAgg114
 z70 := Tryz.sizeOf114
 v70 := Tryz.zeroValue114
 t72 := Tryz.underlying117
 a72 := Tryz.isAgg117
 z72 := Tryz.sizeOf117
 v72 := Tryz.zeroValue117 }
def Tryz.lays169_ren : Go.Shelf.Ren := ⟨fun | 169 => 73 | n => n, fun | 70 => 114 | 9 => 9 | 0 => 0 | 72 => 117 | 37 => 115 | 127 => 176 | 3 => 3 | 5 => 5 | n => n, fun | n => n⟩
theorem Tryz.lays169 : Go.Proofs.Lays.n169 Tryz.prog Tryz.lays169_ren := {
 mixed := by kernel_rfl
 f169 := Tryz.func73.trans (congrArg some (by kernel_rfl))
 t0 := Tryz.underlying0
 a0 := Tryz.isAgg0
 z0 := Tryz.sizeOf0
 v0 := Tryz.zeroValue0
 t3 := Tryz.underlying3
 a3 := Tryz.isAgg3
 z3 := Tryz.sizeOf3
 v3 := Tryz.zeroValue3
 t9 := Tryz.underlying9
 a9 := Tryz.isAgg9
 z9 := Tryz.sizeOf9
 v9 := Tryz.zeroValue9
 t37 := Tryz.underlying115
 a37 := Tryz.isAgg115
 z37 := Tryz.sizeOf115
 v37 := Tryz.zeroValue115
 t70 := Tryz.underlying114
 a70 := Tryz.isAgg114
 z70 := Tryz.sizeOf114
 v70 := Tryz.zeroValue114
 t72 := Tryz.underlying117
 a72 := Tryz.isAgg117
 z72 := Tryz.sizeOf117
 v72 := Tryz.zeroValue117
 t127 := Tryz.underlying176
 a127 := Tryz.isAgg176
 z127 := Tryz.sizeOf176
 v127 := Tryz.zeroValue176 }
theorem Tryz.Builder_Extra_169 : Builder.Extra Tryz.prog Tryz.lays169_ren := {
 sizeBuilder := by kernel_rfl
 liesBuilder := by kernel_rfl
 t5 := Tryz.underlying5
 a5 := Tryz.isAgg5
 z5 := Tryz.sizeOf5
 v5 := Tryz.zeroValue5
 infoByte := by kernel_rfl
 cellsByte := by kernel_rfl
 sizeByte := by kernel_rfl
 neB5 := by decide }
open Go.RowKit in
theorem Tryz.Builder_Len_f (B b : Nat) (bs : List Value) (w : World) (h : Lib.IsBuilderF 117 5 B b bs w) :
  Calls Tryz.prog 90 #[.pointer (some ⟨b, 0, none⟩)] w fun e w' => e = .returned (.int .i64 bs.length) /\ w' = w := Any.Builder_Len_f Tryz.lays170 B b bs w h
open Go.RowKit in
theorem Tryz.Builder_String_any_k (B b : Nat) (l : List UInt8) (w : World) (h : Lib.IsBuilderF 117 5 B b (Lib.byteCells l) w) (hBw : B <= w.heap.size) :
  Calls Tryz.prog 73 #[.pointer (some ⟨b, 0, none⟩)] w fun e w' => e = .returned (.string ⟨l.toArray⟩) /\ (Lib.IsBuilderF 117 5 B b (Lib.byteCells l) w' /\ Below B w w' /\ Lib.OthersKept 5 (some b) w w') := Any.Builder_String_any_k Tryz.lays169 Tryz.Builder_Extra_169 B b l w h hBw
def Tryz.laysM171_ren : Go.Shelf.Ren := ⟨fun | 171 => 93 | 243 => 136 | 246 => 135 | 283 => 167 | 284 => 168 | 285 => 169 | 286 => 170 | 129 => 198 | 317 => 197 | 318 => 199 | 319 => 200 | 320 => 201 | 337 => 234 | 338 => 235 | n => n, fun | 3 => 3 | 9 => 9 | 2 => 2 | 4 => 4 | 171 => 208 | 0 => 0 | 53 => 184 | 37 => 115 | 5 => 5 | 173 => 211 | 212 => 244 | 51 => 168 | 20 => 20 | 213 => 245 | 46 => 177 | 232 => 289 | 233 => 217 | n => n, fun | 17 => 1 | 18 => 3 | 19 => 4 | n => n⟩
theorem Tryz.laysM171 : Go.Proofs.LaysM.n171 Tryz.prog Tryz.laysM171_ren := {
 mixed := by kernel_rfl
 f129 := Tryz.func198.trans (congrArg some (by kernel_rfl))
 f171 := Tryz.func93.trans (congrArg some (by kernel_rfl))
 f243 := Tryz.func136.trans (congrArg some (by kernel_rfl))
 f246 := Tryz.func135.trans (congrArg some (by kernel_rfl))
 f283 := Tryz.func167.trans (congrArg some (by kernel_rfl))
 f284 := Tryz.func168.trans (congrArg some (by kernel_rfl))
 f285 := Tryz.func169.trans (congrArg some (by kernel_rfl))
 f286 := Tryz.func170.trans (congrArg some (by kernel_rfl))
 f317 := Tryz.func197.trans (congrArg some (by kernel_rfl))
 f318 := Tryz.func199.trans (congrArg some (by kernel_rfl))
 f319 := Tryz.func200.trans (congrArg some (by kernel_rfl))
 f320 := Tryz.func201.trans (congrArg some (by kernel_rfl))
 f337 := Tryz.func234.trans (congrArg some (by kernel_rfl))
 f338 := Tryz.func235.trans (congrArg some (by kernel_rfl))
 t0 := Tryz.underlying0
 a0 := Tryz.isAgg0
 z0 := Tryz.sizeOf0
 v0 := Tryz.zeroValue0
 t2 := Tryz.underlying2
 a2 := Tryz.isAgg2
 z2 := Tryz.sizeOf2
 v2 := Tryz.zeroValue2
 t3 := Tryz.underlying3
 a3 := Tryz.isAgg3
 z3 := Tryz.sizeOf3
 v3 := Tryz.zeroValue3
 t4 := Tryz.underlying4
 a4 := Tryz.isAgg4
 z4 := Tryz.sizeOf4
 v4 := Tryz.zeroValue4
 t5 := Tryz.underlying5
 a5 := Tryz.isAgg5
 z5 := Tryz.sizeOf5
 v5 := Tryz.zeroValue5
 t9 := Tryz.underlying9
 a9 := Tryz.isAgg9
 z9 := Tryz.sizeOf9
 v9 := Tryz.zeroValue9
 t20 := Tryz.underlying20
 a20 := Tryz.isAgg20
 z20 := Tryz.sizeOf20
 v20 := Tryz.zeroValue20
 t37 := Tryz.underlying115
 a37 := Tryz.isAgg115
 z37 := Tryz.sizeOf115
 v37 := Tryz.zeroValue115
 t46 := Tryz.underlying177
 a46 := Tryz.isAgg177
 z46 := Tryz.sizeOf177
 v46 := Tryz.zeroValue177
 t51 := Tryz.underlying168
 a51 := Tryz.isAgg168
 z51 := Tryz.sizeOf168
 v51 := Tryz.zeroValue168
 t53 := Tryz.underlying184
 a53 := Tryz.isAgg184
 z53 := Tryz.sizeOf184
 v53 := Tryz.zeroValue184
 t171 := Tryz.underlying208
 a171 := Tryz.isAgg208
 z171 := Tryz.sizeOf208
 v171 := Tryz.zeroValue208
 t173 := Tryz.underlying211
 a173 := Tryz.isAgg211
 z173 := Tryz.sizeOf211
 v173 := Tryz.zeroValue211
 t212 := Tryz.underlying244
 a212 := Tryz.isAgg244
 z212 := Tryz.sizeOf244
 v212 := Tryz.zeroValue244
 t213 := Tryz.underlying245
 a213 := Tryz.isAgg245
 z213 := Tryz.sizeOf245
 t232 := Tryz.underlying289
 a232 := Tryz.isAgg289
 z232 := Tryz.sizeOf289
 v232 := Tryz.zeroValue289
 t233 := Tryz.underlying217
 a233 := Tryz.isAgg217
 z233 := Tryz.sizeOf217
 v233 := Tryz.zeroValue217
 g17 := by kernel_rfl
 g18 := by kernel_rfl
 g19 := by kernel_rfl
 i0 := by kernel_rfl
 i2 := by kernel_rfl
 i3 := by kernel_rfl
 i4 := by kernel_rfl
 i5 := by kernel_rfl
 i9 := by kernel_rfl
 i20 := by kernel_rfl
 i37 := by kernel_rfl
 i46 := by kernel_rfl
 i51 := by kernel_rfl
 i53 := by kernel_rfl
 i171 := by kernel_rfl
 i173 := by kernel_rfl
 i212 := by kernel_rfl
 i232 := by kernel_rfl
 i233 := by kernel_rfl
 m17 := by kernel_rfl
 m18 := by kernel_rfl
 m19 := by kernel_rfl }
open Go.RowKit Go.Sort Go.Lib in
theorem Tryz.strconv_Itoa (n : Int) (h0 : -9223372036854775808 <= n) (h1 : n <= 9223372036854775807) (w : World) (htab : Lib.TabIs Tryz.prog w "internal/strconv.uint64pow10" .u64 Lib.pow10Tab) :
  Calls Tryz.prog 93 #[.int .i64 n] w fun e w' => e = .returned (.string ⟨(Lib.itoa n).toArray⟩) /\ ∃ k os, w' = grow (w.drewN k) os := Any.strconv_Itoa Tryz.laysM171 n h0 h1 w htab
def Tryz.laysM173_ren : Go.Shelf.Ren := ⟨fun | 173 => 92 | 246 => 135 | 283 => 167 | 284 => 168 | 285 => 169 | 286 => 170 | 129 => 198 | 317 => 197 | 318 => 199 | 319 => 200 | 320 => 201 | 337 => 234 | 338 => 235 | n => n, fun | 2 => 2 | 3 => 3 | 9 => 9 | 4 => 4 | 171 => 208 | 0 => 0 | 53 => 184 | 37 => 115 | 5 => 5 | 173 => 211 | 212 => 244 | 51 => 168 | 20 => 20 | 213 => 245 | 46 => 177 | 232 => 289 | 233 => 217 | n => n, fun | 17 => 1 | 18 => 3 | 19 => 4 | n => n⟩
theorem Tryz.laysM173 : Go.Proofs.LaysM.n173 Tryz.prog Tryz.laysM173_ren := {
 mixed := by kernel_rfl
 f129 := Tryz.func198.trans (congrArg some (by kernel_rfl))
 f173 := Tryz.func92.trans (congrArg some (by kernel_rfl))
 f246 := Tryz.func135.trans (congrArg some (by kernel_rfl))
 f283 := Tryz.func167.trans (congrArg some (by kernel_rfl))
 f284 := Tryz.func168.trans (congrArg some (by kernel_rfl))
 f285 := Tryz.func169.trans (congrArg some (by kernel_rfl))
 f286 := Tryz.func170.trans (congrArg some (by kernel_rfl))
 f317 := Tryz.func197.trans (congrArg some (by kernel_rfl))
 f318 := Tryz.func199.trans (congrArg some (by kernel_rfl))
 f319 := Tryz.func200.trans (congrArg some (by kernel_rfl))
 f320 := Tryz.func201.trans (congrArg some (by kernel_rfl))
 f337 := Tryz.func234.trans (congrArg some (by kernel_rfl))
 f338 := Tryz.func235.trans (congrArg some (by kernel_rfl))
 t0 := Tryz.underlying0
 a0 := Tryz.isAgg0
 z0 := Tryz.sizeOf0
 v0 := Tryz.zeroValue0
 t2 := Tryz.underlying2
 a2 := Tryz.isAgg2
 z2 := Tryz.sizeOf2
 v2 := Tryz.zeroValue2
 t3 := Tryz.underlying3
 a3 := Tryz.isAgg3
 z3 := Tryz.sizeOf3
 v3 := Tryz.zeroValue3
 t4 := Tryz.underlying4
 a4 := Tryz.isAgg4
 z4 := Tryz.sizeOf4
 v4 := Tryz.zeroValue4
 t5 := Tryz.underlying5
 a5 := Tryz.isAgg5
 z5 := Tryz.sizeOf5
 v5 := Tryz.zeroValue5
 t9 := Tryz.underlying9
 a9 := Tryz.isAgg9
 z9 := Tryz.sizeOf9
 v9 := Tryz.zeroValue9
 t20 := Tryz.underlying20
 a20 := Tryz.isAgg20
 z20 := Tryz.sizeOf20
 v20 := Tryz.zeroValue20
 t37 := Tryz.underlying115
 a37 := Tryz.isAgg115
 z37 := Tryz.sizeOf115
 v37 := Tryz.zeroValue115
 t46 := Tryz.underlying177
 a46 := Tryz.isAgg177
 z46 := Tryz.sizeOf177
 v46 := Tryz.zeroValue177
 t51 := Tryz.underlying168
 a51 := Tryz.isAgg168
 z51 := Tryz.sizeOf168
 v51 := Tryz.zeroValue168
 t53 := Tryz.underlying184
 a53 := Tryz.isAgg184
 z53 := Tryz.sizeOf184
 v53 := Tryz.zeroValue184
 t171 := Tryz.underlying208
 a171 := Tryz.isAgg208
 z171 := Tryz.sizeOf208
 v171 := Tryz.zeroValue208
 t173 := Tryz.underlying211
 a173 := Tryz.isAgg211
 z173 := Tryz.sizeOf211
 v173 := Tryz.zeroValue211
 t212 := Tryz.underlying244
 a212 := Tryz.isAgg244
 z212 := Tryz.sizeOf244
 v212 := Tryz.zeroValue244
 t213 := Tryz.underlying245
 a213 := Tryz.isAgg245
 z213 := Tryz.sizeOf245
 t232 := Tryz.underlying289
 a232 := Tryz.isAgg289
 z232 := Tryz.sizeOf289
 v232 := Tryz.zeroValue289
 t233 := Tryz.underlying217
 a233 := Tryz.isAgg217
 z233 := Tryz.sizeOf217
 v233 := Tryz.zeroValue217
 g17 := by kernel_rfl
 g18 := by kernel_rfl
 g19 := by kernel_rfl
 i0 := by kernel_rfl
 i2 := by kernel_rfl
 i3 := by kernel_rfl
 i4 := by kernel_rfl
 i5 := by kernel_rfl
 i9 := by kernel_rfl
 i20 := by kernel_rfl
 i37 := by kernel_rfl
 i46 := by kernel_rfl
 i51 := by kernel_rfl
 i53 := by kernel_rfl
 i171 := by kernel_rfl
 i173 := by kernel_rfl
 i212 := by kernel_rfl
 i232 := by kernel_rfl
 i233 := by kernel_rfl
 m17 := by kernel_rfl
 m18 := by kernel_rfl
 m19 := by kernel_rfl }
open Go.RowKit Go.Sort Go.Lib in
theorem Tryz.strconv_FormatInt_10 (n : Int) (h0 : -9223372036854775808 <= n) (h1 : n <= 9223372036854775807) (w : World) (htab : Lib.TabIs Tryz.prog w "internal/strconv.uint64pow10" .u64 Lib.pow10Tab) :
  Calls Tryz.prog 92 #[.int .i64 n, .int .i64 10] w fun e w' => e = .returned (.string ⟨(Lib.itoa n).toArray⟩) /\ ∃ k os, w' = grow (w.drewN k) os := Any.strconv_FormatInt_10 Tryz.laysM173 n h0 h1 w htab
def Tryz.laysC172_ren : Go.Shelf.Ren := ⟨fun | 172 => 174 | 244 => 205 | 245 => 204 | 247 => 203 | 279 => 237 | 280 => 238 | 281 => 239 | 282 => 240 | 287 => 236 | 316 => 261 | 171 => 93 | 205 => 262 | 321 => 259 | 322 => 260 | 243 => 136 | 246 => 135 | 283 => 167 | 284 => 168 | 285 => 169 | 286 => 170 | 129 => 198 | 317 => 197 | 318 => 199 | 319 => 200 | 320 => 201 | 337 => 234 | 338 => 235 | n => n, fun | 9 => 9 | 3 => 3 | 75 => 120 | 76 => 121 | 4 => 4 | 5 => 5 | 167 => 274 | 37 => 115 | 0 => 0 | 85 => 213 | 2 => 2 | 168 => 277 | 53 => 184 | 175 => 275 | 46 => 177 | 210 => 292 | 127 => 176 | 145 => 303 | 143 => 301 | 21 => 21 | 171 => 208 | 173 => 211 | 212 => 244 | 51 => 168 | 20 => 20 | 213 => 245 | 232 => 289 | 233 => 217 | 80 => 123 | n => n, fun | 15 => 5 | 16 => 6 | 17 => 1 | 18 => 3 | 19 => 4 | n => n⟩
theorem Tryz.laysC172 : Go.Proofs.LaysC.n172 Tryz.prog Tryz.laysC172_ren := {
 mixed := by kernel_rfl
 f129 := Tryz.func198.trans (congrArg some (by kernel_rfl))
 f171 := Tryz.func93.trans (congrArg some (by kernel_rfl))
 f172 := Tryz.func174.trans (congrArg some (by kernel_rfl))
 f205 := Tryz.func262.trans (congrArg some (by kernel_rfl))
 f243 := Tryz.func136.trans (congrArg some (by kernel_rfl))
 f244 := Tryz.func205.trans (congrArg some (by kernel_rfl))
 f245 := Tryz.func204.trans (congrArg some (by kernel_rfl))
 f246 := Tryz.func135.trans (congrArg some (by kernel_rfl))
 f247 := Tryz.func203.trans (congrArg some (by kernel_rfl))
 f279 := Tryz.func237.trans (congrArg some (by kernel_rfl))
 f280 := Tryz.func238.trans (congrArg some (by kernel_rfl))
 f281 := Tryz.func239.trans (congrArg some (by kernel_rfl))
 f282 := Tryz.func240.trans (congrArg some (by kernel_rfl))
 f283 := Tryz.func167.trans (congrArg some (by kernel_rfl))
 f284 := Tryz.func168.trans (congrArg some (by kernel_rfl))
 f285 := Tryz.func169.trans (congrArg some (by kernel_rfl))
 f286 := Tryz.func170.trans (congrArg some (by kernel_rfl))
 f287 := Tryz.func236.trans (congrArg some (by kernel_rfl))
 f316 := Tryz.func261.trans (congrArg some (by kernel_rfl))
 f317 := Tryz.func197.trans (congrArg some (by kernel_rfl))
 f318 := Tryz.func199.trans (congrArg some (by kernel_rfl))
 f319 := Tryz.func200.trans (congrArg some (by kernel_rfl))
 f320 := Tryz.func201.trans (congrArg some (by kernel_rfl))
 f321 := Tryz.func259.trans (congrArg some (by kernel_rfl))
 f322 := Tryz.func260.trans (congrArg some (by kernel_rfl))
 f337 := Tryz.func234.trans (congrArg some (by kernel_rfl))
 f338 := Tryz.func235.trans (congrArg some (by kernel_rfl))
 t0 := Tryz.underlying0
 a0 := Tryz.isAgg0
 z0 := Tryz.sizeOf0
 v0 := Tryz.zeroValue0
 t2 := Tryz.underlying2
 a2 := Tryz.isAgg2
 z2 := Tryz.sizeOf2
 v2 := Tryz.zeroValue2
 t3 := Tryz.underlying3
 a3 := Tryz.isAgg3
 z3 := Tryz.sizeOf3
 v3 := Tryz.zeroValue3
 t4 := Tryz.underlying4
 a4 := Tryz.isAgg4
 z4 := Tryz.sizeOf4
 v4 := Tryz.zeroValue4
 t5 := Tryz.underlying5
 a5 := Tryz.isAgg5
 z5 := Tryz.sizeOf5
 v5 := Tryz.zeroValue5
 t9 := Tryz.underlying9
 a9 := Tryz.isAgg9
 z9 := Tryz.sizeOf9
 v9 := Tryz.zeroValue9
 t20 := Tryz.underlying20
 a20 := Tryz.isAgg20
 z20 := Tryz.sizeOf20
 v20 := Tryz.zeroValue20
 t21 := Tryz.underlying21
 a21 := Tryz.isAgg21
 z21 := Tryz.sizeOf21
 v21 := Tryz.zeroValue21
 t37 := Tryz.underlying115
 a37 := Tryz.isAgg115
 z37 := Tryz.sizeOf115
 v37 := Tryz.zeroValue115
 t46 := Tryz.underlying177
 a46 := Tryz.isAgg177
 z46 := Tryz.sizeOf177
 v46 := Tryz.zeroValue177
 t51 := Tryz.underlying168
 a51 := Tryz.isAgg168
 z51 := Tryz.sizeOf168
 v51 := Tryz.zeroValue168
 t53 := Tryz.underlying184
 a53 := Tryz.isAgg184
 z53 := Tryz.sizeOf184
 v53 := Tryz.zeroValue184
 t75 := Tryz.underlying120
 a75 := Tryz.isAgg120
 z75 := Tryz.sizeOf120
 v75 := Tryz.zeroValue120
 t76 := Tryz.underlying121
 a76 := Tryz.isAgg121
 z76 := Tryz.sizeOf121
 v76 := Tryz.zeroValue121
 t85 := Tryz.underlying213
 a85 := Tryz.isAgg213
 z85 := Tryz.sizeOf213
 v85 := Tryz.zeroValue213
 t127 := Tryz.underlying176
 a127 := Tryz.isAgg176
 z127 := Tryz.sizeOf176
 v127 := Tryz.zeroValue176
 t143 := Tryz.underlying301
 a143 := Tryz.isAgg301
 z143 := Tryz.sizeOf301
 v143 := Tryz.zeroValue301
 t145 := Tryz.underlying303
 a145 := Tryz.isAgg303
 z145 := Tryz.sizeOf303
 v145 := Tryz.zeroValue303
 t167 := Tryz.underlying274
 a167 := Tryz.isAgg274
 z167 := Tryz.sizeOf274
 v167 := Tryz.zeroValue274
 t168 := Tryz.underlying277
 a168 := Tryz.isAgg277
 z168 := Tryz.sizeOf277
 v168 := Tryz.zeroValue277
 t171 := Tryz.underlying208
 a171 := Tryz.isAgg208
 z171 := Tryz.sizeOf208
 v171 := Tryz.zeroValue208
 t173 := Tryz.underlying211
 a173 := Tryz.isAgg211
 z173 := Tryz.sizeOf211
 v173 := Tryz.zeroValue211
 t175 := Tryz.underlying275
 a175 := Tryz.isAgg275
 z175 := Tryz.sizeOf275
 v175 := Tryz.zeroValue275
 t210 := Tryz.underlying292
 a210 := Tryz.isAgg292
 z210 := Tryz.sizeOf292
 v210 := Tryz.zeroValue292
 t212 := Tryz.underlying244
 a212 := Tryz.isAgg244
 z212 := Tryz.sizeOf244
 v212 := Tryz.zeroValue244
 t213 := Tryz.underlying245
 a213 := Tryz.isAgg245
 z213 := Tryz.sizeOf245
 t232 := Tryz.underlying289
 a232 := Tryz.isAgg289
 z232 := Tryz.sizeOf289
 v232 := Tryz.zeroValue289
 t233 := Tryz.underlying217
 a233 := Tryz.isAgg217
 z233 := Tryz.sizeOf217
 v233 := Tryz.zeroValue217
 g15 := by kernel_rfl
 g16 := by kernel_rfl
 g17 := by kernel_rfl
 g18 := by kernel_rfl
 g19 := by kernel_rfl
 t80 := Tryz.underlying123
 a80 := Tryz.isAgg123
 z80 := Tryz.sizeOf123
 v80 := Tryz.zeroValue123
 i0 := by kernel_rfl
 i2 := by kernel_rfl
 i3 := by kernel_rfl
 i4 := by kernel_rfl
 i5 := by kernel_rfl
 i9 := by kernel_rfl
 i20 := by kernel_rfl
 i21 := by kernel_rfl
 i37 := by kernel_rfl
 i46 := by kernel_rfl
 i51 := by kernel_rfl
 i53 := by kernel_rfl
 i75 := by kernel_rfl
 i76 := by kernel_rfl
 i80 := by kernel_rfl
 i85 := by kernel_rfl
 i127 := by kernel_rfl
 i143 := by kernel_rfl
 i145 := by kernel_rfl
 i167 := by kernel_rfl
 i168 := by kernel_rfl
 i171 := by kernel_rfl
 i173 := by kernel_rfl
 i175 := by kernel_rfl
 i210 := by kernel_rfl
 i212 := by kernel_rfl
 i232 := by kernel_rfl
 i233 := by kernel_rfl
 m15 := by kernel_rfl
 m16 := by kernel_rfl
 m17 := by kernel_rfl
 m18 := by kernel_rfl
 m19 := by kernel_rfl
 c0 := by kernel_rfl
 c2 := by kernel_rfl
 c3 := by kernel_rfl
 c4 := by kernel_rfl
 c5 := by kernel_rfl
 c9 := by kernel_rfl
 c20 := by kernel_rfl
 c21 := by kernel_rfl
 c37 := by kernel_rfl
 c46 := by kernel_rfl
 c51 := by kernel_rfl
 c53 := by kernel_rfl
 c75 := by kernel_rfl
 c76 := by kernel_rfl
 c80 := by kernel_rfl
 c85 := by kernel_rfl
 c127 := by kernel_rfl
 c143 := by kernel_rfl
 c145 := by kernel_rfl
 c167 := by kernel_rfl
 c168 := by kernel_rfl
 c171 := by kernel_rfl
 c173 := by kernel_rfl
 c175 := by kernel_rfl
 c210 := by kernel_rfl
 c212 := by kernel_rfl
 c213 := by kernel_rfl
 c232 := by kernel_rfl
 c233 := by kernel_rfl }
open Go.RowKit in
theorem Tryz.strconv_Atoi_ok (s : ByteArray) (hmax : s.size <= 9223372036854775806) (v : Int) (h : Lib.atoiAll s.data.toList = .ok v) (w : World) :
  Calls Tryz.prog 174 #[.string s] w fun e w' => e = .returned (.tuple #[.int .i64 v, .nilIface]) /\ (w' = w ∨ ∃ t, w' = Lib.bytesWorld w 5 t) := Any.strconv_Atoi_ok Tryz.laysC172 s hmax v h w
open Go.RowKit in
theorem Tryz.strconv_Atoi_syntax (s : ByteArray) (hlim : s.size <= 281474976710656) (h : Lib.atoiAll s.data.toList ≠ .range /\ ∀ v, Lib.atoiAll s.data.toList ≠ .ok v) (ev : Value) (w : World) (hv : w.cell? ⟨5, 0, none⟩ = some ev) (hev : ev = .nilIface ∨ ∃ te pe, ev = .iface te pe) :
  Calls Tryz.prog 174 #[.string s] w fun e w' => ∃ N, e = .returned (.tuple #[.int .i64 (0), .iface 277 (.pointer (some ⟨N, 0, none⟩))]) /\ w.heap.size <= N /\ w'.heap[N]? = some (.cells #[.string ⟨#[65, 116, 111, 105]⟩, .string s, ev] 292 (0, 0)) /\ Below w.heap.size w w' := by
 refine Any.strconv_Atoi_syntax Tryz.laysC172 s hlim ?_ ev w hv hev
 rcases hh : Lib.atoiAll s.data.toList with v | _ | _
 ·exact absurd hh (h.2 v)
 ·rfl
 ·exact absurd hh h.1
open Go.RowKit in
theorem Tryz.strconv_Atoi_range (s : ByteArray) (hlim : s.size <= 281474976710656) (h : Lib.atoiAll s.data.toList = .range) (ev : Value) (w : World) (hv : w.cell? ⟨6, 0, none⟩ = some ev) (hev : ev = .nilIface ∨ ∃ te pe, ev = .iface te pe) :
  Calls Tryz.prog 174 #[.string s] w fun e w' => ∃ N, e = .returned (.tuple #[.int .i64 (Lib.atoiSat s.data.toList), .iface 277 (.pointer (some ⟨N, 0, none⟩))]) /\ w.heap.size <= N /\ w'.heap[N]? = some (.cells #[.string ⟨#[65, 116, 111, 105]⟩, .string s, ev] 292 (0, 0)) /\ Below w.heap.size w w' := Any.strconv_Atoi_range Tryz.laysC172 s hlim h ev w hv hev
def Tryz.laysGw17_ren : Go.Shelf.Ren := ⟨fun | 17 => 186 | 15 => 217 | 20 => 245 | n => n, fun | 9 => 9 | 23 => 232 | 4 => 4 | 3 => 3 | 0 => 0 | 21 => 21 | n => n, fun | n => n⟩
theorem Tryz.laysGw17 : Go.Proofs.LaysGw.n17 Tryz.prog Tryz.laysGw17_ren := {
 mixed := by kernel_rfl
 f15 := Tryz.func217.trans (congrArg some (by kernel_rfl))
 f17 := Tryz.func186.trans (congrArg some (by kernel_rfl))
 f20 := Tryz.func245.trans (congrArg some (by kernel_rfl))
 t0 := Tryz.underlying0
 a0 := Tryz.isAgg0
 z0 := Tryz.sizeOf0
 v0 := Tryz.zeroValue0
 i0 := by kernel_rfl
 t3 := Tryz.underlying3
 a3 := Tryz.isAgg3
 z3 := Tryz.sizeOf3
 v3 := Tryz.zeroValue3
 i3 := by kernel_rfl
 t4 := Tryz.underlying4
 a4 := Tryz.isAgg4
 z4 := Tryz.sizeOf4
 v4 := Tryz.zeroValue4
 i4 := by kernel_rfl
 t9 := Tryz.underlying9
 a9 := Tryz.isAgg9
 z9 := Tryz.sizeOf9
 v9 := Tryz.zeroValue9
 i9 := by kernel_rfl
 t21 := Tryz.underlying21
 a21 := Tryz.isAgg21
 z21 := Tryz.sizeOf21
 v21 := Tryz.zeroValue21
 i21 := by kernel_rfl
 t23 := Tryz.underlying232
 a23 := Tryz.isAgg232
 z23 := Tryz.sizeOf232
 v23 := Tryz.zeroValue232
 i23 := by kernel_rfl }
open Go.RowKit Go.Lib in
theorem Tryz.strings_ContainsFunc (g : Nat) (lb : Array Value) (eg : ∀ args w, (callFunc g args).run Tryz.prog w = .ok (.enter g args) w) (p : Nat -> Bool) (s : ByteArray) (w : World) (hp : PredAt Tryz.prog g lb encR p w) :
  Calls Tryz.prog 186 #[.string s, .func (.func g) #[] lb] w fun e w' => e = .returned (.bool (decide (0 <= Lib.idxFunc p true s))) /\ Below w.heap.size w w' := Any.strings_ContainsFunc Tryz.laysGw17 g lb eg p s w hp
def Tryz.lays99_ren : Go.Shelf.Ren := ⟨fun | 99 => 180 | 206 => 212 | n => n, fun | 9 => 9 | 4 => 4 | 3 => 3 | n => n, fun | n => n⟩
theorem Tryz.lays99 : Go.Proofs.Lays.n99 Tryz.prog Tryz.lays99_ren := {
 mixed := by kernel_rfl
 f99 := Tryz.func180.trans (congrArg some (by kernel_rfl))
 f206 := Tryz.func212.trans (congrArg some (by kernel_rfl))
 t3 := Tryz.underlying3
 a3 := Tryz.isAgg3
 z3 := Tryz.sizeOf3
 v3 := Tryz.zeroValue3
 t4 := Tryz.underlying4
 a4 := Tryz.isAgg4
 z4 := Tryz.sizeOf4
 v4 := Tryz.zeroValue4
 t9 := Tryz.underlying9
 a9 := Tryz.isAgg9
 z9 := Tryz.sizeOf9
 v9 := Tryz.zeroValue9 }
open Go.RowKit Go.Lib in
theorem Tryz.strings_HasPrefix (s p : ByteArray) (w : World) :
  Calls Tryz.prog 180 #[.string s, .string p] w fun e w' => e = .returned (.bool (Lib.hasPrefix s.data.toList p.data.toList)) /\ w' = w := Any.strings_HasPrefix Tryz.lays99 s p w
def Tryz.lays146_ren : Go.Shelf.Ren := ⟨fun | 146 => 185 | 221 => 216 | 268 => 242 | 138 => 243 | 143 => 244 | 195 => 263 | 197 => 264 | 218 => 265 | 219 => 266 | 260 => 278 | 217 => 279 | 225 => 280 | 224 => 281 | 267 => 282 | 266 => 289 | 314 => 290 | n => n, fun | 9 => 9 | 31 => 56 | 3 => 3 | 4 => 4 | 0 => 0 | 105 => 294 | 21 => 21 | 5 => 5 | 46 => 177 | 119 => 311 | 139 => 314 | 138 => 313 | 146 => 252 | 51 => 168 | n => n, fun | 1 => 0 | 3 => 7 | 4 => 8 | n => n⟩
theorem Tryz.lays146 : Go.Proofs.Lays.n146 Tryz.prog Tryz.lays146_ren := {
 mixed := by kernel_rfl
 f138 := Tryz.func243.trans (congrArg some (by kernel_rfl))
 f143 := Tryz.func244.trans (congrArg some (by kernel_rfl))
 f146 := Tryz.func185.trans (congrArg some (by kernel_rfl))
 f195 := Tryz.func263.trans (congrArg some (by kernel_rfl))
 f197 := Tryz.func264.trans (congrArg some (by kernel_rfl))
 f217 := Tryz.func279.trans (congrArg some (by kernel_rfl))
 f218 := Tryz.func265.trans (congrArg some (by kernel_rfl))
 f219 := Tryz.func266.trans (congrArg some (by kernel_rfl))
 f221 := Tryz.func216.trans (congrArg some (by kernel_rfl))
 f224 := Tryz.func281.trans (congrArg some (by kernel_rfl))
 f225 := Tryz.func280.trans (congrArg some (by kernel_rfl))
 f260 := Tryz.func278.trans (congrArg some (by kernel_rfl))
 f266 := Tryz.func289.trans (congrArg some (by kernel_rfl))
 f267 := Tryz.func282.trans (congrArg some (by kernel_rfl))
 f268 := Tryz.func242.trans (congrArg some (by kernel_rfl))
 f314 := Tryz.func290.trans (congrArg some (by kernel_rfl))
 t0 := Tryz.underlying0
 a0 := Tryz.isAgg0
 z0 := Tryz.sizeOf0
 v0 := Tryz.zeroValue0
 t3 := Tryz.underlying3
 a3 := Tryz.isAgg3
 z3 := Tryz.sizeOf3
 v3 := Tryz.zeroValue3
 t4 := Tryz.underlying4
 a4 := Tryz.isAgg4
 z4 := Tryz.sizeOf4
 v4 := Tryz.zeroValue4
 t5 := Tryz.underlying5
 a5 := Tryz.isAgg5
 z5 := Tryz.sizeOf5
 v5 := Tryz.zeroValue5
 t9 := Tryz.underlying9
 a9 := Tryz.isAgg9
 z9 := Tryz.sizeOf9
 v9 := Tryz.zeroValue9
 t21 := Tryz.underlying21
 a21 := Tryz.isAgg21
 z21 := Tryz.sizeOf21
 v21 := Tryz.zeroValue21
 t31 := Tryz.underlying56
 a31 := Tryz.isAgg56
 z31 := Tryz.sizeOf56
 v31 := Tryz.zeroValue56
 t46 := Tryz.underlying177
 a46 := Tryz.isAgg177
 z46 := Tryz.sizeOf177
 v46 := Tryz.zeroValue177
 t51 := Tryz.underlying168
 a51 := Tryz.isAgg168
 z51 := Tryz.sizeOf168
 v51 := Tryz.zeroValue168
 t105 := Tryz.underlying294
 a105 := Tryz.isAgg294
 z105 := Tryz.sizeOf294
 v105 := Tryz.zeroValue294
 t119 := Tryz.underlying311
 a119 := Tryz.isAgg311
 z119 := Tryz.sizeOf311
 t138 := Tryz.underlying313
 a138 := Tryz.isAgg313
 z138 := Tryz.sizeOf313
 v138 := Tryz.zeroValue313
 t139 := Tryz.underlying314
 a139 := Tryz.isAgg314
 z139 := Tryz.sizeOf314
 v139 := Tryz.zeroValue314
 t146 := Tryz.underlying252
 a146 := Tryz.isAgg252
 z146 := Tryz.sizeOf252
 v146 := Tryz.zeroValue252
 g1 := by kernel_rfl
 g3 := by kernel_rfl
 g4 := by kernel_rfl }
open Go.RowKit Go.Lib in
theorem Tryz.strings_Split (s sep : ByteArray) (m : Int) (w : World) (hs : s.size < 4294967281) (hm : w.cell? ⟨0, 0, none⟩ = some (.int .i64 m)) (h1 : 1 <= sep.size) :
  Calls Tryz.prog 185 #[.string s, .string sep] w fun e w' =>
   e = .returned (.slice (some ⟨w.heap.size, 0, none⟩) (Lib.countB s sep + 1) (Lib.countB s sep + 1)) /\ w' = w.alloc (.cells ((Lib.splitB sep 0 (Lib.countB s sep) s).map Value.string).toArray 9) := Any.strings_Split Tryz.lays146 (by kernel_rfl) s sep m w hs hm h1
end Go.Proofs

end

section

namespace Go.Proofs.YtdkkkeoicekdgaaGreatDoor.Lc
open Go.Lib
def sgnN (n : Nat) : Bool := (decide (97 <= n) && decide (n <= 122)) || (decide (65 <= n) && decide (n <= 90)) || (decide (48 <= n) && decide (n <= 57))
def sgn (c : UInt8) : Bool := sgnN c.toNat
def prtB : Bool -> List UInt8 -> Bool
 | b, [] => b
 | b, c :: r => if c = 45 then b && prtB false r else sgn c && prtB true r
def locB (l : List UInt8) : Bool := decide (l.length <= 32) && prtB false l
def z3m (l : List UInt8) : Bool := !l.isEmpty && l.all sgn
theorem z3l : ∀ (b : Bool) (l : List UInt8), (45 : UInt8) ∉ l -> prtB b l = (l.all sgn && (b || !l.isEmpty))
 | b, [], _ => by cases b <;> rfl
 | b, c :: r, h => by
  have hc : c ≠ 45 := fun e => h (by simp [e])
  rw [prtB, if_neg hc, z3l true r (fun e => h (by simp [e]))]
  simp
theorem zdh : ∀ (b : Bool) (l r : List UInt8), (45 : UInt8) ∉ l -> prtB b (l ++ 45 :: r) = (prtB b l && prtB false r)
 | b, [], r, _ => by simp [prtB]
 | b, c :: l, r, h => by
  have hc : c ≠ 45 := fun e => h (by simp [e])
  rw [List.cons_append, prtB, if_neg hc, prtB, if_neg hc, zdh true l r (fun e => h (by simp [e])), Bool.and_assoc]
theorem z7w (s : List UInt8) : (index s [45] = -1 /\ (45 : UInt8) ∉ s) ∨ ∃ i : Nat, index s [45] = i /\ i < s.length /\ (45 : UInt8) ∉ s.take i /\ s = s.take i ++ 45 :: s.drop (i + 1) := by
 induction s with
 | nil => exact .inl ⟨by simp [index], by simp⟩
 | cons c r ih =>
  by_cases hc : c = 45
  ·subst hc
   exact .inr ⟨0, by rw [index]; simp [List.isPrefixOf], by simp, by simp, by simp⟩
  ·have hp : ([45] : List UInt8).isPrefixOf (c :: r) = false := by simp [List.isPrefixOf, Ne.symm hc]
   have a : index (c :: r) [45] = if index r [45] == -1 then -1 else index r [45] + 1 := by rw [index, hp]; simp
   rcases ih with ⟨h1, h2⟩ | ⟨i, h1, h2, h3, h4⟩
   ·exact .inl ⟨by rw [a, h1]; rfl, by simp [h2, Ne.symm hc]⟩
   ·refine .inr ⟨i + 1, by rw [a, if_neg (by simp; omega), h1]; rfl, by simp; omega, by simp [h3, Ne.symm hc], ?_⟩
    simpa using h4
theorem z6y : ∀ (k : Nat) (s : List UInt8), s.count 45 <= k -> (splitK [45] 0 k s).all z3m = prtB false s
 | 0, s, h => by
  have hn : (45 : UInt8) ∉ s := fun e => by have := List.count_pos_iff.2 e; omega
  rw [z3l _ _ hn]; simp [splitK, z3m, Bool.and_comm]
 | k + 1, s, h => by
  rcases z7w s with ⟨h1, h2⟩ | ⟨i, h1, h2, h3, h4⟩
  ·have e : splitK [45] 0 (k + 1) s = [s] := by rw [splitK, h1]; rfl
   rw [e]
   rw [z3l _ _ h2]; simp [z3m, Bool.and_comm]
  ·rw [splitK, h1, if_neg (by simp)]
   have hc : (s.drop (i + 1)).count 45 <= k := by
    have e := congrArg (List.count 45) h4;rw [List.count_append, List.count_cons_self, List.count_eq_zero.2 h3] at e
    omega
   have ih := z6y k (s.drop (i + 1)) hc;rw [List.all_cons];simp only [Int.toNat_natCast, List.length_cons, List.length_nil, Nat.add_zero];rw [ih]
   conv => rhs; rw [h4]
   rw [zdh _ _ _ h3, z3l _ _ h3]
   simp [z3m, Bool.and_comm]
theorem za3 (s : ByteArray) : (splitB ⟨#[45]⟩ 0 (countB s ⟨#[45]⟩) s).all (fun p => z3m p.data.toList) = prtB false s.data.toList := by
 have h1 : (splitB ⟨#[45]⟩ 0 (countB s ⟨#[45]⟩) s).all (fun p => z3m p.data.toList) = ((splitB ⟨#[45]⟩ 0 (countB s ⟨#[45]⟩) s).map (·.data.toList)).all z3m := by rw [List.all_map]; rfl
 rw [h1, splitB_data]
 exact z6y _ _ (by
  have : countB s ⟨#[45]⟩ = s.data.toList.count 45 := count_one 45 s.data.toList
  omega)
def okAt (l : List UInt8) (i : Nat) : Bool := match l[i]? with
 | some c => sgn c || (decide (c = 45) && decide (i ≠ 0) && decide (i + 1 ≠ l.length) && decide (l[i - 1]? ≠ some 45))
 | none => true
def okR : Option UInt8 -> List UInt8 -> Bool
 | _, [] => true
 | p, c :: r => (sgn c || (decide (c = 45) && decide (p ≠ none) && decide (p ≠ some 45) && !r.isEmpty)) && okR (some c) r
theorem z95 : ∀ (r : List UInt8) (p : Option UInt8) (b : Bool), b = (decide (p ≠ none) && decide (p ≠ some 45)) -> prtB b r = (okR p r && (b || !r.isEmpty))
 | [], p, b, _ => by cases b <;> rfl
 | c :: r, p, b, hb => by
  by_cases hc : c = 45
  ·subst hc
   rw [prtB, if_pos rfl, z95 r (some 45) false rfl, okR, hb];have : sgn 45 = false := rfl;rw [this]
   cases decide (p ≠ none) <;> cases decide (p ≠ some 45) <;> simp [Bool.and_comm]
  ·rw [prtB, if_neg hc, z95 r (some c) true (by simp [hc]), okR]
   simp [hc]
theorem zcd (l : List UInt8) : ∀ (r : List UInt8) (k : Nat), l.drop k = r -> ((∀ i, k <= i -> i < l.length -> okAt l i = true) ↔ okR (if k = 0 then none else l[k - 1]?) r = true)
 | [], k, h => by
  have := List.drop_eq_nil_iff.1 h;exact ⟨fun _ => rfl, fun _ i h1 h2 => by omega⟩
 | c :: r, k, h => by
  have hk : k < l.length := Nat.lt_of_not_le (fun e => by rw [List.drop_eq_nil_of_le e] at h; cases h)
  have hc : l[k]? = some c := by
   have e := congrArg (·[0]?) h
   simpa [List.getElem?_drop] using e
  have hr : l.drop (k + 1) = r := by
   have e := congrArg (List.drop 1) h
   simpa [List.drop_drop, Nat.add_comm] using e
  have hl : r.isEmpty = decide (k + 1 = l.length) := by
   rw [<- hr];have e : (l.drop (k + 1)).length = l.length - (k + 1) := List.length_drop
   cases h3 : l.drop (k + 1) with
   | nil => rw [h3] at e; simp at e; simp; omega
   | cons x y => rw [h3] at e; simp at e; simp; omega
  have ih := zcd l r (k + 1) hr;rw [if_neg (by omega), Nat.add_sub_cancel, hc] at ih
  have hA : okAt l k = (sgn c || (decide (c = 45) && decide ((if k = 0 then none else l[k - 1]?) ≠ none) && decide ((if k = 0 then none else l[k - 1]?) ≠ some 45) && !r.isEmpty)) := by
   unfold okAt; rw [hc, hl]
   by_cases h0 : k = 0
   ·subst h0; simp
   ·have : ∃ d, l[k - 1]? = some d := ⟨_, List.getElem?_eq_getElem (by omega)⟩
    obtain ⟨d, hd⟩ := this;simp only [if_neg h0, hd]
    by_cases h1 : c = 45 <;> by_cases h2 : d = 45 <;> by_cases h3 : k + 1 = l.length <;> simp [h0, h1, h2, h3]
  rw [okR, <- hA, Bool.and_eq_true, <- ih]
  exact ⟨fun H => ⟨H k (Nat.le_refl _) hk, fun i h1 h2 => H i (by omega) h2⟩, fun H i h1 h2 => by
   rcases Nat.eq_or_lt_of_le h1 with rfl | h3
   ·exact H.1
   ·exact H.2 i (by omega) h2⟩
theorem loc_yes (l : List UInt8) (h1 : 1 <= l.length) (h2 : l.length <= 32) (h : ∀ i, i < l.length -> okAt l i = true) : locB l = true := by
 have e := (zcd l l 0 rfl).1 (fun i _ hi => h i hi);rw [if_pos rfl] at e
 have hl : l.isEmpty = false := by cases l with
  | nil => simp at h1
  | cons _ _ => rfl
 rw [locB, z95 l none false rfl, e, hl]; simp [h2]
theorem z8b (l : List UInt8) (h : l.length < 1 ∨ 32 < l.length ∨ ∃ i, i < l.length /\ okAt l i = false) : locB l = false := by
 rcases h with h | h | ⟨i, hi, h⟩
 ·have : l = [] := List.eq_nil_of_length_eq_zero (by omega)
  subst this; rfl
 ·rw [locB, decide_eq_false (by omega)]; rfl
 ·have e : okR none l ≠ true := fun e => by
   have := (zcd l l 0 rfl).2 (by rw [if_pos rfl]; exact e) i (Nat.zero_le _) hi
   rw [h] at this; cases this
  rw [locB, z95 l none false rfl, Bool.eq_false_iff.2 e]; simp
theorem z8s : sgn 45 = false := rfl

theorem zep (s : ByteArray) (i : Nat) (h : (s.get! i).toNat < 128) : Utf8.decode s i = ((s.get! i).toNat, 1) := by
 rw [decode_at]; unfold decodeN; rw [if_pos h]
theorem decN_hi (n b0 b1 b2 b3 : Nat) (h : 128 <= b0) : 128 <= (decodeN n b0 b1 b2 b3).1 := by
 unfold decodeN
 rw [if_neg (by omega)]
 repeat' split
 all_goals (first | (simp only; omega) | decide)
theorem dec_hi (s : ByteArray) (i : Nat) (h : 128 <= (s.get! i).toNat) : 128 <= (Utf8.decode s i).1 := by
 rw [decode_at]; exact decN_hi _ _ _ _ _ h
theorem zg8 (n : Nat) (h : 128 <= n) : sgnN n = false := by
 simp [sgnN]; omega
theorem ze9 (s : ByteArray) (i : Nat) (h : i < s.data.toList.length) : s.get! i = s.data.toList[i] := by
 have h2 : i < s.data.size := by simpa using h
 show s.data[i]! = _
 rw [getElem!_pos s.data i h2, Array.getElem_toList]
theorem zhk (s : ByteArray) : ∀ (f pos : Nat), s.size <= pos + f -> (0 <= idxFuncFrom (fun n => !sgnN n) true s f pos ↔ (s.data.toList.drop pos).all sgn = false)
 | 0, pos, h => by
  have hl : s.data.toList.length <= pos := by rw [Array.length_toList]; exact h
  rw [List.drop_eq_nil_of_le hl, idxFuncFrom]; simp
 | f + 1, pos, h => by
  rw [idxFuncFrom]
  by_cases hp : pos < s.size
  ·have hl : pos < s.data.toList.length := by rw [Array.length_toList]; exact hp
   have hg := ze9 s pos hl;rw [if_pos hp, List.drop_eq_getElem_cons hl, List.all_cons, <- hg]
   cases hs : sgn (s.get! pos) with
   | true =>
    have a : (s.get! pos).toNat < 128 := Nat.lt_of_not_le (fun e => by
     have := zg8 _ e;have h2 : sgnN (s.get! pos).toNat = true := hs
     rw [this] at h2; cases h2)
    rw [zep s pos a];have h2 : sgnN (s.get! pos).toNat = true := hs;simp only [h2, Bool.not_true, Bool.false_eq_true, if_false, Bool.true_and];exact zhk s f (pos + 1) (by omega)
   | false =>
    have h2 : sgnN (Utf8.decode s pos).1 = false := by
     by_cases a : (s.get! pos).toNat < 128
     ·rw [zep s pos a]; exact hs
     ·exact zg8 _ (dec_hi s pos (by omega))
    simp only [h2, Bool.not_false, if_true, Bool.false_and]
    simp
  ·have hl : s.data.toList.length <= pos := by rw [Array.length_toList]; exact Nat.le_of_not_lt hp
   rw [if_neg hp, List.drop_eq_nil_of_le hl]; simp
theorem zbb (s : ByteArray) : decide (0 <= idxFunc (fun n => !sgnN n) true s) = !(s.data.toList.all sgn) := by
 have h := zhk s s.size 0 (by omega);rw [List.drop_zero] at h
 unfold idxFunc
 cases hs : s.data.toList.all sgn with
 | true => rw [hs] at h; exact decide_eq_false (fun e => by cases h.1 e)
 | false => exact decide_eq_true (h.2 hs)
end Go.Proofs.YtdkkkeoicekdgaaGreatDoor.Lc

end

section

namespace Go.Proofs.YtdkkkeoicekdgaaGreatDoor.Lc
open Go.RowKit
theorem z3t (s : ByteArray) : s.data.toList.length = s.size := Array.length_toList
theorem ba_ext {a b : ByteArray} (h : a.data.toList = b.data.toList) : a = b := by
 cases a; cases b; congr 1; exact Array.toList_inj.1 h
theorem z01 {a b : Bool} (h : a = b) : Ending.returned (.bool a) = .returned (.bool b) := by rw [h]
theorem z03 (w : World) (o : Obj) : Below w.heap.size w (w.alloc o) := (Below.refl _ w).alloc (Nat.le_refl _) o
theorem z00 {w w1 w2 : World} (h1 : Below w.heap.size w w1) (h2 : Below w1.heap.size w1 w2) : Below w.heap.size w w2 := h1.trans (h2.mono h1.size)
def Reads (w : World) (a : Option Addr) (cap : Nat) (xs : List ByteArray) : Prop :=
 xs.length <= cap /\ (xs ≠ [] -> ∃ g, a = some ⟨g, 0, none⟩ /\ g < w.heap.size /\ ∀ j (h : j < xs.length), w.cell? ⟨g, j, none⟩ = some (.string xs[j]))
theorem Reads.below {w w' : World} {a : Option Addr} {cap : Nat} {xs : List ByteArray} (h : Reads w a cap xs) (hb : Below w.heap.size w w') : Reads w' a cap xs :=
 ⟨h.1, fun hx => by
  obtain ⟨g, ha, hg, hc⟩ := h.2 hx
  exact ⟨g, ha, Nat.lt_of_lt_of_le hg hb.size, fun j hj => (hb.cell (p := ⟨g, j, none⟩) hg).trans (hc j hj)⟩⟩
abbrev strs (xs : List ByteArray) : List Value := xs.map Value.string
theorem zge (w : World) (xs : List ByteArray) (t : TypeId) : Reads (w.alloc (.cells (strs xs).toArray t)) (some ⟨w.heap.size, 0, none⟩) xs.length xs :=
 ⟨Nat.le_refl _, fun _ => ⟨w.heap.size, rfl, by simp, fun j hj => by
  have hh : (w.alloc (.cells (strs xs).toArray t)).heap[w.heap.size]? = some (.cells (strs xs).toArray t (0, 0)) := by
   show (w.heap.push _)[w.heap.size]? = _
   simp
  simp only [World.cell?, hh]
  simp [hj]⟩⟩
def MaxW (m : Int) (w : World) : Prop := w.cell? ⟨0, 0, none⟩ = some (.int .i64 m)
theorem MaxW.below {m : Int} {w w' : World} (h : MaxW m w) (h0 : 0 < w.heap.size) (hb : Below w.heap.size w w') : MaxW m w' := (hb.cell (p := ⟨0, 0, none⟩) h0).trans h
theorem MaxW.pos {m : Int} {w : World} (h : MaxW m w) : 0 < w.heap.size := by
 unfold MaxW at h
 by_cases h0 : w.heap.size = 0
 ·have : w.heap[0]? = none := Array.getElem?_eq_none (by omega)
  simp only [World.cell?, this] at h; cases h
 ·omega
theorem MaxW.next {m : Int} {w w' : World} (h : MaxW m w) (hb : Below w.heap.size w w') : MaxW m w' := h.below h.pos hb
end Go.Proofs.YtdkkkeoicekdgaaGreatDoor.Lc

end

section

namespace Go.Proofs.YtdkkkeoicekdgaaGreatDoor.Co
open Go.RowKit
structure Fr (X : Nat -> Prop) (w w' : World) : Prop where
 os : w'.os = w.os
 tape : w'.tape = w.tape
 output : w'.output = w.output
 size : w.heap.size <= w'.heap.size
 block : ∀ k, k < w.heap.size -> ¬ X k -> w'.heap[k]? = w.heap[k]?
section
variable {X Y : Nat -> Prop} {a w w' : World}
theorem Fr.refl (X : Nat -> Prop) (w : World) : Fr X w w := ⟨rfl, rfl, rfl, Nat.le_refl _, fun _ _ _ => rfl⟩
theorem Fr.trans (h : Fr X a w) (k : Fr X w w') : Fr X a w' :=
 ⟨k.os.trans h.os, k.tape.trans h.tape, k.output.trans h.output, Nat.le_trans h.size k.size, fun i hi hx => (k.block i (Nat.lt_of_lt_of_le hi h.size) hx).trans (h.block i hi hx)⟩
theorem Fr.alloc (h : Fr X a w) (o : Obj) : Fr X a (w.alloc o) :=
 h.trans ⟨rfl, rfl, rfl, by simp, fun k hk _ => Below.heap_alloc _ _ _ hk⟩
theorem Fr.setCell (h : Fr X a w) {p : Addr} (hp : a.heap.size <= p.block ∨ X p.block) (u : Value) : Fr X a (w.setCell p u) :=
 ⟨h.os, h.tape, h.output, by simpa [World.setCell] using h.size, fun k hk hx => (Below.heap_setCell _ _ _ _ (fun e => by subst e; rcases hp with hp | hp; omega; exact hx hp)).trans (h.block k hk hx)⟩
theorem Fr.of_below (hb : Below w.heap.size w w') : Fr X w w' := ⟨hb.os, hb.tape, hb.output, hb.size, fun k hk _ => hb.block k hk⟩
end
abbrev listV (L : Value) : Value := .agg #[.int .i64 3, .int .i64 0, .string ⟨#[]⟩, L]
mutual
def Rep (w : World) (S : Nat -> Prop) : Tree -> Value -> Prop
 | .num n, v => v = numV n
 | .text bs, v => v = textV ⟨bs.toArray⟩
 | .list ts, v => ∃ L xs, v = listV L /\ w.ownsRow 0 88 4 L ts.length xs /\ (∀ g, L.ownBlock = some g -> S g) /\ z0i w S ts xs
def z0i (w : World) (S : Nat -> Prop) : List Tree -> List Value -> Prop
 | [], xs => xs = []
 | t :: ts, xs => ∃ c0 c1 c2 c3 rest, xs = c0 :: c1 :: c2 :: c3 :: rest /\ Rep w S t (.agg #[c0, c1, c2, c3]) /\ z0i w S ts rest
end
theorem z0d {w w' : World} {base : Nat} {e : TypeId} {size : Nat} {v : Value} {n : Nat} {xs : List Value} (h : w.ownsRow base e size v n xs) (hk : ∀ g, v.ownBlock = some g -> w'.heap[g]? = w.heap[g]?) : w'.ownsRow base e size v n xs := by
 refine ⟨h.1, ?_⟩
 rcases h.2 with h0 | ⟨g, cap, cur, hv, hb, hh, hr⟩
 ·exact .inl h0
 ·exact .inr ⟨g, cap, cur, hv, hb, (hk g (by rw [hv]; rfl)).trans hh, hr⟩
mutual
theorem Rep.keep {w w' : World} {S S' : Nat -> Prop} (hk : ∀ g, S g -> w'.heap[g]? = w.heap[g]?) (hS : ∀ g, S g -> S' g) : ∀ (t : Tree) (v : Value), Rep w S t v -> Rep w' S' t v
 | .num n, v, h => by rw [Rep] at h ⊢; exact h
 | .text bs, v, h => by rw [Rep] at h ⊢; exact h
 | .list ts, v, h => by
  rw [Rep] at h ⊢;obtain ⟨L, xs, hv, ho, hg, hr⟩ := h;exact ⟨L, xs, hv, z0d ho (fun g e => hk g (hg g e)), fun g e => hS g (hg g e), z0i.keep hk hS ts xs hr⟩
theorem z0i.keep {w w' : World} {S S' : Nat -> Prop} (hk : ∀ g, S g -> w'.heap[g]? = w.heap[g]?) (hS : ∀ g, S g -> S' g) : ∀ (ts : List Tree) (xs : List Value), z0i w S ts xs -> z0i w' S' ts xs
 | [], xs, h => by rw [z0i] at h ⊢; exact h
 | t :: ts, xs, h => by
  rw [z0i] at h ⊢;obtain ⟨c0, c1, c2, c3, a, hx, ht, hr⟩ := h;exact ⟨c0, c1, c2, c3, a, hx, Rep.keep hk hS t _ ht, z0i.keep hk hS ts a hr⟩
end
theorem z0i.snoc {w : World} {S : Nat -> Prop} {t : Tree} {c0 c1 c2 c3 : Value} (ht : Rep w S t (.agg #[c0, c1, c2, c3])) : ∀ (ts : List Tree) (xs : List Value), z0i w S ts xs -> z0i w S (ts ++ [t]) (xs ++ [c0, c1, c2, c3])
 | [], xs, h => by
  rw [z0i] at h; subst h
  show z0i w S [t] [c0, c1, c2, c3]
  rw [z0i];exact ⟨c0, c1, c2, c3, [], rfl, ht, by rw [z0i]⟩
 | u :: ts, xs, h => by
  rw [z0i] at h;obtain ⟨d0, d1, d2, d3, a, rfl, hu, hr⟩ := h
  show z0i w S (u :: (ts ++ [t])) _
  rw [z0i];exact ⟨d0, d1, d2, d3, a ++ [c0, c1, c2, c3], rfl, hu, z0i.snoc ht ts a hr⟩
theorem Rep.cells {w : World} {S : Nat -> Prop} : ∀ (t : Tree) (v : Value), Rep w S t v -> ∃ (kd n : Int) (b : ByteArray) (a : Option Addr) (len cap : Nat), v = .agg #[.int .i64 kd, .int .i64 n, .string b, .slice a len cap]
 | .num n, v, h => by rw [Rep] at h; subst h; exact ⟨_, _, _, _, _, _, rfl⟩
 | .text bs, v, h => by rw [Rep] at h; subst h; exact ⟨_, _, _, _, _, _, rfl⟩
 | .list ts, v, h => by
  rw [Rep] at h;obtain ⟨L, xs, rfl, ho, -, -⟩ := h
  rcases ho.2 with ⟨rfl, -⟩ | ⟨g, cap, cur, rfl, -⟩ <;> exact ⟨_, _, _, _, _, _, rfl⟩
structure But (h : Nat) (w w' : World) : Prop where
 os : w'.os = w.os
 tape : w'.tape = w.tape
 output : w'.output = w.output
 size : w'.heap.size = w.heap.size
 block : ∀ k, k ≠ h -> w'.heap[k]? = w.heap[k]?
theorem But.refl (h : Nat) (w : World) : But h w w := ⟨rfl, rfl, rfl, rfl, fun _ _ => rfl⟩
theorem But.set {h : Nat} {w w' : World} (hb : But h w w') (i : Nat) (u : Value) : But h w (w'.setCell ⟨h, i, none⟩ u) :=
 ⟨hb.os, hb.tape, hb.output, by simpa [World.setCell] using hb.size, fun k hk => (Below.heap_setCell _ _ _ _ hk).trans (hb.block k hk)⟩
theorem But.put4 (h : Nat) (w : World) (a b c d : Value) : But h w ((((w.setCell ⟨h, 0, none⟩ a).setCell ⟨h, 1, none⟩ b).setCell ⟨h, 2, none⟩ c).setCell ⟨h, 3, none⟩ d) :=
 ((((But.refl h w).set 0 a).set 1 b).set 2 c).set 3 d
theorem z2j {w : World} {h : Nat} {cs : Array Value} {t : TypeId} (hb : w.heap[h]? = some (.cells cs t (0, 0))) (i : Nat) (u : Value) : (w.setCell ⟨h, i, none⟩ u).heap[h]? = some (.cells (cs.setIfInBounds i u) t (0, 0)) := by
 simp [World.setCell, Array.getElem?_modify, hb]
theorem zhl {w : World} {h : Nat} {x0 x1 x2 x3 : Value} {t : TypeId} (hb : w.heap[h]? = some (.cells #[x0, x1, x2, x3] t (0, 0))) (a b c d : Value) :
  ((((w.setCell ⟨h, 0, none⟩ a).setCell ⟨h, 1, none⟩ b).setCell ⟨h, 2, none⟩ c).setCell ⟨h, 3, none⟩ d).heap[h]? = some (.cells #[a, b, c, d] t (0, 0)) :=
 z2j (z2j (z2j (z2j hb 0 a) 1 b) 2 c) 3 d
end Go.Proofs.YtdkkkeoicekdgaaGreatDoor.Co

end

section

namespace Go.Proofs.YtdkkkeoicekdgaaGreatDoor.Co
set_option maxHeartbeats 1000000
set_option maxRecDepth 100000
open Go.Lib (hid)
open Go.RowKit
theorem zhh : (Tryz.prog.info? 117).map (·.size) = some 2 := by kernel_rfl
theorem liesBld : liesAt Tryz.prog Tryz.prog.depth 117 (2 / Tryz.prog.cellsOf 117) 0 117 1 = true := by kernel_rfl
theorem infoByte : (Tryz.prog.info? 5).map (fun i => (i.zero, i.size, i.bytes)) = some (some (.int .u8 0), 1, 1) := by kernel_rfl
theorem z7x (b : Nat) (w : World) (h0 : w.cell? ⟨b, 0, none⟩ = some (.pointer (some ⟨b, 0, none⟩))) :
  Calls Tryz.prog 125 #[.pointer (some ⟨b, 0, none⟩)] w fun e w' => e = .returned (.tuple #[]) /\ w' = w := by
 obtain ⟨j, hj, _⟩ := Option.map_eq_some_iff.1 zhh
 go_enter Tryz.func125, Tryz.ntmps125
 go_wp2;rw [Lib.run_neq_ptr_same w _ Tryz.underlying114 hj];go_wp2
 go_end0
 exact ⟨rfl, rfl⟩
theorem z7l (b : Nat) (w : World) (h0 : w.cell? ⟨b, 0, none⟩ = some (.pointer none)) (hsh : w.shape? b = some (117, 2)) (hfz : w.frozen? ⟨b, 0, none⟩ = false) :
  Calls Tryz.prog 125 #[.pointer (some ⟨b, 0, none⟩)] w fun e w' => e = .returned (.tuple #[]) /\ w' = w.setCell ⟨b, 0, none⟩ (.pointer (some ⟨b, 0, none⟩)) := by
 obtain ⟨j, hj, a⟩ := Option.map_eq_some_iff.1 zhh
 go_enter Tryz.func125, Tryz.ntmps125
 go_wp2;rw [Lib.run_to_unsafe w ⟨b, 0, none⟩ Tryz.underlying114 Tryz.underlying202 hj (by rw [a]; decide) hsh (Nat.zero_lt_succ 1)];simp only [Result.andThen];rw [Oper.upon_value];go_wp2;rw [run_callFunc_extern Tryz.func160 (by kernel_rfl) (by kernel_rfl) (by kernel_rfl) (e := Extern.AbiNoEscape.same) (by kernel_rfl)];rw [Lib.run_noEscape];simp only [Result.andThen];rw [Oper.upon_value];go_wp2;rw [Lib.run_from_unsafe w ⟨b, 0, none⟩ Tryz.underlying202 Tryz.underlying114 hj hsh liesBld];simp only [Result.andThen];rw [Oper.upon_value];go_wp2
 go_end0
 exact ⟨rfl, rfl⟩
theorem z9l (B b : Nat) (bs : List Value) (w : World) (h : Lib.IsBuilderF 117 5 B b bs w) :
  Calls Tryz.prog 125 #[.pointer (some ⟨b, 0, none⟩)] w fun e w' => e = .returned (.tuple #[]) /\ (Lib.BuilderAtF 117 5 B b (.pointer (some ⟨b, 0, none⟩)) bs w' /\ Below B w w' /\ Lib.OthersKept 5 (some b) w w') := by
 rcases h with h | h
 ·refine (z7l b w h.cell0 h.shape h.frozen0).mono ?_
  rintro e w' ⟨rfl, rfl⟩;exact ⟨rfl, h.used _, (Below.refl B w).setCell (p := ⟨b, 0, none⟩) h.1 _, (Lib.OthersKept.refl _ _ w).setCell ⟨b, 0, none⟩ rfl _⟩
 ·refine (z7x b w h.cell0).mono ?_
  rintro e w' ⟨rfl, rfl⟩;exact ⟨rfl, h, Below.refl B _, Lib.OthersKept.refl _ _ _⟩
theorem z6u (B b : Nat) (bs : List Value) (s : ByteArray) (w : World) (h : Lib.IsBuilderF 117 5 B b bs w) (hlen : bs.length + s.size <= 140737488355328) (hBw : B <= w.heap.size) :
  Calls Tryz.prog 72 #[.pointer (some ⟨b, 0, none⟩), .string s] w fun e w' => e = .returned (.tuple #[.int .i64 s.size, .nilIface]) /\ (Lib.BuilderAtF 117 5 B b (.pointer (some ⟨b, 0, none⟩)) (bs ++ Lib.strCells s) w' /\ Below B w w' /\ Lib.OthersKept 5 (some b) w w') := by
 obtain ⟨i0, hi, i, j, l⟩ := info_parts infoByte;have HC := hid (z9l B b bs w h);clear h
 go_enter Tryz.func72, Tryz.ntmps72
 go_wp2_with fail
 refine HC.out.mono ?_;rintro e w1 ⟨rfl, h1, f, m⟩;obtain ⟨hB, v, a, c, n⟩ := h1
 have c0 : w1.cell? ⟨b, 0, none⟩ = some (.pointer (some ⟨b, 0, none⟩)) := by rw [Lib.cell_of_heap a]; rfl
 have c1 : w1.cell? ⟨b, 1, none⟩ = some v := by rw [Lib.cell_of_heap a]; rfl
 have HK := hid a;have HO := hid c;clear a c
 go_wp2_with (at_builtin; refine Lib.wpList_append_own_stringF _ rfl _ _ 115 9 rfl B 5 i0 Tryz.underlying115 Tryz.underlying9 hi i j l _ _ _ rfl HO.out s rfl ?c3 ?c4 ?c5 ?_)
 case c3 => unfold maxLen; omega
 case c4 => omega
 case c5 => have := f.size; omega
 intro v' w2 hown' hgrow _;have a := HK.out;have c := HO.out
 have o : b < w1.heap.size := by
  rcases Nat.lt_or_ge b w1.heap.size with h' | h'
  ·exact h'
  ·simp [Array.getElem?_eq_none h'] at a
 have d : w2.heap[b]? = some (.cells #[.pointer (some ⟨b, 0, none⟩), v] 117 (0, 0)) := by
  rw [hgrow.block b o (fun e => n e.symm)];exact a
 have d0 : w2.cell? ⟨b, 0, none⟩ = some (.pointer (some ⟨b, 0, none⟩)) := by rw [Lib.cell_of_heap d]; rfl
 have d1 : w2.cell? ⟨b, 1, none⟩ = some v := by rw [Lib.cell_of_heap d]; rfl
 have f1 : w2.frozen? ⟨b, 1, none⟩ = false := Lib.frozen_of_heap d 1
 obtain ⟨ao, n', cap, rfl⟩ : ∃ ao n' cap, v' = .slice ao n' cap := by
  rcases hown'.2 with ⟨hv, _⟩ | ⟨g, cap, cur, fz, hv, _⟩
  ·exact ⟨_, _, _, hv⟩
  ·exact ⟨_, _, _, hv⟩
 have q := hid d;have r := hid hown';clear d hown' a c;go_wp2
 go_ret2
 refine ⟨rfl, ?_, ?_, (m.grown hgrow (Lib.ownsRowF_kind HO.out)).setCell ⟨b, 1, none⟩ rfl _⟩
 ·exact Lib.BuilderAtF.put (T := 117) (e := 5) hB q.out (bs' := bs ++ Lib.strCells s) (by simpa [Lib.strCells_length] using r.out) (by decide)
 ·exact (f.grown hgrow (by have := f.size; omega) (fun k hk => (HO.out.lt k hk).1)).setCell (p := ⟨b, 1, none⟩) hB _
end Go.Proofs.YtdkkkeoicekdgaaGreatDoor.Co

end

section

namespace Go.Proofs.YtdkkkeoicekdgaaGreatDoor.Co
open Go.RowKit
abbrev Holds (B b : Nat) (l : List UInt8) (w : World) : Prop := Lib.IsBuilderF 117 5 B b (Lib.byteCells l) w
theorem Holds.ne {B b k : Nat} {l : List UInt8} {w : World} (h : Holds B b l w) {cs : Array Value} {t : TypeId} {fz : Nat × Nat} (hk : w.heap[k]? = some (.cells cs t fz)) (ht : t ≠ 117) : k ≠ b := by
 rintro rfl
 rcases h with ⟨_, v, hb, _⟩ | ⟨_, v, hb, _⟩ <;> rw [hk] at hb <;> injection hb with hb <;> injection hb with _ hb <;> exact ht hb
theorem za8 {w : World} {k : Nat} {v : Value} {t : TypeId} (h : w.heap[k]? = some (.cells #[v] t (0, 0))) : ∀ j : Nat, (w.setCell ⟨k, 0, none⟩ v).heap[j]? = w.heap[j]? := by
 intro j
 by_cases hj : j = k
 ·subst hj; rw [z2j h 0 v, h]; rfl
 ·exact Below.heap_setCell _ _ _ _ hj
theorem zak {w w' : World} {b : Option Nat} (h : Lib.OthersKept 5 b w w') {k : Nat} {cs : Array Value} {t : TypeId} {fz : Nat × Nat} (hk : w.heap[k]? = some (.cells cs t fz)) (hb : some k ≠ b) (ht : t ≠ 5) : w'.heap[k]? = some (.cells cs t fz) :=
 h k _ hk hb (fun c f e => by injection e with _ e; exact ht e)
end Go.Proofs.YtdkkkeoicekdgaaGreatDoor.Co

end
