import Derived.Shelf.Strings.Builder1
import Derived.Shelf.Strings.BuilderF
import Derived.Shelf.Strings.BuilderK
import Derived.Shelf.Strconv.Itoa0
import Derived.Shelf.Strconv.Itoa1
import Derived.Shelf.LaysM
import Derived.Shelf.Strconv.Itoa2
import Derived.Shelf.Strconv.Itoa3
import Derived.Shelf.Unicode.ValidAny
import Derived.Test.YtjkpbpgeedihhaaGreatDoorProg
set_option linter.all false
namespace Go.Proofs
open Go.Shelf
def Tryz.lays169_ren : Go.Shelf.Ren := ⟨fun | 169 => 209 | n => n, fun | 70 => 321 | 9 => 9 | 0 => 0 | 72 => 323 | 37 => 217 | 127 => 419 | 3 => 3 | 5 => 5 | n => n, fun | n => n⟩
theorem Tryz.lays169 : Go.Proofs.Lays.n169 Tryz.prog Tryz.lays169_ren := {
  mixed := by kernel_rfl
  f169 := Tryz.func209.trans (congrArg some (by kernel_rfl))
  t0 := Tryz.underlying0
  a0 := Tryz.isAgg0
  z0 := Tryz.sizeOf0
  v0 := Tryz.zeroValue0
  t3 := Tryz.underlying3
  a3 := Tryz.isAgg3
  z3 := Tryz.sizeOf3
  v3 := Tryz.zeroValue3
  t9 := Tryz.underlying9
  a9 := Tryz.isAgg9
  z9 := Tryz.sizeOf9
  v9 := Tryz.zeroValue9
  t37 := Tryz.underlying217
  a37 := Tryz.isAgg217
  z37 := Tryz.sizeOf217
  v37 := Tryz.zeroValue217
  t70 := Tryz.underlying321
  a70 := Tryz.isAgg321
  z70 := Tryz.sizeOf321
  v70 := Tryz.zeroValue321
  t72 := Tryz.underlying323
  a72 := Tryz.isAgg323
  z72 := Tryz.sizeOf323
  v72 := Tryz.zeroValue323
  t127 := Tryz.underlying419
  a127 := Tryz.isAgg419
  z127 := Tryz.sizeOf419
  v127 := Tryz.zeroValue419 }
theorem Tryz.Builder_Extra_169 : Builder.Extra Tryz.prog Tryz.lays169_ren := {
  sizeBuilder := by kernel_rfl
  liesBuilder := by kernel_rfl
  t5 := Tryz.underlying5
  a5 := Tryz.isAgg5
  z5 := Tryz.sizeOf5
  v5 := Tryz.zeroValue5
  infoByte := by kernel_rfl
  cellsByte := by kernel_rfl
  sizeByte := by kernel_rfl
  neB5 := by decide }
open Go.RowKit in
theorem Tryz.Builder_String_any_k (B b : Nat) (l : List UInt8) (w : World) (h : Lib.IsBuilderF 323 5 B b (Lib.byteCells l) w) (hBw : B ≤ w.heap.size) :
    Calls Tryz.prog 209 #[.pointer (some ⟨b, 0, none⟩)] w fun e w' => e = .returned (.string ⟨l.toArray⟩) ∧ (Lib.IsBuilderF 323 5 B b (Lib.byteCells l) w' ∧ Below B w w' ∧ Lib.OthersKept 5 (some b) w w') := Any.Builder_String_any_k Tryz.lays169 Tryz.Builder_Extra_169 B b l w h hBw
def Tryz.laysM171_ren : Go.Shelf.Ren := ⟨fun | 171 => 206 | 243 => 290 | 246 => 347 | 283 => 382 | 284 => 383 | 285 => 384 | 286 => 385 | 129 => 406 | 317 => 411 | 318 => 412 | 319 => 413 | 320 => 414 | 337 => 429 | 338 => 430 | n => n, fun | 3 => 3 | 9 => 9 | 2 => 2 | 4 => 4 | 171 => 486 | 0 => 0 | 53 => 449 | 37 => 217 | 5 => 5 | 173 => 489 | 212 => 510 | 51 => 368 | 20 => 20 | 213 => 511 | 46 => 294 | 232 => 533 | 233 => 534 | n => n, fun | 17 => 7 | 18 => 8 | 19 => 9 | n => n⟩
theorem Tryz.laysM171 : Go.Proofs.LaysM.n171 Tryz.prog Tryz.laysM171_ren := {
  mixed := by kernel_rfl
  f129 := Tryz.func406.trans (congrArg some (by kernel_rfl))
  f171 := Tryz.func206.trans (congrArg some (by kernel_rfl))
  f243 := Tryz.func290.trans (congrArg some (by kernel_rfl))
  f246 := Tryz.func347.trans (congrArg some (by kernel_rfl))
  f283 := Tryz.func382.trans (congrArg some (by kernel_rfl))
  f284 := Tryz.func383.trans (congrArg some (by kernel_rfl))
  f285 := Tryz.func384.trans (congrArg some (by kernel_rfl))
  f286 := Tryz.func385.trans (congrArg some (by kernel_rfl))
  f317 := Tryz.func411.trans (congrArg some (by kernel_rfl))
  f318 := Tryz.func412.trans (congrArg some (by kernel_rfl))
  f319 := Tryz.func413.trans (congrArg some (by kernel_rfl))
  f320 := Tryz.func414.trans (congrArg some (by kernel_rfl))
  f337 := Tryz.func429.trans (congrArg some (by kernel_rfl))
  f338 := Tryz.func430.trans (congrArg some (by kernel_rfl))
  t0 := Tryz.underlying0
  a0 := Tryz.isAgg0
  z0 := Tryz.sizeOf0
  v0 := Tryz.zeroValue0
  t2 := Tryz.underlying2
  a2 := Tryz.isAgg2
  z2 := Tryz.sizeOf2
  v2 := Tryz.zeroValue2
  t3 := Tryz.underlying3
  a3 := Tryz.isAgg3
  z3 := Tryz.sizeOf3
  v3 := Tryz.zeroValue3
  t4 := Tryz.underlying4
  a4 := Tryz.isAgg4
  z4 := Tryz.sizeOf4
  v4 := Tryz.zeroValue4
  t5 := Tryz.underlying5
  a5 := Tryz.isAgg5
  z5 := Tryz.sizeOf5
  v5 := Tryz.zeroValue5
  t9 := Tryz.underlying9
  a9 := Tryz.isAgg9
  z9 := Tryz.sizeOf9
  v9 := Tryz.zeroValue9
  t20 := Tryz.underlying20
  a20 := Tryz.isAgg20
  z20 := Tryz.sizeOf20
  v20 := Tryz.zeroValue20
  t37 := Tryz.underlying217
  a37 := Tryz.isAgg217
  z37 := Tryz.sizeOf217
  v37 := Tryz.zeroValue217
  t46 := Tryz.underlying294
  a46 := Tryz.isAgg294
  z46 := Tryz.sizeOf294
  v46 := Tryz.zeroValue294
  t51 := Tryz.underlying368
  a51 := Tryz.isAgg368
  z51 := Tryz.sizeOf368
  v51 := Tryz.zeroValue368
  t53 := Tryz.underlying449
  a53 := Tryz.isAgg449
  z53 := Tryz.sizeOf449
  v53 := Tryz.zeroValue449
  t171 := Tryz.underlying486
  a171 := Tryz.isAgg486
  z171 := Tryz.sizeOf486
  v171 := Tryz.zeroValue486
  t173 := Tryz.underlying489
  a173 := Tryz.isAgg489
  z173 := Tryz.sizeOf489
  v173 := Tryz.zeroValue489
  t212 := Tryz.underlying510
  a212 := Tryz.isAgg510
  z212 := Tryz.sizeOf510
  v212 := Tryz.zeroValue510
  t213 := Tryz.underlying511
  a213 := Tryz.isAgg511
  z213 := Tryz.sizeOf511
  t232 := Tryz.underlying533
  a232 := Tryz.isAgg533
  z232 := Tryz.sizeOf533
  v232 := Tryz.zeroValue533
  t233 := Tryz.underlying534
  a233 := Tryz.isAgg534
  z233 := Tryz.sizeOf534
  v233 := Tryz.zeroValue534
  g17 := by kernel_rfl
  g18 := by kernel_rfl
  g19 := by kernel_rfl
  i0 := by kernel_rfl
  i2 := by kernel_rfl
  i3 := by kernel_rfl
  i4 := by kernel_rfl
  i5 := by kernel_rfl
  i9 := by kernel_rfl
  i20 := by kernel_rfl
  i37 := by kernel_rfl
  i46 := by kernel_rfl
  i51 := by kernel_rfl
  i53 := by kernel_rfl
  i171 := by kernel_rfl
  i173 := by kernel_rfl
  i212 := by kernel_rfl
  i232 := by kernel_rfl
  i233 := by kernel_rfl
  m17 := by kernel_rfl
  m18 := by kernel_rfl
  m19 := by kernel_rfl }
open Go.RowKit Go.Sort Go.Lib in
theorem Tryz.strconv_Itoa (n : Int) (h0 : -9223372036854775808 ≤ n) (h1 : n ≤ 9223372036854775807) (w : World) (htab : Lib.TabIs Tryz.prog w "internal/strconv.uint64pow10" .u64 Lib.pow10Tab) :
    Calls Tryz.prog 206 #[.int .i64 n] w fun e w' => e = .returned (.string ⟨(Lib.itoa n).toArray⟩) ∧ ∃ k os, w' = grow (w.drewN k) os := Any.strconv_Itoa Tryz.laysM171 n h0 h1 w htab
def Tryz.laysValid_ren : Go.Shelf.Ren := ⟨fun | 196 => 158 | 259 => 261 | n => n, fun | 9 => 9 | 4 => 4 | 3 => 3 | 5 => 5 | 12 => 12 | 119 => 386 | 0 => 0 | 46 => 294 | 139 => 389 | 138 => 388 | 53 => 449 | n => n, fun | 3 => 0 | 4 => 1 | n => n⟩
theorem Tryz.laysValid : Go.Proofs.Lays.n196 Tryz.prog Tryz.laysValid_ren := {
  mixed := by kernel_rfl
  f196 := Tryz.func158.trans (congrArg some (by kernel_rfl))
  f259 := Tryz.func261.trans (congrArg some (by kernel_rfl))
  t0 := Tryz.underlying0
  a0 := Tryz.isAgg0
  z0 := Tryz.sizeOf0
  v0 := Tryz.zeroValue0
  t3 := Tryz.underlying3
  a3 := Tryz.isAgg3
  z3 := Tryz.sizeOf3
  v3 := Tryz.zeroValue3
  t4 := Tryz.underlying4
  a4 := Tryz.isAgg4
  z4 := Tryz.sizeOf4
  v4 := Tryz.zeroValue4
  t5 := Tryz.underlying5
  a5 := Tryz.isAgg5
  z5 := Tryz.sizeOf5
  v5 := Tryz.zeroValue5
  t9 := Tryz.underlying9
  a9 := Tryz.isAgg9
  z9 := Tryz.sizeOf9
  v9 := Tryz.zeroValue9
  t12 := Tryz.underlying12
  a12 := Tryz.isAgg12
  z12 := Tryz.sizeOf12
  v12 := Tryz.zeroValue12
  t46 := Tryz.underlying294
  a46 := Tryz.isAgg294
  z46 := Tryz.sizeOf294
  v46 := Tryz.zeroValue294
  t53 := Tryz.underlying449
  a53 := Tryz.isAgg449
  z53 := Tryz.sizeOf449
  v53 := Tryz.zeroValue449
  t119 := Tryz.underlying386
  a119 := Tryz.isAgg386
  z119 := Tryz.sizeOf386
  t138 := Tryz.underlying388
  a138 := Tryz.isAgg388
  z138 := Tryz.sizeOf388
  v138 := Tryz.zeroValue388
  t139 := Tryz.underlying389
  a139 := Tryz.isAgg389
  z139 := Tryz.sizeOf389
  v139 := Tryz.zeroValue389
  g3 := by kernel_rfl
  g4 := by kernel_rfl }
end Go.Proofs
