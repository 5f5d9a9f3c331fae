/- Several texts in one. -/
import Derived.Shelf.SlGeneric
import Derived.Ground.SlgnProg
import Derived.Shelf.SortG.Plain
import Derived.Shelf.SortG.SortNone
import Derived.Test.YtcaidfffmllfeaaProg
/- The contract of slices.Sort at this dump. -/
namespace Go.Proofs
open Go.Shelf
def Try.laysSort_ren : Go.Shelf.Ren := ⟨fun | 53 => 56 | 64 => 36 | 63 => 66 | 78 => 50 | 79 => 51 | 70 => 77 | 71 => 78 | 72 => 79 | 73 => 80 | 74 => 81 | 75 => 82 | 59 => 83 | 76 => 84 | 77 => 85 | 88 => 89 | 89 => 58 | 90 => 59 | 91 => 90 | 92 => 91 | 68 => 92 | 96 => 94 | n => n, fun | 22 => 81 | 23 => 2 | 3 => 3 | 51 => 60 | 0 => 0 | 67 => 74 | 69 => 76 | 4 => 4 | 61 => 66 | 60 => 65 | 44 => 71 | 5 => 5 | 9 => 9 | 75 => 83 | 79 => 87 | 83 => 93 | 84 => 94 | n => n, fun | n => n⟩
theorem Try.laysSort : Go.Proofs.SlLaysN.n53 Try.prog Try.laysSort_ren := {
  mixed := by kernel_rfl
  f53 := ⟨Try.f56.name, by decide, Try.func56.trans (congrArg some (by kernel_rfl))⟩
  f59 := ⟨Try.f83.name, by decide, Try.func83.trans (congrArg some (by kernel_rfl))⟩
  f63 := ⟨Try.f66.name, by decide, Try.func66.trans (congrArg some (by kernel_rfl))⟩
  f64 := Try.func36.trans (congrArg some (by kernel_rfl))
  f68 := ⟨Try.f92.name, by decide, Try.func92.trans (congrArg some (by kernel_rfl))⟩
  f70 := ⟨Try.f77.name, by decide, Try.func77.trans (congrArg some (by kernel_rfl))⟩
  f71 := ⟨Try.f78.name, by decide, Try.func78.trans (congrArg some (by kernel_rfl))⟩
  f72 := ⟨Try.f79.name, by decide, Try.func79.trans (congrArg some (by kernel_rfl))⟩
  f73 := ⟨Try.f80.name, by decide, Try.func80.trans (congrArg some (by kernel_rfl))⟩
  f74 := ⟨Try.f81.name, by decide, Try.func81.trans (congrArg some (by kernel_rfl))⟩
  f75 := ⟨Try.f82.name, by decide, Try.func82.trans (congrArg some (by kernel_rfl))⟩
  f76 := ⟨Try.f84.name, by decide, Try.func84.trans (congrArg some (by kernel_rfl))⟩
  f77 := ⟨Try.f85.name, by decide, Try.func85.trans (congrArg some (by kernel_rfl))⟩
  f78 := Try.func50.trans (congrArg some (by kernel_rfl))
  f79 := Try.func51.trans (congrArg some (by kernel_rfl))
  f88 := ⟨Try.f89.name, by decide, Try.func89.trans (congrArg some (by kernel_rfl))⟩
  f89 := Try.func58.trans (congrArg some (by kernel_rfl))
  f90 := Try.func59.trans (congrArg some (by kernel_rfl))
  f91 := ⟨Try.f90.name, by decide, Try.func90.trans (congrArg some (by kernel_rfl))⟩
  f92 := ⟨Try.f91.name, by decide, Try.func91.trans (congrArg some (by kernel_rfl))⟩
  f96 := ⟨Try.f94.name, by decide, Try.func94.trans (congrArg some (by kernel_rfl))⟩
  t0 := Try.underlying0
  a0 := Try.isAgg0
  z0 := Try.sizeOf0
  v0 := Try.zeroValue0
  t3 := Try.underlying3
  a3 := Try.isAgg3
  z3 := Try.sizeOf3
  v3 := Try.zeroValue3
  t4 := Try.underlying4
  a4 := Try.isAgg4
  z4 := Try.sizeOf4
  v4 := Try.zeroValue4
  t5 := Try.underlying5
  a5 := Try.isAgg5
  z5 := Try.sizeOf5
  v5 := Try.zeroValue5
  t9 := Try.underlying9
  a9 := Try.isAgg9
  z9 := Try.sizeOf9
  v9 := Try.zeroValue9
  t22 := Try.underlying81
  a22 := Try.isAgg81
  z22 := Try.sizeOf81
  v22 := Try.zeroValue81
  t23 := Try.underlying2
  a23 := Try.isAgg2
  z23 := Try.sizeOf2
  v23 := Try.zeroValue2
  t44 := Try.underlying71
  a44 := Try.isAgg71
  z44 := Try.sizeOf71
  v44 := Try.zeroValue71
  t51 := Try.underlying60
  a51 := Try.isAgg60
  z51 := Try.sizeOf60
  v51 := Try.zeroValue60
  t60 := Try.underlying65
  a60 := Try.isAgg65
  z60 := Try.sizeOf65
  v60 := Try.zeroValue65
  t61 := Try.underlying66
  a61 := Try.isAgg66
  z61 := Try.sizeOf66
  v61 := Try.zeroValue66
  t67 := Try.underlying74
  a67 := Try.isAgg74
  z67 := Try.sizeOf74
  v67 := Try.zeroValue74
  t69 := Try.underlying76
  a69 := Try.isAgg76
  z69 := Try.sizeOf76
  v69 := Try.zeroValue76
  t75 := Try.underlying83
  a75 := Try.isAgg83
  z75 := Try.sizeOf83
  v75 := Try.zeroValue83
  t79 := Try.underlying87
  a79 := Try.isAgg87
  z79 := Try.sizeOf87
  v79 := Try.zeroValue87
  t83 := Try.underlying93
  a83 := Try.isAgg93
  z83 := Try.sizeOf93
  v83 := Try.zeroValue93
  t84 := Try.underlying94
  a84 := Try.isAgg94
  z84 := Try.sizeOf94
  v84 := Try.zeroValue94 }
open Go.Sort Go.RowKit
theorem Try.sort_some (blk cap : Nat) (zs : List Int) (w : World) (hH : Holds (Value.int .i64) w blk 0 zs.toArray) (hblk : blk < w.heap.size) (hsz : zs.length < 4611686018427387904) :
    Calls Try.prog 56 #[.slice (some ⟨blk, 0, none⟩) zs.length cap] w fun e w' =>
      e = .returned (.tuple #[]) ∧ ∃ n os, w' = grow (putRow (Value.int .i64) (Sort.ahead w n) blk 0 (zs.mergeSort fun x y => decide (x ≤ y)).toArray) os := AnyG.slices_Sort_int Try.laysSort blk 0 cap zs w hH hblk hsz
theorem Try.sort_none (p : Option Addr) (cap : Nat) (w : World) : Calls Try.prog 56 #[.slice p 0 cap] w fun e w' => e = .returned (.tuple #[]) ∧ w' = w := AnyG.slices_Sort_int_none Try.laysSort p cap w
end Go.Proofs
