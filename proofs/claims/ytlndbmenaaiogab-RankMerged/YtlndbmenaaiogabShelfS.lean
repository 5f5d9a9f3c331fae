/- The contract of slices.Sort at this dump. -/
import Derived.Shelf.SlGeneric
import Derived.Ground.SlgnProg
import Derived.Shelf.SortG.Plain
import Derived.Shelf.SortG.SortNone
import Derived.Test.YtlndbmenaaiogabProg
namespace Go.Proofs
open Go.Shelf
def Try.laysSort_ren : Go.Shelf.Ren := ⟨fun | 53 => 27 | 64 => 40 | 63 => 39 | 78 => 55 | 79 => 56 | 70 => 47 | 71 => 48 | 72 => 49 | 73 => 50 | 74 => 51 | 75 => 52 | 59 => 42 | 76 => 53 | 77 => 54 | 88 => 59 | 89 => 60 | 90 => 61 | 91 => 62 | 92 => 63 | 68 => 57 | 96 => 65 | n => n, fun | 22 => 22 | 23 => 2 | 3 => 3 | 51 => 68 | 0 => 0 | 67 => 82 | 69 => 84 | 4 => 4 | 61 => 76 | 60 => 75 | 44 => 61 | 5 => 5 | 9 => 9 | 75 => 85 | 79 => 89 | 83 => 91 | 84 => 92 | n => n, fun | n => n⟩
theorem Try.laysSort : Go.Proofs.SlLaysN.n53 Try.prog Try.laysSort_ren := {
  mixed := by kernel_rfl
  f53 := ⟨Try.f27.name, by decide, Try.func27.trans (congrArg some (by kernel_rfl))⟩
  f59 := ⟨Try.f42.name, by decide, Try.func42.trans (congrArg some (by kernel_rfl))⟩
  f63 := ⟨Try.f39.name, by decide, Try.func39.trans (congrArg some (by kernel_rfl))⟩
  f64 := Try.func40.trans (congrArg some (by kernel_rfl))
  f68 := ⟨Try.f57.name, by decide, Try.func57.trans (congrArg some (by kernel_rfl))⟩
  f70 := ⟨Try.f47.name, by decide, Try.func47.trans (congrArg some (by kernel_rfl))⟩
  f71 := ⟨Try.f48.name, by decide, Try.func48.trans (congrArg some (by kernel_rfl))⟩
  f72 := ⟨Try.f49.name, by decide, Try.func49.trans (congrArg some (by kernel_rfl))⟩
  f73 := ⟨Try.f50.name, by decide, Try.func50.trans (congrArg some (by kernel_rfl))⟩
  f74 := ⟨Try.f51.name, by decide, Try.func51.trans (congrArg some (by kernel_rfl))⟩
  f75 := ⟨Try.f52.name, by decide, Try.func52.trans (congrArg some (by kernel_rfl))⟩
  f76 := ⟨Try.f53.name, by decide, Try.func53.trans (congrArg some (by kernel_rfl))⟩
  f77 := ⟨Try.f54.name, by decide, Try.func54.trans (congrArg some (by kernel_rfl))⟩
  f78 := Try.func55.trans (congrArg some (by kernel_rfl))
  f79 := Try.func56.trans (congrArg some (by kernel_rfl))
  f88 := ⟨Try.f59.name, by decide, Try.func59.trans (congrArg some (by kernel_rfl))⟩
  f89 := Try.func60.trans (congrArg some (by kernel_rfl))
  f90 := Try.func61.trans (congrArg some (by kernel_rfl))
  f91 := ⟨Try.f62.name, by decide, Try.func62.trans (congrArg some (by kernel_rfl))⟩
  f92 := ⟨Try.f63.name, by decide, Try.func63.trans (congrArg some (by kernel_rfl))⟩
  f96 := ⟨Try.f65.name, by decide, Try.func65.trans (congrArg some (by kernel_rfl))⟩
  t0 := Try.underlying0
  a0 := Try.isAgg0
  z0 := Try.sizeOf0
  v0 := Try.zeroValue0
  t3 := Try.underlying3
  a3 := Try.isAgg3
  z3 := Try.sizeOf3
  v3 := Try.zeroValue3
  t4 := Try.underlying4
  a4 := Try.isAgg4
  z4 := Try.sizeOf4
  v4 := Try.zeroValue4
  t5 := Try.underlying5
  a5 := Try.isAgg5
  z5 := Try.sizeOf5
  v5 := Try.zeroValue5
  t9 := Try.underlying9
  a9 := Try.isAgg9
  z9 := Try.sizeOf9
  v9 := Try.zeroValue9
  t22 := Try.underlying22
  a22 := Try.isAgg22
  z22 := Try.sizeOf22
  v22 := Try.zeroValue22
  t23 := Try.underlying2
  a23 := Try.isAgg2
  z23 := Try.sizeOf2
  v23 := Try.zeroValue2
  t44 := Try.underlying61
  a44 := Try.isAgg61
  z44 := Try.sizeOf61
  v44 := Try.zeroValue61
  t51 := Try.underlying68
  a51 := Try.isAgg68
  z51 := Try.sizeOf68
  v51 := Try.zeroValue68
  t60 := Try.underlying75
  a60 := Try.isAgg75
  z60 := Try.sizeOf75
  v60 := Try.zeroValue75
  t61 := Try.underlying76
  a61 := Try.isAgg76
  z61 := Try.sizeOf76
  v61 := Try.zeroValue76
  t67 := Try.underlying82
  a67 := Try.isAgg82
  z67 := Try.sizeOf82
  v67 := Try.zeroValue82
  t69 := Try.underlying84
  a69 := Try.isAgg84
  z69 := Try.sizeOf84
  v69 := Try.zeroValue84
  t75 := Try.underlying85
  a75 := Try.isAgg85
  z75 := Try.sizeOf85
  v75 := Try.zeroValue85
  t79 := Try.underlying89
  a79 := Try.isAgg89
  z79 := Try.sizeOf89
  v79 := Try.zeroValue89
  t83 := Try.underlying91
  a83 := Try.isAgg91
  z83 := Try.sizeOf91
  v83 := Try.zeroValue91
  t84 := Try.underlying92
  a84 := Try.isAgg92
  z84 := Try.sizeOf92
  v84 := Try.zeroValue92 }
open Go.Sort Go.RowKit
theorem Try.sort_some (blk cap : Nat) (zs : List Int) (w : World) (hH : Holds (Value.int .i64) w blk 0 zs.toArray) (hblk : blk < w.heap.size) (hsz : zs.length < 4611686018427387904) :
    Calls Try.prog 27 #[.slice (some ⟨blk, 0, none⟩) zs.length cap] w fun e w' =>
      e = .returned (.tuple #[]) ∧ ∃ n os, w' = grow (putRow (Value.int .i64) (Sort.ahead w n) blk 0 (zs.mergeSort fun x y => decide (x ≤ y)).toArray) os := AnyG.slices_Sort_int Try.laysSort blk 0 cap zs w hH hblk hsz
theorem Try.sort_none (p : Option Addr) (cap : Nat) (w : World) : Calls Try.prog 27 #[.slice p 0 cap] w fun e w' => e = .returned (.tuple #[]) ∧ w' = w := AnyG.slices_Sort_int_none Try.laysSort p cap w
end Go.Proofs
