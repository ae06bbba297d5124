/-
  slices.Clone, Sort, Compact, Contains at []api.Addr, by the shelf's contracts.
-/
import Derived.Test.YtceilgeefegbmaaProg
import Derived.Test.YtceilgeefegbmaaMemL
import Derived.Shelf.SlicesG.Turned
import Derived.Shelf.SlicesG.Clone
import Derived.Shelf.SlicesG.CompactS
import Derived.Shelf.SortG.Plain
import Derived.Shelf.SortG.SortNone
import Derived.Ground.SlgnProg
namespace Go.Proofs.Ytceilgeefegbmaa
open Go.Shelf Go.RowKit
set_option linter.unusedVariables false

def lay_laysClone_ren : Go.Shelf.Ren := ⟨fun | 42 => 61 | n => n, fun | 25 => 35 | 26 => 25 | 4 => 4 | n => n, fun | n => n⟩

theorem lay_laysClone : Go.Proofs.SlLaysN.n42 Try.prog lay_laysClone_ren := {
  mixed := by kernel_rfl
  f42 := ⟨Try.f61.name, by decide, Try.func61.trans (congrArg some (by kernel_rfl))⟩
  t4 := Try.underlying4
  a4 := Try.isAgg4
  z4 := Try.sizeOf4
  v4 := Try.zeroValue4
  t25 := Try.underlying35
  a25 := Try.isAgg35
  z25 := Try.sizeOf35
  v25 := Try.zeroValue35
  t26 := Try.underlying25
  a26 := Try.isAgg25
  z26 := Try.sizeOf25
  v26 := Try.zeroValue25
  i26 := by kernel_rfl }

def lay_laysCompact_ren : Go.Shelf.Ren := ⟨fun | 44 => 63 | n => n, fun | 25 => 35 | 26 => 25 | 3 => 3 | 4 => 4 | 0 => 0 | n => n, fun | n => n⟩

theorem lay_laysCompact : Go.Proofs.SlLaysN.n44 Try.prog lay_laysCompact_ren := {
  mixed := by kernel_rfl
  f44 := ⟨Try.f63.name, by decide, Try.func63.trans (congrArg some (by kernel_rfl))⟩
  t0 := Try.underlying0
  a0 := Try.isAgg0
  z0 := Try.sizeOf0
  v0 := Try.zeroValue0
  t3 := Try.underlying3
  a3 := Try.isAgg3
  z3 := Try.sizeOf3
  v3 := Try.zeroValue3
  t4 := Try.underlying4
  a4 := Try.isAgg4
  z4 := Try.sizeOf4
  v4 := Try.zeroValue4
  t25 := Try.underlying35
  a25 := Try.isAgg35
  z25 := Try.sizeOf35
  v25 := Try.zeroValue35
  t26 := Try.underlying25
  a26 := Try.isAgg25
  z26 := Try.sizeOf25
  v26 := Try.zeroValue25
  i26 := by kernel_rfl }

def lay_laysSort_ren : Go.Shelf.Ren := ⟨fun | 54 => 62 | 64 => 69 | 65 => 68 | 78 => 80 | 79 => 81 | 80 => 72 | 81 => 73 | 82 => 74 | 83 => 75 | 84 => 76 | 85 => 77 | 61 => 66 | 86 => 78 | 87 => 79 | 93 => 82 | 89 => 83 | 90 => 84 | 94 => 85 | 95 => 86 | 69 => 71 | 97 => 87 | n => n, fun | 25 => 35 | 26 => 25 | 3 => 3 | 51 => 98 | 0 => 0 | 67 => 111 | 69 => 113 | 4 => 4 | 61 => 105 | 60 => 104 | 44 => 95 | 5 => 5 | 9 => 9 | 75 => 114 | 79 => 118 | 83 => 120 | 84 => 121 | n => n, fun | n => n⟩

theorem lay_laysSort : Go.Proofs.SlLaysN.n54 Try.prog lay_laysSort_ren := {
  mixed := by kernel_rfl
  f54 := ⟨Try.f62.name, by decide, Try.func62.trans (congrArg some (by kernel_rfl))⟩
  f61 := ⟨Try.f66.name, by decide, Try.func66.trans (congrArg some (by kernel_rfl))⟩
  f64 := Try.func69.trans (congrArg some (by kernel_rfl))
  f65 := ⟨Try.f68.name, by decide, Try.func68.trans (congrArg some (by kernel_rfl))⟩
  f69 := ⟨Try.f71.name, by decide, Try.func71.trans (congrArg some (by kernel_rfl))⟩
  f78 := Try.func80.trans (congrArg some (by kernel_rfl))
  f79 := Try.func81.trans (congrArg some (by kernel_rfl))
  f80 := ⟨Try.f72.name, by decide, Try.func72.trans (congrArg some (by kernel_rfl))⟩
  f81 := ⟨Try.f73.name, by decide, Try.func73.trans (congrArg some (by kernel_rfl))⟩
  f82 := ⟨Try.f74.name, by decide, Try.func74.trans (congrArg some (by kernel_rfl))⟩
  f83 := ⟨Try.f75.name, by decide, Try.func75.trans (congrArg some (by kernel_rfl))⟩
  f84 := ⟨Try.f76.name, by decide, Try.func76.trans (congrArg some (by kernel_rfl))⟩
  f85 := ⟨Try.f77.name, by decide, Try.func77.trans (congrArg some (by kernel_rfl))⟩
  f86 := ⟨Try.f78.name, by decide, Try.func78.trans (congrArg some (by kernel_rfl))⟩
  f87 := ⟨Try.f79.name, by decide, Try.func79.trans (congrArg some (by kernel_rfl))⟩
  f89 := Try.func83.trans (congrArg some (by kernel_rfl))
  f90 := Try.func84.trans (congrArg some (by kernel_rfl))
  f93 := ⟨Try.f82.name, by decide, Try.func82.trans (congrArg some (by kernel_rfl))⟩
  f94 := ⟨Try.f85.name, by decide, Try.func85.trans (congrArg some (by kernel_rfl))⟩
  f95 := ⟨Try.f86.name, by decide, Try.func86.trans (congrArg some (by kernel_rfl))⟩
  f97 := ⟨Try.f87.name, by decide, Try.func87.trans (congrArg some (by kernel_rfl))⟩
  t0 := Try.underlying0
  a0 := Try.isAgg0
  z0 := Try.sizeOf0
  v0 := Try.zeroValue0
  t3 := Try.underlying3
  a3 := Try.isAgg3
  z3 := Try.sizeOf3
  v3 := Try.zeroValue3
  t4 := Try.underlying4
  a4 := Try.isAgg4
  z4 := Try.sizeOf4
  v4 := Try.zeroValue4
  t5 := Try.underlying5
  a5 := Try.isAgg5
  z5 := Try.sizeOf5
  v5 := Try.zeroValue5
  t9 := Try.underlying9
  a9 := Try.isAgg9
  z9 := Try.sizeOf9
  v9 := Try.zeroValue9
  t25 := Try.underlying35
  a25 := Try.isAgg35
  z25 := Try.sizeOf35
  v25 := Try.zeroValue35
  t26 := Try.underlying25
  a26 := Try.isAgg25
  z26 := Try.sizeOf25
  v26 := Try.zeroValue25
  t44 := Try.underlying95
  a44 := Try.isAgg95
  z44 := Try.sizeOf95
  v44 := Try.zeroValue95
  t51 := Try.underlying98
  a51 := Try.isAgg98
  z51 := Try.sizeOf98
  v51 := Try.zeroValue98
  t60 := Try.underlying104
  a60 := Try.isAgg104
  z60 := Try.sizeOf104
  v60 := Try.zeroValue104
  t61 := Try.underlying105
  a61 := Try.isAgg105
  z61 := Try.sizeOf105
  v61 := Try.zeroValue105
  t67 := Try.underlying111
  a67 := Try.isAgg111
  z67 := Try.sizeOf111
  v67 := Try.zeroValue111
  t69 := Try.underlying113
  a69 := Try.isAgg113
  z69 := Try.sizeOf113
  v69 := Try.zeroValue113
  t75 := Try.underlying114
  a75 := Try.isAgg114
  z75 := Try.sizeOf114
  v75 := Try.zeroValue114
  t79 := Try.underlying118
  a79 := Try.isAgg118
  z79 := Try.sizeOf118
  v79 := Try.zeroValue118
  t83 := Try.underlying120
  a83 := Try.isAgg120
  z83 := Try.sizeOf120
  v83 := Try.zeroValue120
  t84 := Try.underlying121
  a84 := Try.isAgg121
  z84 := Try.sizeOf121
  v84 := Try.zeroValue121 }

def lay_laysContains_ren : Go.Shelf.Ren := ⟨fun | 32 => 40 | 30 => 56 | n => n, fun | 25 => 35 | 26 => 25 | 4 => 4 | 3 => 3 | 0 => 0 | n => n, fun | n => n⟩

theorem lay_laysContains : Go.Proofs.SlLaysN.n32 Try.prog lay_laysContains_ren := {
  mixed := by kernel_rfl
  f30 := ⟨Try.f56.name, by decide, Try.func56.trans (congrArg some (by kernel_rfl))⟩
  f32 := ⟨Try.f40.name, by decide, Try.func40.trans (congrArg some (by kernel_rfl))⟩
  t0 := Try.underlying0
  a0 := Try.isAgg0
  z0 := Try.sizeOf0
  v0 := Try.zeroValue0
  t3 := Try.underlying3
  a3 := Try.isAgg3
  z3 := Try.sizeOf3
  v3 := Try.zeroValue3
  t4 := Try.underlying4
  a4 := Try.isAgg4
  z4 := Try.sizeOf4
  v4 := Try.zeroValue4
  t25 := Try.underlying35
  a25 := Try.isAgg35
  z25 := Try.sizeOf35
  v25 := Try.zeroValue35
  t26 := Try.underlying25
  a26 := Try.isAgg25
  z26 := Try.sizeOf25
  v26 := Try.zeroValue25 }


end Go.Proofs.Ytceilgeefegbmaa
