/-
  slices.Clone, Sort, Compact, Contains at []api.Addr, by the shelf's contracts.
-/
import Derived.Test.YthpafojeadbjlaaProg
import Derived.Test.YthpafojeadbjlaaMemL
import Derived.Shelf.SlicesG.Turned
import Derived.Shelf.SlicesG.Clone
import Derived.Shelf.SlicesG.CompactS
import Derived.Shelf.SortG.Plain
import Derived.Shelf.SortG.SortNone
import Derived.Ground.SlgnProg
namespace Go.Proofs.Ythpafojeadbjlaa
open Go.Shelf Go.RowKit
set_option linter.unusedVariables false

def lay_laysClone_ren : Go.Shelf.Ren := ⟨fun | 42 => 67 | n => n, fun | 25 => 26 | 26 => 35 | 4 => 4 | n => n, fun | n => n⟩

theorem lay_laysClone : Go.Proofs.SlLaysN.n42 Try.prog lay_laysClone_ren := {
  mixed := by kernel_rfl
  f42 := ⟨Try.f67.name, by decide, Try.func67.trans (congrArg some (by kernel_rfl))⟩
  t4 := Try.underlying4
  a4 := Try.isAgg4
  z4 := Try.sizeOf4
  v4 := Try.zeroValue4
  t25 := Try.underlying26
  a25 := Try.isAgg26
  z25 := Try.sizeOf26
  v25 := Try.zeroValue26
  t26 := Try.underlying35
  a26 := Try.isAgg35
  z26 := Try.sizeOf35
  v26 := Try.zeroValue35
  i26 := by kernel_rfl }

def lay_laysCompact_ren : Go.Shelf.Ren := ⟨fun | 44 => 70 | n => n, fun | 25 => 26 | 26 => 35 | 3 => 3 | 4 => 4 | 0 => 0 | n => n, fun | n => n⟩

theorem lay_laysCompact : Go.Proofs.SlLaysN.n44 Try.prog lay_laysCompact_ren := {
  mixed := by kernel_rfl
  f44 := ⟨Try.f70.name, by decide, Try.func70.trans (congrArg some (by kernel_rfl))⟩
  t0 := Try.underlying0
  a0 := Try.isAgg0
  z0 := Try.sizeOf0
  v0 := Try.zeroValue0
  t3 := Try.underlying3
  a3 := Try.isAgg3
  z3 := Try.sizeOf3
  v3 := Try.zeroValue3
  t4 := Try.underlying4
  a4 := Try.isAgg4
  z4 := Try.sizeOf4
  v4 := Try.zeroValue4
  t25 := Try.underlying26
  a25 := Try.isAgg26
  z25 := Try.sizeOf26
  v25 := Try.zeroValue26
  t26 := Try.underlying35
  a26 := Try.isAgg35
  z26 := Try.sizeOf35
  v26 := Try.zeroValue35
  i26 := by kernel_rfl }

def lay_laysSort_ren : Go.Shelf.Ren := ⟨fun | 54 => 69 | 64 => 79 | 65 => 81 | 78 => 91 | 79 => 92 | 80 => 93 | 81 => 94 | 82 => 95 | 83 => 96 | 84 => 97 | 85 => 98 | 61 => 99 | 86 => 100 | 87 => 101 | 93 => 107 | 89 => 103 | 90 => 104 | 94 => 108 | 95 => 109 | 69 => 80 | 97 => 111 | n => n, fun | 25 => 26 | 26 => 35 | 3 => 3 | 51 => 114 | 0 => 0 | 67 => 125 | 69 => 127 | 4 => 4 | 61 => 118 | 60 => 117 | 44 => 122 | 5 => 5 | 9 => 9 | 75 => 135 | 79 => 139 | 83 => 143 | 84 => 144 | n => n, fun | n => n⟩

theorem lay_laysSort : Go.Proofs.SlLaysN.n54 Try.prog lay_laysSort_ren := {
  mixed := by kernel_rfl
  f54 := ⟨Try.f69.name, by decide, Try.func69.trans (congrArg some (by kernel_rfl))⟩
  f61 := ⟨Try.f99.name, by decide, Try.func99.trans (congrArg some (by kernel_rfl))⟩
  f64 := Try.func79.trans (congrArg some (by kernel_rfl))
  f65 := ⟨Try.f81.name, by decide, Try.func81.trans (congrArg some (by kernel_rfl))⟩
  f69 := ⟨Try.f80.name, by decide, Try.func80.trans (congrArg some (by kernel_rfl))⟩
  f78 := Try.func91.trans (congrArg some (by kernel_rfl))
  f79 := Try.func92.trans (congrArg some (by kernel_rfl))
  f80 := ⟨Try.f93.name, by decide, Try.func93.trans (congrArg some (by kernel_rfl))⟩
  f81 := ⟨Try.f94.name, by decide, Try.func94.trans (congrArg some (by kernel_rfl))⟩
  f82 := ⟨Try.f95.name, by decide, Try.func95.trans (congrArg some (by kernel_rfl))⟩
  f83 := ⟨Try.f96.name, by decide, Try.func96.trans (congrArg some (by kernel_rfl))⟩
  f84 := ⟨Try.f97.name, by decide, Try.func97.trans (congrArg some (by kernel_rfl))⟩
  f85 := ⟨Try.f98.name, by decide, Try.func98.trans (congrArg some (by kernel_rfl))⟩
  f86 := ⟨Try.f100.name, by decide, Try.func100.trans (congrArg some (by kernel_rfl))⟩
  f87 := ⟨Try.f101.name, by decide, Try.func101.trans (congrArg some (by kernel_rfl))⟩
  f89 := Try.func103.trans (congrArg some (by kernel_rfl))
  f90 := Try.func104.trans (congrArg some (by kernel_rfl))
  f93 := ⟨Try.f107.name, by decide, Try.func107.trans (congrArg some (by kernel_rfl))⟩
  f94 := ⟨Try.f108.name, by decide, Try.func108.trans (congrArg some (by kernel_rfl))⟩
  f95 := ⟨Try.f109.name, by decide, Try.func109.trans (congrArg some (by kernel_rfl))⟩
  f97 := ⟨Try.f111.name, by decide, Try.func111.trans (congrArg some (by kernel_rfl))⟩
  t0 := Try.underlying0
  a0 := Try.isAgg0
  z0 := Try.sizeOf0
  v0 := Try.zeroValue0
  t3 := Try.underlying3
  a3 := Try.isAgg3
  z3 := Try.sizeOf3
  v3 := Try.zeroValue3
  t4 := Try.underlying4
  a4 := Try.isAgg4
  z4 := Try.sizeOf4
  v4 := Try.zeroValue4
  t5 := Try.underlying5
  a5 := Try.isAgg5
  z5 := Try.sizeOf5
  v5 := Try.zeroValue5
  t9 := Try.underlying9
  a9 := Try.isAgg9
  z9 := Try.sizeOf9
  v9 := Try.zeroValue9
  t25 := Try.underlying26
  a25 := Try.isAgg26
  z25 := Try.sizeOf26
  v25 := Try.zeroValue26
  t26 := Try.underlying35
  a26 := Try.isAgg35
  z26 := Try.sizeOf35
  v26 := Try.zeroValue35
  t44 := Try.underlying122
  a44 := Try.isAgg122
  z44 := Try.sizeOf122
  v44 := Try.zeroValue122
  t51 := Try.underlying114
  a51 := Try.isAgg114
  z51 := Try.sizeOf114
  v51 := Try.zeroValue114
  t60 := Try.underlying117
  a60 := Try.isAgg117
  z60 := Try.sizeOf117
  v60 := Try.zeroValue117
  t61 := Try.underlying118
  a61 := Try.isAgg118
  z61 := Try.sizeOf118
  v61 := Try.zeroValue118
  t67 := Try.underlying125
  a67 := Try.isAgg125
  z67 := Try.sizeOf125
  v67 := Try.zeroValue125
  t69 := Try.underlying127
  a69 := Try.isAgg127
  z69 := Try.sizeOf127
  v69 := Try.zeroValue127
  t75 := Try.underlying135
  a75 := Try.isAgg135
  z75 := Try.sizeOf135
  v75 := Try.zeroValue135
  t79 := Try.underlying139
  a79 := Try.isAgg139
  z79 := Try.sizeOf139
  v79 := Try.zeroValue139
  t83 := Try.underlying143
  a83 := Try.isAgg143
  z83 := Try.sizeOf143
  v83 := Try.zeroValue143
  t84 := Try.underlying144
  a84 := Try.isAgg144
  z84 := Try.sizeOf144
  v84 := Try.zeroValue144 }

def lay_laysContains_ren : Go.Shelf.Ren := ⟨fun | 32 => 34 | 30 => 56 | n => n, fun | 25 => 26 | 26 => 35 | 4 => 4 | 3 => 3 | 0 => 0 | n => n, fun | n => n⟩

theorem lay_laysContains : Go.Proofs.SlLaysN.n32 Try.prog lay_laysContains_ren := {
  mixed := by kernel_rfl
  f30 := ⟨Try.f56.name, by decide, Try.func56.trans (congrArg some (by kernel_rfl))⟩
  f32 := ⟨Try.f34.name, by decide, Try.func34.trans (congrArg some (by kernel_rfl))⟩
  t0 := Try.underlying0
  a0 := Try.isAgg0
  z0 := Try.sizeOf0
  v0 := Try.zeroValue0
  t3 := Try.underlying3
  a3 := Try.isAgg3
  z3 := Try.sizeOf3
  v3 := Try.zeroValue3
  t4 := Try.underlying4
  a4 := Try.isAgg4
  z4 := Try.sizeOf4
  v4 := Try.zeroValue4
  t25 := Try.underlying26
  a25 := Try.isAgg26
  z25 := Try.sizeOf26
  v25 := Try.zeroValue26
  t26 := Try.underlying35
  a26 := Try.isAgg35
  z26 := Try.sizeOf35
  v26 := Try.zeroValue35 }


end Go.Proofs.Ythpafojeadbjlaa
