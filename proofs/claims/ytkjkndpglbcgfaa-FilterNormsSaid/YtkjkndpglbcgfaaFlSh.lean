/-
  slices.Clone, Sort, Compact, Contains at []api.Addr, by the shelf's contracts.
-/
import Derived.Test.YtkjkndpglbcgfaaProg
import Derived.Test.YtkjkndpglbcgfaaMemL
import Derived.Shelf.SlicesG.Turned
import Derived.Shelf.SlicesG.Clone
import Derived.Shelf.SlicesG.CompactS
import Derived.Shelf.SortG.Plain
import Derived.Shelf.SortG.SortNone
import Derived.Ground.SlgnProg
namespace Go.Proofs.Ytkjkndpglbcgfaa
open Go.Shelf Go.RowKit
set_option linter.unusedVariables false

def lay_laysClone_ren : Go.Shelf.Ren := ⟨fun | 42 => 42 | n => n, fun | 25 => 22 | 26 => 25 | 4 => 4 | n => n, fun | n => n⟩

theorem lay_laysClone : Go.Proofs.SlLaysN.n42 Try.prog lay_laysClone_ren := {
  mixed := by kernel_rfl
  f42 := ⟨Try.f42.name, by decide, Try.func42.trans (congrArg some (by kernel_rfl))⟩
  t4 := Try.underlying4
  a4 := Try.isAgg4
  z4 := Try.sizeOf4
  v4 := Try.zeroValue4
  t25 := Try.underlying22
  a25 := Try.isAgg22
  z25 := Try.sizeOf22
  v25 := Try.zeroValue22
  t26 := Try.underlying25
  a26 := Try.isAgg25
  z26 := Try.sizeOf25
  v26 := Try.zeroValue25
  i26 := by kernel_rfl }

def lay_laysCompact_ren : Go.Shelf.Ren := ⟨fun | 44 => 44 | n => n, fun | 25 => 22 | 26 => 25 | 3 => 3 | 4 => 4 | 0 => 0 | n => n, fun | n => n⟩

theorem lay_laysCompact : Go.Proofs.SlLaysN.n44 Try.prog lay_laysCompact_ren := {
  mixed := by kernel_rfl
  f44 := ⟨Try.f44.name, by decide, Try.func44.trans (congrArg some (by kernel_rfl))⟩
  t0 := Try.underlying0
  a0 := Try.isAgg0
  z0 := Try.sizeOf0
  v0 := Try.zeroValue0
  t3 := Try.underlying3
  a3 := Try.isAgg3
  z3 := Try.sizeOf3
  v3 := Try.zeroValue3
  t4 := Try.underlying4
  a4 := Try.isAgg4
  z4 := Try.sizeOf4
  v4 := Try.zeroValue4
  t25 := Try.underlying22
  a25 := Try.isAgg22
  z25 := Try.sizeOf22
  v25 := Try.zeroValue22
  t26 := Try.underlying25
  a26 := Try.isAgg25
  z26 := Try.sizeOf25
  v26 := Try.zeroValue25
  i26 := by kernel_rfl }

def lay_laysSort_ren : Go.Shelf.Ren := ⟨fun | 54 => 43 | 64 => 50 | 65 => 49 | 78 => 60 | 79 => 61 | 80 => 51 | 81 => 52 | 82 => 53 | 83 => 54 | 84 => 55 | 85 => 56 | 61 => 57 | 86 => 58 | 87 => 59 | 93 => 62 | 89 => 63 | 90 => 64 | 94 => 65 | 95 => 66 | 69 => 67 | 97 => 68 | n => n, fun | 25 => 22 | 26 => 25 | 3 => 3 | 51 => 56 | 0 => 0 | 67 => 67 | 69 => 69 | 4 => 4 | 61 => 59 | 60 => 58 | 44 => 64 | 5 => 5 | 9 => 9 | 75 => 70 | 79 => 74 | 83 => 77 | 84 => 78 | n => n, fun | n => n⟩

theorem lay_laysSort : Go.Proofs.SlLaysN.n54 Try.prog lay_laysSort_ren := {
  mixed := by kernel_rfl
  f54 := ⟨Try.f43.name, by decide, Try.func43.trans (congrArg some (by kernel_rfl))⟩
  f61 := ⟨Try.f57.name, by decide, Try.func57.trans (congrArg some (by kernel_rfl))⟩
  f64 := Try.func50.trans (congrArg some (by kernel_rfl))
  f65 := ⟨Try.f49.name, by decide, Try.func49.trans (congrArg some (by kernel_rfl))⟩
  f69 := ⟨Try.f67.name, by decide, Try.func67.trans (congrArg some (by kernel_rfl))⟩
  f78 := Try.func60.trans (congrArg some (by kernel_rfl))
  f79 := Try.func61.trans (congrArg some (by kernel_rfl))
  f80 := ⟨Try.f51.name, by decide, Try.func51.trans (congrArg some (by kernel_rfl))⟩
  f81 := ⟨Try.f52.name, by decide, Try.func52.trans (congrArg some (by kernel_rfl))⟩
  f82 := ⟨Try.f53.name, by decide, Try.func53.trans (congrArg some (by kernel_rfl))⟩
  f83 := ⟨Try.f54.name, by decide, Try.func54.trans (congrArg some (by kernel_rfl))⟩
  f84 := ⟨Try.f55.name, by decide, Try.func55.trans (congrArg some (by kernel_rfl))⟩
  f85 := ⟨Try.f56.name, by decide, Try.func56.trans (congrArg some (by kernel_rfl))⟩
  f86 := ⟨Try.f58.name, by decide, Try.func58.trans (congrArg some (by kernel_rfl))⟩
  f87 := ⟨Try.f59.name, by decide, Try.func59.trans (congrArg some (by kernel_rfl))⟩
  f89 := Try.func63.trans (congrArg some (by kernel_rfl))
  f90 := Try.func64.trans (congrArg some (by kernel_rfl))
  f93 := ⟨Try.f62.name, by decide, Try.func62.trans (congrArg some (by kernel_rfl))⟩
  f94 := ⟨Try.f65.name, by decide, Try.func65.trans (congrArg some (by kernel_rfl))⟩
  f95 := ⟨Try.f66.name, by decide, Try.func66.trans (congrArg some (by kernel_rfl))⟩
  f97 := ⟨Try.f68.name, by decide, Try.func68.trans (congrArg some (by kernel_rfl))⟩
  t0 := Try.underlying0
  a0 := Try.isAgg0
  z0 := Try.sizeOf0
  v0 := Try.zeroValue0
  t3 := Try.underlying3
  a3 := Try.isAgg3
  z3 := Try.sizeOf3
  v3 := Try.zeroValue3
  t4 := Try.underlying4
  a4 := Try.isAgg4
  z4 := Try.sizeOf4
  v4 := Try.zeroValue4
  t5 := Try.underlying5
  a5 := Try.isAgg5
  z5 := Try.sizeOf5
  v5 := Try.zeroValue5
  t9 := Try.underlying9
  a9 := Try.isAgg9
  z9 := Try.sizeOf9
  v9 := Try.zeroValue9
  t25 := Try.underlying22
  a25 := Try.isAgg22
  z25 := Try.sizeOf22
  v25 := Try.zeroValue22
  t26 := Try.underlying25
  a26 := Try.isAgg25
  z26 := Try.sizeOf25
  v26 := Try.zeroValue25
  t44 := Try.underlying64
  a44 := Try.isAgg64
  z44 := Try.sizeOf64
  v44 := Try.zeroValue64
  t51 := Try.underlying56
  a51 := Try.isAgg56
  z51 := Try.sizeOf56
  v51 := Try.zeroValue56
  t60 := Try.underlying58
  a60 := Try.isAgg58
  z60 := Try.sizeOf58
  v60 := Try.zeroValue58
  t61 := Try.underlying59
  a61 := Try.isAgg59
  z61 := Try.sizeOf59
  v61 := Try.zeroValue59
  t67 := Try.underlying67
  a67 := Try.isAgg67
  z67 := Try.sizeOf67
  v67 := Try.zeroValue67
  t69 := Try.underlying69
  a69 := Try.isAgg69
  z69 := Try.sizeOf69
  v69 := Try.zeroValue69
  t75 := Try.underlying70
  a75 := Try.isAgg70
  z75 := Try.sizeOf70
  v75 := Try.zeroValue70
  t79 := Try.underlying74
  a79 := Try.isAgg74
  z79 := Try.sizeOf74
  v79 := Try.zeroValue74
  t83 := Try.underlying77
  a83 := Try.isAgg77
  z83 := Try.sizeOf77
  v83 := Try.zeroValue77
  t84 := Try.underlying78
  a84 := Try.isAgg78
  z84 := Try.sizeOf78
  v84 := Try.zeroValue78 }

def lay_laysContains_ren : Go.Shelf.Ren := ⟨fun | 32 => 30 | 30 => 45 | n => n, fun | 25 => 22 | 26 => 25 | 4 => 4 | 3 => 3 | 0 => 0 | n => n, fun | n => n⟩

theorem lay_laysContains : Go.Proofs.SlLaysN.n32 Try.prog lay_laysContains_ren := {
  mixed := by kernel_rfl
  f30 := ⟨Try.f45.name, by decide, Try.func45.trans (congrArg some (by kernel_rfl))⟩
  f32 := ⟨Try.f30.name, by decide, Try.func30.trans (congrArg some (by kernel_rfl))⟩
  t0 := Try.underlying0
  a0 := Try.isAgg0
  z0 := Try.sizeOf0
  v0 := Try.zeroValue0
  t3 := Try.underlying3
  a3 := Try.isAgg3
  z3 := Try.sizeOf3
  v3 := Try.zeroValue3
  t4 := Try.underlying4
  a4 := Try.isAgg4
  z4 := Try.sizeOf4
  v4 := Try.zeroValue4
  t25 := Try.underlying22
  a25 := Try.isAgg22
  z25 := Try.sizeOf22
  v25 := Try.zeroValue22
  t26 := Try.underlying25
  a26 := Try.isAgg25
  z26 := Try.sizeOf25
  v26 := Try.zeroValue25 }


end Go.Proofs.Ytkjkndpglbcgfaa
