/- The library's contract of slices.Sort at this dump, in plain words: laid by the kit's own command. -/
import Derived.Shelf.SlGeneric
import Derived.Shelf.SortG.Plain
import Derived.Shelf.SortG.SortNone
import Derived.Ground.SlgnProg
import Derived.Test.YtfkommjlmolniaaGreatDoorProg
namespace Go.Proofs
open Go.Shelf
def Tryz.sortIntLaid_ren : Go.Shelf.Ren := ⟨fun | 53 => 52 | 64 => 71 | 63 => 70 | 78 => 107 | 79 => 108 | 70 => 98 | 71 => 99 | 72 => 100 | 73 => 101 | 74 => 102 | 75 => 103 | 59 => 104 | 76 => 105 | 77 => 106 | 88 => 124 | 89 => 125 | 90 => 126 | 91 => 127 | 92 => 128 | 68 => 129 | 96 => 137 | n => n, fun | 22 => 56 | 23 => 2 | 3 => 3 | 51 => 111 | 0 => 0 | 67 => 169 | 69 => 41 | 4 => 4 | 61 => 162 | 60 => 161 | 44 => 131 | 5 => 5 | 9 => 9 | 75 => 184 | 79 => 188 | 83 => 200 | 84 => 201 | n => n, fun | n => n⟩
theorem Tryz.sortIntLaid : Go.Proofs.SlLaysN.n53 Tryz.prog Tryz.sortIntLaid_ren := {
  mixed := by kernel_rfl
  f53 := ⟨Tryz.f52.name, by decide, Tryz.func52.trans (congrArg some (by kernel_rfl))⟩
  f59 := ⟨Tryz.f104.name, by decide, Tryz.func104.trans (congrArg some (by kernel_rfl))⟩
  f63 := ⟨Tryz.f70.name, by decide, Tryz.func70.trans (congrArg some (by kernel_rfl))⟩
  f64 := Tryz.func71.trans (congrArg some (by kernel_rfl))
  f68 := ⟨Tryz.f129.name, by decide, Tryz.func129.trans (congrArg some (by kernel_rfl))⟩
  f70 := ⟨Tryz.f98.name, by decide, Tryz.func98.trans (congrArg some (by kernel_rfl))⟩
  f71 := ⟨Tryz.f99.name, by decide, Tryz.func99.trans (congrArg some (by kernel_rfl))⟩
  f72 := ⟨Tryz.f100.name, by decide, Tryz.func100.trans (congrArg some (by kernel_rfl))⟩
  f73 := ⟨Tryz.f101.name, by decide, Tryz.func101.trans (congrArg some (by kernel_rfl))⟩
  f74 := ⟨Tryz.f102.name, by decide, Tryz.func102.trans (congrArg some (by kernel_rfl))⟩
  f75 := ⟨Tryz.f103.name, by decide, Tryz.func103.trans (congrArg some (by kernel_rfl))⟩
  f76 := ⟨Tryz.f105.name, by decide, Tryz.func105.trans (congrArg some (by kernel_rfl))⟩
  f77 := ⟨Tryz.f106.name, by decide, Tryz.func106.trans (congrArg some (by kernel_rfl))⟩
  f78 := Tryz.func107.trans (congrArg some (by kernel_rfl))
  f79 := Tryz.func108.trans (congrArg some (by kernel_rfl))
  f88 := ⟨Tryz.f124.name, by decide, Tryz.func124.trans (congrArg some (by kernel_rfl))⟩
  f89 := Tryz.func125.trans (congrArg some (by kernel_rfl))
  f90 := Tryz.func126.trans (congrArg some (by kernel_rfl))
  f91 := ⟨Tryz.f127.name, by decide, Tryz.func127.trans (congrArg some (by kernel_rfl))⟩
  f92 := ⟨Tryz.f128.name, by decide, Tryz.func128.trans (congrArg some (by kernel_rfl))⟩
  f96 := ⟨Tryz.f137.name, by decide, Tryz.func137.trans (congrArg some (by kernel_rfl))⟩
  t0 := Tryz.underlying0
  a0 := Tryz.isAgg0
  z0 := Tryz.sizeOf0
  v0 := Tryz.zeroValue0
  t3 := Tryz.underlying3
  a3 := Tryz.isAgg3
  z3 := Tryz.sizeOf3
  v3 := Tryz.zeroValue3
  t4 := Tryz.underlying4
  a4 := Tryz.isAgg4
  z4 := Tryz.sizeOf4
  v4 := Tryz.zeroValue4
  t5 := Tryz.underlying5
  a5 := Tryz.isAgg5
  z5 := Tryz.sizeOf5
  v5 := Tryz.zeroValue5
  t9 := Tryz.underlying9
  a9 := Tryz.isAgg9
  z9 := Tryz.sizeOf9
  v9 := Tryz.zeroValue9
  t22 := Tryz.underlying56
  a22 := Tryz.isAgg56
  z22 := Tryz.sizeOf56
  v22 := Tryz.zeroValue56
  t23 := Tryz.underlying2
  a23 := Tryz.isAgg2
  z23 := Tryz.sizeOf2
  v23 := Tryz.zeroValue2
  t44 := Tryz.underlying131
  a44 := Tryz.isAgg131
  z44 := Tryz.sizeOf131
  v44 := Tryz.zeroValue131
  t51 := Tryz.underlying111
  a51 := Tryz.isAgg111
  z51 := Tryz.sizeOf111
  v51 := Tryz.zeroValue111
  t60 := Tryz.underlying161
  a60 := Tryz.isAgg161
  z60 := Tryz.sizeOf161
  v60 := Tryz.zeroValue161
  t61 := Tryz.underlying162
  a61 := Tryz.isAgg162
  z61 := Tryz.sizeOf162
  v61 := Tryz.zeroValue162
  t67 := Tryz.underlying169
  a67 := Tryz.isAgg169
  z67 := Tryz.sizeOf169
  v67 := Tryz.zeroValue169
  t69 := Tryz.underlying41
  a69 := Tryz.isAgg41
  z69 := Tryz.sizeOf41
  v69 := Tryz.zeroValue41
  t75 := Tryz.underlying184
  a75 := Tryz.isAgg184
  z75 := Tryz.sizeOf184
  v75 := Tryz.zeroValue184
  t79 := Tryz.underlying188
  a79 := Tryz.isAgg188
  z79 := Tryz.sizeOf188
  v79 := Tryz.zeroValue188
  t83 := Tryz.underlying200
  a83 := Tryz.isAgg200
  z83 := Tryz.sizeOf200
  v83 := Tryz.zeroValue200
  t84 := Tryz.underlying201
  a84 := Tryz.isAgg201
  z84 := Tryz.sizeOf201
  v84 := Tryz.zeroValue201 }
end Go.Proofs
