/- The library's contracts on sorted keys at this dump,. -/
import Derived.Test.YtddcbeeldjjmeaaGreatProg
import Derived.WalkKit
import Derived.Ground.NamesProg
import Derived.Shelf.SlGeneric
import Derived.Shelf.SlIter.Nil
import Derived.Shelf.SortM.Plain
import Derived.Shelf.SortM.SortNone
import Derived.Ground.GgzProg
import Derived.Ground.SlgmProg
namespace Go.Proofs
open Go.Shelf
def Tryz.keysL_ren : Go.Shelf.Ren:= ⟨fun | 7 => 34 | 10 => 47 | n => n, fun | 23 => 71 | 26 => 9 | 3 => 70 | 28 => 77 | 0 => 0 | 27 => 76 | 33 => 95 | 4 => 4 | n => n, fun | n => n⟩
theorem Tryz.keysL : Go.Proofs.SlLaysZ.n7 Tryz.prog Tryz.keysL_ren:= {
 mixed:= by kernel_rfl
 f7:= ⟨Tryz.f34.name, by decide, Tryz.func34.trans (congrArg some (by kernel_rfl))⟩
 f10:= ⟨Tryz.f47.name, by decide, Tryz.func47.trans (congrArg some (by kernel_rfl))⟩
 t0:= Tryz.underlying0
 a0:= Tryz.isAgg0
 z0:= Tryz.sizeOf0
 v0:= Tryz.zeroValue0
 t4:= Tryz.underlying4
 a4:= Tryz.isAgg4
 z4:= Tryz.sizeOf4
 v4:= Tryz.zeroValue4
 t23:= Tryz.underlying71
 a23:= Tryz.isAgg71
 z23:= Tryz.sizeOf71
 v23:= Tryz.zeroValue71
 t26:= Tryz.underlying9
 a26:= Tryz.isAgg9
 z26:= Tryz.sizeOf9
 v26:= Tryz.zeroValue9
 t27:= Tryz.underlying76
 a27:= Tryz.isAgg76
 z27:= Tryz.sizeOf76
 v27:= Tryz.zeroValue76
 t28:= Tryz.underlying77
 a28:= Tryz.isAgg77
 z28:= Tryz.sizeOf77
 v28:= Tryz.zeroValue77
 t33:= Tryz.underlying95
 a33:= Tryz.isAgg95
 z33:= Tryz.sizeOf95
 v33:= Tryz.zeroValue95 }
def Tryz.sortedL_ren : Go.Shelf.Ren:= ⟨fun | 6 => 33 | 8 => 45 | 9 => 46 | 11 => 55 | 13 => 57 | 12 => 56 | 23 => 78 | 24 => 79 | 14 => 69 | 15 => 70 | 16 => 71 | 17 => 72 | 18 => 73 | 19 => 74 | 20 => 75 | 21 => 76 | 22 => 77 | 25 => 88 | 26 => 89 | 27 => 90 | 28 => 91 | 29 => 92 | 30 => 93 | 31 => 113 | n => n, fun | 26 => 9 | 28 => 77 | 24 => 59 | 0 => 0 | 3 => 3 | 37 => 103 | 48 => 125 | 50 => 127 | 4 => 4 | 40 => 118 | 39 => 117 | 45 => 122 | 5 => 5 | 9 => 9 | 51 => 139 | 55 => 143 | 57 => 160 | 58 => 161 | 33 => 95 | n => n, fun | n => n⟩
theorem Tryz.sortedL : Go.Proofs.SlLaysZ.n6 Tryz.prog Tryz.sortedL_ren:= {
 mixed:= by kernel_rfl
 f6:= ⟨Tryz.f33.name, by decide, Tryz.func33.trans (congrArg some (by kernel_rfl))⟩
 f8:= ⟨Tryz.f45.name, by decide, Tryz.func45.trans (congrArg some (by kernel_rfl))⟩
 f11:= ⟨Tryz.f55.name, by decide, Tryz.func55.trans (congrArg some (by kernel_rfl))⟩
 t0:= Tryz.underlying0
 a0:= Tryz.isAgg0
 z0:= Tryz.sizeOf0
 v0:= Tryz.zeroValue0
 t24:= Tryz.underlying59
 a24:= Tryz.isAgg59
 z24:= Tryz.sizeOf59
 v24:= Tryz.zeroValue59
 t26:= Tryz.underlying9
 a26:= Tryz.isAgg9
 z26:= Tryz.sizeOf9
 v26:= Tryz.zeroValue9
 t28:= Tryz.underlying77
 a28:= Tryz.isAgg77
 z28:= Tryz.sizeOf77
 v28:= Tryz.zeroValue77
 i26:= by kernel_rfl }
def Tryz.sortL_ren : Go.Shelf.Ren:= ⟨fun | 6 => 46 | 8 => 57 | 9 => 56 | 19 => 78 | 20 => 79 | 21 => 69 | 22 => 70 | 23 => 71 | 24 => 72 | 25 => 73 | 26 => 74 | 27 => 75 | 28 => 76 | 29 => 77 | 36 => 88 | 31 => 89 | 32 => 90 | 37 => 91 | 38 => 92 | 39 => 93 | 41 => 113 | n => n, fun | 27 => 59 | 29 => 9 | 3 => 3 | 32 => 103 | 26 => 59 | 0 => 0 | 44 => 125 | 46 => 127 | 4 => 4 | 36 => 118 | 35 => 117 | 41 => 122 | 5 => 5 | 9 => 9 | 53 => 139 | 57 => 143 | 63 => 160 | 64 => 161 | n => n, fun | n => n⟩
theorem Tryz.sortL : Go.Proofs.SlLaysM.n6 Tryz.prog Tryz.sortL_ren:= {
 mixed:= by kernel_rfl
 f6:= ⟨Tryz.f46.name, by decide, Tryz.func46.trans (congrArg some (by kernel_rfl))⟩
 f8:= Tryz.func57.trans (congrArg some (by kernel_rfl))
 f9:= ⟨Tryz.f56.name, by decide, Tryz.func56.trans (congrArg some (by kernel_rfl))⟩
 f19:= Tryz.func78.trans (congrArg some (by kernel_rfl))
 f20:= Tryz.func79.trans (congrArg some (by kernel_rfl))
 f21:= ⟨Tryz.f69.name, by decide, Tryz.func69.trans (congrArg some (by kernel_rfl))⟩
 f22:= ⟨Tryz.f70.name, by decide, Tryz.func70.trans (congrArg some (by kernel_rfl))⟩
 f23:= ⟨Tryz.f71.name, by decide, Tryz.func71.trans (congrArg some (by kernel_rfl))⟩
 f24:= ⟨Tryz.f72.name, by decide, Tryz.func72.trans (congrArg some (by kernel_rfl))⟩
 f25:= ⟨Tryz.f73.name, by decide, Tryz.func73.trans (congrArg some (by kernel_rfl))⟩
 f26:= ⟨Tryz.f74.name, by decide, Tryz.func74.trans (congrArg some (by kernel_rfl))⟩
 f27:= ⟨Tryz.f75.name, by decide, Tryz.func75.trans (congrArg some (by kernel_rfl))⟩
 f28:= ⟨Tryz.f76.name, by decide, Tryz.func76.trans (congrArg some (by kernel_rfl))⟩
 f29:= ⟨Tryz.f77.name, by decide, Tryz.func77.trans (congrArg some (by kernel_rfl))⟩
 f31:= Tryz.func89.trans (congrArg some (by kernel_rfl))
 f32:= Tryz.func90.trans (congrArg some (by kernel_rfl))
 f36:= ⟨Tryz.f88.name, by decide, Tryz.func88.trans (congrArg some (by kernel_rfl))⟩
 f37:= ⟨Tryz.f91.name, by decide, Tryz.func91.trans (congrArg some (by kernel_rfl))⟩
 f38:= ⟨Tryz.f92.name, by decide, Tryz.func92.trans (congrArg some (by kernel_rfl))⟩
 f39:= ⟨Tryz.f93.name, by decide, Tryz.func93.trans (congrArg some (by kernel_rfl))⟩
 f41:= ⟨Tryz.f113.name, by decide, Tryz.func113.trans (congrArg some (by kernel_rfl))⟩
 t0:= Tryz.underlying0
 a0:= Tryz.isAgg0
 z0:= Tryz.sizeOf0
 v0:= Tryz.zeroValue0
 t3:= Tryz.underlying3
 a3:= Tryz.isAgg3
 z3:= Tryz.sizeOf3
 v3:= Tryz.zeroValue3
 t4:= Tryz.underlying4
 a4:= Tryz.isAgg4
 z4:= Tryz.sizeOf4
 v4:= Tryz.zeroValue4
 t5:= Tryz.underlying5
 a5:= Tryz.isAgg5
 z5:= Tryz.sizeOf5
 v5:= Tryz.zeroValue5
 t9:= Tryz.underlying9
 a9:= Tryz.isAgg9
 z9:= Tryz.sizeOf9
 v9:= Tryz.zeroValue9
 t26:= Tryz.underlying59
 a26:= Tryz.isAgg59
 z26:= Tryz.sizeOf59
 v26:= Tryz.zeroValue59
 t27:= Tryz.underlying59
 a27:= Tryz.isAgg59
 z27:= Tryz.sizeOf59
 v27:= Tryz.zeroValue59
 t29:= Tryz.underlying9
 a29:= Tryz.isAgg9
 z29:= Tryz.sizeOf9
 v29:= Tryz.zeroValue9
 t32:= Tryz.underlying103
 a32:= Tryz.isAgg103
 z32:= Tryz.sizeOf103
 v32:= Tryz.zeroValue103
 t35:= Tryz.underlying117
 a35:= Tryz.isAgg117
 z35:= Tryz.sizeOf117
 v35:= Tryz.zeroValue117
 t36:= Tryz.underlying118
 a36:= Tryz.isAgg118
 z36:= Tryz.sizeOf118
 v36:= Tryz.zeroValue118
 t41:= Tryz.underlying122
 a41:= Tryz.isAgg122
 z41:= Tryz.sizeOf122
 v41:= Tryz.zeroValue122
 t44:= Tryz.underlying125
 a44:= Tryz.isAgg125
 z44:= Tryz.sizeOf125
 v44:= Tryz.zeroValue125
 t46:= Tryz.underlying127
 a46:= Tryz.isAgg127
 z46:= Tryz.sizeOf127
 v46:= Tryz.zeroValue127
 t53:= Tryz.underlying139
 a53:= Tryz.isAgg139
 z53:= Tryz.sizeOf139
 v53:= Tryz.zeroValue139
 t57:= Tryz.underlying143
 a57:= Tryz.isAgg143
 z57:= Tryz.sizeOf143
 v57:= Tryz.zeroValue143
 t63:= Tryz.underlying160
 a63:= Tryz.isAgg160
 z63:= Tryz.sizeOf160
 v63:= Tryz.zeroValue160
 t64:= Tryz.underlying161
 a64:= Tryz.isAgg161
 z64:= Tryz.sizeOf161
 v64:= Tryz.zeroValue161 }
end Go.Proofs
