/- THE LAW's ROWS OF PAIRS, alone: with one, at its place. -/
import Derived.Test.YtddcbeeldjjmeaaGreatPart16
import Derived.Test.YtddcbeeldjjmeaaGreatProg
import Derived.WalkKit
import Derived.Ground.NamesProg
import Derived.Shelf.SlGeneric
import Derived.Shelf.SlIter.Nil
import Derived.Shelf.SortM.Plain
import Derived.Shelf.SortM.SortNone
import Derived.Ground.GgzProg
import Derived.Ground.SlgmProg
import Derived.Test.YtddcbeeldjjmeaaGreatChecked
import Derived.Test.YtddcbeeldjjmeaaGreatPart9
import Derived.KernelRfl
import Derived.Test.YtddcbeeldjjmeaaGreatPart10
import Derived.Test.YtddcbeeldjjmeaaGreatPart14
import Derived.Deep.RegionLaw
namespace Go.Proofs.YtddcbeeldjjmeaaGreat
open Go Go.RowKit Go.Nest Go.Tm Go.Proofs.YtddcbeeldjjmeaaGreat.Tw Go.Maps
set_option linter.unusedVariables false
set_option linter.unusedSimpArgs false
theorem bytesLess_klt : ∀ (a b : List UInt8), Op.bytesLess a b = klt a b
 | [], [] => rfl
 | _ :: _, [] => rfl
 | [], _ :: _ => rfl
 | a :: x, b :: y => by
   simp only [Op.bytesLess, klt]
   by_cases e : a = b
   · subst e
     rw [if_pos rfl, bytesLess_klt x y]
     have : decide (a < a) = false := decide_eq_false (fun h => by rw [UInt8.lt_iff_toNat_lt] at h; omega)
     rw [this]; simp
   · rw [if_neg e]
     have e2 : (a == b) = false := beq_eq_false_iff_ne.2 e
     rw [e2]
     simp [UInt8.lt_iff_toNat_lt]
theorem tw_facts {α : Type} (p : α -> Bool) : ∀ (l : List α), (∀ i (h : i < l.length), i < (l.takeWhile p).length -> p l[i] = true) /\ ∀ h : (l.takeWhile p).length < l.length, p (l[(l.takeWhile p).length]'h) = false
 | [] => ⟨fun i h => absurd h (Nat.not_lt_zero _), fun h => absurd h (Nat.not_lt_zero _)⟩
 | x :: l => by
   obtain ⟨h1, h2⟩ := tw_facts p l
   cases hx : p x with
   | true =>
     have e : (x :: l).takeWhile p = x :: l.takeWhile p := List.takeWhile_cons_of_pos hx
     rw [e]
     refine ⟨fun i h hi => ?_, fun h => ?_⟩
     · cases i with
       | zero => exact hx
       | succ i => exact h1 i (by simpa using h) (by simpa using hi)
     · exact h2 (by simpa using h)
   | false =>
     have e : (x :: l).takeWhile p = [] := List.takeWhile_cons_of_neg (by rw [hx]; decide)
     rw [e]
     exact ⟨fun i h hi => absurd hi (Nat.not_lt_zero _), fun h => hx⟩
def pput (x y : ByteArray) (ps : List (ByteArray × ByteArray)) : List (ByteArray × ByteArray) :=
 (pwo x ps).takeWhile (fun z => Op.bytesLess z.1.toList x.toList) ++ (x, y) :: (pwo x ps).dropWhile (fun z => Op.bytesLess z.1.toList x.toList)
theorem put_any {w : World} {v : Value} {x y : ByteArray} {ps : List (ByteArray × ByteArray)} (hr : PRow w v ps) (hl : ps.length <= 50000) :
   Calls Tryz.prog 16 #[v, .agg #[.string x, .string y]] w fun e w' => ∃ v', e = .returned v' /\ OwnP w.heap.size w' v' (pput x y ps) /\ Below w.heap.size w w' := by
 have hle := pwo_le x ps
 have hf := tw_facts (fun z : ByteArray × ByteArray => Op.bytesLess z.1.toList x.toList) (pwo x ps)
 have hs := List.takeWhile_append_dropWhile (p := fun z : ByteArray × ByteArray => Op.bytesLess z.1.toList x.toList) (l := pwo x ps)
 have ht : (pwo x ps).take ((pwo x ps).takeWhile fun z => Op.bytesLess z.1.toList x.toList).length = (pwo x ps).takeWhile fun z => Op.bytesLess z.1.toList x.toList := by
   conv => lhs; arg 2; rw [<- hs]
   exact List.take_left' rfl
 have hd : (pwo x ps).drop ((pwo x ps).takeWhile fun z => Op.bytesLess z.1.toList x.toList).length = (pwo x ps).dropWhile fun z => Op.bytesLess z.1.toList x.toList := by
   conv => lhs; arg 2; rw [<- hs]
   exact List.drop_left' rfl
 have h := put_raw (w := w) (v := v) (x := x) (y := y) (os := pwo x ps) (at' := ((pwo x ps).takeWhile fun z => Op.bytesLess z.1.toList x.toList).length) rfl (by omega)
   (by have := congrArg List.length hs; rw [List.length_append] at this; omega) hf.1 hf.2
   (fun w1 hB => without_row (hr.same fun a u ha => by rw [hB.cell (Tw.cell_lt ha)]; exact ha) (by omega))
 rw [ht, hd] at h
 exact h
end Go.Proofs.YtddcbeeldjjmeaaGreat
namespace Go.Proofs
open Go.Shelf
def Tryz.keysL_ren : Go.Shelf.Ren := ⟨fun | 7 => 34 | 10 => 47 | n => n, fun | 23 => 71 | 26 => 9 | 3 => 70 | 28 => 77 | 0 => 0 | 27 => 76 | 33 => 95 | 4 => 4 | n => n, fun | n => n⟩
theorem Tryz.keysL : Go.Proofs.SlLaysZ.n7 Tryz.prog Tryz.keysL_ren := {
 mixed := by kernel_rfl
 f7 := ⟨Tryz.f34.name, by decide, Tryz.func34.trans (congrArg some (by kernel_rfl))⟩
 f10 := ⟨Tryz.f47.name, by decide, Tryz.func47.trans (congrArg some (by kernel_rfl))⟩
 t0 := Tryz.underlying0
 a0 := Tryz.isAgg0
 z0 := Tryz.sizeOf0
 v0 := Tryz.zeroValue0
 t4 := Tryz.underlying4
 a4 := Tryz.isAgg4
 z4 := Tryz.sizeOf4
 v4 := Tryz.zeroValue4
 t23 := Tryz.underlying71
 a23 := Tryz.isAgg71
 z23 := Tryz.sizeOf71
 v23 := Tryz.zeroValue71
 t26 := Tryz.underlying9
 a26 := Tryz.isAgg9
 z26 := Tryz.sizeOf9
 v26 := Tryz.zeroValue9
 t27 := Tryz.underlying76
 a27 := Tryz.isAgg76
 z27 := Tryz.sizeOf76
 v27 := Tryz.zeroValue76
 t28 := Tryz.underlying77
 a28 := Tryz.isAgg77
 z28 := Tryz.sizeOf77
 v28 := Tryz.zeroValue77
 t33 := Tryz.underlying95
 a33 := Tryz.isAgg95
 z33 := Tryz.sizeOf95
 v33 := Tryz.zeroValue95 }
def Tryz.sortedL_ren : Go.Shelf.Ren := ⟨fun | 6 => 33 | 8 => 45 | 9 => 46 | 11 => 55 | 13 => 57 | 12 => 56 | 23 => 78 | 24 => 79 | 14 => 69 | 15 => 70 | 16 => 71 | 17 => 72 | 18 => 73 | 19 => 74 | 20 => 75 | 21 => 76 | 22 => 77 | 25 => 88 | 26 => 89 | 27 => 90 | 28 => 91 | 29 => 92 | 30 => 93 | 31 => 113 | n => n, fun | 26 => 9 | 28 => 77 | 24 => 59 | 0 => 0 | 3 => 3 | 37 => 103 | 48 => 125 | 50 => 127 | 4 => 4 | 40 => 118 | 39 => 117 | 45 => 122 | 5 => 5 | 9 => 9 | 51 => 139 | 55 => 143 | 57 => 160 | 58 => 161 | 33 => 95 | n => n, fun | n => n⟩
theorem Tryz.sortedL : Go.Proofs.SlLaysZ.n6 Tryz.prog Tryz.sortedL_ren := {
 mixed := by kernel_rfl
 f6 := ⟨Tryz.f33.name, by decide, Tryz.func33.trans (congrArg some (by kernel_rfl))⟩
 f8 := ⟨Tryz.f45.name, by decide, Tryz.func45.trans (congrArg some (by kernel_rfl))⟩
 f11 := ⟨Tryz.f55.name, by decide, Tryz.func55.trans (congrArg some (by kernel_rfl))⟩
 t0 := Tryz.underlying0
 a0 := Tryz.isAgg0
 z0 := Tryz.sizeOf0
 v0 := Tryz.zeroValue0
 t24 := Tryz.underlying59
 a24 := Tryz.isAgg59
 z24 := Tryz.sizeOf59
 v24 := Tryz.zeroValue59
 t26 := Tryz.underlying9
 a26 := Tryz.isAgg9
 z26 := Tryz.sizeOf9
 v26 := Tryz.zeroValue9
 t28 := Tryz.underlying77
 a28 := Tryz.isAgg77
 z28 := Tryz.sizeOf77
 v28 := Tryz.zeroValue77
 i26 := by kernel_rfl }
def Tryz.sortL_ren : Go.Shelf.Ren := ⟨fun | 6 => 46 | 8 => 57 | 9 => 56 | 19 => 78 | 20 => 79 | 21 => 69 | 22 => 70 | 23 => 71 | 24 => 72 | 25 => 73 | 26 => 74 | 27 => 75 | 28 => 76 | 29 => 77 | 36 => 88 | 31 => 89 | 32 => 90 | 37 => 91 | 38 => 92 | 39 => 93 | 41 => 113 | n => n, fun | 27 => 59 | 29 => 9 | 3 => 3 | 32 => 103 | 26 => 59 | 0 => 0 | 44 => 125 | 46 => 127 | 4 => 4 | 36 => 118 | 35 => 117 | 41 => 122 | 5 => 5 | 9 => 9 | 53 => 139 | 57 => 143 | 63 => 160 | 64 => 161 | n => n, fun | n => n⟩
theorem Tryz.sortL : Go.Proofs.SlLaysM.n6 Tryz.prog Tryz.sortL_ren := {
 mixed := by kernel_rfl
 f6 := ⟨Tryz.f46.name, by decide, Tryz.func46.trans (congrArg some (by kernel_rfl))⟩
 f8 := Tryz.func57.trans (congrArg some (by kernel_rfl))
 f9 := ⟨Tryz.f56.name, by decide, Tryz.func56.trans (congrArg some (by kernel_rfl))⟩
 f19 := Tryz.func78.trans (congrArg some (by kernel_rfl))
 f20 := Tryz.func79.trans (congrArg some (by kernel_rfl))
 f21 := ⟨Tryz.f69.name, by decide, Tryz.func69.trans (congrArg some (by kernel_rfl))⟩
 f22 := ⟨Tryz.f70.name, by decide, Tryz.func70.trans (congrArg some (by kernel_rfl))⟩
 f23 := ⟨Tryz.f71.name, by decide, Tryz.func71.trans (congrArg some (by kernel_rfl))⟩
 f24 := ⟨Tryz.f72.name, by decide, Tryz.func72.trans (congrArg some (by kernel_rfl))⟩
 f25 := ⟨Tryz.f73.name, by decide, Tryz.func73.trans (congrArg some (by kernel_rfl))⟩
 f26 := ⟨Tryz.f74.name, by decide, Tryz.func74.trans (congrArg some (by kernel_rfl))⟩
 f27 := ⟨Tryz.f75.name, by decide, Tryz.func75.trans (congrArg some (by kernel_rfl))⟩
 f28 := ⟨Tryz.f76.name, by decide, Tryz.func76.trans (congrArg some (by kernel_rfl))⟩
 f29 := ⟨Tryz.f77.name, by decide, Tryz.func77.trans (congrArg some (by kernel_rfl))⟩
 f31 := Tryz.func89.trans (congrArg some (by kernel_rfl))
 f32 := Tryz.func90.trans (congrArg some (by kernel_rfl))
 f36 := ⟨Tryz.f88.name, by decide, Tryz.func88.trans (congrArg some (by kernel_rfl))⟩
 f37 := ⟨Tryz.f91.name, by decide, Tryz.func91.trans (congrArg some (by kernel_rfl))⟩
 f38 := ⟨Tryz.f92.name, by decide, Tryz.func92.trans (congrArg some (by kernel_rfl))⟩
 f39 := ⟨Tryz.f93.name, by decide, Tryz.func93.trans (congrArg some (by kernel_rfl))⟩
 f41 := ⟨Tryz.f113.name, by decide, Tryz.func113.trans (congrArg some (by kernel_rfl))⟩
 t0 := Tryz.underlying0
 a0 := Tryz.isAgg0
 z0 := Tryz.sizeOf0
 v0 := Tryz.zeroValue0
 t3 := Tryz.underlying3
 a3 := Tryz.isAgg3
 z3 := Tryz.sizeOf3
 v3 := Tryz.zeroValue3
 t4 := Tryz.underlying4
 a4 := Tryz.isAgg4
 z4 := Tryz.sizeOf4
 v4 := Tryz.zeroValue4
 t5 := Tryz.underlying5
 a5 := Tryz.isAgg5
 z5 := Tryz.sizeOf5
 v5 := Tryz.zeroValue5
 t9 := Tryz.underlying9
 a9 := Tryz.isAgg9
 z9 := Tryz.sizeOf9
 v9 := Tryz.zeroValue9
 t26 := Tryz.underlying59
 a26 := Tryz.isAgg59
 z26 := Tryz.sizeOf59
 v26 := Tryz.zeroValue59
 t27 := Tryz.underlying59
 a27 := Tryz.isAgg59
 z27 := Tryz.sizeOf59
 v27 := Tryz.zeroValue59
 t29 := Tryz.underlying9
 a29 := Tryz.isAgg9
 z29 := Tryz.sizeOf9
 v29 := Tryz.zeroValue9
 t32 := Tryz.underlying103
 a32 := Tryz.isAgg103
 z32 := Tryz.sizeOf103
 v32 := Tryz.zeroValue103
 t35 := Tryz.underlying117
 a35 := Tryz.isAgg117
 z35 := Tryz.sizeOf117
 v35 := Tryz.zeroValue117
 t36 := Tryz.underlying118
 a36 := Tryz.isAgg118
 z36 := Tryz.sizeOf118
 v36 := Tryz.zeroValue118
 t41 := Tryz.underlying122
 a41 := Tryz.isAgg122
 z41 := Tryz.sizeOf122
 v41 := Tryz.zeroValue122
 t44 := Tryz.underlying125
 a44 := Tryz.isAgg125
 z44 := Tryz.sizeOf125
 v44 := Tryz.zeroValue125
 t46 := Tryz.underlying127
 a46 := Tryz.isAgg127
 z46 := Tryz.sizeOf127
 v46 := Tryz.zeroValue127
 t53 := Tryz.underlying139
 a53 := Tryz.isAgg139
 z53 := Tryz.sizeOf139
 v53 := Tryz.zeroValue139
 t57 := Tryz.underlying143
 a57 := Tryz.isAgg143
 z57 := Tryz.sizeOf143
 v57 := Tryz.zeroValue143
 t63 := Tryz.underlying160
 a63 := Tryz.isAgg160
 z63 := Tryz.sizeOf160
 v63 := Tryz.zeroValue160
 t64 := Tryz.underlying161
 a64 := Tryz.isAgg161
 z64 := Tryz.sizeOf161
 v64 := Tryz.zeroValue161 }
end Go.Proofs
namespace Go.Proofs.YtddcbeeldjjmeaaGreat
open Go Go.Eq
def fnsM : List Nat := [6, 7, 8, 9, 10, 11, 12, 13, 14, 15, 16, 17, 18, 20, 21, 22, 23, 24, 25, 26, 27, 28, 29, 30, 31, 32, 33, 34, 35, 36, 38, 39, 40, 41, 42, 43, 44, 45, 46, 47, 48, 49, 51, 52, 53, 54, 55, 56, 57, 58, 59, 60, 61, 62, 64, 65, 66, 67, 68, 69, 70, 71, 72, 73, 74, 75, 76, 77, 78, 79, 84, 85, 86, 87, 88, 89, 90, 91, 92, 93, 112, 113]
def outsM : List Nat := [3, 4, 5, 19]
def orcsM : List Nat := [3, 4, 5, 19, 37]
theorem fnsM_fit : fnsM.all (bodyR Tryz.prog true true fnsM) = true := by kernel_rfl
theorem zerosM_fit : zerosB Tryz.prog = true := by kernel_rfl
theorem globsM_fit : Tryz.prog.globals.size = 0 := by kernel_rfl
theorem outsM_fit : outsM.all (bodyO Tryz.prog fnsM orcsM) = true := by kernel_rfl
end Go.Proofs.YtddcbeeldjjmeaaGreat
namespace Go.Proofs.YtddcbeeldjjmeaaGreat
open Go Go.RowKit Go.Nest Go.Tm Go.Proofs.YtddcbeeldjjmeaaGreat.Tw Go.Maps
set_option linter.unusedVariables false
set_option linter.unusedSimpArgs false
theorem S_inj {a b : List UInt8} (h : Tw.S a = Tw.S b) : a = b := by
 have := congrArg (fun x : ByteArray => x.data.toList) h
 simpa [Tw.S] using this
theorem S_list (b : ByteArray) : Tw.S b.data.toList = b := bytes_ext (by simp [Tw.S])
theorem S_toList (a : List UInt8) : (Tw.S a).toList = a := by rw [Lib.toList_data]; simp [Tw.S]
theorem S_data (a : List UInt8) : (Tw.S a).data.toList = a := by simp [Tw.S]
theorem phas_prs (k : List UInt8) (l : KV) : phas (Tw.S k) l.prs = khas k l := by
 induction l with
 | nil => rfl
 | cons x l ih =>
   show (if Tw.S x.1 = Tw.S k then some x.2 else phas (Tw.S k) (KV.prs l)) = if x.1 = k then some x.2 else khas k l
   rw [ih]
   by_cases e : x.1 = k
   · rw [if_pos e, if_pos (by rw [e])]
   · rw [if_neg e, if_neg (fun h => e (S_inj h))]
theorem pwo_prs (k : List UInt8) (l : KV) : pwo (Tw.S k) l.prs = KV.prs (kwo k l) := by
 unfold pwo KV.prs kwo
 rw [List.filter_map]
 congr 1
 refine List.filter_congr fun x _ => ?_
 simp only [Function.comp_apply, ne_eq, decide_not]
 rw [Bool.eq_iff_iff]
 simp only [Bool.not_eq_true', decide_eq_false_iff_not, bne_iff_ne, ne_eq]
 exact ⟨fun h e => h (by rw [e]), fun h e => h (S_inj e)⟩
theorem pput_prs (k : List UInt8) (v : ByteArray) (l : KV) : pput (Tw.S k) v l.prs = KV.prs (kput k v l) := by
 unfold pput kput
 rw [pwo_prs]
 have e : ∀ x : List UInt8 × ByteArray, Op.bytesLess (Tw.S x.1).toList (Tw.S k).toList = klt x.1 k := fun x => by rw [S_toList, S_toList, bytesLess_klt]
 simp only [KV.prs, List.takeWhile_map, List.dropWhile_map, List.map_append, List.map_cons]
 congr 1
 · congr 1
   congr 1
   funext x
   exact e x
 · congr 2
   congr 1
   funext x
   exact e x
theorem prs_inj : ∀ {a b : KV}, a.prs = b.prs -> a = b
 | [], [], _ => rfl
 | [], _ :: _, h => by cases h
 | _ :: _, [], h => by cases h
 | x :: a, y :: b, h => by
   simp only [KV.prs, List.map_cons, List.cons.injEq, Prod.mk.injEq] at h
   obtain ⟨⟨h1, h2⟩, h3⟩ := h
   rw [Prod.ext (S_inj h1) h2, prs_inj (a := a) (b := b) h3]
theorem prs_length (l : KV) : l.prs.length = l.length := by simp [KV.prs]
def ks (i : Nat) : List UInt8 := (keyN i).data.toList
def kall : List (List UInt8) := keys20.map fun x => x.data.toList
theorem ks_S (i : Nat) : Tw.S (ks i) = keyN i := S_list _
theorem ks_mem (i : Nat) (h : i < 20) : ks i ∈ kall := by
 refine List.mem_map.2 ⟨keyN i, ?_, rfl⟩
 unfold keyN
 rw [List.getD_eq_getElem?_getD, List.getElem?_eq_getElem (show i < keys20.length from h)]
 exact List.getElem_mem _
theorem kall_size : ∀ k, k ∈ kall -> k ≠ [] /\ k.length <= 4 := by decide
theorem nodup_le {α : Type} [DecidableEq α] : ∀ (xs ys : List α), xs.Nodup -> (∀ x, x ∈ xs -> x ∈ ys) -> xs.length <= ys.length
 | [], _, _, _ => Nat.zero_le _
 | x :: xs, ys, h, hs => by
   obtain ⟨hx, hn⟩ := List.nodup_cons.1 h
   have hy := hs x List.mem_cons_self
   have := nodup_le xs (ys.erase x) hn fun z hz => (List.mem_erase_of_ne (fun e => hx (by rw [<- e]; exact hz))).2 (hs z (List.mem_cons_of_mem _ hz))
   rw [List.length_erase_of_mem hy] at this
   have := List.length_pos_of_mem hy
   simp only [List.length_cons]
   omega
structure Row (l : KV) : Prop where
 rising : Rising l
 keys : ∀ x, x ∈ l -> x.1 ∈ kall /\ x.2.size <= 20
theorem Row.nil : Row [] := ⟨List.Pairwise.nil, fun x hx => absurd hx List.not_mem_nil⟩
theorem Row.ok {l : KV} (h : Row l) : l.ok := fun x hx => ⟨(kall_size _ (h.keys x hx).1).1, (kall_size _ (h.keys x hx).1).2, by have := (h.keys x hx).2; omega⟩
theorem Row.len {l : KV} (h : Row l) : l.length <= 20 := by
 have h1 : (l.map Prod.fst).Nodup := by
   rw [List.Nodup, List.pairwise_map]
   exact h.rising.imp fun h => klt_ne h
 have := nodup_le (l.map Prod.fst) kall h1 fun x hx => by
   obtain ⟨y, hy, rfl⟩ := List.mem_map.1 hx
   exact (h.keys y hy).1
 rw [List.length_map] at this
 exact this
theorem kwo_sub (k : List UInt8) (l : KV) : ∀ x, x ∈ kwo k l -> x ∈ l := fun x hx => (List.mem_filter.1 hx).1
theorem Row.wo {l : KV} (h : Row l) (k : List UInt8) : Row (kwo k l) := ⟨List.Pairwise.filter _ h.rising, fun x hx => h.keys x (kwo_sub k l x hx)⟩
theorem Row.put {l : KV} (h : Row l) {k : List UInt8} {v : ByteArray} (hk : k ∈ kall) (hv : v.size <= 20) : Row (kput k v l) := by
 refine ⟨h.rising.put, fun x hx => ?_⟩
 rcases mem_kput hx with rfl | ⟨h1, _⟩
 · exact ⟨hk, hv⟩
 · exact h.keys x h1
theorem Row.fits {l : KV} (h : Row l) {t : T ByteArray} (hr : Rep l.bits t) {k : List UInt8} (hk : k ∈ kall) : Fits t (kb k) := by
 refine ⟨⟨l.bits, hr, fun x hx => ?_⟩, by rw [kb_length]; have := (kall_size k hk).2; omega⟩
 obtain ⟨y, _, rfl⟩ := List.mem_map.1 hx
 exact kb_parts _ _
variable {dg : DG}
def chg (F : Lit -> Option Value) (B : KV) (j : List UInt8) : Option ByteArray :=
 match F (.string j) with
 | some (.agg #[.string v, .bool true]) => some v
 | some _ => none
 | none => khas j B
theorem chg_none {F : Lit -> Option Value} {B : KV} {j : List UInt8} (h : F (.string j) = none) : chg F B j = khas j B := by unfold chg; rw [h]
theorem chg_there {F : Lit -> Option Value} {B : KV} {j : List UInt8} {v : ByteArray} (h : F (.string j) = some (there v)) : chg F B j = some v := by unfold chg; rw [h]; rfl
theorem chg_gone {F : Lit -> Option Value} {B : KV} {j : List UInt8} (h : F (.string j) = some gone) : chg F B j = none := by unfold chg; rw [h]; rfl
theorem nowHas_eq {F : Lit -> Option Value} {B : KV} {t : T ByteArray} (hr : Rep B.bits t) (j : List UInt8) : nowHas F t j = chg F B j := by
 unfold nowHas chg
 have e : t.get (kb j) = khas j B := by rw [rep_get hr]; exact bits_has j B
 rw [e]
 rfl
structure Chg (F : Lit -> Option Value) (B now : KV) : Prop where
 tells : Tells F
 keys : ∀ k v, F k = some v -> ∃ j, k = .string j /\ j ∈ kall
 gone : ∀ j, F (.string j) = some gone -> khas j B ≠ none
 now : ∀ j, khas j now = chg F B j
theorem upd_eq (F : Lit -> Option Value) (k : Lit) (o : Option Value) : upd F k o k = o := by unfold upd; rw [if_pos rfl]
theorem upd_ne {F : Lit -> Option Value} {k j : Lit} {o : Option Value} (h : j ≠ k) : upd F k o j = F j := by unfold upd; rw [if_neg h]
theorem str_ne {j k : List UInt8} (h : j ≠ k) : Lit.string j ≠ Lit.string k := fun e => h (by cases e; rfl)
theorem chg_upd_ne {F : Lit -> Option Value} {B : KV} {j k : List UInt8} {o : Option Value} (h : j ≠ k) : chg (upd F (.string k) o) B j = chg F B j := by
 unfold chg; rw [upd_ne (str_ne h)]
theorem Chg.start (B : KV) : Chg (fun _ => none) B B := ⟨fun _ _ h => (by cases h), fun _ _ h => (by cases h), fun _ h => (by cases h), fun j => (chg_none rfl).symm⟩
theorem there_ne_gone (v : ByteArray) : there v ≠ gone := by
 intro h
 unfold there gone at h
 simp at h
theorem Chg.set {F : Lit -> Option Value} {B now : KV} (h : Chg F B now) (hn : Row now) {k : List UInt8} {v : ByteArray} (hk : k ∈ kall) (hv : v.size <= 20) : Chg (upd F (.string k) (some (there v))) B (kput k v now) := by
 refine ⟨fun j x e => ?_, fun j x e => ?_, fun j e => ?_, fun j => ?_⟩
 · by_cases hj : j = .string k
   · subst hj; rw [upd_eq] at e; cases e; exact .inl ⟨v, rfl, hv⟩
   · rw [upd_ne hj] at e; exact h.tells j x e
 · by_cases hj : j = .string k
   · exact ⟨k, hj, hk⟩
   · rw [upd_ne hj] at e; exact h.keys j x e
 · by_cases hj : j = k
   · subst hj; rw [upd_eq] at e; exact absurd (Option.some.inj e) (there_ne_gone v)
   · rw [upd_ne (str_ne hj)] at e; exact h.gone j e
 · rw [khas_put _ _ _ hn.rising]
   by_cases hj : j = k
   · subst hj; rw [if_pos rfl, chg_there (upd_eq _ _ _)]
   · rw [if_neg hj, chg_upd_ne hj, h.now]
theorem Chg.forget {F : Lit -> Option Value} {B now : KV} (h : Chg F B now) {k : List UInt8} (hb : khas k B = none) : Chg (upd F (.string k) none) B (kwo k now) := by
 refine ⟨fun j x e => ?_, fun j x e => ?_, fun j e => ?_, fun j => ?_⟩
 · by_cases hj : j = .string k
   · subst hj; rw [upd_eq] at e; cases e
   · rw [upd_ne hj] at e; exact h.tells j x e
 · by_cases hj : j = .string k
   · subst hj; rw [upd_eq] at e; cases e
   · rw [upd_ne hj] at e; exact h.keys j x e
 · by_cases hj : j = k
   · subst hj; rw [upd_eq] at e; cases e
   · rw [upd_ne (str_ne hj)] at e; exact h.gone j e
 · rw [khas_wo]
   by_cases hj : j = k
   · subst hj; rw [if_pos rfl, chg_none (upd_eq _ _ _), hb]
   · rw [if_neg hj, chg_upd_ne hj, h.now]
theorem Chg.drop {F : Lit -> Option Value} {B now : KV} (h : Chg F B now) {k : List UInt8} (hk : k ∈ kall) (hb : khas k B ≠ none) : Chg (upd F (.string k) (some Go.Proofs.YtddcbeeldjjmeaaGreat.gone)) B (kwo k now) := by
 refine ⟨fun j x e => ?_, fun j x e => ?_, fun j e => ?_, fun j => ?_⟩
 · by_cases hj : j = .string k
   · subst hj; rw [upd_eq] at e; cases e; exact .inr rfl
   · rw [upd_ne hj] at e; exact h.tells j x e
 · by_cases hj : j = .string k
   · exact ⟨k, hj, hk⟩
   · rw [upd_ne hj] at e; exact h.keys j x e
 · by_cases hj : j = k
   · subst hj; exact hb
   · rw [upd_ne (str_ne hj)] at e; exact h.gone j e
 · rw [khas_wo]
   by_cases hj : j = k
   · subst hj; rw [if_pos rfl, chg_gone (upd_eq _ _ _)]
   · rw [if_neg hj, chg_upd_ne hj, h.now]
theorem kwo_same {k : List UInt8} {l : KV} (h : khas k l = none) : kwo k l = l := kwo_none (khas_none.1 h)
def Half (F : Lit -> Option Value) (B : KV) (L : List (List UInt8)) (B' : KV) : Prop := ∀ x, khas x B' = if x ∈ L then chg F B x else khas x B
theorem Half.start (F : Lit -> Option Value) (B : KV) : Half F B [] B := fun x => by simp
theorem Half.there {F : Lit -> Option Value} {B B' : KV} {L : List (List UInt8)} (h : Half F B L B') (hr : Row B') {k : List UInt8} {v : ByteArray} (hF : F (.string k) = some (there v)) : Half F B (L ++ [k]) (kput k v B') := by
 intro x
 rw [khas_put _ _ _ hr.rising, h x]
 by_cases e : x = k
 · subst e; rw [if_pos rfl, if_pos (by simp), chg_there hF]
 · rw [if_neg e]
   by_cases e2 : x ∈ L
   · rw [if_pos e2, if_pos (List.mem_append_left _ e2)]
   · rw [if_neg e2, if_neg (by simp [e, e2])]
theorem Half.gone {F : Lit -> Option Value} {B B' : KV} {L : List (List UInt8)} (h : Half F B L B') {k : List UInt8} (hF : F (.string k) = some gone) : Half F B (L ++ [k]) (kwo k B') := by
 intro x
 rw [khas_wo, h x]
 by_cases e : x = k
 · subst e; rw [if_pos rfl, if_pos (by simp), chg_gone hF]
 · rw [if_neg e]
   by_cases e2 : x ∈ L
   · rw [if_pos e2, if_pos (List.mem_append_left _ e2)]
   · rw [if_neg e2, if_neg (by simp [e, e2])]
theorem Half.whole {F : Lit -> Option Value} {B B' now : KV} {L : List (List UInt8)} (h : Half F B L B') (hc : Chg F B now) (hr : Row B') (hn : Row now) (hL : ∀ k, k ∈ L ↔ F (.string k) ≠ none) : B' = now := by
 refine rising_ext hr.rising hn.rising fun k => ?_
 rw [h k, hc.now k]
 by_cases e : k ∈ L
 · rw [if_pos e]
 · rw [if_neg e, chg_none (Classical.byContradiction fun h => e ((hL k).2 h))]
theorem rep_put {B : KV} {t : T ByteArray} (hr : Rep B.bits t) (hB : Row B) (k : List UInt8) (v : ByteArray) : Rep (KV.bits (kput k v B)) (t.wth (kb k) v) := by
 have e : KV.bits (kput k v B) = ins (kb k) v B.bits := bits_put hB.rising
 rw [e]
 refine rep_wth hr _ _ fun x hx => ?_
 obtain ⟨y, _, rfl⟩ := List.mem_map.1 hx
 exact kb_parts _ _
theorem khas_mem_bits {B : KV} {k : List UInt8} (h : khas k B ≠ none) : ∃ x, x ∈ B.bits /\ x.1 = kb k := by
 cases e : khas k B with
 | none => exact absurd e h
 | some v => exact ⟨(kb k, v), List.mem_map.2 ⟨(k, v), khas_mem e, rfl⟩, rfl⟩
theorem rep_less {B : KV} {t : T ByteArray} (hr : Rep B.bits t) {k : List UInt8} (h : khas k B ≠ none) : Rep (KV.bits (kwo k B)) (t.wo (kb k)) := by
 have e : KV.bits (kwo k B) = del (kb k) B.bits := bits_wo k B
 rw [e]
 exact rep_wo hr _ (khas_mem_bits h)
end Go.Proofs.YtddcbeeldjjmeaaGreat
namespace Go.Proofs.YtddcbeeldjjmeaaGreat
open Go Go.RowKit Go.Nest Go.Tm Go.Proofs.YtddcbeeldjjmeaaGreat.Tw Go.Maps Go.Sort Go.Shelf
set_option linter.unusedVariables false
set_option linter.unusedSimpArgs false
theorem sorts_in (m : Nat) : AnyZ.SortsIn Tryz.prog Tryz.sortedL_ren Fence.wide m :=
 ⟨fun blk off cap ss W hH hblk hsz => callsIn_wide.2 (AnyM.slices_Sort_string Tryz.sortL blk off cap ss W hH hblk hsz),
  fun p cap W => callsIn_wide.2 (AnyM.slices_Sort_string_none Tryz.sortL p cap W)⟩
abbrev itF (b : Nat) : Value := .func (.func 47) #[] #[.pointer (some ⟨b, 0, none⟩)]
theorem keys_any (cb : Nat) (w : World) : Calls Tryz.prog 34 #[.map (some cb)] w fun e w' => e = .returned (itF w.heap.size) /\ w' = w.alloc (.cells #[.map (some cb)] 71) :=
 callsIn_wide.1 (AnyZ.keys_in Tryz.keysL Fence.wide 5 trivial rfl (some cb) w)
set_option maxHeartbeats 1000000 in
theorem sorted_keys {w : World} {cb n : Nat} {F : Lit -> Option Value} (hM : MapAt Tryz.prog strT w cb n F) (hn : n <= 8000000000000) :
   Calls Tryz.prog 33 #[itF w.heap.size] (w.alloc (.cells #[.map (some cb)] 71)) fun e w' => ∃ (v : Value) (L : List (List UInt8)), e = .returned v /\ (L.Nodup /\ ∀ k, k ∈ L ↔ F (.string k) ≠ none) /\
     w'.ownsRow (w.heap.size + 1) strT 1 v L.length (L.map encStr) /\ Below w.heap.size w w' := by
 obtain ⟨D, hown, hsz, hL⟩ := hM.told strKeyed Tryz.underlying9
 have hbl := hown.lt
 have e1 : (w.alloc (.cells #[.map (some cb)] 71)).heap.size = w.heap.size + 1 := World.size_alloc _ _
 have hmax : Maps.size D <= maxLen := by unfold maxLen; omega
 have hbytes : Maps.size D * 16 <= 140737488355328 := by omega
 have hseq : SeqGives Fence.wide 2 Tryz.prog 47 #[.pointer (some ⟨w.heap.size, 0, none⟩)] encStr (fun ss => ss.Perm (strKeys D)) (Maps.size D) (w.alloc (.cells #[.map (some cb)] 71)) :=
   AnyZ.keys_gives (ρ := Tryz.keysL_ren) { Tryz.keysL with } Fence.wide _ trivial rfl (by omega) w.heap.size cb n D _ (by simp) (by simp) (by
     obtain ⟨es, clock, hb, Ft, hs, hD⟩ := hown
     exact ⟨es, clock, (Below.heap_alloc _ _ cb hbl).trans hb, Ft, hs, hD⟩)
 refine (callsIn_wide.1 (AnyZ.sorted_in Tryz.sortedL Fence.wide 5 trivial trivial trivial trivial rfl (by omega) (sorts_in _) (enters_of Tryz.func46 (by kernel_rfl) rfl) 47 #[.pointer (some ⟨w.heap.size, 0, none⟩)] trivial (enters_of Tryz.func47 (by kernel_rfl) rfl) _ _ hmax hbytes _ hseq)).mono ?_
 rintro e w' ⟨v, ss, rfl, hS, hrow, hnil, hb⟩
 rw [e1] at hrow hb
 refine ⟨v, ss.mergeSort (fun x y => decide (x <= y)), rfl, hL _ ((List.mergeSort_perm _ _).trans hS), ?_, ((Below.refl _ w).alloc (Nat.le_refl _) _).trans (hb.mono (by omega))⟩
 rw [List.length_mergeSort]
 exact hrow
end Go.Proofs.YtddcbeeldjjmeaaGreat
namespace Go.Proofs.YtddcbeeldjjmeaaGreat
open Go Go.RowKit Go.Nest Go.Tm Go.Proofs.YtddcbeeldjjmeaaGreat.Tw Go.Maps Go.Sort Go.Shelf Go.Eq
set_option linter.unusedVariables false
set_option linter.unusedSimpArgs false
variable {dg : DG}
def Far (dg : DG) (F : Lit -> Option Value) (B : KV) (L : List (List UInt8)) (w0 w : World) (r : Value) (j : Nat) : Prop :=
 ∃ b t B', r = .pointer (some ⟨b, 0, none⟩) /\ TAt dg w t b /\ Rep B'.bits t /\ Row B' /\ Half F B (L.take j) B' /\ Below w0.heap.size w0 w
theorem Far.below {F : Lit -> Option Value} {B : KV} {L : List (List UInt8)} {w0 w : World} {r : Value} {j : Nat} (h : Far dg F B L w0 w r j) : Below w0.heap.size w0 w := by
 obtain ⟨_, _, _, _, _, _, _, _, h⟩ := h; exact h
theorem far_step {F : Lit -> Option Value} {B now : KV} {L : List (List UInt8)} {w0 w : World} {r : Value} {j : Nat} (hC : Chg F B now) (hL : L.Nodup /\ ∀ k, k ∈ L ↔ F (.string k) ≠ none) (h : Far dg F B L w0 w r j) (hj : j < L.length) :
   ∃ v : ByteArray, ∃ tt : Bool, F (.string L[j]) = some (.agg #[.string v, .bool tt]) /\ ∃ b, r = .pointer (some ⟨b, 0, none⟩) /\ ∀ w1, Below w.heap.size w w1 -> Calls Tryz.prog 35 #[.agg #[.string v, .bool tt], .pointer (some ⟨b, 0, none⟩), .string (str (kb L[j]))] w1 fun e w' => ∃ r', e = .returned r' /\ Far dg F B L w0 w' r' (j + 1) /\ Below w.heap.size w w' := by
 obtain ⟨b, t, B', rfl, hT, hR, hRow, hH, hB⟩ := h
 have hkF : F (.string L[j]) ≠ none := (hL.2 _).1 (List.getElem_mem hj)
 have htk : L.take (j + 1) = L.take j ++ [L[j]] := by rw [List.take_add_one, List.getElem?_eq_getElem hj]; rfl
 have hnew : L[j] ∉ L.take j := fun hm => by
   obtain ⟨i, hi, e⟩ := List.getElem_of_mem hm
   rw [List.getElem_take] at e
   have hi' : i < j := by rw [List.length_take] at hi; omega
   exact (List.pairwise_iff_getElem.1 hL.1) i j (by omega) hj hi' e
 cases hk : F (.string L[j]) with
 | none => exact absurd hk hkF
 | some o =>
   obtain ⟨k2, e2, hkall⟩ := hC.keys _ _ hk
   cases e2
   rcases hC.tells _ _ hk with ⟨x, rfl, hx⟩ | rfl
   · refine ⟨x, true, rfl, b, rfl, fun w1 hB1 => (in_there (dg := dg) (v := x) (hRow.fits hR hkall) (TAt.below hT hB1)).mono ?_⟩
     rintro e w' ⟨b', rfl, h1, h2⟩
     refine ⟨_, rfl, ⟨b', _, kput L[j] x B', rfl, h1, rep_put hR hRow _ _, hRow.put hkall hx, ?_, hB.trans ((below_mono hB1 h2).mono hB.size)⟩, below_mono hB1 h2⟩
     rw [htk]
     exact hH.there hRow hk
   · have hin : khas L[j] B' ≠ none := by
       rw [hH L[j], if_neg hnew]
       exact hC.gone _ hk
     refine ⟨noText, false, rfl, b, rfl, fun w1 hB1 => (in_gone (dg := dg) (t := t) (q := kb L[j]) (b := b) ⟨B'.bits, hR, khas_mem_bits hin, fun x hx => ?_⟩ (TAt.below hT hB1)).mono ?_⟩
     · obtain ⟨y, hy, rfl⟩ := List.mem_map.1 hx
       have := (kall_size _ (hRow.keys y hy).1).2
       show (kb y.1).length <= 1000
       rw [kb_length]; omega
     · rintro e w' ⟨b', rfl, h1, h2⟩
       refine ⟨_, rfl, ⟨b', _, kwo L[j] B', rfl, h1, rep_less hR hin, hRow.wo _, ?_, hB.trans ((below_mono hB1 h2).mono hB.size)⟩, below_mono hB1 h2⟩
       rw [htk]
       exact hH.gone hk
variable {dg : DG}
theorem row_keys {w : World} {base : Nat} {v : Value} {L : List (List UInt8)} (h : w.ownsRow base strT 1 v L.length (L.map encStr)) :
   ∃ p cap, v = .slice p L.length cap /\ ∀ (j : Nat) (h : j < L.length), ∃ g, p = some ⟨g, 0, none⟩ /\ w.cell? ⟨g, j, none⟩ = some (.string (Tw.S L[j])) := by
 obtain ⟨h1, ⟨rfl, h2⟩ | ⟨g, cap, cur, rfl, hg, hh, hn, hm, hc, ht⟩⟩ := h
 · exact ⟨none, 0, by rw [h2], fun j hj => absurd hj (by omega)⟩
 · refine ⟨_, cap, rfl, fun j hj => ⟨g, rfl, ?_⟩⟩
   have h3 : (L.map encStr)[j]? = some (.string (Tw.S L[j])) := by rw [List.getElem?_map, List.getElem?_eq_getElem hj]; rfl
   rw [<- ht, List.getElem?_take, if_pos (by omega), Array.getElem?_toList] at h3
   simp [World.cell?, hh, h3]
set_option maxRecDepth 20000 in
set_option maxHeartbeats 8000000 in
theorem cm_loop {a : Act} {w : World} {s bb cb vb n : Nat} {wd nw : Int} {F : Lit -> Option Value} {B now : KV} {t : T ByteArray} (hs : a.tmps.size = 53) (hd : a.defers = []) (h0 : tm a 0 = .pointer (some ⟨s, 0, none⟩)) (h5 : tm a 5 = .pointer (some ⟨bb, 0, none⟩))
   (hS : StoreAt w s wd bb cb vb nw) (hM : MapAt Tryz.prog strT w cb n F) (hn : n <= 8000000000000) (hT : TAt dg w t bb) (hR : Rep B.bits t) (hB : Row B) (hC : Chg F B now) (hN : Row now) :
   (cL (cR (cR (cR (bodyOf Tryz.f19))))).wp Tryz.prog (onlyN fun a' w' => a'.tmps.size = 53 /\ a'.defers = [] /\ tm a' 0 = .pointer (some ⟨s, 0, none⟩) /\ (∃ b t', tm a' 5 = .pointer (some ⟨b, 0, none⟩) /\ TAt dg w' t' b /\ Rep now.bits t') /\ Below w.heap.size w w') a w := by
 obtain ⟨c0, c1, c2, c3, c4⟩ := hS.cells
 have hsl := hS.lt
 have hcb := hM.lt
 have hkeys := fun w => keys_any cb w
 have hsort := sorted_keys hM hn
 rw [act_out hs hd, show (List.range 53).map (tm a) = [tm a 0, tm a 1, tm a 2, tm a 3, tm a 4, tm a 5, tm a 6, tm a 7, tm a 8, tm a 9, tm a 10, tm a 11, tm a 12, tm a 13, tm a 14, tm a 15, tm a 16, tm a 17, tm a 18, tm a 19, tm a 20, tm a 21, tm a 22, tm a 23, tm a 24, tm a 25, tm a 26, tm a 27, tm a 28, tm a 29, tm a 30, tm a 31, tm a 32, tm a 33, tm a 34, tm a 35, tm a 36, tm a 37, tm a 38, tm a 39, tm a 40, tm a 41, tm a 42, tm a 43, tm a 44, tm a 45, tm a 46, tm a 47, tm a 48, tm a 49, tm a 50, tm a 51, tm a 52] from rfl, h0, h5]
 simp only [cL, cR, bodyOf, Tryz.f19, Option.getD_some]
 go_wp2_with (first
   | (go_at_call 34; refine (hkeys _).mono ?_; rintro e w' ⟨rfl, rfl⟩)
   | (go_at_call 33; refine hsort.mono ?_; rintro e w2 ⟨v, L, rfl, hL, hrow, hB2⟩; obtain ⟨p, cap, rfl, hcell⟩ := row_keys hrow))
 have hy2 : w.heap.size <= w2.heap.size := hB2.size
 have hFar0 : Far dg F B L w w2 (.pointer (some ⟨bb, 0, none⟩)) 0 := ⟨bb, t, B, rfl, TAt.below hT hB2, hR, hB, by simpa using Half.start F B, hB2⟩
 have hwhole : ∀ (wr : World) (r : Value), Far dg F B L w wr r L.length -> ∃ b t', r = .pointer (some ⟨b, 0, none⟩) /\ TAt dg wr t' b /\ Rep now.bits t' := fun wr r h => by
   obtain ⟨b, t', B', h1, h2, h3, h4, h5, h6⟩ := h
   rw [List.take_length] at h5
   have := h5.whole hC h4 hN hL.2
   subst this
   exact ⟨b, t', h1, h2, h3⟩
 have HW : Hid _ := hwhole
 have HL : Hid _ := hL
 have HC : Hid _ := hC
 have hlen : L.length <= 20 := nodup_le L kall hL.1 fun k hk => by
   have := (hL.2 k).1 hk
   cases hv : F (.string k) with
   | none => exact absurd hv this
   | some o => obtain ⟨j, e, hj⟩ := hC.keys _ _ hv; cases e; exact hj
 clear hwhole hL hC hrow hsort hkeys
 go_loopw [5, 21] (fun r i wr => ∃ j : Nat, j <= L.length /\ i = .int .i64 j /\ Far dg F B L w wr r j /\ Below w2.heap.size w2 wr) (fun _ i _ => (L.length - intOf i).toNat)
 case atStart => exact ⟨0, by omega, rfl, hFar0, Below.refl _ _⟩
 case round =>
   obtain ⟨j, hj, rfl, hF, hBr⟩ := hrel
   by_cases hjn : j < L.length
   · obtain ⟨g, rfl, hcj⟩ := hcell j hjn
     obtain ⟨x, tt, hk, b, rfl, hin⟩ := far_step HC.out HL.out hF hjn
     have hkall : L[j] ∈ kall := by obtain ⟨j', e, hj'⟩ := HC.out.keys _ _ hk; cases e; exact hj'
     have hks : (Tw.S L[j]).size <= 4 := by have := (kall_size _ hkall).2; simpa [Tw.S, ByteArray.size] using this
     have hbits := fun w => bits_any (Tw.S L[j]) w hks
     rw [S_data] at hbits
     have hkey := strKey (Tw.S L[j]) (by omega)
     rw [S_data] at hkey
     have hBw : Below w.heap.size w wr := hB2.trans (hBr.mono hy2)
     have hyr : w2.heap.size <= wr.heap.size := hBr.size
     have hMr : MapAt Tryz.prog strT wr cb n F := hM.same (hBw.block cb hcb)
     have hlkA : ∀ w', MapAt Tryz.prog strT w' cb n F -> (Instr.lookup 71 (.map (some cb)) (.string (Tw.S L[j])) false).run Tryz.prog w' = .ok (.agg #[.string x, .bool tt]) w' := fun w' h => by
       have := h.look1 (t := 71) strKeyed Tryz.underlying71 (zeroChange w') hkey
       rw [hk, Option.getD_some] at this
       exact this
     have HLK : Hid _ := hlkA
     have hlk := hlkA _ hMr
     have hlk' := hlkA wr.drew (hMr.same rfl)
     have d2 : wr.cell? ⟨s, 2, none⟩ = some (.map (some cb)) := (hBw.cell (p := ⟨s, 2, none⟩) hsl).trans c2
     have d2' : wr.drew.cell? ⟨s, 2, none⟩ = some (.map (some cb)) := d2
     have hcj' : wr.cell? ⟨g, j, none⟩ = some (.string (Tw.S L[j])) := (hBr.cell (p := ⟨g, j, none⟩) (Tw.cell_lt hcj)).trans hcj
     have hsr : s < wr.heap.size := Nat.lt_of_lt_of_le hsl hBw.size
     have hcr' : cb < wr.heap.size := Nat.lt_of_lt_of_le hcb hBw.size
     clear hlkA hkey hk hkall hks hcell hcj c0 c1 c3 c4
     generalize Tw.S L[j] = K at *
     generalize str (kb L[j]) = KB at *
     go_wp2_with fail
     go_region_held3 (fun w' => w'.cell? ⟨s, 2, none⟩ = some (.map (some cb)) /\ (Instr.lookup 71 (.map (some cb)) (.string K) false).run Tryz.prog w' = .ok (.agg #[.string x, .bool tt]) w') (first | go_keep | exact ⟨d2, hlk⟩ | exact ⟨d2', hlk'⟩ | exact ⟨d3, hlk3⟩ | exact ⟨d4, hlk4⟩)
       (first
       | (go_at_call 32; refine (hbits _).mono ?_; rintro e w3 ⟨rfl, hB3⟩; have d3 : w3.cell? ⟨s, 2, none⟩ = some (.map (some cb)) := (hB3.cell (p := ⟨s, 2, none⟩) (by show s < wr.heap.size; exact hsr)).trans d2; have hlk3 := HLK.out w3 (MapAt.same (w := wr) hMr (hB3.block cb (by show cb < wr.heap.size; exact hcr'))))
       | (go_at_call 35; refine (hin _ (below_mono (below_drewN wr.heap.size wr 1) hB3)).mono ?_; rintro e w4 ⟨r4, rfl, hF4, hB4'⟩; have hB4 : Below w.heap.size w w4 := hF4.below; have d4 : w4.cell? ⟨s, 2, none⟩ = some (.map (some cb)) := (hB4.cell (p := ⟨s, 2, none⟩) hsl).trans c2; have hlk4 := HLK.out w4 (MapAt.same (w := w) hM (hB4.block cb hcb))))
     all_goals (have hBz : Below w2.heap.size w2 w4 := hBr.trans (hB4'.mono hyr))
     all_goals (go_wp2_with fail)
     all_goals exact ⟨⟨j + 1, by omega, by go_num, hF4, hBz⟩, by simp [intOf]; omega⟩
   · obtain rfl : j = L.length := by omega
     go_wp2_with fail
     exact ⟨rfl, rfl, rfl, HW.out _ _ hF, hB2.trans (hBr.mono hy2)⟩
theorem pb_str (p : Bits) (h : p.length <= 37) : Pu.isPb (str p).data.toList = true := by
 rw [str_list]
 unfold Pu.isPb
 simp only [Bool.and_eq_true, decide_eq_true_eq, List.length_map, List.all_eq_true]
 refine ⟨fun x hx => ?_, h⟩
 obtain ⟨b, _, rfl⟩ := List.mem_map.1 hx
 cases b <;> decide
theorem wf_rep : ∀ {L : List (Bits × ByteArray)} {t : T ByteArray}, Rep L t -> (∀ x, x ∈ L -> x.1.length <= 37 /\ x.2.size <= 20) -> Wf t.tr := by
 intro L t h
 induction h with
 | empty => exact fun _ => trivial
 | leaf p v => exact fun h => ⟨pb_str p (h (p, v) List.mem_cons_self).1, (h (p, v) List.mem_cons_self).2⟩
 | @branch l0 l1 t0 t1 p n0 n1 r0 r1 i0 i1 =>
   intro h
   have h0 : ∀ x, x ∈ l0 -> (p ++ [false] ++ x.1).length <= 37 /\ x.2.size <= 20 := fun x hx => h (pre (p ++ [false]) x) (List.mem_append_left _ (List.mem_map.2 ⟨x, hx, rfl⟩))
   have h1 : ∀ x, x ∈ l1 -> (p ++ [true] ++ x.1).length <= 37 /\ x.2.size <= 20 := fun x hx => h (pre (p ++ [true]) x) (List.mem_append_right _ (List.mem_map.2 ⟨x, hx, rfl⟩))
   obtain ⟨z, hz⟩ := rep_ne r0 n0
   refine ⟨pb_str p (by have := (h0 z hz).1; simp only [List.length_append] at this; omega), i0 fun x hx => ?_, i1 fun x hx => ?_⟩
   · exact ⟨by have := (h0 x hx).1; simp only [List.length_append] at this; omega, (h0 x hx).2⟩
   · exact ⟨by have := (h1 x hx).1; simp only [List.length_append] at this; omega, (h1 x hx).2⟩
theorem Row.wf {B : KV} {t : T ByteArray} (hB : Row B) (hr : Rep B.bits t) : Wf t.tr := by
 refine wf_rep hr fun x hx => ?_
 obtain ⟨y, hy, rfl⟩ := List.mem_map.1 hx
 have h1 := hB.keys y hy
 have h2 := (kall_size _ h1.1).2
 exact ⟨by show (kb y.1).length <= 37; rw [kb_length]; omega, h1.2⟩
theorem sd_nd {dg : DG} {R : Nat -> Prop} {w : World} : ∀ {t : Tr} {b : Nat}, Sd ndT dg R w t b -> Nd ndT dg R w t b
 | .branch _ _ _, _, ⟨h1, bl, br, h2, h3, h4⟩ => ⟨h1, bl, br, _, true, h2, sd_nd h3, sd_nd h4, fun _ => ⟨rfl, h3, h4⟩⟩
 | .empty, _, ⟨h1, h2⟩ => ⟨h1, _, true, h2, fun _ => rfl⟩
 | .leaf _ _, _, ⟨h1, h2⟩ => ⟨h1, _, true, h2, fun _ => rfl⟩
theorem sd_root {dg : DG} {R : Nat -> Prop} {w : World} : ∀ {t : Tr} {b : Nat}, Sd ndT dg R w t b -> ∃ l r, NodeAt ndT w b t.kind t.path t.value l r (Tr.dig dg t) true
 | .branch _ _ _, _, ⟨h1, bl, br, h2, h3, h4⟩ => ⟨_, _, h2⟩
 | .empty, _, ⟨h1, h2⟩ => ⟨_, _, h2⟩
 | .leaf _ _, _, ⟨h1, h2⟩ => ⟨_, _, h2⟩
structure Gw (K : Nat -> Prop) (w w' : World) : Prop where
 os : w'.os = w.os
 size : w.heap.size <= w'.heap.size
 block : ∀ k, k < w.heap.size -> ¬ K k -> w'.heap[k]? = w.heap[k]?
theorem Gw.trans {K : Nat -> Prop} {w w' w'' : World} (h : Gw K w w') (k : Gw K w' w'') : Gw K w w'' :=
 ⟨k.os.trans h.os, Nat.le_trans h.size k.size, fun i hi hn => (k.block i (Nat.lt_of_lt_of_le hi h.size) hn).trans (h.block i hi hn)⟩
theorem Gw.mono {K K' : Nat -> Prop} {w w' : World} (h : Gw K w w') (hk : ∀ k, k < w.heap.size -> K k -> K' k) : Gw K' w w' := ⟨h.os, h.size, fun i hi hn => h.block i hi fun e => hn (hk i hi e)⟩
theorem Gw.below {K : Nat -> Prop} {w w' : World} (h : Below w.heap.size w w') : Gw K w w' := ⟨h.os, h.size, fun k hk _ => h.block k hk⟩
theorem Gw.grew {K : Nat -> Prop} {w w' : World} (h : Grew w w') : Gw K w w' := ⟨h.os, h.size, fun k hk _ => h.old k hk⟩
theorem Gw.kept {K : Nat -> Prop} {w w' : World} (h : Kept K w w') : Gw K w w' := ⟨h.os, h.size, h.block⟩
theorem Gw.grown {w w' : World} {b : Option Nat} (h : w.grownBy w' b) : Gw (fun k => some k = b) w w' := ⟨h.os, h.size, fun k hk hn => h.block k hk hn⟩
def NoNode (w : World) (k : Nat) : Prop := ∀ cs fr, w.heap[k]? ≠ some (.cells cs ndT fr)
theorem Gw.node {K : Nat -> Prop} {w w' : World} (h : Gw K w w') (hK : ∀ k, K k -> NoNode w k) {b : Nat} {kd : Int} {p v : ByteArray} {l r : Option Addr} {d : Int} {s : Bool} (hN : NodeAt ndT w b kd p v l r d s) : NodeAt ndT w' b kd p v l r d s := by
 obtain ⟨fr, e⟩ := hN
 exact ⟨fr, (h.block b (Array.getElem?_eq_some_iff.1 e).1 fun hk => hK b hk _ _ e).trans e⟩
theorem Gw.sd {dg : DG} {K : Nat -> Prop} {w w' : World} (h : Gw K w w') (hK : ∀ k, K k -> NoNode w k) : ∀ {t : Tr} {b : Nat}, Sd ndT dg All w t b -> Sd ndT dg All w' t b
 | .branch _ _ _, _, ⟨h1, bl, br, h2, h3, h4⟩ => ⟨h1, bl, br, h.node hK h2, h.sd hK h3, h.sd hK h4⟩
 | .empty, _, ⟨h1, h2⟩ => ⟨h1, h.node hK h2⟩
 | .leaf _ _, _, ⟨h1, h2⟩ => ⟨h1, h.node hK h2⟩
theorem Gw.nd {dg : DG} {K : Nat -> Prop} {w w' : World} (h : Gw K w w') (hK : ∀ k, K k -> NoNode w k) : ∀ {t : Tr} {b : Nat}, Nd ndT dg All w t b -> Nd ndT dg All w' t b
 | .branch _ _ _, _, ⟨h1, bl, br, d, s, h2, h3, h4, h5⟩ => ⟨h1, bl, br, d, s, h.node hK h2, h.nd hK h3, h.nd hK h4, fun x => ⟨(h5 x).1, h.sd hK (h5 x).2.1, h.sd hK (h5 x).2.2⟩⟩
 | .empty, _, ⟨h1, d, s, h2, h3⟩ => ⟨h1, d, s, h.node hK h2, h3⟩
 | .leaf _ _, _, ⟨h1, d, s, h2, h3⟩ => ⟨h1, d, s, h.node hK h2, h3⟩
theorem StoreAt.noNode {w : World} {s bb cb vb : Nat} {wd nw : Int} (h : StoreAt w s wd bb cb vb nw) : NoNode w s := by
 intro cs fr e
 unfold StoreAt at h
 rw [h] at e
 simp [ndT, stT] at e
theorem MapAt.noNode {w : World} {K0 : TypeId} {b n : Nat} {F : Lit -> Option Value} (h : MapAt Tryz.prog K0 w b n F) : NoNode w b := by
 obtain ⟨D, ⟨es, cl, e0, _⟩, _⟩ := h
 intro cs fr e
 rw [e0] at e
 cases e
theorem Gw.on {K : Nat -> Prop} {w w' : World} (h : Gw K w w') (t : Nat -> Question -> Nat) : Gw K w (World.on w' t) := ⟨h.os, h.size, h.block⟩
theorem Gw.on' {K : Nat -> Prop} {w w' : World} (h : Gw K w w') (t : Nat -> Question -> Nat) : Gw K (World.on w t) w' := ⟨h.os, h.size, h.block⟩
theorem gw_on {K : Nat -> Prop} (w : World) (t : Nat -> Question -> Nat) : Gw K w (World.on w t) := ⟨rfl, Nat.le_refl _, fun _ _ _ => rfl⟩
theorem TAt.on {dg : DG} {w : World} {t : T ByteArray} {b : Nat} (h : TAt dg w t b) (tp : Nat -> Question -> Nat) : TAt dg (World.on w tp) t b := Gw.nd (K := fun _ => False) (gw_on w tp) (fun _ h => h.elim) h
theorem StoreAt.on {w : World} {s bb cb vb : Nat} {wd nw : Int} (h : StoreAt w s wd bb cb vb nw) (tp : Nat -> Question -> Nat) : StoreAt (World.on w tp) s wd bb cb vb nw := h
noncomputable abbrev cmC : Code := bodyOf Tryz.f19
set_option maxRecDepth 20000 in
theorem cm_r0 {a : Act} {w : World} {s : Nat} (hs : a.tmps.size = 53) (hd : a.defers = []) (h0 : tm a 0 = .pointer (some ⟨s, 0, none⟩)) :
   (cL cmC).wp Tryz.prog (onlyN fun a' w' => w' = w /\ a'.tmps.size = 53 /\ a'.defers = [] /\ tm a' 0 = .pointer (some ⟨s, 0, none⟩)) a w := by
 rw [act_out hs hd, show (List.range 53).map (tm a) = [tm a 0, tm a 1, tm a 2, tm a 3, tm a 4, tm a 5, tm a 6, tm a 7, tm a 8, tm a 9, tm a 10, tm a 11, tm a 12, tm a 13, tm a 14, tm a 15, tm a 16, tm a 17, tm a 18, tm a 19, tm a 20, tm a 21, tm a 22, tm a 23, tm a 24, tm a 25, tm a 26, tm a 27, tm a 28, tm a 29, tm a 30, tm a 31, tm a 32, tm a 33, tm a 34, tm a 35, tm a 36, tm a 37, tm a 38, tm a 39, tm a 40, tm a 41, tm a 42, tm a 43, tm a 44, tm a 45, tm a 46, tm a 47, tm a 48, tm a 49, tm a 50, tm a 51, tm a 52] from rfl, h0]
 simp only [cmC, cL, cR, bodyOf, Tryz.f19, Option.getD_some]
 go_wp2_with fail
 exact ⟨rfl, rfl, rfl, rfl⟩
set_option maxRecDepth 20000 in
theorem cm_r1 {a : Act} {w : World} {s : Nat} (hs : a.tmps.size = 53) (hd : a.defers = []) (h0 : tm a 0 = .pointer (some ⟨s, 0, none⟩)) :
   (cL (cR cmC)).wp Tryz.prog (onlyN fun a' w' => w' = w /\ a'.tmps.size = 53 /\ a'.defers = [] /\ tm a' 0 = .pointer (some ⟨s, 0, none⟩)) a w := by
 rw [act_out hs hd, show (List.range 53).map (tm a) = [tm a 0, tm a 1, tm a 2, tm a 3, tm a 4, tm a 5, tm a 6, tm a 7, tm a 8, tm a 9, tm a 10, tm a 11, tm a 12, tm a 13, tm a 14, tm a 15, tm a 16, tm a 17, tm a 18, tm a 19, tm a 20, tm a 21, tm a 22, tm a 23, tm a 24, tm a 25, tm a 26, tm a 27, tm a 28, tm a 29, tm a 30, tm a 31, tm a 32, tm a 33, tm a 34, tm a 35, tm a 36, tm a 37, tm a 38, tm a 39, tm a 40, tm a 41, tm a 42, tm a 43, tm a 44, tm a 45, tm a 46, tm a 47, tm a 48, tm a 49, tm a 50, tm a 51, tm a 52] from rfl, h0]
 simp only [cmC, cL, cR, bodyOf, Tryz.f19, Option.getD_some]
 go_wp2_with fail
 exact ⟨rfl, rfl, rfl, rfl⟩
set_option maxRecDepth 20000 in
theorem cm_r3 {a : Act} {w : World} {s bb cb vb : Nat} {wd nw : Int} (hS : StoreAt w s wd bb cb vb nw) (hs : a.tmps.size = 53) (hd : a.defers = []) (h0 : tm a 0 = .pointer (some ⟨s, 0, none⟩)) :
   (cL (cR (cR cmC))).wp Tryz.prog (onlyN fun a' w' => w' = w /\ a'.tmps.size = 53 /\ a'.defers = [] /\ tm a' 0 = .pointer (some ⟨s, 0, none⟩) /\ tm a' 5 = .pointer (some ⟨bb, 0, none⟩)) a w := by
 obtain ⟨c0, c1, c2, c3, c4⟩ := hS.cells
 simp only [ptr] at c1
 rw [act_out hs hd, show (List.range 53).map (tm a) = [tm a 0, tm a 1, tm a 2, tm a 3, tm a 4, tm a 5, tm a 6, tm a 7, tm a 8, tm a 9, tm a 10, tm a 11, tm a 12, tm a 13, tm a 14, tm a 15, tm a 16, tm a 17, tm a 18, tm a 19, tm a 20, tm a 21, tm a 22, tm a 23, tm a 24, tm a 25, tm a 26, tm a 27, tm a 28, tm a 29, tm a 30, tm a 31, tm a 32, tm a 33, tm a 34, tm a 35, tm a 36, tm a 37, tm a 38, tm a 39, tm a 40, tm a 41, tm a 42, tm a 43, tm a 44, tm a 45, tm a 46, tm a 47, tm a 48, tm a 49, tm a 50, tm a 51, tm a 52] from rfl, h0]
 simp only [cmC, cL, cR, bodyOf, Tryz.f19, Option.getD_some]
 go_wp2_with fail
 exact ⟨rfl, rfl, rfl, rfl, rfl⟩
set_option maxRecDepth 20000 in
theorem cm_r10 {a : Act} {w : World} {s bb cb vb : Nat} {wd nw : Int} {kd d : Int} {p v : ByteArray} {l r : Option Addr} {sl : Bool} (hS : StoreAt w s wd bb cb vb nw) (hN : NodeAt ndT w bb kd p v l r d sl) (hs : a.tmps.size = 53) (hd : a.defers = []) (h0 : tm a 0 = .pointer (some ⟨s, 0, none⟩)) :
   (cL (cR (cR (cR (cR (cR cmC)))))).wp Tryz.prog (onlyN fun a' w' => (∃ n, w' = w.drewN n) /\ a'.tmps.size = 53 /\ a'.defers = [] /\ tm a' 2 = .int .i64 nw /\ tm a' 3 = .int .i64 d /\ tm a' 4 = .int .i64 0) a w := by
 obtain ⟨c0, c1, c2, c3, c4⟩ := hS.cells
 simp only [ptr] at c1
 have c1' : w.drew.cell? ⟨s, 1, none⟩ = some (.pointer (some ⟨bb, 0, none⟩)) := c1
 have c4' : w.drew.cell? ⟨s, 4, none⟩ = some (.int .i64 nw) := c4
 have hdg : Calls Tryz.prog 27 #[.pointer (some ⟨bb, 0, none⟩)] w.drew fun e w' => e = .returned (.int .i64 d) /\ w' = w.drew := digest_any (t := .empty) (w := w.drew) hN
 rw [act_out hs hd, show (List.range 53).map (tm a) = [tm a 0, tm a 1, tm a 2, tm a 3, tm a 4, tm a 5, tm a 6, tm a 7, tm a 8, tm a 9, tm a 10, tm a 11, tm a 12, tm a 13, tm a 14, tm a 15, tm a 16, tm a 17, tm a 18, tm a 19, tm a 20, tm a 21, tm a 22, tm a 23, tm a 24, tm a 25, tm a 26, tm a 27, tm a 28, tm a 29, tm a 30, tm a 31, tm a 32, tm a 33, tm a 34, tm a 35, tm a 36, tm a 37, tm a 38, tm a 39, tm a 40, tm a 41, tm a 42, tm a 43, tm a 44, tm a 45, tm a 46, tm a 47, tm a 48, tm a 49, tm a 50, tm a 51, tm a 52] from rfl, h0]
 simp only [cmC, cL, cR, bodyOf, Tryz.f19, Option.getD_some]
 go_region_held3 (fun w' => w'.cell? ⟨s, 1, none⟩ = some (.pointer (some ⟨bb, 0, none⟩)) /\ w'.cell? ⟨s, 4, none⟩ = some (.int .i64 nw)) (first | go_keep | exact ⟨c1', c4'⟩)
   (first | (go_at_call 27; refine hdg.mono ?_; rintro e w2 ⟨rfl, hw2⟩; subst hw2))
 go_wp2_with fail
 exact ⟨⟨1, rfl⟩, rfl, rfl, rfl, rfl, rfl⟩
end Go.Proofs.YtddcbeeldjjmeaaGreat
namespace Go.Proofs.YtddcbeeldjjmeaaGreat
open Go Go.Conc Go.RowKit Go.Nest Go.Tm Go.Proofs.YtddcbeeldjjmeaaGreat.Tw Go.Maps Go.Sort Go.Shelf Go.Eq
set_option linter.unusedVariables false
set_option linter.unusedSimpArgs false
def Committed (wd : Nat) (u u' : World) (s cb vb m : Nat) (nw : Int) (G : Lit -> Option Value) (now : KV) (x : Value) : Prop :=
 ∃ r t', x = .tuple #[.int .i64 (nw + 1), .int .i64 (Tr.dig (dgw wd) t'.tr), .int .i64 0] /\ StoreAt u' s wd r cb vb (nw + 1) /\ MapAt Tryz.prog strT u' cb 0 (fun _ => none) /\ MapAt Tryz.prog intT u' vb (m + 1) (upd G (.int .i64 (nw + 1)) (some (.pointer (ptr r)))) /\
   Sd ndT (dgw wd) All u' t'.tr r /\ Rep now.bits t' /\ Gw (fun k => k = s ∨ k = cb ∨ k = vb) u u'
def opsOf : Code -> Array Oper
 | .region _ ops _ => ops
 | _ => #[]
structure Answers [Env] (Orc : Oracle) : Prop where
 sealed : ∀ f args u Post, SealedOrc f args u Post -> Orc f args u Post
 calls : ∀ f args u Post, CallsOrc Tryz.prog f args u Post -> Orc f args u Post
section
variable [Env] [Runs] {Orc : Oracle} {Stop : Frame -> World -> Prop}
set_option maxRecDepth 20000 in
set_option maxHeartbeats 400000 in
theorem commit_runs (X : Setup Tryz.prog fnsM outsM orcsM) (hO : Answers Orc) {u : World} {s bb cb vb n m wd : Nat} {nw : Int} {F G : Lit -> Option Value} {B now : KV} {t : T ByteArray}
   (hS : StoreAt u s wd bb cb vb nw) (hM : MapAt Tryz.prog strT u cb n F) (hn : n <= 8000000000000) (hV : MapAt Tryz.prog intT u vb m G) (hm : m < 1000000000000000) (h1 : s ≠ cb) (h2 : s ≠ vb) (h3 : cb ≠ vb) (hn0 : 0 <= nw) (hn1 : nw < 1000000000000000)
   (hT : TAt (dgw wd) u t bb) (hR : Rep B.bits t) (hB : Row B) (hC : Chg F B now) (hN : Row now) (hwd : wd <= 32) :
   RunsTo Tryz.prog Orc Stop 19 #[.pointer (some ⟨s, 0, none⟩)] u (fun x u' => Committed wd u u' s cb vb m nw G now x) := by
 intro c cs hmode K
 rw [enter_at _ Tryz.func19 (show Tryz.f19.body = some cmC from rfl)]
 generalize ha : ({ tmps := #[Value.pointer (some ⟨s, 0, none⟩)] ++ Array.replicate (Tryz.f19.ntmps - #[Value.pointer (some ⟨s, 0, none⟩)].size) undef, defers := [] } : Act) = a
 have a1 : a.tmps.size = 53 := by rw [<- ha]; simp [Tryz.ntmps19]
 have a2 : a.defers = [] := by rw [<- ha]
 have a3 : tm a 0 = .pointer (some ⟨s, 0, none⟩) := by rw [<- ha]; simp [tm]
 clear ha
 show LSc _ _ _ (Conc.G ((base 19).at a [.code cmC]) (c :: cs)) u
 refine LSc.c_seq (x := cL cmC) (y := cR cmC) ?_
 refine LSc.norm (fun a' u' => a'.tmps.size = 53 /\ a'.defers = [] /\ tm a' 0 = .pointer (some ⟨s, 0, none⟩) /\ ∃ t, u' = World.on u t) (X.fit (by kernel_rfl)) (fun t => Code.wp_mono ?_ (cm_r0 (w := World.on u t) a1 a2 a3)) (fun a' u' t h => ⟨h.1, h.2.1, h.2.2.1, t, by obtain ⟨t', e⟩ := h.2.2.2; rw [e]; rfl⟩) ?_
 · rintro e a' w' h
   cases e <;> first | exact h.elim | exact ⟨h.2.1, h.2.2.1, h.2.2.2, t, h.1⟩
 rintro a u1 ⟨a1, a2, a3, t1, rfl⟩
 refine LSc.c_seq (x := cL (cR cmC)) (y := cR (cR cmC)) ?_
 refine LSc.norm (fun a' u' => a'.tmps.size = 53 /\ a'.defers = [] /\ tm a' 0 = .pointer (some ⟨s, 0, none⟩) /\ ∃ t, u' = World.on u t) (X.fit (by kernel_rfl)) (fun t => Code.wp_mono ?_ (cm_r1 (w := World.on u t) a1 a2 a3)) (fun a' u' t h => ⟨h.1, h.2.1, h.2.2.1, t, by obtain ⟨t', e⟩ := h.2.2.2; rw [e]; rfl⟩) ?_
 · rintro e a' w' h
   cases e <;> first | exact h.elim | exact ⟨h.2.1, h.2.2.1, h.2.2.2, t, h.1⟩
 rintro a u1 ⟨a1, a2, a3, t2, rfl⟩
 refine LSc.c_seq (x := cL (cR (cR cmC))) (y := cR (cR (cR cmC))) ?_
 refine LSc.norm (fun a' u' => a'.tmps.size = 53 /\ a'.defers = [] /\ tm a' 0 = .pointer (some ⟨s, 0, none⟩) /\ tm a' 5 = .pointer (some ⟨bb, 0, none⟩) /\ ∃ t, u' = World.on u t) (X.fit (by kernel_rfl)) (fun t => Code.wp_mono ?_ (cm_r3 (w := World.on u t) (hS.on t) a1 a2 a3)) (fun a' u' t h => ⟨h.1, h.2.1, h.2.2.1, h.2.2.2.1, t, by obtain ⟨t', e⟩ := h.2.2.2.2; rw [e]; rfl⟩) ?_
 · rintro e a' w' h
   cases e <;> first | exact h.elim | exact ⟨h.2.1, h.2.2.1, h.2.2.2.1, h.2.2.2.2, t, h.1⟩
 rintro a u1 ⟨a1, a2, a3, a5, t3, rfl⟩
 refine LSc.c_seq (x := cL (cR (cR (cR cmC)))) (y := cR (cR (cR (cR cmC)))) ?_
 refine LSc.norm (fun a' u' => a'.tmps.size = 53 /\ a'.defers = [] /\ tm a' 0 = .pointer (some ⟨s, 0, none⟩) /\ (∃ b t', tm a' 5 = .pointer (some ⟨b, 0, none⟩) /\ TAt (dgw wd) u' t' b /\ Rep now.bits t') /\ Gw (fun _ => False) u u') (X.fit (by kernel_rfl))
   (fun t => Code.wp_mono ?_ (cm_loop (w := World.on u t) a1 a2 a3 a5 (hS.on t) (hM.same rfl) hn (hT.on t) hR hB hC hN)) (fun a' u' t h => ⟨h.1, h.2.1, h.2.2.1, by obtain ⟨b, t', k1, k2, k3⟩ := h.2.2.2.1; exact ⟨b, t', k1, k2.on t, k3⟩, h.2.2.2.2.on t⟩) ?_
 · rintro e a' w' h
   cases e <;> first | exact h.elim | exact ⟨h.1, h.2.1, h.2.2.1, h.2.2.2.1, (Gw.below (K := fun _ => False) h.2.2.2.2).on' _⟩
 rintro a u1 ⟨a1, a2, a3, ⟨b, t', a5, hT', hR'⟩, hG1⟩
 have hsl := hS.lt
 have hS1 : StoreAt u1 s wd bb cb vb nw := hS.same (hG1.block s hsl (fun h => h))
 have hM1 := hM.same (hG1.block cb hM.lt (fun h => h))
 have hV1 := hV.same (hG1.block vb hV.lt (fun h => h))
 obtain ⟨d0, d1, d2, d3, d4⟩ := hS1.cells
 refine LSc.c_seq (x := cL (cR (cR (cR (cR cmC))))) (y := cR (cR (cR (cR (cR cmC))))) ?_
 refine LSc.c_region (ops := opsOf (cL (cR (cR (cR (cR cmC)))))) ?_
 show LSc _ _ _ (Conc.G (Frame.at _ _ (.inRegion _ [0, 1, 2, 3, 4, 5, 6, 7] :: _)) _) _
 refine LSc.mv 36 (.pointer (some ⟨s, 0, none⟩)) (.tmp 0) rfl (X.free (by rfl)) rfl rfl rfl (.inl rfl) (by rw [tm_eval]; exact a3) ?_
 refine LSc.mv 37 (.pointer (some ⟨b, 0, none⟩)) (.tmp 5) rfl (X.free (by rfl)) rfl rfl rfl (.inl rfl) (by rw [tm_eval, tm_ne (by decide)]; exact a5) ?_
 refine LSc.mv 38 (.pointer (some ⟨s, 0, none⟩)) (.tmp 0) rfl (X.free (by rfl)) rfl rfl rfl (.inl rfl) (by rw [tm_eval, tm_ne (by decide), tm_ne (by decide)]; exact a3) ?_
 refine LSc.nilc 39 (.tmp 38) ⟨s, 0, none⟩ rfl (X.free (by rfl)) rfl rfl rfl rfl (by rw [tm_eval, tm_eq (by simp [Eq.size_put, a1])]) ?_
 refine LSc.fld 40 (.tmp 39) stT 0 ⟨s, 0, none⟩ ⟨s, 0, none⟩ rfl (X.free (by rfl)) rfl rfl rfl rfl (by rw [tm_eval, tm_eq (by simp [Eq.size_put, a1])]) (by intro w; simp [go_sem]) ?_
 refine LSc.ld 41 (.tmp 40) intT ⟨s, 0, none⟩ (.int .i64 wd) rfl (X.free (by rfl)) rfl rfl rfl rfl (by rw [tm_eval, tm_eq (by simp [Eq.size_put, a1])]) (by intro t'; have d0' : (World.on u1 t').cell? ⟨s, 0, none⟩ = some (.int .i64 wd) := d0; simp [go_sem, d0']) ?_
 refine LSc.callAt 42 (args := #[.tmp 37, .tmp 41]) (vs := #[.pointer (ptr b), .int .i64 wd]) rfl rfl rfl rfl rfl Tryz.func37 (by rfl) rfl (by intro x hx; simp at hx; rcases hx with rfl | rfl <;> trivial)
   (by simp [tm_eval, tm_eq, tm_ne, Eq.size_put, a1, ptr]) (hO.sealed _ _ _ _ ⟨rfl, wd, b, t'.tr, hwd, hN.wf hR', rfl, hT', rfl⟩) ?_
 rintro x u2 ⟨r, rfl, hGr, hSd⟩
 have hG2 : Gw (fun _ => False) u1 u2 := Gw.grew hGr
 have hS2 : StoreAt u2 s wd bb cb vb nw := hS1.same (hG2.block s hS1.lt (fun h => h))
 have hM2 := hM1.same (hG2.block cb hM1.lt (fun h => h))
 have hV2 := hV1.same (hG2.block vb hV1.lt (fun h => h))
 refine LSc.callAt 43 (args := #[.tmp 36, .tmp 42]) (vs := #[.pointer (some ⟨s, 0, none⟩), .pointer (ptr r)]) rfl rfl rfl rfl rfl Tryz.func36 (by rfl) rfl (by intro x hx; simp at hx; rcases hx with rfl | rfl <;> trivial)
   (by simp [tm_eval, tm_eq, tm_ne, Eq.size_put, a1])
   (Post := fun x u' => StoreAt u' s wd r cb vb (nw + 1) /\ MapAt Tryz.prog strT u' cb 0 (fun _ => none) /\ MapAt Tryz.prog intT u' vb (m + 1) (upd G (.int .i64 (nw + 1)) (some (.pointer (ptr r)))) /\ Gw (fun k => k = s ∨ k = cb ∨ k = vb) u2 u')
   (hO.calls _ _ _ _ ⟨(X.env.fn _).2 (by decide), fun t => (keep_any (x := r) (hS2.on t) (hM2.same rfl) (hV2.same rfl) hm h1 h2 h3 hn0 hn1).mono ?_, fun v w t h => ⟨h.1, h.2.1.same rfl, h.2.2.1.same rfl, h.2.2.2.on t⟩⟩) ?_
 · rintro e w' ⟨rfl, k1, k2, k3, k4⟩
   exact ⟨_, rfl, k1, k2, k3, (Gw.kept k4).on' _⟩
 rintro x u3 ⟨hS3, hM3, hV3, hG3⟩
 have hno : ∀ k, (k = s ∨ k = cb ∨ k = vb) -> NoNode u2 k := by
   rintro k (rfl | rfl | rfl)
   · exact hS2.noNode
   · exact MapAt.noNode hM2
   · exact MapAt.noNode hV2
 have hSd3 : Sd ndT (dgw wd) All u3 t'.tr r := hG3.sd hno hSd
 obtain ⟨lr, rr, hNr⟩ := sd_root hSd3
 refine LSc.c_rend ?_
 refine LSc.c_seq (x := cL (cR (cR (cR (cR (cR cmC)))))) (y := cR (cR (cR (cR (cR (cR cmC)))))) ?_
 refine LSc.norm (fun a' u' => a'.defers = [] /\ tm a' 2 = .int .i64 (nw + 1) /\ tm a' 3 = .int .i64 (Tr.dig (dgw wd) t'.tr) /\ tm a' 4 = .int .i64 0 /\ Gw (fun _ => False) u3 u') (X.fit (by kernel_rfl))
   (fun t => Code.wp_mono ?_ (cm_r10 (w := World.on u3 t) (hS3.on t) (Gw.node (K := fun _ => False) (gw_on u3 t) (fun _ h => h.elim) hNr) ?_ ?_ ?_)) (fun a' u' t h => ⟨h.1, h.2.1, h.2.2.1, h.2.2.2.1, h.2.2.2.2.on t⟩) ?_
 · rintro e a' w' h
   cases e <;> first | exact h.elim | skip
   obtain ⟨⟨k, rfl⟩, k1, k2, k3, k4, k5⟩ := h
   exact ⟨k2, k3, k4, k5, (Gw.below (w := World.on u3 t) (below_drewN _ _ k)).on' _⟩
 · simp [Eq.size_put, a1]
 · simp [defers_put, a2]
 · simp [tm_ne, a3]
 rintro a u4 ⟨b2, b3, b4, b5, hG4⟩
 refine LSc.retAt (v := .tuple #[.int .i64 (nw + 1), .int .i64 (Tr.dig (dgw wd) t'.tr), .int .i64 0]) rfl b2 Tryz.func19 (fun w => ?_) (fun w => ?_) hmode (K _ _ ?_)
 · simp only [tm] at b3 b4 b5
   rw [results_tmp3 (t := 2) (u := 3) (v := 4) rfl]
   simp [b3, b4, b5]
 · simp [results, Tryz.results19]
 · have hGa : Gw (fun k => k = s ∨ k = cb ∨ k = vb) u u4 := (((hG1.mono (fun _ _ h => h.elim)).trans (hG2.mono (fun _ _ h => h.elim))).trans hG3).trans (hG4.mono (fun _ _ h => h.elim))
   exact ⟨r, t', rfl, hS3.same (hG4.block s hS3.lt (fun h => h)), hM3.same (hG4.block cb hM3.lt (fun h => h)), hV3.same (hG4.block vb hV3.lt (fun h => h)), hG4.sd (fun _ h => h.elim) hSd3, hR', hGa⟩
end
abbrev prsT : TypeId := 31
abbrev boolT : TypeId := 4
abbrev lwT : TypeId := 36
abbrev stpT : TypeId := 27
structure Tn (base : Nat) (T : TypeId -> Prop) (M : Nat -> Prop) (u u' : World) : Prop where
 os : u'.os = u.os
 size : u.heap.size <= u'.heap.size
 cells : ∀ (k : Nat) (cs : Array Value) (ty : TypeId) (fr : Nat × Nat), u.heap[k]? = some (Obj.cells cs ty fr) -> ¬ T ty -> u'.heap[k]? = some (Obj.cells cs ty fr)
 maps : ∀ (k : Nat) es cl, u.heap[k]? = some (Obj.map es cl) -> ¬ M k -> u'.heap[k]? = some (Obj.map es cl)
 old : ∀ k : Nat, k < base -> u'.heap[k]? = u.heap[k]?
variable {base : Nat} {T : TypeId -> Prop} {M : Nat -> Prop} {u u' u'' : World} {wd : Nat}
theorem Tn.refl (u : World) : Tn base T M u u := ⟨rfl, Nat.le_refl _, fun _ _ _ _ h _ => h, fun _ _ _ h _ => h, fun _ _ => rfl⟩
theorem Tn.trans (h : Tn base T M u u') (k : Tn base T M u' u'') : Tn base T M u u'' :=
 ⟨k.os.trans h.os, Nat.le_trans h.size k.size, fun i cs ty fr e hn => k.cells i cs ty fr (h.cells i cs ty fr e hn) hn, fun i es cl e hn => k.maps i es cl (h.maps i es cl e hn) hn, fun i hi => (k.old i hi).trans (h.old i hi)⟩
theorem Tn.mono {T' : TypeId -> Prop} {M' : Nat -> Prop} (h : Tn base T M u u') (h1 : ∀ t, T t -> T' t) (h2 : ∀ k, M k -> M' k) : Tn base T' M' u u' :=
 ⟨h.os, h.size, fun i cs ty fr e hn => h.cells i cs ty fr e (fun x => hn (h1 _ x)), fun i es cl e hn => h.maps i es cl e (fun x => hn (h2 _ x)), h.old⟩
theorem Tn.gw {K : Nat -> Prop} (h : Gw K u u') (hb : base <= u.heap.size) (hT : ∀ (k : Nat) cs ty fr, K k -> u.heap[k]? = some (Obj.cells cs ty fr) -> T ty) (hM : ∀ (k : Nat) es cl, K k -> u.heap[k]? = some (Obj.map es cl) -> M k) (hK : ∀ k, K k -> base <= k) : Tn base T M u u' :=
 ⟨h.os, h.size, fun k cs ty fr e hn => (h.block k (Array.getElem?_eq_some_iff.1 e).1 fun hk => hn (hT k cs ty fr hk e)).trans e, fun k es cl e hn => (h.block k (Array.getElem?_eq_some_iff.1 e).1 fun hk => hn (hM k es cl hk e)).trans e,
  fun k hk => h.block k (by omega) fun hh => absurd (hK k hh) (by omega)⟩
theorem Tn.below (h : Below u.heap.size u u') (hb : base <= u.heap.size) : Tn base T M u u' := Tn.gw (Gw.below (K := fun _ => False) h) hb (fun _ _ _ _ h => h.elim) (fun _ _ _ h => h.elim) fun _ h => h.elim
theorem Tn.on (h : Tn base T M u u') (t : Nat -> Question -> Nat) : Tn base T M u (World.on u' t) := ⟨h.os, h.size, h.cells, h.maps, h.old⟩
theorem Tn.on' (h : Tn base T M u u') (t : Nat -> Question -> Nat) : Tn base T M (World.on u t) u' := ⟨h.os, h.size, h.cells, h.maps, h.old⟩
theorem tn_on (u : World) (t : Nat -> Question -> Nat) : Tn base T M u (World.on u t) := ⟨rfl, Nat.le_refl _, fun _ _ _ _ h _ => h, fun _ _ _ h _ => h, fun _ _ => rfl⟩
theorem Tn.node (h : Tn base T M u u') (hn : ¬ T ndT) {b : Nat} {kd : Int} {p v : ByteArray} {l r : Option Addr} {d : Int} {s : Bool} (hN : NodeAt ndT u b kd p v l r d s) : NodeAt ndT u' b kd p v l r d s := by
 obtain ⟨fr, e⟩ := hN
 exact ⟨fr, h.cells b _ _ _ e hn⟩
theorem Tn.sd {dg : DG} (h : Tn base T M u u') (hn : ¬ T ndT) : ∀ {t : Tr} {b : Nat}, Sd ndT dg All u t b -> Sd ndT dg All u' t b
 | .branch _ _ _, _, ⟨h1, bl, br, h2, h3, h4⟩ => ⟨h1, bl, br, h.node hn h2, h.sd hn h3, h.sd hn h4⟩
 | .empty, _, ⟨h1, h2⟩ => ⟨h1, h.node hn h2⟩
 | .leaf _ _, _, ⟨h1, h2⟩ => ⟨h1, h.node hn h2⟩
theorem Tn.nd {dg : DG} (h : Tn base T M u u') (hn : ¬ T ndT) : ∀ {t : Tr} {b : Nat}, Nd ndT dg All u t b -> Nd ndT dg All u' t b
 | .branch _ _ _, _, ⟨h1, bl, br, d, s, h2, h3, h4, h5⟩ => ⟨h1, bl, br, d, s, h.node hn h2, h.nd hn h3, h.nd hn h4, fun x => ⟨(h5 x).1, h.sd hn (h5 x).2.1, h.sd hn (h5 x).2.2⟩⟩
 | .empty, _, ⟨h1, d, s, h2, h3⟩ => ⟨h1, d, s, h.node hn h2, h3⟩
 | .leaf _ _, _, ⟨h1, d, s, h2, h3⟩ => ⟨h1, d, s, h.node hn h2, h3⟩
theorem Tn.row (h : Tn base T M u u') {b' : Nat} {e : TypeId} {sz : Nat} {v : Value} {n : Nat} {xs : List Value} (hn : ¬ T e) (hr : u.ownsRow b' e sz v n xs) : u'.ownsRow b' e sz v n xs := by
 obtain ⟨h1, h2 | ⟨g, cap, cur, rfl, hg, hh, h3⟩⟩ := hr
 · exact ⟨h1, .inl h2⟩
 · exact ⟨h1, .inr ⟨g, cap, cur, rfl, hg, h.cells g _ _ _ hh hn, h3⟩⟩
theorem Tn.store (h : Tn base T M u u') {s bb cb vb : Nat} {w0 nw : Int} (hn : ¬ T stT) (hS : StoreAt u s w0 bb cb vb nw) : StoreAt u' s w0 bb cb vb nw := h.cells s _ _ _ hS hn
theorem Tn.map (h : Tn base T M u u') {K0 : TypeId} {b n : Nat} {F : Lit -> Option Value} (hn : ¬ M b) (hM : MapAt Tryz.prog K0 u b n F) : MapAt Tryz.prog K0 u' b n F := by
 have hM2 := hM
 obtain ⟨D, ⟨es, cl, e, _⟩, _⟩ := hM2
 exact hM.same ((h.maps b es cl e hn).trans e.symm)
def LwAt (u : World) (wb s wd : Nat) (vnow vall vroots vgone : Value) : Prop := u.heap[wb]? = some (.cells #[.pointer (ptr s), .int .i64 wd, vnow, vall, vroots, vgone] lwT (0, 0))
theorem LwAt.cells {wb s : Nat} {vnow vall vroots vgone : Value} (h : LwAt u wb s wd vnow vall vroots vgone) :
   u.cell? ⟨wb, 0, none⟩ = some (.pointer (some ⟨s, 0, none⟩)) /\ u.cell? ⟨wb, 1, none⟩ = some (.int .i64 wd) /\ u.cell? ⟨wb, 2, none⟩ = some vnow /\ u.cell? ⟨wb, 3, none⟩ = some vall /\ u.cell? ⟨wb, 4, none⟩ = some vroots /\ u.cell? ⟨wb, 5, none⟩ = some vgone := by
 unfold LwAt at h
 refine ⟨?_, ?_, ?_, ?_, ?_, ?_⟩ <;> simp [World.cell?, h, ptr]
theorem LwAt.frozen {wb s : Nat} {vnow vall vroots vgone : Value} (h : LwAt u wb s wd vnow vall vroots vgone) (o : Nat) : u.frozen? ⟨wb, o, none⟩ = false := by
 unfold LwAt at h
 simp [World.frozen?, h]
theorem LwAt.lt {wb s : Nat} {vnow vall vroots vgone : Value} (h : LwAt u wb s wd vnow vall vroots vgone) : wb < u.heap.size := (Array.getElem?_eq_some_iff.1 h).1
theorem LwAt.set2 {wb s : Nat} {vnow vall vroots vgone : Value} (h : LwAt u wb s wd vnow vall vroots vgone) (x : Value) : LwAt (u.setCell ⟨wb, 2, none⟩ x) wb s wd x vall vroots vgone := by
 have hs := h.lt
 unfold LwAt at h ⊢
 simp only [World.setCell, Array.getElem?_modify, if_true, h]
 simp
theorem LwAt.set3 {wb s : Nat} {vnow vall vroots vgone : Value} (h : LwAt u wb s wd vnow vall vroots vgone) (x : Value) : LwAt (u.setCell ⟨wb, 3, none⟩ x) wb s wd vnow x vroots vgone := by
 have hs := h.lt
 unfold LwAt at h ⊢
 simp only [World.setCell, Array.getElem?_modify, if_true, h]
 simp
theorem LwAt.set4 {wb s : Nat} {vnow vall vroots vgone : Value} (h : LwAt u wb s wd vnow vall vroots vgone) (x : Value) : LwAt (u.setCell ⟨wb, 4, none⟩ x) wb s wd vnow vall x vgone := by
 have hs := h.lt
 unfold LwAt at h ⊢
 simp only [World.setCell, Array.getElem?_modify, if_true, h]
 simp
theorem LwAt.set5 {wb s : Nat} {vnow vall vroots vgone : Value} (h : LwAt u wb s wd vnow vall vroots vgone) (x : Value) : LwAt (u.setCell ⟨wb, 5, none⟩ x) wb s wd vnow vall vroots x := by
 have hs := h.lt
 unfold LwAt at h ⊢
 simp only [World.setCell, Array.getElem?_modify, if_true, h]
 simp
theorem LwAt.tn {wb s : Nat} {vnow vall vroots vgone : Value} (h : LwAt u wb s wd vnow vall vroots vgone) (hb : base <= wb) (o : Nat) (x : Value) : Tn base (· = lwT) (fun _ => False) u (u.setCell ⟨wb, o, none⟩ x) := by
 have hne : ∀ k, k ≠ wb -> (u.setCell ⟨wb, o, none⟩ x).heap[k]? = u.heap[k]? := fun k hk => Below.heap_setCell _ _ _ _ hk
 refine ⟨rfl, by simp [World.setCell], fun k cs ty fr e hn => ?_, fun k es cl e _ => ?_, fun k hk => hne k (by omega)⟩
 · by_cases hk : k = wb
   · subst hk; unfold LwAt at h; rw [h] at e; cases e; exact absurd rfl hn
   · rw [hne k hk]; exact e
 · by_cases hk : k = wb
   · subst hk; unfold LwAt at h; rw [h] at e; cases e
   · rw [hne k hk]; exact e
def VerAt (u : World) (wd : Nat) (G : Lit -> Option Value) (i : Nat) (l : KV) (r : Int) (g : Bool) : Prop :=
 Row l /\ ((g = true /\ G (.int .i64 (i + 1)) = none) ∨ (g = false /\ ∃ x t, G (.int .i64 (i + 1)) = some (.pointer (ptr x)) /\ Sd ndT (dgw wd) All u t.tr x /\ Rep l.bits t /\ r = Tr.dig (dgw wd) t.tr))
structure Lw (base : Nat) (u : World) (wd cnt : Nat) (now : KV) (all : List KV) (roots : List Int) (gone : List Bool) (wb s bb cb vb : Nat) (F G : Lit -> Option Value) (B : KV) (t : Go.Tm.T ByteArray) (vnow vall vroots vgone : Value) (xs : List Value) : Prop where
 lw : LwAt u wb s wd vnow vall vroots vgone
 lo : base <= wb /\ base <= s /\ base <= cb /\ base <= vb
 bound : base <= u.heap.size
 wide : 1 <= wd /\ wd <= 32
 store : StoreAt u s wd bb cb vb all.length
 changes : MapAt Tryz.prog strT u cb cnt F
 versions : MapAt Tryz.prog intT u vb cnt G
 apart : s ≠ cb /\ s ≠ vb /\ cb ≠ vb
 tree : TAt (dgw wd) u t bb
 rep : Rep B.bits t
 rowB : Row B
 rowN : Row now
 chg : Chg F B now
 count : all.length <= cnt /\ cnt <= 5864062014700
 lens : roots.length = all.length /\ gone.length = all.length /\ xs.length = all.length
 rnow : OwnP base u vnow now.prs
 rall : u.ownsRow base prsT 1 vall all.length xs
 rx : ∀ i (h : i < all.length), ∃ v, xs[i]? = some v /\ OwnP base u v all[i].prs
 rroots : u.ownsRow base intT 1 vroots all.length (roots.map (.int .i64))
 rgone : u.ownsRow base boolT 1 vgone all.length (gone.map .bool)
 vers : ∀ i (h : i < all.length), ∃ r g, roots[i]? = some r /\ gone[i]? = some g /\ VerAt u wd G i all[i] r g
 rts : ∀ i (h : i < all.length), ∃ t, Rep all[i].bits t /\ roots[i]? = some (Tr.dig (dgw wd) t.tr)
theorem VerAt.tn {G : Lit -> Option Value} {i : Nat} {l : KV} {r : Int} {g : Bool} (h : VerAt u wd G i l r g) (hT : Tn base T M u u') (hn : ¬ T ndT) : VerAt u' wd G i l r g :=
 ⟨h.1, h.2.imp id fun ⟨h1, x, t, h2, h3, h4⟩ => ⟨h1, x, t, h2, hT.sd hn h3, h4⟩⟩
noncomputable abbrev doC : Code := bodyOf Tryz.f5
def StpAt (u : World) (ob : Nat) (kd k v : Int) : Prop := u.heap[ob]? = some (.cells #[.int .i64 kd, .int .i64 k, .int .i64 v] stpT (0, 0))
theorem StpAt.cells {u : World} {ob : Nat} {kd k v : Int} (h : StpAt u ob kd k v) : u.cell? ⟨ob, 0, none⟩ = some (.int .i64 kd) /\ u.cell? ⟨ob, 1, none⟩ = some (.int .i64 k) /\ u.cell? ⟨ob, 2, none⟩ = some (.int .i64 v) := by
 unfold StpAt at h
 refine ⟨?_, ?_, ?_⟩ <;> simp [World.cell?, h]
theorem StpAt.tn {base : Nat} {T : TypeId -> Prop} {M : Nat -> Prop} {u u' : World} {ob : Nat} {kd k v : Int} (h : StpAt u ob kd k v) (hT : Tn base T M u u') (hn : ¬ T stpT) : StpAt u' ob kd k v := hT.cells ob _ _ _ h hn
def I64 (c : Int) : Prop := -9223372036854775808 <= c /\ c <= 9223372036854775807
structure Da (a : Act) (wb ob : Nat) : Prop where
 size : a.tmps.size = 228
 defers : a.defers = []
 w : tm a 0 = .pointer (some ⟨wb, 0, none⟩)
 o : tm a 3 = .pointer (some ⟨ob, 0, none⟩)
theorem Da.out {a : Act} {wb ob : Nat} (h : Da a wb ob) : a = ⟨([tm a 0, tm a 1, tm a 2, tm a 3, tm a 4, tm a 5, tm a 6, tm a 7, tm a 8, tm a 9, tm a 10, tm a 11, tm a 12, tm a 13, tm a 14, tm a 15, tm a 16, tm a 17, tm a 18, tm a 19, tm a 20, tm a 21, tm a 22, tm a 23, tm a 24, tm a 25, tm a 26, tm a 27, tm a 28, tm a 29, tm a 30, tm a 31, tm a 32, tm a 33, tm a 34, tm a 35, tm a 36, tm a 37, tm a 38, tm a 39, tm a 40, tm a 41, tm a 42, tm a 43, tm a 44, tm a 45, tm a 46, tm a 47, tm a 48, tm a 49, tm a 50, tm a 51, tm a 52, tm a 53, tm a 54, tm a 55, tm a 56, tm a 57, tm a 58, tm a 59, tm a 60, tm a 61, tm a 62, tm a 63, tm a 64, tm a 65, tm a 66, tm a 67, tm a 68, tm a 69, tm a 70, tm a 71, tm a 72, tm a 73, tm a 74, tm a 75, tm a 76, tm a 77, tm a 78, tm a 79, tm a 80, tm a 81, tm a 82, tm a 83, tm a 84, tm a 85, tm a 86, tm a 87, tm a 88, tm a 89, tm a 90, tm a 91, tm a 92, tm a 93, tm a 94, tm a 95, tm a 96, tm a 97, tm a 98, tm a 99, tm a 100, tm a 101, tm a 102, tm a 103, tm a 104, tm a 105, tm a 106, tm a 107, tm a 108, tm a 109, tm a 110, tm a 111, tm a 112, tm a 113, tm a 114, tm a 115, tm a 116, tm a 117, tm a 118, tm a 119, tm a 120, tm a 121, tm a 122, tm a 123, tm a 124, tm a 125, tm a 126, tm a 127, tm a 128, tm a 129, tm a 130, tm a 131, tm a 132, tm a 133, tm a 134, tm a 135, tm a 136, tm a 137, tm a 138, tm a 139, tm a 140, tm a 141, tm a 142, tm a 143, tm a 144, tm a 145, tm a 146, tm a 147, tm a 148, tm a 149, tm a 150, tm a 151, tm a 152, tm a 153, tm a 154, tm a 155, tm a 156, tm a 157, tm a 158, tm a 159, tm a 160, tm a 161, tm a 162, tm a 163, tm a 164, tm a 165, tm a 166, tm a 167, tm a 168, tm a 169, tm a 170, tm a 171, tm a 172, tm a 173, tm a 174, tm a 175, tm a 176, tm a 177, tm a 178, tm a 179, tm a 180, tm a 181, tm a 182, tm a 183, tm a 184, tm a 185, tm a 186, tm a 187, tm a 188, tm a 189, tm a 190, tm a 191, tm a 192, tm a 193, tm a 194, tm a 195, tm a 196, tm a 197, tm a 198, tm a 199, tm a 200, tm a 201, tm a 202, tm a 203, tm a 204, tm a 205, tm a 206, tm a 207, tm a 208, tm a 209, tm a 210, tm a 211, tm a 212, tm a 213, tm a 214, tm a 215, tm a 216, tm a 217, tm a 218, tm a 219, tm a 220, tm a 221, tm a 222, tm a 223, tm a 224, tm a 225, tm a 226, tm a 227]).toArray, []⟩ := act_out h.size h.defers
set_option maxRecDepth 20000 in
theorem dw_0 {a : Act} {u : World} {wb : Nat} {kd k v : Int} (a1 : a.tmps.size = 228) (a2 : a.defers = []) (a3 : tm a 0 = .pointer (some ⟨wb, 0, none⟩)) (a4 : tm a 1 = .agg #[.int .i64 kd, .int .i64 k, .int .i64 v]) :
   (cL doC).wp Tryz.prog (onlyN fun a' u' => ∃ ob, Da a' wb ob /\ StpAt u' ob kd k v /\ Below u.heap.size u u') a u := by
 rw [act_out a1 a2, show (List.range 228).map (tm a) = [tm a 0, tm a 1, tm a 2, tm a 3, tm a 4, tm a 5, tm a 6, tm a 7, tm a 8, tm a 9, tm a 10, tm a 11, tm a 12, tm a 13, tm a 14, tm a 15, tm a 16, tm a 17, tm a 18, tm a 19, tm a 20, tm a 21, tm a 22, tm a 23, tm a 24, tm a 25, tm a 26, tm a 27, tm a 28, tm a 29, tm a 30, tm a 31, tm a 32, tm a 33, tm a 34, tm a 35, tm a 36, tm a 37, tm a 38, tm a 39, tm a 40, tm a 41, tm a 42, tm a 43, tm a 44, tm a 45, tm a 46, tm a 47, tm a 48, tm a 49, tm a 50, tm a 51, tm a 52, tm a 53, tm a 54, tm a 55, tm a 56, tm a 57, tm a 58, tm a 59, tm a 60, tm a 61, tm a 62, tm a 63, tm a 64, tm a 65, tm a 66, tm a 67, tm a 68, tm a 69, tm a 70, tm a 71, tm a 72, tm a 73, tm a 74, tm a 75, tm a 76, tm a 77, tm a 78, tm a 79, tm a 80, tm a 81, tm a 82, tm a 83, tm a 84, tm a 85, tm a 86, tm a 87, tm a 88, tm a 89, tm a 90, tm a 91, tm a 92, tm a 93, tm a 94, tm a 95, tm a 96, tm a 97, tm a 98, tm a 99, tm a 100, tm a 101, tm a 102, tm a 103, tm a 104, tm a 105, tm a 106, tm a 107, tm a 108, tm a 109, tm a 110, tm a 111, tm a 112, tm a 113, tm a 114, tm a 115, tm a 116, tm a 117, tm a 118, tm a 119, tm a 120, tm a 121, tm a 122, tm a 123, tm a 124, tm a 125, tm a 126, tm a 127, tm a 128, tm a 129, tm a 130, tm a 131, tm a 132, tm a 133, tm a 134, tm a 135, tm a 136, tm a 137, tm a 138, tm a 139, tm a 140, tm a 141, tm a 142, tm a 143, tm a 144, tm a 145, tm a 146, tm a 147, tm a 148, tm a 149, tm a 150, tm a 151, tm a 152, tm a 153, tm a 154, tm a 155, tm a 156, tm a 157, tm a 158, tm a 159, tm a 160, tm a 161, tm a 162, tm a 163, tm a 164, tm a 165, tm a 166, tm a 167, tm a 168, tm a 169, tm a 170, tm a 171, tm a 172, tm a 173, tm a 174, tm a 175, tm a 176, tm a 177, tm a 178, tm a 179, tm a 180, tm a 181, tm a 182, tm a 183, tm a 184, tm a 185, tm a 186, tm a 187, tm a 188, tm a 189, tm a 190, tm a 191, tm a 192, tm a 193, tm a 194, tm a 195, tm a 196, tm a 197, tm a 198, tm a 199, tm a 200, tm a 201, tm a 202, tm a 203, tm a 204, tm a 205, tm a 206, tm a 207, tm a 208, tm a 209, tm a 210, tm a 211, tm a 212, tm a 213, tm a 214, tm a 215, tm a 216, tm a 217, tm a 218, tm a 219, tm a 220, tm a 221, tm a 222, tm a 223, tm a 224, tm a 225, tm a 226, tm a 227] from rfl, a3, a4]
 simp only [doC, cL, cR, bodyOf, Tryz.f5, Option.getD_some]
 go_wp2_with fail
 exact ⟨u.heap.size, ⟨rfl, rfl, rfl, rfl⟩, heap_alloc_new u _, (Below.refl _ u).alloc (Nat.le_refl _) _⟩
set_option maxRecDepth 20000 in
theorem dw_1 {a : Act} {u : World} {wb ob : Nat} {kd k v : Int} (hA : Da a wb ob) (hS : StpAt u ob kd k v) (hk : I64 k) :
   (cL (cR doC)).wp Tryz.prog (onlyN fun a' u' => Da a' wb ob /\ tm a' 5 = .string (keyN (pickN k 20)) /\ Below u.heap.size u u') a u := by
 obtain ⟨c0, c1, c2⟩ := hS.cells
 have hkey := keyL_any k u hk.1 hk.2
 rw [hA.out, hA.w, hA.o]
 simp only [doC, cL, cR, bodyOf, Tryz.f5, Option.getD_some]
 go_wp2_with (go_at_call 7; refine hkey.mono ?_; rintro e u2 ⟨rfl, hB2⟩)
 exact ⟨⟨rfl, rfl, rfl, rfl⟩, rfl, hB2⟩
set_option maxRecDepth 20000 in
theorem dw_2 {a : Act} {u : World} {wb ob : Nat} {kd k v : Int} {key : ByteArray} (hA : Da a wb ob) (h5 : tm a 5 = .string key) (hS : StpAt u ob kd k v) (hk : I64 kd) :
   (cL (cL (cR (cR doC)))).wp Tryz.prog (onlyN fun a' u' => Da a' wb ob /\ tm a' 5 = .string key /\ tm a' 22 = .int .i64 (pickN kd 8) /\ u' = u) a u := by
 obtain ⟨c0, c1, c2⟩ := hS.cells
 have hp := pick_any kd 8 u hk.1 hk.2 (by decide) (by decide)
 rw [hA.out, hA.w, hA.o, h5]
 simp only [doC, cL, cR, bodyOf, Tryz.f5, Option.getD_some]
 go_wp2_with (go_at_call 12; refine hp.mono ?_; rintro e u2 ⟨rfl, rfl⟩)
 exact ⟨⟨rfl, rfl, rfl, rfl⟩, rfl, rfl, rfl⟩
noncomputable abbrev dInner : Code := cB (cR (cL (cR (cR doC))))
noncomputable abbrev dSet : Code := cT (cR dInner)
noncomputable abbrev dB : Code := cE (cR dInner)
noncomputable abbrev dDel : Code := cT (cR dB)
noncomputable abbrev dB2 : Code := cE (cR dB)
noncomputable abbrev dCom : Code := cT (cR dB2)
noncomputable abbrev dTail : Code := cR (cR (cR doC))
set_option maxRecDepth 20000 in
set_option maxHeartbeats 1000000 in
theorem dw_3 {a : Act} {u : World} {wb ob j : Nat} {key : ByteArray} (hA : Da a wb ob) (h5 : tm a 5 = .string key) (h22 : tm a 22 = .int .i64 j) (hj : j < 8) :
   (cL dInner).wp Tryz.prog (onlyN fun a' u' => Da a' wb ob /\ tm a' 5 = .string key /\ tm a' 22 = .int .i64 j /\ tm a' 23 = .bool (decide (j < 4)) /\ u' = u) a u := by
 have hh : j = 0 ∨ j = 1 ∨ j = 2 ∨ j = 3 ∨ j = 4 ∨ j = 5 ∨ j = 6 ∨ j = 7 := by omega
 rcases hh with rfl | rfl | rfl | rfl | rfl | rfl | rfl | rfl <;>
 · rw [hA.out, hA.w, hA.o, h5, h22]
   simp only [dInner, doC, cL, cR, cB, bodyOf, Tryz.f5, Option.getD_some]
   go_wp2_with fail
   exact ⟨⟨rfl, rfl, rfl, rfl⟩, rfl, rfl, rfl, rfl⟩
set_option maxRecDepth 20000 in
set_option maxHeartbeats 1000000 in
theorem dw_7 {a : Act} {u : World} {wb ob s : Nat} {v e0 : Int} {key V : ByteArray} {R : World -> Prop} (hA : Da a wb ob) (h5 : tm a 5 = .string key) (hw0 : u.cell? ⟨wb, 0, none⟩ = some (.pointer (some ⟨s, 0, none⟩))) (ho2 : u.cell? ⟨ob, 2, none⟩ = some (.int .i64 v))
   (hval : ∀ w, Calls Tryz.prog 15 #[.int .i64 v] w fun e w' => e = .returned (.string V) /\ Below w.heap.size w w')
   (hset : ∀ u1, Below u.heap.size u u1 -> Calls Tryz.prog 14 #[.pointer (some ⟨s, 0, none⟩), .string key, .string V] u1 fun e w' => e = .returned (.int .i64 e0) /\ R w' /\ w'.cell? ⟨wb, 0, none⟩ = some (.pointer (some ⟨s, 0, none⟩)) /\ w'.cell? ⟨ob, 2, none⟩ = some (.int .i64 v)) :
   (cL dSet).wp Tryz.prog (onlyN fun a' u' => Da a' wb ob /\ tm a' 5 = .string key /\ tm a' 6 = .int .i64 e0 /\ R u') a u := by
 have hwl : wb < u.heap.size := Tw.cell_lt hw0
 have hol : ob < u.heap.size := Tw.cell_lt ho2
 have d0 : u.drew.cell? ⟨wb, 0, none⟩ = some (.pointer (some ⟨s, 0, none⟩)) := hw0
 have d2 : u.drew.cell? ⟨ob, 2, none⟩ = some (.int .i64 v) := ho2
 rw [hA.out, hA.w, hA.o, h5]
 simp only [dSet, dInner, doC, cL, cR, cB, cT, bodyOf, Tryz.f5, Option.getD_some]
 go_region_held3 (fun w' => w'.cell? ⟨wb, 0, none⟩ = some (.pointer (some ⟨s, 0, none⟩)) /\ w'.cell? ⟨ob, 2, none⟩ = some (.int .i64 v)) (first | go_keep | exact ⟨d0, d2⟩ | exact ⟨e0', e2'⟩ | exact ⟨f0, f2⟩)
   (first
   | (go_at_call 15; refine (hval _).mono ?_; rintro e w2 ⟨rfl, hB2⟩; have hB2' : Below u.heap.size u w2 := below_mono (below_drewN u.heap.size u 1) hB2; have e0' := (hB2'.cell (p := ⟨wb, 0, none⟩) hwl).trans hw0; have e2' := (hB2'.cell (p := ⟨ob, 2, none⟩) hol).trans ho2)
   | (go_at_call 14; refine (hset _ hB2').mono ?_; rintro e w3 ⟨rfl, hR, f0, f2⟩))
 all_goals (go_wp2_with fail)
 all_goals exact ⟨⟨rfl, rfl, rfl, rfl⟩, rfl, rfl, hR⟩
set_option maxRecDepth 20000 in
theorem dw_8 {a : Act} {u : World} {wb ob : Nat} {v e0 : Int} {key V : ByteArray} (hA : Da a wb ob) (h5 : tm a 5 = .string key) (h6 : tm a 6 = .int .i64 e0) (ho2 : u.cell? ⟨ob, 2, none⟩ = some (.int .i64 v))
   (hval : ∀ w, Calls Tryz.prog 15 #[.int .i64 v] w fun e w' => e = .returned (.string V) /\ Below w.heap.size w w') (hV : V.size <= 20) :
   (cL (cR dSet)).wp Tryz.prog (onlyN fun a' u' => Da a' wb ob /\ tm a' 5 = .string key /\ tm a' 6 = .int .i64 e0 /\ Below u.heap.size u u') a u := by
 have hf : decide ((20 : Int) < (V.size : Int)) = false := decide_eq_false (by omega)
 rw [hA.out, hA.w, hA.o, h5, h6]
 simp only [dSet, dInner, doC, cL, cR, cB, cT, bodyOf, Tryz.f5, Option.getD_some]
 go_wp2_with (go_at_call 15; refine (hval _).mono ?_; rintro e w2 ⟨rfl, hB2⟩)
 exact ⟨⟨rfl, rfl, rfl, rfl⟩, rfl, rfl, hB2⟩
set_option maxRecDepth 20000 in
theorem dw_8' {a : Act} {u : World} {wb ob : Nat} {v e0 : Int} {key V : ByteArray} (hA : Da a wb ob) (h6 : tm a 6 = .int .i64 e0) (ho2 : u.cell? ⟨ob, 2, none⟩ = some (.int .i64 v))
   (hval : ∀ w, Calls Tryz.prog 15 #[.int .i64 v] w fun e w' => e = .returned (.string V) /\ Below w.heap.size w w') (hV : 20 < V.size) :
   (cL (cL (cR dSet))).wp Tryz.prog (onlyN fun a' u' => Da a' wb ob /\ tm a' 6 = .int .i64 e0 /\ tm a' 41 = .bool true /\ Below u.heap.size u u') a u := by
 have hf : decide ((20 : Int) < (V.size : Int)) = true := decide_eq_true (by omega)
 rw [hA.out, hA.w, hA.o, h6]
 simp only [dSet, dInner, doC, cL, cR, cB, cT, bodyOf, Tryz.f5, Option.getD_some]
 go_wp2_with (go_at_call 15; refine (hval _).mono ?_; rintro e w2 ⟨rfl, hB2⟩)
 exact ⟨⟨rfl, rfl, rfl, rfl⟩, rfl, by simp [tm, hf], hB2⟩
set_option maxRecDepth 20000 in
theorem dw_9 {a : Act} {u : World} {wb ob : Nat} (hA : Da a wb ob) (h6 : tm a 6 = .int .i64 6) :
   (cL (cT (cR (cL (cR dSet))))).wp Tryz.prog (onlyN fun a' u' => Da a' wb ob /\ tm a' 4 = .bool true /\ u' = u) a u := by
 rw [hA.out, hA.w, hA.o, h6]
 simp only [dSet, dInner, doC, cL, cR, cB, cT, bodyOf, Tryz.f5, Option.getD_some]
 go_wp2_with fail
 exact ⟨⟨rfl, rfl, rfl, rfl⟩, rfl, rfl⟩
set_option maxRecDepth 20000 in
theorem dw_11 {a : Act} {u : World} {wb ob : Nat} (hA : Da a wb ob) (h6 : tm a 6 = .int .i64 0) :
   (cL (cR (cR (cR dSet)))).wp Tryz.prog (onlyN fun a' u' => Da a' wb ob /\ tm a' 4 = .bool true /\ u' = u) a u := by
 rw [hA.out, hA.w, hA.o, h6]
 simp only [dSet, dInner, doC, cL, cR, cB, cT, bodyOf, Tryz.f5, Option.getD_some]
 go_wp2_with fail
 exact ⟨⟨rfl, rfl, rfl, rfl⟩, rfl, rfl⟩
def NowAs (base : Nat) (u u' : World) (wb s wd : Nat) (vall vroots vgone : Value) (ps : List (ByteArray × ByteArray)) : Prop :=
 ∃ v', LwAt u' wb s wd v' vall vroots vgone /\ OwnP base u' v' ps /\ Tn base (· = lwT) (fun _ => False) u u'
theorem nowAs {base : Nat} {u u1 : World} {wb s wd : Nat} {vnow v' vall vroots vgone : Value} {ps : List (ByteArray × ByteArray)} (hL : LwAt u wb s wd vnow vall vroots vgone) (hb : base <= wb) (hz : base <= u.heap.size) (hB : Below u.heap.size u u1) (hO : OwnP u.heap.size u1 v' ps) :
   NowAs base u (u1.setCell ⟨wb, 2, none⟩ v') wb s wd vall vroots vgone ps := by
 have hL1 : LwAt u1 wb s wd vnow vall vroots vgone := (hB.block wb hL.lt).trans hL
 have hT := hL1.tn hb 2 v'
 exact ⟨v', hL1.set2 v', hT.row (by decide) (ownsRow_base hO hz), (Tn.below hB hz).trans hT⟩
theorem row_form {w : World} {b : Nat} {e : TypeId} {sz : Nat} {v : Value} {n : Nat} {xs : List Value} (h : w.ownsRow b e sz v n xs) : ∃ p c, v = .slice p n c := by
 obtain ⟨_, ⟨rfl, rfl⟩ | ⟨g, cap, cur, rfl, _⟩⟩ := h
 · exact ⟨_, _, rfl⟩
 · exact ⟨_, _, rfl⟩
set_option maxRecDepth 20000 in
set_option maxHeartbeats 2000000 in
theorem dw_10 {a : Act} {u : World} {base wb ob s wd : Nat} {v e0 : Int} {key V : ByteArray} {vnow vall vroots vgone : Value} {ps : List (ByteArray × ByteArray)} (hA : Da a wb ob) (h5 : tm a 5 = .string key) (h6 : tm a 6 = .int .i64 e0) (hL : LwAt u wb s wd vnow vall vroots vgone) (hb : base <= wb) (hz : base <= u.heap.size) (ho2 : u.cell? ⟨ob, 2, none⟩ = some (.int .i64 v))
   (hval : ∀ w, Calls Tryz.prog 15 #[.int .i64 v] w fun e w' => e = .returned (.string V) /\ Below w.heap.size w w')
   (hput : ∀ u1, Below u.heap.size u u1 -> Calls Tryz.prog 16 #[vnow, .agg #[.string key, .string V]] u1 fun e w' => ∃ v', e = .returned v' /\ OwnP u1.heap.size w' v' ps /\ Below u1.heap.size u1 w') :
   (cL (cR (cR dSet))).wp Tryz.prog (onlyN fun a' u' => Da a' wb ob /\ tm a' 6 = .int .i64 e0 /\ NowAs base u u' wb s wd vall vroots vgone ps) a u := by
 obtain ⟨c0, c1, c2, c3, c4, c5⟩ := hL.cells
 have hwl := hL.lt
 have hol : ob < u.heap.size := Tw.cell_lt ho2
 have hfz := hL.frozen 2
 rw [hA.out, hA.w, hA.o, h5, h6]
 simp only [dSet, dInner, doC, cL, cR, cB, cT, bodyOf, Tryz.f5, Option.getD_some]
 go_region_law (first
   | (go_simp; go_at_call 15; refine (hval _).mono ?_; rintro e w2 ⟨rfl, hB2⟩; have hB2' : Below u.heap.size u w2 := below_mono (below_drewN u.heap.size u 1) hB2; have e2 := (hB2'.cell (p := ⟨wb, 2, none⟩) hwl).trans c2)
   | (go_simp; go_at_call 16; refine (hput _ hB2').mono ?_; rintro e w3 ⟨v', rfl, hO3, hB3⟩; have hB3' : Below u.heap.size u w3 := below_mono hB2' hB3; have g2 := (hB3'.cell (p := ⟨wb, 2, none⟩) hwl).trans c2; have hfz3 : w3.frozen? ⟨wb, 2, none⟩ = false := ((show LwAt w3 wb s wd vnow vall vroots vgone from (hB3'.block wb hwl).trans hL)).frozen 2; have hO3' : OwnP u.heap.size w3 v' ps := ownsRow_base hO3 hB2'.size; obtain ⟨p3, c3', rfl⟩ := row_form hO3'))
 all_goals (go_wp2_with fail)
 all_goals exact ⟨⟨rfl, rfl, rfl, rfl⟩, rfl, nowAs hL hb hz hB3' hO3'⟩
end Go.Proofs.YtddcbeeldjjmeaaGreat
